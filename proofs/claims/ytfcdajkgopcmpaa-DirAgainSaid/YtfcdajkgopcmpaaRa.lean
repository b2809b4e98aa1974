/- Ranges by value and in a block of their own; place.isID, May, In and raceref4's. Conditions: bits below 2^64. -/
import Derived.Test.YtfcdajkgopcmpaaMd
import Derived.Below
namespace Go.Proofs.Ytfcdajkgopcmpaa
open Go.RowKit
structure RV where
  i : Int
  e : Int
  lo : Nat
  hi : Nat
def RV.wf (r : RV) : Prop := (-9223372036854775808 ≤ r.i ∧ r.i < 9223372036854775808) ∧ (-9223372036854775808 ≤ r.e ∧ r.e < 9223372036854775808) ∧ r.lo < 18446744073709551616 ∧ r.hi < 18446744073709551616
abbrev ragg (r : RV) : Value := .agg #[.int .i64 r.i, .int .i64 r.e, .float .f64 r.lo, .float .f64 r.hi]
abbrev robj (r : RV) : Obj := .cells #[.int .i64 r.i, .int .i64 r.e, .float .f64 r.lo, .float .f64 r.hi] 37
def RV.zero : RV := ⟨0, 0, 0, 0⟩
/-- A range in a block of its own. -/
structure At (w : World) (b : Nat) (r : RV) : Prop where
  lt : b < w.heap.size
  c0 : w.cell? ⟨b, 0, none⟩ = some (.int .i64 r.i)
  c1 : w.cell? ⟨b, 1, none⟩ = some (.int .i64 r.e)
  c2 : w.cell? ⟨b, 2, none⟩ = some (.float .f64 r.lo)
  c3 : w.cell? ⟨b, 3, none⟩ = some (.float .f64 r.hi)
  f0 : w.frozen? ⟨b, 0, none⟩ = false
  f1 : w.frozen? ⟨b, 1, none⟩ = false
  f2 : w.frozen? ⟨b, 2, none⟩ = false
  f3 : w.frozen? ⟨b, 3, none⟩ = false
theorem At.below {B : Nat} {w w' : World} {b : Nat} {r : RV} (h : At w b r) (hb : Below B w w') (hl : b < B) : At w' b r :=
  ⟨Nat.lt_of_lt_of_le h.lt hb.size, (hb.cell hl).trans h.c0, (hb.cell hl).trans h.c1, (hb.cell hl).trans h.c2, (hb.cell hl).trans h.c3, (hb.frozen hl).trans h.f0, (hb.frozen hl).trans h.f1, (hb.frozen hl).trans h.f2, (hb.frozen hl).trans h.f3⟩
theorem at_new (w : World) (r : RV) : At (w.alloc (robj r)) w.heap.size r :=
  ⟨by simp, by simp [World.cell?_alloc_new], by simp [World.cell?_alloc_new], by simp [World.cell?_alloc_new], by simp [World.cell?_alloc_new], World.frozen?_alloc_new _ _ _ _, World.frozen?_alloc_new _ _ _ _, World.frozen?_alloc_new _ _ _ _, World.frozen?_alloc_new _ _ _ _⟩
theorem below1 (w : World) (o : Obj) : Below w.heap.size w (w.alloc o) := (Below.refl _ _).alloc (Nat.le_refl _) o
theorem below2 (w : World) (o o' : Obj) : Below w.heap.size w ((w.alloc o).alloc o') := (below1 w o).alloc (below1 w o).size o'
theorem below3 (w : World) (o o' o'' : Obj) : Below w.heap.size w (((w.alloc o).alloc o').alloc o'') := (below2 w o o').alloc (below2 w o o').size o''
theorem At.alloc {w : World} {b : Nat} {r : RV} (h : At w b r) (o : Obj) : At (w.alloc o) b r := h.below (below1 w o) h.lt
def idB (i : Int) : Bool := decide (1 ≤ i) && decide (i ≤ 12)
theorem isID_any (i : Int) (w : World) : Calls Try.prog 52 #[.int .i64 i] w fun e w' => e = .returned (.bool (idB i)) ∧ w = w' := by
  unfold idB
  by_cases h1 : (1 : Int) ≤ i
  · by_cases h2 : i ≤ (12 : Int)
    · rw [decide_eq_true h1, decide_eq_true h2]
      go_enter Try.func52, Try.ntmps52
      go_wp2
      go_ret
      exact ⟨rfl, rfl⟩
    · rw [decide_eq_true h1, decide_eq_false h2]
      go_enter Try.func52, Try.ntmps52
      go_wp2
      go_ret
      exact ⟨rfl, rfl⟩
  · rw [decide_eq_false h1]
    go_enter Try.func52, Try.ntmps52
    go_wp2
    go_ret
    exact ⟨rfl, rfl⟩
def mayV (r : RV) : Bool := idB r.i && (decide (0 ≤ r.e) && (ptB r.lo && (ptB r.hi && decide (r.lo < r.hi))))
theorem may_any (r : RV) (h1 : r.lo < 18446744073709551616) (h2 : r.hi < 18446744073709551616) (w : World) : Calls Try.prog 39 #[ragg r] w fun e w' => e = .returned (.bool (mayV r)) ∧ Below w.heap.size w w' := by
  obtain ⟨i, e, lo, hi⟩ := r
  simp only at h1 h2
  have HI := fun w => Lib.hid (isID_any i w)
  have HA := fun w => Lib.hid (isPoint_any lo h1 w)
  have HB := fun w => Lib.hid (isPoint_any hi h2 w)
  have hl := fun (a : ptB lo = true) (b : ptB hi = true) => lt_test (pt_fin a) (pt_fin b)
  have hm : mayV ⟨i, e, lo, hi⟩ = (idB i && (decide (0 ≤ e) && (ptB lo && (ptB hi && decide (lo < hi))))) := rfl
  rw [hm]
  clear hm h1 h2
  generalize hI : idB i = bi at *
  generalize hA : ptB lo = ba at *
  generalize hB : ptB hi = bb at *
  clear hI hA hB
  cases bi
  · clear hl
    go_enter Try.func39, Try.ntmps39
    go_wp2_with (first
      | (go_at_call 52; ((with_reducible refine (HI _).out.mono ?_); rintro e w' ⟨rfl, rfl⟩)))
    go_ret
    exact ⟨rfl, below1 _ _⟩
  by_cases he : (0 : Int) ≤ e
  case neg =>
    rw [decide_eq_false he]
    clear hl
    go_enter Try.func39, Try.ntmps39
    go_wp2_with (first
      | (go_at_call 52; ((with_reducible refine (HI _).out.mono ?_); rintro e w' ⟨rfl, rfl⟩)))
    go_ret
    exact ⟨rfl, below1 _ _⟩
  rw [decide_eq_true he]
  cases ba
  · clear hl
    go_enter Try.func39, Try.ntmps39
    go_wp2_with (first
      | (go_at_call 52; ((with_reducible refine (HI _).out.mono ?_); rintro e w' ⟨rfl, rfl⟩))
      | (go_at_call 53; first | ((with_reducible refine (HA _).out.mono ?_); rintro e w' ⟨rfl, rfl⟩) | ((with_reducible refine (HB _).out.mono ?_); rintro e w' ⟨rfl, rfl⟩)))
    go_ret
    exact ⟨rfl, below1 _ _⟩
  cases bb
  · clear hl
    go_enter Try.func39, Try.ntmps39
    go_wp2_with (first
      | (go_at_call 52; ((with_reducible refine (HI _).out.mono ?_); rintro e w' ⟨rfl, rfl⟩))
      | (go_at_call 53; first | ((with_reducible refine (HA _).out.mono ?_); rintro e w' ⟨rfl, rfl⟩) | ((with_reducible refine (HB _).out.mono ?_); rintro e w' ⟨rfl, rfl⟩)))
    go_ret
    exact ⟨rfl, below1 _ _⟩
  have hl2 := hl rfl rfl
  clear hl
  generalize hd : decide (lo < hi) = d at *
  clear hd
  cases d
  all_goals
    go_enter Try.func39, Try.ntmps39
    go_wp2_with (first
      | (go_at_call 52; ((with_reducible refine (HI _).out.mono ?_); rintro e w' ⟨rfl, rfl⟩))
      | (go_at_call 53; first | ((with_reducible refine (HA _).out.mono ?_); rintro e w' ⟨rfl, rfl⟩) | ((with_reducible refine (HB _).out.mono ?_); rintro e w' ⟨rfl, rfl⟩)))
    go_ret
    exact ⟨rfl, below1 _ _⟩
theorem rmay_any (r : RV) (h1 : r.lo < 18446744073709551616) (h2 : r.hi < 18446744073709551616) (w : World) : Calls Try.prog 41 #[ragg r] w fun e w' => e = .returned (.bool (mayV r)) ∧ Below w.heap.size w w' := by
  obtain ⟨i, e, lo, hi⟩ := r
  simp only at h1 h2
  have HA := fun w => Lib.hid (is_any lo h1 w)
  have HB := fun w => Lib.hid (is_any hi h2 w)
  have hl := fun (a : ptB lo = true) (b : ptB hi = true) => lt_test (pt_fin a) (pt_fin b)
  have hm : mayV ⟨i, e, lo, hi⟩ = ((decide (1 ≤ i) && decide (i ≤ 12)) && (decide (0 ≤ e) && (ptB lo && (ptB hi && decide (lo < hi))))) := rfl
  rw [hm]
  clear hm h1 h2
  generalize hA : ptB lo = ba at *
  generalize hB : ptB hi = bb at *
  clear hA hB
  by_cases hi1 : (1 : Int) ≤ i
  case neg =>
    rw [decide_eq_false hi1]
    clear hl
    go_enter Try.func41, Try.ntmps41
    go_wp2
    go_ret
    exact ⟨rfl, below1 _ _⟩
  rw [decide_eq_true hi1]
  by_cases hi2 : i ≤ (12 : Int)
  case neg =>
    rw [decide_eq_false hi2]
    clear hl
    go_enter Try.func41, Try.ntmps41
    go_wp2
    go_ret
    exact ⟨rfl, below1 _ _⟩
  rw [decide_eq_true hi2]
  by_cases he : (0 : Int) ≤ e
  case neg =>
    rw [decide_eq_false he]
    clear hl
    go_enter Try.func41, Try.ntmps41
    go_wp2_with (fail)
    go_ret
    exact ⟨rfl, below1 _ _⟩
  rw [decide_eq_true he]
  cases ba
  · clear hl
    go_enter Try.func41, Try.ntmps41
    go_wp2_with (first
      | (go_at_call 42; first | ((with_reducible refine (HA _).out.mono ?_); rintro e w' ⟨rfl, rfl⟩) | ((with_reducible refine (HB _).out.mono ?_); rintro e w' ⟨rfl, rfl⟩)))
    go_ret
    exact ⟨rfl, below1 _ _⟩
  cases bb
  · clear hl
    go_enter Try.func41, Try.ntmps41
    go_wp2_with (first
      | (go_at_call 42; first | ((with_reducible refine (HA _).out.mono ?_); rintro e w' ⟨rfl, rfl⟩) | ((with_reducible refine (HB _).out.mono ?_); rintro e w' ⟨rfl, rfl⟩)))
    go_ret
    exact ⟨rfl, below1 _ _⟩
  have hl2 := hl rfl rfl
  clear hl
  generalize hd : decide (lo < hi) = d at *
  clear hd
  cases d
  all_goals
    go_enter Try.func41, Try.ntmps41
    go_wp2_with (first
      | (go_at_call 42; first | ((with_reducible refine (HA _).out.mono ?_); rintro e w' ⟨rfl, rfl⟩) | ((with_reducible refine (HB _).out.mono ?_); rintro e w' ⟨rfl, rfl⟩)))
    go_ret
    exact ⟨rfl, below1 _ _⟩
def inV (r : RV) (x : Nat) : Bool := (FloatKind.f64.format.order x r.lo == some .gt || FloatKind.f64.format.order x r.lo == some .eq) && (FloatKind.f64.format.order x r.hi == some .lt)
theorem in_any (r : RV) (x : Nat) (w : World) : Calls Try.prog 46 #[ragg r, .float .f64 x] w fun e w' => e = .returned (.bool (inV r x)) ∧ Below w.heap.size w w' := by
  obtain ⟨i, e, lo, hi⟩ := r
  have hm : inV ⟨i, e, lo, hi⟩ x = ((FloatKind.f64.format.order x lo == some .gt || FloatKind.f64.format.order x lo == some .eq) && (FloatKind.f64.format.order x hi == some .lt)) := rfl
  have HN : Hid ((FloatKind.f64.format.order x lo == some .gt || FloatKind.f64.format.order x lo == some .eq) = false → inV ⟨i, e, lo, hi⟩ x = false) := fun h => by rw [hm, h]; rfl
  have HY := Lib.hid hm
  clear hm
  go_enter Try.func46, Try.ntmps46
  go_wp2
  · go_ret
    rw [HY.out]
    exact ⟨rfl, below1 _ _⟩
  · rename_i h
    have h2 : (FloatKind.f64.format.order x lo == some .gt || FloatKind.f64.format.order x lo == some .eq) = false := by simpa using h
    go_ret
    rw [HN.out h2]
    exact ⟨rfl, below1 _ _⟩
theorem rin_any (r : RV) (x : Nat) (w : World) : Calls Try.prog 23 #[ragg r, .float .f64 x] w fun e w' => e = .returned (.bool (inV r x)) ∧ Below w.heap.size w w' := by
  obtain ⟨i, e, lo, hi⟩ := r
  have hm : inV ⟨i, e, lo, hi⟩ x = ((FloatKind.f64.format.order x lo == some .gt || FloatKind.f64.format.order x lo == some .eq) && (FloatKind.f64.format.order x hi == some .lt)) := rfl
  have HN : Hid ((FloatKind.f64.format.order x lo == some .gt || FloatKind.f64.format.order x lo == some .eq) = false → inV ⟨i, e, lo, hi⟩ x = false) := fun h => by rw [hm, h]; rfl
  have HY := Lib.hid hm
  clear hm
  go_enter Try.func23, Try.ntmps23
  go_wp2
  · go_ret
    rw [HY.out]
    exact ⟨rfl, below1 _ _⟩
  · rename_i h
    have h2 : (FloatKind.f64.format.order x lo == some .gt || FloatKind.f64.format.order x lo == some .eq) = false := by simpa using h
    go_ret
    rw [HN.out h2]
    exact ⟨rfl, below1 _ _⟩
def sameV (a b : RV) : Bool := a.i == b.i && (a.e == b.e && (a.lo == b.lo && a.hi == b.hi))
theorem sameV_self (a : RV) : sameV a a = true := by unfold sameV; simp
theorem range_same (a : RV) (w : World) : Calls Try.prog 14 #[ragg a, ragg a] w fun e w' => e = .returned (.bool true) ∧ Below w.heap.size w w' := by
  obtain ⟨i, e, lo, hi⟩ := a
  have HB1 := fun w => Lib.hid (bitsame_any lo lo w)
  have HB2 := fun w => Lib.hid (bitsame_any hi hi w)
  rw [beq_self_eq_true] at HB1 HB2
  have h1 : (i == i) = true := beq_self_eq_true _
  have h2 : (e == e) = true := beq_self_eq_true _
  go_enter Try.func14, Try.ntmps14
  go_wp2_with (go_at_call 35; first | ((with_reducible refine (HB1 _).out.mono ?_); rintro e w' ⟨rfl, rfl⟩) | ((with_reducible refine (HB2 _).out.mono ?_); rintro e w' ⟨rfl, rfl⟩))
  go_ret
  exact ⟨rfl, below2 _ _ _⟩
end Go.Proofs.Ytfcdajkgopcmpaa
