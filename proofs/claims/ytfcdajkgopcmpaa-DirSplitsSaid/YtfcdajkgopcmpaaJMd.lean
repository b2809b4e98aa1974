/- The point between two, by place and by the document. Conditions: bits below 2^64. Ranges by value and in a block of their own; place.isID, May, In and raceref4's. Conditions: bits below 2^64. place.Split and raceref4.Split. Conditions: bits below 2^64. Chains of ranges: the document's, which looks for the next one among all, and that of a row in ascending order. In which ranges a float lies: by a key in the floats' order. Conditions: bits below 2^64. raceref4.Split. Conditions: none. -/
import Derived.Test.YtfcdajkgopcmpaaJPt
import Derived.Test.YtfcdajkgopcmpaaJE
import Derived.Test.YtfcdajkgopcmpaaJD
import Derived.Below
import Derived.Laws.ResultCell
namespace Go.Proofs.Ytfcdajkgopcmpaa
open Go.RowKit
theorem canon_fin {r : Nat} (h : r < infR) : canon r = r := by
  apply canon_num
  unfold nanB
  rw [decide_eq_false_iff_not]
  unfold infR at *
  omega
theorem lt_test {r q : Nat} (hr : r < infR) (hq : q < infR) : (FloatKind.f64.format.order r q == some .lt) = decide (r < q) := by
  by_cases h : r < q
  · rw [decide_eq_true h]; exact order_lt_t hr hq h
  · rw [decide_eq_false h]; exact order_lt_f hr hq h
def betB (a m b : Nat) : Bool := decide (a < m) && decide (m < b)
/-- What Mid answers: the point between and the error. -/
def midV (a b : Nat) : Nat × Int := if ptB a = true ∧ ptB b = true ∧ a < b then (if betB a (midN a b) b = true then (midN a b, 0) else (0, 24)) else (0, 1)
theorem pt_fin {b : Nat} (h : ptB b = true) : b < infR := by
  have := of_decide_eq_true h
  have := one_fin
  omega
end Go.Proofs.Ytfcdajkgopcmpaa
namespace Go.Proofs.Ytfcdajkgopcmpaa
open Go.RowKit
structure RV where
  i : Int
  e : Int
  lo : Nat
  hi : Nat
def RV.wf (r : RV) : Prop := (-9223372036854775808 ≤ r.i ∧ r.i < 9223372036854775808) ∧ (-9223372036854775808 ≤ r.e ∧ r.e < 9223372036854775808) ∧ r.lo < 18446744073709551616 ∧ r.hi < 18446744073709551616
abbrev ragg (r : RV) : Value := .agg #[.int .i64 r.i, .int .i64 r.e, .float .f64 r.lo, .float .f64 r.hi]
abbrev robj (r : RV) : Obj := .cells #[.int .i64 r.i, .int .i64 r.e, .float .f64 r.lo, .float .f64 r.hi] 37
def RV.zero : RV := ⟨0, 0, 0, 0⟩
/-- A range in a block of its own. -/
structure At (w : World) (b : Nat) (r : RV) : Prop where
  lt : b < w.heap.size
  c0 : w.cell? ⟨b, 0, none⟩ = some (.int .i64 r.i)
  c1 : w.cell? ⟨b, 1, none⟩ = some (.int .i64 r.e)
  c2 : w.cell? ⟨b, 2, none⟩ = some (.float .f64 r.lo)
  c3 : w.cell? ⟨b, 3, none⟩ = some (.float .f64 r.hi)
  f0 : w.frozen? ⟨b, 0, none⟩ = false
  f1 : w.frozen? ⟨b, 1, none⟩ = false
  f2 : w.frozen? ⟨b, 2, none⟩ = false
  f3 : w.frozen? ⟨b, 3, none⟩ = false
theorem At.below {B : Nat} {w w' : World} {b : Nat} {r : RV} (h : At w b r) (hb : Below B w w') (hl : b < B) : At w' b r :=
  ⟨Nat.lt_of_lt_of_le h.lt hb.size, (hb.cell hl).trans h.c0, (hb.cell hl).trans h.c1, (hb.cell hl).trans h.c2, (hb.cell hl).trans h.c3, (hb.frozen hl).trans h.f0, (hb.frozen hl).trans h.f1, (hb.frozen hl).trans h.f2, (hb.frozen hl).trans h.f3⟩
theorem at_new (w : World) (r : RV) : At (w.alloc (robj r)) w.heap.size r :=
  ⟨by simp, by simp [World.cell?_alloc_new], by simp [World.cell?_alloc_new], by simp [World.cell?_alloc_new], by simp [World.cell?_alloc_new], World.frozen?_alloc_new _ _ _ _, World.frozen?_alloc_new _ _ _ _, World.frozen?_alloc_new _ _ _ _, World.frozen?_alloc_new _ _ _ _⟩
theorem below1 (w : World) (o : Obj) : Below w.heap.size w (w.alloc o) := (Below.refl _ _).alloc (Nat.le_refl _) o
theorem below2 (w : World) (o o' : Obj) : Below w.heap.size w ((w.alloc o).alloc o') := (below1 w o).alloc (below1 w o).size o'
theorem below3 (w : World) (o o' o'' : Obj) : Below w.heap.size w (((w.alloc o).alloc o').alloc o'') := (below2 w o o').alloc (below2 w o o').size o''
theorem At.alloc {w : World} {b : Nat} {r : RV} (h : At w b r) (o : Obj) : At (w.alloc o) b r := h.below (below1 w o) h.lt
def idB (i : Int) : Bool := decide (1 ≤ i) && decide (i ≤ 12)
theorem isID_any (i : Int) (w : World) : Calls Try.prog 52 #[.int .i64 i] w fun e w' => e = .returned (.bool (idB i)) ∧ w = w' := by
  unfold idB
  by_cases h1 : (1 : Int) ≤ i
  · by_cases h2 : i ≤ (12 : Int)
    · rw [decide_eq_true h1, decide_eq_true h2]
      go_enter Try.func52, Try.ntmps52
      go_wp2
      go_ret
      exact ⟨rfl, rfl⟩
    · rw [decide_eq_true h1, decide_eq_false h2]
      go_enter Try.func52, Try.ntmps52
      go_wp2
      go_ret
      exact ⟨rfl, rfl⟩
  · rw [decide_eq_false h1]
    go_enter Try.func52, Try.ntmps52
    go_wp2
    go_ret
    exact ⟨rfl, rfl⟩
def mayV (r : RV) : Bool := idB r.i && (decide (0 ≤ r.e) && (ptB r.lo && (ptB r.hi && decide (r.lo < r.hi))))
theorem may_any (r : RV) (h1 : r.lo < 18446744073709551616) (h2 : r.hi < 18446744073709551616) (w : World) : Calls Try.prog 39 #[ragg r] w fun e w' => e = .returned (.bool (mayV r)) ∧ Below w.heap.size w w' := by
  obtain ⟨i, e, lo, hi⟩ := r
  simp only at h1 h2
  have HI := fun w => Lib.hid (isID_any i w)
  have HA := fun w => Lib.hid (isPoint_any lo h1 w)
  have HB := fun w => Lib.hid (isPoint_any hi h2 w)
  have hl := fun (a : ptB lo = true) (b : ptB hi = true) => lt_test (pt_fin a) (pt_fin b)
  have hm : mayV ⟨i, e, lo, hi⟩ = (idB i && (decide (0 ≤ e) && (ptB lo && (ptB hi && decide (lo < hi))))) := rfl
  rw [hm]
  clear hm h1 h2
  generalize hI : idB i = bi at *
  generalize hA : ptB lo = ba at *
  generalize hB : ptB hi = bb at *
  clear hI hA hB
  cases bi
  · clear hl
    go_enter Try.func39, Try.ntmps39
    go_wp2_with (first
      | (go_at_call 52; ((with_reducible refine (HI _).out.mono ?_); rintro e w' ⟨rfl, rfl⟩)))
    go_ret
    exact ⟨rfl, below1 _ _⟩
  by_cases he : (0 : Int) ≤ e
  case neg =>
    rw [decide_eq_false he]
    clear hl
    go_enter Try.func39, Try.ntmps39
    go_wp2_with (first
      | (go_at_call 52; ((with_reducible refine (HI _).out.mono ?_); rintro e w' ⟨rfl, rfl⟩)))
    go_ret
    exact ⟨rfl, below1 _ _⟩
  rw [decide_eq_true he]
  cases ba
  · clear hl
    go_enter Try.func39, Try.ntmps39
    go_wp2_with (first
      | (go_at_call 52; ((with_reducible refine (HI _).out.mono ?_); rintro e w' ⟨rfl, rfl⟩))
      | (go_at_call 53; first | ((with_reducible refine (HA _).out.mono ?_); rintro e w' ⟨rfl, rfl⟩) | ((with_reducible refine (HB _).out.mono ?_); rintro e w' ⟨rfl, rfl⟩)))
    go_ret
    exact ⟨rfl, below1 _ _⟩
  cases bb
  · clear hl
    go_enter Try.func39, Try.ntmps39
    go_wp2_with (first
      | (go_at_call 52; ((with_reducible refine (HI _).out.mono ?_); rintro e w' ⟨rfl, rfl⟩))
      | (go_at_call 53; first | ((with_reducible refine (HA _).out.mono ?_); rintro e w' ⟨rfl, rfl⟩) | ((with_reducible refine (HB _).out.mono ?_); rintro e w' ⟨rfl, rfl⟩)))
    go_ret
    exact ⟨rfl, below1 _ _⟩
  have hl2 := hl rfl rfl
  clear hl
  generalize hd : decide (lo < hi) = d at *
  clear hd
  cases d
  all_goals
    go_enter Try.func39, Try.ntmps39
    go_wp2_with (first
      | (go_at_call 52; ((with_reducible refine (HI _).out.mono ?_); rintro e w' ⟨rfl, rfl⟩))
      | (go_at_call 53; first | ((with_reducible refine (HA _).out.mono ?_); rintro e w' ⟨rfl, rfl⟩) | ((with_reducible refine (HB _).out.mono ?_); rintro e w' ⟨rfl, rfl⟩)))
    go_ret
    exact ⟨rfl, below1 _ _⟩
theorem rmay_any (r : RV) (h1 : r.lo < 18446744073709551616) (h2 : r.hi < 18446744073709551616) (w : World) : Calls Try.prog 41 #[ragg r] w fun e w' => e = .returned (.bool (mayV r)) ∧ Below w.heap.size w w' := by
  obtain ⟨i, e, lo, hi⟩ := r
  simp only at h1 h2
  have HA := fun w => Lib.hid (is_any lo h1 w)
  have HB := fun w => Lib.hid (is_any hi h2 w)
  have hl := fun (a : ptB lo = true) (b : ptB hi = true) => lt_test (pt_fin a) (pt_fin b)
  have hm : mayV ⟨i, e, lo, hi⟩ = ((decide (1 ≤ i) && decide (i ≤ 12)) && (decide (0 ≤ e) && (ptB lo && (ptB hi && decide (lo < hi))))) := rfl
  rw [hm]
  clear hm h1 h2
  generalize hA : ptB lo = ba at *
  generalize hB : ptB hi = bb at *
  clear hA hB
  by_cases hi1 : (1 : Int) ≤ i
  case neg =>
    rw [decide_eq_false hi1]
    clear hl
    go_enter Try.func41, Try.ntmps41
    go_wp2
    go_ret
    exact ⟨rfl, below1 _ _⟩
  rw [decide_eq_true hi1]
  by_cases hi2 : i ≤ (12 : Int)
  case neg =>
    rw [decide_eq_false hi2]
    clear hl
    go_enter Try.func41, Try.ntmps41
    go_wp2
    go_ret
    exact ⟨rfl, below1 _ _⟩
  rw [decide_eq_true hi2]
  by_cases he : (0 : Int) ≤ e
  case neg =>
    rw [decide_eq_false he]
    clear hl
    go_enter Try.func41, Try.ntmps41
    go_wp2_with (fail)
    go_ret
    exact ⟨rfl, below1 _ _⟩
  rw [decide_eq_true he]
  cases ba
  · clear hl
    go_enter Try.func41, Try.ntmps41
    go_wp2_with (first
      | (go_at_call 42; first | ((with_reducible refine (HA _).out.mono ?_); rintro e w' ⟨rfl, rfl⟩) | ((with_reducible refine (HB _).out.mono ?_); rintro e w' ⟨rfl, rfl⟩)))
    go_ret
    exact ⟨rfl, below1 _ _⟩
  cases bb
  · clear hl
    go_enter Try.func41, Try.ntmps41
    go_wp2_with (first
      | (go_at_call 42; first | ((with_reducible refine (HA _).out.mono ?_); rintro e w' ⟨rfl, rfl⟩) | ((with_reducible refine (HB _).out.mono ?_); rintro e w' ⟨rfl, rfl⟩)))
    go_ret
    exact ⟨rfl, below1 _ _⟩
  have hl2 := hl rfl rfl
  clear hl
  generalize hd : decide (lo < hi) = d at *
  clear hd
  cases d
  all_goals
    go_enter Try.func41, Try.ntmps41
    go_wp2_with (first
      | (go_at_call 42; first | ((with_reducible refine (HA _).out.mono ?_); rintro e w' ⟨rfl, rfl⟩) | ((with_reducible refine (HB _).out.mono ?_); rintro e w' ⟨rfl, rfl⟩)))
    go_ret
    exact ⟨rfl, below1 _ _⟩
def inV (r : RV) (x : Nat) : Bool := (FloatKind.f64.format.order x r.lo == some .gt || FloatKind.f64.format.order x r.lo == some .eq) && (FloatKind.f64.format.order x r.hi == some .lt)
theorem in_any (r : RV) (x : Nat) (w : World) : Calls Try.prog 46 #[ragg r, .float .f64 x] w fun e w' => e = .returned (.bool (inV r x)) ∧ Below w.heap.size w w' := by
  obtain ⟨i, e, lo, hi⟩ := r
  have hm : inV ⟨i, e, lo, hi⟩ x = ((FloatKind.f64.format.order x lo == some .gt || FloatKind.f64.format.order x lo == some .eq) && (FloatKind.f64.format.order x hi == some .lt)) := rfl
  have HN : Hid ((FloatKind.f64.format.order x lo == some .gt || FloatKind.f64.format.order x lo == some .eq) = false → inV ⟨i, e, lo, hi⟩ x = false) := fun h => by rw [hm, h]; rfl
  have HY := Lib.hid hm
  clear hm
  go_enter Try.func46, Try.ntmps46
  go_wp2
  · go_ret
    rw [HY.out]
    exact ⟨rfl, below1 _ _⟩
  · rename_i h
    have h2 : (FloatKind.f64.format.order x lo == some .gt || FloatKind.f64.format.order x lo == some .eq) = false := by simpa using h
    go_ret
    rw [HN.out h2]
    exact ⟨rfl, below1 _ _⟩
theorem rin_any (r : RV) (x : Nat) (w : World) : Calls Try.prog 23 #[ragg r, .float .f64 x] w fun e w' => e = .returned (.bool (inV r x)) ∧ Below w.heap.size w w' := by
  obtain ⟨i, e, lo, hi⟩ := r
  have hm : inV ⟨i, e, lo, hi⟩ x = ((FloatKind.f64.format.order x lo == some .gt || FloatKind.f64.format.order x lo == some .eq) && (FloatKind.f64.format.order x hi == some .lt)) := rfl
  have HN : Hid ((FloatKind.f64.format.order x lo == some .gt || FloatKind.f64.format.order x lo == some .eq) = false → inV ⟨i, e, lo, hi⟩ x = false) := fun h => by rw [hm, h]; rfl
  have HY := Lib.hid hm
  clear hm
  go_enter Try.func23, Try.ntmps23
  go_wp2
  · go_ret
    rw [HY.out]
    exact ⟨rfl, below1 _ _⟩
  · rename_i h
    have h2 : (FloatKind.f64.format.order x lo == some .gt || FloatKind.f64.format.order x lo == some .eq) = false := by simpa using h
    go_ret
    rw [HN.out h2]
    exact ⟨rfl, below1 _ _⟩
def sameV (a b : RV) : Bool := a.i == b.i && (a.e == b.e && (a.lo == b.lo && a.hi == b.hi))
theorem sameV_self (a : RV) : sameV a a = true := by unfold sameV; simp
theorem range_same (a : RV) (w : World) : Calls Try.prog 14 #[ragg a, ragg a] w fun e w' => e = .returned (.bool true) ∧ Below w.heap.size w w' := by
  obtain ⟨i, e, lo, hi⟩ := a
  have HB1 := fun w => Lib.hid (bitsame_any lo lo w)
  have HB2 := fun w => Lib.hid (bitsame_any hi hi w)
  rw [beq_self_eq_true] at HB1 HB2
  have h1 : (i == i) = true := beq_self_eq_true _
  have h2 : (e == e) = true := beq_self_eq_true _
  go_enter Try.func14, Try.ntmps14
  go_wp2_with (go_at_call 35; first | ((with_reducible refine (HB1 _).out.mono ?_); rintro e w' ⟨rfl, rfl⟩) | ((with_reducible refine (HB2 _).out.mono ?_); rintro e w' ⟨rfl, rfl⟩))
  go_ret
  exact ⟨rfl, below2 _ _ _⟩
end Go.Proofs.Ytfcdajkgopcmpaa
namespace Go.Proofs.Ytfcdajkgopcmpaa
open Go.RowKit
theorem at_three (w : World) (a b c : RV) : At (((w.alloc (robj a)).alloc (robj b)).alloc (robj c)) w.heap.size a ∧ At (((w.alloc (robj a)).alloc (robj b)).alloc (robj c)) (w.heap.size + 1) b ∧ At (((w.alloc (robj a)).alloc (robj b)).alloc (robj c)) (w.heap.size + 1 + 1) c := by
  have h2 := at_new (w.alloc (robj a)) b
  have h3 := at_new ((w.alloc (robj a)).alloc (robj b)) c
  refine ⟨((at_new w a).alloc _).alloc _, ?_, ?_⟩
  · have := h2.alloc (robj c)
    simpa using this
  · simpa using h3
theorem run_stf (W : World) (a : Addr) (x : Nat) : (store a (.float .f64 x)).run Try.prog W = stored Try.prog W a (.float .f64 x) .plain := run_store _ _ _ _ _ rfl
theorem load_at {w : World} {b : Nat} {r : RV} (h : At w b r) : (loadVar 37 ⟨b, 0, none⟩).run Try.prog w = .ok (ragg r) w := by
  have c0 := h.c0
  have c1 := h.c1
  have c2 := h.c2
  have c3 := h.c3
  go_simp
theorem cell_set4 {w : World} {b : Nat} {x y z u x' y' z' u' : Value} (h0 : w.cell? ⟨b, 0, none⟩ = some x) (h1 : w.cell? ⟨b, 1, none⟩ = some y) (h2 : w.cell? ⟨b, 2, none⟩ = some z) (h3 : w.cell? ⟨b, 3, none⟩ = some u) :
    ((((w.setCell ⟨b, 0, none⟩ x').setCell ⟨b, 1, none⟩ y').setCell ⟨b, 2, none⟩ z').setCell ⟨b, 3, none⟩ u').cell? ⟨b, 0, none⟩ = some x' ∧ ((((w.setCell ⟨b, 0, none⟩ x').setCell ⟨b, 1, none⟩ y').setCell ⟨b, 2, none⟩ z').setCell ⟨b, 3, none⟩ u').cell? ⟨b, 1, none⟩ = some y' ∧
      ((((w.setCell ⟨b, 0, none⟩ x').setCell ⟨b, 1, none⟩ y').setCell ⟨b, 2, none⟩ z').setCell ⟨b, 3, none⟩ u').cell? ⟨b, 2, none⟩ = some z' ∧ ((((w.setCell ⟨b, 0, none⟩ x').setCell ⟨b, 1, none⟩ y').setCell ⟨b, 2, none⟩ z').setCell ⟨b, 3, none⟩ u').cell? ⟨b, 3, none⟩ = some u' := by
  have n (i j : Nat) (h : i ≠ j) : (⟨b, i, none⟩ : Addr) ≠ ⟨b, j, none⟩ := fun e => h (congrArg Addr.off e)
  refine ⟨?_, ?_, ?_, ?_⟩
  · rw [World.cell?_setCell_other (h := n 3 0 (by decide)), World.cell?_setCell_other (h := n 2 0 (by decide)), World.cell?_setCell_other (h := n 1 0 (by decide)), World.cell?_setCell_same (h := h0)]
  · rw [World.cell?_setCell_other (h := n 3 1 (by decide)), World.cell?_setCell_other (h := n 2 1 (by decide)), World.cell?_setCell_same (u := y) (h := by rw [World.cell?_setCell_other (h := n 0 1 (by decide))]; exact h1)]
  · rw [World.cell?_setCell_other (h := n 3 2 (by decide)), World.cell?_setCell_same (u := z) (h := by rw [World.cell?_setCell_other (h := n 1 2 (by decide)), World.cell?_setCell_other (h := n 0 2 (by decide))]; exact h2)]
  · rw [World.cell?_setCell_same (u := u) (h := by rw [World.cell?_setCell_other (h := n 2 3 (by decide)), World.cell?_setCell_other (h := n 1 3 (by decide)), World.cell?_setCell_other (h := n 0 3 (by decide))]; exact h3)]
abbrev set4 (w : World) (b : Nat) (r : RV) : World := (((w.setCell ⟨b, 0, none⟩ (.int .i64 r.i)).setCell ⟨b, 1, none⟩ (.int .i64 r.e)).setCell ⟨b, 2, none⟩ (.float .f64 r.lo)).setCell ⟨b, 3, none⟩ (.float .f64 r.hi)
theorem At.setAll {w : World} {b : Nat} {r : RV} (h : At w b r) (u : RV) : At (set4 w b u) b u := by
  obtain ⟨e0, e1, e2, e3⟩ := cell_set4 (x' := .int .i64 u.i) (y' := .int .i64 u.e) (z' := .float .f64 u.lo) (u' := .float .f64 u.hi) h.c0 h.c1 h.c2 h.c3
  exact ⟨World.block_lt_of_cell? _ _ e0, e0, e1, e2, e3, by simp [h.f0], by simp [h.f1], by simp [h.f2], by simp [h.f3]⟩
theorem set4_cell (w : World) {b : Nat} (u : RV) {g : Nat} (h : g ≠ b) (o : Nat) : (set4 w b u).cell? ⟨g, o, none⟩ = w.cell? ⟨g, o, none⟩ := by
  have n (j : Nat) : (⟨b, j, none⟩ : Addr) ≠ ⟨g, o, none⟩ := fun e => h (congrArg Addr.block e).symm
  unfold set4
  rw [World.cell?_setCell_other (h := n 3), World.cell?_setCell_other (h := n 2), World.cell?_setCell_other (h := n 1), World.cell?_setCell_other (h := n 0)]
theorem At.set_other {w : World} {b g : Nat} {r : RV} (h : At w g r) (u : RV) (hg : g ≠ b) : At (set4 w b u) g r := by
  have e0 := (set4_cell w u hg 0).trans h.c0
  exact ⟨World.block_lt_of_cell? _ _ e0, e0, (set4_cell w u hg 1).trans h.c1, (set4_cell w u hg 2).trans h.c2, (set4_cell w u hg 3).trans h.c3, by simp [set4, h.f0], by simp [set4, h.f1], by simp [set4, h.f2], by simp [set4, h.f3]⟩
theorem below_set4 {B : Nat} {w w' : World} {b : Nat} (h : Below B w w') (hb : B ≤ b) (r : RV) : Below B w (set4 w' b r) :=
  (((h.setCell (p := ⟨b, 0, none⟩) hb _).setCell (p := ⟨b, 1, none⟩) hb _).setCell (p := ⟨b, 2, none⟩) hb _).setCell (p := ⟨b, 3, none⟩) hb _
theorem res_three {fn : Func} {p q u : Tmp} (h : fn.results = #[.cell p 37, .cell q 37, .tmp u]) (tmps : Array Value) {b c : Nat} {r s : RV} {w : World} (hp : tmps.getD p undef = .pointer (some ⟨b, 0, none⟩)) (hq : tmps.getD q undef = .pointer (some ⟨c, 0, none⟩)) (hA : At w b r) (hB : At w c s) :
    (results fn tmps).run Try.prog w = .ok (.tuple #[ragg r, ragg s, tmps.getD u undef]) w := by
  have l1 := load_at hA
  have l2 := load_at hB
  simp only [Array.getD_eq_getD_getElem?] at hp hq
  simp only [results, h]
  simp [Sem.run_bind, Result.andThen, hp, hq, asAddr, l1, l2]
def okSplit (r : RV) (x : Nat) (c : Int) : Bool := mayV r && (!(r.e == 9223372036854775807) && (idB c && (!(c == r.i) && ptB x)))
def splitV (r : RV) (x : Nat) (c : Int) : RV × RV × Int :=
  if okSplit r x c = true then (if betB r.lo x r.hi = true then (⟨r.i, r.e + 1, r.lo, x⟩, ⟨c, 0, x, r.hi⟩, 0) else (RV.zero, RV.zero, 24)) else (RV.zero, RV.zero, 1)
theorem may_pts {r : RV} (h : mayV r = true) : ptB r.lo = true ∧ ptB r.hi = true ∧ r.lo < r.hi ∧ 1 ≤ r.i ∧ r.i ≤ 12 ∧ 0 ≤ r.e := by
  unfold mayV idB at h
  simp only [Bool.and_eq_true, decide_eq_true_eq] at h
  exact ⟨h.2.2.1, h.2.2.2.1, h.2.2.2.2, h.1.1, h.1.2, h.2.1⟩
end Go.Proofs.Ytfcdajkgopcmpaa
namespace Go.Proofs.Ytfcdajkgopcmpaa
def chainR : Nat → Nat → List RV → Option Nat
  | 0, e, _ => some e
  | n + 1, e, l => match l.filter (fun r => r.lo == e) with
    | [r] => chainR n r.hi l
    | _ => none
def chainS : Nat → List RV → Option Nat
  | e, [] => some e
  | e, r :: s => if r.lo = e then chainS r.hi s else none
theorem chain_one {n e : Nat} {l : List RV} {r : RV} (h : l.filter (fun r => r.lo == e) = [r]) : chainR (n + 1) e l = chainR n r.hi l := by
  rw [chainR, h]
theorem chain_none {n e : Nat} {l : List RV} (h : ∀ r, l.filter (fun r => r.lo == e) ≠ [r]) : chainR (n + 1) e l = none := by
  rw [chainR]
  split
  · rename_i r hr
    exact absurd hr (h r)
  · rfl
theorem chain_perm {l s : List RV} (h : l.Perm s) : ∀ n e, chainR n e l = chainR n e s
  | 0, _ => rfl
  | n + 1, e => by
    have hf := h.filter (fun r => r.lo == e)
    by_cases hx : ∃ r, l.filter (fun r => r.lo == e) = [r]
    · obtain ⟨r, hr⟩ := hx
      have hs : s.filter (fun r => r.lo == e) = [r] := by rw [hr] at hf; exact (List.perm_singleton.1 hf.symm)
      rw [chain_one hr, chain_one hs]
      exact chain_perm h n r.hi
    · rw [chain_none (fun r hr => hx ⟨r, hr⟩), chain_none fun r hr => hx ⟨r, by rw [hr] at hf; exact List.perm_singleton.1 hf⟩]
theorem chain_skip {r : RV} {t : List RV} (ht : ∀ q ∈ t, q.lo < q.hi) : ∀ n e, r.lo < e → chainR n e (r :: t) = chainR n e t
  | 0, _, _ => rfl
  | n + 1, e, he => by
    have hf : (r :: t).filter (fun r => r.lo == e) = t.filter (fun r => r.lo == e) := by
      rw [List.filter_cons_of_neg]
      rw [beq_eq_false_iff_ne.2 (by omega)]
      decide
    by_cases hx : ∃ q, t.filter (fun r => r.lo == e) = [q]
    · obtain ⟨q, hq⟩ := hx
      have hm : q ∈ t.filter (fun r => r.lo == e) := by rw [hq]; exact List.mem_singleton.2 rfl
      obtain ⟨hm, hlo⟩ := List.mem_filter.1 hm
      have h1 := ht q hm
      have h2 := eq_of_beq hlo
      rw [chain_one (hf.trans hq), chain_one hq]
      exact chain_skip ht n q.hi (by omega)
    · rw [chain_none (fun q hq => hx ⟨q, hq⟩), chain_none fun q hq => hx ⟨q, hf ▸ hq⟩]
theorem chain_sorted : ∀ (s : List RV), (∀ q ∈ s, q.lo < q.hi) → s.Pairwise (fun a b => a.lo ≤ b.lo) → ∀ e, chainR s.length e s = chainS e s ∧ ∀ n, s.length < n → chainR n e s = none
  | [], _, _, e => by
    refine ⟨rfl, fun n hn => ?_⟩
    obtain ⟨m, rfl⟩ : ∃ m, n = m + 1 := ⟨n - 1, by simp only [List.length_nil] at hn; omega⟩
    exact chain_none fun r h => by cases h
  | r :: t, hv, hp, e => by
    have hv' : ∀ q ∈ t, q.lo < q.hi := fun q hq => hv q (List.mem_cons_of_mem _ hq)
    have hr := hv r (List.mem_cons_self ..)
    obtain ⟨hh, hp'⟩ := List.pairwise_cons.1 hp
    have ih := chain_sorted t hv' hp'
    rw [chainS]
    rcases Nat.lt_trichotomy r.lo e with h | h | h
    · rw [if_neg (by omega), List.length_cons, chain_skip hv' _ _ h]
      refine ⟨(ih e).2 _ (Nat.lt_succ_self _), fun n hn => ?_⟩
      rw [chain_skip hv' _ _ h]
      exact (ih e).2 n (by omega)
    · rw [if_pos h]
      subst h
      by_cases hx : t.filter (fun q => q.lo == r.lo) = []
      · have hf : (r :: t).filter (fun q => q.lo == r.lo) = [r] := by
          rw [List.filter_cons_of_pos (p := fun q : RV => q.lo == r.lo) (beq_self_eq_true r.lo), hx]
        refine ⟨?_, fun n hn => ?_⟩
        · rw [List.length_cons, chain_one hf, chain_skip hv' _ _ hr]
          exact (ih r.hi).1
        · obtain ⟨m, rfl⟩ : ∃ m, n = m + 1 := ⟨n - 1, by rw [List.length_cons] at hn; omega⟩
          rw [chain_one hf, chain_skip hv' _ _ hr]
          exact (ih r.hi).2 m (by rw [List.length_cons] at hn; omega)
      · have hn : ∀ q, (r :: t).filter (fun q => q.lo == r.lo) ≠ [q] := by
          intro q h
          rw [List.filter_cons_of_pos (p := fun q : RV => q.lo == r.lo) (beq_self_eq_true r.lo)] at h
          exact hx (List.cons.inj h).2
        have hs : chainS r.hi t = none := by
          obtain ⟨q, hq⟩ := List.exists_mem_of_ne_nil _ hx
          obtain ⟨hq, hlo⟩ := List.mem_filter.1 hq
          have h2 := eq_of_beq hlo
          cases t with
          | nil => cases hq
          | cons p t' =>
            have h3 := hh p (List.mem_cons_self ..)
            have h4 : p.lo ≤ q.lo := by
              rcases List.mem_cons.1 hq with rfl | h
              · exact Nat.le_refl _
              · exact (List.pairwise_cons.1 hp').1 q h
            rw [chainS, if_neg (by omega)]
        refine ⟨by rw [List.length_cons, chain_none hn, hs], fun n hn' => ?_⟩
        obtain ⟨m, rfl⟩ : ∃ m, n = m + 1 := ⟨n - 1, by rw [List.length_cons] at hn'; omega⟩
        exact chain_none hn
    · have hn : ∀ q, (r :: t).filter (fun q => q.lo == e) ≠ [q] := by
        intro q hq
        have hm : q ∈ (r :: t).filter (fun q => q.lo == e) := by rw [hq]; exact List.mem_singleton.2 rfl
        obtain ⟨hm, hlo⟩ := List.mem_filter.1 hm
        have h2 := eq_of_beq hlo
        rcases List.mem_cons.1 hm with rfl | hm
        · omega
        · have := hh q hm
          omega
      rw [if_neg (by omega)]
      refine ⟨by rw [List.length_cons, chain_none hn], fun n hn' => ?_⟩
      obtain ⟨m, rfl⟩ : ∃ m, n = m + 1 := ⟨n - 1, by rw [List.length_cons] at hn'; omega⟩
      exact chain_none hn
/-- The document's chain is that of whatever row holds the same ranges in ascending order. -/
theorem chain_same {l s : List RV} (hv : ∀ q ∈ l, q.lo < q.hi) (hp : s.Perm l) (hs : s.Pairwise (fun a b => a.lo ≤ b.lo)) (e : Nat) : chainR l.length e l = chainS e s := by
  rw [chain_perm hp.symm, ← hp.length_eq]
  exact (chain_sorted s (fun q hq => hv q (hp.mem_iff.1 hq)) hs e).1
end Go.Proofs.Ytfcdajkgopcmpaa
namespace Go.Proofs.Ytfcdajkgopcmpaa
open Go.RowKit
theorem key_ways {y : Nat} (hy : y < 18446744073709551616) : (∀ t, t < infR → FloatKind.f64.format.order y t = none) ∨ ∃ κ : Int, (∀ t : Nat, t < infR → FloatKind.f64.format.order y t = some (if κ < (t : Int) then .lt else if (t : Int) < κ then .gt else .eq)) ∧ (y < infR → κ = (y : Int)) := by
  have hiv : infR = 9218868437227405312 := rfl
  cases hn : nanB y
  case true => exact .inl fun t _ => ord_nan hn
  right
  have hnn : y % 9223372036854775808 ≤ infR := by
    unfold nanB at hn
    have := of_decide_eq_false hn
    omega
  by_cases hs : y < 9223372036854775808
  · by_cases hi : y = infR
    · subst hi
      refine ⟨infR, fun t ht => ?_, fun h => absurd h (by omega)⟩
      rw [if_neg (by omega), if_pos (by omega)]
      exact ord_inf ht
    · refine ⟨y, fun t ht => ?_, fun _ => rfl⟩
      have := order_pos (r := y) (q := t) (by omega) ht
      refine this.trans ?_
      by_cases h1 : y < t
      · rw [if_pos h1, if_pos (by omega)]
      · by_cases h2 : t < y
        · rw [if_neg h1, if_pos h2, if_neg (by omega), if_pos (by omega)]
        · rw [if_neg h1, if_neg h2, if_neg (by omega), if_neg (by omega)]
  · obtain ⟨r, rfl⟩ : ∃ r, y = 9223372036854775808 + r := ⟨y - 9223372036854775808, by omega⟩
    by_cases e0 : r = 0
    · subst e0
      refine ⟨0, fun t ht => ?_, fun h => absurd h (by omega)⟩
      by_cases h1 : t = 0
      · subst h1
        exact ord_neg0
      · rw [if_pos (by omega)]
        exact ord_neg (by omega) ht (by omega)
    · refine ⟨-1, fun t ht => ?_, fun h => absurd h (by omega)⟩
      rw [if_pos (by omega)]
      exact ord_neg (by omega) ht (by omega)
def keyIn (o : Option Int) (r : RV) : Bool := match o with | none => false | some κ => decide ((r.lo : Int) ≤ κ) && decide (κ < (r.hi : Int))
theorem in_key {y : Nat} (hy : y < 18446744073709551616) : ∃ o : Option Int, (∀ r : RV, r.lo < infR → r.hi < infR → inV r y = keyIn o r) ∧ (y < infR → o = some (y : Int)) := by
  rcases key_ways hy with h | ⟨κ, h, h2⟩
  · refine ⟨none, fun r h1 h3 => ?_, fun hf => ?_⟩
    · unfold inV keyIn
      rw [h _ h1]
      rfl
    · have := h y hf
      have e : Ieee.double.order y y = some .eq := by
        rw [order_pos hf hf, if_neg (by omega), if_neg (by omega)]
      exact absurd (this.symm.trans e) (by simp)
  · refine ⟨some κ, fun r h1 h3 => ?_, fun hf => by rw [h2 hf]⟩
    unfold inV keyIn
    rw [h _ h1, h _ h3]
    simp only
    by_cases g1 : κ < (r.lo : Int)
    · rw [if_pos g1, decide_eq_false (by omega)]; rfl
    · rw [if_neg g1, decide_eq_true (by omega : (r.lo : Int) ≤ κ), Bool.true_and]
      by_cases g2 : κ < (r.hi : Int)
      · rw [if_pos g2, decide_eq_true g2]
        by_cases g3 : (r.lo : Int) < κ
        · rw [if_pos g3]; rfl
        · rw [if_neg g3]; rfl
      · rw [if_neg g2, decide_eq_false g2]
        by_cases g3 : (r.lo : Int) < κ
        · rw [if_pos g3]; by_cases g4 : (r.hi : Int) < κ
          · rw [if_pos g4]; rfl
          · rw [if_neg g4]; rfl
        · rw [if_neg g3]; by_cases g4 : (r.hi : Int) < κ
          · rw [if_pos g4]; rfl
          · rw [if_neg g4]; rfl
/-- A range is its two halves. -/
theorem in_halves {y : Nat} (hy : y < 18446744073709551616) {i e j f : Int} {lo x hi : Nat} (h1 : lo < x) (h2 : x < hi) (hh : hi < infR) :
    inV ⟨i, e, lo, hi⟩ y = (inV ⟨i, e + 1, lo, x⟩ y != inV ⟨j, f, x, hi⟩ y) ∧ (inV ⟨i, e, lo, hi⟩ y = false → inV ⟨i, e + 1, lo, x⟩ y = false ∧ inV ⟨j, f, x, hi⟩ y = false) := by
  obtain ⟨o, ho, _⟩ := in_key hy
  rw [ho ⟨i, e, lo, hi⟩ (by simp only; omega) hh, ho ⟨i, e + 1, lo, x⟩ (by simp only; omega) (by simp only; omega), ho ⟨j, f, x, hi⟩ (by simp only; omega) hh]
  cases o with
  | none => exact ⟨rfl, fun _ => ⟨rfl, rfl⟩⟩
  | some κ =>
    unfold keyIn
    simp only
    by_cases g1 : (lo : Int) ≤ κ
    · by_cases g2 : κ < (hi : Int)
      · by_cases g3 : κ < (x : Int)
        · rw [decide_eq_true g1, decide_eq_true g2, decide_eq_true g3, decide_eq_false (by omega : ¬ (x : Int) ≤ κ)]; simp
        · rw [decide_eq_true g1, decide_eq_true g2, decide_eq_false g3, decide_eq_true (by omega : (x : Int) ≤ κ)]; simp
      · rw [decide_eq_true g1, decide_eq_false g2, decide_eq_false (by omega : ¬ κ < (x : Int))]; simp
    · rw [decide_eq_false g1, decide_eq_false (by omega : ¬ (x : Int) ≤ κ)]; simp
theorem split_ways (r : RV) (x : Nat) (c : Int) : ((splitV r x c).1 = RV.zero ∧ (splitV r x c).2.1 = RV.zero ∧ (splitV r x c).2.2 ≠ 0) ∨
    (okSplit r x c = true ∧ betB r.lo x r.hi = true ∧ splitV r x c = (⟨r.i, r.e + 1, r.lo, x⟩, ⟨c, 0, x, r.hi⟩, 0)) := by
  unfold splitV
  by_cases h1 : okSplit r x c = true
  · rw [if_pos h1]
    by_cases h2 : betB r.lo x r.hi = true
    · rw [if_pos h2]; exact .inr ⟨h1, h2, rfl⟩
    · rw [if_neg h2]; exact .inl ⟨rfl, rfl, by decide⟩
  · rw [if_neg h1]; exact .inl ⟨rfl, rfl, by decide⟩
theorem split_pts {r : RV} {x : Nat} {c : Int} (h1 : okSplit r x c = true) (h2 : betB r.lo x r.hi = true) : mayV r = true ∧ r.e ≠ 9223372036854775807 ∧ idB c = true ∧ c ≠ r.i ∧ ptB x = true ∧ r.lo < x ∧ x < r.hi := by
  unfold okSplit at h1
  unfold betB at h2
  simp only [Bool.and_eq_true, Bool.not_eq_true', beq_eq_false_iff_ne, decide_eq_true_eq] at h1 h2
  exact ⟨h1.1, h1.2.1, h1.2.2.1, h1.2.2.2.1, h1.2.2.2.2, h2.1, h2.2⟩
end Go.Proofs.Ytfcdajkgopcmpaa
namespace Go.Proofs.Ytfcdajkgopcmpaa
open Go.RowKit
set_option maxRecDepth 100000 in
set_option maxHeartbeats 1000000 in
theorem rsplit_any (r : RV) (hr : r.wf) (x : Nat) (hx : x < 18446744073709551616) (c : Int) (w : World) : Calls Try.prog 22 #[ragg r, .float .f64 x, .int .i64 c] w fun e w' => e = .returned (.tuple #[ragg (splitV r x c).1, ragg (splitV r x c).2.1, .int .i64 (splitV r x c).2.2]) ∧ Below w.heap.size w w' := by
  have hst := run_stf
  have HM := fun w => Lib.hid (rmay_any r hr.2.2.1 hr.2.2.2 w)
  have HX := fun w => Lib.hid (is_any x hx w)
  have HA := Lib.hid (at_three w r RV.zero RV.zero).1
  have HP := Lib.hid (at_three w r RV.zero RV.zero).2.1
  have HQ := Lib.hid (at_three w r RV.zero RV.zero).2.2
  have HW := Lib.hid (below3 w (robj r) (robj RV.zero) (robj RV.zero))
  have hpts := fun h => may_pts (r := r) h
  have hre := hr.2.1
  unfold splitV okSplit
  cases hm : mayV r
  case false =>
    rw [hm] at HM
    rw [Bool.false_and, if_neg (by simp)]
    obtain ⟨i, e, lo, hi⟩ := r
    clear hpts hm hx hr hre
    go_enter Try.func22, Try.ntmps22
    go_wp2_with (first
      | (go_at_call 41; ((with_reducible refine (HM _).out.mono ?_); rintro e w1 ⟨rfl, hb⟩; have HA := Lib.hid (HA.out.below hb HA.out.lt); have HP := Lib.hid (HP.out.below hb HP.out.lt); have HQ := Lib.hid (HQ.out.below hb HQ.out.lt); have HW := Lib.hid (HW.out.trans (hb.mono HW.out.size)); have az := HA.out.lt; have pz := HP.out.lt; have qz := HQ.out.lt; have a0 := HA.out.c0; have a1 := HA.out.c1; have a2 := HA.out.c2; have a3 := HA.out.c3; have p0 := HP.out.c0; have p1 := HP.out.c1; have p2 := HP.out.c2; have p3 := HP.out.c3; have q0 := HQ.out.c0; have q1 := HQ.out.c1; have q2 := HQ.out.c2; have q3 := HQ.out.c3; have pf0 := HP.out.f0; have pf1 := HP.out.f1; have pf2 := HP.out.f2; have pf3 := HP.out.f3; have qf0 := HQ.out.f0; have qf1 := HQ.out.f1; have qf2 := HQ.out.f2; have qf3 := HQ.out.f3; dsimp only [RV.zero] at a0 a1 a2 a3 p0 p1 p2 p3 q0 q1 q2 q3; clear hb))
      | (go_at_call 42; ((with_reducible refine (HX _).out.mono ?_); rintro e w' ⟨rfl, rfl⟩)))
    exact bodyPost_ret (res_three rfl _ rfl rfl ((HP.out.setAll RV.zero).set_other RV.zero (by simp)) ((HQ.out.set_other RV.zero (by simp)).setAll RV.zero)) rfl ⟨rfl, below_set4 (below_set4 HW.out (by omega) RV.zero) (by omega) RV.zero⟩

  rw [hm] at HM
  obtain ⟨g1, g2, g3, g4, g5, g6⟩ := hpts hm
  have ht1 := fun hp : ptB x = true => lt_test (pt_fin hp) (pt_fin g2)
  have ht2 := fun (hp : ptB x = true) (h : r.lo < x) => order_gt_t (pt_fin hp) (pt_fin g1) h
  have ht3 := fun (hp : ptB x = true) (h : ¬ r.lo < x) => order_gt_f (pt_fin hp) (pt_fin g1) h
  rw [Bool.true_and]
  obtain ⟨i, e, lo, hi⟩ := r
  simp only at g4 g5 g6 hre ht1 ht2 ht3 ⊢
  clear hpts hm hr g1 g2 g3
  cases hee : (e == 9223372036854775807)
  case true =>
    rw [Bool.not_true, Bool.false_and, if_neg (by simp)]
    clear ht1 ht2 ht3 hx
    go_enter Try.func22, Try.ntmps22
    go_wp2_with (first
      | (go_at_call 41; ((with_reducible refine (HM _).out.mono ?_); rintro e w1 ⟨rfl, hb⟩; have HA := Lib.hid (HA.out.below hb HA.out.lt); have HP := Lib.hid (HP.out.below hb HP.out.lt); have HQ := Lib.hid (HQ.out.below hb HQ.out.lt); have HW := Lib.hid (HW.out.trans (hb.mono HW.out.size)); have az := HA.out.lt; have pz := HP.out.lt; have qz := HQ.out.lt; have a0 := HA.out.c0; have a1 := HA.out.c1; have a2 := HA.out.c2; have a3 := HA.out.c3; have p0 := HP.out.c0; have p1 := HP.out.c1; have p2 := HP.out.c2; have p3 := HP.out.c3; have q0 := HQ.out.c0; have q1 := HQ.out.c1; have q2 := HQ.out.c2; have q3 := HQ.out.c3; have pf0 := HP.out.f0; have pf1 := HP.out.f1; have pf2 := HP.out.f2; have pf3 := HP.out.f3; have qf0 := HQ.out.f0; have qf1 := HQ.out.f1; have qf2 := HQ.out.f2; have qf3 := HQ.out.f3; dsimp only [RV.zero] at a0 a1 a2 a3 p0 p1 p2 p3 q0 q1 q2 q3; clear hb))
      | (go_at_call 42; ((with_reducible refine (HX _).out.mono ?_); rintro e w' ⟨rfl, rfl⟩)))
    exact bodyPost_ret (res_three rfl _ rfl rfl ((HP.out.setAll RV.zero).set_other RV.zero (by simp)) ((HQ.out.set_other RV.zero (by simp)).setAll RV.zero)) rfl ⟨rfl, below_set4 (below_set4 HW.out (by omega) RV.zero) (by omega) RV.zero⟩

  rw [Bool.not_false, Bool.true_and]
  cases hic : idB c
  case false =>
    rw [Bool.false_and, if_neg (by simp)]
    clear ht1 ht2 ht3 hx
    unfold idB at hic
    by_cases hc1 : c < 1
    · clear hic
      go_enter Try.func22, Try.ntmps22
      go_wp2_with (first
        | (go_at_call 41; ((with_reducible refine (HM _).out.mono ?_); rintro e w1 ⟨rfl, hb⟩; have HA := Lib.hid (HA.out.below hb HA.out.lt); have HP := Lib.hid (HP.out.below hb HP.out.lt); have HQ := Lib.hid (HQ.out.below hb HQ.out.lt); have HW := Lib.hid (HW.out.trans (hb.mono HW.out.size)); have az := HA.out.lt; have pz := HP.out.lt; have qz := HQ.out.lt; have a0 := HA.out.c0; have a1 := HA.out.c1; have a2 := HA.out.c2; have a3 := HA.out.c3; have p0 := HP.out.c0; have p1 := HP.out.c1; have p2 := HP.out.c2; have p3 := HP.out.c3; have q0 := HQ.out.c0; have q1 := HQ.out.c1; have q2 := HQ.out.c2; have q3 := HQ.out.c3; have pf0 := HP.out.f0; have pf1 := HP.out.f1; have pf2 := HP.out.f2; have pf3 := HP.out.f3; have qf0 := HQ.out.f0; have qf1 := HQ.out.f1; have qf2 := HQ.out.f2; have qf3 := HQ.out.f3; dsimp only [RV.zero] at a0 a1 a2 a3 p0 p1 p2 p3 q0 q1 q2 q3; clear hb))
        | (go_at_call 42; ((with_reducible refine (HX _).out.mono ?_); rintro e w' ⟨rfl, rfl⟩)))
      exact bodyPost_ret (res_three rfl _ rfl rfl ((HP.out.setAll RV.zero).set_other RV.zero (by simp)) ((HQ.out.set_other RV.zero (by simp)).setAll RV.zero)) rfl ⟨rfl, below_set4 (below_set4 HW.out (by omega) RV.zero) (by omega) RV.zero⟩
    · have hc2 : (12 : Int) < c := by
        rw [Bool.and_eq_false_iff, decide_eq_false_iff_not, decide_eq_false_iff_not] at hic
        omega
      clear hic
      go_enter Try.func22, Try.ntmps22
      go_wp2_with (first
        | (go_at_call 41; ((with_reducible refine (HM _).out.mono ?_); rintro e w1 ⟨rfl, hb⟩; have HA := Lib.hid (HA.out.below hb HA.out.lt); have HP := Lib.hid (HP.out.below hb HP.out.lt); have HQ := Lib.hid (HQ.out.below hb HQ.out.lt); have HW := Lib.hid (HW.out.trans (hb.mono HW.out.size)); have az := HA.out.lt; have pz := HP.out.lt; have qz := HQ.out.lt; have a0 := HA.out.c0; have a1 := HA.out.c1; have a2 := HA.out.c2; have a3 := HA.out.c3; have p0 := HP.out.c0; have p1 := HP.out.c1; have p2 := HP.out.c2; have p3 := HP.out.c3; have q0 := HQ.out.c0; have q1 := HQ.out.c1; have q2 := HQ.out.c2; have q3 := HQ.out.c3; have pf0 := HP.out.f0; have pf1 := HP.out.f1; have pf2 := HP.out.f2; have pf3 := HP.out.f3; have qf0 := HQ.out.f0; have qf1 := HQ.out.f1; have qf2 := HQ.out.f2; have qf3 := HQ.out.f3; dsimp only [RV.zero] at a0 a1 a2 a3 p0 p1 p2 p3 q0 q1 q2 q3; clear hb))
        | (go_at_call 42; ((with_reducible refine (HX _).out.mono ?_); rintro e w' ⟨rfl, rfl⟩)))
      exact bodyPost_ret (res_three rfl _ rfl rfl ((HP.out.setAll RV.zero).set_other RV.zero (by simp)) ((HQ.out.set_other RV.zero (by simp)).setAll RV.zero)) rfl ⟨rfl, below_set4 (below_set4 HW.out (by omega) RV.zero) (by omega) RV.zero⟩
  rw [Bool.true_and]
  have hc1 : ¬ c < (1 : Int) := by
    unfold idB at hic
    rw [Bool.and_eq_true, decide_eq_true_eq, decide_eq_true_eq] at hic
    omega
  have hc2 : ¬ (12 : Int) < c := by
    unfold idB at hic
    rw [Bool.and_eq_true, decide_eq_true_eq, decide_eq_true_eq] at hic
    omega
  clear hic
  cases hci : (c == i)
  case true =>
    rw [Bool.not_true, Bool.false_and, if_neg (by simp)]
    clear ht1 ht2 ht3 hx
    go_enter Try.func22, Try.ntmps22
    go_wp2_with (first
      | (go_at_call 41; ((with_reducible refine (HM _).out.mono ?_); rintro e w1 ⟨rfl, hb⟩; have HA := Lib.hid (HA.out.below hb HA.out.lt); have HP := Lib.hid (HP.out.below hb HP.out.lt); have HQ := Lib.hid (HQ.out.below hb HQ.out.lt); have HW := Lib.hid (HW.out.trans (hb.mono HW.out.size)); have az := HA.out.lt; have pz := HP.out.lt; have qz := HQ.out.lt; have a0 := HA.out.c0; have a1 := HA.out.c1; have a2 := HA.out.c2; have a3 := HA.out.c3; have p0 := HP.out.c0; have p1 := HP.out.c1; have p2 := HP.out.c2; have p3 := HP.out.c3; have q0 := HQ.out.c0; have q1 := HQ.out.c1; have q2 := HQ.out.c2; have q3 := HQ.out.c3; have pf0 := HP.out.f0; have pf1 := HP.out.f1; have pf2 := HP.out.f2; have pf3 := HP.out.f3; have qf0 := HQ.out.f0; have qf1 := HQ.out.f1; have qf2 := HQ.out.f2; have qf3 := HQ.out.f3; dsimp only [RV.zero] at a0 a1 a2 a3 p0 p1 p2 p3 q0 q1 q2 q3; clear hb))
      | (go_at_call 42; ((with_reducible refine (HX _).out.mono ?_); rintro e w' ⟨rfl, rfl⟩)))
    exact bodyPost_ret (res_three rfl _ rfl rfl ((HP.out.setAll RV.zero).set_other RV.zero (by simp)) ((HQ.out.set_other RV.zero (by simp)).setAll RV.zero)) rfl ⟨rfl, below_set4 (below_set4 HW.out (by omega) RV.zero) (by omega) RV.zero⟩

  rw [Bool.not_false, Bool.true_and]
  cases hpx : ptB x
  case false =>
    rw [hpx] at HX
    rw [if_neg (by simp)]
    clear ht1 ht2 ht3 hpx hx
    go_enter Try.func22, Try.ntmps22
    go_wp2_with (first
      | (go_at_call 41; ((with_reducible refine (HM _).out.mono ?_); rintro e w1 ⟨rfl, hb⟩; have HA := Lib.hid (HA.out.below hb HA.out.lt); have HP := Lib.hid (HP.out.below hb HP.out.lt); have HQ := Lib.hid (HQ.out.below hb HQ.out.lt); have HW := Lib.hid (HW.out.trans (hb.mono HW.out.size)); have az := HA.out.lt; have pz := HP.out.lt; have qz := HQ.out.lt; have a0 := HA.out.c0; have a1 := HA.out.c1; have a2 := HA.out.c2; have a3 := HA.out.c3; have p0 := HP.out.c0; have p1 := HP.out.c1; have p2 := HP.out.c2; have p3 := HP.out.c3; have q0 := HQ.out.c0; have q1 := HQ.out.c1; have q2 := HQ.out.c2; have q3 := HQ.out.c3; have pf0 := HP.out.f0; have pf1 := HP.out.f1; have pf2 := HP.out.f2; have pf3 := HP.out.f3; have qf0 := HQ.out.f0; have qf1 := HQ.out.f1; have qf2 := HQ.out.f2; have qf3 := HQ.out.f3; dsimp only [RV.zero] at a0 a1 a2 a3 p0 p1 p2 p3 q0 q1 q2 q3; clear hb))
      | (go_at_call 42; ((with_reducible refine (HX _).out.mono ?_); rintro e w' ⟨rfl, rfl⟩)))
    exact bodyPost_ret (res_three rfl _ rfl rfl ((HP.out.setAll RV.zero).set_other RV.zero (by simp)) ((HQ.out.set_other RV.zero (by simp)).setAll RV.zero)) rfl ⟨rfl, below_set4 (below_set4 HW.out (by omega) RV.zero) (by omega) RV.zero⟩

  rw [hpx] at HX
  rw [if_pos rfl]
  have h1 := ht1 hpx
  have h2 := ht2 hpx
  have h3 := ht3 hpx
  clear ht1 ht2 ht3 hpx hx
  unfold betB
  by_cases hlx : lo < x
  case neg =>
    rw [decide_eq_false hlx, Bool.false_and, if_neg (by simp)]
    have h3' : (FloatKind.f64.format.order x lo == some .gt) = false := h3 hlx
    clear h1 h2 h3 hlx
    go_enter Try.func22, Try.ntmps22
    go_wp2_with (first
      | (go_at_call 41; ((with_reducible refine (HM _).out.mono ?_); rintro e w1 ⟨rfl, hb⟩; have HA := Lib.hid (HA.out.below hb HA.out.lt); have HP := Lib.hid (HP.out.below hb HP.out.lt); have HQ := Lib.hid (HQ.out.below hb HQ.out.lt); have HW := Lib.hid (HW.out.trans (hb.mono HW.out.size)); have az := HA.out.lt; have pz := HP.out.lt; have qz := HQ.out.lt; have a0 := HA.out.c0; have a1 := HA.out.c1; have a2 := HA.out.c2; have a3 := HA.out.c3; have p0 := HP.out.c0; have p1 := HP.out.c1; have p2 := HP.out.c2; have p3 := HP.out.c3; have q0 := HQ.out.c0; have q1 := HQ.out.c1; have q2 := HQ.out.c2; have q3 := HQ.out.c3; have pf0 := HP.out.f0; have pf1 := HP.out.f1; have pf2 := HP.out.f2; have pf3 := HP.out.f3; have qf0 := HQ.out.f0; have qf1 := HQ.out.f1; have qf2 := HQ.out.f2; have qf3 := HQ.out.f3; dsimp only [RV.zero] at a0 a1 a2 a3 p0 p1 p2 p3 q0 q1 q2 q3; clear hb))
      | (go_at_call 42; ((with_reducible refine (HX _).out.mono ?_); rintro e w' ⟨rfl, rfl⟩)))
    exact bodyPost_ret (res_three rfl _ rfl rfl ((HP.out.setAll RV.zero).set_other RV.zero (by simp)) ((HQ.out.set_other RV.zero (by simp)).setAll RV.zero)) rfl ⟨rfl, below_set4 (below_set4 HW.out (by omega) RV.zero) (by omega) RV.zero⟩

  have h2' : (FloatKind.f64.format.order x lo == some .gt) = true := h2 hlx
  rw [decide_eq_true hlx, Bool.true_and]
  clear h2 h3 hlx
  by_cases hxh : x < hi
  case neg =>
    rw [decide_eq_false hxh] at h1 ⊢
    rw [if_neg (by simp)]
    clear hxh
    go_enter Try.func22, Try.ntmps22
    go_wp2_with (first
      | (go_at_call 41; ((with_reducible refine (HM _).out.mono ?_); rintro e w1 ⟨rfl, hb⟩; have HA := Lib.hid (HA.out.below hb HA.out.lt); have HP := Lib.hid (HP.out.below hb HP.out.lt); have HQ := Lib.hid (HQ.out.below hb HQ.out.lt); have HW := Lib.hid (HW.out.trans (hb.mono HW.out.size)); have az := HA.out.lt; have pz := HP.out.lt; have qz := HQ.out.lt; have a0 := HA.out.c0; have a1 := HA.out.c1; have a2 := HA.out.c2; have a3 := HA.out.c3; have p0 := HP.out.c0; have p1 := HP.out.c1; have p2 := HP.out.c2; have p3 := HP.out.c3; have q0 := HQ.out.c0; have q1 := HQ.out.c1; have q2 := HQ.out.c2; have q3 := HQ.out.c3; have pf0 := HP.out.f0; have pf1 := HP.out.f1; have pf2 := HP.out.f2; have pf3 := HP.out.f3; have qf0 := HQ.out.f0; have qf1 := HQ.out.f1; have qf2 := HQ.out.f2; have qf3 := HQ.out.f3; dsimp only [RV.zero] at a0 a1 a2 a3 p0 p1 p2 p3 q0 q1 q2 q3; clear hb))
      | (go_at_call 42; ((with_reducible refine (HX _).out.mono ?_); rintro e w' ⟨rfl, rfl⟩)))
    exact bodyPost_ret (res_three rfl _ rfl rfl ((HP.out.setAll RV.zero).set_other RV.zero (by simp)) ((HQ.out.set_other RV.zero (by simp)).setAll RV.zero)) rfl ⟨rfl, below_set4 (below_set4 HW.out (by omega) RV.zero) (by omega) RV.zero⟩

  rw [decide_eq_true hxh] at h1 ⊢
  rw [if_pos rfl]
  clear hxh
  have hne : e ≠ 9223372036854775807 := by
    rw [beq_eq_false_iff_ne] at hee
    exact hee
  have he1 : e + 1 ≤ 9223372036854775807 := by omega
  have he2 : (0 : Int) ≤ e + 1 := by omega
  clear hne
  go_enter Try.func22, Try.ntmps22
  go_wp2_with (first
      | (go_at_call 41; ((with_reducible refine (HM _).out.mono ?_); rintro e w1 ⟨rfl, hb⟩; have HA := Lib.hid (HA.out.below hb HA.out.lt); have HP := Lib.hid (HP.out.below hb HP.out.lt); have HQ := Lib.hid (HQ.out.below hb HQ.out.lt); have HW := Lib.hid (HW.out.trans (hb.mono HW.out.size)); have az := HA.out.lt; have pz := HP.out.lt; have qz := HQ.out.lt; have a0 := HA.out.c0; have a1 := HA.out.c1; have a2 := HA.out.c2; have a3 := HA.out.c3; have p0 := HP.out.c0; have p1 := HP.out.c1; have p2 := HP.out.c2; have p3 := HP.out.c3; have q0 := HQ.out.c0; have q1 := HQ.out.c1; have q2 := HQ.out.c2; have q3 := HQ.out.c3; have pf0 := HP.out.f0; have pf1 := HP.out.f1; have pf2 := HP.out.f2; have pf3 := HP.out.f3; have qf0 := HQ.out.f0; have qf1 := HQ.out.f1; have qf2 := HQ.out.f2; have qf3 := HQ.out.f3; dsimp only [RV.zero] at a0 a1 a2 a3 p0 p1 p2 p3 q0 q1 q2 q3; clear hb))
      | (go_at_call 42; ((with_reducible refine (HX _).out.mono ?_); rintro e w' ⟨rfl, rfl⟩)))
  go_region
  go_wp2
  have hP := ((HP.out.setAll ⟨i, e + 1, lo, x⟩).set_other (b := w.heap.size + 1 + 1) ⟨c, 0, x, hi⟩ (by simp)).alloc (robj ⟨i, e + 1, lo, x⟩)
  have hQ := ((HQ.out.set_other (b := w.heap.size + 1) ⟨i, e + 1, lo, x⟩ (by simp)).setAll ⟨c, 0, x, hi⟩).alloc (robj ⟨i, e + 1, lo, x⟩)
  have hW := below_set4 (b := w.heap.size + 1 + 1) (below_set4 (b := w.heap.size + 1) HW.out (by omega) ⟨i, e + 1, lo, x⟩) (by omega) ⟨c, 0, x, hi⟩
  exact bodyPost_ret (res_three rfl _ rfl rfl (hP.below (Below.refl _ _).drew hP.lt) (hQ.below (Below.refl _ _).drew hQ.lt)) rfl ⟨rfl, (hW.alloc hW.size _).drew⟩
end Go.Proofs.Ytfcdajkgopcmpaa
