/- A row of items that came in, opened; racelaw2's few. Conditions: none of its own. -/
import Derived.Test.YtioopibmpcbcjaaL1
import Derived.Deep.Grids
namespace Go.Proofs.Ytioopibmpcbcjaa
open Go.ChangeShapes Go.WideShapes Go.RowKit Go.Deep
/-- An item. -/
structure It where
  k : Int
  n : Int
  b : Bool
  x : Nat
  s : List UInt8
instance : Inhabited It := ⟨⟨0, 0, false, 0, []⟩⟩
def It.wf (t : It) : Prop := (-9223372036854775808 ≤ t.k ∧ t.k < 9223372036854775808) ∧ (-9223372036854775808 ≤ t.n ∧ t.n < 9223372036854775808) ∧ t.x < 18446744073709551616 ∧ t.s.length ≤ 9223372036854775807
/-- The five cells of an item. -/
structure ItAt (w : World) (b o : Nat) (t : It) : Prop where
  c0 : w.cell? ⟨b, o, none⟩ = some (.int .i64 t.k)
  c1 : w.cell? ⟨b, o + 1, none⟩ = some (.int .i64 t.n)
  c2 : w.cell? ⟨b, o + 2, none⟩ = some (.bool t.b)
  c3 : w.cell? ⟨b, o + 3, none⟩ = some (.float .f64 t.x)
  c4 : w.cell? ⟨b, o + 4, none⟩ = some (.string ⟨t.s.toArray⟩)
def HasI (w : World) (ao : Option Addr) (xs : List It) : Prop :=
  xs = [] ∨ ∃ b off, ao = some ⟨b, off, none⟩ ∧ b < w.heap.size ∧ ∀ i, i < xs.length → ItAt w b (off + i * 5) (xs.getD i default)
theorem ItAt.block {w w' : World} {b o : Nat} {t : It} (h : ItAt w b o t) (e : w'.heap[b]? = w.heap[b]?) : ItAt w' b o t :=
  ⟨(World.cell?_of_block (a := ⟨b, o, none⟩) e).trans h.c0, (World.cell?_of_block (a := ⟨b, o + 1, none⟩) e).trans h.c1, (World.cell?_of_block (a := ⟨b, o + 2, none⟩) e).trans h.c2,
    (World.cell?_of_block (a := ⟨b, o + 3, none⟩) e).trans h.c3, (World.cell?_of_block (a := ⟨b, o + 4, none⟩) e).trans h.c4⟩
theorem HasI.below {w w' : World} {ao : Option Addr} {xs : List It} (h : HasI w ao xs) (hb : Below w.heap.size w w') : HasI w' ao xs := by
  rcases h with h | ⟨b, off, rfl, hlt, h⟩
  · exact .inl h
  · exact .inr ⟨b, off, rfl, Nat.lt_of_lt_of_le hlt hb.size, fun i hi => (h i hi).block (hb.block b hlt)⟩
section
variable {H : Type} {enc : TypeId × Value → H} {w : World} {base : Nat} {spare : Nat → Bool} {held : Bool}
theorem trod_float {e : TypeId} {k : FloatKind} {n : Nat} {v : Value} {y : DataW H × List MemPlace} (he : Try.prog.underlying e = some (.float k)) (h : DataW.trod enc Try.prog w base spare held n e [v] = some y) :
    ∃ b, v = .float k b ∧ y = (.lit (.float k b), []) ∧ (Lit.float k b).wf = true := by
  cases n with
  | zero => simp [DataW.trod] at h
  | succ n =>
    simp only [DataW.trod, he] at h
    split at h <;> simp_all
theorem cells30 : Try.prog.cellsOf 30 = 5 := by kernel_rfl
theorem cells1 : Try.prog.cellsOf 3 = 1 ∧ Try.prog.cellsOf 4 = 1 ∧ Try.prog.cellsOf 28 = 1 ∧ Try.prog.cellsOf 9 = 1 := ⟨by kernel_rfl, by kernel_rfl, by kernel_rfl, by kernel_rfl⟩
theorem bytes_self (s : ByteArray) : (⟨s.data.toList.toArray⟩ : ByteArray) = s := by cases s; simp
theorem open_items {fuel : Nat} {v : Value} {x : DataW H × List MemPlace} (h : DataW.trod enc Try.prog w base (fun _ => true) held fuel 22 [v] = some x) :
    ∃ ao cap, ∃ xs : List It, v = .slice ao xs.length cap ∧ xs.length ≤ cap ∧ cap ≤ maxLen ∧ HasI w ao xs ∧ ∀ t ∈ xs, t.wf := by
  rcases open_slice Try.underlying22 h with ⟨h0, _⟩ | ⟨a, len, cap, m, n, D, Pl, h0, hb, hl, hm, hmm, rfl, hx⟩
  · exact ⟨none, 0, [], by simpa using h0, Nat.le_refl _, by decide, .inl rfl, fun b hb => by cases hb⟩
  simp only [if_true] at hmm
  subst hmm
  have each : ∀ i, i < m → ∃ t : It, t.wf ∧ w.cell? (a.add (i * 5)) = some (.int .i64 t.k) ∧ w.cell? (a.add (i * 5 + 1)) = some (.int .i64 t.n) ∧ w.cell? (a.add (i * 5 + 2)) = some (.bool t.b) ∧
      w.cell? (a.add (i * 5 + 3)) = some (.float .f64 t.x) ∧ w.cell? (a.add (i * 5 + 4)) = some (.string ⟨t.s.toArray⟩) := by
    intro i hi
    obtain ⟨cs, h1, h2⟩ := hx i hi
    rw [cells30] at h1
    obtain ⟨_, hlen, hcell⟩ := World.cells?_some h1
    obtain ⟨ys, k, hk, hxy, _, hxl, hf⟩ := DataW.trod_struct Try.underlying30 h2
    match cs, hlen with
    | [v0, v1, v2, v3, v4], _ =>
      match ys, hxl with
      | [y0, y1, y2, y3, y4], _ =>
        have g0 := hf 0 _ rfl
        have g1 := hf 1 _ rfl
        have g2 := hf 2 _ rfl
        have g3 := hf 3 _ rfl
        have g4 := hf 4 _ rfl
        simp [cells1] at g0 g1 g2 g3 g4
        obtain ⟨k0, e0, _, wf0⟩ := DataW.trod_int Try.underlying3 g0
        obtain ⟨k1, e1, _, wf1⟩ := DataW.trod_int Try.underlying3 g1
        obtain ⟨k2, e2, _⟩ := DataW.trod_bool Try.underlying4 g2
        obtain ⟨k3, e3, _, wf3⟩ := trod_float Try.underlying28 g3
        obtain ⟨k4, e4, _, wf4⟩ := DataW.trod_string Try.underlying9 g4
        simp [Lit.wf, IntKind.min, IntKind.max, IntKind.signed, IntKind.bits] at wf0 wf1 wf3
        simp at e0 e1 e2 e4
        subst e0 e1 e2 e3 e4
        have d0 := hcell 0 (by omega)
        have d1 := hcell 1 (by omega)
        have d2 := hcell 2 (by omega)
        have d3 := hcell 3 (by omega)
        have d4 := hcell 4 (by omega)
        rw [add_add] at d0 d1 d2 d3 d4
        have u0 : -9223372036854775808 ≤ k0 ∧ k0 < 9223372036854775808 := by omega
        have u1 : -9223372036854775808 ≤ k1 ∧ k1 < 9223372036854775808 := by omega
        have u3 : k3 < 18446744073709551616 := by omega
        have u4 : k4.data.toList.length ≤ 9223372036854775807 := by
          have : k4.data.toList.length = k4.size := by rw [Array.length_toList]; rfl
          rw [this]
          unfold maxLen at wf4
          omega
        exact ⟨⟨k0, k1, k2, k3, k4.data.toList⟩, ⟨u0, u1, u3, u4⟩, by simpa using d0, by simpa using d1, by simpa using d2, by simpa using d3, by rw [bytes_self]; simpa using d4⟩
  obtain ⟨T, hT⟩ := choose_lt each
  refine ⟨some a, m, (List.range len).map T, by simpa using h0, by simpa using hl, hm, ?_, ?_⟩
  · by_cases h1 : len = 0
    · left; simp [h1]
    right
    have h00 := (hT 0 (by omega)).2.1
    obtain ⟨b, off, spot⟩ := a
    have hspot : spot = none := by simpa [Addr.add] using World.cell?_spot h00
    subst hspot
    refine ⟨b, off, rfl, ?_, fun i hi => ?_⟩
    · exact World.block_lt_of_cell? _ _ h00
    have hi' : i < len := by simpa using hi
    obtain ⟨_, h0, h1, h2, h3, h4⟩ := hT i (by omega)
    rw [Addr.add_lit] at h0 h1 h2 h3 h4
    have e : ((List.range len).map T).getD i default = T i := by simp [List.getD, hi']
    rw [e]
    exact ⟨h0, by rw [Nat.add_assoc]; exact h1, by rw [Nat.add_assoc]; exact h2, by rw [Nat.add_assoc]; exact h3, by rw [Nat.add_assoc]; exact h4⟩
  · intro t ht
    obtain ⟨i, hi, rfl⟩ := List.mem_map.1 ht
    exact (hT i (by have := List.mem_range.1 hi; omega)).1
end
section
variable {H : Type} {enc : TypeId × Value → H} {w : World} {base : Nat} {held : Bool}
/-- A row of bytes that came in. -/
theorem open_has {fuel : Nat} {v : Value} {x : DataW H × List MemPlace} (h : DataW.trod enc Try.prog w base (fun _ => true) held fuel 31 [v] = some x) :
    ∃ xs : List UInt8, HasB (fun k => k < w.heap.size) w v xs ∧ xs.length ≤ 9223372036854775807 := by
  rcases open_slice1 Try.underlying31 (by kernel_rfl) h with ⟨h0, _⟩ | ⟨a, len, cap, m, n, V, D, Pl, h0, hb, hl, hm, hmm, rfl, hx⟩
  · simp at h0
    subst h0
    exact ⟨[], ⟨none, 0, rfl, Nat.le_refl _, by decide, fun _ => ⟨rfl, rfl⟩, .inl rfl⟩, by simp⟩
  simp only [if_true] at hmm
  subst hmm
  simp at h0
  subst h0
  obtain ⟨B, hB⟩ := choose_lt (α := UInt8) (p := fun i b => V i = .int .u8 (b.toNat : Int)) (fun i hi => by
    obtain ⟨b, h1, _, h3⟩ := DataW.trod_int Try.underlying5 (hx i hi).2
    simp [Lit.wf, IntKind.min, IntKind.max, IntKind.signed, IntKind.bits] at h3
    simp at h1
    refine ⟨UInt8.ofNat b.toNat, ?_⟩
    rw [h1, ofNat_toNat (by omega)]
    congr 1
    omega)
  have hlen : ((List.range len).map B).length = len := by simp
  refine ⟨(List.range len).map B, ⟨some a, m, by rw [hlen], by rw [hlen]; exact hl, hm, (fun e => by cases e), ?_⟩, by rw [hlen]; unfold maxLen at hm; omega⟩
  by_cases h1 : len = 0
  · left; simp [h1]
  right
  obtain ⟨b, off, spot⟩ := a
  have h00 := (hx 0 (by omega)).1
  have hspot : spot = none := by simpa [Addr.add] using World.cell?_spot h00
  subst hspot
  refine ⟨b, off, rfl, World.block_lt_of_cell? _ _ h00, World.block_lt_of_cell? _ _ h00, fun i hi => ?_⟩
  have hi' : i < len := by simpa using hi
  have h2 := (hx i (by omega)).1
  rw [Addr.add_lit] at h2
  rw [h2, hB i (by omega)]
  simp [List.getD, hi']
end
/-- How much the first items weigh. -/
def wei (xs : List It) : Nat := (xs.map fun t => min t.s.length 20001).sum
def fewB (xs : List It) : Bool := decide (xs.length ≤ 400) && decide (wei (xs.take 400) ≤ 20000)
theorem wei_take {xs : List It} {k : Nat} (h : k < xs.length) : wei (xs.take (k + 1)) = wei (xs.take k) + min (xs.getD k default).s.length 20001 := by
  have e : xs.take (k + 1) = xs.take k ++ [xs.getD k default] := by
    rw [List.take_add_one, List.getD_eq_getElem?_getD, List.getElem?_eq_getElem h]; rfl
  unfold wei
  rw [e, List.map_append, List.sum_append]
  simp
theorem wei_le (xs : List It) : wei xs ≤ xs.length * 20001 := by
  induction xs with
  | nil => simp [wei]
  | cons t r ih =>
    have e : wei (t :: r) = min t.s.length 20001 + wei r := rfl
    rw [e, List.length_cons, Nat.add_mul]
    omega
set_option maxRecDepth 100000 in
theorem few_any (ao : Option Addr) (cap : Nat) (xs : List It) (hm : xs.length ≤ 9223372036854775807) (w : World) (h : HasI w ao xs) (hwf : ∀ t ∈ xs, t.wf) :
    Calls Try.prog 12 #[.slice ao xs.length cap] w fun e w' => e = .returned (.bool (fewB xs)) ∧ w' = w := by
  have H := Lib.hid h
  have HW := Lib.hid hwf
  clear h hwf
  go_enter Try.func12, Try.ntmps12
  go_wp2
  go_loop [3, 4] (fun n i => ∃ k : Nat, k ≤ xs.length ∧ k ≤ 400 ∧ i = .int .i64 k ∧ n = .int .i64 (wei (xs.take k) : Nat)) (fun _ i => 400 - (intOf i).toNat)
  case atStart => exact ⟨0, Nat.zero_le _, Nat.zero_le _, rfl, rfl⟩
  case round =>
    obtain ⟨k, hk, hk4, rfl, rfl⟩ := hrel
    by_cases hlt : k < xs.length
    · by_cases hlt4 : k < 400
      · rcases H.out with h0 | ⟨b, off, rfl, hbl, hcell⟩
        · rw [h0] at hlt; simp at hlt
        have c4 := (hcell k hlt).c4
        have hw := (HW.out (xs.getD k default) (by rw [List.getD_eq_getElem?_getD, List.getElem?_eq_getElem hlt]; exact List.getElem_mem hlt)).2.2.2
        have hstep := wei_take hlt
        have hwl := wei_le (xs.take k)
        rw [List.length_take] at hwl
        generalize xs.getD k default = t at *
        have HS := Lib.hid hstep
        clear hstep hcell
        generalize hW : wei (xs.take k) = W at *
        have HWE := Lib.hid hW
        clear hW
        have HV : Hid (((W : Int) + if 20001 < (t.s.length : Int) then 20001 else (t.s.length : Int)) = ((W + min t.s.length 20001 : Nat) : Int)) := by
          show _ = _
          split <;> omega
        go_wp2
        exact ⟨⟨k + 1, by omega, by omega, by simp, by rw [HV.out, HS.out]⟩, by simp [intOf]; omega⟩
      · obtain rfl : k = 400 := by omega
        have hf : Hid (fewB xs = false) := by
          show _ = _
          unfold fewB
          rw [decide_eq_false (by omega), Bool.false_and]
        have hl4 : ¬ (xs.length : Int) ≤ 400 := by omega
        go_wp2
        go_ret
        rw [hf.out]
        exact ⟨rfl, rfl⟩
    · obtain rfl : k = xs.length := by omega
      rw [List.take_length]
      have hf : Hid (fewB xs = decide (((wei xs : Nat) : Int) ≤ 20000)) := by
        show _ = _
        unfold fewB
        rw [decide_eq_true (by omega), Bool.true_and, List.take_of_length_le hk4]
        by_cases h : wei xs ≤ 20000
        · rw [decide_eq_true h, decide_eq_true (by omega)]
        · rw [decide_eq_false h, decide_eq_false (by omega)]
      generalize wei xs = W at *
      have hl4 : (xs.length : Int) ≤ 400 := by omega
      go_wp2
      go_ret
      rw [hf.out]
      exact ⟨rfl, rfl⟩
/-- The bytes of an item. -/
def itB (t : It) : List UInt8 :=
  if t.k = 0 then vb (foldN t.n) else if t.k = 1 then [bif t.b then 1 else 0] else if t.k = 2 then w8 8 (canon t.x) else if t.k = 3 then vb (foldN (t.s.length : Int)) ++ t.s else []
theorem w8_length : ∀ k u, (w8 k u).length = k
  | 0, _ => rfl
  | k + 1, u => by simp [w8, w8_length k]
theorem itB_le {t : It} (h : t.wf) (hs : t.s.length < 9223372036854775808) : (itB t).length ≤ 10 + t.s.length := by
  have h1 := vb_len_le _ (foldN_lt h.2.1.1 h.2.1.2)
  have h2 := vb_len_le _ (foldN_lt (n := (t.s.length : Int)) (by omega) (by omega))
  unfold itB
  split
  · omega
  · split
    · simp; omega
    · split
      · rw [w8_length]; omega
      · split
        · rw [List.length_append]; omega
        · simp
theorem Moved.less {w : World} {o : Obj} {v v' : Value} (h : Moved (w.alloc o) v v') : Moved w v v' := h.imp id fun h k hk => by have := h k hk; simp at this; omega
set_option maxRecDepth 100000 in
theorem put_any {w : World} {p : Nat} {v : Value} {l : List UInt8} (h : Wr w p v l) (t : It) (ht : t.wf) (hroom : l.length + 10 + t.s.length ≤ 140737488355328) :
    Calls Try.prog 14 #[.pointer (some ⟨p, 0, none⟩), .agg #[.int .i64 t.k, .int .i64 t.n, .bool t.b, .float .f64 t.x, .string ⟨t.s.toArray⟩]] w fun e w' => e = .returned (.tuple #[]) ∧ ∃ v', Wr w' p v' (l ++ itB t) ∧ Fr (foot p v) w w' ∧ Moved w v v' := by
  obtain ⟨k, n, b, x, s⟩ := t
  obtain ⟨⟨k1, k2⟩, ⟨n1, n2⟩, hx, _⟩ := ht
  simp only at k1 k2 n1 n2 hx hroom
  have hlt := h.lt
  have hv := fun k hk => (h.own.lt k hk).2
  have H := fun o => Lib.hid (h.fr (fr_alloc w o) id (fun _ _ => id))
  have HV := Lib.hid hv
  clear h hv
  by_cases h0 : k = 0
  · subst h0
    have hit : itB ⟨0, n, b, x, s⟩ = vb (foldN n) := rfl
    rw [hit]
    go_enter Try.func14, Try.ntmps14
    go_wp2_with (first
      | (go_at_call 35; refine (wint_any (H _).out n n1 n2 (by omega)).mono ?_; rintro e w1 ⟨rfl, v1, h1, f1, m1⟩; have H1 := Lib.hid h1; have F1 := Lib.hid f1; have M1 := Lib.hid m1; clear h1 f1 m1))
    go_returns
    exact ⟨rfl, v1, H1.out, ((fr_alloc w _).mono (fun _ _ h => h.elim)).trans F1.out (fun _ _ h => h), M1.out.less⟩
  by_cases h1 : k = 1
  · subst h1
    have hit : itB ⟨1, n, b, x, s⟩ = [bif b then 1 else 0] := rfl
    rw [hit]
    go_enter Try.func14, Try.ntmps14
    go_wp2_with (first
      | (go_at_call 37; refine (wflag_any (H _).out b (by omega)).mono ?_; rintro e w1 ⟨rfl, v1, h1, f1, m1⟩; have H1 := Lib.hid h1; have F1 := Lib.hid f1; have M1 := Lib.hid m1; clear h1 f1 m1))
    go_returns
    exact ⟨rfl, v1, H1.out, ((fr_alloc w _).mono (fun _ _ h => h.elim)).trans F1.out (fun _ _ h => h), M1.out.less⟩
  by_cases h2 : k = 2
  · subst h2
    have hit : itB ⟨2, n, b, x, s⟩ = w8 8 (canon x) := rfl
    rw [hit]
    go_enter Try.func14, Try.ntmps14
    go_wp2_with (first
      | (go_at_call 36; refine (wfloat_any (H _).out x hx (by omega)).mono ?_; rintro e w1 ⟨rfl, v1, h1, f1, m1⟩; have H1 := Lib.hid h1; have F1 := Lib.hid f1; have M1 := Lib.hid m1; clear h1 f1 m1))
    go_returns
    exact ⟨rfl, v1, H1.out, ((fr_alloc w _).mono (fun _ _ h => h.elim)).trans F1.out (fun _ _ h => h), M1.out.less⟩
  by_cases h3 : k = 3
  · subst h3
    have hit : itB ⟨3, n, b, x, s⟩ = vb (foldN (s.length : Int)) ++ s := rfl
    rw [hit]
    go_enter Try.func14, Try.ntmps14
    go_wp2_with (first
      | (go_at_call 38; refine (wtext_any (H _).out s (by omega)).mono ?_; rintro e w1 ⟨rfl, v1, h1, f1, m1⟩; have H1 := Lib.hid h1; have F1 := Lib.hid f1; have M1 := Lib.hid m1; clear h1 f1 m1))
    go_returns
    exact ⟨rfl, v1, H1.out, ((fr_alloc w _).mono (fun _ _ h => h.elim)).trans F1.out (fun _ _ h => h), M1.out.less⟩
  have hit : itB ⟨k, n, b, x, s⟩ = [] := by unfold itB; simp only; rw [if_neg h0, if_neg h1, if_neg h2, if_neg h3]
  rw [hit, List.append_nil]
  have b0 : (k == 0) = false := by rw [beq_eq_false_iff_ne]; exact h0
  have b1 : (k == 1) = false := by rw [beq_eq_false_iff_ne]; exact h1
  have b2 : (k == 2) = false := by rw [beq_eq_false_iff_ne]; exact h2
  have b3 : (k == 3) = false := by rw [beq_eq_false_iff_ne]; exact h3
  clear h0 h1 h2 h3
  go_enter Try.func14, Try.ntmps14
  go_wp2
  go_returns
  exact ⟨rfl, v, (H _).out, (Fr.refl _ w).alloc _, .inl rfl⟩
end Go.Proofs.Ytioopibmpcbcjaa
