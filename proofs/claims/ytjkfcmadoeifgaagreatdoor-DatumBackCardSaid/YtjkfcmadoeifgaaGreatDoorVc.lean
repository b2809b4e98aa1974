/- datum.Plus. Values that lie in a block of their own. Conditions: none. -/
import Derived.Test.YtjkfcmadoeifgaaGreatDoorVb
import Derived.Test.YtjkfcmadoeifgaaGreatDoorW
import Derived.Laws.ResultCell
namespace Go.Proofs.YtjkfcmadoeifgaaGreatDoor
open Go.RowKit
/-- A value in a block of its own. -/
structure At (w : World) (b : Nat) (v : DV) : Prop where
  lt : b < w.heap.size
  c0 : w.cell? ⟨b, 0, none⟩ = some (.int .i64 v.k)
  c1 : w.cell? ⟨b, 1, none⟩ = some (.float .f64 v.x)
  c2 : w.cell? ⟨b, 2, none⟩ = some (.string ⟨v.s.toArray⟩)
  f0 : w.frozen? ⟨b, 0, none⟩ = false
  f1 : w.frozen? ⟨b, 1, none⟩ = false
  f2 : w.frozen? ⟨b, 2, none⟩ = false
abbrev vobj (v : DV) : Obj := .cells #[.int .i64 v.k, .float .f64 v.x, .string ⟨v.s.toArray⟩] 24
theorem At.below {B : Nat} {w w' : World} {b : Nat} {v : DV} (h : At w b v) (hb : Below B w w') (hl : b < B) : At w' b v :=
  ⟨Nat.lt_of_lt_of_le h.lt hb.size, (hb.cell hl).trans h.c0, (hb.cell hl).trans h.c1, (hb.cell hl).trans h.c2, (hb.frozen hl).trans h.f0, (hb.frozen hl).trans h.f1, (hb.frozen hl).trans h.f2⟩
theorem at_new (w : World) (v : DV) : At (w.alloc (vobj v)) w.heap.size v :=
  ⟨by simp, by simp [World.cell?_alloc_new], by simp [World.cell?_alloc_new], by simp [World.cell?_alloc_new], World.frozen?_alloc_new _ _ _ _, World.frozen?_alloc_new _ _ _ _, World.frozen?_alloc_new _ _ _ _⟩
theorem At.alloc {w : World} {b : Nat} {v : DV} (h : At w b v) (o : Obj) : At (w.alloc o) b v := h.below (below1 w o) h.lt
theorem at_two (w : World) (a b : DV) : At ((w.alloc (vobj a)).alloc (vobj b)) w.heap.size a ∧ At ((w.alloc (vobj a)).alloc (vobj b)) (w.heap.size + 1) b := by
  refine ⟨(at_new w a).alloc _, ?_⟩
  have := at_new (w.alloc (vobj a)) b
  simpa using this
theorem at_three (w : World) (a b c : DV) : At (((w.alloc (vobj a)).alloc (vobj b)).alloc (vobj c)) w.heap.size a ∧ At (((w.alloc (vobj a)).alloc (vobj b)).alloc (vobj c)) (w.heap.size + 1) b ∧ At (((w.alloc (vobj a)).alloc (vobj b)).alloc (vobj c)) (w.heap.size + 1 + 1) c := by
  refine ⟨(at_two w a b).1.alloc _, (at_two w a b).2.alloc _, ?_⟩
  have := at_new ((w.alloc (vobj a)).alloc (vobj b)) c
  simpa using this
theorem below3 (w : World) (o o' o'' : Obj) : Below w.heap.size w (((w.alloc o).alloc o').alloc o'') := (below2 w o o').alloc (below2 w o o').size o''
theorem load_at {w : World} {b : Nat} {v : DV} (h : At w b v) : (loadVar 24 ⟨b, 0, none⟩).run Tryz.prog w = .ok (vagg v) w := by
  have c0 := h.c0
  have c1 := h.c1
  have c2 := h.c2
  go_simp
theorem cell_set3 {w : World} {b : Nat} {x y z x' y' z' : Value} (h0 : w.cell? ⟨b, 0, none⟩ = some x) (h1 : w.cell? ⟨b, 1, none⟩ = some y) (h2 : w.cell? ⟨b, 2, none⟩ = some z) :
    (((w.setCell ⟨b, 0, none⟩ x').setCell ⟨b, 1, none⟩ y').setCell ⟨b, 2, none⟩ z').cell? ⟨b, 0, none⟩ = some x' ∧ (((w.setCell ⟨b, 0, none⟩ x').setCell ⟨b, 1, none⟩ y').setCell ⟨b, 2, none⟩ z').cell? ⟨b, 1, none⟩ = some y' ∧
      (((w.setCell ⟨b, 0, none⟩ x').setCell ⟨b, 1, none⟩ y').setCell ⟨b, 2, none⟩ z').cell? ⟨b, 2, none⟩ = some z' := by
  have n10 : (⟨b, 1, none⟩ : Addr) ≠ ⟨b, 0, none⟩ := by simp
  have n20 : (⟨b, 2, none⟩ : Addr) ≠ ⟨b, 0, none⟩ := by simp
  have n21 : (⟨b, 2, none⟩ : Addr) ≠ ⟨b, 1, none⟩ := by simp
  refine ⟨?_, ?_, ?_⟩
  · rw [World.cell?_setCell_other (h := n20), World.cell?_setCell_other (h := n10), World.cell?_setCell_same (h := h0)]
  · rw [World.cell?_setCell_other (h := n21), World.cell?_setCell_same (u := y) (h := by rw [World.cell?_setCell_other (h := n10.symm)]; exact h1)]
  · rw [World.cell?_setCell_same (u := z) (h := by rw [World.cell?_setCell_other (h := n21.symm), World.cell?_setCell_other (h := n20.symm)]; exact h2)]
theorem At.setAll {w : World} {b : Nat} {v : DV} (h : At w b v) (u : DV) : At (((w.setCell ⟨b, 0, none⟩ (.int .i64 u.k)).setCell ⟨b, 1, none⟩ (.float .f64 u.x)).setCell ⟨b, 2, none⟩ (.string ⟨u.s.toArray⟩)) b u := by
  obtain ⟨e0, e1, e2⟩ := cell_set3 (x' := .int .i64 u.k) (y' := .float .f64 u.x) (z' := .string ⟨u.s.toArray⟩) h.c0 h.c1 h.c2
  exact ⟨World.block_lt_of_cell? _ _ e0, e0, e1, e2, by simp [h.f0], by simp [h.f1], by simp [h.f2]⟩
theorem below_set3 {B : Nat} {w w' : World} {b : Nat} (h : Below B w w') (hb : B ≤ b) (x y z : Value) : Below B w (((w'.setCell ⟨b, 0, none⟩ x).setCell ⟨b, 1, none⟩ y).setCell ⟨b, 2, none⟩ z) :=
  ((h.setCell (p := ⟨b, 0, none⟩) hb x).setCell (p := ⟨b, 1, none⟩) hb y).setCell (p := ⟨b, 2, none⟩) hb z
theorem res_pair {fn : Func} {p u : Tmp} (h : fn.results = #[.cell p 24, .tmp u]) (tmps : Array Value) {b : Nat} {v : DV} {w : World} (hp : tmps.getD p undef = .pointer (some ⟨b, 0, none⟩)) (hA : At w b v) :
    (results fn tmps).run Tryz.prog w = .ok (.tuple #[vagg v, tmps.getD u undef]) w := by
  rw [results_cell_tmp h, hp]
  have hl := load_at hA
  simp only [asAddr, Sem.run_pure, Result.andThen, hl]
def plusV (a b : DV) : DV × Int := if (addV a).2 && (addV b).2 then (⟨1, canon (resN (Ieee.double.add (addV a).1 (addV b).1)), []⟩, 0) else (DV.none, 23)
theorem plus_any (a b : DV) (w : World) : Calls Tryz.prog 8 #[vagg a, vagg b] w fun e w' => e = .returned (.tuple #[vagg (plusV a b).1, .int .i64 (plusV a b).2]) ∧ Below w.heap.size w w' := by
  have hst := run_stf
  have hA := addend_any a
  have hB := addend_any b
  have hp : plusV a b = if (addV a).2 && (addV b).2 then (⟨1, canon (resN (Ieee.double.add (addV a).1 (addV b).1)), []⟩, 0) else (DV.none, 23) := rfl
  rw [hp]
  clear hp
  obtain ⟨k, x, s⟩ := a
  obtain ⟨l, y, t⟩ := b
  generalize addV ⟨k, x, s⟩ = A at *
  generalize addV ⟨l, y, t⟩ = B at *
  obtain ⟨p, i⟩ := A
  obtain ⟨q, j⟩ := B
  have HA := fun w => Lib.hid (hA w)
  have HB := fun w => Lib.hid (hB w)
  have hT := at_three w ⟨k, x, s⟩ ⟨l, y, t⟩ DV.none
  have H3 := Lib.hid (below3 w (vobj ⟨k, x, s⟩) (vobj ⟨l, y, t⟩) (vobj DV.none))
  have HT := Lib.hid hT
  clear hA hB hT
  simp only
  cases i <;> cases j
  case true.true =>
    go_enter Tryz.func8, Tryz.ntmps8
    go_wp2_with (first
      | (go_at_call 32; ((with_reducible refine (HA _).out.mono ?_); rintro e w1 ⟨rfl, hb⟩; have hy := HT.out.2.1.below hb (by simp); have hz := HT.out.2.2.below hb (by simp); have d0 := hy.c0; have d1 := hy.c1; have d2 := hy.c2; have HZ := Lib.hid hz; have HB1 := Lib.hid (H3.out.trans (hb.mono H3.out.size)); clear hb hz hy))
      | (go_at_call 32; ((with_reducible refine (HB _).out.mono ?_); rintro e w2 ⟨rfl, hb⟩; have HZ2 := Lib.hid (HZ.out.below hb HZ.out.lt); have HB2 := Lib.hid (HB1.out.trans (hb.mono HB1.out.size)); clear hb))
      | (go_at_call 33; refine (add_any _ _ _).mono ?_; rintro e w3 ⟨rfl, hb0⟩; have hb := drew_below hb0; have HZ3 := Lib.hid (HZ2.out.below hb HZ2.out.lt); have HB3 := Lib.hid (HB2.out.trans (hb.mono HB2.out.size)); clear hb hb0)
      | (go_at_call 30; refine (number_any _ _).mono ?_; rintro e w4 ⟨rfl, hb⟩; have hz := (HZ3.out.below hb HZ3.out.lt); have d3 := hz.c0; have d4 := hz.c1; have d5 := hz.c2; have g0 := hz.f0; have g1 := hz.f1; have g2 := hz.f2; have HZ4 := Lib.hid hz; have HB4 := Lib.hid (HB3.out.trans (hb.mono HB3.out.size)); clear hb hz))
    exact bodyPost_ret (res_pair rfl _ rfl (HZ4.out.setAll ⟨1, _, []⟩)) rfl ⟨rfl, below_set3 HB4.out (by omega) _ _ _⟩
  case true.false =>
    go_enter Tryz.func8, Tryz.ntmps8
    go_wp2_with (first
      | (go_at_call 32; ((with_reducible refine (HA _).out.mono ?_); rintro e w1 ⟨rfl, hb⟩; have hy := HT.out.2.1.below hb (by simp); have hz := HT.out.2.2.below hb (by simp); have d0 := hy.c0; have d1 := hy.c1; have d2 := hy.c2; have HZ := Lib.hid hz; have HB1 := Lib.hid (H3.out.trans (hb.mono H3.out.size)); clear hb hz hy))
      | (go_at_call 32; ((with_reducible refine (HB _).out.mono ?_); rintro e w2 ⟨rfl, hb⟩; have hz := HZ.out.below hb HZ.out.lt; have d3 := hz.c0; have d4 := hz.c1; have d5 := hz.c2; have g0 := hz.f0; have g1 := hz.f1; have g2 := hz.f2; have HZ4 := Lib.hid hz; have HB2 := Lib.hid (HB1.out.trans (hb.mono HB1.out.size)); clear hb hz)))
    exact bodyPost_ret (res_pair rfl _ rfl (HZ4.out.setAll DV.none)) rfl ⟨rfl, below_set3 HB2.out (by omega) _ _ _⟩
  case false.true =>
    go_enter Tryz.func8, Tryz.ntmps8
    go_wp2_with (first
      | (go_at_call 32; ((with_reducible refine (HA _).out.mono ?_); rintro e w1 ⟨rfl, hb⟩; have hy := HT.out.2.1.below hb (by simp); have hz := HT.out.2.2.below hb (by simp); have d0 := hy.c0; have d1 := hy.c1; have d2 := hy.c2; have HZ := Lib.hid hz; have HB1 := Lib.hid (H3.out.trans (hb.mono H3.out.size)); clear hb hz hy))
      | (go_at_call 32; ((with_reducible refine (HB _).out.mono ?_); rintro e w2 ⟨rfl, hb⟩; have hz := HZ.out.below hb HZ.out.lt; have d3 := hz.c0; have d4 := hz.c1; have d5 := hz.c2; have g0 := hz.f0; have g1 := hz.f1; have g2 := hz.f2; have HZ4 := Lib.hid hz; have HB2 := Lib.hid (HB1.out.trans (hb.mono HB1.out.size)); clear hb hz)))
    exact bodyPost_ret (res_pair rfl _ rfl (HZ4.out.setAll DV.none)) rfl ⟨rfl, below_set3 HB2.out (by omega) _ _ _⟩
  case false.false =>
    go_enter Tryz.func8, Tryz.ntmps8
    go_wp2_with (first
      | (go_at_call 32; ((with_reducible refine (HA _).out.mono ?_); rintro e w1 ⟨rfl, hb⟩; have hy := HT.out.2.1.below hb (by simp); have hz := HT.out.2.2.below hb (by simp); have d0 := hy.c0; have d1 := hy.c1; have d2 := hy.c2; have HZ := Lib.hid hz; have HB1 := Lib.hid (H3.out.trans (hb.mono H3.out.size)); clear hb hz hy))
      | (go_at_call 32; ((with_reducible refine (HB _).out.mono ?_); rintro e w2 ⟨rfl, hb⟩; have hz := HZ.out.below hb HZ.out.lt; have d3 := hz.c0; have d4 := hz.c1; have d5 := hz.c2; have g0 := hz.f0; have g1 := hz.f1; have g2 := hz.f2; have HZ4 := Lib.hid hz; have HB2 := Lib.hid (HB1.out.trans (hb.mono HB1.out.size)); clear hb hz)))
    exact bodyPost_ret (res_pair rfl _ rfl (HZ4.out.setAll DV.none)) rfl ⟨rfl, below_set3 HB2.out (by omega) _ _ _⟩
end Go.Proofs.YtjkfcmadoeifgaaGreatDoor
