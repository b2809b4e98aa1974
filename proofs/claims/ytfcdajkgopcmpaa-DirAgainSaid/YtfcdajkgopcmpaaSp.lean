/- place.Split and raceref4.Split. Conditions: bits below 2^64. -/
import Derived.Test.YtfcdajkgopcmpaaRa
import Derived.Laws.ResultCell
namespace Go.Proofs.Ytfcdajkgopcmpaa
open Go.RowKit
theorem at_three (w : World) (a b c : RV) : At (((w.alloc (robj a)).alloc (robj b)).alloc (robj c)) w.heap.size a ∧ At (((w.alloc (robj a)).alloc (robj b)).alloc (robj c)) (w.heap.size + 1) b ∧ At (((w.alloc (robj a)).alloc (robj b)).alloc (robj c)) (w.heap.size + 1 + 1) c := by
  have h2 := at_new (w.alloc (robj a)) b
  have h3 := at_new ((w.alloc (robj a)).alloc (robj b)) c
  refine ⟨((at_new w a).alloc _).alloc _, ?_, ?_⟩
  · have := h2.alloc (robj c)
    simpa using this
  · simpa using h3
theorem run_stf (W : World) (a : Addr) (x : Nat) : (store a (.float .f64 x)).run Try.prog W = stored Try.prog W a (.float .f64 x) .plain := run_store _ _ _ _ _ rfl
theorem load_at {w : World} {b : Nat} {r : RV} (h : At w b r) : (loadVar 37 ⟨b, 0, none⟩).run Try.prog w = .ok (ragg r) w := by
  have c0 := h.c0
  have c1 := h.c1
  have c2 := h.c2
  have c3 := h.c3
  go_simp
theorem cell_set4 {w : World} {b : Nat} {x y z u x' y' z' u' : Value} (h0 : w.cell? ⟨b, 0, none⟩ = some x) (h1 : w.cell? ⟨b, 1, none⟩ = some y) (h2 : w.cell? ⟨b, 2, none⟩ = some z) (h3 : w.cell? ⟨b, 3, none⟩ = some u) :
    ((((w.setCell ⟨b, 0, none⟩ x').setCell ⟨b, 1, none⟩ y').setCell ⟨b, 2, none⟩ z').setCell ⟨b, 3, none⟩ u').cell? ⟨b, 0, none⟩ = some x' ∧ ((((w.setCell ⟨b, 0, none⟩ x').setCell ⟨b, 1, none⟩ y').setCell ⟨b, 2, none⟩ z').setCell ⟨b, 3, none⟩ u').cell? ⟨b, 1, none⟩ = some y' ∧
      ((((w.setCell ⟨b, 0, none⟩ x').setCell ⟨b, 1, none⟩ y').setCell ⟨b, 2, none⟩ z').setCell ⟨b, 3, none⟩ u').cell? ⟨b, 2, none⟩ = some z' ∧ ((((w.setCell ⟨b, 0, none⟩ x').setCell ⟨b, 1, none⟩ y').setCell ⟨b, 2, none⟩ z').setCell ⟨b, 3, none⟩ u').cell? ⟨b, 3, none⟩ = some u' := by
  have n (i j : Nat) (h : i ≠ j) : (⟨b, i, none⟩ : Addr) ≠ ⟨b, j, none⟩ := fun e => h (congrArg Addr.off e)
  refine ⟨?_, ?_, ?_, ?_⟩
  · rw [World.cell?_setCell_other (h := n 3 0 (by decide)), World.cell?_setCell_other (h := n 2 0 (by decide)), World.cell?_setCell_other (h := n 1 0 (by decide)), World.cell?_setCell_same (h := h0)]
  · rw [World.cell?_setCell_other (h := n 3 1 (by decide)), World.cell?_setCell_other (h := n 2 1 (by decide)), World.cell?_setCell_same (u := y) (h := by rw [World.cell?_setCell_other (h := n 0 1 (by decide))]; exact h1)]
  · rw [World.cell?_setCell_other (h := n 3 2 (by decide)), World.cell?_setCell_same (u := z) (h := by rw [World.cell?_setCell_other (h := n 1 2 (by decide)), World.cell?_setCell_other (h := n 0 2 (by decide))]; exact h2)]
  · rw [World.cell?_setCell_same (u := u) (h := by rw [World.cell?_setCell_other (h := n 2 3 (by decide)), World.cell?_setCell_other (h := n 1 3 (by decide)), World.cell?_setCell_other (h := n 0 3 (by decide))]; exact h3)]
abbrev set4 (w : World) (b : Nat) (r : RV) : World := (((w.setCell ⟨b, 0, none⟩ (.int .i64 r.i)).setCell ⟨b, 1, none⟩ (.int .i64 r.e)).setCell ⟨b, 2, none⟩ (.float .f64 r.lo)).setCell ⟨b, 3, none⟩ (.float .f64 r.hi)
theorem At.setAll {w : World} {b : Nat} {r : RV} (h : At w b r) (u : RV) : At (set4 w b u) b u := by
  obtain ⟨e0, e1, e2, e3⟩ := cell_set4 (x' := .int .i64 u.i) (y' := .int .i64 u.e) (z' := .float .f64 u.lo) (u' := .float .f64 u.hi) h.c0 h.c1 h.c2 h.c3
  exact ⟨World.block_lt_of_cell? _ _ e0, e0, e1, e2, e3, by simp [h.f0], by simp [h.f1], by simp [h.f2], by simp [h.f3]⟩
theorem set4_cell (w : World) {b : Nat} (u : RV) {g : Nat} (h : g ≠ b) (o : Nat) : (set4 w b u).cell? ⟨g, o, none⟩ = w.cell? ⟨g, o, none⟩ := by
  have n (j : Nat) : (⟨b, j, none⟩ : Addr) ≠ ⟨g, o, none⟩ := fun e => h (congrArg Addr.block e).symm
  unfold set4
  rw [World.cell?_setCell_other (h := n 3), World.cell?_setCell_other (h := n 2), World.cell?_setCell_other (h := n 1), World.cell?_setCell_other (h := n 0)]
theorem At.set_other {w : World} {b g : Nat} {r : RV} (h : At w g r) (u : RV) (hg : g ≠ b) : At (set4 w b u) g r := by
  have e0 := (set4_cell w u hg 0).trans h.c0
  exact ⟨World.block_lt_of_cell? _ _ e0, e0, (set4_cell w u hg 1).trans h.c1, (set4_cell w u hg 2).trans h.c2, (set4_cell w u hg 3).trans h.c3, by simp [set4, h.f0], by simp [set4, h.f1], by simp [set4, h.f2], by simp [set4, h.f3]⟩
theorem below_set4 {B : Nat} {w w' : World} {b : Nat} (h : Below B w w') (hb : B ≤ b) (r : RV) : Below B w (set4 w' b r) :=
  (((h.setCell (p := ⟨b, 0, none⟩) hb _).setCell (p := ⟨b, 1, none⟩) hb _).setCell (p := ⟨b, 2, none⟩) hb _).setCell (p := ⟨b, 3, none⟩) hb _
theorem res_three {fn : Func} {p q u : Tmp} (h : fn.results = #[.cell p 37, .cell q 37, .tmp u]) (tmps : Array Value) {b c : Nat} {r s : RV} {w : World} (hp : tmps.getD p undef = .pointer (some ⟨b, 0, none⟩)) (hq : tmps.getD q undef = .pointer (some ⟨c, 0, none⟩)) (hA : At w b r) (hB : At w c s) :
    (results fn tmps).run Try.prog w = .ok (.tuple #[ragg r, ragg s, tmps.getD u undef]) w := by
  have l1 := load_at hA
  have l2 := load_at hB
  simp only [Array.getD_eq_getD_getElem?] at hp hq
  simp only [results, h]
  simp [Sem.run_bind, Result.andThen, hp, hq, asAddr, l1, l2]
def okSplit (r : RV) (x : Nat) (c : Int) : Bool := mayV r && (!(r.e == 9223372036854775807) && (idB c && (!(c == r.i) && ptB x)))
def splitV (r : RV) (x : Nat) (c : Int) : RV × RV × Int :=
  if okSplit r x c = true then (if betB r.lo x r.hi = true then (⟨r.i, r.e + 1, r.lo, x⟩, ⟨c, 0, x, r.hi⟩, 0) else (RV.zero, RV.zero, 24)) else (RV.zero, RV.zero, 1)
theorem may_pts {r : RV} (h : mayV r = true) : ptB r.lo = true ∧ ptB r.hi = true ∧ r.lo < r.hi ∧ 1 ≤ r.i ∧ r.i ≤ 12 ∧ 0 ≤ r.e := by
  unfold mayV idB at h
  simp only [Bool.and_eq_true, decide_eq_true_eq] at h
  exact ⟨h.2.2.1, h.2.2.2.1, h.2.2.2.2, h.1.1, h.1.2, h.2.1⟩
end Go.Proofs.Ytfcdajkgopcmpaa
