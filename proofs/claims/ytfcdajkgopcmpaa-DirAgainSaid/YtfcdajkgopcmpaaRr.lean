/- A row of ranges that came in. Conditions: none. -/
import Derived.Test.YtfcdajkgopcmpaaOp
import Derived.Deep.Slices
import Derived.Deep.SlicePairs
namespace Go.Proofs.Ytfcdajkgopcmpaa
open Go.ChangeShapes Go.WideShapes Go.ChangeAt Go.RowKit Go.Deep
/-- Range i's cells of a row that lies at a place. -/
structure RAt (w : World) (b o : Nat) (r : RV) : Prop where
  c0 : w.cell? ⟨b, o, none⟩ = some (.int .i64 r.i)
  c1 : w.cell? ⟨b, o + 1, none⟩ = some (.int .i64 r.e)
  c2 : w.cell? ⟨b, o + 2, none⟩ = some (.float .f64 r.lo)
  c3 : w.cell? ⟨b, o + 3, none⟩ = some (.float .f64 r.hi)
/-- A slice of ranges: its cells, where it has any, in blocks that P names. -/
def HasR (P : Nat → Prop) (w : World) (v : Value) (l : List RV) : Prop :=
  ∃ ao cap, v = .slice ao l.length cap ∧ l.length ≤ cap ∧ cap ≤ maxLen ∧ (ao = none → cap = 0 ∧ l = []) ∧
    (l = [] ∨ ∃ b o, ao = some ⟨b, o, none⟩ ∧ P b ∧ b < w.heap.size ∧ ∀ i, (h : i < l.length) → RAt w b (o + i * 4) l[i])
theorem RAt.below {B : Nat} {w w' : World} {b o : Nat} {r : RV} (h : RAt w b o r) (hb : Below B w w') (hl : b < B) : RAt w' b o r :=
  ⟨(hb.cell hl).trans h.c0, (hb.cell hl).trans h.c1, (hb.cell hl).trans h.c2, (hb.cell hl).trans h.c3⟩
theorem HasR.below {P : Nat → Prop} {w w' : World} {v : Value} {l : List RV} (h : HasR P w v l) (hb : Below w.heap.size w w') : HasR P w' v l := by
  obtain ⟨ao, cap, hv, h1, h2, h3, h4⟩ := h
  refine ⟨ao, cap, hv, h1, h2, h3, ?_⟩
  rcases h4 with h4 | ⟨b, o, h4, h5, h6, h7⟩
  · exact .inl h4
  · exact .inr ⟨b, o, h4, h5, Nat.lt_of_lt_of_le h6 hb.size, fun i hi => (h7 i hi).below hb h6⟩
section
variable {H : Type} {enc : TypeId × Value → H} {w : World} {base : Nat} {spare : Nat → Bool} {held : Bool}
instance : Inhabited RV := ⟨RV.zero⟩
set_option maxRecDepth 100000 in
theorem range_cells {n : Nat} {b o : Nat} {cs : List Value} {y : DataW H × List MemPlace} (h1 : w.cells? base ⟨b, o, none⟩ 4 = some cs) (h : DataW.trod enc Try.prog w base spare held n 37 cs = some y) :
    ∃ rv : RV, rv.wf ∧ RAt w b o rv := by
  obtain ⟨_, hlen, hcell⟩ := World.cells?_some h1
  obtain ⟨xs, k, hk, hxy, _, hxl, hf⟩ := DataW.trod_struct Try.underlying37 h
  match xs, hxl, cs, hlen with
  | [y0, y1, y2, y3], _, [v0, v1, v2, v3], _ =>
    have g0 := hf 0 _ rfl
    have g1 := hf 1 _ rfl
    have g2 := hf 2 _ rfl
    have g3 := hf 3 _ rfl
    have q0 : Try.prog.cellsOf 3 = 1 := by kernel_rfl
    have q1 : Try.prog.cellsOf 35 = 1 := by kernel_rfl
    simp [q0, q1] at g0 g1 g2 g3
    have e0 := hcell 0 (by omega)
    have e1 := hcell 1 (by omega)
    have e2 := hcell 2 (by omega)
    have e3 := hcell 3 (by omega)
    rw [add_plain] at e0 e1 e2 e3
    obtain ⟨k0, f0, rfl, wf0⟩ := DataW.trod_int Try.underlying3 g0
    obtain ⟨k1, f1, rfl, wf1⟩ := DataW.trod_int Try.underlying3 g1
    obtain ⟨k2, rfl, rfl, wf2⟩ := trod_float Try.underlying35 g2
    obtain ⟨k3, rfl, rfl, wf3⟩ := trod_float Try.underlying35 g3
    simp at f0 f1
    subst f0 f1
    simp [Lit.wf, IntKind.min, IntKind.max, IntKind.signed, IntKind.bits] at wf0 wf1 wf2 wf3
    exact ⟨⟨k0, k1, k2, k3⟩, ⟨⟨by simp only; omega, by simp only; omega⟩, ⟨by simp only; omega, by simp only; omega⟩, by simp only; omega, by simp only; omega⟩, by simpa using e0, by simpa using e1, by simpa using e2, by simpa using e3⟩
set_option maxRecDepth 100000 in
theorem open_ranges {fuel : Nat} {v : Value} {x : DataW H × List MemPlace} (h : DataW.trod enc Try.prog w base (fun _ => true) held fuel 22 [v] = some x) :
    ∃ l : List RV, HasR (fun k => k < w.heap.size) w v l ∧ (∀ r ∈ l, r.wf) ∧ l.length ≤ maxLen := by
  rcases open_slice Try.underlying22 h with ⟨h0, _⟩ | ⟨a, len, cap, m, n, D, Pl, h0, hb, hl, hm, hmm, rfl, hx⟩
  · exact ⟨[], ⟨none, 0, by simpa using h0, Nat.le_refl _, Nat.zero_le _, fun _ => ⟨rfl, rfl⟩, .inl rfl⟩, ⟨(fun r h => absurd h (List.not_mem_nil)), Nat.zero_le _⟩⟩
  simp only [if_true] at hmm
  subst hmm
  have q : Try.prog.cellsOf 37 = 4 := by kernel_rfl
  rw [q] at hx
  obtain ⟨b, o, spot⟩ := a
  by_cases h1 : len = 0
  · subst h1
    exact ⟨[], ⟨some ⟨b, o, spot⟩, m, by simpa using h0, Nat.zero_le _, hm, (fun h => by cases h), .inl rfl⟩, ⟨(fun r h => absurd h (List.not_mem_nil)), Nat.zero_le _⟩⟩
  have hspot : spot = none := by
    obtain ⟨cs, h2, _⟩ := hx 0 (by omega)
    obtain ⟨_, hlen, hcell⟩ := World.cells?_some h2
    have := hcell 0 (by omega)
    match cs, hlen with
    | v0 :: _, _ => simpa [Addr.add] using World.cell?_spot (show w.cell? _ = some v0 from this)
  subst hspot
  obtain ⟨R, hR⟩ := choose_lt (α := RV) (n := m) (p := fun i r => r.wf ∧ RAt w b (o + i * 4) r) (fun i hi => by
    obtain ⟨cs, h2, h3⟩ := hx i hi
    rw [add_plain] at h2
    exact range_cells h2 h3)
  refine ⟨(List.range len).map R, ⟨some ⟨b, o, none⟩, m, by simpa using h0, by simpa using hl, hm, (fun h => by cases h), .inr ⟨b, o, rfl, ?_, ?_, fun i hi => ?_⟩⟩, ?_, by simp; omega⟩
  · exact World.block_lt_of_cell? _ _ (hR 0 (by omega)).2.c0
  · exact World.block_lt_of_cell? _ _ (hR 0 (by omega)).2.c0
  · have hi' : i < len := by simpa using hi
    rw [List.getElem_map, List.getElem_range]
    exact (hR i (by omega)).2
  · intro r hr
    obtain ⟨i, hi, rfl⟩ := List.mem_map.1 hr
    exact (hR i (by have := List.mem_range.1 hi; omega)).1
end
end Go.Proofs.Ytfcdajkgopcmpaa
