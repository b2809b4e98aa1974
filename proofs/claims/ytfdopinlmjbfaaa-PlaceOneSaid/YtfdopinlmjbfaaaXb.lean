/- Slices of ints, of floats, of strings that came in. Conditions: none of its own. -/
import Derived.Test.YtfdopinlmjbfaaaRr
namespace Go.Proofs.Ytfdopinlmjbfaaa
open Go.ChangeShapes Go.WideShapes Go.ChangeAt Go.RowKit Go.Deep
/-- A slice of what takes one cell each, as it reads; what is read lies below block B. -/
structure XB {α : Type} (f : α → Value) (d : α) (B : Nat) (w : World) (ao : Option Addr) (n cap : Nat) (l : List α) : Prop where
  len : n = l.length
  le : n ≤ cap
  max : cap ≤ maxLen
  cells : n = 0 ∨ ∃ b off, ao = some ⟨b, off, none⟩ ∧ b < B ∧ ∀ i, i < n → w.cell? ⟨b, off + i, none⟩ = some (f (l.getD i d))
section
variable {α : Type} {f : α → Value} {d : α} {B : Nat} {w w' : World} {ao : Option Addr} {n cap : Nat} {l : List α}
theorem XB.below (h : XB f d B w ao n cap l) (hb : Below B w w') : XB f d B w' ao n cap l := by
  refine ⟨h.len, h.le, h.max, ?_⟩
  rcases h.cells with h0 | ⟨b, off, rfl, hB, hc⟩
  · exact .inl h0
  · exact .inr ⟨b, off, rfl, hB, fun i hi => (hb.cell (p := ⟨b, off + i, none⟩) hB).trans (hc i hi)⟩
theorem XB.at_ (h : XB f d B w ao n cap l) {i : Nat} (hi : i < n) : ∃ b off, ao = some ⟨b, off, none⟩ ∧ w.cell? ⟨b, off + i, none⟩ = some (f (l.getD i d)) := by
  rcases h.cells with h0 | ⟨b, off, rfl, hB, hcell⟩
  · omega
  · exact ⟨b, off, rfl, hcell i hi⟩
theorem XB.lt (h : XB f d B w ao n cap l) : n ≤ 9223372036854775807 := by have := h.le; have := h.max; unfold maxLen at this; omega
end
section
variable {H : Type} {enc : TypeId × Value → H} {w : World} {base : Nat} {held : Bool}
theorem open_xb {α : Type} (f : α → Value) (d : α) (T E : TypeId) {fuel : Nat} {v : Value} {x : DataW H × List MemPlace} (hT : Try.prog.underlying T = some (.slice E)) (hE : Try.prog.cellsOf E = 1)
    (hf : ∀ (n : Nat) (v : Value) (y : DataW H × List MemPlace), DataW.trod enc Try.prog w base (fun _ => true) held n E [v] = some y → ∃ a, v = f a)
    (h : DataW.trod enc Try.prog w base (fun _ => true) held fuel T [v] = some x) :
    ∃ ao cap l, v = .slice ao l.length cap ∧ XB f d w.heap.size w ao l.length cap l := by
  rcases Go.Deep.open_slice1 hT hE h with ⟨h0, _⟩ | ⟨a, len, cap, m, n, V, D, Pl, h0, hb, hl, hm, hmm, rfl, hx⟩
  · simp at h0
    subst h0
    exact ⟨none, 0, [], rfl, rfl, Nat.le_refl _, by decide, .inl rfl⟩
  simp only [if_true] at hmm
  subst hmm
  simp at h0
  subst h0
  have : Inhabited α := ⟨d⟩
  obtain ⟨F, hF⟩ := Go.Deep.choose_lt (α := α) (p := fun i a => V i = f a) (fun i hi => hf _ _ _ (hx i hi).2)
  have hlen : ((List.range len).map F).length = len := by simp
  refine ⟨some a, m, (List.range len).map F, by rw [hlen], by rw [hlen], by rw [hlen]; exact hl, hm, ?_⟩
  rw [hlen]
  by_cases h1 : len = 0
  · exact .inl h1
  right
  obtain ⟨b, off, spot⟩ := a
  have h00 := (hx 0 (by omega)).1
  have hspot : spot = none := by simpa [Addr.add] using World.cell?_spot h00
  subst hspot
  refine ⟨b, off, rfl, World.block_lt_of_cell? _ _ h00, fun i hi => ?_⟩
  have h2 := (hx i (by omega)).1
  rw [Addr.add_lit] at h2
  have e : ((List.range len).map F).getD i d = F i := by simp [List.getD, hi]
  rw [e, h2, hF i (by omega)]
/-- An int of 64 bits. -/
def I64 : Type := { a : Int // -9223372036854775808 ≤ a ∧ a ≤ 9223372036854775807 }
def iv (a : I64) : Value := .int .i64 a.1
def F64 : Type := { a : Nat // a < 18446744073709551616 }
def fv (a : F64) : Value := .float .f64 a.1
def Str : Type := { s : ByteArray // s.size ≤ maxLen }
def sv (s : Str) : Value := .string s.1
theorem open_ints {fuel : Nat} {v : Value} {x : DataW H × List MemPlace} (h : DataW.trod enc Try.prog w base (fun _ => true) held fuel 50 [v] = some x) :
    ∃ ao cap l, v = .slice ao l.length cap ∧ XB iv ⟨0, by decide⟩ w.heap.size w ao l.length cap l := by
  refine open_xb iv _ 50 3 (by kernel_rfl) (by kernel_rfl) (fun n v y hy => ?_) h
  obtain ⟨b, h1, _, h3⟩ := DataW.trod_int Try.underlying3 hy
  simp [Lit.wf, IntKind.min, IntKind.max, IntKind.signed, IntKind.bits] at h3
  exact ⟨⟨b, by omega⟩, by simpa [iv] using h1⟩
theorem open_floats {fuel : Nat} {v : Value} {x : DataW H × List MemPlace} (h : DataW.trod enc Try.prog w base (fun _ => true) held fuel 51 [v] = some x) :
    ∃ ao cap l, v = .slice ao l.length cap ∧ XB fv ⟨0, by decide⟩ w.heap.size w ao l.length cap l := by
  refine open_xb fv _ 51 23 (by kernel_rfl) (by kernel_rfl) (fun n v y hy => ?_) h
  obtain ⟨b, h1, _, h3⟩ := trod_float Try.underlying23 hy
  simp [Lit.wf] at h3
  exact ⟨⟨b, h3⟩, by simpa [fv] using h1⟩
theorem open_strings {fuel : Nat} {v : Value} {x : DataW H × List MemPlace} (h : DataW.trod enc Try.prog w base (fun _ => true) held fuel 52 [v] = some x) :
    ∃ ao cap l, v = .slice ao l.length cap ∧ XB sv ⟨⟨#[]⟩, by decide⟩ w.heap.size w ao l.length cap l := by
  refine open_xb sv _ 52 9 (by kernel_rfl) (by kernel_rfl) (fun n v y hy => ?_) h
  obtain ⟨s, hc, hz, hw⟩ := DataW.trod_string Try.underlying9 hy
  exact ⟨⟨s, hw⟩, by simpa [sv] using hc⟩
end
end Go.Proofs.Ytfdopinlmjbfaaa
