/- A range that came in; two ranges in new memory. Conditions: none. -/
import Derived.Test.YtfcdajkgopcmpaaJMd
import Derived.Test.YtfcdajkgopcmpaaJZ
import Derived.Lib.SmallJoins
namespace Go.Proofs.Ytfcdajkgopcmpaa
open Go.ChangeShapes Go.WideShapes Go.ChangeAt Go.RowKit
theorem at_snd (w : World) (a b : RV) : At ((w.alloc (robj a)).alloc (robj b)) (w.heap.size + 1) b := by
  have := at_new (w.alloc (robj a)) b
  simpa using this
theorem bel2 {w w' : World} (h : Below w.heap.size w w') (o o' : Obj) : Below w.heap.size w ((w'.alloc o).alloc o') := (h.alloc h.size o).alloc (h.alloc h.size o).size o'
section
variable {H : Type} {enc : TypeId × Value → H} {w : World} {base : Nat} {spare : Nat → Bool} {held : Bool}
theorem trod_float {e : TypeId} {k : FloatKind} {n : Nat} {v : Value} {y : DataW H × List MemPlace} (he : Try.prog.underlying e = some (.float k)) (h : DataW.trod enc Try.prog w base spare held n e [v] = some y) :
    ∃ b, v = .float k b ∧ y = (.lit (.float k b), []) ∧ (Lit.float k b).wf = true := by
  cases n with
  | zero => simp [DataW.trod] at h
  | succ n =>
    simp only [DataW.trod, he] at h
    split at h <;> simp_all
set_option maxRecDepth 100000 in
theorem open_range {r : Reach} {b0 : Nat} {v : Value} {d : DataW H} {p : List MemPlace} (hv : Value.okWide Try.prog w r b0 37 v) (h : DataW.Trod enc Try.prog w base spare held 37 v d p) :
    ∃ rv : RV, v = ragg rv ∧ p = [] ∧ rv.wf := by
  obtain ⟨v0, v1, v2, v3, y0, y1, y2, y3, n, rfl, rfl, rfl, h0, h1, h2, h3⟩ := Joins.open_agg4 Try.underlying37 (by kernel_rfl) (by kernel_rfl) hv h
  obtain ⟨k0, e0, rfl, wf0⟩ := DataW.trod_int Try.underlying3 h0
  obtain ⟨k1, e1, rfl, wf1⟩ := DataW.trod_int Try.underlying3 h1
  obtain ⟨k2, rfl, rfl, wf2⟩ := trod_float Try.underlying35 h2
  obtain ⟨k3, rfl, rfl, wf3⟩ := trod_float Try.underlying35 h3
  simp at e0 e1
  subst e0 e1
  simp [Lit.wf, IntKind.min, IntKind.max, IntKind.signed, IntKind.bits] at wf0 wf1 wf2 wf3
  exact ⟨⟨k0, k1, k2, k3⟩, rfl, rfl, ⟨by simp only; omega, by simp only; omega⟩, ⟨by simp only; omega, by simp only; omega⟩, by simp only; omega, by simp only; omega⟩
end
end Go.Proofs.Ytfcdajkgopcmpaa
