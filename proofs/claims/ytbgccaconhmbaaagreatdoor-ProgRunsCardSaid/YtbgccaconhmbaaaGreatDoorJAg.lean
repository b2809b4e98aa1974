/- A value that came in. Conditions: none. -/
import Derived.Test.YtbgccaconhmbaaaGreatDoorJVa
import Derived.Test.YtbgccaconhmbaaaGreatDoorJZ
import Derived.Lib.SmallJoins
namespace Go.Proofs.YtbgccaconhmbaaaGreatDoor
open Go.ChangeShapes Go.WideShapes Go.ChangeAt Go.RowKit
section
variable {H : Type} {enc : TypeId × Value → H} {w : World} {base : Nat} {spare : Nat → Bool} {held : Bool}
theorem trod_float {e : TypeId} {k : FloatKind} {n : Nat} {v : Value} {y : DataW H × List MemPlace} (he : Tryz.prog.underlying e = some (.float k)) (h : DataW.trod enc Tryz.prog w base spare held n e [v] = some y) :
    ∃ b, v = .float k b ∧ y = (.lit (.float k b), []) ∧ (Lit.float k b).wf = true := by
  cases n with
  | zero => simp [DataW.trod] at h
  | succ n =>
    simp only [DataW.trod, he] at h
    split at h <;> simp_all
theorem bytes_self (s : ByteArray) : (⟨s.data.toList.toArray⟩ : ByteArray) = s := by cases s; simp
theorem laidOut3 : laidOutB Tryz.prog = true := by kernel_rfl
set_option maxRecDepth 100000 in
theorem open_val {r : Reach} {b0 : Nat} {v : Value} {d : DataW H} {p : List MemPlace} (hv : Value.okWide Tryz.prog w r b0 48 v) (h : DataW.Trod enc Tryz.prog w base spare held 48 v d p) :
    ∃ dv : DV, v = vagg dv ∧ p = [] ∧ dv.wf := by
  obtain ⟨v0, v1, v2, y0, y1, y2, n, rfl, rfl, rfl, h0, h1, h2⟩ := Joins.open_agg3 Tryz.underlying48 (by kernel_rfl) (by kernel_rfl) hv h
  obtain ⟨k0, e0, rfl, wf0⟩ := DataW.trod_int Tryz.underlying3 h0
  obtain ⟨k1, rfl, rfl, wf1⟩ := trod_float Tryz.underlying46 h1
  obtain ⟨k2, e2, rfl, wf2⟩ := DataW.trod_string Tryz.underlying9 h2
  simp at e0 e2
  subst e0 e2
  simp [Lit.wf, IntKind.min, IntKind.max, IntKind.signed, IntKind.bits] at wf0 wf1 wf2
  have u2 : k2.data.toList.length ≤ 9223372036854775807 := by
    have : k2.data.toList.length = k2.size := by rw [Array.length_toList]; rfl
    rw [this]
    unfold maxLen at wf2
    omega
  exact ⟨⟨k0, k1, k2.data.toList⟩, by unfold vagg; rw [bytes_self], rfl, ⟨by simp only; omega, by simp only; omega⟩, by simp only; omega, u2⟩
end
theorem sameV_self (a : DV) : sameV a a = true := by unfold sameV; simp
theorem may_bounds {v : DV} (h : mayV v = true) (hk : v.k = 2) : v.s.length ≤ 64 := by
  unfold mayV at h
  rw [if_neg (by omega), if_neg (by omega), if_pos hk] at h
  simp at h
  exact h.2
end Go.Proofs.YtbgccaconhmbaaaGreatDoor
