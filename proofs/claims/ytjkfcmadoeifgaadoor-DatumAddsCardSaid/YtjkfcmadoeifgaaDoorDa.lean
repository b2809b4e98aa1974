/- What a sum tells of which values may be added. Conditions: none. -/
import Derived.Test.YtjkfcmadoeifgaaDoorFj
import Derived.Test.YtjkfcmadoeifgaaDoorAg
import Derived.Test.YtjkfcmadoeifgaaDoorAz
import Derived.Deep.RegionWith
namespace Go.Proofs.YtjkfcmadoeifgaaDoor
open Go.ChangeShapes Go.WideShapes Go.ChangeAt Go.RowKit
theorem plus_bad (a b : DV) (h : (addV a).2 = false ∨ (addV b).2 = false) : (plusV a b).2 = 23 := by
  unfold plusV
  rcases h with h | h <;> rw [h] <;> simp
theorem plus_good (a b : DV) (h : (addV a).2 = true ∧ (addV b).2 = true) : (plusV a b).2 = 0 := by
  unfold plusV
  rw [h.1, h.2]; rfl
theorem add_bad {a : DV} (h : mayV a = false ∨ a.k = 2) : (addV a).2 = false := by
  unfold addV
  rcases h with h | h
  · rw [h]; rfl
  · split
    · rw [if_neg (by omega), if_neg (by omega)]
    · rfl
theorem may_kinds {a : DV} (h : mayV a = true) : a.k = 0 ∨ a.k = 1 ∨ a.k = 2 := by
  unfold mayV at h
  split at h
  · rename_i h0; exact .inl h0
  · split at h
    · rename_i h1; exact .inr (.inl h1)
    · split at h
      · rename_i h2; exact .inr (.inr h2)
      · cases h
theorem add_good {a : DV} (h : mayV a = true) (h2 : a.k ≠ 2) : (addV a).2 = true := by
  unfold addV
  rw [h]
  rcases may_kinds h with h0 | h0 | h0
  · rw [if_pos rfl, if_pos h0]
  · rw [if_pos rfl, if_neg (by omega), if_pos h0]
  · exact absurd h0 h2
end Go.Proofs.YtjkfcmadoeifgaaDoor
