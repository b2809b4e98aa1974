/- prog.sizeOfFirst, prog.codeOf, prog.parseKey. Conditions: fewer than 4 GiB; the table of steps lies whole. -/
import Derived.Test.YtbgccaconhmbaaaGreatDoorJMk
import Derived.Test.YtbgccaconhmbaaaGreatDoorJUq
import Derived.Lib.IndexMore
namespace Go.Proofs.YtbgccaconhmbaaaGreatDoor
open Go.ChangeShapes Go.WideShapes Go.ChangeAt Go.RowKit Go.Deep
/-- The library's MaxLen holds some int. -/
def Mxl (w : World) : Prop := ∃ m : Int, w.cell? ⟨2, 0, none⟩ = some (.int .i64 m)
theorem Mxl.below {w w' : World} (h : Mxl w) (hb : Below w.heap.size w w') : Mxl w' := by
  obtain ⟨m, hm⟩ := h
  exact ⟨m, (hb.cell (p := ⟨2, 0, none⟩) (World.block_lt_of_cell? _ _ hm)).trans hm⟩
theorem below_drewN (w : World) (n : Nat) : Below w.heap.size w (w.drewN n) := ⟨rfl, rfl, rfl, Nat.le_refl _, fun _ _ => rfl⟩
/-- How many bytes the word at the head has, and whether its quotes stand where they may. -/
def sizeV (s : List UInt8) : Nat × Bool :=
  if Lib.hasPrefix s [34] then
    ((Lib.cut (Lib.trimPrefix s [34]) [34]).1.length + 2, (Lib.cut (Lib.trimPrefix s [34]) [34]).2.2 && ((Lib.cut (Lib.trimPrefix s [34]) [34]).2.1 == [] || Lib.hasPrefix (Lib.cut (Lib.trimPrefix s [34]) [34]).2.1 [32]))
  else ((Lib.cut s [32]).1.length, !(decide (0 ≤ Lib.indexByte (Lib.cut s [32]).1 34)))
theorem cutw_len (s sep : List UInt8) : (Lib.cut s sep).1.length ≤ s.length := by
  unfold Lib.cut
  split
  · rw [List.length_take]; exact Nat.min_le_right _ _
  · exact Nat.le_refl _
theorem cutw_room {s sep : List UInt8} (h : (Lib.cut s sep).2.2 = true) : (Lib.cut s sep).1.length + sep.length ≤ s.length := by
  unfold Lib.cut at *
  split at h
  · rename_i h0
    rw [if_pos h0]
    have := Lib.index_room s sep h0
    simp only [List.length_take]
    omega
  · cases h
theorem sizew_le {s : List UInt8} (h : (sizeV s).2 = true) : (sizeV s).1 ≤ s.length := by
  unfold sizeV at *
  split at h
  · rename_i hp
    rw [if_pos hp]
    have h1 : (Lib.cut (Lib.trimPrefix s [34]) [34]).2.2 = true := by
      revert h; cases (Lib.cut (Lib.trimPrefix s [34]) [34]).2.2 <;> simp
    have h2 := cutw_room h1
    have h3 : (Lib.trimPrefix s [34]).length + 1 = s.length := by
      unfold Lib.trimPrefix
      rw [if_pos hp, List.length_drop]
      unfold Lib.hasPrefix at hp
      obtain ⟨r, rfl⟩ := List.isPrefixOf_iff_prefix.1 hp
      simp
    have h4 : ([34] : List UInt8).length = 1 := rfl
    show (Lib.cut (Lib.trimPrefix s [34]) [34]).1.length + 2 ≤ s.length
    omega
  · rename_i hp
    rw [if_neg hp]
    exact cutw_len _ _
set_option maxRecDepth 100000 in
theorem sizew_any (s : ByteArray) (hs : s.size < 4294967281) (w : World) (hM : Mxl w) :
    Calls Tryz.prog 93 #[.string s] w fun e w' => e = .returned (.tuple #[.int .i64 ((sizeV s.data.toList).1 : Int), .bool (sizeV s.data.toList).2]) ∧ Below w.heap.size w w' := by
  obtain ⟨m, hm⟩ := hM
  have hC := Lib.hid (Tryz.strings_CutPrefix s ⟨#[34]⟩ w)
  have hsl : s.data.toList.length < 4294967281 := by rw [← Lib.size_eq]; exact hs
  cases hp : Lib.hasPrefix s.data.toList [34]
  · have hK := Lib.hid (Tryz.strings_Cut s ⟨#[32]⟩ m w hs hm)
    have e : sizeV s.data.toList = ((Lib.cut s.data.toList [32]).1.length, !(decide (0 ≤ Lib.indexByte (Lib.cut s.data.toList [32]).1 34))) := by
      unfold sizeV; rw [if_neg (by rw [hp]; exact Bool.noConfusion)]
    rw [e]
    have hC2 := hC.out
    rw [show (⟨#[34]⟩ : ByteArray).data.toList = [34] from rfl, hp] at hC2
    have hC := Lib.hid hC2
    have hK2 := hK.out
    rw [show (⟨#[32]⟩ : ByteArray).data.toList = [32] from rfl] at hK2
    have hK := Lib.hid hK2
    have hl := cutw_len s.data.toList [32]
    generalize Lib.cut s.data.toList [32] = c at *
    obtain ⟨c1, c2, c3⟩ := c
    generalize Lib.trimPrefix s.data.toList [34] = t at *
    have hT := fun w => Lib.hid (Tryz.strings_Contains_one (⟨c1.toArray⟩ : ByteArray) 34 w)
    simp only at hl
    have hz : (⟨c1.toArray⟩ : ByteArray).size = c1.length := by rw [Lib.size_eq]
    clear e hC2 hK2 hs hm hp
    go_enter Tryz.func93, Tryz.ntmps93
    go_wp2_with (first
      | (go_at_call 124; refine hC.out.mono ?_; rintro e w1 ⟨rfl, hw⟩; obtain rfl := hw.symm)
      | (go_at_call 125; refine hK.out.mono ?_; rintro e w1 ⟨rfl, n, rfl⟩; have HB := Lib.hid (below_drewN w n))
      | (go_at_call 127; refine (hT _).out.mono ?_; rintro e w2 ⟨rfl, hw⟩; obtain rfl := hw.symm))
    go_returns
    exact ⟨by simp, HB.out⟩
  · obtain ⟨t, ht⟩ : ∃ t, Lib.trimPrefix s.data.toList [34] = t := ⟨_, rfl⟩
    have htl : t.length ≤ s.data.toList.length := by
      rw [← ht]; exact trimP_le _
    have hzt : (⟨t.toArray⟩ : ByteArray).size = t.length := by rw [Lib.size_eq]
    have hK := Lib.hid (Tryz.strings_Cut (⟨t.toArray⟩ : ByteArray) ⟨#[34]⟩ m w (by rw [hzt]; omega) hm)
    have e : sizeV s.data.toList = ((Lib.cut t [34]).1.length + 2, (Lib.cut t [34]).2.2 && ((Lib.cut t [34]).2.1 == [] || Lib.hasPrefix (Lib.cut t [34]).2.1 [32])) := by
      unfold sizeV; rw [if_pos hp, ht]
    rw [e]
    have hC2 := hC.out
    rw [show (⟨#[34]⟩ : ByteArray).data.toList = [34] from rfl, hp, ht] at hC2
    have hC := Lib.hid hC2
    have hK2 := hK.out
    rw [show (⟨#[34]⟩ : ByteArray).data.toList = [34] from rfl, show (⟨t.toArray⟩ : ByteArray).data.toList = t from rfl] at hK2
    have hK := Lib.hid hK2
    have hl := cutw_len t [34]
    generalize Lib.cut t [34] = c at *
    obtain ⟨c1, c2, c3⟩ := c
    have hT := fun w => Lib.hid (Tryz.strings_HasPrefix (⟨c2.toArray⟩ : ByteArray) ⟨#[32]⟩ w)
    simp only at hl
    have hz : (⟨c1.toArray⟩ : ByteArray).size = c1.length := by rw [Lib.size_eq]
    have hc2 : ((⟨c2.toArray⟩ : ByteArray).toList == []) = (c2 == []) := by
      rw [Lib.toList_data]
    clear e hC2 hK2 hs hm hp
    cases c3 <;> cases hc : (c2 == []) <;> rw [hc] at hc2
    all_goals
      go_enter Tryz.func93, Tryz.ntmps93
      go_wp2_with (first
        | (go_at_call 124; refine hC.out.mono ?_; rintro e w1 ⟨rfl, hw⟩; obtain rfl := hw.symm)
        | (go_at_call 125; refine hK.out.mono ?_; rintro e w1 ⟨rfl, n, rfl⟩; have HB := Lib.hid (below_drewN w n))
        | (go_at_call 126; refine (hT _).out.mono ?_; rintro e w2 ⟨rfl, hw⟩; obtain rfl := hw.symm))
      go_returns
      exact ⟨by simp_all, HB.out⟩
end Go.Proofs.YtbgccaconhmbaaaGreatDoor
