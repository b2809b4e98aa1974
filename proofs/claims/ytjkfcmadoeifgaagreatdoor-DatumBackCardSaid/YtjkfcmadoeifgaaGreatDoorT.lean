/- num.countOf, integerOf, isInteger and strings.Cut at "p". Conditions: texts of at most a million bytes; countOf and integerOf: digits alone. -/
import Derived.Test.YtjkfcmadoeifgaaGreatDoorS
namespace Go.Proofs.YtjkfcmadoeifgaaGreatDoor
open Go.RowKit Go.Lib

def valN (l : List UInt8) : Nat := l.foldl (fun n c => 10 * n + (c.toNat - 48)) 0
def satN (l : List UInt8) : Nat := min (valN l) 9007199254740992
theorem valN_nil : valN [] = 0 := rfl
theorem valN_step (l : List UInt8) (k : Nat) (h : k < l.length) : valN (l.take (k + 1)) = 10 * valN (l.take k) + ((l.getD k 0).toNat - 48) := by
  rw [List.take_succ_eq_append_getElem h]
  unfold valN
  rw [List.foldl_append]
  simp [List.getD, h]
theorem satN_step (l : List UInt8) (k : Nat) (h : k < l.length) : satN (l.take (k + 1)) = min (10 * satN (l.take k) + ((l.getD k 0).toNat - 48)) 9007199254740992 := by
  unfold satN
  rw [valN_step l k h]
  omega
theorem satN_le (l : List UInt8) : satN l ≤ 9007199254740992 := Nat.min_le_right _ _

theorem ret_i {k : IntKind} {a b : Int} (h : a = b) : Ending.returned (.int k a) = .returned (.int k b) := by rw [h]
set_option maxRecDepth 100000 in
set_option maxHeartbeats 800000 in
theorem countOf_any (s : ByteArray) (hs : s.size ≤ 1000000) (hd : s.data.toList.all digB = true) (w : World) :
    Calls Tryz.prog 107 #[.string s] w fun e w' => e = .returned (.int .i64 (satN s.data.toList : Nat)) ∧ Below w.heap.size w w' := by
  have hcv := Lib.run_convert_string_bytes (P := Tryz.prog) w 9 32 5 s (u := .string) Tryz.underlying9 Tryz.underlying32 Tryz.underlying5
  have hB : ∀ j, j < s.size → (Lib.bytesWorld w 5 s).cell? ⟨w.heap.size, j, none⟩ = some (.int .u8 (s.data.toList.getD j 0).toNat) := fun j hj => Lib.bytesWorld_cell w 5 s j hj
  have HW := Lib.hid (Lib.bytesWorld_below w 5 s)
  obtain ⟨W1, hW1⟩ : ∃ W1, W1 = Lib.bytesWorld w 5 s := ⟨_, rfl⟩
  rw [← hW1] at hcv hB HW
  clear hW1
  obtain ⟨bs, hL⟩ : ∃ bs, bs = s.data.toList := ⟨_, rfl⟩
  have hLn : bs.length = s.size := by rw [hL, Lib.size_eq]
  rw [← hL] at hB hd ⊢
  clear hL
  have HLN := Lib.hid hLn; clear hLn
  have HBB := Lib.hid hB; clear hB
  have HD := Lib.hid hd; clear hd
  go_enter Tryz.func107, Tryz.ntmps107
  go_wp2
  go_loop [3, 9] (fun vn vi => ∃ (k : Nat) (a : Int), vn = .int .i64 a ∧ vi = .int .i64 (k : Int) ∧ k ≤ s.size ∧ Hid (a = (satN (bs.take k) : Nat))) (fun _ vi => s.size - (RowKit.intOf vi).toNat)
  case atStart => exact ⟨0, 0, rfl, rfl, Nat.zero_le _, rfl⟩
  case round =>
    obtain ⟨k, a, rfl, rfl, hk, hh⟩ := hrel
    have a0 : 0 ≤ a := by have := hh.out; omega
    have a1 : a ≤ 9007199254740992 := by have := hh.out; have := satN_le (bs.take k); omega
    by_cases hlt : k < s.size
    · have hc := HBB.out k hlt
      have hkl : k < bs.length := by rw [HLN.out]; exact hlt
      have HS := Lib.hid (satN_step bs k hkl)
      have hdk : digB (bs.getD k 0) = true := by
        have := HD.out
        rw [List.all_eq_true] at this
        exact this _ (by simp [List.getD, hkl])
      obtain ⟨d1, d2⟩ : 48 ≤ (bs.getD k 0).toNat ∧ (bs.getD k 0).toNat ≤ 57 := by simpa [digB] using hdk
      clear hkl hdk
      generalize (bs.getD k 0).toNat = c at *
      obtain ⟨d, rfl⟩ : ∃ d : Nat, c = 48 + d := ⟨c - 48, by omega⟩
      have hsub : (((48 + d : Nat) : Int) - 48) = (d : Int) := by omega
      have hsub2 : ((48 : Int) + (d : Int) - 48) = (d : Int) := by omega
      have d3 : (d : Int) ≤ 9 := by omega
      clear d1 d2
      have HA := Lib.hid (show min (10 * a + (d : Int)) 9007199254740992 = (satN (bs.take (k + 1)) : Nat) by rw [HS.out, hh.out]; omega)
      clear hh HS
      go_wp2
      go_round
      case rel => exact ⟨k + 1, _, rfl, by go_num, by omega, HA⟩
      case measure => simp [RowKit.intOf]; omega
    · obtain rfl : k = s.size := by omega
      have HE : Hid (a = (satN bs : Nat)) := by unfold Hid; have := hh.out; rwa [List.take_of_length_le (by rw [HLN.out]; exact Nat.le_refl _)] at this
      clear hh hlt
      go_wp2
      go_ret
      exact ⟨ret_i HE.out, HW.out⟩
end Go.Proofs.YtjkfcmadoeifgaaGreatDoor
