/- num.isCount, num.countOf: digits of a whole number from 1 on, and the number, kept at 2^53. Conditions: texts of at most a million bytes; countOf: digits alone. -/
import Derived.Test.YtjkfcmadoeifgaaGreatDoorR
import Derived.Lib.ConvBytes
import Derived.Lib.AtoiErrMem
namespace Go.Proofs.YtjkfcmadoeifgaaGreatDoor
open Go.RowKit Go.Lib

def digB (c : UInt8) : Bool := decide (48 ≤ c.toNat ∧ c.toNat ≤ 57)
def cntB (l : List UInt8) : Bool := match l with | [] => false | c :: t => c != 48 && (c :: t).all digB
theorem cntB_nil : cntB [] = false := rfl
theorem head_eq (s : ByteArray) (h : 0 < s.size) : s.data.toList = s[0] :: s.data.toList.drop 1 := by
  have hl : 0 < s.data.toList.length := by simpa using h
  have := List.drop_eq_getElem_cons hl
  rw [List.drop_zero] at this
  rw [this]; rfl
theorem cntB_zero (s : ByteArray) (h : 0 < s.size) (h2 : s[0].toNat = 48) : cntB s.data.toList = false := by
  rw [head_eq s h]
  have : s[0] = 48 := by
    apply UInt8.toNat_inj.1; rw [h2]; rfl
  simp [cntB, this]
theorem cntB_all (s : ByteArray) (h : 0 < s.size) (h2 : s[0].toNat ≠ 48) : cntB s.data.toList = s.data.toList.all digB := by
  have e := head_eq s h
  have : (s[0] != 48) = true := by
    simp; intro e; apply h2; rw [e]; rfl
  rw [e]
  unfold cntB
  simp [this]
theorem all_step (l : List UInt8) (k : Nat) (h : k < l.length) : (l.take (k + 1)).all digB = ((l.take k).all digB && digB (l.getD k 0)) := by
  rw [List.take_succ_eq_append_getElem h, List.all_append]
  simp [List.getD, h]
theorem all_no (l : List UInt8) (k : Nat) (h : k < l.length) (hd : digB (l.getD k 0) = false) : l.all digB = false := by
  cases hc : l.all digB
  · rfl
  · rw [List.all_eq_true] at hc
    have := hc (l.getD k 0) (by simp [List.getD, h])
    rw [hd] at this; cases this

set_option maxRecDepth 100000 in
set_option maxHeartbeats 800000 in
theorem isCount_any (s : ByteArray) (hs : s.size ≤ 1000000) (w : World) :
    Calls Tryz.prog 104 #[.string s] w fun e w' => e = .returned (.bool (cntB s.data.toList)) ∧ Below w.heap.size w w' := by
  by_cases hne : s.size = 0
  · have e : s = ⟨#[]⟩ := by
      apply ByteArray.ext
      have : s.data.size = 0 := hne
      exact Array.eq_empty_of_size_eq_zero this
    subst e
    rw [show (⟨#[]⟩ : ByteArray).data.toList = [] from rfl, cntB_nil]
    go_enter Tryz.func104, Tryz.ntmps104
    go_wp2
    go_ret
    exact ⟨rfl, Below.refl _ _⟩
  · have hpos : 0 < s.size := by omega
    have hemp : s.toList.isEmpty = false := by
      rw [← decide_eq_emptyBytes]
      exact decide_eq_false (fun h => hne (by rw [h]; rfl))
    by_cases hz : s[0].toNat = 48
    · rw [cntB_zero s hpos hz]
      have h2 : ((s[0].toNat : Int) == 48) = true := by simp; omega
      clear hz
      go_enter Tryz.func104, Tryz.ntmps104
      go_wp2
      go_ret
      exact ⟨rfl, Below.refl _ _⟩
    · rw [cntB_all s hpos hz]
      have h2 : ((s[0].toNat : Int) == 48) = false := by simp; omega
      have hcv := Lib.run_convert_string_bytes (P := Tryz.prog) w 9 32 5 s (u := .string) Tryz.underlying9 Tryz.underlying32 Tryz.underlying5
      have hB : ∀ j, j < s.size → (Lib.bytesWorld w 5 s).cell? ⟨w.heap.size, j, none⟩ = some (.int .u8 (s.data.toList.getD j 0).toNat) := fun j hj => Lib.bytesWorld_cell w 5 s j hj
      have HW := Lib.hid (Lib.bytesWorld_below w 5 s)
      obtain ⟨W1, hW1⟩ : ∃ W1, W1 = Lib.bytesWorld w 5 s := ⟨_, rfl⟩
      rw [← hW1] at hcv hB HW
      clear hW1 hz
      obtain ⟨bs, hL⟩ : ∃ bs, bs = s.data.toList := ⟨_, rfl⟩
      have hLn : bs.length = s.size := by rw [hL, Lib.size_eq]
      rw [← hL] at hB ⊢
      clear hL
      have HLN := Lib.hid hLn; clear hLn
      have HBB := Lib.hid hB; clear hB
      go_enter Tryz.func104, Tryz.ntmps104
      go_wp2
      go_loop [15] (fun vi => ∃ k : Nat, vi = .int .i64 (k : Int) ∧ k ≤ s.size ∧ Hid ((bs.take k).all digB = true)) (fun vi => s.size - (RowKit.intOf vi).toNat)
      case atStart => exact ⟨0, rfl, Nat.zero_le _, rfl⟩
      case round =>
        obtain ⟨k, rfl, hk, hh⟩ := hrel
        by_cases hlt : k < s.size
        · have hc := HBB.out k hlt
          have hkl : k < bs.length := by rw [HLN.out]; exact hlt
          have HS := Lib.hid (all_step bs k hkl)
          have HNo := Lib.hid (all_no bs k hkl)
          clear hkl
          cases hd : digB (bs.getD k 0)
          · have hd' : ¬ (48 ≤ (bs.getD k 0).toNat ∧ (bs.getD k 0).toNat ≤ 57) := by simpa [digB] using hd
            have HF := Lib.hid (HNo.out hd)
            clear HNo HS hd
            generalize (bs.getD k 0).toNat = c at *
            by_cases h48 : c < 48
            · clear hd'
              go_wp2
              go_ret
              exact ⟨by rw [HF.out]; rfl, HW.out⟩
            · have h57 : 57 < c := by omega
              clear hd'
              go_wp2
              go_ret
              exact ⟨by rw [HF.out]; rfl, HW.out⟩
          · have hd' : (48 ≤ (bs.getD k 0).toNat ∧ (bs.getD k 0).toNat ≤ 57) := by simpa [digB] using hd
            have HT : Hid ((bs.take (k + 1)).all digB = true) := by unfold Hid; rw [HS.out, hh.out, hd]; rfl
            clear HNo HS hd hh
            generalize (bs.getD k 0).toNat = c at *
            obtain ⟨d1, d2⟩ := hd'
            have d3 : ¬ c < 48 := by omega
            have d4 : ¬ 57 < c := by omega
            go_wp2
            go_round
            case rel => exact ⟨k + 1, by go_num, by omega, HT⟩
            case measure => simp [RowKit.intOf]; omega
        · obtain rfl : k = s.size := by omega
          have HE : Hid (bs.all digB = true) := by unfold Hid; have := hh.out; rwa [List.take_of_length_le (by rw [HLN.out]; exact Nat.le_refl _)] at this
          clear hh hlt
          go_wp2
          go_ret
          exact ⟨by rw [HE.out]; rfl, HW.out⟩
end Go.Proofs.YtjkfcmadoeifgaaGreatDoor
