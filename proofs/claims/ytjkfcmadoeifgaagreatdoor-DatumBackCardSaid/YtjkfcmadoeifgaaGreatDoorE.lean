/- Contracts of num's and raceref1's classes. Conditions: bits below 2^64. -/
import Derived.Test.YtjkfcmadoeifgaaGreatDoorD
namespace Go.Proofs.YtjkfcmadoeifgaaGreatDoor
open Go.RowKit

theorem dist_any (m : Nat) (w : World) : Calls Tryz.prog 109 #[.int .u64 (m : Int)] w fun e w' => e = .returned (.int .i64 (distN m : Nat)) ∧ w = w' := by
  by_cases h0 : m = 0
  · subst h0
    go_enter Tryz.func109, Tryz.ntmps109
    go_wp2
    go_ret
    exact ⟨rfl, rfl⟩
  · have hz : ((m : Int) == 0) = false := by simpa using h0
    by_cases h1 : m < 4503599627370496
    · have e : distN m = 1 := by simp [distN, h0, h1]
      rw [e]
      have h1' : decide ((m : Int) < 4503599627370496) = true := by simp; omega
      clear h1 e
      go_enter Tryz.func109, Tryz.ntmps109
      go_wp2
      go_ret
      exact ⟨rfl, rfl⟩
    · have h1' : decide ((m : Int) < 4503599627370496) = false := by simp; omega
      by_cases h2 : m < infR
      · have e : distN m = 2 := by simp [distN, h0, h1, h2]
        rw [e]
        have h2' : decide ((m : Int) < 9218868437227405312) = true := by unfold infR at h2; simp; omega
        clear h1 h2 e
        go_enter Tryz.func109, Tryz.ntmps109
        go_wp2
        go_ret
        exact ⟨rfl, rfl⟩
      · have e : distN m = 3 := by simp [distN, h0, h1, h2]
        rw [e]
        have h2' : decide ((m : Int) < 9218868437227405312) = false := by unfold infR at h2; simp; omega
        clear h1 h2 e
        go_enter Tryz.func109, Tryz.ntmps109
        go_wp2
        go_ret
        exact ⟨rfl, rfl⟩
theorem cls_nan {b : Nat} (h : nanB b = true) : clsN b = 0 := by simp [clsN, h]
theorem class_any (b : Nat) (w : World) (hb : b < 18446744073709551616) : Calls Tryz.prog 89 #[.float .f64 b] w fun e w' => e = .returned (.int .i64 (clsN b : Nat)) ∧ w = w' := by
  cases h : nanB b
  · have hd := distN_le (b % 9223372036854775808)
    have hn : ¬ (infR < b % 9223372036854775808) := by simpa [nanB] using h
    have h1 := bandNot_top hb
    have hc := canon_num h
    by_cases h2 : b < 9223372036854775808
    · have hm : b % 9223372036854775808 = b := by omega
      have e : clsN b = 5 + distN b := by simp [clsN, h, h2, hm]
      have h3 : decide ((b : Int) > 9218868437227405312) = false := by unfold infR at hn; simp; omega
      rw [e]
      rw [hm] at h1 hd
      have hdi : (0:Int) ≤ (distN b : Int) := by omega
      have hdj : (distN b : Int) ≤ 3 := by omega
      have Hc := Lib.hid hc
      clear hc e hm h2 hn h hb hd
      go_enter Tryz.func89, Tryz.ntmps89
      go_wp2_with (first | (go_at_call 66; refine (bits_any _ _).mono ?_; rw [Hc.out]; rintro e w' ⟨rfl, rfl⟩) | (go_at_call 109; refine (dist_any _ _).mono ?_; rintro e w' ⟨rfl, rfl⟩))
      go_ret
      exact ⟨by simp, rfl⟩
    · obtain ⟨m, rfl⟩ : ∃ m, b = m + 9223372036854775808 := ⟨b - 9223372036854775808, by omega⟩
      have hm : (m + 9223372036854775808) % 9223372036854775808 = m := by omega
      have e : clsN (m + 9223372036854775808) = 4 - distN m := by simp only [clsN, h, h2, hm, decide_false, cond_false]
      rw [hm] at h1 hd hn
      have h3 : decide ((m : Int) > 9218868437227405312) = false := by unfold infR at hn; simp; omega
      have h4 : (((m + 9223372036854775808 : Nat) : Int) == (m : Int)) = false := by simp; omega
      have h5 : ((4 - distN m : Nat) : Int) = 4 - (distN m : Int) := by omega
      rw [e, h5]
      have hdi : (0:Int) ≤ (distN m : Int) := by omega
      have hdj : (distN m : Int) ≤ 3 := by omega
      have Hc := Lib.hid hc
      generalize hq : m + 9223372036854775808 = q at *
      clear hc e hm h2 hn h hb hd h5 hq
      go_enter Tryz.func89, Tryz.ntmps89
      go_wp2_with (first | (go_at_call 66; refine (bits_any _ _).mono ?_; rw [Hc.out]; rintro e w' ⟨rfl, rfl⟩) | (go_at_call 109; refine (dist_any _ _).mono ?_; rintro e w' ⟨rfl, rfl⟩))
      go_ret
      exact ⟨by simp, rfl⟩
  · rw [cls_nan h]
    have hc := canon_nan h
    have Hc := Lib.hid hc
    have h1 : bits .andNot .u64 ((oneNaN : Nat) : Int) 9223372036854775808 = 9221120237041090560 := by decide
    clear hc h hb
    go_enter Tryz.func89, Tryz.ntmps89
    go_wp2_with (go_at_call 66; refine (bits_any _ _).mono ?_; rw [Hc.out]; rintro e w' ⟨rfl, rfl⟩)
    go_ret
    exact ⟨rfl, rfl⟩
end Go.Proofs.YtjkfcmadoeifgaaGreatDoor
