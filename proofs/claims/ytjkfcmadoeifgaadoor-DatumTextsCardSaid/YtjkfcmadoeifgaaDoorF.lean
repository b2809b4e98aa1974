/- The contract of raceref1.Class. Conditions: bits below 2^64. -/
import Derived.Test.YtjkfcmadoeifgaaDoorD
namespace Go.Proofs.YtjkfcmadoeifgaaDoor
open Go.RowKit

theorem clsN_pos {b : Nat} (h : nanB b = false) (h2 : b < 9223372036854775808) : clsN b = 5 + distN (b % 9223372036854775808) := by simp [clsN, h, h2]
theorem clsN_neg {b : Nat} (h : nanB b = false) (h2 : ¬ b < 9223372036854775808) : clsN b = 4 - distN (b % 9223372036854775808) := by simp [clsN, h, h2]
theorem distN_0 {m : Nat} (h : m = 0) : distN m = 0 := by simp [distN, h]
theorem distN_1 {m : Nat} (h0 : m ≠ 0) (h : m < 4503599627370496) : distN m = 1 := by simp [distN, h0, h]
theorem distN_2 {m : Nat} (h0 : ¬ m < 4503599627370496) (h : m < infR) : distN m = 2 := by
  have : m ≠ 0 := by omega
  simp [distN, this, h0, h]
theorem distN_3 {m : Nat} (h : ¬ m < infR) : distN m = 3 := by
  have h' := h
  unfold infR at h'
  have h1 : m ≠ 0 := by omega
  have h2 : ¬ m < 4503599627370496 := by omega
  simp [distN, h1, h2, h]

theorem rclass_any (b : Nat) (w : World) (hb : b < 18446744073709551616) : Calls Tryd.prog 69 #[.float .f64 b] w fun e w' => e = .returned (.int .i64 (clsN b : Nat)) ∧ w = w' := by
  cases h : nanB b
  · have hn : b % 9223372036854775808 ≤ infR := by simpa [nanB] using h
    have hn' := hn
    unfold infR at hn'
    have hE := band_exp hb
    have hM := band_frac hb
    have Hc := Lib.hid (canon_num h)
    have hdec : b % 9223372036854775808 = b / 4503599627370496 % 2048 * 4503599627370496 + b % 4503599627370496 := by omega
    by_cases e1 : b / 4503599627370496 % 2048 = 2047
    · have m0 : b % 4503599627370496 = 0 := by omega
      rw [e1] at hE; rw [m0] at hM
      have hd : distN (b % 9223372036854775808) = 3 := distN_3 (by unfold infR; omega)
      by_cases hs : b < 9223372036854775808
      · rw [clsN_pos h hs, hd]
        have ht := band_top_eq hs
        clear h hn hn' hdec hd hs e1 m0 hb
        go_enter Tryd.func69, Tryd.ntmps69
        go_wp2_with (go_at_call 54; refine (rbits_any _ _).mono ?_; rw [Hc.out]; rintro e w' ⟨rfl, rfl⟩)
        go_ret
        exact ⟨rfl, rfl⟩
      · rw [clsN_neg h hs, hd]
        have ht := band_top_ne (by omega) hb
        clear h hn hn' hdec hd hs e1 m0 hb
        go_enter Tryd.func69, Tryd.ntmps69
        go_wp2_with (go_at_call 54; refine (rbits_any _ _).mono ?_; rw [Hc.out]; rintro e w' ⟨rfl, rfl⟩)
        go_ret
        exact ⟨rfl, rfl⟩
    · by_cases e0 : b / 4503599627370496 % 2048 = 0
      · by_cases m0 : b % 4503599627370496 = 0
        · rw [e0] at hE; rw [m0] at hM
          have hd : distN (b % 9223372036854775808) = 0 := distN_0 (by omega)
          by_cases hs : b < 9223372036854775808
          · rw [clsN_pos h hs, hd]
            have ht := band_top_eq hs
            clear h hn hn' hdec hd hs e1 m0 hb e0
            go_enter Tryd.func69, Tryd.ntmps69
            go_wp2_with (go_at_call 54; refine (rbits_any _ _).mono ?_; rw [Hc.out]; rintro e w' ⟨rfl, rfl⟩)
            go_ret
            exact ⟨rfl, rfl⟩
          · rw [clsN_neg h hs, hd]
            have ht := band_top_ne (by omega) hb
            clear h hn hn' hdec hd hs e1 m0 hb e0
            go_enter Tryd.func69, Tryd.ntmps69
            go_wp2_with (go_at_call 54; refine (rbits_any _ _).mono ?_; rw [Hc.out]; rintro e w' ⟨rfl, rfl⟩)
            go_ret
            exact ⟨rfl, rfl⟩
        · rw [e0] at hE
          have hd : distN (b % 9223372036854775808) = 1 := distN_1 (by omega) (by omega)
          have hm1 : (((b % 4503599627370496 : Nat) : Int) == 0) = false := by simp; omega
          generalize b % 4503599627370496 = m at hM hm1
          by_cases hs : b < 9223372036854775808
          · rw [clsN_pos h hs, hd]
            have ht := band_top_eq hs
            clear h hn hn' hdec hd hs e1 m0 hb e0
            go_enter Tryd.func69, Tryd.ntmps69
            go_wp2_with (go_at_call 54; refine (rbits_any _ _).mono ?_; rw [Hc.out]; rintro e w' ⟨rfl, rfl⟩)
            go_ret
            exact ⟨rfl, rfl⟩
          · rw [clsN_neg h hs, hd]
            have ht := band_top_ne (by omega) hb
            clear h hn hn' hdec hd hs e1 m0 hb e0
            go_enter Tryd.func69, Tryd.ntmps69
            go_wp2_with (go_at_call 54; refine (rbits_any _ _).mono ?_; rw [Hc.out]; rintro e w' ⟨rfl, rfl⟩)
            go_ret
            exact ⟨rfl, rfl⟩
      · have hd : distN (b % 9223372036854775808) = 2 := distN_2 (by omega) (by unfold infR; omega)
        have he1 : (((b / 4503599627370496 % 2048 : Nat) : Int) == 2047) = false := by simp; omega
        have he0 : (((b / 4503599627370496 % 2048 : Nat) : Int) == 0) = false := by simp; omega
        generalize b / 4503599627370496 % 2048 = x at hE he1 he0
        by_cases hs : b < 9223372036854775808
        · rw [clsN_pos h hs, hd]
          have ht := band_top_eq hs
          clear h hn hn' hdec hd hs e1 hb e0 hM
          go_enter Tryd.func69, Tryd.ntmps69
          go_wp2_with (go_at_call 54; refine (rbits_any _ _).mono ?_; rw [Hc.out]; rintro e w' ⟨rfl, rfl⟩)
          go_ret
          exact ⟨rfl, rfl⟩
        · rw [clsN_neg h hs, hd]
          have ht := band_top_ne (by omega) hb
          clear h hn hn' hdec hd hs e1 hb e0 hM
          go_enter Tryd.func69, Tryd.ntmps69
          go_wp2_with (go_at_call 54; refine (rbits_any _ _).mono ?_; rw [Hc.out]; rintro e w' ⟨rfl, rfl⟩)
          go_ret
          exact ⟨rfl, rfl⟩
  · have e : clsN b = 0 := by simp [clsN, h]
    rw [e]
    have Hc := Lib.hid (canon_nan h)
    have h1 : bits .and .u64 (2047 : Int) 2047 = 2047 := by decide
    have h2 : bits .and .u64 (9221120237041090560 : Int) 4503599627370495 = 2251799813685248 := by decide
    have h3 : bits .and .u64 (9221120237041090560 : Int) 9223372036854775808 = 0 := by decide
    have h4 : bits .and .u64 ((9221120237041090560 : Int) / 4503599627370496) 2047 = 2047 := by decide
    clear h hb e
    go_enter Tryd.func69, Tryd.ntmps69
    go_wp2_with (go_at_call 54; refine (rbits_any _ _).mono ?_; rw [Hc.out]; unfold oneNaN; rintro e w' ⟨rfl, rfl⟩)
    go_ret
    exact ⟨rfl, rfl⟩
end Go.Proofs.YtjkfcmadoeifgaaDoor
