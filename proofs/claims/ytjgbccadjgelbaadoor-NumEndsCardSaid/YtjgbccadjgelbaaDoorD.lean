/- Contracts of num's and raceref1's ranks, orders and classes. Conditions: bits below 2^64. -/
import Derived.Test.YtjgbccadjgelbaaDoorB
import Derived.Test.YtjgbccadjgelbaaDoorC
namespace Go.Proofs.YtjgbccadjgelbaaDoor
open Go.RowKit

theorem rank_any (b : Nat) (w : World) (hb : b < 18446744073709551616) : Calls Tryd.prog 25 #[.float .f64 b] w fun e w' => e = .returned (.int .u64 (rankN b : Nat)) ∧ w = w' := by
  have hc := canon_lt hb
  by_cases h : 9223372036854775808 ≤ canon b
  · rw [rankN_hi h]
    have h1 := band_top_ne h hc
    have h2 := bnot hc
    clear h hc hb
    go_enter Tryd.func25, Tryd.ntmps25
    go_wp2_with (go_at_call 21; refine (bits_any _ _).mono ?_; rintro e w' ⟨rfl, rfl⟩)
    go_ret
    exact ⟨rfl, rfl⟩
  · rw [rankN_lo (by omega)]
    have h1 := band_top_eq (n := canon b) (by omega)
    have h2 := bor_top (n := canon b) (by omega)
    clear h hc hb
    go_enter Tryd.func25, Tryd.ntmps25
    go_wp2_with (go_at_call 21; refine (bits_any _ _).mono ?_; rintro e w' ⟨rfl, rfl⟩)
    go_ret
    exact ⟨rfl, rfl⟩
theorem rrank_any (b : Nat) (w : World) (hb : b < 18446744073709551616) : Calls Tryd.prog 26 #[.float .f64 b] w fun e w' => e = .returned (.int .u64 (rankN b : Nat)) ∧ w = w' := by
  have hc := canon_lt hb
  by_cases h : 9223372036854775808 ≤ canon b
  · rw [rankN_hi h]
    have h1 := band_top_ne h hc
    have h2 := bnot hc
    clear h hc hb
    go_enter Tryd.func26, Tryd.ntmps26
    go_wp2_with (go_at_call 22; refine (rbits_any _ _).mono ?_; rintro e w' ⟨rfl, rfl⟩)
    go_ret
    exact ⟨rfl, rfl⟩
  · rw [rankN_lo (by omega)]
    have h1 := band_top_eq (n := canon b) (by omega)
    have h2 := bor_top (n := canon b) (by omega)
    clear h hc hb
    go_enter Tryd.func26, Tryd.ntmps26
    go_wp2_with (go_at_call 22; refine (rbits_any _ _).mono ?_; rintro e w' ⟨rfl, rfl⟩)
    go_ret
    exact ⟨rfl, rfl⟩
theorem back_any (r : Nat) (w : World) (hr : r < 18446744073709551616) : Calls Tryd.prog 27 #[.int .u64 (r : Int)] w fun e w' => e = .returned (.float .f64 (backN r)) ∧ w = w' := by
  by_cases h : 9223372036854775808 ≤ r
  · rw [backN_hi h]
    have h1 := band_top_ne h hr
    have h2 := bandNot_top hr
    have h3 : r % 9223372036854775808 = r - 9223372036854775808 := by omega
    rw [h3] at h2
    have H2 := Lib.hid h2
    clear h hr h3 h2
    go_enter Tryd.func27, Tryd.ntmps27
    go_wp2_with (go_at_call 16; rw [H2.out]; refine (of_any _ _).mono ?_; rintro e w' ⟨rfl, rfl⟩)
    go_ret
    exact ⟨rfl, rfl⟩
  · rw [backN_lo (by omega)]
    have h1 := band_top_eq (n := r) (by omega)
    have h2 := bnot hr
    have H2 := Lib.hid h2
    clear h hr h2
    go_enter Tryd.func27, Tryd.ntmps27
    go_wp2_with (go_at_call 16; rw [H2.out]; refine (of_any _ _).mono ?_; rintro e w' ⟨rfl, rfl⟩)
    go_ret
    exact ⟨rfl, rfl⟩
theorem rback_any (r : Nat) (w : World) (hr : r < 18446744073709551616) : Calls Tryd.prog 28 #[.int .u64 (r : Int)] w fun e w' => e = .returned (.float .f64 (backN r)) ∧ w = w' := by
  by_cases h : 9223372036854775808 ≤ r
  · rw [backN_hi h]
    have h1 := band_top_ne h hr
    have h2 := bxor_top h hr
    have H2 := Lib.hid h2
    clear h hr h2
    go_enter Tryd.func28, Tryd.ntmps28
    go_wp2_with (go_at_call 18; rw [H2.out]; refine (rof_any _ _).mono ?_; rintro e w' ⟨rfl, rfl⟩)
    go_ret
    exact ⟨rfl, rfl⟩
  · rw [backN_lo (by omega)]
    have h1 := band_top_eq (n := r) (by omega)
    have h2 := bnot hr
    have H2 := Lib.hid h2
    clear h hr h2
    go_enter Tryd.func28, Tryd.ntmps28
    go_wp2_with (go_at_call 18; rw [H2.out]; refine (rof_any _ _).mono ?_; rintro e w' ⟨rfl, rfl⟩)
    go_ret
    exact ⟨rfl, rfl⟩
theorem ccmp_any (x y : Nat) (w : World) : Calls Tryd.prog 50 #[.int .u64 (x : Int), .int .u64 (y : Int)] w fun e w' => e = .returned (.int .i64 (cmpN x y)) ∧ w = w' := by
  by_cases h : x < y
  · rw [cmpN_lt h]
    go_enter Tryd.func50, Tryd.ntmps50
    go_wp2
    go_ret
    exact ⟨rfl, rfl⟩
  · by_cases h2 : y < x
    · rw [cmpN_gt h2]
      go_enter Tryd.func50, Tryd.ntmps50
      go_wp2
      go_ret
      exact ⟨rfl, rfl⟩
    · obtain rfl : x = y := by omega
      rw [cmpN_eq]
      clear h h2
      go_enter Tryd.func50, Tryd.ntmps50
      go_wp2
      go_ret
      exact ⟨rfl, rfl⟩
theorem compare_any (a b : Nat) (w : World) (ha : a < 18446744073709551616) (hb : b < 18446744073709551616) : Calls Tryd.prog 36 #[.float .f64 a, .float .f64 b] w fun e w' => e = .returned (.int .i64 (cmpN (rankN a) (rankN b))) ∧ w = w' := by
  have Ha := Lib.hid ha; have Hb := Lib.hid hb; clear ha hb
  go_enter Tryd.func36, Tryd.ntmps36
  go_wp2_with (first | (go_at_call 25; refine (rank_any _ _ (by first | exact Ha.out | exact Hb.out)).mono ?_; rintro e w' ⟨rfl, rfl⟩) | (go_at_call 50; refine (ccmp_any _ _ _).mono ?_; rintro e w' ⟨rfl, rfl⟩))
  go_ret
  exact ⟨rfl, rfl⟩
theorem rcompare_any (a b : Nat) (w : World) (ha : a < 18446744073709551616) (hb : b < 18446744073709551616) : Calls Tryd.prog 37 #[.float .f64 a, .float .f64 b] w fun e w' => e = .returned (.int .i64 (cmpN (rankN a) (rankN b))) ∧ w = w' := by
  have Ha := Lib.hid ha; have Hb := Lib.hid hb; clear ha hb
  by_cases h : rankN a < rankN b
  · rw [cmpN_lt h]
    go_enter Tryd.func37, Tryd.ntmps37
    go_wp2_with (go_at_call 26; refine (rrank_any _ _ (by first | exact Ha.out | exact Hb.out)).mono ?_; rintro e w' ⟨rfl, rfl⟩)
    go_ret
    exact ⟨rfl, rfl⟩
  · by_cases h2 : rankN b < rankN a
    · rw [cmpN_gt h2]
      go_enter Tryd.func37, Tryd.ntmps37
      go_wp2_with (go_at_call 26; refine (rrank_any _ _ (by first | exact Ha.out | exact Hb.out)).mono ?_; rintro e w' ⟨rfl, rfl⟩)
      go_ret
      exact ⟨rfl, rfl⟩
    · have e : rankN a = rankN b := by omega
      rw [e, cmpN_eq]
      have E := Lib.hid e; clear e
      go_enter Tryd.func37, Tryd.ntmps37
      go_wp2_with (go_at_call 26; refine (rrank_any _ _ (by first | exact Ha.out | exact Hb.out)).mono ?_; rintro e w' ⟨rfl, rfl⟩)
      go_ret
      exact ⟨rfl, rfl⟩
end Go.Proofs.YtjgbccadjgelbaaDoor
