/- Contracts of num's and raceref1's ranks, orders and classes. Conditions: bits below 2^64. -/
import Derived.Test.YtjkfcmadoeifgaaGreatDoorB
import Derived.Test.YtjkfcmadoeifgaaGreatDoorC
namespace Go.Proofs.YtjkfcmadoeifgaaGreatDoor
open Go.RowKit

theorem rank_any (b : Nat) (w : World) (hb : b < 18446744073709551616) : Calls Tryz.prog 71 #[.float .f64 b] w fun e w' => e = .returned (.int .u64 (rankN b : Nat)) ∧ w = w' := by
  have hc := canon_lt hb
  by_cases h : 9223372036854775808 ≤ canon b
  · rw [rankN_hi h]
    have h1 := band_top_ne h hc
    have h2 := bnot hc
    clear h hc hb
    go_enter Tryz.func71, Tryz.ntmps71
    go_wp2_with (go_at_call 66; refine (bits_any _ _).mono ?_; rintro e w' ⟨rfl, rfl⟩)
    go_ret
    exact ⟨rfl, rfl⟩
  · rw [rankN_lo (by omega)]
    have h1 := band_top_eq (n := canon b) (by omega)
    have h2 := bor_top (n := canon b) (by omega)
    clear h hc hb
    go_enter Tryz.func71, Tryz.ntmps71
    go_wp2_with (go_at_call 66; refine (bits_any _ _).mono ?_; rintro e w' ⟨rfl, rfl⟩)
    go_ret
    exact ⟨rfl, rfl⟩
theorem rrank_any (b : Nat) (w : World) (hb : b < 18446744073709551616) : Calls Tryz.prog 73 #[.float .f64 b] w fun e w' => e = .returned (.int .u64 (rankN b : Nat)) ∧ w = w' := by
  have hc := canon_lt hb
  by_cases h : 9223372036854775808 ≤ canon b
  · rw [rankN_hi h]
    have h1 := band_top_ne h hc
    have h2 := bnot hc
    clear h hc hb
    go_enter Tryz.func73, Tryz.ntmps73
    go_wp2_with (go_at_call 82; refine (rbits_any _ _).mono ?_; rintro e w' ⟨rfl, rfl⟩)
    go_ret
    exact ⟨rfl, rfl⟩
  · rw [rankN_lo (by omega)]
    have h1 := band_top_eq (n := canon b) (by omega)
    have h2 := bor_top (n := canon b) (by omega)
    clear h hc hb
    go_enter Tryz.func73, Tryz.ntmps73
    go_wp2_with (go_at_call 82; refine (rbits_any _ _).mono ?_; rintro e w' ⟨rfl, rfl⟩)
    go_ret
    exact ⟨rfl, rfl⟩
theorem ccmp_any (x y : Nat) (w : World) : Calls Tryz.prog 70 #[.int .u64 (x : Int), .int .u64 (y : Int)] w fun e w' => e = .returned (.int .i64 (cmpN x y)) ∧ w = w' := by
  by_cases h : x < y
  · rw [cmpN_lt h]
    go_enter Tryz.func70, Tryz.ntmps70
    go_wp2
    go_ret
    exact ⟨rfl, rfl⟩
  · by_cases h2 : y < x
    · rw [cmpN_gt h2]
      go_enter Tryz.func70, Tryz.ntmps70
      go_wp2
      go_ret
      exact ⟨rfl, rfl⟩
    · obtain rfl : x = y := by omega
      rw [cmpN_eq]
      clear h h2
      go_enter Tryz.func70, Tryz.ntmps70
      go_wp2
      go_ret
      exact ⟨rfl, rfl⟩
theorem compare_any (a b : Nat) (w : World) (ha : a < 18446744073709551616) (hb : b < 18446744073709551616) : Calls Tryz.prog 38 #[.float .f64 a, .float .f64 b] w fun e w' => e = .returned (.int .i64 (cmpN (rankN a) (rankN b))) ∧ w = w' := by
  have Ha := Lib.hid ha; have Hb := Lib.hid hb; clear ha hb
  go_enter Tryz.func38, Tryz.ntmps38
  go_wp2_with (first | (go_at_call 71; refine (rank_any _ _ (by first | exact Ha.out | exact Hb.out)).mono ?_; rintro e w' ⟨rfl, rfl⟩) | (go_at_call 70; refine (ccmp_any _ _ _).mono ?_; rintro e w' ⟨rfl, rfl⟩))
  go_ret
  exact ⟨rfl, rfl⟩
theorem rcompare_any (a b : Nat) (w : World) (ha : a < 18446744073709551616) (hb : b < 18446744073709551616) : Calls Tryz.prog 40 #[.float .f64 a, .float .f64 b] w fun e w' => e = .returned (.int .i64 (cmpN (rankN a) (rankN b))) ∧ w = w' := by
  have Ha := Lib.hid ha; have Hb := Lib.hid hb; clear ha hb
  by_cases h : rankN a < rankN b
  · rw [cmpN_lt h]
    go_enter Tryz.func40, Tryz.ntmps40
    go_wp2_with (go_at_call 73; refine (rrank_any _ _ (by first | exact Ha.out | exact Hb.out)).mono ?_; rintro e w' ⟨rfl, rfl⟩)
    go_ret
    exact ⟨rfl, rfl⟩
  · by_cases h2 : rankN b < rankN a
    · rw [cmpN_gt h2]
      go_enter Tryz.func40, Tryz.ntmps40
      go_wp2_with (go_at_call 73; refine (rrank_any _ _ (by first | exact Ha.out | exact Hb.out)).mono ?_; rintro e w' ⟨rfl, rfl⟩)
      go_ret
      exact ⟨rfl, rfl⟩
    · have e : rankN a = rankN b := by omega
      rw [e, cmpN_eq]
      have E := Lib.hid e; clear e
      go_enter Tryz.func40, Tryz.ntmps40
      go_wp2_with (go_at_call 73; refine (rrank_any _ _ (by first | exact Ha.out | exact Hb.out)).mono ?_; rintro e w' ⟨rfl, rfl⟩)
      go_ret
      exact ⟨rfl, rfl⟩
end Go.Proofs.YtjkfcmadoeifgaaGreatDoor
