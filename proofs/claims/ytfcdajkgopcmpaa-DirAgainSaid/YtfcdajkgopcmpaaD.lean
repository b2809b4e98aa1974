/- Contracts of num's and raceref1's ranks, orders and classes. Conditions: bits below 2^64. -/
import Derived.Test.YtfcdajkgopcmpaaB
import Derived.Test.YtfcdajkgopcmpaaC
namespace Go.Proofs.Ytfcdajkgopcmpaa
open Go.RowKit

theorem rank_any (b : Nat) (w : World) (hb : b < 18446744073709551616) : Calls Try.prog 67 #[.float .f64 b] w fun e w' => e = .returned (.int .u64 (rankN b : Nat)) ∧ w = w' := by
  have hc := canon_lt hb
  by_cases h : 9223372036854775808 ≤ canon b
  · rw [rankN_hi h]
    have h1 := band_top_ne h hc
    have h2 := bnot hc
    clear h hc hb
    go_enter Try.func67, Try.ntmps67
    go_wp2_with (go_at_call 81; refine (bits_any _ _).mono ?_; rintro e w' ⟨rfl, rfl⟩)
    go_ret
    exact ⟨rfl, rfl⟩
  · rw [rankN_lo (by omega)]
    have h1 := band_top_eq (n := canon b) (by omega)
    have h2 := bor_top (n := canon b) (by omega)
    clear h hc hb
    go_enter Try.func67, Try.ntmps67
    go_wp2_with (go_at_call 81; refine (bits_any _ _).mono ?_; rintro e w' ⟨rfl, rfl⟩)
    go_ret
    exact ⟨rfl, rfl⟩
theorem ccmp_any (x y : Nat) (w : World) : Calls Try.prog 66 #[.int .u64 (x : Int), .int .u64 (y : Int)] w fun e w' => e = .returned (.int .i64 (cmpN x y)) ∧ w = w' := by
  by_cases h : x < y
  · rw [cmpN_lt h]
    go_enter Try.func66, Try.ntmps66
    go_wp2
    go_ret
    exact ⟨rfl, rfl⟩
  · by_cases h2 : y < x
    · rw [cmpN_gt h2]
      go_enter Try.func66, Try.ntmps66
      go_wp2
      go_ret
      exact ⟨rfl, rfl⟩
    · obtain rfl : x = y := by omega
      rw [cmpN_eq]
      clear h h2
      go_enter Try.func66, Try.ntmps66
      go_wp2
      go_ret
      exact ⟨rfl, rfl⟩
theorem compare_any (a b : Nat) (w : World) (ha : a < 18446744073709551616) (hb : b < 18446744073709551616) : Calls Try.prog 57 #[.float .f64 a, .float .f64 b] w fun e w' => e = .returned (.int .i64 (cmpN (rankN a) (rankN b))) ∧ w = w' := by
  have Ha := Lib.hid ha; have Hb := Lib.hid hb; clear ha hb
  go_enter Try.func57, Try.ntmps57
  go_wp2_with (first | (go_at_call 67; refine (rank_any _ _ (by first | exact Ha.out | exact Hb.out)).mono ?_; rintro e w' ⟨rfl, rfl⟩) | (go_at_call 66; refine (ccmp_any _ _ _).mono ?_; rintro e w' ⟨rfl, rfl⟩))
  go_ret
  exact ⟨rfl, rfl⟩
end Go.Proofs.Ytfcdajkgopcmpaa
