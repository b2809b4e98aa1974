/- Small facts on ranks, classes and orders, and contracts at a named result. Conditions: bits below 2^64. -/
import Derived.Test.YtjkfcmadoeifgaaGreatDoorE
import Derived.Test.YtjkfcmadoeifgaaGreatDoorF
import Derived.Test.YtjkfcmadoeifgaaGreatDoorG
import Derived.Test.YtjkfcmadoeifgaaGreatDoorY
namespace Go.Proofs.YtjkfcmadoeifgaaGreatDoor
open Go.RowKit
theorem tabs_drewN {w : World} (h : Tabs w) (n : Nat) : Tabs (w.drewN n) := h.below (below_drewN (Below.refl _ _) n)
theorem canon_back {b : Nat} (h : b < 18446744073709551616) : backN (rankN b) = canon b := by
  have hc := canon_lt h
  by_cases h2 : 9223372036854775808 ≤ canon b
  · rw [rankN_hi h2, backN_lo (by omega)]
    have : 18446744073709551615 - (18446744073709551615 - canon b) = canon b := by omega
    rw [this, canon_canon]
  · rw [rankN_lo (by omega), backN_hi (by omega)]
    have : canon b + 9223372036854775808 - 9223372036854775808 = canon b := by omega
    rw [this, canon_canon]
theorem rank_inj {a b : Nat} (ha : a < 18446744073709551616) (hb : b < 18446744073709551616) (h : rankN a = rankN b) : canon a = canon b := by
  rw [← canon_back ha, ← canon_back hb, h]
theorem rank_canon (b : Nat) : rankN (canon b) = rankN b := by unfold rankN; rw [canon_canon]
/-- The classes go up with the ranks; NaN lies behind all. -/
theorem cls_canon (b : Nat) : clsN (canon b) = clsN b := by
  cases h : nanB b
  · rw [canon_num h]
  · rw [canon_nan h, cls_nan h, cls_nan nanB_one]
theorem cls_rank {a b : Nat} (ha : a < 18446744073709551616) (hb : b < 18446744073709551616) (h : rankN a ≤ rankN b) (hn : clsN b ≠ 0) : clsN a ≠ 0 ∧ clsN a ≤ clsN b := by
  have hnb : nanB b = false := by
    cases h2 : nanB b
    · rfl
    · exact absurd (cls_nan h2) hn
  have hcb := canon_num hnb
  have hb2 : ¬ infR < b % 9223372036854775808 := by simpa [nanB] using hnb
  unfold infR at hb2
  cases hna : nanB a
  · have hca := canon_num hna
    have ha2 : ¬ infR < a % 9223372036854775808 := by simpa [nanB] using hna
    unfold infR at ha2
    have mono : ∀ x y : Nat, x ≤ y → distN x ≤ distN y := by
      intro x y hxy
      by_cases c0 : x = 0
      · rw [distN_0 c0]; omega
      · by_cases c1 : y < 4503599627370496
        · rw [distN_1 c0 (by omega), distN_1 (by omega) c1]; omega
        · by_cases c2 : y < infR
          · by_cases c3 : x < 4503599627370496
            · rw [distN_1 c0 c3, distN_2 c1 c2]; omega
            · rw [distN_2 c3 (by omega), distN_2 c1 c2]; omega
          · rw [distN_3 c2]; exact distN_le x
    have da := distN_le (a % 9223372036854775808)
    have db := distN_le (b % 9223372036854775808)
    by_cases sa : a < 9223372036854775808
    · have ra := rankN_lo (b := a) (by rw [hca]; exact sa)
      have ca := clsN_pos hna sa
      by_cases sb : b < 9223372036854775808
      · have rb := rankN_lo (b := b) (by rw [hcb]; exact sb)
        have cb := clsN_pos hnb sb
        have := mono (a % 9223372036854775808) (b % 9223372036854775808) (by omega)
        omega
      · have rb := rankN_hi (b := b) (by rw [hcb]; omega)
        omega
    · have ra := rankN_hi (b := a) (by rw [hca]; omega)
      have ca := clsN_neg hna sa
      by_cases sb : b < 9223372036854775808
      · have rb := rankN_lo (b := b) (by rw [hcb]; exact sb)
        have cb := clsN_pos hnb sb
        omega
      · have rb := rankN_hi (b := b) (by rw [hcb]; omega)
        have cb := clsN_neg hnb sb
        have := mono (b % 9223372036854775808) (a % 9223372036854775808) (by omega)
        omega
  · have hca := canon_nan hna
    have ra := rankN_lo (b := a) (by rw [hca]; decide)
    rw [hca] at ra
    unfold oneNaN at ra
    by_cases sb : b < 9223372036854775808
    · have rb := rankN_lo (b := b) (by rw [hcb]; exact sb)
      omega
    · have rb := rankN_hi (b := b) (by rw [hcb]; omega)
      omega
theorem ret_b {a b : Bool} (h : a = b) : Ending.returned (.bool a) = .returned (.bool b) := by rw [h]
theorem cmp_is (a b : Nat) (k : Int) (h : cmpN (rankN a) (rankN b) = k) (ha : a < 18446744073709551616) (hb : b < 18446744073709551616) (w : World) :
    Calls Tryz.prog 38 #[.float .f64 a, .float .f64 b] w fun e w' => e = .returned (.int .i64 k) ∧ w = w' := by
  subst h; exact compare_any a b w ha hb
theorem class_is (a k : Nat) (h : clsN a = k) (ha : a < 18446744073709551616) (w : World) :
    Calls Tryz.prog 89 #[.float .f64 a] w fun e w' => e = .returned (.int .i64 (k : Int)) ∧ w = w' := by
  subst h; exact class_any a w ha
theorem bits_is (a k : Nat) (h : canon a = k) (w : World) :
    Calls Tryz.prog 66 #[.float .f64 a] w fun e w' => e = .returned (.int .u64 (k : Int)) ∧ w = w' := by
  subst h; exact bits_any a w
theorem rank_is (a k : Nat) (h : rankN a = k) (ha : a < 18446744073709551616) (w : World) :
    Calls Tryz.prog 71 #[.float .f64 a] w fun e w' => e = .returned (.int .u64 (k : Int)) ∧ w = w' := by
  subst h; exact rank_any a w ha
theorem cmpN_nonpos {x y : Nat} (h : x ≤ y) : cmpN x y ≤ 0 := by have := cmpN_le0 h; simpa using this
theorem cmpN_posi {x y : Nat} (h : ¬ x ≤ y) : 0 < cmpN x y := by rw [cmpN_gt (by omega)]; decide
theorem cmpN_nonneg {x y : Nat} (h : y ≤ x) : 0 ≤ cmpN x y := by
  by_cases h2 : y < x
  · rw [cmpN_gt h2]; decide
  · obtain rfl : x = y := by omega
    rw [cmpN_eq]; decide
end Go.Proofs.YtjkfcmadoeifgaaGreatDoor
