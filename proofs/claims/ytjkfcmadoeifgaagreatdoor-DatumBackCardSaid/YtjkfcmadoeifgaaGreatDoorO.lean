/- How two finite floats above nought stand to each other: as their bits do. Conditions: finite, not negative. -/
import Derived.Test.YtjkfcmadoeifgaaGreatDoorP
namespace Go.Proofs.YtjkfcmadoeifgaaGreatDoor
open Ieee

theorem full_mono {r q : Nat} (h : r < q) (he : expN r = expN q) (_hq : q < infR) : fullN r < fullN q := by
  by_cases h1 : r < 4503599627370496
  · by_cases h2 : q < 4503599627370496
    · rw [fullN_lo h1, fullN_lo h2]; exact h
    · rw [expN_lo h1, expN_hi h2] at he
      rw [fullN_lo h1, fullN_hi h2]; omega
  · have h2 : ¬ q < 4503599627370496 := by omega
    rw [expN_hi h1, expN_hi h2] at he
    rw [fullN_hi h1, fullN_hi h2]; omega
theorem exp_mono {r q : Nat} (h : r < q) : expN r ≤ expN q := by
  by_cases h1 : r < 4503599627370496
  · by_cases h2 : q < 4503599627370496
    · rw [expN_lo h1, expN_lo h2]; omega
    · rw [expN_lo h1, expN_hi h2]; omega
  · have h2 : ¬ q < 4503599627370496 := by omega
    rw [expN_hi h1, expN_hi h2]; omega
theorem full_lt {r : Nat} : fullN r < 9007199254740992 := by
  by_cases h2 : r < 4503599627370496
  · rw [fullN_lo h2]; omega
  · rw [fullN_hi h2]; omega
theorem val_lt {r q i j : Nat} (h : r < q) (hq : q < infR) (hr : i + expN q = j + expN r) : fullN r * 2 ^ i < fullN q * 2 ^ j := by
  have hm := exp_mono h
  have h1 := (expN_bd hq)
  by_cases he : expN r = expN q
  · have : i = j := by omega
    subst this
    exact Nat.mul_lt_mul_of_pos_right (full_mono h he hq) (Nat.two_pow_pos _)
  · obtain ⟨d, hd⟩ : ∃ d, j = i + 1 + d := ⟨j - i - 1, by omega⟩
    have hq2 : ¬ q < 4503599627370496 := by
      intro h2
      have := expN_lo h2
      have := (expN_bd (m := r) (by omega)).1
      omega
    have l1 : 4503599627370496 ≤ fullN q := by rw [fullN_hi hq2]; omega
    have l2 := full_lt (r := r)
    calc fullN r * 2 ^ i < 9007199254740992 * 2 ^ i := Nat.mul_lt_mul_of_pos_right l2 (Nat.two_pow_pos _)
      _ = 4503599627370496 * 2 ^ (i + 1) := by rw [Nat.pow_succ, Nat.mul_comm (2 ^ i) 2, ← Nat.mul_assoc]
      _ ≤ 4503599627370496 * 2 ^ j := Nat.mul_le_mul_left _ (Nat.pow_le_pow_right (by decide) (by omega))
      _ ≤ fullN q * 2 ^ j := Nat.mul_le_mul_right _ l1
theorem val_eq {r q : Nat} {i j : Nat} (h : r = q) (hr : i + expN q = j + expN r) : fullN r * 2 ^ i = fullN q * 2 ^ j := by
  subst h
  have : i = j := by omega
  rw [this]

theorem cmp_lt {x y : Int} (h : x < y) : compare x y = .lt := Int.compare_eq_lt.2 h
theorem cmp_gt {x y : Int} (h : y < x) : compare x y = .gt := Int.compare_eq_gt.2 h

theorem order_pos {r q : Nat} (hr : r < infR) (hq : q < infR) : double.order r q = some (if r < q then .lt else if q < r then .gt else .eq) := by
  unfold Format.order
  rw [read_pos hr, read_pos hq]
  have b1 := expN_bd hr
  have b2 := expN_bd hq
  simp only [Datum.order, signed_pos]
  generalize hi : ((expN r : Int) - 1075 - min ((expN r : Int) - 1075) ((expN q : Int) - 1075)).toNat = i
  generalize hj : ((expN q : Int) - 1075 - min ((expN r : Int) - 1075) ((expN q : Int) - 1075)).toNat = j
  have hij : i + expN q = j + expN r := by omega
  by_cases h1 : r < q
  · rw [if_pos h1, cmp_lt (by exact Int.ofNat_lt.2 (val_lt h1 hq hij))]
  · rw [if_neg h1]
    by_cases h2 : q < r
    · rw [if_pos h2, cmp_gt (by exact Int.ofNat_lt.2 (val_lt h2 hr (by omega)))]
    · rw [if_neg h2]
      have : r = q := by omega
      rw [val_eq this hij, Int.compare_eq_eq.2 rfl]
theorem order_lt_t {r q : Nat} (hr : r < infR) (hq : q < infR) (h : r < q) : (double.order r q == some .lt) = true := by
  rw [order_pos hr hq, if_pos h]; rfl
theorem order_lt_f {r q : Nat} (hr : r < infR) (hq : q < infR) (h : ¬ r < q) : (double.order r q == some .lt) = false := by
  rw [order_pos hr hq, if_neg h]
  by_cases h2 : q < r
  · rw [if_pos h2]; rfl
  · rw [if_neg h2]; rfl
theorem order_gt_f {r q : Nat} (hr : r < infR) (hq : q < infR) (h : ¬ q < r) : (double.order r q == some .gt) = false := by
  rw [order_pos hr hq]
  by_cases h2 : r < q
  · rw [if_pos h2]; rfl
  · rw [if_neg h2, if_neg h]; rfl
theorem order_gt_t {r q : Nat} (hr : r < infR) (hq : q < infR) (h : q < r) : (double.order r q == some .gt) = true := by
  rw [order_pos hr hq, if_neg (by omega), if_pos h]; rfl
theorem order_eq_f {r q : Nat} (hr : r < infR) (hq : q < infR) (h : r ≠ q) : (double.order r q == some .eq) = false := by
  rw [order_pos hr hq]
  by_cases h2 : r < q
  · rw [if_pos h2]; rfl
  · rw [if_neg h2, if_pos (by omega)]; rfl
end Go.Proofs.YtjkfcmadoeifgaaGreatDoor
