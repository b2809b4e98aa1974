/- Plain facts on the bits of 64-bit floats: the one NaN, ranks, classes. Conditions: none of its own. -/
import Ieee.Arith
import Derived.Laws.FloatBits
namespace Go.Proofs.Ytfcdajkgopcmpaa

/-- The rung of infinity. -/
def infR : Nat := 9218868437227405312
def nanB (b : Nat) : Bool := decide (infR < b % 9223372036854775808)
def oneNaN : Nat := 9221120237041090560
def canon (b : Nat) : Nat := bif nanB b then oneNaN else b
theorem canon_nan {b : Nat} (h : nanB b = true) : canon b = oneNaN := by simp [canon, h]
theorem canon_num {b : Nat} (h : nanB b = false) : canon b = b := by simp [canon, h]
theorem nanB_one : nanB oneNaN = true := by decide
theorem canon_one : canon oneNaN = oneNaN := by decide
theorem canon_lt {b : Nat} (h : b < 18446744073709551616) : canon b < 18446744073709551616 := by
  unfold canon oneNaN; cases nanB b <;> simp [h]
theorem canon_canon (b : Nat) : canon (canon b) = canon b := by
  cases h : nanB b
  · rw [canon_num h, canon_num h]
  · rw [canon_nan h, canon_one]

open Ieee
theorem dbl_sw : double.signWeight = 9223372036854775808 := by decide
theorem dbl_bin : double.binade = 4503599627370496 := by decide
theorem dbl_inf : double.infRung = infR := by decide
theorem dbl_least : double.leastPlace = -1074 := by decide
theorem dbl_fb : double.fractionBits = 52 := by decide

/-- What the word of a double stands for. -/
theorem read_eq (b : Nat) : double.read b =
    if b % 9223372036854775808 < 4503599627370496 then .number (b / 9223372036854775808 % 2 == 1) (b % 9223372036854775808) (-1074)
    else if b % 9223372036854775808 < infR then .number (b / 9223372036854775808 % 2 == 1) (4503599627370496 + b % 9223372036854775808 % 4503599627370496) (-1074 + (b % 9223372036854775808 / 4503599627370496 - 1 : Nat))
    else if b % 9223372036854775808 = infR then .infinity (b / 9223372036854775808 % 2 == 1)
    else .nan (b / 9223372036854775808 % 2 == 1) (b % 9223372036854775808 - infR) := by
  unfold Format.read
  simp only [dbl_sw, dbl_bin, dbl_inf, dbl_least]

theorem order_self (b : Nat) : double.order b b = if nanB b then none else some .eq := by
  unfold Format.order
  rw [read_eq b]
  unfold nanB infR
  by_cases h1 : b % 9223372036854775808 < 4503599627370496
  · have : ¬ 9218868437227405312 < b % 9223372036854775808 := by omega
    simp [h1, this, Datum.order]
  · by_cases h2 : b % 9223372036854775808 < 9218868437227405312
    · have : ¬ 9218868437227405312 < b % 9223372036854775808 := by omega
      simp [h1, h2, this, Datum.order]
    · by_cases h3 : b % 9223372036854775808 = 9218868437227405312
      · simp [h3, Datum.order]
      · have : 9218868437227405312 < b % 9223372036854775808 := by omega
        simp [h1, h2, h3, this, Datum.order]

theorem neq_self (b : Nat) : (double.order b b != some .eq) = nanB b := by
  rw [order_self]; cases nanB b <;> rfl
theorem read_nan_iff (b : Nat) : (double.read b).isNaN = nanB b := by
  rw [read_eq b]
  unfold nanB infR
  by_cases h1 : b % 9223372036854775808 < 4503599627370496
  · have : ¬ 9218868437227405312 < b % 9223372036854775808 := by omega
    simp [h1, this, Datum.isNaN]
  · by_cases h2 : b % 9223372036854775808 < 9218868437227405312
    · have : ¬ 9218868437227405312 < b % 9223372036854775808 := by omega
      simp [h1, h2, this, Datum.isNaN]
    · by_cases h3 : b % 9223372036854775808 = 9218868437227405312
      · simp [h3, Datum.isNaN]
      · have : 9218868437227405312 < b % 9223372036854775808 := by omega
        simp [h1, h2, h3, this, Datum.isNaN]

def rankN (b : Nat) : Nat := bif decide (9223372036854775808 ≤ canon b) then 18446744073709551615 - canon b else canon b + 9223372036854775808
theorem rankN_hi {b : Nat} (h : 9223372036854775808 ≤ canon b) : rankN b = 18446744073709551615 - canon b := by
  unfold rankN; rw [decide_eq_true h, cond_true]
theorem rankN_lo {b : Nat} (h : canon b < 9223372036854775808) : rankN b = canon b + 9223372036854775808 := by
  unfold rankN; rw [decide_eq_false (by omega), cond_false]
theorem rankN_lt {b : Nat} (h : b < 18446744073709551616) : rankN b < 18446744073709551616 := by
  have := canon_lt h
  by_cases h2 : 9223372036854775808 ≤ canon b
  · rw [rankN_hi h2]; omega
  · rw [rankN_lo (by omega)]; omega
def backN (r : Nat) : Nat := canon (bif decide (9223372036854775808 ≤ r) then r - 9223372036854775808 else 18446744073709551615 - r)
theorem backN_hi {r : Nat} (h : 9223372036854775808 ≤ r) : backN r = canon (r - 9223372036854775808) := by
  unfold backN; rw [decide_eq_true h, cond_true]
theorem backN_lo {r : Nat} (h : r < 9223372036854775808) : backN r = canon (18446744073709551615 - r) := by
  unfold backN; rw [decide_eq_false (by omega), cond_false]
theorem backN_lt {r : Nat} (h : r < 18446744073709551616) : backN r < 18446744073709551616 := by
  by_cases h2 : 9223372036854775808 ≤ r
  · rw [backN_hi h2]; exact canon_lt (by omega)
  · rw [backN_lo (by omega)]; exact canon_lt (by omega)
/-- -1, 0, 1: how two ranks stand. -/
def cmpN (x y : Nat) : Int := bif decide (x < y) then -1 else bif decide (y < x) then 1 else 0
theorem cmpN_lt {x y : Nat} (h : x < y) : cmpN x y = -1 := by simp [cmpN, h]
theorem cmpN_gt {x y : Nat} (h : y < x) : cmpN x y = 1 := by
  have : ¬ x < y := by omega
  simp [cmpN, h, this]
theorem cmpN_eq (x : Nat) : cmpN x x = 0 := by simp [cmpN]
/-- The class of a float, 0 to 8. -/
def distN (m : Nat) : Nat := bif decide (m = 0) then 0 else bif decide (m < 4503599627370496) then 1 else bif decide (m < infR) then 2 else 3
def clsN (b : Nat) : Nat := bif nanB b then 0 else bif decide (b < 9223372036854775808) then 5 + distN (b % 9223372036854775808) else 4 - distN (b % 9223372036854775808)
theorem distN_le (m : Nat) : distN m ≤ 3 := by
  unfold distN
  cases decide (m = 0) <;> cases decide (m < 4503599627370496) <;> cases decide (m < infR) <;> simp
end Go.Proofs.Ytfcdajkgopcmpaa
