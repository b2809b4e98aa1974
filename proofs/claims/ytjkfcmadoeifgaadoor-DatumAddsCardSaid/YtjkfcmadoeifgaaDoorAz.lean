/- What nought added leaves. Conditions: bits below 2^64. -/
import Derived.Test.YtjkfcmadoeifgaaDoorHalf
import Derived.Test.YtjkfcmadoeifgaaDoorVc
namespace Go.Proofs.YtjkfcmadoeifgaaDoor
open Ieee
theorem expN_one (r : Nat) : 1 ≤ expN r := by
  unfold expN
  by_cases h : r < 4503599627370496
  · rw [decide_eq_true h]; exact Nat.le_refl _
  · rw [decide_eq_false h]
    show 1 ≤ r / 4503599627370496
    omega
theorem read_nought : double.read 0 = .number false 0 (-1074) := by decide
theorem add_zero_fin {r : Nat} (neg : Bool) (h : r < infR) (h0 : r ≠ 0) : double.add (double.word neg r) 0 = some (double.word neg r) := by
  unfold Format.add
  rw [read_word neg h, read_nought]
  have he := expN_one r
  obtain ⟨k, hk⟩ : ∃ k : Nat, expN r = k + 1 := ⟨expN r - 1, by omega⟩
  have hb : min ((expN r : Int) - 1075) (-1074) = -1074 := by omega
  have hs : ((expN r : Int) - 1075 - (-1074)).toNat = k := by omega
  have hz : signed false 0 ((-1074 : Int) - (-1074)).toNat = 0 := by decide
  simp only [Datum.sum]
  rw [hb, hs, hz, Int.add_zero]
  have hne := full_ne h0
  have hpos : 0 < fullN r <<< k := by
    rw [Nat.shiftLeft_eq]
    exact Nat.mul_pos (by omega) (Nat.two_pow_pos k)
  have hex := nearest_exact (r := r) (mag := fullN r <<< k) (a := 0) (b := k) (place := -1074) (by omega) h (by rw [Nat.shiftLeft_eq, Nat.pow_zero, Nat.mul_one]) (by omega) neg
  cases neg
  · have h1 : signed false (fullN r) k = ((fullN r <<< k : Nat) : Int) := rfl
    rw [h1]
    rw [if_neg (by omega), show decide (((fullN r <<< k : Nat) : Int) < 0) = false from decide_eq_false (by omega), Int.natAbs_natCast]
    simp only [Option.map_some, Format.write]
    rw [hex]
  · have h1 : signed true (fullN r) k = -((fullN r <<< k : Nat) : Int) := rfl
    rw [h1]
    rw [if_neg (by omega), show decide (-((fullN r <<< k : Nat) : Int) < 0) = true from decide_eq_true (by omega), Int.natAbs_neg, Int.natAbs_natCast]
    simp only [Option.map_some, Format.write]
    rw [hex]
theorem add_zero_inf (neg : Bool) : double.add (double.word neg infR) 0 = some (double.word neg infR) := by
  unfold Format.add
  rw [read_inf, read_nought]
  cases neg <;> decide
theorem add_nan {a b : Nat} (h : nanB a = true) : double.add a b = none := by
  obtain ⟨s, t, hr⟩ := read_nanB h
  unfold Format.add
  rw [hr]; rfl
theorem add_zero_zero (neg : Bool) : double.add (double.word neg 0) 0 = some 0 := by cases neg <;> decide
/-- A number and nought: the number, or plus nought of a nought. -/
theorem add_zero_res {a : Nat} (h : a < 18446744073709551616) : resN (double.add a 0) = canon a ∨ (a % 9223372036854775808 = 0 ∧ resN (double.add a 0) = 0) := by
  rcases kinds h with hn | ⟨hn, neg, rfl⟩ | ⟨hn, neg, r, hr, rfl⟩
  · left; rw [add_nan hn, canon_nan hn, resN_none]
  · left; rw [add_zero_inf, resN_some]
  · by_cases h0 : r = 0
    · subst h0
      right
      rw [add_zero_zero, resN_some]
      exact ⟨word_lo (by decide), by decide⟩
    · left; rw [add_zero_fin neg hr h0, resN_some]
theorem plus_turned (a b : DV) : plusV a b = plusV b a := by
  unfold plusV
  rw [add_comm' (addV a).1 (addV b).1, Bool.and_comm]
end Go.Proofs.YtjkfcmadoeifgaaDoor
