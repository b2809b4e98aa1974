/- What Go's masks make of 64-bit words, in plain arithmetic. Conditions: words below 2^64. -/
import Derived.Laws.BitsLemmas
import Derived.Laws.Bits64
namespace Go.Proofs.Ytfcdajkgopcmpaa
open Go

theorem ofInt_nat {n : Nat} (h : n < 18446744073709551616) : (BitVec.ofInt 64 (n : Int)).toNat = n := by
  rw [BitVec.ofInt_natCast, BitVec.toNat_ofNat]; exact Nat.mod_eq_of_lt (by omega)
theorem wrap_nat {n : Nat} (h : n < 18446744073709551616) : IntKind.u64.wrap (n : Int) = n := by
  rw [IntKind.wrap_u64]; omega
theorem band {a b : Nat} (ha : a < 18446744073709551616) (hb : b < 18446744073709551616) : bits .and .u64 (a : Int) (b : Int) = ((a &&& b : Nat) : Int) := by
  show IntKind.u64.wrap ((BitVec.ofInt 64 (a : Int) &&& BitVec.ofInt 64 (b : Int)).toNat : Int) = _
  rw [BitVec.toNat_and, ofInt_nat ha, ofInt_nat hb]
  exact wrap_nat (Nat.lt_of_le_of_lt Nat.and_le_left ha)
theorem bor {a b : Nat} (ha : a < 18446744073709551616) (hb : b < 18446744073709551616) : bits .or .u64 (a : Int) (b : Int) = ((a ||| b : Nat) : Int) := by
  show IntKind.u64.wrap ((BitVec.ofInt 64 (a : Int) ||| BitVec.ofInt 64 (b : Int)).toNat : Int) = _
  rw [BitVec.toNat_or, ofInt_nat ha, ofInt_nat hb]
  exact wrap_nat (Nat.or_lt_two_pow (n := 64) ha hb)
theorem bandNot {a b : Nat} (ha : a < 18446744073709551616) (hb : b < 18446744073709551616) : bits .andNot .u64 (a : Int) (b : Int) = ((a &&& (18446744073709551615 - b) : Nat) : Int) := by
  show IntKind.u64.wrap ((BitVec.ofInt 64 (a : Int) &&& ~~~ BitVec.ofInt 64 (b : Int)).toNat : Int) = _
  rw [BitVec.toNat_and, BitVec.toNat_not, ofInt_nat ha, ofInt_nat hb]
  exact wrap_nat (Nat.lt_of_le_of_lt Nat.and_le_left ha)

theorem mask_nat (n i : Nat) : n &&& (2 ^ i - 1) = n % 2 ^ i := Nat.and_two_pow_sub_one_eq_mod n i

theorem and_top_lo {n : Nat} (h : n < 9223372036854775808) : n &&& 9223372036854775808 = 0 := by
  have e : n = n &&& (2 ^ 63 - 1) := by rw [mask_nat]; omega
  have e2 : (2 ^ 63 - 1) &&& 9223372036854775808 = 0 := by decide
  rw [e, Nat.and_assoc, e2, Nat.and_zero]
theorem top_or {r : Nat} (h : r < 9223372036854775808) : 9223372036854775808 + r = 9223372036854775808 ||| r := Nat.two_pow_add_eq_or_of_lt (i := 63) h 1
theorem or_top_lo {r : Nat} (h : r < 9223372036854775808) : r ||| 9223372036854775808 = r + 9223372036854775808 := by
  rw [Nat.or_comm, ← top_or h, Nat.add_comm]
theorem and_top_hi {n : Nat} (h : 9223372036854775808 ≤ n) (h2 : n < 18446744073709551616) : n &&& 9223372036854775808 = 9223372036854775808 := by
  obtain ⟨r, rfl⟩ : ∃ r, n = 9223372036854775808 + r := ⟨n - 9223372036854775808, by omega⟩
  have hr : r < 9223372036854775808 := by omega
  rw [top_or hr, Nat.and_or_distrib_right, and_top_lo hr, Nat.or_zero, Nat.and_self]
theorem or_top_hi {n : Nat} (h : 9223372036854775808 ≤ n) (h2 : n < 18446744073709551616) : n ||| 9223372036854775808 = n := by
  obtain ⟨r, rfl⟩ : ∃ r, n = 9223372036854775808 + r := ⟨n - 9223372036854775808, by omega⟩
  have hr : r < 9223372036854775808 := by omega
  rw [top_or hr, Nat.or_comm, ← Nat.or_assoc, Nat.or_self]
theorem xor_top_hi {n : Nat} (h : 9223372036854775808 ≤ n) (h2 : n < 18446744073709551616) : n ^^^ 9223372036854775808 = n - 9223372036854775808 := by
  obtain ⟨r, rfl⟩ : ∃ r, n = 9223372036854775808 + r := ⟨n - 9223372036854775808, by omega⟩
  have hr : r < 2 ^ 63 := by omega
  have e : (9223372036854775808 + r) ^^^ 9223372036854775808 = r := by
    have t : 9223372036854775808 + r = 2 ^ 63 + r := rfl
    rw [t]
    show (2 ^ 63 + r) ^^^ 2 ^ 63 = r
    apply Nat.eq_of_testBit_eq
    intro i
    rw [Nat.testBit_xor, Nat.testBit_two_pow]
    by_cases hi : i = 63
    · subst hi
      rw [Nat.testBit_two_pow_add_eq, Nat.testBit_lt_two_pow hr]; simp
    · by_cases h64 : i < 63
      · have ne : ¬ 63 = i := by omega
        rw [Nat.testBit_two_pow_add_gt h64]; simp [ne]
      · have a1 : r.testBit i = false := Nat.testBit_lt_two_pow (Nat.lt_of_lt_of_le hr (Nat.pow_le_pow_right (by decide) (by omega)))
        have a2 : (2 ^ 63 + r).testBit i = false := Nat.testBit_lt_two_pow (Nat.lt_of_lt_of_le (by omega : 2 ^ 63 + r < 2 ^ 64) (Nat.pow_le_pow_right (by decide) (by omega)))
        have ne : ¬ 63 = i := by omega
        rw [a1, a2]; simp [ne]
  rw [e]; omega

theorem band_top_ne {n : Nat} (h : 9223372036854775808 ≤ n) (h2 : n < 18446744073709551616) : (bits .and .u64 (n : Int) 9223372036854775808 != 0) = true := by
  have := band (b := 9223372036854775808) h2 (by decide)
  rw [and_top_hi h h2] at this
  rw [show ((9223372036854775808 : Int)) = ((9223372036854775808 : Nat) : Int) from rfl, this]
  decide
theorem band_top_eq {n : Nat} (h : n < 9223372036854775808) : (bits .and .u64 (n : Int) 9223372036854775808 != 0) = false := by
  have := band (a := n) (b := 9223372036854775808) (by omega) (by decide)
  rw [and_top_lo h] at this
  rw [show ((9223372036854775808 : Int)) = ((9223372036854775808 : Nat) : Int) from rfl, this]
  decide
theorem bor_top {n : Nat} (h : n < 9223372036854775808) : bits .or .u64 (n : Int) 9223372036854775808 = ((n + 9223372036854775808 : Nat) : Int) := by
  have := bor (a := n) (b := 9223372036854775808) (by omega) (by decide)
  rw [or_top_lo h] at this
  exact this
theorem bxor_top {n : Nat} (h : 9223372036854775808 ≤ n) (h2 : n < 18446744073709551616) : bits .xor .u64 (n : Int) 9223372036854775808 = ((n - 9223372036854775808 : Nat) : Int) := by
  have := bits_xor_u64_nat n 9223372036854775808 h2 (by decide)
  rw [xor_top_hi h h2] at this
  exact this
theorem bnot {n : Nat} (h : n < 18446744073709551616) : bits .xor .u64 IntKind.u64.max (n : Int) = ((18446744073709551615 - n : Nat) : Int) := by
  show IntKind.u64.wrap ((BitVec.ofInt 64 IntKind.u64.max ^^^ BitVec.ofInt 64 (n : Int)).toNat : Int) = _
  have e : BitVec.ofInt 64 IntKind.u64.max = BitVec.allOnes 64 := by decide
  rw [e, BitVec.allOnes_xor, BitVec.toNat_not, ofInt_nat h]
  exact wrap_nat (by omega)
theorem bandNot_top {n : Nat} (h : n < 18446744073709551616) : bits .andNot .u64 (n : Int) 9223372036854775808 = ((n % 9223372036854775808 : Nat) : Int) := by
  have := bandNot (b := 9223372036854775808) h (by decide)
  rw [show 18446744073709551615 - 9223372036854775808 = 2 ^ 63 - 1 from rfl, mask_nat] at this
  exact this
theorem band_frac {n : Nat} (h : n < 18446744073709551616) : bits .and .u64 (n : Int) 4503599627370495 = ((n % 4503599627370496 : Nat) : Int) := by
  have := band (b := 4503599627370495) h (by decide)
  rw [show 4503599627370495 = 2 ^ 52 - 1 from rfl, mask_nat] at this
  exact this
theorem band_exp {n : Nat} (h : n < 18446744073709551616) : bits .and .u64 ((n : Int) / 4503599627370496) 2047 = ((n / 4503599627370496 % 2048 : Nat) : Int) := by
  have := band (a := n / 4503599627370496) (b := 2047) (by omega) (by decide)
  rw [show 2047 = 2 ^ 11 - 1 from rfl, mask_nat] at this
  rw [show ((n : Int) / 4503599627370496) = ((n / 4503599627370496 : Nat) : Int) from (Int.natCast_ediv _ _).symm]
  exact this
end Go.Proofs.Ytfcdajkgopcmpaa
