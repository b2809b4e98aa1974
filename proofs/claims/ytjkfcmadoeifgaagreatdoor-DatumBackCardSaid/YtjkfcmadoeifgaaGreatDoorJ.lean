/- How a finite float stands to nought. Conditions: finite bits. -/
import Derived.Test.YtjkfcmadoeifgaaGreatDoorA
namespace Go.Proofs.YtjkfcmadoeifgaaGreatDoor
open Ieee
/-- What the digits of a finite float are, its place. -/
theorem read_fin {b : Nat} (h : b % 9223372036854775808 < infR) : ∃ (mag : Nat) (up : Nat), double.read b = .number (b / 9223372036854775808 % 2 == 1) mag (-1074 + (up : Int)) ∧ (mag = 0 ↔ b % 9223372036854775808 = 0) := by
  rw [read_eq b]
  by_cases h1 : b % 9223372036854775808 < 4503599627370496
  · rw [if_pos h1]
    exact ⟨_, 0, rfl, Iff.rfl⟩
  · rw [if_neg h1, if_pos h]
    exact ⟨_, _, rfl, by omega⟩
theorem read_zero : double.read 0 = .number false 0 (-1074) := by decide
theorem signed_pos (m up : Nat) : signed false m up = ((m * 2 ^ up : Nat) : Int) := by
  simp [signed, Nat.shiftLeft_eq]
theorem signed_neg (m up : Nat) : signed true m up = -((m * 2 ^ up : Nat) : Int) := by
  simp [signed, Nat.shiftLeft_eq]
theorem order_zero_pos {b : Nat} (h : b % 9223372036854775808 < infR) (hs : b < 9223372036854775808) : (double.order b 0 == some .lt) = false := by
  obtain ⟨mag, up, hr, hz⟩ := read_fin h
  have hq : b / 9223372036854775808 % 2 = 0 := by omega
  rw [hq] at hr
  unfold Format.order
  rw [hr, read_zero]
  simp only [Datum.order]
  have e : min (-1074 + (up : Int)) (-1074) = -1074 := by omega
  rw [e]
  have e2 : (-1074 + (up : Int) - -1074).toNat = up := by omega
  have e3 : ((-1074 : Int) - -1074).toNat = 0 := by omega
  rw [e2, e3, show ((0 : Nat) == 1) = false from rfl, signed_pos, signed_pos]
  have : ¬ (((mag * 2 ^ up : Nat) : Int) < ((0 * 2 ^ 0 : Nat) : Int)) := by omega
  have hc : compare ((mag * 2 ^ up : Nat) : Int) ((0 * 2 ^ 0 : Nat) : Int) ≠ .lt := by
    rw [Ne, Int.compare_eq_lt]; exact this
  cases hcc : compare ((mag * 2 ^ up : Nat) : Int) ((0 * 2 ^ 0 : Nat) : Int)
  · exact absurd hcc hc
  · rfl
  · rfl
theorem order_zero_neg {b : Nat} (h : b % 9223372036854775808 < infR) (hs : 9223372036854775808 < b) (hb : b < 18446744073709551616) : (double.order b 0 == some .lt) = true := by
  obtain ⟨mag, up, hr, hz⟩ := read_fin h
  have hm : mag ≠ 0 := fun e => by have := hz.1 e; omega
  have hq : b / 9223372036854775808 % 2 = 1 := by omega
  rw [hq] at hr
  unfold Format.order
  rw [hr, read_zero]
  simp only [Datum.order]
  have e : min (-1074 + (up : Int)) (-1074) = -1074 := by omega
  rw [e]
  have e2 : (-1074 + (up : Int) - -1074).toNat = up := by omega
  have e3 : ((-1074 : Int) - -1074).toNat = 0 := by omega
  rw [e2, e3, show ((1 : Nat) == 1) = true from rfl, signed_neg, signed_pos]
  have hp : 0 < mag * 2 ^ up := Nat.mul_pos (by omega) (Nat.two_pow_pos _)
  have hc : compare (-((mag * 2 ^ up : Nat) : Int)) ((0 * 2 ^ 0 : Nat) : Int) = .lt := by
    rw [Int.compare_eq_lt]; omega
  rw [hc]; rfl
end Go.Proofs.YtjkfcmadoeifgaaGreatDoor
