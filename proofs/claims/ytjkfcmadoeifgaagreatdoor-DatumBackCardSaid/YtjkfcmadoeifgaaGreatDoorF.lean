/- The contract of raceref1.Class. Conditions: bits below 2^64. -/
import Derived.Test.YtjkfcmadoeifgaaGreatDoorD
namespace Go.Proofs.YtjkfcmadoeifgaaGreatDoor
open Go.RowKit

theorem clsN_pos {b : Nat} (h : nanB b = false) (h2 : b < 9223372036854775808) : clsN b = 5 + distN (b % 9223372036854775808) := by simp [clsN, h, h2]
theorem clsN_neg {b : Nat} (h : nanB b = false) (h2 : ¬ b < 9223372036854775808) : clsN b = 4 - distN (b % 9223372036854775808) := by simp [clsN, h, h2]
theorem distN_0 {m : Nat} (h : m = 0) : distN m = 0 := by simp [distN, h]
theorem distN_1 {m : Nat} (h0 : m ≠ 0) (h : m < 4503599627370496) : distN m = 1 := by simp [distN, h0, h]
theorem distN_2 {m : Nat} (h0 : ¬ m < 4503599627370496) (h : m < infR) : distN m = 2 := by
  have : m ≠ 0 := by omega
  simp [distN, this, h0, h]
theorem distN_3 {m : Nat} (h : ¬ m < infR) : distN m = 3 := by
  have h' := h
  unfold infR at h'
  have h1 : m ≠ 0 := by omega
  have h2 : ¬ m < 4503599627370496 := by omega
  simp [distN, h1, h2, h]

end Go.Proofs.YtjkfcmadoeifgaaGreatDoor
