/- raceref1.Print: the text of any float. Conditions: bits below 2^64. -/
import Derived.Test.YtjkfcmadoeifgaaGreatDoorL
namespace Go.Proofs.YtjkfcmadoeifgaaGreatDoor
open Go.RowKit Go.Sort Go.Lib

theorem full_odd {m : Nat} (h : 0 < m) : fullN m = 2 ^ evenN m * oddN m ∧ oddN m % 2 = 1 := by
  obtain ⟨h1, h2⟩ := fullN_bd h
  obtain ⟨k, hk, _⟩ := Lib.ctzFrom_spec 64 (fullN m) (by omega) (by omega)
  have e : evenN m = Lib.ctzFrom 64 (fullN m) := by unfold evenN Lib.ctz; rw [if_neg h1]
  have e2 : oddN m = 2 * k + 1 := by
    unfold oddN; rw [e]
    conv => lhs; rw [hk]
    rw [← hk]
    conv => lhs; lhs; rw [hk]
    exact Nat.mul_div_cancel_left _ (Nat.two_pow_pos _)
  refine ⟨?_, by omega⟩
  rw [e, e2]; exact hk
/-- The digits, halved j times. -/
def halfN (m j : Nat) : Nat := fullN m / 2 ^ j
theorem halfN_0 (m : Nat) : halfN m 0 = fullN m := by unfold halfN; simp
theorem halfN_end (m : Nat) : halfN m (evenN m) = oddN m := rfl
theorem halfN_succ (m j : Nat) : halfN m j / 2 = halfN m (j + 1) := by
  unfold halfN; rw [Nat.div_div_eq_div_mul, Nat.pow_succ]
theorem halfN_even {m j : Nat} (h : 0 < m) (hj : j < evenN m) : halfN m j % 2 = 0 := by
  obtain ⟨h1, _⟩ := full_odd h
  obtain ⟨d, hd⟩ : ∃ d, evenN m = j + (d + 1) := ⟨evenN m - j - 1, by omega⟩
  unfold halfN
  rw [h1, hd, Nat.pow_add, Nat.mul_assoc, Nat.mul_div_cancel_left _ (Nat.two_pow_pos _), Nat.pow_succ, Nat.mul_comm (2 ^ d) 2, Nat.mul_assoc]
  exact Nat.mul_mod_right _ _
theorem halfN_lt {m j : Nat} (h : 0 < m) : halfN m j < 9007199254740992 := by
  have := (fullN_bd h).2
  exact Nat.lt_of_le_of_lt (Nat.div_le_self _ _) this
def expJ (m j : Nat) : Int := (expN m : Int) - 1075 + j
theorem expJ_end (m : Nat) : expJ m (evenN m) = powN m := by unfold expJ powN; omega
theorem expJ_succ (m j : Nat) : expJ m j + 1 = expJ m (j + 1) := by unfold expJ; omega
theorem expJ_bd {m j : Nat} (h2 : m < infR) (hj : j < 64) : -1074 ≤ expJ m j ∧ expJ m j ≤ 1100 := by
  have h3 := expN_bd h2
  unfold expJ
  omega
theorem tmodN (x y : Nat) : ((x : Nat) : Int).tmod (y : Int) = ((x % y : Nat) : Int) := by rw [Int.tmod_eq_emod_of_nonneg (by omega)]; exact (Int.natCast_emod x y).symm
theorem start_e (m : Nat) : (expN m : Int) - 1075 = expJ m 0 := by unfold expJ; omega
theorem start_e1 (m : Nat) (h : expN m = 1) : (-1074 : Int) = expJ m 0 := by unfold expJ; rw [h]; rfl
theorem meas_up {x y : Int} (h : x + 1 = y) (h2 : x ≤ 1100) : (2000 - y).toNat < (2000 - x).toNat := by omega
end Go.Proofs.YtjkfcmadoeifgaaGreatDoor
