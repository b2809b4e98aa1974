/- A hash's 53 highest bits as a float from nought to one. Conditions: numbers below 2^53. -/
import Derived.Test.YtfcdajkgopcmpaaE
namespace Go.Proofs.Ytfcdajkgopcmpaa
open Ieee
def bigB : Nat := 4845873199050653696
theorem read_big : double.read bigB = .number false 4503599627370496 1 := by decide
theorem cvt_zero : cvtN 0 = 0 := by decide
theorem div_zero : double.div 0 bigB = some 0 := by decide +kernel
theorem rung_parts {E k : Nat} (h1 : 4503599627370496 ≤ k) (h2 : k < 9007199254740992) : fullN (E * 4503599627370496 + k) = k ∧ expN (E * 4503599627370496 + k) = E + 1 := by
  have e0 : ¬ E * 4503599627370496 + k < 4503599627370496 := by omega
  rw [fullN_hi e0, expN_hi e0]
  omega
theorem div_place {n : Nat} (hn : n < 9007199254740992) : ∃ r, double.div (cvtN n) bigB = some r ∧ r < oneB := by
  by_cases h0 : n = 0
  · subst h0
    exact ⟨0, by rw [cvt_zero]; exact div_zero, by decide⟩
  obtain ⟨k, e, k1, _, k3⟩ := cvt_shape h0 (by omega)
  have hk := k3 hn
  have hl : n.log2 < 53 := (Nat.log2_lt h0).2 hn
  have h2 : n < 2 ^ (n.log2 + 1) := Nat.lt_log2_self
  have b2 : k < 9007199254740992 := by
    rw [hk]
    calc n * 2 ^ (52 - n.log2) < 2 ^ (n.log2 + 1) * 2 ^ (52 - n.log2) := Nat.mul_lt_mul_of_pos_right h2 (Nat.two_pow_pos _)
      _ = 9007199254740992 := by rw [← Nat.pow_add, show n.log2 + 1 + (52 - n.log2) = 53 by omega]
  clear hk h2
  have hc : cvtN n < infR := by rw [e]; unfold infR; omega
  obtain ⟨f1, f2⟩ := rung_parts (E := n.log2 + 1022) k1 b2
  rw [← e] at f1 f2
  have hlog : k.log2 = 52 := by
    have u1 : k.log2 < 53 := (Nat.log2_lt (by omega)).2 (by omega)
    have u2 : 52 ≤ k.log2 := (Nat.le_log2 (by omega)).2 (by omega)
    omega
  obtain ⟨g1, g2⟩ := rung_parts (E := n.log2 + 969) k1 b2
  refine ⟨(n.log2 + 969) * 4503599627370496 + k, ?_, by unfold oneB; omega⟩
  unfold Format.div
  rw [read_pos hc, read_big, f1, f2]
  simp only [Datum.quotient]
  have hmore : double.fractionBits + 2 + (4503599627370496 : Nat).log2 - k.log2 = 54 := by rw [hlog, dbl_fb, show (4503599627370496 : Nat).log2 = 52 by decide]
  rw [if_neg (by decide), hmore]
  have hshift : k <<< 54 = (k * 4) * 4503599627370496 := by rw [Nat.shiftLeft_eq]; omega
  rw [hshift, Nat.mul_div_cancel _ (by decide), Nat.mul_mod_left]
  simp only [Option.map_some, Format.write, bne_self_eq_false, Bool.toNat_false, Nat.add_zero]
  have hr0 : 0 < (n.log2 + 969) * 4503599627370496 + k := by omega
  have hri : (n.log2 + 969) * 4503599627370496 + k < infR := by unfold infR; omega
  have := nearest_exact (r := (n.log2 + 969) * 4503599627370496 + k) (mag := 2 * (k * 4)) (a := 0) (b := 3) (place := ((n.log2 + 1022 + 1 : Nat) : Int) - 1075 - 1 - ((54 : Nat) : Int) - 1) hr0 hri (by rw [g1]; omega) (by rw [g2]; omega) false
  rw [word_false] at this
  exact congrArg some this
/-- The place of a hash. -/
def placeN (h : Int) : Nat := (double.div (cvtN (h / 2048).toNat) bigB).getD 0
theorem place_spec {h : Int} (_ : 0 ≤ h) (h2 : h < 18446744073709551616) : double.div (cvtN (h / 2048).toNat) bigB = some (placeN h) ∧ placeN h < oneB := by
  obtain ⟨r, e, hr⟩ := div_place (n := (h / 2048).toNat) (by omega)
  have : placeN h = r := by unfold placeN; rw [e]; rfl
  rw [this]
  exact ⟨e, hr⟩
end Go.Proofs.Ytfcdajkgopcmpaa
