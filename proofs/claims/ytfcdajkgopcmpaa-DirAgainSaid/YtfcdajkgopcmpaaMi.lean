/- The point between two points: how near it lies to the middle; halving ends below 1100 times. Conditions: points. -/
import Derived.Test.YtfcdajkgopcmpaaRd
namespace Go.Proofs.Ytfcdajkgopcmpaa
open Ieee
theorem one_fin : oneB < infR := by decide
theorem full_one : fullN oneB = 4503599627370496 := by decide
theorem exp_one : expN oneB = 1023 := by decide
theorem mag_one : magN oneB = 2 ^ (52 + (expN oneB - 1)) := by unfold magN; rw [full_one, Nat.pow_add]
theorem log_lt {X e : Nat} (h : X < 9007199254740992 * 2 ^ e) : X.log2 - 52 ≤ e ∧ X.log2 - 53 ≤ e := by
  by_cases h0 : X = 0
  · subst h0; rw [Nat.log2_zero]; omega
  · have : X < 2 ^ (53 + e) := by rw [Nat.pow_add]; exact h
    have := (Nat.log2_lt h0).2 this
    omega
theorem shift_mag {p u k : Nat} (h : k + u = expN p - 1) : fullN p * 2 ^ k * 2 ^ u = magN p := by
  unfold magN
  rw [Nat.mul_assoc, ← Nat.pow_add, h]
theorem sub_spec {a b : Nat} (h : a < b) (hb : b ≤ oneB) : ∃ r, double.sub b a = some r ∧ r < infR ∧ 2 * magN r ≤ 2 * (magN b - magN a) + 2 ^ ((magN b - magN a).log2 - 52) ∧ 2 * (magN b - magN a) ≤ 2 * magN r + 2 ^ ((magN b - magN a).log2 - 52) := by
  have h1 := one_fin
  have hbi : b < infR := by omega
  have hai : a < infR := by omega
  have b1 := expN_bd hbi
  have a1 := expN_bd hai
  have hD := mag_lt h hbi
  have hM := mag_le hb h1
  rw [mag_one] at hM
  unfold Format.sub
  rw [read_pos hbi, read_pos hai]
  simp only [Datum.opposite, Datum.sum, Bool.not_false, signed_pos, signed_neg]
  generalize hi : ((expN b : Int) - 1075 - min ((expN b : Int) - 1075) ((expN a : Int) - 1075)).toNat = i
  generalize hj : ((expN a : Int) - 1075 - min ((expN b : Int) - 1075) ((expN a : Int) - 1075)).toNat = j
  obtain ⟨u, hu⟩ : ∃ u : Nat, min ((expN b : Int) - 1075) ((expN a : Int) - 1075) + 1074 = u := ⟨(min ((expN b : Int) - 1075) ((expN a : Int) - 1075) + 1074).toNat, by omega⟩
  have eb := shift_mag (p := b) (u := u) (k := i) (by omega)
  have ea := shift_mag (p := a) (u := u) (k := j) (by omega)
  have hp : 0 < 2 ^ u := Nat.two_pow_pos u
  have hlt : fullN a * 2 ^ j < fullN b * 2 ^ i := by
    apply Nat.lt_of_mul_lt_mul_right (a := 2 ^ u)
    rw [ea, eb]; exact hD
  obtain ⟨T, hT⟩ : ∃ T, T = fullN b * 2 ^ i - fullN a * 2 ^ j := ⟨_, rfl⟩
  have hTu : T * 2 ^ u = magN b - magN a := by rw [hT, Nat.sub_mul, ea, eb]
  have htot : ((fullN b * 2 ^ i : Nat) : Int) + -((fullN a * 2 ^ j : Nat) : Int) = (T : Int) := by omega
  rw [htot, if_neg (by omega)]
  have hneg : decide ((T : Int) < 0) = false := by rw [decide_eq_false_iff_not]; omega
  rw [hneg]
  simp only [Option.map_some, Format.write, Int.natAbs_natCast]
  have hT0 : T ≠ 0 := by omega
  have hlog : (T * 2 ^ u).log2 < 52 + (expN oneB - 1) + 1 := by
    refine (Nat.log2_lt (Nat.mul_ne_zero hT0 (by omega))).2 ?_
    rw [hTu, Nat.pow_succ]
    have : 0 < 2 ^ (52 + (expN oneB - 1)) := Nat.two_pow_pos _
    generalize 2 ^ (52 + (expN oneB - 1)) = Z at *
    omega
  rw [log2_mul_pow hT0] at hlog
  have := exp_one
  obtain ⟨r, e, hr, k1, k2⟩ := near_int (place := min ((expN b : Int) - 1075) ((expN a : Int) - 1075)) hT0 hu (by omega)
  rw [hTu] at k1 k2
  exact ⟨r, by rw [e], hr, k1, k2⟩
theorem add_spec {a h : Nat} (ha : a < infR) (hh : h < infR) {e : Nat} (he : e ≤ 1030) (hb : magN a + magN h < 9007199254740992 * 2 ^ e) : ∃ r, double.add a h = some r ∧ r < infR ∧ 2 * magN r ≤ 2 * (magN a + magN h) + 2 ^ ((magN a + magN h).log2 - 52) ∧ 2 * (magN a + magN h) ≤ 2 * magN r + 2 ^ ((magN a + magN h).log2 - 52) := by
  have b1 := expN_bd hh
  have a1 := expN_bd ha
  unfold Format.add
  rw [read_pos ha, read_pos hh]
  simp only [Datum.sum, signed_pos]
  generalize hi : ((expN a : Int) - 1075 - min ((expN a : Int) - 1075) ((expN h : Int) - 1075)).toNat = i
  generalize hj : ((expN h : Int) - 1075 - min ((expN a : Int) - 1075) ((expN h : Int) - 1075)).toNat = j
  obtain ⟨u, hu⟩ : ∃ u : Nat, min ((expN a : Int) - 1075) ((expN h : Int) - 1075) + 1074 = u := ⟨(min ((expN a : Int) - 1075) ((expN h : Int) - 1075) + 1074).toNat, by omega⟩
  have ea := shift_mag (p := a) (u := u) (k := i) (by omega)
  have eh := shift_mag (p := h) (u := u) (k := j) (by omega)
  have hp : 0 < 2 ^ u := Nat.two_pow_pos u
  obtain ⟨T, hT⟩ : ∃ T, T = fullN a * 2 ^ i + fullN h * 2 ^ j := ⟨_, rfl⟩
  have hTu : T * 2 ^ u = magN a + magN h := by rw [hT, Nat.add_mul, ea, eh]
  have htot : ((fullN a * 2 ^ i : Nat) : Int) + ((fullN h * 2 ^ j : Nat) : Int) = (T : Int) := by omega
  rw [htot]
  by_cases hT0 : T = 0
  · rw [hT0, Nat.zero_mul] at hTu
    rw [← hTu, if_pos (by omega), hT0]
    have e0 : magN 0 = 0 := by decide
    exact ⟨0, rfl, by decide, by rw [e0]; exact Nat.zero_le _, Nat.zero_le _⟩
  rw [if_neg (by omega)]
  have hneg : decide ((T : Int) < 0) = false := by rw [decide_eq_false_iff_not]; omega
  rw [hneg]
  simp only [Option.map_some, Format.write, Int.natAbs_natCast]
  have hlog : (T * 2 ^ u).log2 < 53 + e := by
    refine (Nat.log2_lt (Nat.mul_ne_zero hT0 (by omega))).2 ?_
    rw [hTu, Nat.pow_add]; exact hb
  rw [log2_mul_pow hT0] at hlog
  obtain ⟨r, er, hr, k1, k2⟩ := near_int (place := min ((expN a : Int) - 1075) ((expN h : Int) - 1075)) hT0 hu (by omega)
  rw [hTu] at k1 k2
  exact ⟨r, by rw [er], hr, k1, k2⟩
def twoB : Nat := 4611686018427387904
theorem read_two : double.read twoB = .number false 4503599627370496 (-51) := by decide
theorem half_spec {x : Nat} (hx : x < infR) (h0 : 0 < x) (hs : expN x ≤ 1100) : ∃ r, double.div x twoB = some r ∧ r < infR ∧ 2 * magN r ≤ magN x + 2 ^ ((magN x).log2 - 53) ∧ magN x ≤ 2 * magN r + 2 ^ ((magN x).log2 - 53) := by
  have a1 := expN_bd hx
  have hf := fullN_bd h0
  unfold Format.div
  rw [read_pos hx, read_two]
  have hl : (fullN x).log2 < 53 := (Nat.log2_lt hf.1).2 hf.2
  have hn2 : (4503599627370496 : Nat).log2 = 52 := by decide
  have hmore : double.fractionBits + 2 + (4503599627370496 : Nat).log2 - (fullN x).log2 = 52 + (54 - (fullN x).log2) := by rw [hn2, dbl_fb]; omega
  simp only [Datum.quotient]
  rw [if_neg (by decide), hmore]
  have hshift : fullN x <<< (52 + (54 - (fullN x).log2)) = (fullN x * 2 ^ (54 - (fullN x).log2)) * 4503599627370496 := by
    rw [Nat.shiftLeft_eq, Nat.mul_assoc, show (4503599627370496 : Nat) = 2 ^ 52 by decide, ← Nat.pow_add, Nat.add_comm]
  rw [hshift, Nat.mul_div_cancel _ (by decide), Nat.mul_mod_left]
  simp only [Option.map_some, Format.write, bne_self_eq_false, Bool.toNat_false, Nat.add_zero]
  have hmag : 2 * (fullN x * 2 ^ (54 - (fullN x).log2)) = fullN x * 2 ^ (55 - (fullN x).log2) := by
    rw [Nat.mul_comm 2, Nat.mul_assoc, ← Nat.pow_succ, show (54 - (fullN x).log2).succ = 55 - (fullN x).log2 by omega]
  rw [hmag]
  obtain ⟨r, e, hr, k1, k2⟩ := near_half (m := fullN x) (U := expN x - 1) (place := (expN x : Int) - 1075 - -51 - ((52 + (54 - (fullN x).log2) : Nat) : Int) - 1) hf.1 (by omega) (by omega) (by omega)
  exact ⟨r, by rw [e], hr, k1, k2⟩
/-- The middle: each step rounded. -/
def midN (a b : Nat) : Nat := ((double.sub b a).bind fun x => (double.div x twoB).bind fun h => double.add a h).getD 0
theorem mid_spec {a b : Nat} (h : a < b) (hb : b ≤ oneB) : ∃ x y m, double.sub b a = some x ∧ x < infR ∧ double.div x twoB = some y ∧ y < infR ∧ double.add a y = some m ∧ m < infR ∧
    2 * magN m ≤ magN a + magN b + 4 * 2 ^ (expN b - 1) ∧ magN a + magN b ≤ 2 * magN m + 4 * 2 ^ (expN b - 1) := by
  have h1 := one_fin
  have hbi : b < infR := by omega
  have hai : a < infR := by omega
  have hD := mag_lt h hbi
  have hM := mag_le hb h1
  rw [mag_one] at hM
  have htb := mag_top b
  have hE : expN b ≤ 1023 := by
    by_cases e : b = oneB
    · rw [e, exp_one]; exact Nat.le_refl _
    · rw [← exp_one]; exact exp_mono (by omega)
  have hE1 := (expN_bd hbi).1
  obtain ⟨x, ex, hx, x1, x2⟩ := sub_spec h hb
  obtain ⟨s, hs⟩ : ∃ s, s = 2 ^ (expN b - 1) := ⟨_, rfl⟩
  have hsp : 0 < s := by rw [hs]; exact Nat.two_pow_pos _
  have hDs : magN b - magN a < 9007199254740992 * 2 ^ (expN b - 1) := by omega
  have g1 : 2 ^ ((magN b - magN a).log2 - 52) ≤ s := by rw [hs]; exact Nat.pow_le_pow_right (by decide) (log_lt hDs).1
  have hD0 : magN b - magN a ≠ 0 := by omega
  have hx0 : 0 < magN x := by
    by_cases e0 : magN x = 0
    · rw [e0] at x2
      have l1 := Nat.log2_self_le hD0
      have l2 : 2 ^ ((magN b - magN a).log2 - 52) ≤ 2 ^ (magN b - magN a).log2 := Nat.pow_le_pow_right (by decide) (by omega)
      omega
    · omega
  have hxp : 0 < x := by
    by_cases e0 : x = 0
    · subst e0; revert hx0; decide
    · omega
  -- x lies below b's next binade
  have hxs : magN x < 9007199254740992 * 2 ^ (expN b - 1) + 2 ^ (expN b - 1) := by rw [← hs] at *; omega
  have hxe : expN x ≤ expN b + 1 := by
    by_cases hc : x < 4503599627370496
    · rw [expN_lo hc]; omega
    · have l1 : 4503599627370496 ≤ fullN x := by rw [fullN_hi hc]; omega
      have ex1 := (expN_bd hx).1
      by_cases hg : expN x ≤ expN b + 1
      · exact hg
      · exfalso
        have hp : 2 ^ (expN b + 1) ≤ 2 ^ (expN x - 1) := Nat.pow_le_pow_right (by decide) (by omega)
        have hq : 2 ^ (expN b + 1) = 4 * 2 ^ (expN b - 1) := by rw [show expN b + 1 = (expN b - 1) + 2 by omega, Nat.pow_add, Nat.mul_comm]
        have : 4503599627370496 * 2 ^ (expN b + 1) ≤ magN x := by
          unfold magN
          exact Nat.mul_le_mul l1 hp
        rw [hq] at this
        rw [← hs] at *
        omega
  obtain ⟨y, ey, hy, y1, y2⟩ := half_spec hx hxp (by omega)
  have hxs2 : magN x < 9007199254740992 * 2 ^ expN b := by
    have : 2 ^ expN b = 2 * 2 ^ (expN b - 1) := by rw [Nat.mul_comm, ← Nat.pow_succ, show (expN b - 1).succ = expN b by omega]
    rw [this, ← hs]
    rw [← hs] at hxs
    omega
  have g2 : 2 ^ ((magN x).log2 - 53) ≤ s := by
    rw [hs]
    refine Nat.pow_le_pow_right (by decide) ?_
    have : (magN x).log2 < 54 + (expN b - 1) := by
      refine (Nat.log2_lt (by omega)).2 ?_
      rw [Nat.pow_add]
      rw [← hs] at hxs ⊢
      have : (2 : Nat) ^ 54 = 18014398509481984 := by decide
      rw [this]
      omega
    omega
  have hXs : magN a + magN y < 9007199254740992 * 2 ^ expN b := by
    have : 2 ^ expN b = 2 * 2 ^ (expN b - 1) := by rw [Nat.mul_comm, ← Nat.pow_succ, show (expN b - 1).succ = expN b by omega]
    rw [this, ← hs]
    rw [← hs] at htb
    omega
  obtain ⟨m, em, hm, m1, m2⟩ := add_spec hai hy (e := expN b) (by omega) hXs
  have g3 : 2 ^ ((magN a + magN y).log2 - 52) ≤ 2 * s := by
    have : 2 * s = 2 ^ expN b := by rw [hs, Nat.mul_comm, ← Nat.pow_succ, show (expN b - 1).succ = expN b by omega]
    rw [this]
    exact Nat.pow_le_pow_right (by decide) (log_lt hXs).1
  refine ⟨x, y, m, ex, hx, ey, hy, em, hm, ?_, ?_⟩
  · rw [← hs]; omega
  · rw [← hs]; omega
theorem midN_eq {a b x y m : Nat} (e1 : double.sub b a = some x) (e2 : double.div x twoB = some y) (e3 : double.add a y = some m) : midN a b = m := by
  unfold midN
  rw [e1, Option.bind_some, e2, Option.bind_some, e3]
  rfl
end Go.Proofs.Ytfcdajkgopcmpaa
