/- How far rounding to the nearest float moves a number; sums, differences and halves of finite floats above nought. Conditions: small enough that nothing overflows. -/
import Derived.Test.YtfcdajkgopcmpaaE
namespace Go.Proofs.Ytfcdajkgopcmpaa
open Ieee
/-- A finite float above nought, in units of the least one. -/
def magN (r : Nat) : Nat := fullN r * 2 ^ (expN r - 1)
theorem mag_lt {r q : Nat} (h : r < q) (hq : q < infR) : magN r < magN q := by
  have h1 := (expN_bd hq).1
  have h2 := (expN_bd (m := r) (by omega)).1
  exact val_lt h hq (by omega)
theorem mag_le {r q : Nat} (h : r ≤ q) (hq : q < infR) : magN r ≤ magN q := by
  by_cases e : r = q
  · rw [e]; exact Nat.le_refl _
  · exact Nat.le_of_lt (mag_lt (by omega) hq)
theorem mag_top (r : Nat) : magN r < 9007199254740992 * 2 ^ (expN r - 1) :=
  Nat.mul_lt_mul_of_pos_right full_lt (Nat.two_pow_pos _)
theorem cut_err (n d : Nat) : 2 * (Toward.even.cut false n d * 2 ^ d) ≤ 2 * n + 2 ^ d ∧ 2 * n ≤ 2 * (Toward.even.cut false n d * 2 ^ d) + 2 ^ d := by
  unfold Toward.cut
  by_cases hd : d ≤ n.log2 + 2
  · rw [Nat.min_eq_left hd]
    have hg : 1 <<< d = 2 ^ d := by rw [Nat.shiftLeft_eq, Nat.one_mul]
    simp only [hg]
    have hp : 0 < 2 ^ d := Nat.two_pow_pos d
    have hn := Nat.div_add_mod n (2 ^ d)
    have hr := Nat.mod_lt n hp
    generalize n / 2 ^ d = low at *
    generalize n % 2 ^ d = rest at *
    generalize 2 ^ d = g at *
    rw [Nat.mul_comm g low] at hn
    rw [Nat.add_mul]
    generalize low * g = L at *
    by_cases h1 : g < 2 * rest
    · rw [decide_eq_true h1, Bool.true_or]
      simp only [Bool.toNat_true, Nat.one_mul]
      omega
    · rw [decide_eq_false h1, Bool.false_or]
      cases h2 : (g == 2 * rest && low % 2 == 1)
      · simp only [Bool.toNat_false, Nat.zero_mul]
        omega
      · have h3 : g = 2 * rest := by
          rw [Bool.and_eq_true] at h2
          exact beq_iff_eq.1 h2.1
        simp only [Bool.toNat_true, Nat.one_mul]
        omega
  · rw [Nat.min_eq_right (by omega)]
    have hg : 1 <<< (n.log2 + 2) = 2 ^ (n.log2 + 2) := by rw [Nat.shiftLeft_eq, Nat.one_mul]
    simp only [hg]
    have h2 : n < 2 ^ (n.log2 + 1) := Nat.lt_log2_self
    have h3 : 2 ^ (n.log2 + 2) = 2 * 2 ^ (n.log2 + 1) := by rw [Nat.pow_succ, Nat.mul_comm]
    have h4 : 2 ^ (n.log2 + 2) ≤ 2 ^ d := Nat.pow_le_pow_right (by decide) (by omega)
    have hlow : n / 2 ^ (n.log2 + 2) = 0 := Nat.div_eq_of_lt (by omega)
    have hmod : n % 2 ^ (n.log2 + 2) = n := Nat.mod_eq_of_lt (by omega)
    rw [hlow, hmod, decide_eq_false (by omega)]
    have : (2 ^ (n.log2 + 2) == 2 * n) = false := by rw [beq_eq_false_iff_ne]; omega
    rw [this]
    simp only [Bool.false_and, Bool.or_false, Bool.toNat_false, Nat.zero_add, Nat.zero_mul]
    omega
theorem mag_rung {E kept : Nat} (h1 : kept ≤ 9007199254740992) (h2 : E = 0 ∨ 4503599627370496 ≤ kept) : magN (E * 4503599627370496 + kept) = kept * 2 ^ E := by
  unfold magN
  by_cases h3 : kept < 4503599627370496
  · have e : E = 0 := by omega
    subst e
    rw [fullN_lo (by omega), expN_lo (by omega)]
    simp
  · by_cases h4 : kept = 9007199254740992
    · subst h4
      rw [fullN_hi (by omega), expN_hi (by omega)]
      have e1 : (E * 4503599627370496 + 9007199254740992) / 4503599627370496 - 1 = E + 1 := by omega
      have e2 : (E * 4503599627370496 + 9007199254740992) % 4503599627370496 = 0 := by omega
      rw [e1, e2, Nat.pow_succ]
      omega
    · rw [fullN_hi (by omega), expN_hi (by omega)]
      have e1 : (E * 4503599627370496 + kept) / 4503599627370496 - 1 = E := by omega
      have e2 : (E * 4503599627370496 + kept) % 4503599627370496 + 4503599627370496 = kept := by omega
      rw [e1, e2]
theorem near_spec {mag : Nat} {place : Int} (hm : mag ≠ 0) (hE : place + mag.log2 ≤ 1000) :
    ∃ E kept : Nat, double.nearest false mag place = E * 4503599627370496 + kept ∧ kept ≤ 9007199254740992 ∧ (E = 0 ∨ 4503599627370496 ≤ kept) ∧ (E : Int) = max (place + mag.log2 + 1022) 0 ∧ kept = Toward.even.cut false (mag * 2 ^ (place + 1074 - E).toNat) (E - 1074 - place).toNat := by
  obtain ⟨E, hEE⟩ : ∃ E : Nat, (E : Int) = max (place + mag.log2 + 1022) 0 := ⟨(max (place + mag.log2 + 1022) 0).toNat, by omega⟩
  have hlast : max (place + mag.log2 - (52 : Nat)) (-1074) = (E : Int) - 1074 := by omega
  have l1 := Nat.log2_self_le hm
  have l2 : mag < 2 ^ (mag.log2 + 1) := Nat.lt_log2_self
  have e1 : place - ((E : Int) - 1074) = place + 1074 - E := by omega
  have e2 : ((E : Int) - 1074) - place = E - 1074 - place := by omega
  have e3 : ((E : Int) - 1074 - -1074).toNat = E := by omega
  obtain ⟨kept, hk⟩ : ∃ kept, kept = Toward.even.cut false (mag * 2 ^ (place + 1074 - E).toNat) (E - 1074 - place).toNat := ⟨_, rfl⟩
  have hkb : kept ≤ 9007199254740992 ∧ (E = 0 ∨ 4503599627370496 ≤ kept) := by
    by_cases hc : (E : Int) ≤ place + 1074
    · have e4 : (E - 1074 - place).toNat = 0 := by omega
      obtain ⟨s, hs⟩ : ∃ s : Nat, (s : Int) = place + 1074 - E := ⟨(place + 1074 - E).toNat, by omega⟩
      have e5 : (place + 1074 - E).toNat = s := by omega
      have hce := cut_exact .even false (mag * 2 ^ s) 0 (Nat.mul_ne_zero hm (by have := Nat.two_pow_pos s; omega))
      rw [Nat.pow_zero, Nat.mul_one] at hce
      rw [e4, e5, hce] at hk
      rw [hk]
      have b2 : mag * 2 ^ s < 2 ^ 53 := by
        calc mag * 2 ^ s < 2 ^ (mag.log2 + 1) * 2 ^ s := Nat.mul_lt_mul_of_pos_right l2 (Nat.two_pow_pos _)
          _ = 2 ^ (mag.log2 + 1 + s) := by rw [← Nat.pow_add]
          _ ≤ 2 ^ 53 := Nat.pow_le_pow_right (by decide) (by omega)
      refine ⟨by omega, ?_⟩
      by_cases h0 : E = 0
      · exact .inl h0
      · right
        calc 4503599627370496 = 2 ^ (mag.log2 + s) := by rw [show mag.log2 + s = 52 by omega]
          _ = 2 ^ mag.log2 * 2 ^ s := by rw [← Nat.pow_add]
          _ ≤ mag * 2 ^ s := Nat.mul_le_mul_right _ l1
    · have e4 : (place + 1074 - E).toNat = 0 := by omega
      obtain ⟨d, hd⟩ : ∃ d : Nat, (d : Int) = E - 1074 - place := ⟨(E - 1074 - place).toNat, by omega⟩
      have e5 : (E - 1074 - place).toNat = d := by omega
      rw [e4, e5, Nat.pow_zero, Nat.mul_one] at hk
      obtain ⟨c1, c2⟩ := cut_err mag d
      rw [← hk] at c1 c2
      have hp : 0 < 2 ^ d := Nat.two_pow_pos d
      have b2 : mag < 2 ^ 53 * 2 ^ d := by
        rw [← Nat.pow_add]
        exact Nat.lt_of_lt_of_le l2 (Nat.pow_le_pow_right (by decide) (by omega))
      constructor
      · apply Nat.le_of_lt_succ
        have : kept * 2 ^ d < (9007199254740992 + 1) * 2 ^ d := by omega
        exact Nat.lt_of_mul_lt_mul_right this
      · by_cases h0 : E = 0
        · exact .inl h0
        · right
          have b1 : 4503599627370496 * 2 ^ d ≤ mag := by
            calc 4503599627370496 * 2 ^ d = 2 ^ (52 + d) := by rw [Nat.pow_add]
              _ = 2 ^ mag.log2 := by rw [show 52 + d = mag.log2 by omega]
              _ ≤ mag := l1
          apply Nat.le_of_lt_succ
          have : 4503599627370496 * 2 ^ d < (kept + 1) * 2 ^ d := by rw [Nat.add_mul]; omega
          exact Nat.lt_of_mul_lt_mul_right this
  refine ⟨E, kept, ?_, hkb.1, hkb.2, hEE, hk⟩
  unfold Format.nearest
  rw [if_neg hm]
  simp only [dbl_fb, dbl_least, dbl_bin, dbl_inf]
  rw [hlast, e1, e2, e3, Nat.shiftLeft_eq, ← hk, word_false, Nat.min_eq_left]
  have : E ≤ 2022 := by omega
  unfold infR
  omega
/-- A whole number of units. -/
theorem near_int {mag u : Nat} {place : Int} (hm : mag ≠ 0) (hu : place + 1074 = u) (hE : place + mag.log2 ≤ 1000) :
    ∃ r, double.nearest false mag place = r ∧ r < infR ∧ 2 * magN r ≤ 2 * (mag * 2 ^ u) + 2 ^ ((mag * 2 ^ u).log2 - 52) ∧ 2 * (mag * 2 ^ u) ≤ 2 * magN r + 2 ^ ((mag * 2 ^ u).log2 - 52) := by
  obtain ⟨E, kept, e0, k1, k2, hEE, hk⟩ := near_spec hm hE
  rw [log2_mul_pow hm]
  have e1 : mag.log2 + u - 52 = E := by omega
  refine ⟨_, e0, ?_, ?_⟩
  · have : E ≤ 2022 := by omega
    unfold infR; omega
  · rw [mag_rung k1 k2, e1]
    by_cases hc : E ≤ u
    · have e4 : ((E : Int) - 1074 - place).toNat = 0 := by omega
      have e5 : (place + 1074 - E).toNat = u - E := by omega
      have hce := cut_exact .even false (mag * 2 ^ (u - E)) 0 (Nat.mul_ne_zero hm (by have := Nat.two_pow_pos (u - E); omega))
      rw [Nat.pow_zero, Nat.mul_one] at hce
      rw [e4, e5, hce] at hk
      have : kept * 2 ^ E = mag * 2 ^ u := by
        rw [hk, Nat.mul_assoc, ← Nat.pow_add, show u - E + E = u by omega]
      rw [this]
      exact ⟨Nat.le_add_right _ _, Nat.le_add_right _ _⟩
    · have e4 : (place + 1074 - E).toNat = 0 := by omega
      have e5 : ((E : Int) - 1074 - place).toNat = E - u := by omega
      rw [e4, e5, Nat.pow_zero, Nat.mul_one] at hk
      obtain ⟨c1, c2⟩ := cut_err mag (E - u)
      rw [← hk] at c1 c2
      have hE2 : 2 ^ E = 2 ^ (E - u) * 2 ^ u := by rw [← Nat.pow_add, show E - u + u = E by omega]
      have m1 := Nat.mul_le_mul_right (2 ^ u) c1
      have m2 := Nat.mul_le_mul_right (2 ^ u) c2
      rw [Nat.add_mul, Nat.mul_assoc 2, Nat.mul_assoc kept, ← hE2, Nat.mul_assoc 2] at m1
      rw [Nat.add_mul, Nat.mul_assoc 2, Nat.mul_assoc 2, Nat.mul_assoc kept, ← hE2] at m2
      exact ⟨m1, m2⟩
theorem near_half {m U : Nat} {place : Int} (hm : m ≠ 0) (hl : m.log2 ≤ 52) (hp : place = (U : Int) - 1074 - 56 + m.log2) (hU : U ≤ 1100) :
    ∃ r, double.nearest false (m * 2 ^ (55 - m.log2)) place = r ∧ r < infR ∧ 2 * magN r ≤ m * 2 ^ U + 2 ^ ((m * 2 ^ U).log2 - 53) ∧ m * 2 ^ U ≤ 2 * magN r + 2 ^ ((m * 2 ^ U).log2 - 53) := by
  have hM : m * 2 ^ (55 - m.log2) ≠ 0 := Nat.mul_ne_zero hm (by have := Nat.two_pow_pos (55 - m.log2); omega)
  have hL : (m * 2 ^ (55 - m.log2)).log2 = 55 := by rw [log2_mul_pow hm]; omega
  obtain ⟨E, kept, e0, k1, k2, hEE, hk⟩ := near_spec (place := place) hM (by omega)
  rw [hL] at hEE
  rw [log2_mul_pow hm]
  have e1 : m.log2 + U - 53 = E := by omega
  refine ⟨_, e0, ?_, ?_⟩
  · have : E ≤ 1200 := by omega
    unfold infR; omega
  · rw [mag_rung k1 k2, e1]
    by_cases hc : (E : Int) ≤ place + 1074
    · have e4 : ((E : Int) - 1074 - place).toNat = 0 := by omega
      have e5 : (place + 1074 - E).toNat = U + m.log2 - 56 - E := by omega
      have hce := cut_exact .even false (m * 2 ^ (55 - m.log2) * 2 ^ (U + m.log2 - 56 - E)) 0 (Nat.mul_ne_zero hM (by have := Nat.two_pow_pos (U + m.log2 - 56 - E); omega))
      rw [Nat.pow_zero, Nat.mul_one] at hce
      rw [e4, e5, hce] at hk
      have : 2 * (kept * 2 ^ E) = m * 2 ^ U := by
        rw [hk, Nat.mul_assoc, Nat.mul_assoc, ← Nat.pow_add, ← Nat.pow_add, Nat.mul_comm 2, Nat.mul_assoc, ← Nat.pow_succ, show (55 - m.log2 + (U + m.log2 - 56 - E + E)).succ = U by omega]
      rw [this]
      exact ⟨Nat.le_add_right _ _, Nat.le_add_right _ _⟩
    · have e4 : (place + 1074 - E).toNat = 0 := by omega
      obtain ⟨d, hd⟩ : ∃ d : Nat, (d : Int) = E - 1074 - place := ⟨(E - 1074 - place).toNat, by omega⟩
      have e5 : ((E : Int) - 1074 - place).toNat = d := by omega
      rw [e4, e5, Nat.pow_zero, Nat.mul_one] at hk
      obtain ⟨c1, c2⟩ := cut_err (m * 2 ^ (55 - m.log2)) d
      rw [← hk] at c1 c2
      have m1 := Nat.mul_le_mul_right (2 ^ (U + m.log2)) c1
      have m2 := Nat.mul_le_mul_right (2 ^ (U + m.log2)) c2
      have p1 : 2 ^ d * 2 ^ (U + m.log2) = 2 ^ E * 2 ^ 56 := by rw [← Nat.pow_add, ← Nat.pow_add, show d + (U + m.log2) = E + 56 by omega]
      have p2 : 2 ^ (55 - m.log2) * 2 ^ (U + m.log2) = 2 ^ U * 2 ^ 55 := by rw [← Nat.pow_add, ← Nat.pow_add, show 55 - m.log2 + (U + m.log2) = U + 55 by omega]
      have q1 : kept * 2 ^ d * 2 ^ (U + m.log2) = kept * 2 ^ E * 2 ^ 56 := by rw [Nat.mul_assoc, p1, ← Nat.mul_assoc]
      have q2 : m * 2 ^ (55 - m.log2) * 2 ^ (U + m.log2) = m * 2 ^ U * 2 ^ 55 := by rw [Nat.mul_assoc, p2, ← Nat.mul_assoc]
      rw [Nat.add_mul, Nat.mul_assoc 2 _ (2 ^ (U + m.log2)), Nat.mul_assoc 2 _ (2 ^ (U + m.log2)), q1, q2, p1] at m1 m2
      clear q1 q2 p1 p2 c1 c2 hk e0
      generalize kept * 2 ^ E = R at *
      generalize m * 2 ^ U = H at *
      generalize 2 ^ E = G at *
      omega
end Go.Proofs.Ytfcdajkgopcmpaa
