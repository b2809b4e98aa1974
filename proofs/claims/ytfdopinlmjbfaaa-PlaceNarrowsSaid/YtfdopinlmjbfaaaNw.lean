/- Halving a piece between two points, whichever half is kept, ends below 1100 times. Conditions: points. -/
import Derived.Test.YtfdopinlmjbfaaaMi
namespace Go.Proofs.Ytfdopinlmjbfaaa
open Ieee
def gapN (r : Nat) : Nat := 2 ^ (expN r - 1)
theorem gap_pos (r : Nat) : 0 < gapN r := Nat.two_pow_pos _
theorem exp_le {r q : Nat} (h : r ≤ q) : expN r ≤ expN q := by
  by_cases e : r = q
  · rw [e]; exact Nat.le_refl _
  · exact exp_mono (by omega)
theorem gap_le {r q : Nat} (h : r ≤ q) : gapN r ≤ gapN q := Nat.pow_le_pow_right (by decide) (by have := exp_le h; omega)
theorem gap_dvd {r q : Nat} (h : r ≤ q) : gapN r ∣ magN q := by
  have := exp_le h
  unfold magN
  exact Nat.dvd_trans (Nat.pow_dvd_pow 2 (by omega)) (Nat.dvd_mul_left _ _)
theorem gap_step {a m b : Nat} (h1 : a ≤ m) (h2 : m < b) (hb : b < infR) : magN m + gapN a ≤ magN b := by
  have hl := mag_lt h2 hb
  obtain ⟨x, hx⟩ := gap_dvd h1
  obtain ⟨y, hy⟩ := gap_dvd (r := a) (q := b) (by omega)
  rw [hx, hy] at hl ⊢
  have hxy : x < y := Nat.lt_of_mul_lt_mul_left hl
  rw [← Nat.mul_succ]
  exact Nat.mul_le_mul_left _ hxy
theorem gap_shift {a b k : Nat} (ha : 1 ≤ expN a) (h : expN b ≤ expN a + k) : gapN b ≤ gapN a * 2 ^ k := by
  unfold gapN
  rw [← Nat.pow_add]
  exact Nat.pow_le_pow_right (by decide) (by omega)
def P1 (n a b : Nat) : Prop := expN a + 2 < expN b ∧ n ≤ 1034 ∧ magN b - magN a ≤ 2 ^ (1034 - n) * (1099511627776 + n)
def P2 (n a b : Nat) : Prop := ∃ t, n + t + 18 ≤ 1100 ∧ expN b ≤ expN a + 2 ∧ magN b - magN a ≤ gapN a * (2 ^ t + 16)
def P3 (n a b : Nat) : Prop := ∃ c, n + c ≤ 1100 ∧ magN b - magN a ≤ gapN a * c
/-- How far it has come after n halvings. -/
def Rk (n a b : Nat) : Prop := a < b ∧ b ≤ oneB ∧ (P1 n a b ∨ P2 n a b ∨ P3 n a b)
theorem p1_wide {n a b : Nat} (_ : b < infR) (h : P1 n a b) : 2251799813685248 * gapN b ≤ magN b - magN a ∧ n ≤ 1020 := by
  obtain ⟨h1, h2, h3⟩ := h
  have ha : 1 ≤ expN a := by
    by_cases hc : a < 4503599627370496
    · rw [expN_lo hc]; exact Nat.le_refl _
    · rw [expN_hi hc]; omega
  have hg : gapN a * 8 ≤ gapN b := by
    unfold gapN
    rw [show (8 : Nat) = 2 ^ 3 by decide, ← Nat.pow_add]
    exact Nat.pow_le_pow_right (by decide) (by omega)
  have hta : magN a < 9007199254740992 * gapN a := mag_top a
  have hbb : ¬ b < 4503599627370496 := by
    intro hc
    rw [expN_lo hc] at h1
    omega
  have hfb : 4503599627370496 * gapN b ≤ magN b := Nat.mul_le_mul_right _ (by rw [fullN_hi hbb]; omega)
  have hw : 2251799813685248 * gapN b ≤ magN b - magN a := by omega
  refine ⟨hw, ?_⟩
  have h8 : 8 ≤ gapN b := by
    unfold gapN
    exact Nat.pow_le_pow_right (n := 2) (by decide) (show 3 ≤ expN b - 1 by omega)
  have hlt : 2 ^ (1034 - n) * (1099511627776 + n) < 2 ^ (1034 - n) * 2199023255552 := Nat.mul_lt_mul_of_pos_left (by omega) (Nat.two_pow_pos _)
  have h54 : 2 ^ 54 < 2 ^ (1034 - n + 41) := by
    rw [Nat.pow_add, show (2 : Nat) ^ 54 = 18014398509481984 by decide, show (2 : Nat) ^ 41 = 2199023255552 by decide]
    omega
  have := (Nat.pow_lt_pow_iff_right (by decide : 1 < 2)).1 h54
  omega
theorem rk_lt {n a b : Nat} (h : Rk n a b) : n < 1100 := by
  obtain ⟨h1, h2, h3⟩ := h
  have hbi : b < infR := by have := one_fin; omega
  rcases h3 with h3 | ⟨t, h3, _⟩ | ⟨c, h3, h4⟩
  · have := (p1_wide hbi h3).2; omega
  · omega
  · have hl := mag_lt h1 hbi
    have : c ≠ 0 := by intro e; rw [e, Nat.mul_zero] at h4; omega
    omega
theorem rk_start {n a b : Nat} (hn : n = 0) (h : a < b) (hb : b ≤ oneB) : Rk n a b := by
  refine ⟨h, hb, ?_⟩
  have hM := mag_le hb one_fin
  rw [mag_one] at hM
  by_cases hc : expN a + 2 < expN b
  · left
    refine ⟨hc, by omega, ?_⟩
    have e : 52 + (expN oneB - 1) = (1034 - n) + 40 := by rw [exp_one]; omega
    have hM2 : magN b ≤ 2 ^ (1034 - n) * (1099511627776 + n) := by
      rw [show 1099511627776 + n = 2 ^ 40 by rw [hn], ← Nat.pow_add, ← e]
      exact hM
    exact Nat.le_trans (Nat.sub_le _ _) hM2
  · right; left
    refine ⟨55, by omega, by omega, ?_⟩
    have ha : 1 ≤ expN a := (expN_bd (m := a) (by have := one_fin; omega)).1
    have hg := gap_shift (a := a) (b := b) (k := 2) ha (by omega)
    have ht : magN b < 9007199254740992 * gapN b := mag_top b
    rw [show (2 : Nat) ^ 2 = 4 by decide] at hg
    rw [show (2 : Nat) ^ 55 + 16 = 36028797018963984 by decide]
    omega
theorem rk_new {n a b m a' b' : Nat} (hk : Rk n a b) (hm1 : a < m) (hm2 : m < b) (hn : a' = a ∧ b' = m ∨ a' = m ∧ b' = b) (e1 : 2 * magN m ≤ magN a + magN b + 4 * 2 ^ (expN b - 1)) (e2 : magN a + magN b ≤ 2 * magN m + 4 * 2 ^ (expN b - 1)) : Rk (n + 1) a' b' := by
  have hlt := rk_lt hk
  obtain ⟨hab, hb, hp⟩ := hk
  have h1 := one_fin
  have hbi : b < infR := by omega
  have hl : a' < b' ∧ a ≤ a' ∧ b' ≤ b := by rcases hn with ⟨rfl, rfl⟩ | ⟨rfl, rfl⟩ <;> omega
  obtain ⟨hab', ha', hb'⟩ := hl
  have hmi : m < infR := by omega
  have lab := mag_lt hab hbi
  have lam := mag_lt hm1 hmi
  have lmb := mag_lt hm2 hbi
  have hga : 1 ≤ expN a := (expN_bd (m := a) (by omega)).1
  have hga' : 1 ≤ expN a' := (expN_bd (m := a') (by omega)).1
  have hD : 2 * (magN b' - magN a') ≤ magN b - magN a + 4 * gapN b := by
    unfold gapN
    rcases hn with ⟨rfl, rfl⟩ | ⟨rfl, rfl⟩ <;> omega
  have hS : magN b' - magN a' + gapN a ≤ magN b - magN a := by
    rcases hn with ⟨rfl, rfl⟩ | ⟨rfl, rfl⟩
    · have := gap_step (a := a') (m := b') (b := b) (by omega) hm2 hbi
      omega
    · have := gap_step (a := a) (m := a) (b := a') (Nat.le_refl _) hm1 hmi
      omega
  have hgap := gap_le ha'
  have hea := exp_le ha'
  have heb := exp_le hb'
  have htb' : magN b' < 9007199254740992 * gapN b' := mag_top b'
  clear e1 e2 hn
  refine ⟨hab', by omega, ?_⟩
  have hgp := gap_pos a
  rcases hp with hp | ⟨t, ht, hx, hy⟩ | ⟨c, hc, hy⟩
  · obtain ⟨hw, hn20⟩ := p1_wide hbi hp
    obtain ⟨_, h34, hd⟩ := hp
    by_cases hc : expN a' + 2 < expN b'
    · left
      refine ⟨hc, by omega, ?_⟩
      have ez : 2 ^ (1034 - n) = 2 * 2 ^ (1034 - (n + 1)) := by rw [show 1034 - n = (1034 - (n + 1)) + 1 by omega, Nat.pow_succ, Nat.mul_comm]
      rw [ez, Nat.mul_assoc] at hd
      have e3 : 1099511627776 + (n + 1) = (1099511627776 + n) + 1 := by omega
      rw [e3, Nat.mul_succ]
      have hy : 2 ^ (1034 - (n + 1)) * (1099511627776 + n) ≤ 2 ^ (1034 - (n + 1)) * 562949953421312 := Nat.mul_le_mul_left _ (by omega)
      generalize 2 ^ (1034 - (n + 1)) * (1099511627776 + n) = Y at *
      generalize 2 ^ (1034 - (n + 1)) = Z at *
      omega
    · right; left
      refine ⟨55, by omega, by omega, ?_⟩
      have hg := gap_shift (a := a') (b := b') (k := 2) hga' (by omega)
      rw [show (2 : Nat) ^ 2 = 4 by decide] at hg
      rw [show (2 : Nat) ^ 55 + 16 = 36028797018963984 by decide]
      omega
  · have hg := gap_shift (a := a) (b := b) (k := 2) hga hx
    rw [show (2 : Nat) ^ 2 = 4 by decide] at hg
    cases t with
    | zero =>
      right; right
      refine ⟨16, by omega, ?_⟩
      rw [show (2 : Nat) ^ 0 + 16 = 17 by decide] at hy
      omega
    | succ t =>
      right; left
      refine ⟨t, by omega, by omega, ?_⟩
      rw [Nat.pow_succ, Nat.mul_add] at hy
      rw [Nat.mul_add]
      have hmul : gapN a * 2 ^ t ≤ gapN a' * 2 ^ t := Nat.mul_le_mul_right _ hgap
      rw [← Nat.mul_assoc] at hy
      generalize gapN a * 2 ^ t = X at *
      generalize gapN a' * 2 ^ t = X' at *
      omega
  · right; right
    cases c with
    | zero => rw [Nat.mul_zero] at hy; omega
    | succ c =>
      refine ⟨c, by omega, ?_⟩
      rw [Nat.mul_succ] at hy
      have hmul : gapN a * c ≤ gapN a' * c := Nat.mul_le_mul_right _ hgap
      omega
theorem mid_between {n a b : Nat} (hk : Rk n a b) (h1 : a < midN a b) (h2 : midN a b < b) : Rk (n + 1) a (midN a b) ∧ Rk (n + 1) (midN a b) b := by
  obtain ⟨x, y, m, ex, _, ey, _, em, _, e1, e2⟩ := mid_spec hk.1 hk.2.1
  have e := midN_eq ex ey em
  rw [e] at h1 h2 ⊢
  exact ⟨rk_new hk h1 h2 (.inl ⟨rfl, rfl⟩) e1 e2, rk_new hk h1 h2 (.inr ⟨rfl, rfl⟩) e1 e2⟩
theorem mid_fin {a b : Nat} (h : a < b) (hb : b ≤ oneB) : midN a b < infR := by
  obtain ⟨x, y, m, ex, _, ey, _, em, hm, _, _⟩ := mid_spec h hb
  rw [midN_eq ex ey em]
  exact hm
end Go.Proofs.Ytfdopinlmjbfaaa
