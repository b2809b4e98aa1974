/- Whole numbers among floats: what Trunc, a conversion to int and one back give. Conditions: bits below 2^64. -/
import Derived.Test.YtjgbccadjgelbaaDoorHalf
namespace Go.Proofs.YtjgbccadjgelbaaDoor
open Go Ieee

def w53 : Nat := 4845873199050653696
theorem w53_lt : w53 < infR := by decide
/-- What stands ahead of the point. -/
def quoN (r : Nat) : Nat := fullN r <<< ((expN r : Int) - 1075).toNat / 2 ^ (1075 - (expN r : Int)).toNat
theorem cut_zero (neg : Bool) (n drop : Nat) : Toward.zero.cut neg n drop = n / 2 ^ drop := by
  unfold Toward.cut
  simp only [Bool.toNat_false, Nat.add_zero]
  have hg : ∀ k, 1 <<< k = 2 ^ k := fun k => by rw [Nat.shiftLeft_eq, Nat.one_mul]
  rw [hg]
  by_cases h : drop ≤ n.log2 + 2
  · rw [Nat.min_eq_left h]
  · rw [Nat.min_eq_right (by omega)]
    have hb : n < 2 ^ (n.log2 + 1) := Nat.lt_log2_self
    have h1 : 2 ^ (n.log2 + 1) ≤ 2 ^ (n.log2 + 2) := Nat.pow_le_pow_right (by decide) (by omega)
    have h2 : 2 ^ (n.log2 + 2) ≤ 2 ^ drop := Nat.pow_le_pow_right (by decide) (by omega)
    rw [Nat.div_eq_of_lt (by omega), Nat.div_eq_of_lt (by omega)]
theorem integral_word {r : Nat} (neg : Bool) (h : r < infR) : (double.read (double.word neg r)).integral .zero = .number neg (quoN r) 0 := by
  rw [read_word neg h]
  simp only [Datum.integral, cut_zero]
  have e : (-((expN r : Int) - 1075)).toNat = (1075 - (expN r : Int)).toNat := by omega
  rw [e]; rfl
/-- The bounds of a number up to 2^53. -/
theorem exp_le {r : Nat} (h : r ≤ w53) : expN r ≤ 1076 ∧ (expN r = 1076 → r = w53) := by
  unfold w53 at h
  by_cases h2 : r < 4503599627370496
  · rw [expN_lo h2]; omega
  · rw [expN_hi h2]; unfold w53; omega
theorem quo_le {r : Nat} (h : r ≤ w53) : quoN r ≤ 9007199254740992 := by
  obtain ⟨e1, e2⟩ := exp_le h
  by_cases h3 : expN r = 1076
  · have hw := e2 h3
    subst hw
    decide
  · have e : ((expN r : Int) - 1075).toNat = 0 := by omega
    unfold quoN
    rw [e, Nat.shiftLeft_zero]
    have := full_lt (r := r)
    have := Nat.div_le_self (fullN r) (2 ^ (1075 - (expN r : Int)).toNat)
    omega
/-- A number is whole where its digits' last places are noughts. -/
def e75 : Nat := 1075
theorem e75_eq : e75 = 1075 := rfl
def P75 : Nat := 2 ^ e75
theorem P75_eq (k : Nat) (h : k = e75) : 2 ^ k = P75 := by rw [h]; rfl
theorem full_w53 : fullN w53 * 2 ^ expN w53 = 9007199254740992 * P75 := by
  have e1 : fullN w53 = 4503599627370496 := by decide
  have e2 : expN w53 = e75 + 1 := by decide
  rw [e1, e2, Nat.pow_succ, P75_eq _ rfl]
  generalize P75 = P
  omega
def whole (r : Nat) : Prop := fullN r * 2 ^ expN r = quoN r * P75
theorem l75 (l : Nat) (h : l ≤ 52) : 52 - l + (l + 1023) = e75 := by
  show _ = 1075
  omega
theorem cvt_val {q : Nat} (h0 : q ≠ 0) (h : q < 9007199254740992) : fullN (cvtN q) * 2 ^ expN (cvtN q) = q * P75 := by
  obtain ⟨d1, d2⟩ := cvt_norm h0 h
  obtain ⟨b1, b2, b3⟩ := norm_bd h0 h
  have hn : ¬ cvtN q < 4503599627370496 := by omega
  rw [fullN_hi hn, expN_hi hn, d1, d2]
  have e : q * 2 ^ (52 - q.log2) - 4503599627370496 + 4503599627370496 = q * 2 ^ (52 - q.log2) := by omega
  rw [e, Nat.mul_assoc, ← Nat.pow_add, l75 _ b3]
  rfl
theorem cvt_fin {q : Nat} (h0 : q ≠ 0) (h : q ≤ 9007199254740992) : cvtN q < infR ∧ 0 < cvtN q := by
  have := cvt_facts h0 (by omega)
  exact ⟨this.1, by have := this.2.1; unfold smallB at this; omega⟩
theorem val_inj {r q : Nat} (hr : r < infR) (hq : q < infR) (e : fullN r * 2 ^ expN r = fullN q * 2 ^ expN q) : r = q := by
  rcases Nat.lt_trichotomy r q with h | h | h
  · have := val_lt (i := expN r) (j := expN q) h hq (by omega); omega
  · exact h
  · have := val_lt (i := expN q) (j := expN r) h hr (by omega); omega
theorem near_cvt (neg : Bool) {q : Nat} (h0 : q ≠ 0) (h : q < 9007199254740992) : double.nearest neg q 0 = double.word neg (cvtN q) := by
  obtain ⟨c1, c2⟩ := cvt_fin h0 (by omega)
  refine nearest_exact (a := e75) (b := expN (cvtN q)) c2 c1 ?_ (by rw [e75_eq]; omega) neg
  rw [cvt_val h0 h, P75_eq _ rfl]
/-- A whole number, cut at the point, is itself. -/
theorem trunc_whole {r : Nat} (neg : Bool) (hr : r < infR) (hw : whole r) : double.write (.number neg (quoN r) 0) = double.word neg r := by
  unfold whole at hw
  by_cases h : r = 0
  · have h0 : quoN r = 0 := by subst h; unfold quoN; rw [full_zero, Nat.zero_shiftLeft, Nat.zero_div]
    rw [h0, write_zero, h]
  · refine nearest_exact (a := e75) (b := expN r) (by omega) hr ?_ (by rw [e75_eq]; omega) neg
    rw [P75_eq _ rfl]; exact hw.symm
/-- One that is not whole is not. -/
theorem trunc_part {r : Nat} (neg : Bool) (hr : r ≤ w53) (hw : ¬ whole r) : ∃ t, t < infR ∧ t ≠ r ∧ double.write (.number neg (quoN r) 0) = double.word neg t := by
  have hq := quo_le hr
  by_cases h0 : quoN r = 0
  · refine ⟨0, by decide, fun e => hw ?_, by rw [h0, write_zero]⟩
    subst e; unfold whole; rw [h0, full_zero, Nat.zero_mul, Nat.zero_mul]
  · by_cases hb : quoN r < 9007199254740992
    · refine ⟨cvtN (quoN r), (cvt_fin h0 hq).1, fun e => hw ?_, near_cvt neg h0 hb⟩
      have := cvt_val h0 hb
      unfold whole
      rw [e] at this; exact this
    · exfalso
      apply hw
      obtain ⟨e1, e2⟩ := exp_le hr
      by_cases h3 : expN r = 1076
      · have e4 := e2 h3
        have e5 : quoN r = 9007199254740992 := by omega
        unfold whole
        rw [e5, e4]; exact full_w53
      · exfalso
        apply hb
        have e : ((expN r : Int) - 1075).toNat = 0 := by omega
        unfold quoN
        rw [e, Nat.shiftLeft_zero]
        have := full_lt (r := r)
        have := Nat.div_le_self (fullN r) (2 ^ (1075 - (expN r : Int)).toNat)
        omega
theorem order_word {r q : Nat} (neg : Bool) (hr : r < infR) (hq : q < infR) : double.order (double.word neg r) (double.word neg q) = some (if r = q then .eq else if (r < q) = (neg = false) then .lt else .gt) := by
  unfold Format.order
  rw [read_word neg hr, read_word neg hq]
  have b1 := expN_bd hr
  have b2 := expN_bd hq
  simp only [Datum.order]
  generalize hi : ((expN r : Int) - 1075 - min ((expN r : Int) - 1075) ((expN q : Int) - 1075)).toNat = i
  generalize hj : ((expN q : Int) - 1075 - min ((expN r : Int) - 1075) ((expN q : Int) - 1075)).toNat = j
  have hij : i + expN q = j + expN r := by omega
  by_cases h1 : r = q
  · rw [if_pos h1]
    have e := val_eq h1 hij
    cases neg
    · rw [signed_pos, signed_pos, e, Int.compare_eq_eq.2 rfl]
    · rw [signed_neg, signed_neg, e, Int.compare_eq_eq.2 rfl]
  · rw [if_neg h1]
    by_cases h2 : r < q
    · have hv := val_lt h2 hq hij
      cases neg
      · rw [signed_pos, signed_pos, cmp_lt (Int.ofNat_lt.2 hv), if_pos (by simp [h2])]
      · rw [signed_neg, signed_neg, cmp_gt (by have := Int.ofNat_lt.2 hv; omega), if_neg (by simp [h2])]
    · have hv := val_lt (r := q) (q := r) (i := j) (j := i) (by omega) hr (by omega)
      cases neg
      · rw [signed_pos, signed_pos, cmp_gt (Int.ofNat_lt.2 hv), if_neg (by simp [h2])]
      · rw [signed_neg, signed_neg, cmp_lt (by have := Int.ofNat_lt.2 hv; omega), if_pos (by simp [h2])]
theorem order_word_eq {r : Nat} (neg : Bool) (hr : r < infR) : (double.order (double.word neg r) (double.word neg r) != some .eq) = false := by
  rw [order_word neg hr hr, if_pos rfl]; rfl
theorem order_word_ne {r q : Nat} (neg : Bool) (hr : r < infR) (hq : q < infR) (h : r ≠ q) : (double.order (double.word neg r) (double.word neg q) != some .eq) = true := by
  rw [order_word neg hr hq, if_neg h]
  split <;> rfl
end Go.Proofs.YtjgbccadjgelbaaDoor
