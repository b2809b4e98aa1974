/- Finite floats above nought as whole numbers times powers of two; the nearest float of a number; their order. Conditions: none of its own. -/
import Derived.Test.YtfcdajkgopcmpaaA
import Derived.Laws.FloatArith
namespace Go.Proofs.Ytfcdajkgopcmpaa
open Ieee
/-- The digits of a float above zero, as a whole number; its exponent's place; how often two divides it; the odd part; the power. -/
def fullN (m : Nat) : Nat := bif decide (m < 4503599627370496) then m else m % 4503599627370496 + 4503599627370496
def expN (m : Nat) : Nat := bif decide (m < 4503599627370496) then 1 else m / 4503599627370496
theorem fullN_lo {m : Nat} (h : m < 4503599627370496) : fullN m = m := by unfold fullN; rw [decide_eq_true h, cond_true]
theorem fullN_hi {m : Nat} (h : ¬ m < 4503599627370496) : fullN m = m % 4503599627370496 + 4503599627370496 := by unfold fullN; rw [decide_eq_false h, cond_false]
theorem expN_lo {m : Nat} (h : m < 4503599627370496) : expN m = 1 := by unfold expN; rw [decide_eq_true h, cond_true]
theorem expN_hi {m : Nat} (h : ¬ m < 4503599627370496) : expN m = m / 4503599627370496 := by unfold expN; rw [decide_eq_false h, cond_false]
theorem fullN_bd {m : Nat} (h : 0 < m) : fullN m ≠ 0 ∧ fullN m < 9007199254740992 := by
  by_cases h2 : m < 4503599627370496
  · rw [fullN_lo h2]; omega
  · rw [fullN_hi h2]; omega
theorem expN_bd {m : Nat} (h : m < infR) : 1 ≤ expN m ∧ expN m ≤ 2046 := by
  unfold infR at h
  by_cases h2 : m < 4503599627370496
  · rw [expN_lo h2]; omega
  · rw [expN_hi h2]; omega
theorem signed_pos (m up : Nat) : signed false m up = ((m * 2 ^ up : Nat) : Int) := by
  simp [signed, Nat.shiftLeft_eq]
theorem signed_neg (m up : Nat) : signed true m up = -((m * 2 ^ up : Nat) : Int) := by
  simp [signed, Nat.shiftLeft_eq]
theorem log2_mul_pow {m : Nat} (h : m ≠ 0) (a : Nat) : (m * 2 ^ a).log2 = m.log2 + a := by
  have h1 := Nat.log2_self_le h
  have h2 : m < 2 ^ (m.log2 + 1) := Nat.lt_log2_self
  have hp : 0 < 2 ^ a := Nat.two_pow_pos a
  have h3 : m * 2 ^ a ≠ 0 := Nat.mul_ne_zero h (by omega)
  have l1 : 2 ^ (m.log2 + a) ≤ m * 2 ^ a := by rw [Nat.pow_add]; exact Nat.mul_le_mul_right _ h1
  have l2 : m * 2 ^ a < 2 ^ (m.log2 + a + 1) := by
    rw [show m.log2 + a + 1 = (m.log2 + 1) + a by omega, Nat.pow_add]
    exact Nat.mul_lt_mul_of_pos_right h2 hp
  have u1 : (m * 2 ^ a).log2 < m.log2 + a + 1 := (Nat.log2_lt h3).2 l2
  have u2 : m.log2 + a ≤ (m * 2 ^ a).log2 := (Nat.le_log2 h3).2 l1
  omega
/-- A cut that drops nought but zeros. -/
theorem cut_exact (way : Toward) (neg : Bool) (M d : Nat) (h : M ≠ 0) : way.cut neg (M * 2 ^ d) d = M := by
  unfold Toward.cut
  have hl : min d ((M * 2 ^ d).log2 + 2) = d := by rw [log2_mul_pow h]; omega
  rw [hl]
  have hg : 1 <<< d = 2 ^ d := by rw [Nat.shiftLeft_eq, Nat.one_mul]
  have hq : M * 2 ^ d / 2 ^ d = M := Nat.mul_div_cancel _ (Nat.two_pow_pos d)
  have hr : M * 2 ^ d % 2 ^ d = 0 := Nat.mul_mod_left _ _
  simp only [hg, hq, hr]
  have hp : 0 < 2 ^ d := Nat.two_pow_pos d
  cases way <;> cases neg <;> simp
/-- 'mag * 2^place' is the number of the rung r: it is that that is written. -/
theorem nearest_exact {r mag a b : Nat} {place : Int} (h0 : 0 < r) (hr : r < infR) (hv : mag * 2 ^ a = fullN r * 2 ^ b) (hp : place + b = (expN r : Int) - 1075 + a) (neg : Bool) :
    double.nearest neg mag place = double.word neg r := by
  have hf := fullN_bd h0
  have he := expN_bd hr
  have hpa : 0 < 2 ^ a := Nat.two_pow_pos a
  have hpb : 0 < 2 ^ b := Nat.two_pow_pos b
  have hm : mag ≠ 0 := by
    intro e; rw [e, Nat.zero_mul] at hv
    exact absurd hv.symm (Nat.mul_ne_zero hf.1 (by omega))
  have hlog : mag.log2 + a = (fullN r).log2 + b := by
    rw [← log2_mul_pow hm, ← log2_mul_pow hf.1, hv]
  have hlast : max (place + mag.log2 - (52 : Nat)) (-1074) = (expN r : Int) - 1075 := by
    by_cases hs : r < 4503599627370496
    · have e1 := expN_lo hs
      have e2 := fullN_lo hs
      have : (fullN r).log2 < 52 := (Nat.log2_lt hf.1).2 (by rw [e2]; exact hs)
      omega
    · have e2 := fullN_hi hs
      have l1 : (fullN r).log2 < 53 := (Nat.log2_lt hf.1).2 (by have := hf.2; omega)
      have l2 : 52 ≤ (fullN r).log2 := (Nat.le_log2 hf.1).2 (by rw [e2]; omega)
      omega
  unfold Format.nearest
  rw [if_neg hm]
  simp only [dbl_fb, dbl_least, dbl_bin, dbl_inf]
  rw [hlast]
  have hkept : Toward.even.cut neg (mag <<< (place - ((expN r : Int) - 1075)).toNat) (((expN r : Int) - 1075) - place).toNat = fullN r := by
    by_cases hc : b ≤ a
    · -- place ≥ P
      have e1 : (place - ((expN r : Int) - 1075)).toNat = a - b := by omega
      have e2 : (((expN r : Int) - 1075) - place).toNat = 0 := by omega
      rw [e1, e2, Nat.shiftLeft_eq]
      have : mag * 2 ^ (a - b) = fullN r := by
        apply Nat.eq_of_mul_eq_mul_right hpb
        rw [Nat.mul_assoc, ← Nat.pow_add, show a - b + b = a by omega]; exact hv
      rw [this]
      have := cut_exact .even neg (fullN r) 0 hf.1
      rwa [Nat.pow_zero, Nat.mul_one] at this
    · have e1 : (place - ((expN r : Int) - 1075)).toNat = 0 := by omega
      have e2 : (((expN r : Int) - 1075) - place).toNat = b - a := by omega
      rw [e1, e2, Nat.shiftLeft_eq, Nat.pow_zero, Nat.mul_one]
      have : mag = fullN r * 2 ^ (b - a) := by
        apply Nat.eq_of_mul_eq_mul_right hpa
        rw [Nat.mul_assoc, ← Nat.pow_add, show b - a + a = b by omega]; exact hv
      rw [this]
      exact cut_exact .even neg (fullN r) (b - a) hf.1
  rw [hkept]
  have hrung : ((expN r : Int) - 1075 - -1074).toNat * 4503599627370496 + fullN r = r := by
    by_cases hs : r < 4503599627370496
    · rw [expN_lo hs, fullN_lo hs]; omega
    · have := expN_hi hs
      rw [fullN_hi hs]; omega
  rw [hrung, Nat.min_eq_left (by omega)]
/-- What a finite word above nought reads as. -/
theorem read_pos {r : Nat} (h : r < infR) : double.read r = .number false (fullN r) ((expN r : Int) - 1075) := by
  have h' := h
  unfold infR at h'
  rw [read_eq]
  have e1 : r % 9223372036854775808 = r := by omega
  have e2 : r / 9223372036854775808 % 2 = 0 := by omega
  rw [e1, e2]
  by_cases hs : r < 4503599627370496
  · rw [if_pos hs, fullN_lo hs, expN_lo hs]; rfl
  · rw [if_neg hs, if_pos h, fullN_hi hs, expN_hi hs]
    have : (-1074 + ((r / 4503599627370496 - 1 : Nat) : Int)) = (r / 4503599627370496 : Nat) - 1075 := by omega
    rw [this, Nat.add_comm]; rfl
theorem read_neg {r : Nat} (h : r < infR) : double.read (9223372036854775808 + r) = .number true (fullN r) ((expN r : Int) - 1075) := by
  have h' := h
  unfold infR at h'
  rw [read_eq]
  have e1 : (9223372036854775808 + r) % 9223372036854775808 = r := by omega
  have e2 : (9223372036854775808 + r) / 9223372036854775808 % 2 = 1 := by omega
  rw [e1, e2]
  by_cases hs : r < 4503599627370496
  · rw [if_pos hs, fullN_lo hs, expN_lo hs]; rfl
  · rw [if_neg hs, if_pos h, fullN_hi hs, expN_hi hs]
    have : (-1074 + ((r / 4503599627370496 - 1 : Nat) : Int)) = (r / 4503599627370496 : Nat) - 1075 := by omega
    rw [this, Nat.add_comm]; rfl
theorem word_false (r : Nat) : double.word false r = r := rfl
theorem word_true (r : Nat) : double.word true r = 9223372036854775808 + r := by
  unfold Format.word; rw [if_pos rfl, dbl_sw]
def oneB : Nat := 4607182418800017408
theorem read_one : double.read oneB = .number false 4503599627370496 (-52) := by decide
/-- The float of a whole number above nought. -/
def cvtN (n : Nat) : Nat := floatOfInt .f64 (n : Int)
theorem cvt_nearest {n : Nat} : cvtN n = double.nearest false n 0 := by
  have hn : decide ((n : Int) < 0) = false := by simp
  unfold cvtN floatOfInt FloatKind.nearest FloatKind.encode
  rw [hn]
  rfl
theorem cvt_shape {n : Nat} (h0 : n ≠ 0) (hn : n < 288230376151711744) : ∃ kept, cvtN n = (n.log2 + 1022) * 4503599627370496 + kept ∧ 4503599627370496 ≤ kept ∧ kept ≤ 9007199254740992 ∧ (n < 9007199254740992 → kept = n * 2 ^ (52 - n.log2)) := by
  have h1 := Nat.log2_self_le h0
  have h2 : n < 2 ^ (n.log2 + 1) := Nat.lt_log2_self
  have hl : n.log2 < 58 := (Nat.log2_lt h0).2 hn
  rw [cvt_nearest]
  unfold Format.nearest
  rw [if_neg h0]
  simp only [dbl_fb, dbl_least, dbl_bin, dbl_inf]
  have hlast : max ((0 : Int) + n.log2 - (52 : Nat)) (-1074) = (n.log2 : Int) - 52 := by omega
  rw [hlast]
  have e0 : ((n.log2 : Int) - 52 - -1074).toNat = n.log2 + 1022 := by omega
  rw [e0, word_false]
  by_cases hs : n < 9007199254740992
  · have hl2 : n.log2 < 53 := (Nat.log2_lt h0).2 hs
    have e1 : (0 - ((n.log2 : Int) - 52)).toNat = 52 - n.log2 := by omega
    have e2 : (((n.log2 : Int) - 52) - 0).toNat = 0 := by omega
    rw [e1, e2, Nat.shiftLeft_eq]
    have hne : n * 2 ^ (52 - n.log2) ≠ 0 := Nat.mul_ne_zero h0 (by have := Nat.two_pow_pos (52 - n.log2); omega)
    have hk := cut_exact .even false _ 0 hne
    rw [Nat.pow_zero, Nat.mul_one] at hk
    rw [hk]
    have b1 : 4503599627370496 ≤ n * 2 ^ (52 - n.log2) := by
      calc 4503599627370496 = 2 ^ n.log2 * 2 ^ (52 - n.log2) := by rw [← Nat.pow_add, show n.log2 + (52 - n.log2) = 52 by omega]
        _ ≤ _ := Nat.mul_le_mul_right _ h1
    have b2 : n * 2 ^ (52 - n.log2) < 9007199254740992 := by
      calc n * 2 ^ (52 - n.log2) < 2 ^ (n.log2 + 1) * 2 ^ (52 - n.log2) := Nat.mul_lt_mul_of_pos_right h2 (Nat.two_pow_pos _)
        _ = 9007199254740992 := by rw [← Nat.pow_add, show n.log2 + 1 + (52 - n.log2) = 53 by omega]
    exact ⟨_, Nat.min_eq_left (by unfold infR; omega), b1, by omega, fun _ => rfl⟩
  · have hl2 : 53 ≤ n.log2 := (Nat.le_log2 h0).2 (by omega)
    have e1 : (0 - ((n.log2 : Int) - 52)).toNat = 0 := by omega
    have e2 : (((n.log2 : Int) - 52) - 0).toNat = n.log2 - 52 := by omega
    rw [e1, e2, Nat.shiftLeft_eq, Nat.pow_zero, Nat.mul_one]
    generalize hK : Toward.even.cut false n (n.log2 - 52) = K
    have hb : 4503599627370496 ≤ K ∧ K ≤ 9007199254740992 := by
      rw [← hK]
      unfold Toward.cut
      have hmin : min (n.log2 - 52) (n.log2 + 2) = n.log2 - 52 := by omega
      rw [hmin]
      have hg : 1 <<< (n.log2 - 52) = 2 ^ (n.log2 - 52) := by rw [Nat.shiftLeft_eq, Nat.one_mul]
      simp only [hg]
      have q1 : 4503599627370496 ≤ n / 2 ^ (n.log2 - 52) := by
        rw [Nat.le_div_iff_mul_le (Nat.two_pow_pos _)]
        calc 4503599627370496 * 2 ^ (n.log2 - 52) = 2 ^ 52 * 2 ^ (n.log2 - 52) := rfl
          _ = 2 ^ n.log2 := by rw [← Nat.pow_add, show 52 + (n.log2 - 52) = n.log2 by omega]
          _ ≤ n := h1
      have q2 : n / 2 ^ (n.log2 - 52) < 9007199254740992 := by
        rw [Nat.div_lt_iff_lt_mul (Nat.two_pow_pos _)]
        calc n < 2 ^ (n.log2 + 1) := h2
          _ = 2 ^ 53 * 2 ^ (n.log2 - 52) := by rw [← Nat.pow_add, show 53 + (n.log2 - 52) = n.log2 + 1 by omega]
          _ = _ := rfl
      have hm : ∀ t : Bool, t.toNat ≤ 1 := fun t => by cases t <;> simp
      have := hm (decide (2 ^ (n.log2 - 52) < 2 * (n % 2 ^ (n.log2 - 52))) || 2 ^ (n.log2 - 52) == 2 * (n % 2 ^ (n.log2 - 52)) && n / 2 ^ (n.log2 - 52) % 2 == 1)
      omega
    exact ⟨K, Nat.min_eq_left (by unfold infR; omega), hb.1, hb.2, fun h => absurd h hs⟩
theorem full_mono {r q : Nat} (h : r < q) (he : expN r = expN q) (_hq : q < infR) : fullN r < fullN q := by
  by_cases h1 : r < 4503599627370496
  · by_cases h2 : q < 4503599627370496
    · rw [fullN_lo h1, fullN_lo h2]; exact h
    · rw [expN_lo h1, expN_hi h2] at he
      rw [fullN_lo h1, fullN_hi h2]; omega
  · have h2 : ¬ q < 4503599627370496 := by omega
    rw [expN_hi h1, expN_hi h2] at he
    rw [fullN_hi h1, fullN_hi h2]; omega
theorem exp_mono {r q : Nat} (h : r < q) : expN r ≤ expN q := by
  by_cases h1 : r < 4503599627370496
  · by_cases h2 : q < 4503599627370496
    · rw [expN_lo h1, expN_lo h2]; omega
    · rw [expN_lo h1, expN_hi h2]; omega
  · have h2 : ¬ q < 4503599627370496 := by omega
    rw [expN_hi h1, expN_hi h2]; omega
theorem full_lt {r : Nat} : fullN r < 9007199254740992 := by
  by_cases h2 : r < 4503599627370496
  · rw [fullN_lo h2]; omega
  · rw [fullN_hi h2]; omega
theorem val_lt {r q i j : Nat} (h : r < q) (hq : q < infR) (hr : i + expN q = j + expN r) : fullN r * 2 ^ i < fullN q * 2 ^ j := by
  have hm := exp_mono h
  have h1 := (expN_bd hq)
  by_cases he : expN r = expN q
  · have : i = j := by omega
    subst this
    exact Nat.mul_lt_mul_of_pos_right (full_mono h he hq) (Nat.two_pow_pos _)
  · obtain ⟨d, hd⟩ : ∃ d, j = i + 1 + d := ⟨j - i - 1, by omega⟩
    have hq2 : ¬ q < 4503599627370496 := by
      intro h2
      have := expN_lo h2
      have := (expN_bd (m := r) (by omega)).1
      omega
    have l1 : 4503599627370496 ≤ fullN q := by rw [fullN_hi hq2]; omega
    have l2 := full_lt (r := r)
    calc fullN r * 2 ^ i < 9007199254740992 * 2 ^ i := Nat.mul_lt_mul_of_pos_right l2 (Nat.two_pow_pos _)
      _ = 4503599627370496 * 2 ^ (i + 1) := by rw [Nat.pow_succ, Nat.mul_comm (2 ^ i) 2, ← Nat.mul_assoc]
      _ ≤ 4503599627370496 * 2 ^ j := Nat.mul_le_mul_left _ (Nat.pow_le_pow_right (by decide) (by omega))
      _ ≤ fullN q * 2 ^ j := Nat.mul_le_mul_right _ l1
theorem val_eq {r q : Nat} {i j : Nat} (h : r = q) (hr : i + expN q = j + expN r) : fullN r * 2 ^ i = fullN q * 2 ^ j := by
  subst h
  have : i = j := by omega
  rw [this]
theorem cmp_lt {x y : Int} (h : x < y) : compare x y = .lt := Int.compare_eq_lt.2 h
theorem cmp_gt {x y : Int} (h : y < x) : compare x y = .gt := Int.compare_eq_gt.2 h
theorem order_pos {r q : Nat} (hr : r < infR) (hq : q < infR) : double.order r q = some (if r < q then .lt else if q < r then .gt else .eq) := by
  unfold Format.order
  rw [read_pos hr, read_pos hq]
  have b1 := expN_bd hr
  have b2 := expN_bd hq
  simp only [Datum.order, signed_pos]
  generalize hi : ((expN r : Int) - 1075 - min ((expN r : Int) - 1075) ((expN q : Int) - 1075)).toNat = i
  generalize hj : ((expN q : Int) - 1075 - min ((expN r : Int) - 1075) ((expN q : Int) - 1075)).toNat = j
  have hij : i + expN q = j + expN r := by omega
  by_cases h1 : r < q
  · rw [if_pos h1, cmp_lt (by exact Int.ofNat_lt.2 (val_lt h1 hq hij))]
  · rw [if_neg h1]
    by_cases h2 : q < r
    · rw [if_pos h2, cmp_gt (by exact Int.ofNat_lt.2 (val_lt h2 hr (by omega)))]
    · rw [if_neg h2]
      have : r = q := by omega
      rw [val_eq this hij, Int.compare_eq_eq.2 rfl]
theorem order_lt_t {r q : Nat} (hr : r < infR) (hq : q < infR) (h : r < q) : (double.order r q == some .lt) = true := by
  rw [order_pos hr hq, if_pos h]; rfl
theorem order_lt_f {r q : Nat} (hr : r < infR) (hq : q < infR) (h : ¬ r < q) : (double.order r q == some .lt) = false := by
  rw [order_pos hr hq, if_neg h]
  by_cases h2 : q < r
  · rw [if_pos h2]; rfl
  · rw [if_neg h2]; rfl
theorem order_gt_f {r q : Nat} (hr : r < infR) (hq : q < infR) (h : ¬ q < r) : (double.order r q == some .gt) = false := by
  rw [order_pos hr hq]
  by_cases h2 : r < q
  · rw [if_pos h2]; rfl
  · rw [if_neg h2, if_neg h]; rfl
theorem order_gt_t {r q : Nat} (hr : r < infR) (hq : q < infR) (h : q < r) : (double.order r q == some .gt) = true := by
  rw [order_pos hr hq, if_neg (by omega), if_pos h]; rfl
theorem order_eq_f {r q : Nat} (hr : r < infR) (hq : q < infR) (h : r ≠ q) : (double.order r q == some .eq) = false := by
  rw [order_pos hr hq]
  by_cases h2 : r < q
  · rw [if_pos h2]; rfl
  · rw [if_neg h2, if_pos (by omega)]; rfl
end Go.Proofs.Ytfcdajkgopcmpaa
