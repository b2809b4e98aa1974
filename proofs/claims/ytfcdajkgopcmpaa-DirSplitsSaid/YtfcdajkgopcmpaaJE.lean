/- Finite floats above nought as whole numbers times powers of two; the nearest float of a number; their order. Conditions: none of its own. How any float stands to a finite one that is not negative. Conditions: bits below 2^64. How far rounding to the nearest float moves a number; sums, differences and halves of finite floats above nought. Conditions: small enough that nothing overflows. The point between two points: how near it lies to the middle; halving ends below 1100 times. Conditions: points. A hash's 53 highest bits as a float from nought to one. Conditions: numbers below 2^53. -/
import Derived.Test.YtfcdajkgopcmpaaJA
import Derived.Laws.FloatArith
namespace Go.Proofs.Ytfcdajkgopcmpaa
open Ieee
/-- The digits of a float above zero, as a whole number; its exponent's place; how often two divides it; the odd part; the power. -/
def fullN (m : Nat) : Nat := bif decide (m < 4503599627370496) then m else m % 4503599627370496 + 4503599627370496
def expN (m : Nat) : Nat := bif decide (m < 4503599627370496) then 1 else m / 4503599627370496
theorem fullN_lo {m : Nat} (h : m < 4503599627370496) : fullN m = m := by unfold fullN; rw [decide_eq_true h, cond_true]
theorem fullN_hi {m : Nat} (h : ¬ m < 4503599627370496) : fullN m = m % 4503599627370496 + 4503599627370496 := by unfold fullN; rw [decide_eq_false h, cond_false]
theorem expN_lo {m : Nat} (h : m < 4503599627370496) : expN m = 1 := by unfold expN; rw [decide_eq_true h, cond_true]
theorem expN_hi {m : Nat} (h : ¬ m < 4503599627370496) : expN m = m / 4503599627370496 := by unfold expN; rw [decide_eq_false h, cond_false]
theorem fullN_bd {m : Nat} (h : 0 < m) : fullN m ≠ 0 ∧ fullN m < 9007199254740992 := by
  by_cases h2 : m < 4503599627370496
  · rw [fullN_lo h2]; omega
  · rw [fullN_hi h2]; omega
theorem expN_bd {m : Nat} (h : m < infR) : 1 ≤ expN m ∧ expN m ≤ 2046 := by
  unfold infR at h
  by_cases h2 : m < 4503599627370496
  · rw [expN_lo h2]; omega
  · rw [expN_hi h2]; omega
theorem signed_pos (m up : Nat) : signed false m up = ((m * 2 ^ up : Nat) : Int) := by
  simp [signed, Nat.shiftLeft_eq]
theorem signed_neg (m up : Nat) : signed true m up = -((m * 2 ^ up : Nat) : Int) := by
  simp [signed, Nat.shiftLeft_eq]
theorem log2_mul_pow {m : Nat} (h : m ≠ 0) (a : Nat) : (m * 2 ^ a).log2 = m.log2 + a := by
  have h1 := Nat.log2_self_le h
  have h2 : m < 2 ^ (m.log2 + 1) := Nat.lt_log2_self
  have hp : 0 < 2 ^ a := Nat.two_pow_pos a
  have h3 : m * 2 ^ a ≠ 0 := Nat.mul_ne_zero h (by omega)
  have l1 : 2 ^ (m.log2 + a) ≤ m * 2 ^ a := by rw [Nat.pow_add]; exact Nat.mul_le_mul_right _ h1
  have l2 : m * 2 ^ a < 2 ^ (m.log2 + a + 1) := by
    rw [show m.log2 + a + 1 = (m.log2 + 1) + a by omega, Nat.pow_add]
    exact Nat.mul_lt_mul_of_pos_right h2 hp
  have u1 : (m * 2 ^ a).log2 < m.log2 + a + 1 := (Nat.log2_lt h3).2 l2
  have u2 : m.log2 + a ≤ (m * 2 ^ a).log2 := (Nat.le_log2 h3).2 l1
  omega
/-- A cut that drops nought but zeros. -/
theorem cut_exact (way : Toward) (neg : Bool) (M d : Nat) (h : M ≠ 0) : way.cut neg (M * 2 ^ d) d = M := by
  unfold Toward.cut
  have hl : min d ((M * 2 ^ d).log2 + 2) = d := by rw [log2_mul_pow h]; omega
  rw [hl]
  have hg : 1 <<< d = 2 ^ d := by rw [Nat.shiftLeft_eq, Nat.one_mul]
  have hq : M * 2 ^ d / 2 ^ d = M := Nat.mul_div_cancel _ (Nat.two_pow_pos d)
  have hr : M * 2 ^ d % 2 ^ d = 0 := Nat.mul_mod_left _ _
  simp only [hg, hq, hr]
  have hp : 0 < 2 ^ d := Nat.two_pow_pos d
  cases way <;> cases neg <;> simp
/-- 'mag * 2^place' is the number of the rung r: it is that that is written. -/
theorem nearest_exact {r mag a b : Nat} {place : Int} (h0 : 0 < r) (hr : r < infR) (hv : mag * 2 ^ a = fullN r * 2 ^ b) (hp : place + b = (expN r : Int) - 1075 + a) (neg : Bool) :
    double.nearest neg mag place = double.word neg r := by
  have hf := fullN_bd h0
  have he := expN_bd hr
  have hpa : 0 < 2 ^ a := Nat.two_pow_pos a
  have hpb : 0 < 2 ^ b := Nat.two_pow_pos b
  have hm : mag ≠ 0 := by
    intro e; rw [e, Nat.zero_mul] at hv
    exact absurd hv.symm (Nat.mul_ne_zero hf.1 (by omega))
  have hlog : mag.log2 + a = (fullN r).log2 + b := by
    rw [← log2_mul_pow hm, ← log2_mul_pow hf.1, hv]
  have hlast : max (place + mag.log2 - (52 : Nat)) (-1074) = (expN r : Int) - 1075 := by
    by_cases hs : r < 4503599627370496
    · have e1 := expN_lo hs
      have e2 := fullN_lo hs
      have : (fullN r).log2 < 52 := (Nat.log2_lt hf.1).2 (by rw [e2]; exact hs)
      omega
    · have e2 := fullN_hi hs
      have l1 : (fullN r).log2 < 53 := (Nat.log2_lt hf.1).2 (by have := hf.2; omega)
      have l2 : 52 ≤ (fullN r).log2 := (Nat.le_log2 hf.1).2 (by rw [e2]; omega)
      omega
  unfold Format.nearest
  rw [if_neg hm]
  simp only [dbl_fb, dbl_least, dbl_bin, dbl_inf]
  rw [hlast]
  have hkept : Toward.even.cut neg (mag <<< (place - ((expN r : Int) - 1075)).toNat) (((expN r : Int) - 1075) - place).toNat = fullN r := by
    by_cases hc : b ≤ a
    · -- place ≥ P
      have e1 : (place - ((expN r : Int) - 1075)).toNat = a - b := by omega
      have e2 : (((expN r : Int) - 1075) - place).toNat = 0 := by omega
      rw [e1, e2, Nat.shiftLeft_eq]
      have : mag * 2 ^ (a - b) = fullN r := by
        apply Nat.eq_of_mul_eq_mul_right hpb
        rw [Nat.mul_assoc, ← Nat.pow_add, show a - b + b = a by omega]; exact hv
      rw [this]
      have := cut_exact .even neg (fullN r) 0 hf.1
      rwa [Nat.pow_zero, Nat.mul_one] at this
    · have e1 : (place - ((expN r : Int) - 1075)).toNat = 0 := by omega
      have e2 : (((expN r : Int) - 1075) - place).toNat = b - a := by omega
      rw [e1, e2, Nat.shiftLeft_eq, Nat.pow_zero, Nat.mul_one]
      have : mag = fullN r * 2 ^ (b - a) := by
        apply Nat.eq_of_mul_eq_mul_right hpa
        rw [Nat.mul_assoc, ← Nat.pow_add, show b - a + a = b by omega]; exact hv
      rw [this]
      exact cut_exact .even neg (fullN r) (b - a) hf.1
  rw [hkept]
  have hrung : ((expN r : Int) - 1075 - -1074).toNat * 4503599627370496 + fullN r = r := by
    by_cases hs : r < 4503599627370496
    · rw [expN_lo hs, fullN_lo hs]; omega
    · have := expN_hi hs
      rw [fullN_hi hs]; omega
  rw [hrung, Nat.min_eq_left (by omega)]
/-- What a finite word above nought reads as. -/
theorem read_pos {r : Nat} (h : r < infR) : double.read r = .number false (fullN r) ((expN r : Int) - 1075) := by
  have h' := h
  unfold infR at h'
  rw [read_eq]
  have e1 : r % 9223372036854775808 = r := by omega
  have e2 : r / 9223372036854775808 % 2 = 0 := by omega
  rw [e1, e2]
  by_cases hs : r < 4503599627370496
  · rw [if_pos hs, fullN_lo hs, expN_lo hs]; rfl
  · rw [if_neg hs, if_pos h, fullN_hi hs, expN_hi hs]
    have : (-1074 + ((r / 4503599627370496 - 1 : Nat) : Int)) = (r / 4503599627370496 : Nat) - 1075 := by omega
    rw [this, Nat.add_comm]; rfl
theorem read_neg {r : Nat} (h : r < infR) : double.read (9223372036854775808 + r) = .number true (fullN r) ((expN r : Int) - 1075) := by
  have h' := h
  unfold infR at h'
  rw [read_eq]
  have e1 : (9223372036854775808 + r) % 9223372036854775808 = r := by omega
  have e2 : (9223372036854775808 + r) / 9223372036854775808 % 2 = 1 := by omega
  rw [e1, e2]
  by_cases hs : r < 4503599627370496
  · rw [if_pos hs, fullN_lo hs, expN_lo hs]; rfl
  · rw [if_neg hs, if_pos h, fullN_hi hs, expN_hi hs]
    have : (-1074 + ((r / 4503599627370496 - 1 : Nat) : Int)) = (r / 4503599627370496 : Nat) - 1075 := by omega
    rw [this, Nat.add_comm]; rfl
theorem word_false (r : Nat) : double.word false r = r := rfl
theorem word_true (r : Nat) : double.word true r = 9223372036854775808 + r := by
  unfold Format.word; rw [if_pos rfl, dbl_sw]
def oneB : Nat := 4607182418800017408
theorem read_one : double.read oneB = .number false 4503599627370496 (-52) := by decide
/-- The float of a whole number above nought. -/
def cvtN (n : Nat) : Nat := floatOfInt .f64 (n : Int)
theorem cvt_nearest {n : Nat} : cvtN n = double.nearest false n 0 := by
  have hn : decide ((n : Int) < 0) = false := by simp
  unfold cvtN floatOfInt FloatKind.nearest FloatKind.encode
  rw [hn]
  rfl
theorem cvt_shape {n : Nat} (h0 : n ≠ 0) (hn : n < 288230376151711744) : ∃ kept, cvtN n = (n.log2 + 1022) * 4503599627370496 + kept ∧ 4503599627370496 ≤ kept ∧ kept ≤ 9007199254740992 ∧ (n < 9007199254740992 → kept = n * 2 ^ (52 - n.log2)) := by
  have h1 := Nat.log2_self_le h0
  have h2 : n < 2 ^ (n.log2 + 1) := Nat.lt_log2_self
  have hl : n.log2 < 58 := (Nat.log2_lt h0).2 hn
  rw [cvt_nearest]
  unfold Format.nearest
  rw [if_neg h0]
  simp only [dbl_fb, dbl_least, dbl_bin, dbl_inf]
  have hlast : max ((0 : Int) + n.log2 - (52 : Nat)) (-1074) = (n.log2 : Int) - 52 := by omega
  rw [hlast]
  have e0 : ((n.log2 : Int) - 52 - -1074).toNat = n.log2 + 1022 := by omega
  rw [e0, word_false]
  by_cases hs : n < 9007199254740992
  · have hl2 : n.log2 < 53 := (Nat.log2_lt h0).2 hs
    have e1 : (0 - ((n.log2 : Int) - 52)).toNat = 52 - n.log2 := by omega
    have e2 : (((n.log2 : Int) - 52) - 0).toNat = 0 := by omega
    rw [e1, e2, Nat.shiftLeft_eq]
    have hne : n * 2 ^ (52 - n.log2) ≠ 0 := Nat.mul_ne_zero h0 (by have := Nat.two_pow_pos (52 - n.log2); omega)
    have hk := cut_exact .even false _ 0 hne
    rw [Nat.pow_zero, Nat.mul_one] at hk
    rw [hk]
    have b1 : 4503599627370496 ≤ n * 2 ^ (52 - n.log2) := by
      calc 4503599627370496 = 2 ^ n.log2 * 2 ^ (52 - n.log2) := by rw [← Nat.pow_add, show n.log2 + (52 - n.log2) = 52 by omega]
        _ ≤ _ := Nat.mul_le_mul_right _ h1
    have b2 : n * 2 ^ (52 - n.log2) < 9007199254740992 := by
      calc n * 2 ^ (52 - n.log2) < 2 ^ (n.log2 + 1) * 2 ^ (52 - n.log2) := Nat.mul_lt_mul_of_pos_right h2 (Nat.two_pow_pos _)
        _ = 9007199254740992 := by rw [← Nat.pow_add, show n.log2 + 1 + (52 - n.log2) = 53 by omega]
    exact ⟨_, Nat.min_eq_left (by unfold infR; omega), b1, by omega, fun _ => rfl⟩
  · have hl2 : 53 ≤ n.log2 := (Nat.le_log2 h0).2 (by omega)
    have e1 : (0 - ((n.log2 : Int) - 52)).toNat = 0 := by omega
    have e2 : (((n.log2 : Int) - 52) - 0).toNat = n.log2 - 52 := by omega
    rw [e1, e2, Nat.shiftLeft_eq, Nat.pow_zero, Nat.mul_one]
    generalize hK : Toward.even.cut false n (n.log2 - 52) = K
    have hb : 4503599627370496 ≤ K ∧ K ≤ 9007199254740992 := by
      rw [← hK]
      unfold Toward.cut
      have hmin : min (n.log2 - 52) (n.log2 + 2) = n.log2 - 52 := by omega
      rw [hmin]
      have hg : 1 <<< (n.log2 - 52) = 2 ^ (n.log2 - 52) := by rw [Nat.shiftLeft_eq, Nat.one_mul]
      simp only [hg]
      have q1 : 4503599627370496 ≤ n / 2 ^ (n.log2 - 52) := by
        rw [Nat.le_div_iff_mul_le (Nat.two_pow_pos _)]
        calc 4503599627370496 * 2 ^ (n.log2 - 52) = 2 ^ 52 * 2 ^ (n.log2 - 52) := rfl
          _ = 2 ^ n.log2 := by rw [← Nat.pow_add, show 52 + (n.log2 - 52) = n.log2 by omega]
          _ ≤ n := h1
      have q2 : n / 2 ^ (n.log2 - 52) < 9007199254740992 := by
        rw [Nat.div_lt_iff_lt_mul (Nat.two_pow_pos _)]
        calc n < 2 ^ (n.log2 + 1) := h2
          _ = 2 ^ 53 * 2 ^ (n.log2 - 52) := by rw [← Nat.pow_add, show 53 + (n.log2 - 52) = n.log2 + 1 by omega]
          _ = _ := rfl
      have hm : ∀ t : Bool, t.toNat ≤ 1 := fun t => by cases t <;> simp
      have := hm (decide (2 ^ (n.log2 - 52) < 2 * (n % 2 ^ (n.log2 - 52))) || 2 ^ (n.log2 - 52) == 2 * (n % 2 ^ (n.log2 - 52)) && n / 2 ^ (n.log2 - 52) % 2 == 1)
      omega
    exact ⟨K, Nat.min_eq_left (by unfold infR; omega), hb.1, hb.2, fun h => absurd h hs⟩
theorem full_mono {r q : Nat} (h : r < q) (he : expN r = expN q) (_hq : q < infR) : fullN r < fullN q := by
  by_cases h1 : r < 4503599627370496
  · by_cases h2 : q < 4503599627370496
    · rw [fullN_lo h1, fullN_lo h2]; exact h
    · rw [expN_lo h1, expN_hi h2] at he
      rw [fullN_lo h1, fullN_hi h2]; omega
  · have h2 : ¬ q < 4503599627370496 := by omega
    rw [expN_hi h1, expN_hi h2] at he
    rw [fullN_hi h1, fullN_hi h2]; omega
theorem exp_mono {r q : Nat} (h : r < q) : expN r ≤ expN q := by
  by_cases h1 : r < 4503599627370496
  · by_cases h2 : q < 4503599627370496
    · rw [expN_lo h1, expN_lo h2]; omega
    · rw [expN_lo h1, expN_hi h2]; omega
  · have h2 : ¬ q < 4503599627370496 := by omega
    rw [expN_hi h1, expN_hi h2]; omega
theorem full_lt {r : Nat} : fullN r < 9007199254740992 := by
  by_cases h2 : r < 4503599627370496
  · rw [fullN_lo h2]; omega
  · rw [fullN_hi h2]; omega
theorem val_lt {r q i j : Nat} (h : r < q) (hq : q < infR) (hr : i + expN q = j + expN r) : fullN r * 2 ^ i < fullN q * 2 ^ j := by
  have hm := exp_mono h
  have h1 := (expN_bd hq)
  by_cases he : expN r = expN q
  · have : i = j := by omega
    subst this
    exact Nat.mul_lt_mul_of_pos_right (full_mono h he hq) (Nat.two_pow_pos _)
  · obtain ⟨d, hd⟩ : ∃ d, j = i + 1 + d := ⟨j - i - 1, by omega⟩
    have hq2 : ¬ q < 4503599627370496 := by
      intro h2
      have := expN_lo h2
      have := (expN_bd (m := r) (by omega)).1
      omega
    have l1 : 4503599627370496 ≤ fullN q := by rw [fullN_hi hq2]; omega
    have l2 := full_lt (r := r)
    calc fullN r * 2 ^ i < 9007199254740992 * 2 ^ i := Nat.mul_lt_mul_of_pos_right l2 (Nat.two_pow_pos _)
      _ = 4503599627370496 * 2 ^ (i + 1) := by rw [Nat.pow_succ, Nat.mul_comm (2 ^ i) 2, ← Nat.mul_assoc]
      _ ≤ 4503599627370496 * 2 ^ j := Nat.mul_le_mul_left _ (Nat.pow_le_pow_right (by decide) (by omega))
      _ ≤ fullN q * 2 ^ j := Nat.mul_le_mul_right _ l1
theorem val_eq {r q : Nat} {i j : Nat} (h : r = q) (hr : i + expN q = j + expN r) : fullN r * 2 ^ i = fullN q * 2 ^ j := by
  subst h
  have : i = j := by omega
  rw [this]
theorem cmp_lt {x y : Int} (h : x < y) : compare x y = .lt := Int.compare_eq_lt.2 h
theorem cmp_gt {x y : Int} (h : y < x) : compare x y = .gt := Int.compare_eq_gt.2 h
theorem order_pos {r q : Nat} (hr : r < infR) (hq : q < infR) : double.order r q = some (if r < q then .lt else if q < r then .gt else .eq) := by
  unfold Format.order
  rw [read_pos hr, read_pos hq]
  have b1 := expN_bd hr
  have b2 := expN_bd hq
  simp only [Datum.order, signed_pos]
  generalize hi : ((expN r : Int) - 1075 - min ((expN r : Int) - 1075) ((expN q : Int) - 1075)).toNat = i
  generalize hj : ((expN q : Int) - 1075 - min ((expN r : Int) - 1075) ((expN q : Int) - 1075)).toNat = j
  have hij : i + expN q = j + expN r := by omega
  by_cases h1 : r < q
  · rw [if_pos h1, cmp_lt (by exact Int.ofNat_lt.2 (val_lt h1 hq hij))]
  · rw [if_neg h1]
    by_cases h2 : q < r
    · rw [if_pos h2, cmp_gt (by exact Int.ofNat_lt.2 (val_lt h2 hr (by omega)))]
    · rw [if_neg h2]
      have : r = q := by omega
      rw [val_eq this hij, Int.compare_eq_eq.2 rfl]
theorem order_lt_t {r q : Nat} (hr : r < infR) (hq : q < infR) (h : r < q) : (double.order r q == some .lt) = true := by
  rw [order_pos hr hq, if_pos h]; rfl
theorem order_lt_f {r q : Nat} (hr : r < infR) (hq : q < infR) (h : ¬ r < q) : (double.order r q == some .lt) = false := by
  rw [order_pos hr hq, if_neg h]
  by_cases h2 : q < r
  · rw [if_pos h2]; rfl
  · rw [if_neg h2]; rfl
theorem order_gt_f {r q : Nat} (hr : r < infR) (hq : q < infR) (h : ¬ q < r) : (double.order r q == some .gt) = false := by
  rw [order_pos hr hq]
  by_cases h2 : r < q
  · rw [if_pos h2]; rfl
  · rw [if_neg h2, if_neg h]; rfl
theorem order_gt_t {r q : Nat} (hr : r < infR) (hq : q < infR) (h : q < r) : (double.order r q == some .gt) = true := by
  rw [order_pos hr hq, if_neg (by omega), if_pos h]; rfl
theorem order_eq_f {r q : Nat} (hr : r < infR) (hq : q < infR) (h : r ≠ q) : (double.order r q == some .eq) = false := by
  rw [order_pos hr hq]
  by_cases h2 : r < q
  · rw [if_pos h2]; rfl
  · rw [if_neg h2, if_pos (by omega)]; rfl
end Go.Proofs.Ytfcdajkgopcmpaa
namespace Go.Proofs.Ytfcdajkgopcmpaa
open Ieee
theorem ord_inf {c : Nat} (hc : c < infR) : double.order infR c = some .gt := by
  unfold Format.order
  have e : double.read infR = .infinity false := by decide
  rw [e, read_pos hc]
  rfl
theorem ord_nan {b c : Nat} (h : nanB b = true) : double.order b c = none := by
  unfold Format.order
  have hn : (double.read b).isNaN = true := by rw [read_nan_iff]; exact h
  cases hr : double.read b with
  | number s m p => rw [hr] at hn; cases hn
  | infinity s => rw [hr] at hn; cases hn
  | nan s f => rfl
theorem ord_neg {r c : Nat} (hr : r ≤ infR) (hc : c < infR) (h : ¬ (r = 0 ∧ c = 0)) : double.order (9223372036854775808 + r) c = some .lt := by
  unfold Format.order
  by_cases hi : r = infR
  · have e : double.read (9223372036854775808 + infR) = .infinity true := by decide
    rw [hi, e, read_pos hc]
    rfl
  · rw [read_neg (by omega), read_pos hc]
    simp only [Datum.order, signed_pos, signed_neg]
    generalize ((expN r : Int) - 1075 - min ((expN r : Int) - 1075) ((expN c : Int) - 1075)).toNat = i
    generalize ((expN c : Int) - 1075 - min ((expN r : Int) - 1075) ((expN c : Int) - 1075)).toNat = j
    have p1 := Nat.two_pow_pos i
    have p2 := Nat.two_pow_pos j
    have hpos : 0 < fullN r * 2 ^ i + fullN c * 2 ^ j := by
      by_cases h0 : r = 0
      · have hc0 : 0 < c := by omega
        have := Nat.mul_pos (Nat.pos_of_ne_zero (fullN_bd hc0).1) p2
        omega
      · have := Nat.mul_pos (Nat.pos_of_ne_zero (fullN_bd (m := r) (by omega)).1) p1
        omega
    rw [cmp_lt (by omega)]
theorem ord_neg0 : double.order 9223372036854775808 0 = some .eq := by decide
/-- Of any float: it is a point, above one, no number, minus nought, or below nought. -/
theorem float_ways {b : Nat} (hb : b < 18446744073709551616) :
    (b = 0 ∧ double.order b 0 = some .eq ∧ double.order b oneB = some .lt) ∨
    (0 < b ∧ b < oneB ∧ double.order b 0 = some .gt ∧ double.order b oneB = some .lt) ∨
    (b = oneB ∧ double.order b 0 = some .gt ∧ double.order b oneB = some .eq) ∨
    (oneB < b ∧ b < 9223372036854775808 ∧ double.order b 0 = some .gt ∧ double.order b oneB = some .gt) ∨
    (oneB < b ∧ double.order b 0 = none ∧ double.order b oneB = none) ∨
    (b = 9223372036854775808 ∧ double.order b 0 = some .eq ∧ double.order b oneB = some .lt) ∨
    (9223372036854775808 < b ∧ double.order b 0 = some .lt ∧ double.order b oneB = some .lt) := by
  have h0 : (0 : Nat) < infR := by decide
  have h1 : oneB < infR := by decide
  have hiv : infR = 9218868437227405312 := rfl
  have hov : oneB = 4607182418800017408 := rfl
  cases hn : nanB b
  case true =>
    have : oneB < b := by
      unfold nanB at hn
      have := of_decide_eq_true hn
      omega
    exact .inr (.inr (.inr (.inr (.inl ⟨this, ord_nan hn, ord_nan hn⟩))))
  have hnn : b % 9223372036854775808 ≤ infR := by
    unfold nanB at hn
    have := of_decide_eq_false hn
    omega
  by_cases hs : b < 9223372036854775808
  · by_cases hi : b = infR
    · subst hi
      exact .inr (.inr (.inr (.inl ⟨h1, by omega, ord_inf h0, ord_inf h1⟩)))
    have hbi : b < infR := by omega
    rw [order_pos hbi h0, order_pos hbi h1]
    by_cases e0 : b = 0
    · subst e0; exact .inl ⟨rfl, rfl, rfl⟩
    rw [if_neg (by omega), if_pos (by omega)]
    by_cases e1 : b < oneB
    · rw [if_pos e1]; exact .inr (.inl ⟨by omega, e1, rfl, rfl⟩)
    rw [if_neg e1]
    by_cases e2 : b = oneB
    · rw [if_neg (by omega)]; exact .inr (.inr (.inl ⟨e2, rfl, rfl⟩))
    · rw [if_pos (by omega)]; exact .inr (.inr (.inr (.inl ⟨by omega, hs, rfl, rfl⟩)))
  · obtain ⟨r, rfl⟩ : ∃ r, b = 9223372036854775808 + r := ⟨b - 9223372036854775808, by omega⟩
    by_cases e0 : r = 0
    · subst e0
      exact .inr (.inr (.inr (.inr (.inr (.inl ⟨rfl, ord_neg0, ord_neg (by omega) h1 (by omega)⟩)))))
    · exact .inr (.inr (.inr (.inr (.inr (.inr ⟨by omega, ord_neg (by omega) h0 (by omega), ord_neg (by omega) h1 (by omega)⟩)))))
end Go.Proofs.Ytfcdajkgopcmpaa
namespace Go.Proofs.Ytfcdajkgopcmpaa
open Ieee
/-- A finite float above nought, in units of the least one. -/
def magN (r : Nat) : Nat := fullN r * 2 ^ (expN r - 1)
theorem mag_lt {r q : Nat} (h : r < q) (hq : q < infR) : magN r < magN q := by
  have h1 := (expN_bd hq).1
  have h2 := (expN_bd (m := r) (by omega)).1
  exact val_lt h hq (by omega)
theorem mag_le {r q : Nat} (h : r ≤ q) (hq : q < infR) : magN r ≤ magN q := by
  by_cases e : r = q
  · rw [e]; exact Nat.le_refl _
  · exact Nat.le_of_lt (mag_lt (by omega) hq)
theorem mag_top (r : Nat) : magN r < 9007199254740992 * 2 ^ (expN r - 1) :=
  Nat.mul_lt_mul_of_pos_right full_lt (Nat.two_pow_pos _)
theorem cut_err (n d : Nat) : 2 * (Toward.even.cut false n d * 2 ^ d) ≤ 2 * n + 2 ^ d ∧ 2 * n ≤ 2 * (Toward.even.cut false n d * 2 ^ d) + 2 ^ d := by
  unfold Toward.cut
  by_cases hd : d ≤ n.log2 + 2
  · rw [Nat.min_eq_left hd]
    have hg : 1 <<< d = 2 ^ d := by rw [Nat.shiftLeft_eq, Nat.one_mul]
    simp only [hg]
    have hp : 0 < 2 ^ d := Nat.two_pow_pos d
    have hn := Nat.div_add_mod n (2 ^ d)
    have hr := Nat.mod_lt n hp
    generalize n / 2 ^ d = low at *
    generalize n % 2 ^ d = rest at *
    generalize 2 ^ d = g at *
    rw [Nat.mul_comm g low] at hn
    rw [Nat.add_mul]
    generalize low * g = L at *
    by_cases h1 : g < 2 * rest
    · rw [decide_eq_true h1, Bool.true_or]
      simp only [Bool.toNat_true, Nat.one_mul]
      omega
    · rw [decide_eq_false h1, Bool.false_or]
      cases h2 : (g == 2 * rest && low % 2 == 1)
      · simp only [Bool.toNat_false, Nat.zero_mul]
        omega
      · have h3 : g = 2 * rest := by
          rw [Bool.and_eq_true] at h2
          exact beq_iff_eq.1 h2.1
        simp only [Bool.toNat_true, Nat.one_mul]
        omega
  · rw [Nat.min_eq_right (by omega)]
    have hg : 1 <<< (n.log2 + 2) = 2 ^ (n.log2 + 2) := by rw [Nat.shiftLeft_eq, Nat.one_mul]
    simp only [hg]
    have h2 : n < 2 ^ (n.log2 + 1) := Nat.lt_log2_self
    have h3 : 2 ^ (n.log2 + 2) = 2 * 2 ^ (n.log2 + 1) := by rw [Nat.pow_succ, Nat.mul_comm]
    have h4 : 2 ^ (n.log2 + 2) ≤ 2 ^ d := Nat.pow_le_pow_right (by decide) (by omega)
    have hlow : n / 2 ^ (n.log2 + 2) = 0 := Nat.div_eq_of_lt (by omega)
    have hmod : n % 2 ^ (n.log2 + 2) = n := Nat.mod_eq_of_lt (by omega)
    rw [hlow, hmod, decide_eq_false (by omega)]
    have : (2 ^ (n.log2 + 2) == 2 * n) = false := by rw [beq_eq_false_iff_ne]; omega
    rw [this]
    simp only [Bool.false_and, Bool.or_false, Bool.toNat_false, Nat.zero_add, Nat.zero_mul]
    omega
theorem mag_rung {E kept : Nat} (h1 : kept ≤ 9007199254740992) (h2 : E = 0 ∨ 4503599627370496 ≤ kept) : magN (E * 4503599627370496 + kept) = kept * 2 ^ E := by
  unfold magN
  by_cases h3 : kept < 4503599627370496
  · have e : E = 0 := by omega
    subst e
    rw [fullN_lo (by omega), expN_lo (by omega)]
    simp
  · by_cases h4 : kept = 9007199254740992
    · subst h4
      rw [fullN_hi (by omega), expN_hi (by omega)]
      have e1 : (E * 4503599627370496 + 9007199254740992) / 4503599627370496 - 1 = E + 1 := by omega
      have e2 : (E * 4503599627370496 + 9007199254740992) % 4503599627370496 = 0 := by omega
      rw [e1, e2, Nat.pow_succ]
      omega
    · rw [fullN_hi (by omega), expN_hi (by omega)]
      have e1 : (E * 4503599627370496 + kept) / 4503599627370496 - 1 = E := by omega
      have e2 : (E * 4503599627370496 + kept) % 4503599627370496 + 4503599627370496 = kept := by omega
      rw [e1, e2]
theorem near_spec {mag : Nat} {place : Int} (hm : mag ≠ 0) (hE : place + mag.log2 ≤ 1000) :
    ∃ E kept : Nat, double.nearest false mag place = E * 4503599627370496 + kept ∧ kept ≤ 9007199254740992 ∧ (E = 0 ∨ 4503599627370496 ≤ kept) ∧ (E : Int) = max (place + mag.log2 + 1022) 0 ∧ kept = Toward.even.cut false (mag * 2 ^ (place + 1074 - E).toNat) (E - 1074 - place).toNat := by
  obtain ⟨E, hEE⟩ : ∃ E : Nat, (E : Int) = max (place + mag.log2 + 1022) 0 := ⟨(max (place + mag.log2 + 1022) 0).toNat, by omega⟩
  have hlast : max (place + mag.log2 - (52 : Nat)) (-1074) = (E : Int) - 1074 := by omega
  have l1 := Nat.log2_self_le hm
  have l2 : mag < 2 ^ (mag.log2 + 1) := Nat.lt_log2_self
  have e1 : place - ((E : Int) - 1074) = place + 1074 - E := by omega
  have e2 : ((E : Int) - 1074) - place = E - 1074 - place := by omega
  have e3 : ((E : Int) - 1074 - -1074).toNat = E := by omega
  obtain ⟨kept, hk⟩ : ∃ kept, kept = Toward.even.cut false (mag * 2 ^ (place + 1074 - E).toNat) (E - 1074 - place).toNat := ⟨_, rfl⟩
  have hkb : kept ≤ 9007199254740992 ∧ (E = 0 ∨ 4503599627370496 ≤ kept) := by
    by_cases hc : (E : Int) ≤ place + 1074
    · have e4 : (E - 1074 - place).toNat = 0 := by omega
      obtain ⟨s, hs⟩ : ∃ s : Nat, (s : Int) = place + 1074 - E := ⟨(place + 1074 - E).toNat, by omega⟩
      have e5 : (place + 1074 - E).toNat = s := by omega
      have hce := cut_exact .even false (mag * 2 ^ s) 0 (Nat.mul_ne_zero hm (by have := Nat.two_pow_pos s; omega))
      rw [Nat.pow_zero, Nat.mul_one] at hce
      rw [e4, e5, hce] at hk
      rw [hk]
      have b2 : mag * 2 ^ s < 2 ^ 53 := by
        calc mag * 2 ^ s < 2 ^ (mag.log2 + 1) * 2 ^ s := Nat.mul_lt_mul_of_pos_right l2 (Nat.two_pow_pos _)
          _ = 2 ^ (mag.log2 + 1 + s) := by rw [← Nat.pow_add]
          _ ≤ 2 ^ 53 := Nat.pow_le_pow_right (by decide) (by omega)
      refine ⟨by omega, ?_⟩
      by_cases h0 : E = 0
      · exact .inl h0
      · right
        calc 4503599627370496 = 2 ^ (mag.log2 + s) := by rw [show mag.log2 + s = 52 by omega]
          _ = 2 ^ mag.log2 * 2 ^ s := by rw [← Nat.pow_add]
          _ ≤ mag * 2 ^ s := Nat.mul_le_mul_right _ l1
    · have e4 : (place + 1074 - E).toNat = 0 := by omega
      obtain ⟨d, hd⟩ : ∃ d : Nat, (d : Int) = E - 1074 - place := ⟨(E - 1074 - place).toNat, by omega⟩
      have e5 : (E - 1074 - place).toNat = d := by omega
      rw [e4, e5, Nat.pow_zero, Nat.mul_one] at hk
      obtain ⟨c1, c2⟩ := cut_err mag d
      rw [← hk] at c1 c2
      have hp : 0 < 2 ^ d := Nat.two_pow_pos d
      have b2 : mag < 2 ^ 53 * 2 ^ d := by
        rw [← Nat.pow_add]
        exact Nat.lt_of_lt_of_le l2 (Nat.pow_le_pow_right (by decide) (by omega))
      constructor
      · apply Nat.le_of_lt_succ
        have : kept * 2 ^ d < (9007199254740992 + 1) * 2 ^ d := by omega
        exact Nat.lt_of_mul_lt_mul_right this
      · by_cases h0 : E = 0
        · exact .inl h0
        · right
          have b1 : 4503599627370496 * 2 ^ d ≤ mag := by
            calc 4503599627370496 * 2 ^ d = 2 ^ (52 + d) := by rw [Nat.pow_add]
              _ = 2 ^ mag.log2 := by rw [show 52 + d = mag.log2 by omega]
              _ ≤ mag := l1
          apply Nat.le_of_lt_succ
          have : 4503599627370496 * 2 ^ d < (kept + 1) * 2 ^ d := by rw [Nat.add_mul]; omega
          exact Nat.lt_of_mul_lt_mul_right this
  refine ⟨E, kept, ?_, hkb.1, hkb.2, hEE, hk⟩
  unfold Format.nearest
  rw [if_neg hm]
  simp only [dbl_fb, dbl_least, dbl_bin, dbl_inf]
  rw [hlast, e1, e2, e3, Nat.shiftLeft_eq, ← hk, word_false, Nat.min_eq_left]
  have : E ≤ 2022 := by omega
  unfold infR
  omega
/-- A whole number of units. -/
theorem near_int {mag u : Nat} {place : Int} (hm : mag ≠ 0) (hu : place + 1074 = u) (hE : place + mag.log2 ≤ 1000) :
    ∃ r, double.nearest false mag place = r ∧ r < infR ∧ 2 * magN r ≤ 2 * (mag * 2 ^ u) + 2 ^ ((mag * 2 ^ u).log2 - 52) ∧ 2 * (mag * 2 ^ u) ≤ 2 * magN r + 2 ^ ((mag * 2 ^ u).log2 - 52) := by
  obtain ⟨E, kept, e0, k1, k2, hEE, hk⟩ := near_spec hm hE
  rw [log2_mul_pow hm]
  have e1 : mag.log2 + u - 52 = E := by omega
  refine ⟨_, e0, ?_, ?_⟩
  · have : E ≤ 2022 := by omega
    unfold infR; omega
  · rw [mag_rung k1 k2, e1]
    by_cases hc : E ≤ u
    · have e4 : ((E : Int) - 1074 - place).toNat = 0 := by omega
      have e5 : (place + 1074 - E).toNat = u - E := by omega
      have hce := cut_exact .even false (mag * 2 ^ (u - E)) 0 (Nat.mul_ne_zero hm (by have := Nat.two_pow_pos (u - E); omega))
      rw [Nat.pow_zero, Nat.mul_one] at hce
      rw [e4, e5, hce] at hk
      have : kept * 2 ^ E = mag * 2 ^ u := by
        rw [hk, Nat.mul_assoc, ← Nat.pow_add, show u - E + E = u by omega]
      rw [this]
      exact ⟨Nat.le_add_right _ _, Nat.le_add_right _ _⟩
    · have e4 : (place + 1074 - E).toNat = 0 := by omega
      have e5 : ((E : Int) - 1074 - place).toNat = E - u := by omega
      rw [e4, e5, Nat.pow_zero, Nat.mul_one] at hk
      obtain ⟨c1, c2⟩ := cut_err mag (E - u)
      rw [← hk] at c1 c2
      have hE2 : 2 ^ E = 2 ^ (E - u) * 2 ^ u := by rw [← Nat.pow_add, show E - u + u = E by omega]
      have m1 := Nat.mul_le_mul_right (2 ^ u) c1
      have m2 := Nat.mul_le_mul_right (2 ^ u) c2
      rw [Nat.add_mul, Nat.mul_assoc 2, Nat.mul_assoc kept, ← hE2, Nat.mul_assoc 2] at m1
      rw [Nat.add_mul, Nat.mul_assoc 2, Nat.mul_assoc 2, Nat.mul_assoc kept, ← hE2] at m2
      exact ⟨m1, m2⟩
theorem near_half {m U : Nat} {place : Int} (hm : m ≠ 0) (hl : m.log2 ≤ 52) (hp : place = (U : Int) - 1074 - 56 + m.log2) (hU : U ≤ 1100) :
    ∃ r, double.nearest false (m * 2 ^ (55 - m.log2)) place = r ∧ r < infR ∧ 2 * magN r ≤ m * 2 ^ U + 2 ^ ((m * 2 ^ U).log2 - 53) ∧ m * 2 ^ U ≤ 2 * magN r + 2 ^ ((m * 2 ^ U).log2 - 53) := by
  have hM : m * 2 ^ (55 - m.log2) ≠ 0 := Nat.mul_ne_zero hm (by have := Nat.two_pow_pos (55 - m.log2); omega)
  have hL : (m * 2 ^ (55 - m.log2)).log2 = 55 := by rw [log2_mul_pow hm]; omega
  obtain ⟨E, kept, e0, k1, k2, hEE, hk⟩ := near_spec (place := place) hM (by omega)
  rw [hL] at hEE
  rw [log2_mul_pow hm]
  have e1 : m.log2 + U - 53 = E := by omega
  refine ⟨_, e0, ?_, ?_⟩
  · have : E ≤ 1200 := by omega
    unfold infR; omega
  · rw [mag_rung k1 k2, e1]
    by_cases hc : (E : Int) ≤ place + 1074
    · have e4 : ((E : Int) - 1074 - place).toNat = 0 := by omega
      have e5 : (place + 1074 - E).toNat = U + m.log2 - 56 - E := by omega
      have hce := cut_exact .even false (m * 2 ^ (55 - m.log2) * 2 ^ (U + m.log2 - 56 - E)) 0 (Nat.mul_ne_zero hM (by have := Nat.two_pow_pos (U + m.log2 - 56 - E); omega))
      rw [Nat.pow_zero, Nat.mul_one] at hce
      rw [e4, e5, hce] at hk
      have : 2 * (kept * 2 ^ E) = m * 2 ^ U := by
        rw [hk, Nat.mul_assoc, Nat.mul_assoc, ← Nat.pow_add, ← Nat.pow_add, Nat.mul_comm 2, Nat.mul_assoc, ← Nat.pow_succ, show (55 - m.log2 + (U + m.log2 - 56 - E + E)).succ = U by omega]
      rw [this]
      exact ⟨Nat.le_add_right _ _, Nat.le_add_right _ _⟩
    · have e4 : (place + 1074 - E).toNat = 0 := by omega
      obtain ⟨d, hd⟩ : ∃ d : Nat, (d : Int) = E - 1074 - place := ⟨(E - 1074 - place).toNat, by omega⟩
      have e5 : ((E : Int) - 1074 - place).toNat = d := by omega
      rw [e4, e5, Nat.pow_zero, Nat.mul_one] at hk
      obtain ⟨c1, c2⟩ := cut_err (m * 2 ^ (55 - m.log2)) d
      rw [← hk] at c1 c2
      have m1 := Nat.mul_le_mul_right (2 ^ (U + m.log2)) c1
      have m2 := Nat.mul_le_mul_right (2 ^ (U + m.log2)) c2
      have p1 : 2 ^ d * 2 ^ (U + m.log2) = 2 ^ E * 2 ^ 56 := by rw [← Nat.pow_add, ← Nat.pow_add, show d + (U + m.log2) = E + 56 by omega]
      have p2 : 2 ^ (55 - m.log2) * 2 ^ (U + m.log2) = 2 ^ U * 2 ^ 55 := by rw [← Nat.pow_add, ← Nat.pow_add, show 55 - m.log2 + (U + m.log2) = U + 55 by omega]
      have q1 : kept * 2 ^ d * 2 ^ (U + m.log2) = kept * 2 ^ E * 2 ^ 56 := by rw [Nat.mul_assoc, p1, ← Nat.mul_assoc]
      have q2 : m * 2 ^ (55 - m.log2) * 2 ^ (U + m.log2) = m * 2 ^ U * 2 ^ 55 := by rw [Nat.mul_assoc, p2, ← Nat.mul_assoc]
      rw [Nat.add_mul, Nat.mul_assoc 2 _ (2 ^ (U + m.log2)), Nat.mul_assoc 2 _ (2 ^ (U + m.log2)), q1, q2, p1] at m1 m2
      clear q1 q2 p1 p2 c1 c2 hk e0
      generalize kept * 2 ^ E = R at *
      generalize m * 2 ^ U = H at *
      generalize 2 ^ E = G at *
      omega
end Go.Proofs.Ytfcdajkgopcmpaa
namespace Go.Proofs.Ytfcdajkgopcmpaa
open Ieee
theorem one_fin : oneB < infR := by decide
theorem full_one : fullN oneB = 4503599627370496 := by decide
theorem exp_one : expN oneB = 1023 := by decide
theorem mag_one : magN oneB = 2 ^ (52 + (expN oneB - 1)) := by unfold magN; rw [full_one, Nat.pow_add]
theorem log_lt {X e : Nat} (h : X < 9007199254740992 * 2 ^ e) : X.log2 - 52 ≤ e ∧ X.log2 - 53 ≤ e := by
  by_cases h0 : X = 0
  · subst h0; rw [Nat.log2_zero]; omega
  · have : X < 2 ^ (53 + e) := by rw [Nat.pow_add]; exact h
    have := (Nat.log2_lt h0).2 this
    omega
theorem shift_mag {p u k : Nat} (h : k + u = expN p - 1) : fullN p * 2 ^ k * 2 ^ u = magN p := by
  unfold magN
  rw [Nat.mul_assoc, ← Nat.pow_add, h]
theorem sub_spec {a b : Nat} (h : a < b) (hb : b ≤ oneB) : ∃ r, double.sub b a = some r ∧ r < infR ∧ 2 * magN r ≤ 2 * (magN b - magN a) + 2 ^ ((magN b - magN a).log2 - 52) ∧ 2 * (magN b - magN a) ≤ 2 * magN r + 2 ^ ((magN b - magN a).log2 - 52) := by
  have h1 := one_fin
  have hbi : b < infR := by omega
  have hai : a < infR := by omega
  have b1 := expN_bd hbi
  have a1 := expN_bd hai
  have hD := mag_lt h hbi
  have hM := mag_le hb h1
  rw [mag_one] at hM
  unfold Format.sub
  rw [read_pos hbi, read_pos hai]
  simp only [Datum.opposite, Datum.sum, Bool.not_false, signed_pos, signed_neg]
  generalize hi : ((expN b : Int) - 1075 - min ((expN b : Int) - 1075) ((expN a : Int) - 1075)).toNat = i
  generalize hj : ((expN a : Int) - 1075 - min ((expN b : Int) - 1075) ((expN a : Int) - 1075)).toNat = j
  obtain ⟨u, hu⟩ : ∃ u : Nat, min ((expN b : Int) - 1075) ((expN a : Int) - 1075) + 1074 = u := ⟨(min ((expN b : Int) - 1075) ((expN a : Int) - 1075) + 1074).toNat, by omega⟩
  have eb := shift_mag (p := b) (u := u) (k := i) (by omega)
  have ea := shift_mag (p := a) (u := u) (k := j) (by omega)
  have hp : 0 < 2 ^ u := Nat.two_pow_pos u
  have hlt : fullN a * 2 ^ j < fullN b * 2 ^ i := by
    apply Nat.lt_of_mul_lt_mul_right (a := 2 ^ u)
    rw [ea, eb]; exact hD
  obtain ⟨T, hT⟩ : ∃ T, T = fullN b * 2 ^ i - fullN a * 2 ^ j := ⟨_, rfl⟩
  have hTu : T * 2 ^ u = magN b - magN a := by rw [hT, Nat.sub_mul, ea, eb]
  have htot : ((fullN b * 2 ^ i : Nat) : Int) + -((fullN a * 2 ^ j : Nat) : Int) = (T : Int) := by omega
  rw [htot, if_neg (by omega)]
  have hneg : decide ((T : Int) < 0) = false := by rw [decide_eq_false_iff_not]; omega
  rw [hneg]
  simp only [Option.map_some, Format.write, Int.natAbs_natCast]
  have hT0 : T ≠ 0 := by omega
  have hlog : (T * 2 ^ u).log2 < 52 + (expN oneB - 1) + 1 := by
    refine (Nat.log2_lt (Nat.mul_ne_zero hT0 (by omega))).2 ?_
    rw [hTu, Nat.pow_succ]
    have : 0 < 2 ^ (52 + (expN oneB - 1)) := Nat.two_pow_pos _
    generalize 2 ^ (52 + (expN oneB - 1)) = Z at *
    omega
  rw [log2_mul_pow hT0] at hlog
  have := exp_one
  obtain ⟨r, e, hr, k1, k2⟩ := near_int (place := min ((expN b : Int) - 1075) ((expN a : Int) - 1075)) hT0 hu (by omega)
  rw [hTu] at k1 k2
  exact ⟨r, by rw [e], hr, k1, k2⟩
theorem add_spec {a h : Nat} (ha : a < infR) (hh : h < infR) {e : Nat} (he : e ≤ 1030) (hb : magN a + magN h < 9007199254740992 * 2 ^ e) : ∃ r, double.add a h = some r ∧ r < infR ∧ 2 * magN r ≤ 2 * (magN a + magN h) + 2 ^ ((magN a + magN h).log2 - 52) ∧ 2 * (magN a + magN h) ≤ 2 * magN r + 2 ^ ((magN a + magN h).log2 - 52) := by
  have b1 := expN_bd hh
  have a1 := expN_bd ha
  unfold Format.add
  rw [read_pos ha, read_pos hh]
  simp only [Datum.sum, signed_pos]
  generalize hi : ((expN a : Int) - 1075 - min ((expN a : Int) - 1075) ((expN h : Int) - 1075)).toNat = i
  generalize hj : ((expN h : Int) - 1075 - min ((expN a : Int) - 1075) ((expN h : Int) - 1075)).toNat = j
  obtain ⟨u, hu⟩ : ∃ u : Nat, min ((expN a : Int) - 1075) ((expN h : Int) - 1075) + 1074 = u := ⟨(min ((expN a : Int) - 1075) ((expN h : Int) - 1075) + 1074).toNat, by omega⟩
  have ea := shift_mag (p := a) (u := u) (k := i) (by omega)
  have eh := shift_mag (p := h) (u := u) (k := j) (by omega)
  have hp : 0 < 2 ^ u := Nat.two_pow_pos u
  obtain ⟨T, hT⟩ : ∃ T, T = fullN a * 2 ^ i + fullN h * 2 ^ j := ⟨_, rfl⟩
  have hTu : T * 2 ^ u = magN a + magN h := by rw [hT, Nat.add_mul, ea, eh]
  have htot : ((fullN a * 2 ^ i : Nat) : Int) + ((fullN h * 2 ^ j : Nat) : Int) = (T : Int) := by omega
  rw [htot]
  by_cases hT0 : T = 0
  · rw [hT0, Nat.zero_mul] at hTu
    rw [← hTu, if_pos (by omega), hT0]
    have e0 : magN 0 = 0 := by decide
    exact ⟨0, rfl, by decide, by rw [e0]; exact Nat.zero_le _, Nat.zero_le _⟩
  rw [if_neg (by omega)]
  have hneg : decide ((T : Int) < 0) = false := by rw [decide_eq_false_iff_not]; omega
  rw [hneg]
  simp only [Option.map_some, Format.write, Int.natAbs_natCast]
  have hlog : (T * 2 ^ u).log2 < 53 + e := by
    refine (Nat.log2_lt (Nat.mul_ne_zero hT0 (by omega))).2 ?_
    rw [hTu, Nat.pow_add]; exact hb
  rw [log2_mul_pow hT0] at hlog
  obtain ⟨r, er, hr, k1, k2⟩ := near_int (place := min ((expN a : Int) - 1075) ((expN h : Int) - 1075)) hT0 hu (by omega)
  rw [hTu] at k1 k2
  exact ⟨r, by rw [er], hr, k1, k2⟩
def twoB : Nat := 4611686018427387904
theorem read_two : double.read twoB = .number false 4503599627370496 (-51) := by decide
theorem half_spec {x : Nat} (hx : x < infR) (h0 : 0 < x) (hs : expN x ≤ 1100) : ∃ r, double.div x twoB = some r ∧ r < infR ∧ 2 * magN r ≤ magN x + 2 ^ ((magN x).log2 - 53) ∧ magN x ≤ 2 * magN r + 2 ^ ((magN x).log2 - 53) := by
  have a1 := expN_bd hx
  have hf := fullN_bd h0
  unfold Format.div
  rw [read_pos hx, read_two]
  have hl : (fullN x).log2 < 53 := (Nat.log2_lt hf.1).2 hf.2
  have hn2 : (4503599627370496 : Nat).log2 = 52 := by decide
  have hmore : double.fractionBits + 2 + (4503599627370496 : Nat).log2 - (fullN x).log2 = 52 + (54 - (fullN x).log2) := by rw [hn2, dbl_fb]; omega
  simp only [Datum.quotient]
  rw [if_neg (by decide), hmore]
  have hshift : fullN x <<< (52 + (54 - (fullN x).log2)) = (fullN x * 2 ^ (54 - (fullN x).log2)) * 4503599627370496 := by
    rw [Nat.shiftLeft_eq, Nat.mul_assoc, show (4503599627370496 : Nat) = 2 ^ 52 by decide, ← Nat.pow_add, Nat.add_comm]
  rw [hshift, Nat.mul_div_cancel _ (by decide), Nat.mul_mod_left]
  simp only [Option.map_some, Format.write, bne_self_eq_false, Bool.toNat_false, Nat.add_zero]
  have hmag : 2 * (fullN x * 2 ^ (54 - (fullN x).log2)) = fullN x * 2 ^ (55 - (fullN x).log2) := by
    rw [Nat.mul_comm 2, Nat.mul_assoc, ← Nat.pow_succ, show (54 - (fullN x).log2).succ = 55 - (fullN x).log2 by omega]
  rw [hmag]
  obtain ⟨r, e, hr, k1, k2⟩ := near_half (m := fullN x) (U := expN x - 1) (place := (expN x : Int) - 1075 - -51 - ((52 + (54 - (fullN x).log2) : Nat) : Int) - 1) hf.1 (by omega) (by omega) (by omega)
  exact ⟨r, by rw [e], hr, k1, k2⟩
/-- The middle: each step rounded. -/
def midN (a b : Nat) : Nat := ((double.sub b a).bind fun x => (double.div x twoB).bind fun h => double.add a h).getD 0
theorem mid_spec {a b : Nat} (h : a < b) (hb : b ≤ oneB) : ∃ x y m, double.sub b a = some x ∧ x < infR ∧ double.div x twoB = some y ∧ y < infR ∧ double.add a y = some m ∧ m < infR ∧
    2 * magN m ≤ magN a + magN b + 4 * 2 ^ (expN b - 1) ∧ magN a + magN b ≤ 2 * magN m + 4 * 2 ^ (expN b - 1) := by
  have h1 := one_fin
  have hbi : b < infR := by omega
  have hai : a < infR := by omega
  have hD := mag_lt h hbi
  have hM := mag_le hb h1
  rw [mag_one] at hM
  have htb := mag_top b
  have hE : expN b ≤ 1023 := by
    by_cases e : b = oneB
    · rw [e, exp_one]; exact Nat.le_refl _
    · rw [← exp_one]; exact exp_mono (by omega)
  have hE1 := (expN_bd hbi).1
  obtain ⟨x, ex, hx, x1, x2⟩ := sub_spec h hb
  obtain ⟨s, hs⟩ : ∃ s, s = 2 ^ (expN b - 1) := ⟨_, rfl⟩
  have hsp : 0 < s := by rw [hs]; exact Nat.two_pow_pos _
  have hDs : magN b - magN a < 9007199254740992 * 2 ^ (expN b - 1) := by omega
  have g1 : 2 ^ ((magN b - magN a).log2 - 52) ≤ s := by rw [hs]; exact Nat.pow_le_pow_right (by decide) (log_lt hDs).1
  have hD0 : magN b - magN a ≠ 0 := by omega
  have hx0 : 0 < magN x := by
    by_cases e0 : magN x = 0
    · rw [e0] at x2
      have l1 := Nat.log2_self_le hD0
      have l2 : 2 ^ ((magN b - magN a).log2 - 52) ≤ 2 ^ (magN b - magN a).log2 := Nat.pow_le_pow_right (by decide) (by omega)
      omega
    · omega
  have hxp : 0 < x := by
    by_cases e0 : x = 0
    · subst e0; revert hx0; decide
    · omega
  -- x lies below b's next binade
  have hxs : magN x < 9007199254740992 * 2 ^ (expN b - 1) + 2 ^ (expN b - 1) := by rw [← hs] at *; omega
  have hxe : expN x ≤ expN b + 1 := by
    by_cases hc : x < 4503599627370496
    · rw [expN_lo hc]; omega
    · have l1 : 4503599627370496 ≤ fullN x := by rw [fullN_hi hc]; omega
      have ex1 := (expN_bd hx).1
      by_cases hg : expN x ≤ expN b + 1
      · exact hg
      · exfalso
        have hp : 2 ^ (expN b + 1) ≤ 2 ^ (expN x - 1) := Nat.pow_le_pow_right (by decide) (by omega)
        have hq : 2 ^ (expN b + 1) = 4 * 2 ^ (expN b - 1) := by rw [show expN b + 1 = (expN b - 1) + 2 by omega, Nat.pow_add, Nat.mul_comm]
        have : 4503599627370496 * 2 ^ (expN b + 1) ≤ magN x := by
          unfold magN
          exact Nat.mul_le_mul l1 hp
        rw [hq] at this
        rw [← hs] at *
        omega
  obtain ⟨y, ey, hy, y1, y2⟩ := half_spec hx hxp (by omega)
  have hxs2 : magN x < 9007199254740992 * 2 ^ expN b := by
    have : 2 ^ expN b = 2 * 2 ^ (expN b - 1) := by rw [Nat.mul_comm, ← Nat.pow_succ, show (expN b - 1).succ = expN b by omega]
    rw [this, ← hs]
    rw [← hs] at hxs
    omega
  have g2 : 2 ^ ((magN x).log2 - 53) ≤ s := by
    rw [hs]
    refine Nat.pow_le_pow_right (by decide) ?_
    have : (magN x).log2 < 54 + (expN b - 1) := by
      refine (Nat.log2_lt (by omega)).2 ?_
      rw [Nat.pow_add]
      rw [← hs] at hxs ⊢
      have : (2 : Nat) ^ 54 = 18014398509481984 := by decide
      rw [this]
      omega
    omega
  have hXs : magN a + magN y < 9007199254740992 * 2 ^ expN b := by
    have : 2 ^ expN b = 2 * 2 ^ (expN b - 1) := by rw [Nat.mul_comm, ← Nat.pow_succ, show (expN b - 1).succ = expN b by omega]
    rw [this, ← hs]
    rw [← hs] at htb
    omega
  obtain ⟨m, em, hm, m1, m2⟩ := add_spec hai hy (e := expN b) (by omega) hXs
  have g3 : 2 ^ ((magN a + magN y).log2 - 52) ≤ 2 * s := by
    have : 2 * s = 2 ^ expN b := by rw [hs, Nat.mul_comm, ← Nat.pow_succ, show (expN b - 1).succ = expN b by omega]
    rw [this]
    exact Nat.pow_le_pow_right (by decide) (log_lt hXs).1
  refine ⟨x, y, m, ex, hx, ey, hy, em, hm, ?_, ?_⟩
  · rw [← hs]; omega
  · rw [← hs]; omega
theorem midN_eq {a b x y m : Nat} (e1 : double.sub b a = some x) (e2 : double.div x twoB = some y) (e3 : double.add a y = some m) : midN a b = m := by
  unfold midN
  rw [e1, Option.bind_some, e2, Option.bind_some, e3]
  rfl
end Go.Proofs.Ytfcdajkgopcmpaa
namespace Go.Proofs.Ytfcdajkgopcmpaa
open Ieee
def bigB : Nat := 4845873199050653696
theorem read_big : double.read bigB = .number false 4503599627370496 1 := by decide
theorem cvt_zero : cvtN 0 = 0 := by decide
theorem div_zero : double.div 0 bigB = some 0 := by decide +kernel
theorem rung_parts {E k : Nat} (h1 : 4503599627370496 ≤ k) (h2 : k < 9007199254740992) : fullN (E * 4503599627370496 + k) = k ∧ expN (E * 4503599627370496 + k) = E + 1 := by
  have e0 : ¬ E * 4503599627370496 + k < 4503599627370496 := by omega
  rw [fullN_hi e0, expN_hi e0]
  omega
theorem div_place {n : Nat} (hn : n < 9007199254740992) : ∃ r, double.div (cvtN n) bigB = some r ∧ r < oneB := by
  by_cases h0 : n = 0
  · subst h0
    exact ⟨0, by rw [cvt_zero]; exact div_zero, by decide⟩
  obtain ⟨k, e, k1, _, k3⟩ := cvt_shape h0 (by omega)
  have hk := k3 hn
  have hl : n.log2 < 53 := (Nat.log2_lt h0).2 hn
  have h2 : n < 2 ^ (n.log2 + 1) := Nat.lt_log2_self
  have b2 : k < 9007199254740992 := by
    rw [hk]
    calc n * 2 ^ (52 - n.log2) < 2 ^ (n.log2 + 1) * 2 ^ (52 - n.log2) := Nat.mul_lt_mul_of_pos_right h2 (Nat.two_pow_pos _)
      _ = 9007199254740992 := by rw [← Nat.pow_add, show n.log2 + 1 + (52 - n.log2) = 53 by omega]
  clear hk h2
  have hc : cvtN n < infR := by rw [e]; unfold infR; omega
  obtain ⟨f1, f2⟩ := rung_parts (E := n.log2 + 1022) k1 b2
  rw [← e] at f1 f2
  have hlog : k.log2 = 52 := by
    have u1 : k.log2 < 53 := (Nat.log2_lt (by omega)).2 (by omega)
    have u2 : 52 ≤ k.log2 := (Nat.le_log2 (by omega)).2 (by omega)
    omega
  obtain ⟨g1, g2⟩ := rung_parts (E := n.log2 + 969) k1 b2
  refine ⟨(n.log2 + 969) * 4503599627370496 + k, ?_, by unfold oneB; omega⟩
  unfold Format.div
  rw [read_pos hc, read_big, f1, f2]
  simp only [Datum.quotient]
  have hmore : double.fractionBits + 2 + (4503599627370496 : Nat).log2 - k.log2 = 54 := by rw [hlog, dbl_fb, show (4503599627370496 : Nat).log2 = 52 by decide]
  rw [if_neg (by decide), hmore]
  have hshift : k <<< 54 = (k * 4) * 4503599627370496 := by rw [Nat.shiftLeft_eq]; omega
  rw [hshift, Nat.mul_div_cancel _ (by decide), Nat.mul_mod_left]
  simp only [Option.map_some, Format.write, bne_self_eq_false, Bool.toNat_false, Nat.add_zero]
  have hr0 : 0 < (n.log2 + 969) * 4503599627370496 + k := by omega
  have hri : (n.log2 + 969) * 4503599627370496 + k < infR := by unfold infR; omega
  have := nearest_exact (r := (n.log2 + 969) * 4503599627370496 + k) (mag := 2 * (k * 4)) (a := 0) (b := 3) (place := ((n.log2 + 1022 + 1 : Nat) : Int) - 1075 - 1 - ((54 : Nat) : Int) - 1) hr0 hri (by rw [g1]; omega) (by rw [g2]; omega) false
  rw [word_false] at this
  exact congrArg some this
/-- The place of a hash. -/
def placeN (h : Int) : Nat := (double.div (cvtN (h / 2048).toNat) bigB).getD 0
theorem place_spec {h : Int} (_ : 0 ≤ h) (h2 : h < 18446744073709551616) : double.div (cvtN (h / 2048).toNat) bigB = some (placeN h) ∧ placeN h < oneB := by
  obtain ⟨r, e, hr⟩ := div_place (n := (h / 2048).toNat) (by omega)
  have : placeN h = r := by unfold placeN; rw [e]; rfl
  rw [this]
  exact ⟨e, hr⟩
end Go.Proofs.Ytfcdajkgopcmpaa
