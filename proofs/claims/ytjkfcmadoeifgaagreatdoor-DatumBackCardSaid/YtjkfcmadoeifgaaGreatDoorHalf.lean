/- What floats give when they are added turned round, taken from themselves, multiplied and divided by one. Conditions: bits below 2^64. -/
import Derived.Test.YtjkfcmadoeifgaaGreatDoorP
import Derived.Test.YtjkfcmadoeifgaaGreatDoorHelp
import Derived.Test.YtjkfcmadoeifgaaGreatDoorO
namespace Go.Proofs.YtjkfcmadoeifgaaGreatDoor
open Ieee

theorem sum_comm (d e : Datum) : d.sum e = e.sum d := by
  cases d <;> cases e <;> simp only [Datum.sum]
  · rename_i s m i t n j
    rw [Int.min_comm i j, Int.add_comm, Bool.and_comm]
  · rename_i s t
    by_cases h : s = t
    · rw [if_pos h, if_pos h.symm, h]
    · rw [if_neg h, if_neg (Ne.symm h)]
theorem product_comm (d e : Datum) : d.product e = e.product d := by
  cases d <;> cases e <;> simp only [Datum.product]
  · rename_i s m i t n j
    rw [Bool.xor_comm, Nat.mul_comm, Int.add_comm]
  · rename_i s t
    rw [Bool.xor_comm]
theorem add_comm' (a b : Nat) : double.add a b = double.add b a := by unfold Format.add; rw [sum_comm]
theorem mul_comm' (a b : Nat) : double.mul a b = double.mul b a := by unfold Format.mul; rw [product_comm]

/-- A word, its sign and its lower bits. -/
theorem word_split {a : Nat} (h : a < 18446744073709551616) : a = double.word (a / 9223372036854775808 % 2 == 1) (a % 9223372036854775808) := by
  by_cases hs : a < 9223372036854775808
  · have e : a / 9223372036854775808 % 2 = 0 := by omega
    have e2 : a % 9223372036854775808 = a := by omega
    rw [e, e2]; rfl
  · have e : a / 9223372036854775808 % 2 = 1 := by omega
    rw [e, show ((1 : Nat) == 1) = true from rfl, word_true]; omega
theorem read_word {r : Nat} (neg : Bool) (h : r < infR) : double.read (double.word neg r) = .number neg (fullN r) ((expN r : Int) - 1075) := by
  cases neg
  · rw [word_false]; exact read_pos h
  · rw [word_true]; exact read_neg h
theorem read_inf (neg : Bool) : double.read (double.word neg infR) = .infinity neg := by cases neg <;> decide
theorem read_nanB {a : Nat} (h : nanB a = true) : ∃ s t, double.read a = .nan s t := by
  have := read_nan_iff a
  rw [h] at this
  cases hr : double.read a <;> rw [hr] at this <;> simp [Datum.isNaN] at this
  exact ⟨_, _, rfl⟩
theorem full_zero : fullN 0 = 0 := by decide
theorem full_ne {r : Nat} (h : r ≠ 0) : fullN r ≠ 0 := (fullN_bd (by omega)).1
theorem write_zero (s : Bool) (p : Int) : double.write (.number s 0 p) = double.word s 0 := by
  show double.nearest s 0 p = _
  unfold Format.nearest; rw [if_pos rfl]

/-- A number, taken from itself. -/
theorem sub_self_fin {r : Nat} (neg : Bool) (h : r < infR) : double.sub (double.word neg r) (double.word neg r) = some 0 := by
  unfold Format.sub
  rw [read_word neg h]
  simp only [Datum.opposite, Datum.sum]
  have e : min ((expN r : Int) - 1075) ((expN r : Int) - 1075) = (expN r : Int) - 1075 := by omega
  rw [e, Int.sub_self, show (0 : Int).toNat = 0 from rfl]
  have e2 : signed neg (fullN r) 0 + signed (!neg) (fullN r) 0 = 0 := by
    cases neg
    · rw [show (!false) = true from rfl, signed_pos, signed_neg]; omega
    · rw [show (!true) = false from rfl, signed_pos, signed_neg]; omega
  rw [e2]
  simp only [if_true]
  rw [show (neg && !neg) = false by cases neg <;> rfl, show Int.natAbs 0 = 0 from rfl, Option.map_some, write_zero]; rfl
theorem sub_self_inf (neg : Bool) : double.sub (double.word neg infR) (double.word neg infR) = none := by
  unfold Format.sub
  rw [read_inf]
  cases neg <;> rfl
theorem sub_nan {a b : Nat} (h : nanB a = true) : double.sub a b = none := by
  obtain ⟨s, t, hr⟩ := read_nanB h
  unfold Format.sub
  rw [hr]; rfl

theorem mul_one_fin {r : Nat} (neg : Bool) (h : r < infR) : double.mul (double.word neg r) oneB = some (double.word neg r) := by
  unfold Format.mul
  rw [read_word neg h, read_one]
  simp only [Datum.product, Option.map_some, Bool.xor_false]
  by_cases h0 : r = 0
  · subst h0
    rw [full_zero, Nat.zero_mul, write_zero]
  · simp only [Format.write]
    rw [nearest_exact (r := r) (a := 0) (b := 52) (by omega) h (by rw [Nat.pow_zero, Nat.mul_one]) (by omega)]
theorem mul_one_inf (neg : Bool) : double.mul (double.word neg infR) oneB = some (double.word neg infR) := by
  unfold Format.mul
  rw [read_inf, read_one]
  simp only [Datum.product]
  rw [if_neg (by decide), Option.map_some, Bool.xor_false]
  simp only [Format.write]
  rw [dbl_inf]
theorem mul_nan {a b : Nat} (h : nanB a = true) : double.mul a b = none := by
  obtain ⟨s, t, hr⟩ := read_nanB h
  unfold Format.mul
  rw [hr]; rfl
theorem log2_52 : (4503599627370496 : Nat).log2 = 52 := by decide +kernel
theorem div_one_fin {r : Nat} (neg : Bool) (h : r < infR) : double.div (double.word neg r) oneB = some (double.word neg r) := by
  unfold Format.div
  rw [read_word neg h, read_one]
  simp only [Datum.quotient, dbl_fb]
  rw [if_neg (by decide), Option.map_some, Bool.xor_false, log2_52]
  by_cases h0 : r = 0
  · subst h0
    have e : 2 * (fullN 0 <<< (52 + 2 + 52 - (fullN 0).log2) / 4503599627370496) + (fullN 0 <<< (52 + 2 + 52 - (fullN 0).log2) % 4503599627370496 != 0).toNat = 0 := by
      rw [full_zero, Nat.zero_shiftLeft]; rfl
    rw [e, write_zero]
  · have hl : (fullN r).log2 < 53 := (Nat.log2_lt (full_ne h0)).2 (full_lt)
    obtain ⟨k, hk⟩ : ∃ k, 52 + 2 + 52 - (fullN r).log2 = k + 52 := ⟨54 - (fullN r).log2, by omega⟩
    rw [hk]
    have e1 : fullN r <<< (k + 52) / 4503599627370496 = fullN r * 2 ^ k := by
      rw [Nat.shiftLeft_eq, Nat.pow_add, ← Nat.mul_assoc]
      exact Nat.mul_div_cancel _ (by decide)
    have e2 : fullN r <<< (k + 52) % 4503599627370496 = 0 := by
      rw [Nat.shiftLeft_eq, Nat.pow_add, ← Nat.mul_assoc]
      exact Nat.mul_mod_left _ _
    rw [e1, e2]
    simp only [Format.write]
    rw [show ((0 : Nat) != 0).toNat = 0 from rfl, Nat.add_zero]
    rw [nearest_exact (r := r) (a := 0) (b := k + 1) (by omega) h (by rw [Nat.pow_zero, Nat.mul_one, Nat.pow_succ, Nat.mul_comm 2, Nat.mul_assoc]) (by omega)]
theorem div_one_inf (neg : Bool) : double.div (double.word neg infR) oneB = some (double.word neg infR) := by
  unfold Format.div
  rw [read_inf, read_one]
  simp only [Datum.quotient, Option.map_some, Bool.xor_false, Format.write]
  rw [dbl_inf]
theorem div_nan {a b : Nat} (h : nanB a = true) : double.div a b = none := by
  obtain ⟨s, t, hr⟩ := read_nanB h
  unfold Format.div
  rw [hr]; rfl

/-- A float is NaN, or infinite, or finite. -/
theorem kinds {a : Nat} (h : a < 18446744073709551616) : nanB a = true ∨ (nanB a = false ∧ ∃ neg, a = double.word neg infR) ∨ (nanB a = false ∧ ∃ neg r, r < infR ∧ a = double.word neg r) := by
  cases hn : nanB a
  · right
    have hb : ¬ infR < a % 9223372036854775808 := by simpa [nanB] using hn
    by_cases hi : a % 9223372036854775808 = infR
    · left; refine ⟨rfl, (a / 9223372036854775808 % 2 == 1), ?_⟩; rw [← hi]; exact word_split h
    · right; exact ⟨rfl, _, _, by omega, word_split h⟩
  · exact .inl rfl
theorem mul_one_res {a : Nat} (h : a < 18446744073709551616) : resN (double.mul a oneB) = canon a := by
  rcases kinds h with hn | ⟨hn, neg, rfl⟩ | ⟨hn, neg, r, hr, rfl⟩
  · rw [mul_nan hn, canon_nan hn, resN_none]
  · rw [mul_one_inf, resN_some]
  · rw [mul_one_fin neg hr, resN_some]
theorem div_one_res {a : Nat} (h : a < 18446744073709551616) : resN (double.div a oneB) = canon a := by
  rcases kinds h with hn | ⟨hn, neg, rfl⟩ | ⟨hn, neg, r, hr, rfl⟩
  · rw [div_nan hn, canon_nan hn, resN_none]
  · rw [div_one_inf, resN_some]
  · rw [div_one_fin neg hr, resN_some]
theorem canon_res (o : Option Nat) : canon (resN o) = resN o := by
  cases o
  · exact canon_one
  · rw [resN_some, canon_canon]
theorem word_lo {neg : Bool} {r : Nat} (h : r < infR) : double.word neg r % 9223372036854775808 = r := by
  unfold infR at h
  cases neg
  · rw [word_false]; omega
  · rw [word_true]; omega
/-- What is taken from itself: nought, or NaN at the edges. -/
theorem sub_self_res {a : Nat} (h : a < 18446744073709551616) : (resN (double.sub a a) = 0 ∧ clsN a ≠ 0 ∧ clsN a ≠ 1 ∧ clsN a ≠ 8) ∨ (resN (double.sub a a) = oneNaN ∧ (clsN a = 0 ∨ clsN a = 1 ∨ clsN a = 8)) := by
  rcases kinds h with hn | ⟨hn, neg, rfl⟩ | ⟨hn, neg, r, hr, rfl⟩
  · right; rw [sub_nan hn]; exact ⟨rfl, .inl (cls_nan hn)⟩
  · right; rw [sub_self_inf]; refine ⟨rfl, .inr ?_⟩
    cases neg
    · exact .inr (by decide)
    · exact .inl (by decide)
  · left; rw [sub_self_fin neg hr, resN_some]
    refine ⟨by decide, ?_⟩
    have hd : distN (double.word neg r % 9223372036854775808) ≤ 2 := by
      rw [word_lo hr]
      by_cases c0 : r = 0
      · rw [distN_0 c0]; omega
      · by_cases c1 : r < 4503599627370496
        · rw [distN_1 c0 c1]; omega
        · rw [distN_2 c1 hr]; omega
    by_cases hs : double.word neg r < 9223372036854775808
    · have := clsN_pos hn hs; omega
    · have := clsN_neg hn hs; omega
end Go.Proofs.YtjkfcmadoeifgaaGreatDoor
