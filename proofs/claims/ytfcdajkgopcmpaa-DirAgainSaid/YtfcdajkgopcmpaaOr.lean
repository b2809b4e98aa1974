/- How any float stands to a finite one that is not negative. Conditions: bits below 2^64. -/
import Derived.Test.YtfcdajkgopcmpaaE
namespace Go.Proofs.Ytfcdajkgopcmpaa
open Ieee
theorem ord_inf {c : Nat} (hc : c < infR) : double.order infR c = some .gt := by
  unfold Format.order
  have e : double.read infR = .infinity false := by decide
  rw [e, read_pos hc]
  rfl
theorem ord_nan {b c : Nat} (h : nanB b = true) : double.order b c = none := by
  unfold Format.order
  have hn : (double.read b).isNaN = true := by rw [read_nan_iff]; exact h
  cases hr : double.read b with
  | number s m p => rw [hr] at hn; cases hn
  | infinity s => rw [hr] at hn; cases hn
  | nan s f => rfl
theorem ord_neg {r c : Nat} (hr : r ≤ infR) (hc : c < infR) (h : ¬ (r = 0 ∧ c = 0)) : double.order (9223372036854775808 + r) c = some .lt := by
  unfold Format.order
  by_cases hi : r = infR
  · have e : double.read (9223372036854775808 + infR) = .infinity true := by decide
    rw [hi, e, read_pos hc]
    rfl
  · rw [read_neg (by omega), read_pos hc]
    simp only [Datum.order, signed_pos, signed_neg]
    generalize ((expN r : Int) - 1075 - min ((expN r : Int) - 1075) ((expN c : Int) - 1075)).toNat = i
    generalize ((expN c : Int) - 1075 - min ((expN r : Int) - 1075) ((expN c : Int) - 1075)).toNat = j
    have p1 := Nat.two_pow_pos i
    have p2 := Nat.two_pow_pos j
    have hpos : 0 < fullN r * 2 ^ i + fullN c * 2 ^ j := by
      by_cases h0 : r = 0
      · have hc0 : 0 < c := by omega
        have := Nat.mul_pos (Nat.pos_of_ne_zero (fullN_bd hc0).1) p2
        omega
      · have := Nat.mul_pos (Nat.pos_of_ne_zero (fullN_bd (m := r) (by omega)).1) p1
        omega
    rw [cmp_lt (by omega)]
theorem ord_neg0 : double.order 9223372036854775808 0 = some .eq := by decide
/-- Of any float: it is a point, above one, no number, minus nought, or below nought. -/
theorem float_ways {b : Nat} (hb : b < 18446744073709551616) :
    (b = 0 ∧ double.order b 0 = some .eq ∧ double.order b oneB = some .lt) ∨
    (0 < b ∧ b < oneB ∧ double.order b 0 = some .gt ∧ double.order b oneB = some .lt) ∨
    (b = oneB ∧ double.order b 0 = some .gt ∧ double.order b oneB = some .eq) ∨
    (oneB < b ∧ b < 9223372036854775808 ∧ double.order b 0 = some .gt ∧ double.order b oneB = some .gt) ∨
    (oneB < b ∧ double.order b 0 = none ∧ double.order b oneB = none) ∨
    (b = 9223372036854775808 ∧ double.order b 0 = some .eq ∧ double.order b oneB = some .lt) ∨
    (9223372036854775808 < b ∧ double.order b 0 = some .lt ∧ double.order b oneB = some .lt) := by
  have h0 : (0 : Nat) < infR := by decide
  have h1 : oneB < infR := by decide
  have hiv : infR = 9218868437227405312 := rfl
  have hov : oneB = 4607182418800017408 := rfl
  cases hn : nanB b
  case true =>
    have : oneB < b := by
      unfold nanB at hn
      have := of_decide_eq_true hn
      omega
    exact .inr (.inr (.inr (.inr (.inl ⟨this, ord_nan hn, ord_nan hn⟩))))
  have hnn : b % 9223372036854775808 ≤ infR := by
    unfold nanB at hn
    have := of_decide_eq_false hn
    omega
  by_cases hs : b < 9223372036854775808
  · by_cases hi : b = infR
    · subst hi
      exact .inr (.inr (.inr (.inl ⟨h1, by omega, ord_inf h0, ord_inf h1⟩)))
    have hbi : b < infR := by omega
    rw [order_pos hbi h0, order_pos hbi h1]
    by_cases e0 : b = 0
    · subst e0; exact .inl ⟨rfl, rfl, rfl⟩
    rw [if_neg (by omega), if_pos (by omega)]
    by_cases e1 : b < oneB
    · rw [if_pos e1]; exact .inr (.inl ⟨by omega, e1, rfl, rfl⟩)
    rw [if_neg e1]
    by_cases e2 : b = oneB
    · rw [if_neg (by omega)]; exact .inr (.inr (.inl ⟨e2, rfl, rfl⟩))
    · rw [if_pos (by omega)]; exact .inr (.inr (.inr (.inl ⟨by omega, hs, rfl, rfl⟩)))
  · obtain ⟨r, rfl⟩ : ∃ r, b = 9223372036854775808 + r := ⟨b - 9223372036854775808, by omega⟩
    by_cases e0 : r = 0
    · subst e0
      exact .inr (.inr (.inr (.inr (.inr (.inl ⟨rfl, ord_neg0, ord_neg (by omega) h1 (by omega)⟩)))))
    · exact .inr (.inr (.inr (.inr (.inr (.inr ⟨by omega, ord_neg (by omega) h0 (by omega), ord_neg (by omega) h1 (by omega)⟩)))))
end Go.Proofs.Ytfcdajkgopcmpaa
