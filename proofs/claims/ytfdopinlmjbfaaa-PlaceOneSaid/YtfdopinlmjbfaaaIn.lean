/- In which ranges a float lies: by a key in the floats' order. Conditions: bits below 2^64. -/
import Derived.Test.YtfdopinlmjbfaaaSp
namespace Go.Proofs.Ytfdopinlmjbfaaa
open Go.RowKit
theorem key_ways {y : Nat} (hy : y < 18446744073709551616) : (∀ t, t < infR → FloatKind.f64.format.order y t = none) ∨ ∃ κ : Int, (∀ t : Nat, t < infR → FloatKind.f64.format.order y t = some (if κ < (t : Int) then .lt else if (t : Int) < κ then .gt else .eq)) ∧ (y < infR → κ = (y : Int)) := by
  have hiv : infR = 9218868437227405312 := rfl
  cases hn : nanB y
  case true => exact .inl fun t _ => ord_nan hn
  right
  have hnn : y % 9223372036854775808 ≤ infR := by
    unfold nanB at hn
    have := of_decide_eq_false hn
    omega
  by_cases hs : y < 9223372036854775808
  · by_cases hi : y = infR
    · subst hi
      refine ⟨infR, fun t ht => ?_, fun h => absurd h (by omega)⟩
      rw [if_neg (by omega), if_pos (by omega)]
      exact ord_inf ht
    · refine ⟨y, fun t ht => ?_, fun _ => rfl⟩
      have := order_pos (r := y) (q := t) (by omega) ht
      refine this.trans ?_
      by_cases h1 : y < t
      · rw [if_pos h1, if_pos (by omega)]
      · by_cases h2 : t < y
        · rw [if_neg h1, if_pos h2, if_neg (by omega), if_pos (by omega)]
        · rw [if_neg h1, if_neg h2, if_neg (by omega), if_neg (by omega)]
  · obtain ⟨r, rfl⟩ : ∃ r, y = 9223372036854775808 + r := ⟨y - 9223372036854775808, by omega⟩
    by_cases e0 : r = 0
    · subst e0
      refine ⟨0, fun t ht => ?_, fun h => absurd h (by omega)⟩
      by_cases h1 : t = 0
      · subst h1
        exact ord_neg0
      · rw [if_pos (by omega)]
        exact ord_neg (by omega) ht (by omega)
    · refine ⟨-1, fun t ht => ?_, fun h => absurd h (by omega)⟩
      rw [if_pos (by omega)]
      exact ord_neg (by omega) ht (by omega)
def keyIn (o : Option Int) (r : RV) : Bool := match o with | none => false | some κ => decide ((r.lo : Int) ≤ κ) && decide (κ < (r.hi : Int))
theorem in_key {y : Nat} (hy : y < 18446744073709551616) : ∃ o : Option Int, (∀ r : RV, r.lo < infR → r.hi < infR → inV r y = keyIn o r) ∧ (y < infR → o = some (y : Int)) := by
  rcases key_ways hy with h | ⟨κ, h, h2⟩
  · refine ⟨none, fun r h1 h3 => ?_, fun hf => ?_⟩
    · unfold inV keyIn
      rw [h _ h1]
      rfl
    · have := h y hf
      have e : Ieee.double.order y y = some .eq := by
        rw [order_pos hf hf, if_neg (by omega), if_neg (by omega)]
      exact absurd (this.symm.trans e) (by simp)
  · refine ⟨some κ, fun r h1 h3 => ?_, fun hf => by rw [h2 hf]⟩
    unfold inV keyIn
    rw [h _ h1, h _ h3]
    simp only
    by_cases g1 : κ < (r.lo : Int)
    · rw [if_pos g1, decide_eq_false (by omega)]; rfl
    · rw [if_neg g1, decide_eq_true (by omega : (r.lo : Int) ≤ κ), Bool.true_and]
      by_cases g2 : κ < (r.hi : Int)
      · rw [if_pos g2, decide_eq_true g2]
        by_cases g3 : (r.lo : Int) < κ
        · rw [if_pos g3]; rfl
        · rw [if_neg g3]; rfl
      · rw [if_neg g2, decide_eq_false g2]
        by_cases g3 : (r.lo : Int) < κ
        · rw [if_pos g3]; by_cases g4 : (r.hi : Int) < κ
          · rw [if_pos g4]; rfl
          · rw [if_neg g4]; rfl
        · rw [if_neg g3]; by_cases g4 : (r.hi : Int) < κ
          · rw [if_pos g4]; rfl
          · rw [if_neg g4]; rfl
/-- A range is its two halves. -/
theorem in_halves {y : Nat} (hy : y < 18446744073709551616) {i e j f : Int} {lo x hi : Nat} (h1 : lo < x) (h2 : x < hi) (hh : hi < infR) :
    inV ⟨i, e, lo, hi⟩ y = (inV ⟨i, e + 1, lo, x⟩ y != inV ⟨j, f, x, hi⟩ y) ∧ (inV ⟨i, e, lo, hi⟩ y = false → inV ⟨i, e + 1, lo, x⟩ y = false ∧ inV ⟨j, f, x, hi⟩ y = false) := by
  obtain ⟨o, ho, _⟩ := in_key hy
  rw [ho ⟨i, e, lo, hi⟩ (by simp only; omega) hh, ho ⟨i, e + 1, lo, x⟩ (by simp only; omega) (by simp only; omega), ho ⟨j, f, x, hi⟩ (by simp only; omega) hh]
  cases o with
  | none => exact ⟨rfl, fun _ => ⟨rfl, rfl⟩⟩
  | some κ =>
    unfold keyIn
    simp only
    by_cases g1 : (lo : Int) ≤ κ
    · by_cases g2 : κ < (hi : Int)
      · by_cases g3 : κ < (x : Int)
        · rw [decide_eq_true g1, decide_eq_true g2, decide_eq_true g3, decide_eq_false (by omega : ¬ (x : Int) ≤ κ)]; simp
        · rw [decide_eq_true g1, decide_eq_true g2, decide_eq_false g3, decide_eq_true (by omega : (x : Int) ≤ κ)]; simp
      · rw [decide_eq_true g1, decide_eq_false g2, decide_eq_false (by omega : ¬ κ < (x : Int))]; simp
    · rw [decide_eq_false g1, decide_eq_false (by omega : ¬ (x : Int) ≤ κ)]; simp
theorem split_ways (r : RV) (x : Nat) (c : Int) : ((splitV r x c).1 = RV.zero ∧ (splitV r x c).2.1 = RV.zero ∧ (splitV r x c).2.2 ≠ 0) ∨
    (okSplit r x c = true ∧ betB r.lo x r.hi = true ∧ splitV r x c = (⟨r.i, r.e + 1, r.lo, x⟩, ⟨c, 0, x, r.hi⟩, 0)) := by
  unfold splitV
  by_cases h1 : okSplit r x c = true
  · rw [if_pos h1]
    by_cases h2 : betB r.lo x r.hi = true
    · rw [if_pos h2]; exact .inr ⟨h1, h2, rfl⟩
    · rw [if_neg h2]; exact .inl ⟨rfl, rfl, by decide⟩
  · rw [if_neg h1]; exact .inl ⟨rfl, rfl, by decide⟩
theorem split_pts {r : RV} {x : Nat} {c : Int} (h1 : okSplit r x c = true) (h2 : betB r.lo x r.hi = true) : mayV r = true ∧ r.e ≠ 9223372036854775807 ∧ idB c = true ∧ c ≠ r.i ∧ ptB x = true ∧ r.lo < x ∧ x < r.hi := by
  unfold okSplit at h1
  unfold betB at h2
  simp only [Bool.and_eq_true, Bool.not_eq_true', beq_eq_false_iff_ne, decide_eq_true_eq] at h1 h2
  exact ⟨h1.1, h1.2.1, h1.2.2.1, h1.2.2.2.1, h1.2.2.2.2, h2.1, h2.2⟩
end Go.Proofs.Ytfdopinlmjbfaaa
