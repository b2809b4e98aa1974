/- Stamps in order: the order's laws, the stamp ahead, the later one, in plain terms. Conditions: none. -/
import Derived.Test.YtmpokhjchbaleaaDoorG
namespace Go.Proofs.YtmpokhjchbaleaaDoor
open Go.RowKit
theorem cmpI_lt {x y : Int} : cmpI x y < 0 ↔ x < y := by
  unfold cmpI
  split
  · omega
  · split <;> omega
theorem cmpI_neg (x y : Int) : cmpI x y = -cmpI y x := by
  unfold cmpI
  split <;> split <;> (try split) <;> omega
theorem cmpI_le (x y : Int) : -1 ≤ cmpI x y ∧ cmpI x y ≤ 1 := by
  unfold cmpI
  split
  · omega
  · split <;> omega
theorem cmpS_lt {a b : St} : cmpS a b < 0 ↔ a.w < b.w ∨ (a.w = b.w ∧ (a.l < b.l ∨ (a.l = b.l ∧ a.n < b.n))) := by
  unfold cmpS
  split
  · rw [cmpI_lt]; omega
  · split
    · rw [cmpI_lt]; omega
    · rw [cmpI_lt]; omega
theorem cmpS_neg (a b : St) : cmpS a b = -cmpS b a := by
  unfold cmpS
  by_cases h1 : a.w = b.w
  · have e1 : ¬ a.w ≠ b.w := fun h => h h1
    have e2 : ¬ b.w ≠ a.w := fun h => h h1.symm
    rw [if_neg e1, if_neg e2]
    by_cases h2 : a.l = b.l
    · have e3 : ¬ a.l ≠ b.l := fun h => h h2
      have e4 : ¬ b.l ≠ a.l := fun h => h h2.symm
      rw [if_neg e3, if_neg e4]
      exact cmpI_neg _ _
    · have e3 : a.l ≠ b.l := h2
      have e4 : b.l ≠ a.l := fun e => h2 e.symm
      rw [if_pos e3, if_pos e4]
      exact cmpI_neg _ _
  · have e3 : a.w ≠ b.w := h1
    have e4 : b.w ≠ a.w := fun e => h1 e.symm
    rw [if_pos e3, if_pos e4]
    exact cmpI_neg _ _
theorem cmpS_zero (a b : St) : cmpS a b = 0 ↔ a = b := by
  have h1 := @cmpS_lt a b
  have h2 := @cmpS_lt b a
  have h3 := cmpS_neg a b
  obtain ⟨a1, a2, a3⟩ := a
  obtain ⟨b1, b2, b3⟩ := b
  simp only [St.mk.injEq] at *
  omega
theorem cmpS_le (a b : St) : -1 ≤ cmpS a b ∧ cmpS a b ≤ 1 := by
  unfold cmpS
  split
  · exact cmpI_le _ _
  · split
    · exact cmpI_le _ _
    · exact cmpI_le _ _
theorem prior_ok (a : St) : (priorS a).2 = (mayS a && !decide (a = St.zero)) := by
  unfold priorS
  by_cases hm : mayS a = true
  · have hr := mayS_iff.1 hm
    rw [if_neg (by rw [hm]; decide), hm, Bool.true_and]
    by_cases hz : a = St.zero
    · subst hz; decide
    · rw [decide_eq_false hz]
      split
      · rfl
      · split
        · rfl
        · split
          · rfl
          · exfalso; apply hz; obtain ⟨a1, a2, a3⟩ := a; simp only at *; unfold St.zero; congr <;> omega
  · rw [if_pos (by simpa using hm)]
    rw [Bool.not_eq_true] at hm
    rw [hm]; rfl
theorem prior_lt {a : St} (h : (priorS a).2 = true) : cmpS (priorS a).1 a < 0 ∧ mayS (priorS a).1 = true := by
  rw [cmpS_lt, mayS_iff]
  have h2 := prior_ok a
  rw [h] at h2
  have hm : mayS a = true := by cases e : mayS a with | true => rfl | false => rw [e] at h2; cases h2
  have hr := mayS_iff.1 hm
  have h' := h
  unfold priorS at h' ⊢
  rw [if_neg (by rw [hm]; decide)] at h' ⊢
  split at h'
  · rename_i e; rw [if_pos e]; first | (simp only; omega) | (simp; omega)
  · rename_i e; rw [if_neg e]
    split at h'
    · rename_i e; rw [if_pos e]; first | (simp only; omega) | (simp; omega)
    · rename_i e; rw [if_neg e]
      split at h'
      · rename_i e; rw [if_pos e]; first | (simp only; omega) | (simp; omega)
      · cases h'
theorem prior_next {a b : St} (h : (priorS a).2 = true) (hb : mayS b = true) (h1 : cmpS (priorS a).1 b < 0) : ¬ cmpS b a < 0 := by
  rw [cmpS_lt] at h1 ⊢
  have h2 := prior_ok a
  rw [h] at h2
  have hm : mayS a = true := by cases e : mayS a with | true => rfl | false => rw [e] at h2; cases h2
  have hr := mayS_iff.1 hm
  have hrb := mayS_iff.1 hb
  have h' := h
  unfold priorS at h' h1
  rw [if_neg (by rw [hm]; decide)] at h' h1
  split at h'
  · rename_i e; rw [if_pos e] at h1; simp only at h1; omega
  · rename_i e; rw [if_neg e] at h1
    split at h'
    · rename_i e; rw [if_pos e] at h1; simp only at h1; omega
    · rename_i e; rw [if_neg e] at h1
      split at h'
      · rename_i e; rw [if_pos e] at h1; simp only at h1; omega
      · cases h'
theorem cmpS_self (a : St) : cmpS a a = 0 := (cmpS_zero a a).2 rfl
theorem later_is (a b : St) : (laterS a b = a ∨ laterS a b = b) ∧ 0 ≤ cmpS (laterS a b) a ∧ 0 ≤ cmpS (laterS a b) b := by
  have h3 := cmpS_neg a b
  unfold laterS lessS
  split
  · rename_i h
    have h := of_decide_eq_true h
    exact ⟨.inr rfl, by omega, by rw [cmpS_self]; omega⟩
  · rename_i h
    have h : ¬ cmpS a b < 0 := fun e => h (decide_eq_true e)
    exact ⟨.inl rfl, by rw [cmpS_self]; omega, by omega⟩
end Go.Proofs.YtmpokhjchbaleaaDoor
