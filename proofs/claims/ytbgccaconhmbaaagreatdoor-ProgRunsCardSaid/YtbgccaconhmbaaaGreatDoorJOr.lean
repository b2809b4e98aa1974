/- The order of values: turned round, through. What is quoted comes back. Conditions: none. -/
import Derived.Test.YtbgccaconhmbaaaGreatDoorJVc
import Derived.Test.YtbgccaconhmbaaaGreatDoorJQu
import Derived.Test.YtbgccaconhmbaaaGreatDoorJUq
namespace Go.Proofs.YtbgccaconhmbaaaGreatDoor
theorem cb_turn : ∀ s t : List UInt8, Lib.compareBytes t s = -Lib.compareBytes s t := by
  intro s
  induction s with
  | nil => intro t; cases t <;> rfl
  | cons a r ih =>
    intro t
    cases t with
    | nil => rfl
    | cons b u =>
      simp only [Lib.compareBytes]
      by_cases h1 : a < b
      · have h2 : ¬ b < a := fun h => absurd (UInt8.lt_trans h1 h) (UInt8.lt_irrefl _)
        rw [if_neg h2, if_pos h1, if_pos h1]
        rfl
      · by_cases h2 : b < a
        · rw [if_pos h2, if_neg h1, if_pos h2]
        · rw [if_neg h2, if_neg h1, if_neg h1, if_neg h2, ih u]
theorem cb_self (s : List UInt8) : Lib.compareBytes s s = 0 := by
  have := cb_turn s s
  omega
theorem cb_eq : ∀ s t : List UInt8, Lib.compareBytes s t = 0 → s = t := by
  intro s
  induction s with
  | nil => intro t h; cases t with | nil => rfl | cons => simp [Lib.compareBytes] at h
  | cons a r ih =>
    intro t h
    cases t with
    | nil => simp [Lib.compareBytes] at h
    | cons b u =>
      simp only [Lib.compareBytes] at h
      split at h
      · omega
      · rename_i h1
        split at h
        · omega
        · rename_i h2
          have e : a = b := UInt8.le_antisymm (UInt8.not_lt.1 h2) (UInt8.not_lt.1 h1)
          rw [e, ih u h]
theorem cb_through : ∀ s t u : List UInt8, Lib.compareBytes s t ≤ 0 → Lib.compareBytes t u ≤ 0 → Lib.compareBytes s u ≤ 0 := by
  intro s
  induction s with
  | nil => intro t u _ _; cases u <;> simp [Lib.compareBytes]
  | cons a r ih =>
    intro t u h1 h2
    cases t with
    | nil => simp [Lib.compareBytes] at h1
    | cons b t =>
      cases u with
      | nil => simp [Lib.compareBytes] at h2
      | cons c u =>
        simp only [Lib.compareBytes] at h1 h2 ⊢
        by_cases ab : a < b
        · by_cases bc : b < c
          · rw [if_pos (UInt8.lt_trans ab bc)]; decide
          · rw [if_neg bc] at h2
            by_cases cb : c < b
            · rw [if_pos cb] at h2; omega
            · have e : b = c := UInt8.le_antisymm (UInt8.not_lt.1 cb) (UInt8.not_lt.1 bc)
              subst e
              rw [if_pos ab]; decide
        · rw [if_neg ab] at h1
          by_cases ba : b < a
          · rw [if_pos ba] at h1; omega
          · rw [if_neg ba] at h1
            have e : a = b := UInt8.le_antisymm (UInt8.not_lt.1 ba) (UInt8.not_lt.1 ab)
            subst e
            by_cases ac : a < c
            · rw [if_pos ac]; decide
            · rw [if_neg ac] at h2 ⊢
              by_cases ca : c < a
              · rw [if_pos ca] at h2; omega
              · rw [if_neg ca] at h2 ⊢
                exact ih t u h1 h2
theorem ci_turn (x y : Int) : Lib.compareInt y x = -Lib.compareInt x y := by
  unfold Lib.compareInt
  repeat' split
  all_goals omega
theorem cn_val (x y : Nat) : cmpN x y = if x < y then -1 else if y < x then 1 else 0 := by
  unfold cmpN
  by_cases h : x < y
  · rw [decide_eq_true h, if_pos h]; rfl
  · rw [decide_eq_false h, if_neg h]
    by_cases h2 : y < x
    · rw [decide_eq_true h2, if_pos h2]; rfl
    · rw [decide_eq_false h2, if_neg h2]; rfl
theorem cn_turn (x y : Nat) : cmpN y x = -cmpN x y := by
  rw [cn_val, cn_val]
  repeat' split
  all_goals omega
theorem compV_turn (a b : DV) : compV b a = -compV a b := by
  unfold compV
  by_cases h : mayV a = true ∧ mayV b = true
  · rw [if_pos h, if_pos ⟨h.2, h.1⟩]
    by_cases hk : a.k = b.k
    · rw [if_neg (show ¬ b.k ≠ a.k from fun e => e hk.symm), if_neg (show ¬ a.k ≠ b.k from fun e => e hk), hk]
      by_cases h1 : b.k = 1
      · rw [if_pos h1, if_pos h1]
        exact cn_turn _ _
      · rw [if_neg h1, if_neg h1]
        by_cases h2 : b.k = 2
        · rw [if_pos h2, if_pos h2]
          exact cb_turn _ _
        · rw [if_neg h2, if_neg h2]
          rfl
    · rw [if_pos hk, if_pos (fun e => hk e.symm)]
      exact ci_turn _ _
  · rw [if_neg h, if_neg (fun e => h ⟨e.2, e.1⟩)]
    rfl
theorem compV_self (a : DV) : compV a a = 0 := by
  have := compV_turn a a
  omega
theorem compV_through (a b c : DV) (ha : mayV a = true) (hb : mayV b = true) (hc : mayV c = true) (h1 : compV a b ≤ 0) (h2 : compV b c ≤ 0) : compV a c ≤ 0 := by
  unfold compV at *
  rw [if_pos ⟨ha, hb⟩] at h1
  rw [if_pos ⟨hb, hc⟩] at h2
  rw [if_pos ⟨ha, hc⟩]
  by_cases ab : a.k = b.k
  · rw [if_neg (by simp [ab])] at h1
    by_cases bc : b.k = c.k
    · rw [if_neg (by simp [bc])] at h2
      rw [if_neg (by simp [ab, bc])]
      rw [ab] at h1 ⊢
      split
      · rename_i hk
        rw [if_pos hk] at h1 h2
        rw [cn_val] at *
        repeat' split at h1
        all_goals repeat' split at h2
        all_goals repeat' split
        all_goals omega
      · rename_i hk
        rw [if_neg hk] at h1 h2
        split
        · rename_i hk2
          rw [if_pos hk2] at h1 h2
          exact cb_through _ _ _ h1 h2
        · exact Int.le_refl _
    · rw [if_pos bc] at h2
      rw [if_pos (by rw [ab]; exact bc), ab]
      exact h2
  · rw [if_pos ab] at h1
    by_cases bc : b.k = c.k
    · rw [if_pos (by rw [← bc]; exact ab), ← bc]
      exact h1
    · rw [if_pos bc] at h2
      unfold Lib.compareInt at *
      have hac : a.k < c.k := by
        split at h1
        · split at h2
          · omega
          · split at h2 <;> omega
        · split at h1 <;> omega
      rw [if_pos (by omega), if_pos hac]
      decide
end Go.Proofs.YtbgccaconhmbaaaGreatDoor
