/- Clocks that observe: in whatever order, in plain terms. Conditions: none. -/
import Derived.Test.YtmpokhjchbaleaaDoorE
import Derived.Test.YtmpokhjchbaleaaDoorF
import Derived.Test.YtmpokhjchbaleaaDoorZ
namespace Go.Proofs.YtmpokhjchbaleaaDoor
open Go.RowKit
theorem q_self (s : St) (w : World) : (Op.equalIn 9999 23 (sagg s) (sagg s)).run Tryd.prog w = .ok true w := (eq_st _ _ w).trans (by rw [decide_eq_true rfl])
theorem obs_node (s t : St) : (obsS s t).n = s.n := by
  unfold obsS
  split
  · rw [later_new]; split <;> rfl
  · rfl
theorem obs_may {s t : St} (hs : mayS s = true) : mayS (obsS s t) = true := by
  unfold obsS
  split
  · rename_i ht
    rw [later_new]
    split
    · have h1 := mayS_iff.1 hs
      have h2 := mayS_iff.1 ht
      exact mayS_iff.2 ⟨h2.1, h2.2.1, h1.2.2⟩
    · exact hs
  · exact hs
theorem obs_comm (s a b : St) : obsS (obsS s a) b = obsS (obsS s b) a := by
  by_cases ha : mayS a = true
  · by_cases hb : mayS b = true
    · have ea : ∀ s, obsS s a = if s.w < a.w ∨ (a.w = s.w ∧ s.l < a.l) then ⟨a.w, a.l, s.n⟩ else s := fun s => by unfold obsS; rw [if_pos ha, later_new]
      have eb : ∀ s, obsS s b = if s.w < b.w ∨ (b.w = s.w ∧ s.l < b.l) then ⟨b.w, b.l, s.n⟩ else s := fun s => by unfold obsS; rw [if_pos hb, later_new]
      rw [ea s, eb s, eb, ea]
      obtain ⟨s1, s2, s3⟩ := s
      obtain ⟨a1, a2, a3⟩ := a
      obtain ⟨b1, b2, b3⟩ := b
      simp only
      by_cases h1 : s1 < a1 ∨ (a1 = s1 ∧ s2 < a2)
      · rw [if_pos h1]
        by_cases h2 : s1 < b1 ∨ (b1 = s1 ∧ s2 < b2)
        · rw [if_pos h2]
          simp only
          by_cases h3 : a1 < b1 ∨ (b1 = a1 ∧ a2 < b2)
          · rw [if_pos h3, if_neg (by omega)]
          · rw [if_neg h3]
            by_cases h4 : b1 < a1 ∨ (a1 = b1 ∧ b2 < a2)
            · rw [if_pos h4]
            · rw [if_neg h4]
              have : a1 = b1 := by omega
              have : a2 = b2 := by omega
              subst a1 a2
              rfl
        · rw [if_neg h2]
          simp only
          rw [if_neg (by omega), if_pos h1]
      · rw [if_neg h1]
        by_cases h2 : s1 < b1 ∨ (b1 = s1 ∧ s2 < b2)
        · rw [if_pos h2]
          simp only
          rw [if_neg (by omega)]
        · rw [if_neg h2]
          simp only
          rw [if_neg h1]
    · have e : ∀ s, obsS s b = s := fun s => by unfold obsS; rw [if_neg hb]
      rw [e, e]
  · have e : ∀ s, obsS s a = s := fun s => by unfold obsS; rw [if_neg ha]
    rw [e, e]
def obsL (s : St) (l : List Do) : St := l.foldl (fun s p => obsS s p.s) s
theorem obsL_may {s : St} (hs : mayS s = true) : ∀ l : List Do, mayS (obsL s l) = true := by
  intro l
  induction l generalizing s with
  | nil => exact hs
  | cons p r ih => exact ih (obs_may hs)
theorem obsL_snoc (s : St) (l : List Do) (p : Do) : obsL s (l ++ [p]) = obsS (obsL s l) p.s := by unfold obsL; rw [List.foldl_append]; rfl
theorem obsL_take (s : St) (l : List Do) (i : Nat) (h : i < l.length) : obsL s (l.take (i + 1)) = obsS (obsL s (l.take i)) l[i].s := by
  rw [List.take_add_one, List.getElem?_eq_getElem h, ← obsL_snoc]; rfl
theorem obsL_rev (s : St) (l : List Do) : obsL s l.reverse = obsL s l := by
  unfold obsL
  exact (List.reverse_perm l).foldl_eq' (fun a _ b _ z => obs_comm z a.s b.s) s
theorem newS_cases (n : Int) (f : St) : (∃ r, newS n f = (none, r) ∧ r ≠ 0) ∨ (∃ s, newS n f = (some s, 0) ∧ mayS s = true ∧ s = ⟨f.w, f.l, n⟩ ∧ 1 ≤ n ∧ n ≤ 63 ∧ mayS f = true) := by
  unfold newS
  split
  · exact .inl ⟨_, rfl, by decide⟩
  · split
    · exact .inl ⟨_, rfl, by decide⟩
    · rename_i h1 h2
      have hf : mayS f = true := by simpa using h2
      refine .inr ⟨_, rfl, ?_, rfl, by omega, by omega, hf⟩
      have := mayS_iff.1 hf
      exact mayS_iff.2 ⟨this.1, this.2.1, by simp only; omega⟩
end Go.Proofs.YtmpokhjchbaleaaDoor
