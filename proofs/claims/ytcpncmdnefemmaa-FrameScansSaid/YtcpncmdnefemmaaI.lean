/- Rows of records of the call's own, of which one record is turned or laid anew. Conditions: none of its own. -/
import Derived.Test.YtcpncmdnefemmaaR
namespace Go.Proofs.Ytcpncmdnefemmaa
open Go.RowKit
theorem getD_set_eq {α : Type} {l : List α} {x d : α} {i : Nat} (h : i < l.length) : (l.set i x).getD i d = x := by
  rw [List.getD_eq_getElem?_getD, List.getElem?_set_self h]; rfl
theorem getD_set_ne {α : Type} {l : List α} {x d : α} {i j : Nat} (h : i ≠ j) : (l.set i x).getD j d = l.getD j d := by
  rw [List.getD_eq_getElem?_getD, List.getD_eq_getElem?_getD, List.getElem?_set_ne h]
section
variable {B : Nat} {w w' : World} {v : Value} {us : List Value} {L : List (List UInt8)}
/-- Other rows stay where one row's block is turned. -/
theorem Rs.others {i : Nat} (h : Rs B w v us L) (hi : i < L.length) (hg : w.grownBy w' (us.getD i undef).ownBlock) (j : Nat) (hj : j < L.length) (hij : j ≠ i) : w'.ownsRow B 5 1 (us.getD j undef) (L.getD j []).length (bys (L.getD j [])) := by
  refine (h.row j hj).kept hg ?_
  cases e : (us.getD j undef).ownBlock with
  | none => exact .inl rfl
  | some k =>
    refine .inr fun e2 => ?_
    rcases Nat.lt_or_ge i j with h1 | h1
    · exact h.dis i j k h1 hj e2.symm e
    · exact h.dis j i k (by omega) hi e e2.symm
/-- One record is turned where it lies. -/
theorem Rs.put {i : Nat} {l : List UInt8} (h : Rs B w v us L) (hi : i < L.length) (hg : w.grownBy w' (us.getD i undef).ownBlock) (ho : w'.ownsRow B 5 1 (us.getD i undef) l.length (bys l)) : Rs B w' v us (L.set i l) := by
  refine ⟨by rw [List.length_set]; exact h.own.kept hg (own_apart (h.row i hi) h.own (by decide)), fun j hj => ?_, fun a b k hab hb hk => h.dis a b k hab (by rw [List.length_set] at hb; exact hb) hk⟩
  rw [List.length_set] at hj
  by_cases hij : j = i
  · subst hij
    rw [getD_set_eq hj]
    exact ho
  · rw [getD_set_ne (fun e => hij e.symm)]
    exact h.others hi hg j hj hij
/-- One record is laid anew, or grown, and its place in the row is turned. -/
theorem Rs.swap {i g n cap : Nat} {l : List UInt8} {u : Value} (h : Rs B w (.slice (some ⟨g, 0, none⟩) n cap) us L) (hn : n = L.length) (hi : i < L.length) (hg : w.grownBy w' (us.getD i undef).ownBlock) (ho : w'.ownsRow B 5 1 u l.length (bys l))
    (hf : u.ownBlock = (us.getD i undef).ownBlock ∨ u.ownBlock = some w.heap.size) : Rs B (w'.setCell ⟨g, i, none⟩ u) (.slice (some ⟨g, 0, none⟩) n cap) (us.set i u) (L.set i l) := by
  subst hn
  have hl := h.len
  have h1 : w'.ownsRow B 22 1 (.slice (some ⟨g, 0, none⟩) L.length cap) L.length us := h.own.kept hg (own_apart (h.row i hi) h.own (by decide))
  obtain ⟨h2, h3⟩ := h1.stored i u
  have hub : ∀ k, u.ownBlock = some k → k ≠ g := by
    intro k hk e
    rcases own_apart h1 ho (by decide) with h4 | h4
    · rw [h4] at hk; cases hk
    · apply h4; rw [hk, e]; rfl
  refine ⟨by rw [List.length_set]; exact h2, fun j hj => ?_, fun a b k hab hb hk => ?_⟩
  · rw [List.length_set] at hj
    by_cases hij : j = i
    · subst hij
      rw [getD_set_eq hj, getD_set_eq (by omega)]
      exact ho.kept h3 (own_apart h1 ho (by decide))
    · rw [getD_set_ne (fun e => hij e.symm), getD_set_ne (fun e => hij e.symm)]
      have h5 := h.others hi hg j hj hij
      exact h5.kept h3 (own_apart h1 h5 (by decide))
  · rw [List.length_set] at hb
    have hne : ∀ j, j < L.length → j ≠ i → ∀ k, u.ownBlock = some k → (us.getD j undef).ownBlock ≠ some k := by
      intro j hj hji k hk e
      rcases hf with h6 | h6
      · rw [h6] at hk
        rcases Nat.lt_or_ge i j with h7 | h7
        · exact h.dis i j k h7 hj hk e
        · exact h.dis j i k (by omega) hi e hk
      · have := (h.row j hj).lt k e
        rw [h6] at hk
        have := Option.some.inj hk
        omega
    by_cases hai : a = i
    · subst hai
      rw [getD_set_eq (by omega)] at hk
      rw [getD_set_ne (by omega)]
      exact hne b hb (by omega) k hk
    · rw [getD_set_ne (fun e => hai e.symm)] at hk
      by_cases hbi : b = i
      · subst hbi
        rw [getD_set_eq (by omega)]
        intro e
        exact hne a (by omega) hai k e hk
      · rw [getD_set_ne (fun e => hbi e.symm)]
        exact h.dis a b k hab hb hk
end
end Go.Proofs.Ytcpncmdnefemmaa
