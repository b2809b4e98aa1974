/- Covers that grow by splits: what a split makes; IDs in their order; each place met once. Conditions: none of its own. -/
import Derived.Test.YtfcdajkgopcmpaaJOs
import Derived.Test.YtfcdajkgopcmpaaJMd
namespace Go.Proofs.Ytfcdajkgopcmpaa
open Go.ChangeShapes Go.WideShapes Go.ChangeAt Go.RowKit
/-- A cover whose IDs count up, of ranges of 64 bits a number. -/
structure Gr (M : List RV) : Prop where
  cov : Cov M
  ids : ∀ (j : Nat) (h : j < M.length), M[j].i = (j : Int) + 1
  wf : ∀ r ∈ M, r.wf
theorem even_gr {n : Nat} (h0 : 0 < n) (h : n ≤ 12) (hw : ∀ r ∈ evenV n, r.wf) : Gr (evenV n) :=
  ⟨even_cov h0 h, fun j hj => by rw [even_at (by rw [even_length] at hj; exact hj)], hw⟩
theorem may_of {r : RV} (h1 : 1 ≤ r.i) (h2 : r.i ≤ 12) (h3 : 0 ≤ r.e) (h4 : ptB r.lo = true) (h5 : ptB r.hi = true) (h6 : r.lo < r.hi) : mayV r = true := by
  unfold mayV idB
  simp only [Bool.and_eq_true, decide_eq_true_eq]
  exact ⟨⟨h1, h2⟩, h3, h4, h5, h6⟩
/-- What a split that is told OK makes. -/
theorem split_ok {r : RV} {x : Nat} {c : Int} (h : (splitV r x c).2.2 = 0) : splitV r x c = (⟨r.i, r.e + 1, r.lo, x⟩, ⟨c, 0, x, r.hi⟩, 0) ∧ mayV r = true ∧ r.e ≠ 9223372036854775807 ∧ idB c = true ∧ ptB x = true ∧ r.lo < x ∧ x < r.hi := by
  unfold splitV at h ⊢
  by_cases h1 : okSplit r x c = true
  · rw [if_pos h1] at h ⊢
    by_cases h2 : betB r.lo x r.hi = true
    · rw [if_pos h2] at h ⊢
      obtain ⟨a, b, d, _, e, f, g⟩ := split_pts h1 h2
      exact ⟨rfl, a, b, d, e, f, g⟩
    · rw [if_neg h2] at h; simp at h
  · rw [if_neg h1] at h; simp at h
theorem Gr.split {M : List RV} (h : Gr M) {K x : Nat} (hK : K < M.length) (h12 : M.length < 12) (hx : x < 18446744073709551616) (hs : (splitV M[K] x ((M.length : Int) + 1)).2.2 = 0) :
    mayV ⟨M[K].i, M[K].e + 1, M[K].lo, x⟩ = true ∧ mayV ⟨(M.length : Int) + 1, 0, x, M[K].hi⟩ = true ∧ M[K].e + 1 ≤ 9223372036854775807 ∧ -9223372036854775808 ≤ M[K].e ∧ Gr (M.set K ⟨M[K].i, M[K].e + 1, M[K].lo, x⟩ ++ [⟨(M.length : Int) + 1, 0, x, M[K].hi⟩]) := by
  obtain ⟨_, h1, h2, h3, h4, h5, h6⟩ := split_ok hs
  obtain ⟨p1, p2, p3, p4, p5, p6⟩ := may_pts h1
  have hw := h.wf _ (List.getElem_mem hK)
  obtain ⟨w1, w2, w3, w4⟩ := hw
  have ma : mayV ⟨M[K].i, M[K].e + 1, M[K].lo, x⟩ = true := may_of p4 p5 (by simp only; omega) p1 h4 h5
  have mb : mayV ⟨(M.length : Int) + 1, 0, x, M[K].hi⟩ = true := may_of (by simp only; omega) (by simp only; omega) (by simp only; omega) h4 p2 h6
  refine ⟨ma, mb, by omega, by omega, ?_, fun j hj => ?_, fun r hr => ?_⟩
  · refine h.cov.split hK h12 ma mb rfl rfl rfl rfl (fun q hq => ?_)
    obtain ⟨j, hj, rfl⟩ := List.getElem_of_mem hq
    rw [h.ids j hj]
    simp only
    omega
  · rw [List.length_append, List.length_set] at hj
    by_cases hjl : j < M.length
    · rw [List.getElem_append_left (by rw [List.length_set]; exact hjl), List.getElem_set]
      split
      · rename_i e; subst e; exact h.ids K hjl
      · exact h.ids j hjl
    · have : j = M.length := by simp at hj; omega
      subst this
      rw [List.getElem_append_right (by rw [List.length_set]; exact Nat.le_refl _)]
      simp
  · rcases List.mem_append.1 hr with hr | hr
    · rcases List.mem_or_eq_of_mem_set hr with hr | rfl
      · exact h.wf r hr
      · exact ⟨w1, ⟨by simp only; omega, by simp only; omega⟩, w3, hx⟩
    · obtain rfl := List.mem_singleton.1 hr
      exact ⟨⟨by simp only; omega, by simp only; omega⟩, ⟨by simp only; omega, by simp only; omega⟩, hx, w4⟩
theorem in_pts {r : RV} (h : mayV r = true) {x : Nat} (hx : x < oneB) : inV r x = decide (r.lo ≤ x ∧ x < r.hi) := by
  obtain ⟨p1, p2, _⟩ := may_pts h
  have h1 : oneB < infR := by decide
  unfold ptB at p1 p2
  rw [decide_eq_true_eq] at p1 p2
  have e1 : (FloatKind.f64.format.order x r.lo == some .gt || FloatKind.f64.format.order x r.lo == some .eq) = decide (r.lo ≤ x) := by
    show (Ieee.double.order x r.lo == some .gt || Ieee.double.order x r.lo == some .eq) = _
    rw [order_pos (by omega) (by omega)]
    by_cases a : x < r.lo
    · rw [if_pos a, decide_eq_false (by omega)]; rfl
    · rw [if_neg a, decide_eq_true (by omega)]
      by_cases b : r.lo < x
      · rw [if_pos b]; rfl
      · rw [if_neg b]; rfl
  have e2 : (FloatKind.f64.format.order x r.hi == some .lt) = decide (x < r.hi) := lt_test (by omega) (by omega)
  unfold inV
  rw [e1, e2, ← Bool.decide_and]
theorem count_one {M : List RV} (h : Cov M) {x : Nat} (hx : x < oneB) : M.countP (fun r => inV r x) = 1 := by
  rw [← h.one hx]
  exact List.countP_congr fun r hr => by rw [in_pts (h.may r hr) hx]
theorem find_one {M : List RV} (h : Cov M) {x : Nat} (hx : x < oneB) : ∃ r, findV M x = (r, true) ∧ inV r x = true := by
  have hc := count_one h hx
  unfold findV
  cases hf : M.find? (fun r => inV r x) with
  | some r => exact ⟨r, rfl, by have := List.find?_some (p := fun r => inV r x) hf; exact this⟩
  | none =>
    have := List.countP_eq_zero.2 (List.find?_eq_none.1 hf)
    omega
theorem count_take {M : List RV} {x k : Nat} (h : k < M.length) : (M.take (k + 1)).countP (fun r => inV r x) = (M.take k).countP (fun r => inV r x) + if inV M[k] x = true then 1 else 0 := by
  rw [List.take_add_one, List.getElem?_eq_getElem h, List.countP_append]
  simp only [Option.toList_some, List.countP_cons, List.countP_nil, Nat.zero_add]
theorem At.setR_other {w : World} {b g : Nat} {r : RV} (h : At w b r) (o : Nat) (u : RV) (hg : b ≠ g) : At (setR w g o u) b r := by
  have n (i j : Nat) : (⟨g, i, none⟩ : Addr) ≠ ⟨b, j, none⟩ := fun e => hg (congrArg Addr.block e).symm
  have c (j : Nat) : (setR w g o u).cell? ⟨b, j, none⟩ = w.cell? ⟨b, j, none⟩ := by
    rw [World.cell?_setCell_other (h := n _ _), World.cell?_setCell_other (h := n _ _), World.cell?_setCell_other (h := n _ _), World.cell?_setCell_other (h := n _ _)]
  have e0 := (c 0).trans h.c0
  exact ⟨World.block_lt_of_cell? _ _ e0, e0, (c 1).trans h.c1, (c 2).trans h.c2, (c 3).trans h.c3, by simp [h.f0], by simp [h.f1], by simp [h.f2], by simp [h.f3]⟩
end Go.Proofs.Ytfcdajkgopcmpaa
