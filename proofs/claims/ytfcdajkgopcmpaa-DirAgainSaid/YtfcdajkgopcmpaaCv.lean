/- Covers in plain terms: a check that finds nothing; in any order, without one, with one twice, with one split; each place lies in just one. Conditions: none of its own. -/
import Derived.Test.YtfcdajkgopcmpaaCk
namespace Go.Proofs.Ytfcdajkgopcmpaa
theorem chainS_in : ∀ {s : List RV} {e f : Nat}, (∀ q ∈ s, q.lo < q.hi) → chainS e s = some f → e ≤ f ∧ s.Pairwise (fun a b => a.lo ≤ b.lo) ∧ (∀ r ∈ s, e ≤ r.lo ∧ r.hi ≤ f)
  | [], e, f, _, h => by
    rw [chainS] at h
    obtain rfl := Option.some.inj h
    exact ⟨Nat.le_refl _, List.Pairwise.nil, fun r hr => by cases hr⟩
  | r :: s, e, f, hv, h => by
    rw [chainS] at h
    split at h
    case isFalse => cases h
    rename_i hlo
    have hr := hv r List.mem_cons_self
    obtain ⟨h1, h2, h3⟩ := chainS_in (fun q hq => hv q (List.mem_cons_of_mem _ hq)) h
    refine ⟨by omega, List.pairwise_cons.2 ⟨fun q hq => ?_, h2⟩, fun q hq => ?_⟩
    · have := h3 q hq; omega
    · rcases List.mem_cons.1 hq with rfl | hq
      · omega
      · have := h3 q hq; omega
/-- How much of the line ranges take, together. -/
def span (l : List RV) : Int := (l.map fun r => (r.hi : Int) - (r.lo : Int)).sum
theorem span_cons (r : RV) (l : List RV) : span (r :: l) = ((r.hi : Int) - (r.lo : Int)) + span l := rfl
theorem span_perm {l s : List RV} (h : l.Perm s) : span l = span s := by
  induction h with
  | nil => rfl
  | cons x _ ih => rw [span_cons, span_cons, ih]
  | swap x y l => simp only [span_cons]; omega
  | trans _ _ h1 h2 => exact h1.trans h2
theorem chainS_span : ∀ {s : List RV} {e f : Nat}, chainS e s = some f → span s = (f : Int) - (e : Int)
  | [], e, f, h => by
    rw [chainS] at h
    obtain rfl := Option.some.inj h
    simp [span]
  | r :: s, e, f, h => by
    rw [chainS] at h
    split at h
    case isFalse => cases h
    rename_i hlo
    rw [span_cons, chainS_span h, hlo]
    omega
/-- A list whose chain is whole is one in ascending order, but for its order. -/
theorem chain_sort {l : List RV} (hv : ∀ q ∈ l, q.lo < q.hi) (e : Nat) : ∃ s : List RV, s.Perm l ∧ chainR l.length e l = chainS e s := by
  refine ⟨l.mergeSort (fun a b => decide (a.lo ≤ b.lo)), List.mergeSort_perm _ _, ?_⟩
  refine chain_same hv (List.mergeSort_perm _ _) ?_ e
  have h := List.pairwise_mergeSort (le := fun a b : RV => decide (a.lo ≤ b.lo)) (fun a b c h1 h2 => by simp at h1 h2 ⊢; omega) (fun a b => by simp; omega) l
  exact h.imp (fun h => by simpa using h)
theorem chain_span {l : List RV} (hv : ∀ q ∈ l, q.lo < q.hi) {e f : Nat} (h : chainR l.length e l = some f) : span l = (f : Int) - (e : Int) := by
  obtain ⟨s, hp, hs⟩ := chain_sort hv e
  rw [← span_perm hp]
  exact chainS_span (hs.symm.trans h)
/-- WITHOUT ONE OF THEM THEY ARE NO CHAIN. -/
theorem chain_less {l : List RV} (hv : ∀ q ∈ l, q.lo < q.hi) {e f k : Nat} (hk : k < l.length) (h : chainR l.length e l = some f) : chainR (l.take k ++ l.drop (k + 1)).length e (l.take k ++ l.drop (k + 1)) ≠ some f := by
  intro h2
  have e1 : l = l.take k ++ l[k] :: l.drop (k + 1) := by rw [← List.drop_eq_getElem_cons hk, List.take_append_drop]
  have hv2 : ∀ q ∈ l.take k ++ l.drop (k + 1), q.lo < q.hi := by
    intro q hq
    rcases List.mem_append.1 hq with hq | hq
    · exact hv q (List.mem_of_mem_take hq)
    · exact hv q (List.mem_of_mem_drop hq)
  have s1 := chain_span hv h
  have s2 := chain_span hv2 h2
  have s3 : span l = ((l[k].hi : Int) - (l[k].lo : Int)) + span (l.take k ++ l.drop (k + 1)) := by
    rw [← span_cons]
    conv => lhs; rw [e1]
    exact span_perm List.perm_middle
  have := hv l[k] (List.getElem_mem hk)
  omega
/-- A chain of which one is two: it is one still. -/
theorem chainS_split {a b r : RV} (h1 : a.lo = r.lo) (h2 : a.hi = b.lo) (h3 : b.hi = r.hi) (t : List RV) : ∀ (s : List RV) (e : Nat), chainS e (s ++ a :: b :: t) = chainS e (s ++ r :: t)
  | [], e => by
    simp only [List.nil_append, chainS, h1, h2, h3, if_true]
  | q :: s, e => by
    simp only [List.cons_append, chainS]
    rw [chainS_split h1 h2 h3 t s]
theorem chain_split {l : List RV} (hv : ∀ q ∈ l, q.lo < q.hi) {a b : RV} {k : Nat} (hk : k < l.length) (h1 : a.lo = l[k].lo) (h2 : a.hi = b.lo) (h3 : b.hi = l[k].hi) (ha : a.lo < a.hi) (hb : b.lo < b.hi) {e f : Nat} (h : chainR l.length e l = some f) :
    chainR (l.set k a ++ [b]).length e (l.set k a ++ [b]) = some f := by
  obtain ⟨s, hp, hs⟩ := chain_sort hv e
  have hm : l[k] ∈ s := hp.mem_iff.2 (List.getElem_mem hk)
  obtain ⟨s1, s2, rfl⟩ := List.append_of_mem hm
  have e1 : l = l.take k ++ l[k] :: l.drop (k + 1) := by rw [← List.drop_eq_getElem_cons hk, List.take_append_drop]
  have p1 : (s1 ++ s2).Perm (l.take k ++ l.drop (k + 1)) := by
    have := hp
    conv at this => rhs; rw [e1]
    exact (List.perm_cons l[k]).1 (List.perm_middle.symm.trans (this.trans List.perm_middle))
  have p2 : (s1 ++ a :: b :: s2).Perm (l.set k a ++ [b]) := by
    rw [List.set_eq_take_append_cons_drop, if_pos hk]
    refine List.perm_middle.trans ?_
    refine ((List.Perm.cons a List.perm_middle).trans ?_)
    have : (l.take k ++ a :: l.drop (k + 1) ++ [b]).Perm (a :: b :: (l.take k ++ l.drop (k + 1))) := by
      rw [List.append_assoc, List.cons_append]
      refine List.perm_middle.trans (List.Perm.cons a ?_)
      rw [← List.append_assoc]
      exact List.perm_append_comm
    exact (List.Perm.cons a (List.Perm.cons b p1)).trans this.symm
  have hc : chainS e (s1 ++ a :: b :: s2) = some f := by rw [chainS_split h1 h2 h3, ← hs]; exact h
  have hv2 : ∀ q ∈ l.set k a ++ [b], q.lo < q.hi := by
    intro q hq
    rcases List.mem_append.1 hq with hq | hq
    · rcases List.mem_or_eq_of_mem_set hq with hq | rfl
      · exact hv q hq
      · exact ha
    · obtain rfl := List.mem_singleton.1 hq; exact hb
  have hv3 : ∀ q ∈ s1 ++ a :: b :: s2, q.lo < q.hi := fun q hq => hv2 q (p2.mem_iff.1 hq)
  rw [chain_same hv2 p2 (chainS_in hv3 hc).2.1 e]
  exact hc
/-- EACH PLACE LIES IN JUST ONE. -/
theorem chainS_one {x : Nat} : ∀ {s : List RV} {e f : Nat}, (∀ q ∈ s, q.lo < q.hi) → chainS e s = some f → e ≤ x → x < f → s.countP (fun r => decide (r.lo ≤ x ∧ x < r.hi)) = 1
  | [], e, f, _, h, h1, h2 => by
    rw [chainS] at h
    obtain rfl := Option.some.inj h
    omega
  | r :: s, e, f, hv, h, h1, h2 => by
    rw [chainS] at h
    split at h
    case isFalse => cases h
    rename_i hlo
    have hv' : ∀ q ∈ s, q.lo < q.hi := fun q hq => hv q (List.mem_cons_of_mem _ hq)
    by_cases hx : x < r.hi
    · rw [List.countP_cons_of_pos (by simp; omega)]
      have : s.countP (fun r => decide (r.lo ≤ x ∧ x < r.hi)) = 0 := by
        rw [List.countP_eq_zero]
        intro q hq
        have := (chainS_in hv' h).2.2 q hq
        simp; omega
      omega
    · rw [List.countP_cons_of_neg (by simp; omega)]
      exact chainS_one hv' h (by omega) h2
theorem chain_only {l : List RV} (hv : ∀ q ∈ l, q.lo < q.hi) {e f x : Nat} (h : chainR l.length e l = some f) (h1 : e ≤ x) (h2 : x < f) : l.countP (fun r => decide (r.lo ≤ x ∧ x < r.hi)) = 1 := by
  obtain ⟨s, hp, hs⟩ := chain_sort hv e
  rw [← hp.countP_eq]
  exact chainS_one (fun q hq => hv q (hp.mem_iff.1 hq)) (hs.symm.trans h) h1 h2
theorem scan_zero : ∀ (post pre : List RV), scanV pre post = 0 ↔ (∀ r ∈ post, mayV r = true) ∧ (∀ r ∈ post, ∀ q ∈ pre, q.i ≠ r.i) ∧ (post.map (·.i)).Nodup
  | [], pre => by simp [scanV]
  | r :: t, pre => by
    rw [scanV]
    cases hm : mayV r with
    | false => simp [hm]
    | true =>
      cases ha : pre.any (fun q => q.i == r.i) with
      | true =>
        obtain ⟨q, hq, he⟩ := List.any_eq_true.1 ha
        simp only [cond_true]
        refine ⟨fun h => by omega, fun h => ?_⟩
        exact absurd (eq_of_beq he) (h.2.1 r List.mem_cons_self q hq)
      | false =>
        simp only [cond_true, cond_false]
        have hn : ∀ q ∈ pre, q.i ≠ r.i := fun q hq e => by
          have := List.any_eq_false.1 ha q hq
          simp [e] at this
        rw [scan_zero t (pre ++ [r])]
        constructor
        · rintro ⟨h1, h2, h3⟩
          refine ⟨fun q hq => ?_, fun q hq p hp => ?_, ?_⟩
          · rcases List.mem_cons.1 hq with rfl | hq
            · exact hm
            · exact h1 q hq
          · rcases List.mem_cons.1 hq with rfl | hq
            · exact hn p hp
            · exact h2 q hq p (List.mem_append_left _ hp)
          · rw [List.map_cons, List.nodup_cons]
            refine ⟨fun hmem => ?_, h3⟩
            obtain ⟨q, hq, he⟩ := List.mem_map.1 hmem
            exact h2 q hq r (List.mem_append_right _ List.mem_cons_self) he.symm
        · rintro ⟨h1, h2, h3⟩
          rw [List.map_cons, List.nodup_cons] at h3
          refine ⟨fun q hq => h1 q (List.mem_cons_of_mem _ hq), fun q hq p hp => ?_, h3.2⟩
          rcases List.mem_append.1 hp with hp | hp
          · exact h2 q (List.mem_cons_of_mem _ hq) p hp
          · obtain rfl := List.mem_singleton.1 hp
            intro e
            exact h3.1 (List.mem_map.2 ⟨q, hq, e.symm⟩)
/-- A cover. -/
structure Cov (l : List RV) : Prop where
  ne : l ≠ []
  few : l.length ≤ 12
  may : ∀ r ∈ l, mayV r = true
  own : (l.map (·.i)).Nodup
  all : chainR l.length 0 l = some oneB
theorem check_zero {l : List RV} : checkV l = 0 ↔ Cov l := by
  unfold checkV
  cases h0 : l.length == 0 with
  | true =>
    simp only [cond_true]
    refine ⟨fun h => by omega, fun h => absurd (List.eq_nil_of_length_eq_zero (eq_of_beq h0)) h.ne⟩
  | false =>
    simp only [cond_false]
    have hne : l ≠ [] := fun e => by subst e; simp at h0
    by_cases h12 : 12 < l.length
    · rw [decide_eq_true h12]
      simp only [cond_true]
      exact ⟨fun h => by omega, fun h => by have := h.few; omega⟩
    · rw [decide_eq_false h12]
      simp only [cond_false]
      have hz := scan_zero l []
      unfold tailV
      simp only [List.take_zero, List.drop_zero]
      cases hs : scanV [] l == 0 with
      | true =>
        obtain ⟨h1, _, h3⟩ := hz.1 (eq_of_beq hs)
        cases hc : chainR l.length 0 l == some oneB with
        | true => exact ⟨fun _ => ⟨hne, by omega, h1, h3, eq_of_beq hc⟩, fun _ => rfl⟩
        | false =>
          simp only [cond_true, cond_false]
          exact ⟨fun h => by omega, fun h => by rw [h.all, beq_self_eq_true] at hc; cases hc⟩
      | false =>
        simp only [cond_false]
        refine ⟨fun h => (by rw [h] at hs; cases hs), fun h => ?_⟩
        exact hz.2 ⟨h.may, fun _ _ _ hq => absurd hq List.not_mem_nil, h.own⟩
section
variable {l : List RV}
theorem Cov.lt (h : Cov l) : ∀ q ∈ l, q.lo < q.hi := fun q hq => (may_pts (h.may q hq)).2.2.1
theorem Cov.perm {s : List RV} (h : Cov l) (hp : l.Perm s) : Cov s := by
  refine ⟨fun e => h.ne (by subst e; exact hp.eq_nil), by rw [← hp.length_eq]; exact h.few, fun r hr => h.may r (hp.mem_iff.2 hr), (hp.map _).nodup_iff.1 h.own, ?_⟩
  rw [← hp.length_eq, ← chain_perm hp]
  exact h.all
/-- WITHOUT ONE OF THEM THEY ARE NO COVER. -/
theorem Cov.less (h : Cov l) {k : Nat} (hk : k < l.length) : ¬ Cov (l.take k ++ l.drop (k + 1)) := fun h2 => chain_less h.lt hk h.all h2.all
/-- WITH ONE OF THEM TWICE THEY ARE NONE. -/
theorem Cov.twice {k : Nat} (hk : k < l.length) {s : List RV} (hp : l.Perm s) : ¬ Cov (s ++ [l[k]]) := fun h => by
  have h1 := h.own
  rw [List.map_append, List.nodup_append] at h1
  have h2 : l[k] ∈ s := hp.mem_iff.1 (List.getElem_mem hk)
  exact h1.2.2 _ (List.mem_map.2 ⟨l[k], h2, rfl⟩) _ (by simp) rfl
/-- ONE IS SPLIT: A COVER STILL. -/
theorem Cov.split (h : Cov l) {a b : RV} {k : Nat} (hk : k < l.length) (h12 : l.length < 12) (ha : mayV a = true) (hb : mayV b = true) (h1 : a.lo = l[k].lo) (h2 : a.hi = b.lo) (h3 : b.hi = l[k].hi) (hi : a.i = l[k].i) (hn : ∀ q ∈ l, q.i ≠ b.i) : Cov (l.set k a ++ [b]) := by
  refine ⟨by simp, by simp; omega, fun r hr => ?_, ?_, chain_split h.lt hk h1 h2 h3 (may_pts ha).2.2.1 (may_pts hb).2.2.1 h.all⟩
  · rcases List.mem_append.1 hr with hr | hr
    · rcases List.mem_or_eq_of_mem_set hr with hr | rfl
      · exact h.may r hr
      · exact ha
    · obtain rfl := List.mem_singleton.1 hr; exact hb
  · have e : (l.set k a).map (·.i) = l.map (·.i) := by
      rw [List.map_set, hi]
      apply List.ext_getElem
      · simp
      · intro j h1 h2
        rw [List.getElem_set]
        split
        · rename_i e; subst e; simp
        · rfl
    rw [List.map_append, e, List.nodup_append]
    refine ⟨h.own, by simp, fun x hx y hy => ?_⟩
    obtain ⟨q, hq, rfl⟩ := List.mem_map.1 hx
    simp at hy
    subst hy
    exact hn q hq
theorem Cov.one (h : Cov l) {x : Nat} (hx : x < oneB) : l.countP (fun r => decide (r.lo ≤ x ∧ x < r.hi)) = 1 := chain_only h.lt h.all (Nat.zero_le _) hx
end
end Go.Proofs.Ytfcdajkgopcmpaa
