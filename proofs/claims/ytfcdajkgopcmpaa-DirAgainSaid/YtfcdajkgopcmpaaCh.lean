/- Chains of ranges: the document's, which looks for the next one among all, and that of a row in ascending order. -/
import Derived.Test.YtfcdajkgopcmpaaRa
namespace Go.Proofs.Ytfcdajkgopcmpaa
def chainR : Nat → Nat → List RV → Option Nat
  | 0, e, _ => some e
  | n + 1, e, l => match l.filter (fun r => r.lo == e) with
    | [r] => chainR n r.hi l
    | _ => none
def chainS : Nat → List RV → Option Nat
  | e, [] => some e
  | e, r :: s => if r.lo = e then chainS r.hi s else none
theorem chain_one {n e : Nat} {l : List RV} {r : RV} (h : l.filter (fun r => r.lo == e) = [r]) : chainR (n + 1) e l = chainR n r.hi l := by
  rw [chainR, h]
theorem chain_none {n e : Nat} {l : List RV} (h : ∀ r, l.filter (fun r => r.lo == e) ≠ [r]) : chainR (n + 1) e l = none := by
  rw [chainR]
  split
  · rename_i r hr
    exact absurd hr (h r)
  · rfl
theorem chain_perm {l s : List RV} (h : l.Perm s) : ∀ n e, chainR n e l = chainR n e s
  | 0, _ => rfl
  | n + 1, e => by
    have hf := h.filter (fun r => r.lo == e)
    by_cases hx : ∃ r, l.filter (fun r => r.lo == e) = [r]
    · obtain ⟨r, hr⟩ := hx
      have hs : s.filter (fun r => r.lo == e) = [r] := by rw [hr] at hf; exact (List.perm_singleton.1 hf.symm)
      rw [chain_one hr, chain_one hs]
      exact chain_perm h n r.hi
    · rw [chain_none (fun r hr => hx ⟨r, hr⟩), chain_none fun r hr => hx ⟨r, by rw [hr] at hf; exact List.perm_singleton.1 hf⟩]
theorem chain_skip {r : RV} {t : List RV} (ht : ∀ q ∈ t, q.lo < q.hi) : ∀ n e, r.lo < e → chainR n e (r :: t) = chainR n e t
  | 0, _, _ => rfl
  | n + 1, e, he => by
    have hf : (r :: t).filter (fun r => r.lo == e) = t.filter (fun r => r.lo == e) := by
      rw [List.filter_cons_of_neg]
      rw [beq_eq_false_iff_ne.2 (by omega)]
      decide
    by_cases hx : ∃ q, t.filter (fun r => r.lo == e) = [q]
    · obtain ⟨q, hq⟩ := hx
      have hm : q ∈ t.filter (fun r => r.lo == e) := by rw [hq]; exact List.mem_singleton.2 rfl
      obtain ⟨hm, hlo⟩ := List.mem_filter.1 hm
      have h1 := ht q hm
      have h2 := eq_of_beq hlo
      rw [chain_one (hf.trans hq), chain_one hq]
      exact chain_skip ht n q.hi (by omega)
    · rw [chain_none (fun q hq => hx ⟨q, hq⟩), chain_none fun q hq => hx ⟨q, hf ▸ hq⟩]
theorem chain_sorted : ∀ (s : List RV), (∀ q ∈ s, q.lo < q.hi) → s.Pairwise (fun a b => a.lo ≤ b.lo) → ∀ e, chainR s.length e s = chainS e s ∧ ∀ n, s.length < n → chainR n e s = none
  | [], _, _, e => by
    refine ⟨rfl, fun n hn => ?_⟩
    obtain ⟨m, rfl⟩ : ∃ m, n = m + 1 := ⟨n - 1, by simp only [List.length_nil] at hn; omega⟩
    exact chain_none fun r h => by cases h
  | r :: t, hv, hp, e => by
    have hv' : ∀ q ∈ t, q.lo < q.hi := fun q hq => hv q (List.mem_cons_of_mem _ hq)
    have hr := hv r (List.mem_cons_self ..)
    obtain ⟨hh, hp'⟩ := List.pairwise_cons.1 hp
    have ih := chain_sorted t hv' hp'
    rw [chainS]
    rcases Nat.lt_trichotomy r.lo e with h | h | h
    · rw [if_neg (by omega), List.length_cons, chain_skip hv' _ _ h]
      refine ⟨(ih e).2 _ (Nat.lt_succ_self _), fun n hn => ?_⟩
      rw [chain_skip hv' _ _ h]
      exact (ih e).2 n (by omega)
    · rw [if_pos h]
      subst h
      by_cases hx : t.filter (fun q => q.lo == r.lo) = []
      · have hf : (r :: t).filter (fun q => q.lo == r.lo) = [r] := by
          rw [List.filter_cons_of_pos (p := fun q : RV => q.lo == r.lo) (beq_self_eq_true r.lo), hx]
        refine ⟨?_, fun n hn => ?_⟩
        · rw [List.length_cons, chain_one hf, chain_skip hv' _ _ hr]
          exact (ih r.hi).1
        · obtain ⟨m, rfl⟩ : ∃ m, n = m + 1 := ⟨n - 1, by rw [List.length_cons] at hn; omega⟩
          rw [chain_one hf, chain_skip hv' _ _ hr]
          exact (ih r.hi).2 m (by rw [List.length_cons] at hn; omega)
      · have hn : ∀ q, (r :: t).filter (fun q => q.lo == r.lo) ≠ [q] := by
          intro q h
          rw [List.filter_cons_of_pos (p := fun q : RV => q.lo == r.lo) (beq_self_eq_true r.lo)] at h
          exact hx (List.cons.inj h).2
        have hs : chainS r.hi t = none := by
          obtain ⟨q, hq⟩ := List.exists_mem_of_ne_nil _ hx
          obtain ⟨hq, hlo⟩ := List.mem_filter.1 hq
          have h2 := eq_of_beq hlo
          cases t with
          | nil => cases hq
          | cons p t' =>
            have h3 := hh p (List.mem_cons_self ..)
            have h4 : p.lo ≤ q.lo := by
              rcases List.mem_cons.1 hq with rfl | h
              · exact Nat.le_refl _
              · exact (List.pairwise_cons.1 hp').1 q h
            rw [chainS, if_neg (by omega)]
        refine ⟨by rw [List.length_cons, chain_none hn, hs], fun n hn' => ?_⟩
        obtain ⟨m, rfl⟩ : ∃ m, n = m + 1 := ⟨n - 1, by rw [List.length_cons] at hn'; omega⟩
        exact chain_none hn
    · have hn : ∀ q, (r :: t).filter (fun q => q.lo == e) ≠ [q] := by
        intro q hq
        have hm : q ∈ (r :: t).filter (fun q => q.lo == e) := by rw [hq]; exact List.mem_singleton.2 rfl
        obtain ⟨hm, hlo⟩ := List.mem_filter.1 hm
        have h2 := eq_of_beq hlo
        rcases List.mem_cons.1 hm with rfl | hm
        · omega
        · have := hh q hm
          omega
      rw [if_neg (by omega)]
      refine ⟨by rw [List.length_cons, chain_none hn], fun n hn' => ?_⟩
      obtain ⟨m, rfl⟩ : ∃ m, n = m + 1 := ⟨n - 1, by rw [List.length_cons] at hn'; omega⟩
      exact chain_none hn
/-- The document's chain is that of whatever row holds the same ranges in ascending order. -/
theorem chain_same {l s : List RV} (hv : ∀ q ∈ l, q.lo < q.hi) (hp : s.Perm l) (hs : s.Pairwise (fun a b => a.lo ≤ b.lo)) (e : Nat) : chainR l.length e l = chainS e s := by
  rw [chain_perm hp.symm, ← hp.length_eq]
  exact (chain_sorted s (fun q hq => hv q (hp.mem_iff.1 hq)) hs e).1
end Go.Proofs.Ytfcdajkgopcmpaa
