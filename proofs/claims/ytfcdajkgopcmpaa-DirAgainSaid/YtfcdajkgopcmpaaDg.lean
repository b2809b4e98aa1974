/- A directory of ranges in plain terms: a cover that is learnt, the last range from the list turned round, groups of keys. Conditions: none. -/
import Derived.Test.YtfcdajkgopcmpaaDe
import Derived.Test.YtfcdajkgopcmpaaDf
import Derived.Test.YtfcdajkgopcmpaaCv
namespace Go.Proofs.Ytfcdajkgopcmpaa
theorem hear_new {L : List RV} {r : RV} (hm : mayV r = true) (hn : ∀ q ∈ L, q.i ≠ r.i) : hear L r = (putL L r, 1) := by
  unfold hear
  rw [if_pos hm, getL_not hn]
theorem learn_all : ∀ (l L : List RV), (∀ r ∈ l, mayV r = true) → (l.map (·.i)).Nodup → (∀ r ∈ l, ∀ q ∈ L, q.i ≠ r.i) → learnL L l = (l.foldl putL L, l.length)
  | [], L, _, _, _ => rfl
  | r :: l, L, hm, hn, hd => by
    rw [List.map_cons, List.nodup_cons] at hn
    have e := hear_new (hm r List.mem_cons_self) (hd r List.mem_cons_self)
    show ((learnL (hear L r).1 l).1, (hear L r).2 + (learnL (hear L r).1 l).2) = _
    rw [e]
    have ih := learn_all l (putL L r) (fun q hq => hm q (List.mem_cons_of_mem _ hq)) hn.2 (fun x hx q hq => by
      rcases mem_putL.1 hq with rfl | hq
      · intro e
        exact hn.1 (List.mem_map.2 ⟨x, hx, e.symm⟩)
      · exact hd x (List.mem_cons_of_mem _ hx) q hq)
    simp only [ih, List.foldl_cons, List.length_cons, Nat.add_comm]
/-- A cover that is learnt by a new directory. -/
theorem learn_new {l : List RV} (h : checkV l = 0) : learnL [] l = (newL l, l.length) :=
  learn_all l [] (check_zero.1 h).may (check_zero.1 h).own (fun _ _ q hq => by cases hq)
theorem lastIn_snoc (L : List RV) (r : RV) (x : Nat) : lastIn (L ++ [r]) x = if inV r x = true then (r, true) else lastIn L x := by
  unfold lastIn
  rw [List.foldl_append]
  rfl
theorem findV_cons (r : RV) (L : List RV) (x : Nat) : findV (r :: L) x = if inV r x = true then (r, true) else findV L x := by
  unfold findV
  rw [List.find?_cons]
  cases inV r x <;> rfl
theorem find_rev (x : Nat) : ∀ L : List RV, findV L.reverse x = lastIn L x := by
  intro L
  rw [← List.reverse_reverse L]
  generalize L.reverse = M
  rw [List.reverse_reverse]
  induction M with
  | nil => rfl
  | cons r M ih => rw [findV_cons, List.reverse_cons, lastIn_snoc, ih]
/-- The range to which a key is routed is one of the directory's, and has its place. -/
theorem last_mem {L : List RV} {x : Nat} : (lastIn L x).2 = true → (lastIn L x).1 ∈ L ∧ inV (lastIn L x).1 x = true := by
  rw [← find_rev]
  intro h
  unfold findV at h ⊢
  split at h
  · rename_i r hf
    exact ⟨by simpa using List.mem_of_find?_eq_some hf, by simpa using List.find?_some hf⟩
  · cases h
theorem last_none {L : List RV} {x : Nat} (h : ∀ r ∈ L, inV r x = false) : lastIn L x = (RV.zero, false) := by
  rw [← find_rev]
  exact find_not (fun r hr => h r (by simpa using hr))
theorem last_some {L : List RV} {x : Nat} {r : RV} (hr : r ∈ L) (hi : inV r x = true) : (lastIn L x).2 = true := by
  rw [← find_rev]
  unfold findV
  split
  · rfl
  · rename_i hf
    have := List.find?_eq_none.1 hf r (by simpa using hr)
    exact absurd hi this
/-- Among ranges of which just one has a place, that one. -/
theorem last_one {L : List RV} {x : Nat} {r : RV} (hr : r ∈ L) (hi : inV r x = true) (hu : ∀ q ∈ L, inV q x = true → q = r) : lastIn L x = (r, true) := by
  have h := last_some hr hi
  have h2 := last_mem h
  have e := hu _ h2.1 h2.2
  exact Prod.ext e h
end Go.Proofs.Ytfcdajkgopcmpaa
