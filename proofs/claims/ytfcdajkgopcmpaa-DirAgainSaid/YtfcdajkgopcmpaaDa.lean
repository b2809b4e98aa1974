/- A directory of ranges in plain terms: what stands at each number, what is learnt. Conditions: none. -/
import Derived.Test.YtfcdajkgopcmpaaFd
namespace Go.Proofs.Ytfcdajkgopcmpaa
/-- A range in its place among those of rising numbers. -/
def putL (L : List RV) (r : RV) : List RV := L.takeWhile (fun q => decide (q.i < r.i)) ++ r :: L.dropWhile (fun q => decide (q.i < r.i))
abbrev Rise (L : List RV) : Prop := L.Pairwise (fun a b => a.i < b.i)
def getL (L : List RV) (k : Int) : Option RV := L.find? (fun q => q.i == k)
def setL (L : List RV) (r : RV) : List RV := L.map fun q => if q.i = r.i then r else q
/-- What one range that is heard makes of it, and whether it was taken. -/
def hear (L : List RV) (r : RV) : List RV × Nat :=
  if mayV r = true then
    match getL L r.i with
    | none => (putL L r, 1)
    | some q => if q.e < r.e then (setL L r, 1) else (L, 0)
  else (L, 0)
def learnL (L : List RV) : List RV → List RV × Nat
  | [] => (L, 0)
  | r :: l => ((learnL (hear L r).1 l).1, (hear L r).2 + (learnL (hear L r).1 l).2)
def newL (l : List RV) : List RV := l.foldl putL []
theorem getL_cons (q : RV) (L : List RV) (k : Int) : getL (q :: L) k = if q.i = k then some q else getL L k := by
  unfold getL
  rw [List.find?_cons]
  by_cases h : q.i = k
  · simp [h]
  · have e : (q.i == k) = false := by simpa using h
    rw [e, if_neg h]
theorem getL_some {L : List RV} {k : Int} {q : RV} (h : getL L k = some q) : q ∈ L ∧ q.i = k := by
  unfold getL at h
  exact ⟨List.mem_of_find?_eq_some h, by simpa using List.find?_some h⟩
theorem getL_none {L : List RV} {k : Int} (h : getL L k = none) : ∀ q ∈ L, q.i ≠ k := by
  intro q hq e
  unfold getL at h
  have := List.find?_eq_none.1 h q hq
  simp [e] at this
theorem getL_mem {L : List RV} (h : Rise L) {q : RV} (hq : q ∈ L) : getL L q.i = some q := by
  induction L with
  | nil => cases hq
  | cons a L ih =>
    rw [getL_cons]
    rcases List.mem_cons.1 hq with rfl | hm
    · simp
    · have := (List.pairwise_cons.1 h).1 q hm
      rw [if_neg (by omega)]
      exact ih (List.pairwise_cons.1 h).2 hm
/-- Two that rise and have the same at each number are one. -/
theorem rise_ext : ∀ {L M : List RV}, Rise L → Rise M → (∀ k, getL L k = getL M k) → L = M
  | [], [], _, _, _ => rfl
  | [], b :: M, _, _, h => by have := h b.i; rw [getL_cons, if_pos rfl] at this; cases this
  | a :: L, [], _, _, h => by have := h a.i; rw [getL_cons, if_pos rfl] at this; cases this
  | a :: L, b :: M, hL, hM, h => by
    have ha := List.pairwise_cons.1 hL
    have hb := List.pairwise_cons.1 hM
    have e : a = b := by
      rcases Int.lt_trichotomy a.i b.i with hlt | heq | hgt
      · have h1 := h a.i
        rw [getL_cons, if_pos rfl, getL_cons, if_neg (by omega)] at h1
        obtain ⟨h2, h3⟩ := getL_some h1.symm
        have := hb.1 a h2
        omega
      · have h1 := h a.i
        rw [getL_cons, if_pos rfl, getL_cons, if_pos heq.symm] at h1
        exact Option.some.inj h1
      · have h1 := h b.i
        rw [getL_cons, if_neg (by omega), getL_cons, if_pos rfl] at h1
        obtain ⟨h2, h3⟩ := getL_some h1
        have := ha.1 b h2
        omega
    subst e
    congr 1
    refine rise_ext ha.2 hb.2 fun k => ?_
    have h1 := h k
    rw [getL_cons, getL_cons] at h1
    by_cases hk : a.i = k
    · subst hk
      have g : ∀ {X : List RV}, (∀ q ∈ X, a.i < q.i) → getL X a.i = none := fun {X} hx => by
        unfold getL
        rw [List.find?_eq_none]
        intro q hq
        have := hx q hq
        simp; omega
      rw [g ha.1, g hb.1]
    · rwa [if_neg hk, if_neg hk] at h1
theorem putL_nil (r : RV) : putL [] r = [r] := rfl
theorem putL_cons (a : RV) (L : List RV) (r : RV) : putL (a :: L) r = if a.i < r.i then a :: putL L r else r :: a :: L := by
  unfold putL
  by_cases h : a.i < r.i
  · simp [h]
  · simp [h]
theorem mem_putL {L : List RV} {r q : RV} : q ∈ putL L r ↔ q = r ∨ q ∈ L := by
  induction L with
  | nil => simp [putL_nil]
  | cons a L ih =>
    rw [putL_cons]
    split
    · simp only [List.mem_cons, ih]
      constructor
      · rintro (h | h | h)
        · exact .inr (.inl h)
        · exact .inl h
        · exact .inr (.inr h)
      · rintro (h | h | h)
        · exact .inr (.inl h)
        · exact .inl h
        · exact .inr (.inr h)
    · simp
theorem length_putL (L : List RV) (r : RV) : (putL L r).length = L.length + 1 := by
  induction L with
  | nil => rfl
  | cons a L ih =>
    rw [putL_cons]
    split
    · simp [ih]
    · simp
theorem rise_putL {L : List RV} (h : Rise L) {r : RV} (hr : ∀ q ∈ L, q.i ≠ r.i) : Rise (putL L r) := by
  induction L with
  | nil => simp [putL_nil, Rise]
  | cons a L ih =>
    have ha := List.pairwise_cons.1 h
    have hne := hr a List.mem_cons_self
    rw [putL_cons]
    split
    · rename_i hlt
      refine List.pairwise_cons.2 ⟨fun q hq => ?_, ih ha.2 fun q hq => hr q (List.mem_cons_of_mem _ hq)⟩
      rcases mem_putL.1 hq with rfl | hq
      · exact hlt
      · exact ha.1 q hq
    · refine List.pairwise_cons.2 ⟨fun q hq => ?_, h⟩
      rcases List.mem_cons.1 hq with rfl | hq
      · omega
      · have := ha.1 q hq; omega
theorem getL_putL {L : List RV} {r : RV} (hr : getL L r.i = none) (k : Int) : getL (putL L r) k = if r.i = k then some r else getL L k := by
  induction L with
  | nil => rw [putL_nil, getL_cons]
  | cons a L ih =>
    have hne := getL_none hr a List.mem_cons_self
    rw [getL_cons, if_neg hne] at hr
    rw [putL_cons]
    split
    · rw [getL_cons, ih hr, getL_cons]
      by_cases h1 : a.i = k
      · rw [if_pos h1, if_pos h1, if_neg (by omega)]
      · rw [if_neg h1, if_neg h1]
    · rw [getL_cons]
theorem setL_cons (a : RV) (L : List RV) (r : RV) : setL (a :: L) r = (if a.i = r.i then r else a) :: setL L r := rfl
theorem getL_setL {L : List RV} {r : RV} {q : RV} (hr : getL L r.i = some q) (k : Int) : getL (setL L r) k = if r.i = k then some r else getL L k := by
  induction L with
  | nil => cases hr
  | cons a L ih =>
    rw [setL_cons, getL_cons, getL_cons]
    by_cases h1 : a.i = r.i
    · rw [if_pos h1]
      by_cases h2 : r.i = k
      · rw [if_pos h2, if_pos h2]
      · rw [if_neg h2, if_neg h2, if_neg (by omega)]
        clear ih hr
        induction L with
        | nil => rfl
        | cons b L ih =>
          rw [setL_cons, getL_cons, getL_cons, ih]
          by_cases h3 : b.i = r.i
          · rw [if_pos h3, if_neg h2, if_neg (by omega)]
          · rw [if_neg h3]
    · rw [if_neg h1]
      rw [getL_cons, if_neg h1] at hr
      rw [ih hr]
      by_cases h2 : a.i = k
      · rw [if_pos h2, if_pos h2, if_neg (by omega)]
      · rw [if_neg h2, if_neg h2]
theorem setL_ids (L : List RV) (r : RV) : (setL L r).map (·.i) = L.map (·.i) := by
  induction L with
  | nil => rfl
  | cons a L ih =>
    rw [setL_cons, List.map_cons, List.map_cons, ih]
    congr 1
    by_cases h : a.i = r.i <;> simp [h]
theorem rise_ids {L : List RV} : Rise L ↔ (L.map (·.i)).Pairwise (· < ·) := by rw [List.pairwise_map]
theorem rise_setL {L : List RV} (h : Rise L) (r : RV) : Rise (setL L r) := by rw [rise_ids, setL_ids, ← rise_ids]; exact h
theorem mem_setL {L : List RV} {r q : RV} (h : q ∈ setL L r) : q = r ∨ q ∈ L := by
  obtain ⟨x, hx, rfl⟩ := List.mem_map.1 h
  by_cases h1 : x.i = r.i
  · simp [h1]
  · simp [h1, hx]
/-- What stands at a number, once one range was heard. -/
def best (o : Option RV) (r : RV) : Option RV :=
  match o with
  | none => if mayV r = true then some r else none
  | some q => if mayV r = true ∧ q.e < r.e then some r else some q
theorem hear_get (L : List RV) (r : RV) (k : Int) : getL (hear L r).1 k = if r.i = k then best (getL L k) r else getL L k := by
  unfold hear
  by_cases hm : mayV r = true
  · rw [if_pos hm]
    cases hg : getL L r.i with
    | none =>
      rw [getL_putL hg]
      by_cases hk : r.i = k
      · rw [if_pos hk, if_pos hk]; subst hk; rw [hg]; simp [best, hm]
      · rw [if_neg hk, if_neg hk]
    | some q =>
      by_cases he : q.e < r.e
      · simp only [if_pos he]
        rw [getL_setL hg]
        by_cases hk : r.i = k
        · rw [if_pos hk, if_pos hk]; subst hk; rw [hg]; simp [best, hm, he]
        · rw [if_neg hk, if_neg hk]
      · simp only [if_neg he]
        by_cases hk : r.i = k
        · rw [if_pos hk]; subst hk; rw [hg]; simp [best, he]
        · rw [if_neg hk]
  · rw [if_neg hm]
    by_cases hk : r.i = k
    · rw [if_pos hk]
      cases getL L k <;> simp [best, hm]
    · rw [if_neg hk]
theorem hear_rise {L : List RV} (h : Rise L) (r : RV) : Rise (hear L r).1 := by
  unfold hear
  split
  · split
    · rename_i hg; exact rise_putL h (getL_none hg)
    · split
      · exact rise_setL h r
      · exact h
  · exact h
theorem hear_mem {L : List RV} {r q : RV} (h : q ∈ (hear L r).1) : q ∈ L ∨ (q = r ∧ mayV r = true) := by
  unfold hear at h
  split at h
  · rename_i hm
    split at h
    · rcases mem_putL.1 h with h | h
      · exact .inr ⟨h, hm⟩
      · exact .inl h
    · split at h
      · rcases mem_setL h with h | h
        · exact .inr ⟨h, hm⟩
        · exact .inl h
      · exact .inl h
  · exact .inl h
theorem hear_le (L : List RV) (r : RV) : (hear L r).2 ≤ 1 := by
  unfold hear
  split
  · split
    · exact Nat.le_refl _
    · split
      · exact Nat.le_refl _
      · exact Nat.zero_le _
  · exact Nat.zero_le _
theorem hear_len (L : List RV) (r : RV) : (hear L r).1.length ≤ L.length + 1 := by
  unfold hear
  split
  · split
    · exact Nat.le_of_eq (length_putL _ _)
    · split
      · simp [setL]
      · exact Nat.le_succ _
  · exact Nat.le_succ _
theorem learn_rise : ∀ (l : List RV) {L : List RV}, Rise L → Rise (learnL L l).1
  | [], _, h => h
  | r :: l, _, h => learn_rise l (hear_rise h r)
theorem learn_le : ∀ (l L : List RV), (learnL L l).2 ≤ l.length
  | [], _ => Nat.le_refl _
  | r :: l, L => by
    have h1 := hear_le L r
    have h2 := learn_le l (hear L r).1
    show (hear L r).2 + (learnL (hear L r).1 l).2 ≤ l.length + 1
    omega
theorem learn_mem : ∀ (l : List RV) {L : List RV} {q : RV}, q ∈ (learnL L l).1 → q ∈ L ∨ (q ∈ l ∧ mayV q = true)
  | [], _, _, h => .inl h
  | r :: l, _, _, h => by
    rcases learn_mem l h with h | h
    · rcases hear_mem h with h | ⟨rfl, h⟩
      · exact .inl h
      · exact .inr ⟨List.mem_cons_self, h⟩
    · exact .inr ⟨List.mem_cons_of_mem _ h.1, h.2⟩
def bestL (o : Option RV) (k : Int) : List RV → Option RV
  | [] => o
  | r :: l => bestL (if r.i = k then best o r else o) k l
theorem learn_get : ∀ (l L : List RV) (k : Int), getL (learnL L l).1 k = bestL (getL L k) k l
  | [], _, _ => rfl
  | r :: l, L, k => by
    show getL (learnL (hear L r).1 l).1 k = _
    rw [learn_get l, hear_get]
    rfl
/-- The best of all that were heard. -/
structure Best (o : Option RV) (k : Int) (l : List RV) (x : Option RV) : Prop where
  from_ : x = o ∨ ∃ r ∈ l, r.i = k ∧ mayV r = true ∧ x = some r ∧ ∀ q, o = some q → q.e < r.e
  all : ∀ r ∈ l, r.i = k → mayV r = true → ∃ y, x = some y ∧ r.e ≤ y.e
  old : ∀ q, o = some q → ∃ y, x = some y ∧ q.e ≤ y.e
theorem best_best : ∀ (l : List RV) (o : Option RV) (k : Int), Best o k l (bestL o k l)
  | [], o, k => ⟨.inl rfl, (fun r h => by cases h), fun q h => ⟨q, h, Int.le_refl _⟩⟩
  | r :: l, o, k => by
    have ih := best_best l (if r.i = k then best o r else o) k
    show Best o k (r :: l) (bestL (if r.i = k then best o r else o) k l)
    by_cases hk : r.i = k
    · rw [if_pos hk] at ih ⊢
      have hb : best o r = o ∨ (mayV r = true ∧ best o r = some r ∧ ∀ q, o = some q → q.e < r.e) := by
        cases o with
        | none => by_cases hm : mayV r = true <;> simp [best, hm]
        | some q => by_cases hm : mayV r = true ∧ q.e < r.e <;> simp [best, hm]
      have hold : ∀ q, o = some q → ∃ y, best o r = some y ∧ q.e ≤ y.e := by
        rintro q rfl
        by_cases hm : mayV r = true ∧ q.e < r.e
        · exact ⟨r, by simp [best, hm], by omega⟩
        · exact ⟨q, by simp only [best, if_neg hm], Int.le_refl _⟩
      have hnew : mayV r = true → ∃ y, best o r = some y ∧ r.e ≤ y.e := fun hm => by
        cases o with
        | none => exact ⟨r, by simp [best, hm], Int.le_refl _⟩
        | some q =>
          by_cases he : q.e < r.e
          · exact ⟨r, by simp [best, hm, he], Int.le_refl _⟩
          · exact ⟨q, by simp [best, he], by omega⟩
      refine ⟨?_, fun x hx hxk hxm => ?_, fun q hq => ?_⟩
      · rcases ih.from_ with e | ⟨x, hx, h1, h2, h3, h4⟩
        · rcases hb with e2 | ⟨h1, h2, h3⟩
          · exact .inl (e.trans e2)
          · exact .inr ⟨r, List.mem_cons_self, hk, h1, e.trans h2, h3⟩
        · refine .inr ⟨x, List.mem_cons_of_mem _ hx, h1, h2, h3, fun q hq => ?_⟩
          obtain ⟨y, hy, hle⟩ := hold q hq
          have := h4 y hy
          omega
      · rcases List.mem_cons.1 hx with rfl | hx
        · obtain ⟨y, hy, hle⟩ := hnew hxm
          obtain ⟨z, hz, hle2⟩ := ih.old y hy
          exact ⟨z, hz, by omega⟩
        · exact ih.all x hx hxk hxm
      · obtain ⟨y, hy, hle⟩ := hold q hq
        obtain ⟨z, hz, hle2⟩ := ih.old y hy
        exact ⟨z, hz, by omega⟩
    · rw [if_neg hk] at ih ⊢
      refine ⟨?_, fun x hx hxk hxm => ?_, ih.old⟩
      · rcases ih.from_ with e | ⟨x, hx, h⟩
        · exact .inl e
        · exact .inr ⟨x, List.mem_cons_of_mem _ hx, h⟩
      · rcases List.mem_cons.1 hx with rfl | hx
        · exact absurd hxk hk
        · exact ih.all x hx hxk hxm
/-- Of unlike epochs there is one best. -/
theorem best_one {o : Option RV} {k : Int} {l m : List RV} {x y : Option RV} (hx : Best o k l x) (hy : Best o k m y) (hlm : ∀ r, r ∈ l ↔ r ∈ m) (hu : ∀ r ∈ l, ∀ q ∈ l, r.i = q.i → r.e = q.e → r = q) : x = y := by
  rcases hx.from_ with rfl | ⟨r, hr, hr1, hr2, rfl, hr4⟩
  · rcases hy.from_ with rfl | ⟨q, hq, hq1, hq2, rfl, hq4⟩
    · rfl
    · obtain ⟨z, hz, hle⟩ := hx.all q ((hlm q).2 hq) hq1 hq2
      have := hq4 z hz
      omega
  · rcases hy.from_ with rfl | ⟨q, hq, hq1, hq2, rfl, hq4⟩
    · obtain ⟨z, hz, hle⟩ := hy.all r ((hlm r).1 hr) hr1 hr2
      have := hr4 z hz
      omega
    · obtain ⟨z, hz, hle⟩ := hx.all q ((hlm q).2 hq) hq1 hq2
      obtain ⟨z2, hz2, hle2⟩ := hy.all r ((hlm r).1 hr) hr1 hr2
      obtain rfl := Option.some.inj hz
      obtain rfl := Option.some.inj hz2
      rw [hu r hr q ((hlm q).2 hq) (hr1.trans hq1.symm) (by omega)]
theorem learn_turned {L l m : List RV} (hL : Rise L) (hlm : ∀ r, r ∈ l ↔ r ∈ m) (hu : ∀ r ∈ l, ∀ q ∈ l, r.i = q.i → r.e = q.e → r = q) : (learnL L l).1 = (learnL L m).1 :=
  rise_ext (learn_rise l hL) (learn_rise m hL) fun k => by
    rw [learn_get, learn_get]
    exact best_one (best_best l _ k) (best_best m _ k) hlm hu
theorem hear_stale {L : List RV} {r : RV} (h : mayV r = true → ∃ y, getL L r.i = some y ∧ r.e ≤ y.e) : hear L r = (L, 0) := by
  unfold hear
  split
  · rename_i hm
    obtain ⟨y, hy, hle⟩ := h hm
    rw [hy]
    show (if y.e < r.e then (setL L r, 1) else (L, 0)) = (L, 0)
    rw [if_neg (by omega)]
  · rfl
theorem learn_stale : ∀ {l L : List RV}, (∀ r ∈ l, mayV r = true → ∃ y, getL L r.i = some y ∧ r.e ≤ y.e) → learnL L l = (L, 0)
  | [], _, _ => rfl
  | r :: l, L, h => by
    have e := hear_stale (h r List.mem_cons_self)
    show ((learnL (hear L r).1 l).1, (hear L r).2 + (learnL (hear L r).1 l).2) = (L, 0)
    rw [e, learn_stale (L := L) (l := l) fun q hq => h q (List.mem_cons_of_mem _ hq)]
    rfl
theorem learn_again (L l : List RV) : learnL (learnL L l).1 l = ((learnL L l).1, 0) :=
  learn_stale fun r hr hm => by
    rw [learn_get]
    exact (best_best l _ _).all r hr rfl hm
end Go.Proofs.Ytfcdajkgopcmpaa
