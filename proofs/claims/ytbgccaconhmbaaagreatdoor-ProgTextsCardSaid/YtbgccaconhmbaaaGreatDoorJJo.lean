/- Two programs one behind the other: what both do, and what the second one does over what the first one wrote. Conditions: none of its own. What a program answers hangs on what was seen of the keys that it reads alone. Conditions: none of its own. -/
import Derived.Test.YtbgccaconhmbaaaGreatDoorJMk
namespace Go.Proofs.YtbgccaconhmbaaaGreatDoor
open Go.RowKit
/-- What was written, as what was seen, ahead of what was seen. -/
def asSeen (q : Nm × DV) : SeenV := ⟨q.1, q.2, 0, 0, 0⟩
def ovr (w : Ent DV) (l : List SeenV) : List SeenV := w.map asSeen ++ l
theorem seenO_app (a b : List SeenV) (k : Nm) : seenO (a ++ b) k = (seenO a k).or (seenO b k) := by
  unfold seenO
  rw [List.find?_append]
  cases a.find? (fun s => s.key == k) with
  | none => rfl
  | some s => rfl
theorem seenO_as (w : Ent DV) (k : Nm) : seenO (w.map asSeen) k = get w k := by
  unfold seenO get
  rw [List.find?_map]
  have : ((fun s : SeenV => s.key == k) ∘ asSeen) = fun p : Nm × DV => p.1 == k := rfl
  rw [this]
  cases w.find? (fun p => p.1 == k) with
  | none => rfl
  | some q => rfl
theorem seenO_ovr (w : Ent DV) (l : List SeenV) (k : Nm) : seenO (ovr w l) k = (get w k).or (seenO l k) := by
  unfold ovr; rw [seenO_app, seenO_as]
theorem seenF_ovr (w : Ent DV) (l : List SeenV) (k : Nm) : seenF (ovr w l) k = (get w k).getD (seenF l k) := by
  unfold seenF
  rw [seenO_ovr]
  cases get w k <;> rfl
theorem pop1_app {a b : List DV} (h : 1 ≤ b.length) : pop1 (a ++ b) = pop1 b := by
  unfold pop1
  rw [List.getD_eq_getElem?_getD, List.getD_eq_getElem?_getD, List.getElem?_append_right (by rw [List.length_append]; omega), List.length_append]
  congr 2
  omega
theorem pop2_app {a b : List DV} (h : 2 ≤ b.length) : pop2 (a ++ b) = pop2 b := by
  unfold pop2
  rw [List.getD_eq_getElem?_getD, List.getD_eq_getElem?_getD, List.getElem?_append_right (by rw [List.length_append]; omega), List.length_append]
  congr 2
  omega
theorem rest1_app {a b : List DV} (h : 1 ≤ b.length) : rest1 (a ++ b) = a ++ rest1 b := by
  unfold rest1
  rw [List.length_append, List.take_append, List.take_of_length_le (l := a) (by omega)]
  congr 2
  omega
theorem rest2_app {a b : List DV} (h : 2 ≤ b.length) : rest2 (a ++ b) = a ++ rest2 b := by
  unfold rest2
  rw [List.length_append, List.take_append, List.take_of_length_le (l := a) (by omega)]
  congr 2
  omega
theorem get_put (f : Ent DV) (hr : Rising f) (s : Nm) (x : DV) (k : Nm) : get (put f s x) k = if k = s then some x else get f k := by
  by_cases h : k = s
  · subst h; rw [if_pos rfl, get_put_same hr]
  · rw [if_neg h, get_put_other hr x h]
/-- What lies below a stack, and what was written before, is carried along. -/
def Over (w : Ent DV) (st0 : List DV) (a b : Out) : Prop :=
  match b with
  | .go st' x => ∃ wr', a = .go (st0 ++ st') wr' ∧ Rising wr' ∧ Rising x ∧ ∀ k, get wr' k = (get x k).or (get w k)
  | .no e => a = .no e
theorem step_over {f : Nm → DV} {w : Ent DV} {st0 st : List DV} {wr x : Ent DV} {o : OpV} (hb : badV st.length o = 0) (hr : Rising wr) (hx : Rising x) (hg : ∀ k, get wr k = (get x k).or (get w k)) :
    Over w st0 (stepV f (st0 ++ st) wr o) (stepV (fun k => (get w k).getD (f k)) st x o) := by
  obtain ⟨hok, _, hpop, _⟩ := badV_zero hb
  have hget : ∀ k, (get wr k).getD (f k) = (get x k).getD ((get w k).getD (f k)) := fun k => by
    rw [hg]
    cases get x k <;> rfl
  have hput : ∀ s v, ∀ k, get (put wr s v) k = (get (put x s v) k).or (get w k) := fun s v k => by
    rw [get_put wr hr, get_put x hx]
    by_cases e : k = s
    · rw [if_pos e, if_pos e]; rfl
    · rw [if_neg e, if_neg e, hg]
  obtain ⟨c, key, v⟩ := o
  simp only at *
  rcases ok_cases hok with rfl | rfl | rfl | rfl | rfl | rfl | rfl | rfl | rfl | rfl | rfl | rfl | rfl | rfl | rfl
  all_goals (simp only [popC] at hpop; simp at hpop)
  · refine ⟨wr, ?_, hr, hx, hg⟩
    simp only [stepV, if_true, List.append_assoc, hget]
  · refine ⟨put wr key (pop1 st), ?_, hr.put _ _, hx.put _ _, hput _ _⟩
    have h1 : 1 ≤ st.length := hpop
    simp [stepV, pop1_app h1, rest1_app h1]
  · refine ⟨put wr key DV.none, ?_, hr.put _ _, hx.put _ _, hput _ _⟩
    simp [stepV]
  · refine ⟨wr, ?_, hr, hx, hg⟩
    simp [stepV]
  iterate 6
    · have h2 : 2 ≤ st.length := hpop
      have h1 : 1 ≤ st.length := by omega
      by_cases ht : (pop2 st).k = 2 ∨ (pop1 st).k = 2
      · simp [stepV, pop1_app h1, pop2_app h2, ht, Over]
      · simp [stepV, pop1_app h1, pop2_app h2, rest2_app h2, ht, Over]
        exact ⟨hr, hx, hg⟩
  iterate 2
    · have h2 : 2 ≤ st.length := hpop
      have h1 : 1 ≤ st.length := by omega
      refine ⟨wr, ?_, hr, hx, hg⟩
      simp [stepV, pop1_app h1, pop2_app h2, rest2_app h2]
  · have h1 : 1 ≤ st.length := hpop
    by_cases ht : truthV (pop1 st) = true
    · simp [stepV, pop1_app h1, rest1_app h1, ht, Over]
      exact ⟨hr, hx, hg⟩
    · simp [stepV, pop1_app h1, ht, Over]
  · have h1 : 1 ≤ st.length := hpop
    refine ⟨wr, ?_, hr, hx, hg⟩
    simp [stepV, pop1_app h1, rest1_app h1]
  · have h2 : 2 ≤ st.length := hpop
    have h1 : 1 ≤ st.length := by omega
    refine ⟨wr, ?_, hr, hx, hg⟩
    simp [stepV, pop1_app h1, pop2_app h2, rest2_app h2]
theorem runL_over {f : Nm → DV} {w : Ent DV} {st0 : List DV} : ∀ {q : List OpV} {st : List DV} {wr x : Ent DV}, chkL st.length q = 0 → Rising wr → Rising x → (∀ k, get wr k = (get x k).or (get w k)) →
    Over w st0 (runL f q (st0 ++ st) wr) (runL (fun k => (get w k).getD (f k)) q st x)
  | [], st, wr, x, _, hr, hx, hg => ⟨wr, rfl, hr, hx, hg⟩
  | o :: q, st, wr, x, hc, hr, hx, hg => by
    obtain ⟨hb, hc2⟩ := chkL_cons hc
    have h := step_over (f := f) (st0 := st0) hb hr hx hg
    unfold runL
    cases e : stepV (fun k => (get w k).getD (f k)) st x o with
    | no y =>
      rw [e] at h
      have h : stepV f (st0 ++ st) wr o = .no y := h
      rw [h]
      exact rfl
    | go st' x' =>
      rw [e] at h
      obtain ⟨wr', h1, h2, h3, h4⟩ := h
      rw [h1]
      have hl := (step_go hb e).1
      exact runL_over (by rw [hl]; exact hc2) h2 h3 h4
theorem runV_may {p : List OpV} {l : List SeenV} (hw : ∀ o ∈ p, o.wf) (hl : ∀ s ∈ l, s.wf) (h : (runV p l).2 = 0) :
    (∀ q ∈ (runV p l).1, q.2.wf ∧ mayV q.2 = true) ∧ Rising (runV p l).1 ∧ names (runV p l).1 = namesV p := by
  obtain ⟨hc, hs, st, hr⟩ := run_good h
  obtain ⟨_, hc0, _, _⟩ := chkV_ok hc
  have hf : ∀ k, (seenF l k).wf := fun k => by
    unfold seenF seenO
    cases e : l.find? fun s => s.key == k with
    | none => exact none_wf
    | some s => exact (hl s (List.mem_of_find?_eq_some e)).2.1
  have := run_all (Q := fun v => v.wf ∧ mayV v = true) ⟨none_wf, by decide⟩ (fun x hx => ⟨one_wf hx, by unfold mayV; simp [canon_canon]⟩) (f := seenF l) (p := p) (st := []) (wr := []) hc0 (fun v h => by cases h) (fun q h => by cases h)
    (fun o ho => ⟨(hw o ho).2.2.2.1, (hw o ho).2.2, form_may (chk_forms hc0 o ho).2⟩) (fun o ho h1 => ⟨(hf _).2.1, hf _, (saw_zero.1 hs _ (mem_reads hc0 ho h1)).2⟩) rising_nil hr
  exact ⟨fun q hq => (this.2.1 q hq).2, this.2.2.1, this.2.2.2.1⟩
theorem readsV_right {p q : List OpV} {k : Nm} (h : k ∈ readsV q) : k ∈ readsV (p ++ q) := by
  unfold readsV at *
  rw [mem_setV] at *
  rw [keysV_append]
  exact List.mem_append_right _ h
theorem readsV_left {p q : List OpV} {k : Nm} (h : k ∈ readsV p) : k ∈ readsV (p ++ q) := by
  unfold readsV at *
  rw [mem_setV] at *
  rw [keysV_append]
  exact List.mem_append_left _ h
/-- P9.3: what two programs do, one behind the other. -/
theorem join_run {p q : List OpV} {l : List SeenV} (hw : ∀ o ∈ p, o.wf) (hl : ∀ s ∈ l, s.wf) (hp : chkV p = 0) (hq : chkV q = 0) (hb : chkV (p ++ q) = 0) (hs : saw l (readsV (p ++ q)) = 0) :
    ((runV p l).2 ≠ 0 → runV (p ++ q) l = ([], (runV p l).2)) ∧
    ((runV p l).2 = 0 → ((runV q (ovr (runV p l).1 l)).2 ≠ 0 → runV (p ++ q) l = ([], (runV q (ovr (runV p l).1 l)).2)) ∧
      ((runV q (ovr (runV p l).1 l)).2 = 0 → (runV (p ++ q) l).2 = 0 ∧ Rising (runV (p ++ q) l).1 ∧ Rising (runV q (ovr (runV p l).1 l)).1 ∧ Rising (runV p l).1 ∧
        ∀ k, get (runV (p ++ q) l).1 k = (get (runV q (ovr (runV p l).1 l)).1 k).or (get (runV p l).1 k))) := by
  have hsp : saw l (readsV p) = 0 := saw_zero.2 fun k hk => saw_zero.1 hs k (readsV_left hk)
  have e1 : runV p l = outV (runL (seenF l) p [] []) := runV_ok hp hsp
  have e2 : runV (p ++ q) l = outV (match runL (seenF l) p [] [] with | .go st' wr' => runL (seenF l) q st' wr' | .no e => .no e) := by
    rw [runV_ok hb hs, runL_append]
    rfl
  constructor
  · intro h
    cases hr : runL (seenF l) p [] [] with
    | go st wr => rw [e1, hr] at h; exact absurd rfl h
    | no e => rw [e2, e1, hr]; rfl
  intro h
  obtain ⟨hm, hri, _⟩ := runV_may hw hl h
  obtain ⟨_, _, st, hr⟩ := run_good h
  generalize (runV p l).1 = w at *
  rw [hr] at e2
  have e2 : runV (p ++ q) l = outV (runL (seenF l) q st w) := e2
  have hsq : saw (ovr w l) (readsV q) = 0 := saw_zero.2 fun k hk => by
    obtain ⟨h1, h2⟩ := saw_zero.1 hs k (readsV_right hk)
    rw [seenO_ovr, seenF_ovr]
    cases e : get w k with
    | none => exact ⟨h1, h2⟩
    | some v => exact ⟨rfl, (hm _ (get_mem e)).2⟩
  have e3 : runV q (ovr w l) = outV (runL (fun k => (get w k).getD (seenF l k)) q [] []) := by
    rw [runV_ok hq hsq]
    congr 1
    exact runL_congr (fun o _ _ => seenF_ovr w l o.key) _ _
  have ho := runL_over (f := seenF l) (w := w) (st0 := st) (q := q) (st := []) (wr := w) (x := []) (chkV_ok hq).2.1 hri rising_nil (fun k => by rw [get_nil]; rfl)
  rw [List.append_nil] at ho
  rw [e3, e2]
  cases hx : runL (fun k => (get w k).getD (seenF l k)) q [] [] with
  | no e =>
    rw [hx] at ho
    have ho : runL (seenF l) q st w = .no e := ho
    rw [ho]
    refine ⟨fun _ => rfl, fun h0 => ?_⟩
    rcases runL_err ho with rfl | rfl
    · exact absurd h0 (by show ¬ (22 : Int) = 0; decide)
    · exact absurd h0 (by show ¬ (23 : Int) = 0; decide)
  | go st' x =>
    rw [hx] at ho
    obtain ⟨wr', h1, h2, h3, h4⟩ := ho
    rw [h1]
    exact ⟨fun h0 => absurd rfl h0, fun _ => ⟨rfl, h2, h3, hri, h4⟩⟩
/- two lists of what is written as one -/
def mrg : Ent DV → Ent DV → Ent DV
  | [], x => x
  | a :: w, [] => a :: w
  | a :: w, b :: x => if a.1 < b.1 then a :: mrg w (b :: x) else if b.1 < a.1 then b :: mrg (a :: w) x else b :: mrg w x
termination_by w x => w.length + x.length
theorem mrg_nil (x : Ent DV) : mrg [] x = x := by rw [mrg]
theorem mrg_left : ∀ w : Ent DV, mrg w [] = w
  | [] => by rw [mrg]
  | a :: w => by rw [mrg]
theorem mrg_cons (a : Nm × DV) (w : Ent DV) (b : Nm × DV) (x : Ent DV) : mrg (a :: w) (b :: x) = if a.1 < b.1 then a :: mrg w (b :: x) else if b.1 < a.1 then b :: mrg (a :: w) x else b :: mrg w x := by rw [mrg]
theorem mrg_lo {c : Nm} : ∀ (w x : Ent DV), (∀ q ∈ w, c < q.1) → (∀ q ∈ x, c < q.1) → ∀ q ∈ mrg w x, c < q.1
  | [], x, _, hx => by rw [mrg_nil]; exact hx
  | a :: w, [], hw, _ => by rw [mrg_left]; exact hw
  | a :: w, b :: x, hw, hx => by
    rw [mrg_cons]
    have ha := hw a (by simp)
    have hb := hx b (by simp)
    have hw' : ∀ q ∈ w, c < q.1 := fun q h => hw q (by simp [h])
    have hx' : ∀ q ∈ x, c < q.1 := fun q h => hx q (by simp [h])
    split
    · intro q hq
      rcases List.mem_cons.1 hq with rfl | hq
      · exact ha
      · exact mrg_lo w (b :: x) hw' hx q hq
    · split
      · intro q hq
        rcases List.mem_cons.1 hq with rfl | hq
        · exact hb
        · exact mrg_lo (a :: w) x hw hx' q hq
      · intro q hq
        rcases List.mem_cons.1 hq with rfl | hq
        · exact hb
        · exact mrg_lo w x hw' hx' q hq
termination_by w x => w.length + x.length
theorem get_low {f : Ent DV} {k : Nm} (h : ∀ q ∈ f, k < q.1) : get f k = none := by
  cases e : get f k with
  | none => rfl
  | some v => exact absurd (h _ (get_mem e)) (nm_irrefl _)
theorem mrg_facts : ∀ (w x : Ent DV), Rising w → Rising x → Rising (mrg w x) ∧ ∀ k, get (mrg w x) k = (get x k).or (get w k)
  | [], x, _, hx => by rw [mrg_nil]; exact ⟨hx, fun k => by rw [get_nil]; cases get x k <;> rfl⟩
  | a :: w, [], hw, _ => by rw [mrg_left]; exact ⟨hw, fun k => by rw [get_nil]; rfl⟩
  | a :: w, b :: x, hw, hx => by
    rw [mrg_cons]
    by_cases h1 : a.1 < b.1
    · rw [if_pos h1]
      obtain ⟨i1, i2⟩ := mrg_facts w (b :: x) hw.tail hx
      have hlo : ∀ q ∈ b :: x, a.1 < q.1 := fun q hq => by
        rcases List.mem_cons.1 hq with rfl | hq
        · exact h1
        · exact nm_trans h1 (hx.head q hq)
      refine ⟨List.pairwise_cons.2 ⟨mrg_lo w (b :: x) hw.head hlo, i1⟩, fun k => ?_⟩
      rw [get_cons, i2, get_cons a w]
      by_cases e : a.1 == k
      · rw [if_pos e, if_pos e, ← eq_of_beq e, get_low hlo]; rfl
      · rw [if_neg e, if_neg e]
    · rw [if_neg h1]
      by_cases h2 : b.1 < a.1
      · rw [if_pos h2]
        obtain ⟨i1, i2⟩ := mrg_facts (a :: w) x hw hx.tail
        have hlo : ∀ q ∈ a :: w, b.1 < q.1 := fun q hq => by
          rcases List.mem_cons.1 hq with rfl | hq
          · exact h2
          · exact nm_trans h2 (hw.head q hq)
        refine ⟨List.pairwise_cons.2 ⟨mrg_lo (a :: w) x hlo hx.head, i1⟩, fun k => ?_⟩
        rw [get_cons, i2, get_cons b x]
        by_cases e : b.1 == k
        · rw [if_pos e, if_pos e]; rfl
        · rw [if_neg e, if_neg e]
      · rw [if_neg h2]
        obtain ⟨i1, i2⟩ := mrg_facts w x hw.tail hx.tail
        have he : a.1 = b.1 := by
          rcases nm_cases a.1 b.1 with e | e | e
          · exact absurd e h1
          · exact e
          · exact absurd e h2
        refine ⟨List.pairwise_cons.2 ⟨mrg_lo w x (he ▸ hw.head) hx.head, i1⟩, fun k => ?_⟩
        rw [get_cons, i2, get_cons b x, get_cons a w]
        by_cases e : b.1 == k
        · rw [if_pos e, if_pos e]; rfl
        · rw [if_neg e, if_neg e, if_neg (by rw [he]; exact e)]
termination_by w x => w.length + x.length
theorem join_all {w x a : Ent DV} (ha : Rising a) (hx : Rising x) (hw : Rising w) (h : ∀ k, get a k = (get x k).or (get w k)) : a = mrg w x := by
  obtain ⟨h1, h2⟩ := mrg_facts w x hw hx
  exact rising_ext ha h1 fun k => by rw [h, h2]
end Go.Proofs.YtbgccaconhmbaaaGreatDoor
namespace Go.Proofs.YtbgccaconhmbaaaGreatDoor
open Go.RowKit
theorem run_reads {p : List OpV} {a b : List SeenV} (h : ∀ k ∈ readsV p, seenO a k = seenO b k) : runV p a = runV p b := by
  have hF : ∀ k ∈ readsV p, seenF a k = seenF b k := fun k hk => by unfold seenF; rw [h k hk]
  have hsaw : saw a (readsV p) = saw b (readsV p) := by
    unfold saw
    have e1 : (readsV p).all (fun k => (seenO a k).isSome) = (readsV p).all (fun k => (seenO b k).isSome) := by
      rw [Bool.eq_iff_iff, List.all_eq_true, List.all_eq_true]
      exact ⟨fun g k hk => by rw [← h k hk]; exact g k hk, fun g k hk => by rw [h k hk]; exact g k hk⟩
    have e2 : (readsV p).all (fun k => mayV (seenF a k)) = (readsV p).all (fun k => mayV (seenF b k)) := by
      rw [Bool.eq_iff_iff, List.all_eq_true, List.all_eq_true]
      exact ⟨fun g k hk => by rw [← hF k hk]; exact g k hk, fun g k hk => by rw [hF k hk]; exact g k hk⟩
    rw [e1, e2]
  unfold runV
  rw [hsaw]
  by_cases hc : chkV p = 0
  · rw [if_pos hc, if_pos hc, runL_congr (fun o ho h1 => hF _ (mem_reads (chkV_ok hc).2.1 ho h1))]
  · rw [if_neg hc, if_neg hc]
/-- What was seen of other keys. -/
def otherV (ks : List Nm) (l : List SeenV) : List SeenV := l.filter fun s => !(ks.contains s.key)
/-- The first of what was seen of a key, with no stamp. -/
def headV (l : List SeenV) (k : Nm) : List SeenV := match l.find? (fun s => s.key == k) with | some s => [⟨s.key, s.v, 0, 0, 0⟩] | none => []
def turnV (ks : List Nm) (l : List SeenV) : List SeenV := ks.reverse.flatMap (headV l)
theorem seenO_other {ks : List Nm} {k : Nm} (hk : k ∈ ks) (l : List SeenV) : seenO (otherV ks l) k = none := by
  unfold seenO otherV
  rw [List.find?_eq_none.2]
  · rfl
  intro s hs
  obtain ⟨_, h⟩ := List.mem_filter.1 hs
  intro e
  have e : s.key = k := by simpa using e
  rw [e] at h
  simp [hk] at h
theorem firstV_keys {l : List SeenV} {k : Nm} : ∀ s ∈ headV l k, s.key = k := by
  intro s hs
  unfold headV at hs
  cases e : l.find? (fun s => s.key == k) with
  | none => rw [e] at hs; cases hs
  | some r =>
    rw [e] at hs
    obtain rfl := List.mem_singleton.1 hs
    have := List.find?_some (p := fun s : SeenV => s.key == k) e
    simpa using this
theorem seenO_first (l : List SeenV) (k : Nm) : seenO (headV l k) k = seenO l k := by
  unfold seenO headV
  cases e : l.find? (fun s => s.key == k) with
  | none => rfl
  | some r =>
    have : (r.key == k) = true := List.find?_some (p := fun s : SeenV => s.key == k) e
    simp [this]
theorem seenO_not {l : List SeenV} {k : Nm} (h : ∀ s ∈ l, s.key ≠ k) : seenO l k = none := by
  unfold seenO
  rw [List.find?_eq_none.2 fun s hs => by simpa using h s hs]
  rfl
theorem seenO_flat (l : List SeenV) (k : Nm) : ∀ ks : List Nm, k ∈ ks → seenO (ks.flatMap (headV l)) k = seenO l k
  | [], h => by cases h
  | a :: ks, h => by
    rw [List.flatMap_cons, seenO_app]
    by_cases e : a = k
    · subst e
      rw [seenO_first]
      by_cases hm : a ∈ ks
      · rw [seenO_flat l a ks hm]; cases seenO l a <;> rfl
      · have : seenO (ks.flatMap (headV l)) a = none := seenO_not fun s hs => by
          obtain ⟨b, hb, hs⟩ := List.mem_flatMap.1 hs
          rw [firstV_keys s hs]
          intro e; subst e; exact hm hb
        rw [this]; cases seenO l a <;> rfl
    · rw [seenO_not fun s hs => by rw [firstV_keys s hs]; exact e]
      rcases List.mem_cons.1 h with h | h
      · exact absurd h.symm e
      · rw [seenO_flat l k ks h]; rfl
/-- P9.7. -/
theorem run_turned (p : List OpV) (l m : List SeenV) : runV p (otherV (readsV p) m ++ turnV (readsV p) l) = runV p l :=
  run_reads fun k hk => by
    rw [seenO_app, seenO_other hk]
    unfold turnV
    rw [seenO_flat l k _ (List.mem_reverse.2 hk)]
    rfl
end Go.Proofs.YtbgccaconhmbaaaGreatDoor
