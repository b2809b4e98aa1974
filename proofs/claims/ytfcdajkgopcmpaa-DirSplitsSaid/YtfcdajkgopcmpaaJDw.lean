/- A directory that is told of splits, beside the list of the law's own. Conditions: none. -/
import Derived.Test.YtfcdajkgopcmpaaJDv
import Derived.Test.YtfcdajkgopcmpaaJCx
import Derived.Test.YtfcdajkgopcmpaaJEv
namespace Go.Proofs.Ytfcdajkgopcmpaa
open Go.ChangeShapes Go.WideShapes Go.ChangeAt Go.RowKit
theorem Gr.rise {M : List RV} (h : Gr M) : Rise M := by
  refine List.pairwise_iff_getElem.2 fun i j hi hj hij => ?_
  rw [h.ids i hi, h.ids j hj]
  omega
section
variable {M : List RV} {K : Nat} {a b : RV}
theorem Gr.at_ (h : Gr M) (hK : K < M.length) {id : Int} (hi : id = M[K].i) : getL M id = some M[K] := by
  subst hi
  exact getL_mem h.rise (List.getElem_mem hK)
theorem Gr.top (h : Gr M) {id : Int} (hi : id = (M.length : Int) + 1) : ∀ q ∈ M, q.i ≠ id := by
  intro q hq
  obtain ⟨j, hj, rfl⟩ := List.getElem_of_mem hq
  rw [h.ids j hj]
  omega
theorem put_top {M : List RV} {b : RV} (h : ∀ q ∈ M, q.i < b.i) : putL M b = M ++ [b] := by
  induction M with
  | nil => rfl
  | cons q M ih => rw [putL_cons, if_pos (h q List.mem_cons_self), ih fun p hp => h p (List.mem_cons_of_mem _ hp)]; rfl
theorem Gr.lt (h : Gr M) {id : Int} (hi : id = (M.length : Int) + 1) : ∀ q ∈ M, q.i < id := by
  intro q hq
  obtain ⟨j, hj, rfl⟩ := List.getElem_of_mem hq
  rw [h.ids j hj]
  omega
theorem Gr.learn_a (h : Gr M) (hK : K < M.length) (hi : a.i = M[K].i) (he : a.e = M[K].e + 1) (hm : mayV a = true) : learnL M [a] = (M.set K a, 1) := by
  show ((hear M a).1, (hear M a).2 + 0) = _
  unfold hear
  rw [if_pos hm, h.at_ hK hi]
  simp only
  rw [if_pos (by omega), setL_at h.rise hK hi.symm]
theorem Gr.learn_b (h : Gr M) (hi : b.i = (M.length : Int) + 1) (hm : mayV b = true) : learnL M [b] = (M ++ [b], 1) := by
  show ((hear M b).1, (hear M b).2 + 0) = _
  rw [hear_new hm (h.top hi), put_top (h.lt hi)]
theorem set_ids (h : Gr M) (hK : K < M.length) (hi : a.i = M[K].i) : Rise (M.set K a) := by
  have := rise_setL h.rise a
  rwa [setL_at h.rise hK hi.symm] at this
theorem Gr.learn_ab (h : Gr M) (hK : K < M.length) (hi : a.i = M[K].i) (hb : b.i = (M.length : Int) + 1) (hmb : mayV b = true) : learnL (M.set K a) [a, b] = (M.set K a ++ [b], 1) := by
  have hr := set_ids h hK hi
  have ha : getL (M.set K a) a.i = some a := getL_mem hr (List.mem_set hK a)
  have e1 : hear (M.set K a) a = (M.set K a, 0) := hear_stale fun _ => ⟨a, ha, Int.le_refl _⟩
  have hlt : ∀ q ∈ M.set K a, q.i < b.i := fun q hq => by
    rcases List.mem_or_eq_of_mem_set hq with hq | rfl
    · exact h.lt hb q hq
    · rw [hi]; exact h.lt hb _ (List.getElem_mem hK)
  have e2 : hear (M.set K a) b = (M.set K a ++ [b], 1) := by
    rw [hear_new hmb (fun q hq => by have := hlt q hq; omega), put_top hlt]
  show ((hear (hear (M.set K a) a).1 b).1, (hear (M.set K a) a).2 + ((hear (hear (M.set K a) a).1 b).2 + 0)) = _
  rw [e1]
  simp only [e2]
theorem Gr.learn_ba (h : Gr M) (hK : K < M.length) (hi : a.i = M[K].i) (he : a.e = M[K].e + 1) (hb : b.i = (M.length : Int) + 1) (hma : mayV a = true) : learnL (M ++ [b]) [b, a] = (M.set K a ++ [b], 1) := by
  have hr : Rise (M ++ [b]) := List.pairwise_append.2 ⟨h.rise, List.pairwise_singleton _ _, fun q hq p hp => by
    obtain rfl := List.mem_singleton.1 hp
    exact h.lt hb q hq⟩
  have hbm : getL (M ++ [b]) b.i = some b := getL_mem hr (by simp)
  have e1 : hear (M ++ [b]) b = (M ++ [b], 0) := hear_stale fun _ => ⟨b, hbm, Int.le_refl _⟩
  have hK2 : K < (M ++ [b]).length := by simp; omega
  have hg : (M ++ [b])[K] = M[K] := List.getElem_append_left hK
  have hga : getL (M ++ [b]) a.i = some M[K] := by
    rw [hi, ← hg]
    exact getL_mem hr (List.getElem_mem hK2)
  have e2 : hear (M ++ [b]) a = (M.set K a ++ [b], 1) := by
    unfold hear
    rw [if_pos hma, hga]
    simp only
    rw [if_pos (by omega), setL_at hr hK2 (by rw [hg, hi]), List.set_append_left _ _ hK]
  show ((hear (hear (M ++ [b]) b).1 a).1, (hear (M ++ [b]) b).2 + ((hear (hear (M ++ [b]) b).1 a).2 + 0)) = _
  rw [e1]
  simp only [e2]
theorem learn_had {L l : List RV} (hr : Rise L) (h : ∀ r ∈ l, r ∈ L) : learnL L l = (L, 0) :=
  learn_stale fun r hr2 _ => ⟨r, getL_mem hr (h r hr2), Int.le_refl _⟩
/-- As long as the parent's half alone was told, a moved key is routed nowhere. -/
theorem Gr.route_a (h2 : Gr (M.set K a ++ [b])) {x : Nat} (hx : x < oneB) (hb : inV b x = true) : lastIn (M.set K a) x = (RV.zero, false) := by
  have h := count_one h2.cov hx
  have h1 : [b].countP (fun r => inV r x) = 1 := by simp [hb]
  rw [List.countP_append, h1] at h
  refine last_none fun r hr => ?_
  cases hi : inV r x with
  | false => rfl
  | true =>
    have h3 := (List.countP_pos_iff (p := fun r => inV r x)).2 ⟨r, hr, hi⟩
    exact absurd h (Nat.ne_of_gt (Nat.lt_add_of_pos_left h3))
theorem route_b {x : Nat} (hb : inV b x = true) : lastIn (M ++ [b]) x = (b, true) := by rw [lastIn_snoc, if_pos hb]
theorem count_same {p : RV → Bool} (h : M.countP p = 1) (ha : a ∈ M) (hb : b ∈ M) (h1 : p a = true) (h2 : p b = true) : a = b := by
  rw [List.countP_eq_length_filter] at h
  obtain ⟨z, hz⟩ := List.length_eq_one_iff.1 h
  have e1 : a ∈ M.filter p := List.mem_filter.2 ⟨ha, h1⟩
  have e2 : b ∈ M.filter p := List.mem_filter.2 ⟨hb, h2⟩
  rw [hz] at e1 e2
  rw [List.mem_singleton.1 e1, List.mem_singleton.1 e2]
/-- Behind it all each key is routed to the range in which its place lies. -/
theorem Gr.route (h : Gr M) {x : Nat} (hx : x < oneB) : ∃ r, findV M x = (r, true) ∧ lastIn M x = (r, true) := by
  obtain ⟨r, h1, h2⟩ := find_one h.cov hx
  have hm : r ∈ M := by
    unfold findV at h1
    split at h1
    · rename_i q hq
      simp only [Prod.mk.injEq] at h1
      rw [← h1.1]
      exact List.mem_of_find?_eq_some hq
    · simp at h1
  refine ⟨r, h1, last_one hm h2 fun q hq hi => ?_⟩
  exact count_same (count_one h.cov hx) hq hm hi h2
end
/-- The directory and the list beside each other. -/
structure SQ (w0 w : World) (a m : Nat) (N M : List RV) (g n c : Nat) : Prop where
  d : DKt (fun k => k = a ∨ k = m) w a N m
  row : w.ownsRow w0.heap.size 37 4 (.slice (some ⟨g, 0, none⟩) n c) n (cellsR M)
  len : M.length = n
  lo : Below w0.heap.size w0 w
  ba : w0.heap.size ≤ a
  bm : w0.heap.size ≤ m
section
variable {w0 w w' : World} {a m g n c : Nat} {N N' M M' : List RV}
theorem DKt.tight {C : Nat → Prop} (h : DKt C w a N m) : DKt (fun k => k = a ∨ k = m) w a N m :=
  ⟨h.box, h.map, h.rise, h.may, .inl rfl, .inr rfl, fun k hk => by rcases hk with rfl | rfl; exact h.lt _ h.ca; exact h.lt _ h.cm⟩
theorem DKt.far {C : Nat → Prop} (h : DKt C w a N m) {base e sz k : Nat} {v : Value} {xs : List Value} (ho : w.ownsRow base e sz v k xs) (he : e ≠ 72) : ∀ q, v.ownBlock = some q → ¬ (q = a ∨ q = m) := by
  intro q hq hc
  obtain ⟨cur, hg⟩ := own_cur ho hq
  rcases hc with rfl | rfl
  · rw [h.box] at hg
    injection hg with hg
    injection hg with _ hg _
    exact he hg.symm
  · obtain ⟨es, clock, hb, _⟩ := h.map
    rw [hb] at hg
    cases hg
theorem SQ.below (h : SQ w0 w a m N M g n c) (hb : Below w.heap.size w w') : SQ w0 w' a m N M g n c :=
  ⟨h.d.below hb, own_below h.row hb, h.len, h.lo.trans (hb.mono h.lo.size), h.ba, h.bm⟩
theorem SQ.learn (h : SQ w0 w a m N M g n c) (hd : DKm (fun k => k = a ∨ k = m) w' a N') (hw : Way (fun k => k = a ∨ k = m) w (fun k => k = a ∨ k = m) w') : SQ w0 w' a m N' M g n c := by
  obtain ⟨m', hd⟩ := hd
  have e : m' = m := by
    rcases hd.cm with e | e
    · exact absurd e.symm hd.am
    · exact e
  subst e
  refine ⟨hd, own_tn h.row hw.tn (h.d.far h.row (by decide)), h.len, h.lo.trans (hw.tn.below h.lo.size fun k hk => ?_), h.ba, h.bm⟩
  rcases hk with rfl | rfl
  · exact h.ba
  · exact h.bm
theorem SQ.turn {g' c' n' : Nat} (h : SQ w0 w a m N M g n c) (ht : Tn (· = g) w w') (ho : w'.ownsRow w0.heap.size 37 4 (.slice (some ⟨g', 0, none⟩) n' c') n' (cellsR M')) (hl : M'.length = n') : SQ w0 w' a m N M' g' n' c' := by
  refine ⟨h.d.tn ht (fun k hk e => h.d.far h.row (by decide) g rfl (by rw [← e]; exact hk)), ho, hl, h.lo.trans (ht.below h.lo.size fun k hk => ?_), h.ba, h.bm⟩
  rw [hk]
  exact (h.row.lt g rfl).1
end
end Go.Proofs.Ytfcdajkgopcmpaa
