/- What raceref9.Run's loops keep to, in plain terms; two values of an own row that change places. Conditions: none of its own. -/
import Derived.Test.YtbgccaconhmbaaaGreatDoorJPv
import Derived.Test.YtbgccaconhmbaaaGreatDoorJRg
import Derived.Test.YtbgccaconhmbaaaGreatDoorJSi
import Derived.Test.YtbgccaconhmbaaaGreatDoorJKy
import Derived.Test.YtbgccaconhmbaaaGreatDoorJMk
import Derived.Test.YtbgccaconhmbaaaGreatDoorJMf
import Derived.Laws.OwnMore
namespace Go.Proofs.YtbgccaconhmbaaaGreatDoor
open Go.ChangeShapes Go.WideShapes Go.ChangeAt Go.RowKit Go.Deep
theorem seen_at {l : List SeenV} {k : Nm} (h : (seenO l k).isSome = true) : ∃ i, ∃ hi : i < l.length, idxI l k = (i : Int) ∧ l[i].v = seenF l k := by
  rcases seen_idx (l := l) (k := k) with ⟨_, h2⟩ | ⟨i, hi, h1, h2⟩
  · rw [h2] at h; cases h
  · exact ⟨i, hi, h1, by unfold seenF; rw [h2]; rfl⟩
theorem seen_neg {l : List SeenV} {k : Nm} (h : seenO l k = none) : idxI l k = -1 := by
  rcases seen_idx (l := l) (k := k) with ⟨h1, _⟩ | ⟨i, hi, _, h2⟩
  · exact h1
  · rw [h2] at h; cases h
theorem get_take_yes {W : Ent DV} (hr : Rising W) {k : Nat} (h : k < W.length) {s : Nm} (e : W[k].1 = s) (z : DV) : (get (W.take (k + 1)) s).getD z = W[k].2 := by
  have hr2 : Rising (W.take (k + 1)) := List.Pairwise.sublist (List.take_sublist _ _) hr
  have hm : (s, W[k].2) ∈ W.take (k + 1) := by
    rw [take_snocW h, ← e]
    exact List.mem_append.2 (.inr (by simp))
  rw [mem_get hr2 hm]; rfl
theorem get_take_no {W : Ent DV} {k : Nat} (h : k < W.length) {s : Nm} (e : W[k].1 ≠ s) (z : DV) : (get (W.take (k + 1)) s).getD z = (get (W.take k) s).getD z := by
  rw [take_snocW h]
  unfold get
  rw [List.find?_append]
  have : List.find? (fun p : Nm × DV => p.1 == s) [W[k]] = none := by
    rw [List.find?_cons, beq_eq_false_iff_ne.2 e]; rfl
  rw [this, Option.or_none]
theorem get_take_nil {W : Ent DV} {s : Nm} (z : DV) : (get (W.take 0) s).getD z = z := rfl
theorem step_one {f : Nm → DV} {st : List DV} {wr : Ent DV} {o : OpV} (h : o.c = 1) : stepV f st wr o = .go (st ++ [(get wr o.key).getD (f o.key)]) wr := by unfold stepV; rw [if_pos h]
theorem step_two {f : Nm → DV} {st : List DV} {wr : Ent DV} {o : OpV} (h : o.c = 2) : stepV f st wr o = .go (rest1 st) (put wr o.key (pop1 st)) := by unfold stepV; rw [if_neg (by omega), if_pos h]
theorem step_three {f : Nm → DV} {st : List DV} {wr : Ent DV} {o : OpV} (h : o.c = 3) : stepV f st wr o = .go st (put wr o.key DV.none) := by unfold stepV; rw [if_neg (by omega), if_neg (by omega), if_pos h]
theorem step_four {f : Nm → DV} {st : List DV} {wr : Ent DV} {o : OpV} (h : o.c = 4) : stepV f st wr o = .go (st ++ [o.v]) wr := by unfold stepV; rw [if_neg (by omega), if_neg (by omega), if_neg (by omega), if_pos h]
theorem step_need {f : Nm → DV} {st : List DV} {wr : Ent DV} {o : OpV} (h : o.c = 13) : stepV f st wr o = if truthV (pop1 st) = true then .go (rest1 st) wr else .no 22 := by unfold stepV; rw [if_neg (by omega), if_neg (by omega), if_neg (by omega), if_neg (by omega), if_pos h]
theorem step_dup {f : Nm → DV} {st : List DV} {wr : Ent DV} {o : OpV} (h : o.c = 14) : stepV f st wr o = .go (rest1 st ++ [pop1 st, pop1 st]) wr := by unfold stepV; rw [if_neg (by omega), if_neg (by omega), if_neg (by omega), if_neg (by omega), if_neg (by omega), if_pos h]
theorem step_swap {f : Nm → DV} {st : List DV} {wr : Ent DV} {o : OpV} (h : o.c = 15) : stepV f st wr o = .go (rest2 st ++ [pop1 st, pop2 st]) wr := by unfold stepV; rw [if_neg (by omega), if_neg (by omega), if_neg (by omega), if_neg (by omega), if_neg (by omega), if_neg (by omega), if_pos h]
theorem step_reck {f : Nm → DV} {st : List DV} {wr : Ent DV} {o : OpV} (h1 : 5 ≤ o.c) (h2 : o.c ≤ 12) : stepV f st wr o = if (reckV o.c (pop2 st) (pop1 st)).2 = 0 then .go (rest2 st ++ [(reckV o.c (pop2 st) (pop1 st)).1]) wr else .no (reckV o.c (pop2 st) (pop1 st)).2 := by
  unfold stepV reckV
  rw [if_neg (by omega), if_neg (by omega), if_neg (by omega), if_neg (by omega), if_neg (by omega), if_neg (by omega), if_neg (by omega)]
  by_cases h11 : o.c = 11
  · rw [if_pos h11, if_pos h11]; rfl
  · rw [if_neg h11, if_neg h11]
    by_cases h12 : o.c = 12
    · rw [if_pos h12, if_pos h12]; rfl
    · rw [if_neg h12, if_neg h12]
      by_cases hk : (pop2 st).k = 2 ∨ (pop1 st).k = 2
      · rw [if_pos hk, if_pos hk]; rfl
      · rw [if_neg hk, if_neg hk]; rfl
theorem rest1_pop {st : List DV} (h : 1 ≤ st.length) : rest1 st ++ [pop1 st] = st := by
  have e : pop1 st = st[st.length - 1]'(by omega) := by
    unfold pop1
    rw [List.getD_eq_getElem?_getD, List.getElem?_eq_getElem (by omega)]; rfl
  rw [e]
  unfold rest1
  have := List.take_append_getElem (l := st) (i := st.length - 1) (by omega)
  rw [this, show st.length - 1 + 1 = st.length by omega, List.take_length]
theorem dup_eq {st : List DV} (h : 1 ≤ st.length) : rest1 st ++ [pop1 st, pop1 st] = st ++ [pop1 st] := by
  have : rest1 st ++ [pop1 st, pop1 st] = (rest1 st ++ [pop1 st]) ++ [pop1 st] := by simp
  rw [this, rest1_pop h]
/-- A value's cells in an own row of values. -/
structure VAt (w : World) (g o : Nat) (v : DV) : Prop where
  c0 : w.cell? ⟨g, o, none⟩ = some (.int .i64 v.k)
  c1 : w.cell? ⟨g, o + 1, none⟩ = some (.float .f64 v.x)
  c2 : w.cell? ⟨g, o + 2, none⟩ = some (.string ⟨v.s.toArray⟩)
  f0 : w.frozen? ⟨g, o, none⟩ = false
  f1 : w.frozen? ⟨g, o + 1, none⟩ = false
  f2 : w.frozen? ⟨g, o + 2, none⟩ = false
theorem VAt.below {B : Nat} {w w' : World} {g o : Nat} {v : DV} (h : VAt w g o v) (hb : Below B w w') (hl : g < B) : VAt w' g o v :=
  ⟨(hb.cell (p := ⟨g, o, none⟩) hl).trans h.c0, (hb.cell (p := ⟨g, o + 1, none⟩) hl).trans h.c1, (hb.cell (p := ⟨g, o + 2, none⟩) hl).trans h.c2, (hb.frozen (p := ⟨g, o, none⟩) hl).trans h.f0, (hb.frozen (p := ⟨g, o + 1, none⟩) hl).trans h.f1, (hb.frozen (p := ⟨g, o + 2, none⟩) hl).trans h.f2⟩
section
variable {w : World} {base n : Nat} {v : Value} {st : List DV}
theorem own_vat {g cap : Nat} (h : w.ownsRow base 48 3 (.slice (some ⟨g, 0, none⟩) n cap) n (cellsG dvC st)) {j : Nat} (hj : j < st.length) : VAt w g (j * 3) st[j] := by
  have hc := fun i u (hu : (dvC st[j])[i]? = some u) => h.cells (g := g) rfl _ _ (cellsG_get dvC_len st j hj i u hu)
  have c0 := hc 0 _ rfl
  have c1 := hc 1 _ rfl
  have c2 := hc 2 _ rfl
  rw [Addr.add_lit, Nat.zero_add] at c0 c1 c2
  exact ⟨c0, c1, c2, h.frozenAt _, h.frozenAt _, h.frozenAt _⟩
/-- The top of a stack. -/
theorem stk_one (h : w.ownsRow base 48 3 v n (cellsG dvC st)) (hn : st.length = n) {m : Nat} (hm : n = m + 1) : ∃ g cap, v = .slice (some ⟨g, 0, none⟩) (m + 1) cap ∧ m + 1 ≤ cap ∧ cap ≤ maxLen ∧ g < w.heap.size ∧ base ≤ g ∧ VAt w g (m * 3) (pop1 st) := by
  have hp : pop1 st = st[m]'(by omega) := by
    unfold pop1
    rw [show st.length - 1 = m by omega, List.getD_eq_getElem?_getD, List.getElem?_eq_getElem (by omega)]
    rfl
  subst hm
  rcases h.2 with ⟨_, h0⟩ | ⟨g, cap, cur, rfl, hb, hg, hn2, hmx, hcs, ht⟩
  · omega
  · rw [hp]
    exact ⟨g, cap, rfl, by omega, hmx, (Array.getElem?_eq_some_iff.1 hg).1, hb, own_vat h (by omega)⟩
theorem stk_two {g cap m : Nat} (h : w.ownsRow base 48 3 (.slice (some ⟨g, 0, none⟩) n cap) n (cellsG dvC st)) (hn : st.length = n) (hm : n = m + 2) : VAt w g (m * 3) (pop2 st) := by
  have hp : pop2 st = st[m]'(by omega) := by
    unfold pop2
    rw [show st.length - 2 = m by omega, List.getD_eq_getElem?_getD, List.getElem?_eq_getElem (by omega)]
    rfl
  rw [hp]
  exact own_vat h (by omega)
/-- A shorter stack. -/
theorem stk_cut {ao : Option Addr} {cap k : Nat} (h : w.ownsRow base 48 3 (.slice ao n cap) n (cellsG dvC st)) (hk : k ≤ n) : w.ownsRow base 48 3 (.slice ao k cap) k (cellsG dvC (st.take k)) := own_cut dvC_len h hk
theorem grown_trans {w w1 w2 : World} {row : Option Nat} (h1 : w.grownBy w1 row) (h2 : w1.grownBy w2 row) : w.grownBy w2 row :=
  ⟨h2.os.trans h1.os, h2.tape.trans h1.tape, h2.output.trans h1.output, Nat.le_trans h1.size h2.size, fun k hk hn => (h2.block k (Nat.lt_of_lt_of_le hk h1.size) hn).trans (h1.block k hk hn)⟩
abbrev setV3 (w : World) (g o : Nat) (v : DV) : World := ((w.setCell ⟨g, o, none⟩ (.int .i64 v.k)).setCell ⟨g, o + 1, none⟩ (.float .f64 v.x)).setCell ⟨g, o + 2, none⟩ (.string ⟨v.s.toArray⟩)
theorem cellsV_set : ∀ (M : List DV) (j : Nat), j < M.length → ∀ r : DV, cellsG dvC (M.set j r) = (((cellsG dvC M).set (j * 3) (.int .i64 r.k)).set (j * 3 + 1) (.float .f64 r.x)).set (j * 3 + 2) (.string ⟨r.s.toArray⟩)
  | [], j, h, _ => absurd h (Nat.not_lt_zero _)
  | q :: t, 0, _, r => rfl
  | q :: t, j + 1, h, r => by
    have := cellsV_set t j (Nat.lt_of_succ_lt_succ h) r
    have hc : ∀ (a : DV) (L : List DV), cellsG dvC (a :: L) = .int .i64 a.k :: .float .f64 a.x :: .string ⟨a.s.toArray⟩ :: cellsG dvC L := fun _ _ => rfl
    rw [List.set_cons_succ, hc, this, hc, show (j + 1) * 3 = j * 3 + 3 by omega]
    rfl
theorem own_set3 {g cap j : Nat} (h : w.ownsRow base 48 3 (.slice (some ⟨g, 0, none⟩) n cap) n (cellsG dvC st)) (hj : j < st.length) (r : DV) :
    (setV3 w g (j * 3) r).ownsRow base 48 3 (.slice (some ⟨g, 0, none⟩) n cap) n (cellsG dvC (st.set j r)) ∧ w.grownBy (setV3 w g (j * 3) r) (some g) := by
  obtain ⟨a1, b1⟩ := h.stored (j * 3) (.int .i64 r.k)
  obtain ⟨a2, b2⟩ := a1.stored (j * 3 + 1) (.float .f64 r.x)
  obtain ⟨a3, b3⟩ := a2.stored (j * 3 + 2) (.string ⟨r.s.toArray⟩)
  refine ⟨by rw [cellsV_set st j hj]; exact a3, ?_⟩
  exact grown_trans (grown_trans b1 b2) b3
theorem set_two {m : Nat} (hn : st.length = m + 2) : (st.set (m + 1) (pop2 st)).set m (pop1 st) = rest2 st ++ [pop1 st, pop2 st] := by
  generalize pop1 st = a
  generalize pop2 st = b
  unfold rest2
  rw [show st.length - 2 = m by omega]
  apply List.ext_getElem
  · simp; omega
  · intro i h1 h2
    simp only [List.length_set] at h1
    rw [List.getElem_set, List.getElem_set, List.getElem_append]
    by_cases e1 : m = i
    · subst e1
      simp [Nat.min_eq_left (show m ≤ st.length by omega)]
    · by_cases e2 : m + 1 = i
      · subst e2
        simp [Nat.min_eq_left (show m ≤ st.length by omega)]
        omega
      · have : i < m := by omega
        simp [e1, e2]
        omega
end
theorem own_apart {w : World} {B C e f n m a b : Nat} {v u : Value} {xs ys : List Value} (h : w.ownsRow B e a v n xs) (h2 : w.ownsRow C f b u m ys) (hef : e ≠ f) : ∀ k, v.ownBlock = some k → u.ownBlock ≠ some k := by
  intro k hk hk2
  rcases h.2 with ⟨rfl, _⟩ | ⟨g, cap, cur, rfl, _, hg, _⟩
  · cases hk
  rcases h2.2 with ⟨rfl, _⟩ | ⟨g', cap', cur', rfl, _, hg', _⟩
  · cases hk2
  simp [Value.ownBlock] at hk hk2
  subst hk hk2
  rw [hg] at hg'
  simp at hg'
  exact hef hg'.2
theorem own_grown_by {w w' : World} {B C e f n m a b : Nat} {v u : Value} {xs ys : List Value} (h : w.ownsRow B e a v n xs) (h2 : w.ownsRow C f b u m ys) (hef : e ≠ f) (hg : w.grownBy w' u.ownBlock) : w'.ownsRow B e a v n xs := by
  refine ⟨h.1, ?_⟩
  rcases h.2 with h0 | ⟨g, cap, cur, rfl, hb, hg1, r⟩
  · exact .inl h0
  · have hne := own_apart h h2 hef g rfl
    exact .inr ⟨g, cap, cur, rfl, hb, (hg.block g (Array.getElem?_eq_some_iff.1 hg1).1 (fun e => hne e.symm)).trans hg1, r⟩
end Go.Proofs.YtbgccaconhmbaaaGreatDoor
