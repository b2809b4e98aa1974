/- Own rows of ranges of which one is laid anew; two that change places. Conditions: none of its own. -/
import Derived.Test.YtfcdajkgopcmpaaJEv
import Derived.Laws.OwnMore
import Derived.Laws.AppendOwnNone
import Derived.Maps.AppendAt
import Derived.Deep.Upon
namespace Go.Proofs.Ytfcdajkgopcmpaa
open Go.ChangeShapes Go.WideShapes Go.ChangeAt Go.RowKit
theorem grown_trans {w w1 w2 : World} {row : Option Nat} (h1 : w.grownBy w1 row) (h2 : w1.grownBy w2 row) : w.grownBy w2 row :=
  ⟨h2.os.trans h1.os, h2.tape.trans h1.tape, h2.output.trans h1.output, Nat.le_trans h1.size h2.size, fun k hk hn => (h2.block k (Nat.lt_of_lt_of_le hk h1.size) hn).trans (h1.block k hk hn)⟩
theorem own_shape {w : World} {base : Nat} {e : TypeId} {size : Nat} {v : Value} {n : Nat} {xs : List Value} (h : w.ownsRow base e size v n xs) (hn : 0 < n) : ∃ g cap, v = .slice (some ⟨g, 0, none⟩) n cap := by
  rcases h.2 with ⟨_, h0⟩ | ⟨g, cap, cur, hv, _⟩
  · omega
  · exact ⟨g, cap, hv⟩
abbrev setR (w : World) (g o : Nat) (r : RV) : World := (((w.setCell ⟨g, o, none⟩ (.int .i64 r.i)).setCell ⟨g, o + 1, none⟩ (.int .i64 r.e)).setCell ⟨g, o + 2, none⟩ (.float .f64 r.lo)).setCell ⟨g, o + 3, none⟩ (.float .f64 r.hi)
theorem cellsR_set : ∀ (M : List RV) (j : Nat), j < M.length → ∀ r : RV, cellsR (M.set j r) = ((((cellsR M).set (j * 4) (.int .i64 r.i)).set (j * 4 + 1) (.int .i64 r.e)).set (j * 4 + 2) (.float .f64 r.lo)).set (j * 4 + 3) (.float .f64 r.hi)
  | [], j, h, _ => absurd h (Nat.not_lt_zero _)
  | q :: t, 0, _, r => rfl
  | q :: t, j + 1, h, r => by
    have := cellsR_set t j (Nat.lt_of_succ_lt_succ h) r
    rw [List.set_cons_succ, cellsR_cons, this, cellsR_cons, show (j + 1) * 4 = j * 4 + 4 by omega]
    rfl
section
variable {w : World} {base g n cap : Nat} {M : List RV}
theorem own_set {j : Nat} (h : w.ownsRow base 37 4 (.slice (some ⟨g, 0, none⟩) n cap) n (cellsR M)) (hj : j < M.length) (r : RV) :
    (setR w g (j * 4) r).ownsRow base 37 4 (.slice (some ⟨g, 0, none⟩) n cap) n (cellsR (M.set j r)) ∧ w.grownBy (setR w g (j * 4) r) (some g) := by
  obtain ⟨a1, b1⟩ := h.stored (j * 4) (.int .i64 r.i)
  obtain ⟨a2, b2⟩ := a1.stored (j * 4 + 1) (.int .i64 r.e)
  obtain ⟨a3, b3⟩ := a2.stored (j * 4 + 2) (.float .f64 r.lo)
  obtain ⟨a4, b4⟩ := a3.stored (j * 4 + 3) (.float .f64 r.hi)
  refine ⟨by rw [cellsR_set M j hj]; exact a4, ?_⟩
  exact grown_trans (grown_trans (grown_trans b1 b2) b3) b4
theorem below_setR {B : Nat} {w w' : World} {g : Nat} (h : Below B w w') (hb : B ≤ g) (o : Nat) (r : RV) : Below B w (setR w' g o r) :=
  (((h.setCell (p := ⟨g, o, none⟩) hb _).setCell (p := ⟨g, o + 1, none⟩) hb _).setCell (p := ⟨g, o + 2, none⟩) hb _).setCell (p := ⟨g, o + 3, none⟩) hb _
/-- Range j's cells of an own row, and that they may be written. -/
structure Oc (w : World) (g o : Nat) (r : RV) : Prop where
  c0 : w.cell? ⟨g, o, none⟩ = some (.int .i64 r.i)
  c1 : w.cell? ⟨g, o + 1, none⟩ = some (.int .i64 r.e)
  c2 : w.cell? ⟨g, o + 2, none⟩ = some (.float .f64 r.lo)
  c3 : w.cell? ⟨g, o + 3, none⟩ = some (.float .f64 r.hi)
  f0 : w.frozen? ⟨g, o, none⟩ = false
  f1 : w.frozen? ⟨g, o + 1, none⟩ = false
  f2 : w.frozen? ⟨g, o + 2, none⟩ = false
  f3 : w.frozen? ⟨g, o + 3, none⟩ = false
theorem own_oc {j : Nat} (h : w.ownsRow base 37 4 (.slice (some ⟨g, 0, none⟩) n cap) n (cellsR M)) (hj : j < M.length) : Oc w g (j * 4) M[j] := by
  obtain ⟨h0, h1, h2, h3⟩ := cellsR_get M j hj
  have c := fun j u hu => h.cells (g := g) rfl j u hu
  have c0 := c _ _ h0; have c1 := c _ _ h1; have c2 := c _ _ h2; have c3 := c _ _ h3
  rw [Addr.add_lit, Nat.zero_add] at c0 c1 c2 c3
  exact ⟨c0, c1, c2, c3, h.frozenAt _, h.frozenAt _, h.frozenAt _, h.frozenAt _⟩
end
/-- TWO THAT CHANGE PLACES: the same ranges. -/
theorem swap_perm : ∀ (M : List RV) (j : Nat) (h0 : 0 < M.length) (hj : j < M.length), ((M.set 0 M[j]).set j M[0]).Perm M
  | [], _, h0, _ => absurd h0 (Nat.not_lt_zero _)
  | x :: t, 0, _, _ => by simp
  | x :: t, k + 1, _, hj => by
    have hk : k < t.length := Nat.lt_of_succ_lt_succ hj
    simp only [List.getElem_cons_succ, List.set_cons_zero, List.getElem_cons_zero, List.set_cons_succ]
    rw [List.set_eq_take_append_cons_drop, if_pos hk]
    have e : t = t.take k ++ t[k] :: t.drop (k + 1) := by rw [← List.drop_eq_getElem_cons hk, List.take_append_drop]
    conv => rhs; rw [e]
    refine (List.Perm.cons _ List.perm_middle).trans ((List.Perm.swap _ _ _).trans (List.Perm.cons _ List.perm_middle.symm))
theorem own_slice {w : World} {base : Nat} {e : TypeId} {size : Nat} {v : Value} {n : Nat} {xs : List Value} (h : w.ownsRow base e size v n xs) : ∃ ao cap, v = .slice ao n cap := by
  rcases h.2 with ⟨rfl, rfl⟩ | ⟨g, cap, cur, rfl, _⟩
  · exact ⟨none, 0, rfl⟩
  · exact ⟨_, cap, rfl⟩
/-- append of ranges, whatever they are, onto a row of the call's own. -/
theorem run_append_ranges {w : World} {B : Nat} {v : Value} {M L : List RV} {n : Nat} (ty : TypeId) (h : w.ownsRow B 37 4 v n (cellsR M)) (hB : B ≤ w.heap.size) {P : Nat → Prop} {ao : Option Addr} {m cap : Nat} (hm : HasR P w (.slice ao m cap) L) (hroom : (n + m) * 32 ≤ 140737488355328) :
    ∃ v' w', (Builtin.append_ #[22, 22] ty #[v, .slice ao m cap]).run Try.prog w = .ok v' w' ∧ w'.ownsRow B 37 4 v' (n + m) (cellsR (M ++ L)) ∧ w.grownBy w' v.ownBlock := by
  obtain ⟨i0, hi, hz0, hz1, hz2⟩ := info34s
  have hml : m = L.length := by
    obtain ⟨ao', cap', e, _⟩ := hm
    simp at e
    exact e.2.1
  have hcat : cellsR (M ++ L) = cellsR M ++ cellsR L := by simp [cellsR]
  cases ao with
  | none =>
    have h2 : L = [] ∧ cap = 0 := by
      obtain ⟨ao', cap', e, _, _, h3, _⟩ := hm
      simp at e
      obtain ⟨rfl, _, rfl⟩ := e
      exact ⟨(h3 rfl).2, (h3 rfl).1⟩
    obtain ⟨rfl, rfl⟩ := h2
    obtain rfl : m = 0 := hml
    obtain ⟨ao2, cap2, rfl⟩ := own_slice h
    have hle : n ≤ cap2 := by
      rcases h.2 with ⟨e, _⟩ | ⟨g, cap, cur, e, _, _, hn, _⟩
      · simp at e; omega
      · simp at e; omega
    refine ⟨_, w, run_append_nothing (P := Try.prog) w 22 22 ty 37 i0 Try.underlying22 hi ao2 n cap2 hle _ (Src.ofNil w Try.underlying22 0), ?_, ⟨rfl, rfl, rfl, Nat.le_refl _, fun _ _ _ => rfl⟩⟩
    rw [List.append_nil]; exact h
  | some ad =>
    obtain ⟨v', w', h1, h2, h3, _⟩ := run_append_own (P := Try.prog) w B 22 ty 37 i0 _ 4 32 Try.underlying22 hi hz0 hz1 hz2 rfl (by decide) v n (cellsR M) h ad m cap (cellsR L) (by rw [cellsR_length, hml]) (hm.news ad rfl) (cellsR_one L) (by unfold maxLen; omega) (by omega) hB
    exact ⟨v', w', h1, by rw [hcat]; exact h2, h3⟩
theorem wpList_append_ranges {ops : Array Oper} {rest : List Oper} {o : Oper} {a : Act} {w : World} {Q : Exit → Act → World → Prop} (hw : Region.wanted o (yielded ops a.tmps) = true) (s x : Operand)
    (ho : o.op = .call { callee := .builtin .append, args := #[s, x], argTypes := #[22, 22] })
    {B n : Nat} {v : Value} {M L : List RV} (hs : a.eval s = v) (hown : w.ownsRow B 37 4 v n (cellsR M)) (hB : B ≤ w.heap.size) {P : Nat → Prop} {ao : Option Addr} {m cap : Nat} (hx : a.eval x = .slice ao m cap) (hm : HasR P w (.slice ao m cap) L)
    (hroom : (n + m) * 32 ≤ 140737488355328)
    (h : ∀ v' w', w'.ownsRow B 37 4 v' (n + m) (cellsR (M ++ L)) → w.grownBy w' v.ownBlock → wpList Try.prog ops Q rest (a.put o.dst v') w') : wpList Try.prog ops Q (o :: rest) a w := by
  obtain ⟨v', w', hr, h2, h3⟩ := run_append_ranges o.type hown hB hm hroom
  refine wpList_step fun K hK => ?_
  rw [if_pos hw]
  unfold Oper.wp execOp
  simp only [ho, resolve, invoke, builtin, Sem.run_bind, Sem.run_pure, Result.andThen_ok, List.map_toArray, List.map_cons, List.map_nil, hs, hx, hr]
  exact hK _ _ (h v' w' h2 h3)
theorem oper_append_ranges {ops : Array Oper} {o : Oper} {a : Act} {w : World} {K' : Act → World → Prop} {Q : Exit → Act → World → Prop} {X : Prop} (hw : Region.wanted o (yielded ops a.tmps) = true) (s x : Operand)
    (ho : o.op = .call { callee := .builtin .append, args := #[s, x], argTypes := #[22, 22] })
    {B n : Nat} {v : Value} {M L : List RV} (hs : a.eval s = v) (hown : w.ownsRow B 37 4 v n (cellsR M)) (hB : B ≤ w.heap.size) {P : Nat → Prop} {ao : Option Addr} {m cap : Nat} (hx : a.eval x = .slice ao m cap) (hm : HasR P w (.slice ao m cap) L)
    (hroom : (n + m) * 32 ≤ 140737488355328)
    (h : ∀ v' w', w'.ownsRow B 37 4 v' (n + m) (cellsR (M ++ L)) → w.grownBy w' v.ownBlock → K' (a.put o.dst v') w') : if Region.wanted o (yielded ops a.tmps) = true then o.wp Try.prog a w K' Q else X := by
  obtain ⟨v', w', hr, h2, h3⟩ := run_append_ranges o.type hown hB hm hroom
  rw [if_pos hw]
  unfold Oper.wp execOp
  simp only [ho, resolve, invoke, builtin, Sem.run_bind, Sem.run_pure, Result.andThen_ok, List.map_toArray, List.map_cons, List.map_nil, hs, hx, hr]
  exact h v' w' h2 h3
theorem wanted_none {o : Oper} (h : o.guard = none) (y : Nat → Option Bool) : Region.wanted o y = true := by simp [Region.wanted, h]
theorem own_below {base : Nat} {e : TypeId} {size : Nat} {v : Value} {n : Nat} {xs : List Value} {w w' : World} (ho : w.ownsRow base e size v n xs) (h : Below w.heap.size w w') : w'.ownsRow base e size v n xs := by
  refine ⟨ho.1, ?_⟩
  rcases ho.2 with h2 | ⟨g, cap, cur, rfl, hb, hg, r⟩
  · exact .inl h2
  · exact .inr ⟨g, cap, cur, rfl, hb, (h.block g (Array.getElem?_eq_some_iff.1 hg).1).trans hg, r⟩
theorem own_below_grown {B : Nat} {e : TypeId} {size : Nat} {w w' : World} {v : Value} {n : Nat} {xs : List Value} (h : w.ownsRow B e size v n xs) (hB : B ≤ w.heap.size) (hg : w.grownBy w' v.ownBlock) : Below B w w' :=
  (Below.refl B w).grown hg hB (fun k hk => (h.lt k hk).1)
/-- A row that came in, from its beginning on, and from a place on. -/
theorem has_top {P : Nat → Prop} {w : World} {ao : Option Addr} {n cap k : Nat} {l : List RV} (h : HasR P w (.slice ao n cap) l) (hk : k ≤ n) : HasR P w (.slice ao k cap) (l.take k) := by
  obtain ⟨ao', cap', e, h1, h2, h3, h4⟩ := h
  simp at e
  obtain ⟨rfl, rfl, rfl⟩ := e
  have hl : (l.take k).length = k := by rw [List.length_take]; omega
  refine ⟨ao, cap, by rw [hl], by rw [hl]; omega, h2, fun e => ⟨(h3 e).1, by rw [(h3 e).2]; simp⟩, ?_⟩
  rcases h4 with rfl | ⟨b, o, h4, h5, h6, h7⟩
  · exact .inl (by simp)
  · exact .inr ⟨b, o, h4, h5, h6, fun i hi => by rw [List.getElem_take]; exact h7 i (by rw [hl] at hi; omega)⟩
theorem has_rest {P : Nat → Prop} {w : World} {b o n cap k : Nat} {l : List RV} (h : HasR P w (.slice (some ⟨b, o, none⟩) n cap) l) (hk : k ≤ n) : HasR P w (.slice (some ⟨b, o + k * 4, none⟩) (n - k) (cap - k)) (l.drop k) := by
  obtain ⟨ao', cap', e, h1, h2, h3, h4⟩ := h
  simp at e
  obtain ⟨rfl, rfl, rfl⟩ := e
  have hl : (l.drop k).length = l.length - k := List.length_drop
  refine ⟨_, cap - k, by rw [hl], by rw [hl]; omega, by omega, (fun e => by cases e), ?_⟩
  rcases h4 with rfl | ⟨b', o', h4, h5, h6, h7⟩
  · exact .inl (by simp)
  · cases h4
    exact .inr ⟨b, o + k * 4, rfl, h5, h6, fun i hi => by
      rw [hl] at hi
      have := h7 (k + i) (by omega)
      rw [List.getElem_drop, show o + k * 4 + i * 4 = o + (k + i) * 4 by omega]
      exact this⟩
theorem getD_in {M : List RV} {j : Nat} (h : j < M.length) : M.getD j RV.zero = M[j] := by
  rw [List.getD_eq_getElem?_getD, List.getElem?_eq_getElem h]; rfl
theorem own_at {w : World} {base g n cap j : Nat} {M : List RV} {r : RV} (h : w.ownsRow base 37 4 (.slice (some ⟨g, 0, none⟩) n cap) n (cellsR M)) (hj : j < M.length) (hr : M.getD j RV.zero = r) : Oc w g (j * 4) r := by
  rw [← hr, getD_in hj]; exact own_oc h hj
theorem swap_at {M : List RV} {j : Nat} (h0 : 0 < M.length) (hj : j < M.length) {a b : RV} (ha : M.getD 0 RV.zero = a) (hb : M.getD j RV.zero = b) : ((M.set 0 b).set j a).Perm M := by
  rw [← ha, ← hb, getD_in h0, getD_in hj]; exact swap_perm M j h0 hj
theorem oc_set {w : World} {base g n cap j : Nat} {M : List RV} (h : w.ownsRow base 37 4 (.slice (some ⟨g, 0, none⟩) n cap) n (cellsR M)) (hj : j < M.length) : ∃ r, Oc w g (j * 4) r := ⟨_, own_oc h hj⟩
end Go.Proofs.Ytfcdajkgopcmpaa
