/- copy within a row of the call's own, of structs; the net's list turned in place. Conditions: none of its own. -/
import Derived.Test.YtcgbjpmmbbldpaaKc
import Derived.Laws.IdiomCopy
namespace Go.Proofs.Ytcgbjpmmbbldpaa
open Go.ChangeShapes Go.WideShapes Go.ChangeAt Go.RowKit Go.Deep
/-- A list of which cells have been laid anew from a place on. -/
def over (xs : List Value) : Nat → List Value → List Value
  | _, [] => xs
  | o, v :: r => over (xs.set o v) (o + 1) r
theorem over_length : ∀ (vs xs : List Value) (o : Nat), (over xs o vs).length = xs.length
  | [], _, _ => rfl
  | v :: r, xs, o => by rw [over, over_length r]; simp
theorem over_eq : ∀ (vs xs : List Value) (o : Nat), o + vs.length ≤ xs.length → over xs o vs = xs.take o ++ (vs ++ xs.drop (o + vs.length))
  | [], xs, o, _ => by simp [over]
  | v :: r, xs, o, h => by
    have h' : o + 1 + r.length ≤ (xs.set o v).length := by simp at h ⊢; omega
    have ho : o < xs.length := by simp at h; omega
    rw [over, over_eq r _ _ h']
    have e1 : (xs.set o v).take (o + 1) = xs.take o ++ [v] := by
      rw [List.take_succ_eq_append_getElem (by simpa using ho), List.getElem_set_self, List.take_set_of_le (Nat.le_refl _)]
    have e2 : (xs.set o v).drop (o + 1 + r.length) = xs.drop (o + (v :: r).length) := by
      rw [List.drop_set_of_lt (by omega)]
      congr 1
      simp
      omega
    rw [e1, e2]
    simp
theorem own_setCells {base : Nat} {e : TypeId} {size g n cap : Nat} : ∀ (vs : List Value) (o : Nat) {w : World} {xs : List Value}, w.ownsRow base e size (.slice (some ⟨g, 0, none⟩) n cap) n xs → (w.setCells g o vs).ownsRow base e size (.slice (some ⟨g, 0, none⟩) n cap) n (over xs o vs)
  | [], _, _, _, h => h
  | v :: r, o, _, _, h => own_setCells r (o + 1) (h.stored o v).1
theorem tn_setCells {g : Nat} : ∀ (vs : List Value) (o : Nat) {w w1 : World}, Tn (· = g) w w1 → Tn (· = g) w (w1.setCells g o vs)
  | [], _, _, _, h => h
  | v :: r, o, _, _, h => tn_setCells r (o + 1) (tn_set h v)
theorem own_cells {base : Nat} {e : TypeId} {size g n cap : Nat} {xs : List Value} {w : World} (h : w.ownsRow base e size (.slice (some ⟨g, 0, none⟩) n cap) n xs) {j : Nat} (hj : j < n * size) : (w.cell? ⟨g, j, none⟩) = xs[j]? ∧ w.frozen? ⟨g, j, none⟩ = false ∧ xs.length = n * size := by
  obtain ⟨hl, h2⟩ := h
  rcases h2 with ⟨h3, _⟩ | ⟨g', cap', cur, h3, hb, hg, hn, hc, hs, ht⟩
  · cases h3
  · injection h3 with e1 e2 e3
    injection e1 with e1
    injection e1 with e1
    subst e1 e3
    refine ⟨?_, by simp [World.frozen?, hg], hl⟩
    rw [← ht, List.getElem?_take_of_lt hj]
    simp [World.cell?, hg]
theorem own_max {base : Nat} {e : TypeId} {size g n cap : Nat} {xs : List Value} {w : World} (h : w.ownsRow base e size (.slice (some ⟨g, 0, none⟩) n cap) n xs) : n ≤ cap ∧ cap ≤ 9223372036854775807 := by
  rcases h.2 with ⟨h3, _⟩ | ⟨g', cap', cur, h3, hb, hg, hn, hc, hs, ht⟩
  · cases h3
  · injection h3 with e1 e2 e3
    subst e3
    exact ⟨hn, Nat.le_trans hc (by decide)⟩
/-- copy of structs, all cells read before any is written. -/
theorem run_copy_G {P : Program} (w : World) (dT sT ty elem : TypeId) (i : TypeInfo) (size : Nat) (hu : P.underlying dT = some (.slice elem)) (hi : P.info? elem = some i) (hz : i.size = size) (g o dLen dCap : Nat) (a : Addr) (sLen sCap : Nat) (cs : List Value)
    (hn : cs.length = Nat.min sLen dLen * size) (hsrc : ∀ j v, cs[j]? = some v → w.cell? (a.add j) = some v) (hc : ∀ j, j < cs.length → (w.cell? ⟨g, o + j, none⟩).isSome = true) (hf : ∀ j, j < cs.length → w.frozen? ⟨g, o + j, none⟩ = false) (h1 : ∀ v ∈ cs, v.oneCell' = true) :
    (Builtin.copy_ #[dT, sT] ty #[.slice (some ⟨g, o, none⟩) dLen dCap, .slice (some a) sLen sCap]).run P w = .ok (goInt (Nat.min sLen dLen)) (w.setCells g o cs) := by
  have hl := run_loadCells_list (P := P) w a cs hsrc
  have hst := run_storeCells_cells (P := P) g o cs 0 w (by simpa using hc) (by simpa using hf) h1
  simp only [Nat.add_zero] at hst
  simp [Builtin.copy_, run_underlying hu, Builtin.lenOf, Builtin.firstCells, sizeOf, typeInfo, hi, hz, ← hn, hl, hst]
theorem run_copy_G0 {P : Program} (w : World) (dT sT ty elem : TypeId) (i : TypeInfo) (hu : P.underlying dT = some (.slice elem)) (hi : P.info? elem = some i) (d a : Option Addr) (dLen dCap sLen sCap : Nat) (hn : Nat.min sLen dLen = 0) :
    (Builtin.copy_ #[dT, sT] ty #[.slice d dLen dCap, .slice a sLen sCap]).run P w = .ok (goInt 0) w := by
  have hl : ∀ (x : Addr), (loadCells x 0).run P w = .ok #[] w := fun x => by simpa using run_loadCells_list (P := P) w x [] (by simp)
  cases d <;> cases a <;> simp [Builtin.copy_, run_underlying hu, Builtin.lenOf, Builtin.firstCells, sizeOf, typeInfo, hi, hn, storeCells, hl]
/-- copy within a row of the call's own, as one step of a region that draws its order. -/
theorem step_copy_own {P : Program} {ops : Array Oper} {o : Oper} {a : Act} {w : World} {K : Act → World → Prop} {Q : Exit → Act → World → Prop} {E : Prop} (hgd : o.guard = none) (d s : Operand) (dT sT : TypeId)
    (ho : o.op = .call { callee := .builtin .copy, args := #[d, s], argTypes := #[dT, sT] }) (elem : TypeId) (i : TypeInfo) (size : Nat) (hu : P.underlying dT = some (.slice elem)) (hi : P.info? elem = some i) (hz : i.size = size) (hsz : 0 < size)
    (dp sp : Option Addr) (dLen dCap sLen sCap : Nat) (hd : a.eval d = .slice dp dLen dCap) (hs : a.eval s = .slice sp sLen sCap)
    {base g N cap : Nat} {xs : List Value} (hown : w.ownsRow base elem size (.slice (some ⟨g, 0, none⟩) N cap) N xs) (off : Nat) (cs : List Value) (hn : cs.length = Nat.min sLen dLen * size)
    (hpos : 0 < cs.length → dp = some ⟨g, off, none⟩ ∧ ∃ ad, sp = some ad ∧ ∀ j v, cs[j]? = some v → w.cell? (ad.add j) = some v)
    (hfit : off + cs.length ≤ N * size) (h1 : ∀ v ∈ cs, v.oneCell' = true)
    (h : ∀ w', Hid (w'.ownsRow base elem size (.slice (some ⟨g, 0, none⟩) N cap) N (over xs off cs)) → Hid (Tn (· = g) w w') → K (a.put o.dst (goInt (Nat.min sLen dLen))) w') :
    if Region.wanted o (yielded ops a.tmps) = true then Oper.wp P o a w K Q else E := by
  have hw : Region.wanted o (yielded ops a.tmps) = true := by simp [Region.wanted, hgd]
  rw [if_pos hw]
  by_cases h0 : cs.length = 0
  · obtain rfl : cs = [] := List.eq_nil_of_length_eq_zero h0
    have hm : Nat.min sLen dLen = 0 := by
      rcases Nat.mul_eq_zero.1 hn.symm with e | e
      · exact e
      · omega
    have hrun := run_copy_G0 (P := P) w dT sT o.type elem i hu hi dp sp dLen dCap sLen sCap hm
    have hK := h w (Lib.hid hown) (Lib.hid (Tn.refl _ _))
    rw [hm] at hK
    unfold Oper.wp
    simp [execOp, ho, resolve, invoke, builtin, hd, hs, hrun, Result.andThen]
    exact hK
  · obtain ⟨rfl, ad, rfl, hsrc⟩ := hpos (by omega)
    have hrun := run_copy_G (P := P) w dT sT o.type elem i size hu hi hz g off dLen dCap ad sLen sCap cs hn hsrc (fun j hj => by rw [(own_cells hown (j := off + j) (by omega)).1, List.getElem?_eq_getElem (by rw [hown.1]; omega)]; rfl) (fun j hj => (own_cells hown (j := off + j) (by omega)).2.1) h1
    have hK := h _ (Lib.hid (own_setCells cs off hown)) (Lib.hid (tn_setCells cs off (Tn.refl _ w)))
    unfold Oper.wp
    simp only [execOp, ho, resolve, invoke, builtin, Sem.run_bind, Sem.run_pure, Result.andThen_ok, List.map_toArray, List.map_cons, List.map_nil, hd, hs, hrun]
    exact hK
section
variable {C S : Nat → Prop} {w w' : World} {a g : Nat} {room : Int} {l : List MV} {v : Value} {L L' : List MH}
/-- The list's cells have been turned in place. -/
theorem NKt.turned (h : NKt C w a room l v L) (hv : v.ownBlock = some g) (ht : Tn (· = g) w w') (ho : w'.ownsRow 0 40 3 v L'.length (cellsG mC L')) (hd : ∀ x ∈ L', DA C w x) : NKt C w' a room (L'.map (·.1)) v L' := by
  refine ⟨ht.at_ h.box (fun e => own_ne h.ml.own h.box (by decide) g hv e.symm), ⟨ho, h.ml.row, fun x hx => ?_⟩, rfl, h.ca, fun k hk => Nat.lt_of_lt_of_le (h.lt k hk) ht.size⟩
  exact (hd x hx).tn ht (fun k hk e => own_apart h.ml.own (hd x hx).own (by decide) g hv (e ▸ hk))
/-- It ends earlier. -/
theorem NKt.cut {ao : Option Addr} {n cap k : Nat} (h : NKt C w a room l (.slice ao n cap) L) (hn : n = L.length) (hk : k ≤ n) : NKt C (w.setCell ⟨a, 1, none⟩ (.slice ao k cap)) a room (l.take k) (.slice ao k cap) (L.take k) ∧ Tn (· = a) w (w.setCell ⟨a, 1, none⟩ (.slice ao k cap)) := by
  have ht : Tn (· = a) w (w.setCell ⟨a, 1, none⟩ (.slice ao k cap)) := tn_set (Tn.refl _ _) _
  have ho := h.ml.own
  rw [← hn] at ho
  have h2 := own_cut mC_len ho hk
  refine ⟨⟨heap_set h.box _ rfl, ⟨?_, fun q hq => h.ml.row q (by cases ao <;> exact hq), fun x hx => ?_⟩, by rw [← h.eq, List.map_take], h.ca, fun q hq => Nat.lt_of_lt_of_le (h.lt q hq) ht.size⟩, ht⟩
  · rw [show (L.take k).length = k by rw [List.length_take]; omega]
    exact own_tn h2 ht (own_ne h2 h.box (by decide))
  · have hx2 := h.ml.dat x (List.mem_of_mem_take hx)
    exact hx2.tn ht (hx2.ne h.box (by decide))
end
end Go.Proofs.Ytcgbjpmmbbldpaa
