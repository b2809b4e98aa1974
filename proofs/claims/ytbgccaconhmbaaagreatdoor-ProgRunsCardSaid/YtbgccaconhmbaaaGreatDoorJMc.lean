/- A machine as it lies in memory: its stack, the maps of what was seen and of what is written. Conditions: none. A machine's push, pop, get. Conditions: none. A machine's pair, test, compare, need, reckon. Conditions: bits below 2^64 where values are compared. -/
import Derived.Test.YtbgccaconhmbaaaGreatDoorJTw
import Derived.Maps.RangeWalk
import Derived.Maps.OwnSet
import Derived.Maps.Ext
import Derived.Sort.KeysCollected
import Derived.Deep.RegionLaw
namespace Go.Proofs.YtbgccaconhmbaaaGreatDoor
open Go.ChangeShapes Go.WideShapes Go.ChangeAt Go.RowKit Go.Deep
abbrev nmv (s : Nm) : Value := .string ⟨s.toArray⟩
def dat (d : DV) : DataW Unit := .agg [.lit (.int .i64 d.k), .lit (.float .f64 d.x), .lit (.string d.s)]
/-- How a value reads. -/
def valE (v : Value) : Option (DataW Unit × List MemPlace) :=
  match v with
  | .agg a => match a.toList with
    | [.int .i64 k, .float .f64 x, .string s] => some (.agg [.lit (.int .i64 k), .lit (.float .f64 x), .lit (.string s.data.toList)], [])
    | _ => none
  | _ => none
theorem valE_mk (d : DV) : valE (vagg d) = some (dat d, []) := rfl
theorem valE_inv {v : Value} {d : DV} {ps : List MemPlace} (h : valE v = some (dat d, ps)) : v = vagg d := by
  unfold valE at h
  split at h
  · rename_i a
    split at h
    · rename_i k x s hs
      unfold dat at h
      simp only [Option.some.injEq, Prod.mk.injEq, DataW.agg.injEq, List.cons.injEq, DataW.lit.injEq, Lit.int.injEq, Lit.float.injEq, Lit.string.injEq, true_and, and_true] at h
      obtain ⟨⟨h1, h2, h3⟩, _⟩ := h
      obtain ⟨l⟩ := a
      simp only at hs
      subst hs h1 h2
      show Value.agg #[.int .i64 d.k, .float .f64 d.x, .string s] = .agg #[.int .i64 d.k, .float .f64 d.x, .string ⟨d.s.toArray⟩]
      rw [← h3]
    · cases h
  · cases h
def ent (p : Nm × DV) : Lit × DataW Unit := (.string p.1, dat p.2)
def dmap (L : Ent DV) : DataW Unit := .map (L.map ent)
theorem before_eq : ∀ (a b : Nm), bytesBefore a b = decide (a < b)
  | [], [] => by simp [bytesBefore]
  | [], _ :: _ => by simp [bytesBefore]
  | _ :: _, [] => by simp [bytesBefore]
  | a :: r, b :: s => by
    unfold bytesBefore
    rw [before_eq r s, Bool.eq_iff_iff]
    simp [List.cons_lt_cons_iff]
theorem insert_ent (s : Nm) (b : DV) : ∀ {L : Ent DV}, (∀ p ∈ L, p.1 ≠ s) → DataW.insert (ent (s, b)) (L.map ent) = (ins s b L).map ent
  | [], _ => rfl
  | p :: L, h => by
    have hp := h p (by simp)
    show (if bytesBefore s p.1 then _ else _) = _
    unfold ins
    rw [before_eq]
    rcases nm_cases p.1 s with k | k | k
    · have : ¬ s < p.1 := fun e => nm_irrefl _ (nm_trans k e)
      rw [if_pos k, if_neg (by simpa using this), insert_ent s b (fun q hq => h q (by simp [hq]))]
      rfl
    · exact absurd k hp
    · have : ¬ p.1 < s := fun e => nm_irrefl _ (nm_trans k e)
      rw [if_neg this, if_pos (by simpa using k)]
      rfl
theorem filter_ent (L : Ent DV) (s : Nm) : (L.map ent).filter (fun p => !p.1.sameKey (.string s)) = (del L s).map ent := by
  unfold del
  rw [List.filter_map]
  rfl
theorem put_dmap (L : Ent DV) (s : Nm) (b : DV) : (dmap L).put (.string s) (dat b) = dmap (put L s b) := by
  show DataW.map (DataW.insert (ent (s, b)) ((L.map ent).filter fun p => !p.1.sameKey (.string s))) = _
  rw [filter_ent, insert_ent s b (fun p hp => (mem_del.1 hp).2)]
  rfl
theorem has_dmap (L : Ent DV) (s : Nm) : Maps.has (dmap L) (.string s) = has L s := by
  show (L.map ent).any (fun p => p.1.sameKey (.string s)) = _
  rw [List.any_map]
  rfl
theorem size_dmap (L : Ent DV) : Maps.size (dmap L) = L.length := by
  show (L.map ent).length = _
  rw [List.length_map]
theorem atKey_dmap (L : Ent DV) (s : Nm) (z : DataW Unit) : (dmap L).atKey (.string s) z = match get L s with | some b => dat b | none => z := by
  unfold dmap get
  simp only [DataW.atKey, List.find?_map]
  have e : ((fun p : Lit × DataW Unit => p.1.sameKey (.string s)) ∘ ent) = fun p => p.1 == s := rfl
  rw [e]
  cases L.find? fun p => p.1 == s <;> rfl
theorem under_map : Tryz.prog.underlying 78 = some (.map 9 48) := by kernel_rfl
theorem law_str : Maps.Keyed Tryz.prog 9 := Maps.string_keyed Tryz.underlying9
theorem zero_val (w : World) : (zeroValue 48).run Tryz.prog w = .ok (vagg DV.none) w := by kernel_rfl
theorem key_str {s : Nm} (h : s.length ≤ maxLen) : keyOf Tryz.prog 9 (nmv s) = some (.string s) := WideMaps.keyOf_string_mk Tryz.underlying9 (s := ⟨s.toArray⟩) (by simpa [ByteArray.size] using h)
/-- A map of values as it lies in memory. -/
abbrev MAt (w : World) (m : Nat) (L : Ent DV) : Prop := w.ownsMap Tryz.prog 9 valE m L.length (dmap L)
theorem mat_tight {w : World} {m n : Nat} {L : Ent DV} (h : w.ownsMap Tryz.prog 9 valE m n (dmap L)) : MAt w m L := by
  obtain ⟨es, clock, hb, F, hs, hD⟩ := h
  refine ⟨es, clock, hb, F, ?_, hD⟩
  have h1 : Maps.size (dmap L) = es.size := by rw [hD]; simp [Maps.size, length_sorted]
  rw [← h1, size_dmap]
  exact Nat.le_refl _
theorem mat_new (w : World) : MAt (w.alloc (.map #[] 0)) w.heap.size [] := World.ownsMap_made w _ _ _
theorem MAt.below {w w' : World} {m : Nat} {L : Ent DV} (h : MAt w m L) {B : Nat} (hb : Below B w w') (hm : m < B) : MAt w' m L := by
  obtain ⟨es, clock, hh, r⟩ := h
  exact ⟨es, clock, (hb.block m hm).trans hh, r⟩
theorem MAt.look {w : World} {m : Nat} {L : Ent DV} (h : MAt w m L) {s : Nm} (hs : s.length ≤ maxLen) : (Instr.lookup 78 (.map (some m)) (nmv s) true).run Tryz.prog w = .ok (.tuple #[vagg ((get L s).getD DV.none), .bool (get L s).isSome]) w := by
  obtain ⟨v, ps, hrun, hv⟩ := h.look_ok law_str under_map (zero_val w) (zd := dat DV.none) (zp := []) (valE_mk _) (key_str hs)
  rw [has_dmap, has_get] at hrun
  rw [atKey_dmap] at hv
  cases hg : get L s with
  | none =>
    rw [hg] at hrun hv
    rw [valE_inv (d := DV.none) hv] at hrun
    exact hrun
  | some b =>
    rw [hg] at hrun hv
    rw [valE_inv (d := b) hv] at hrun
    exact hrun
theorem MAt.look1 {w : World} {m : Nat} {L : Ent DV} (h : MAt w m L) {s : Nm} (hs : s.length ≤ maxLen) : (Instr.lookup 78 (.map (some m)) (nmv s) false).run Tryz.prog w = .ok (vagg ((get L s).getD DV.none)) w := by
  obtain ⟨v, ps, hrun, hv⟩ := h.lookup law_str under_map (zero_val w) (zd := dat DV.none) (zp := []) (valE_mk _) (key_str hs)
  rw [atKey_dmap] at hv
  cases hg : get L s with
  | none =>
    rw [hg] at hv
    rw [valE_inv (d := DV.none) hv] at hrun
    exact hrun
  | some b =>
    rw [hg] at hv
    rw [valE_inv (d := b) hv] at hrun
    exact hrun
theorem MAt.store {w : World} {m : Nat} {L : Ent DV} (h : MAt w m L) {s : Nm} (hs : s.length ≤ maxLen) (hl : L.length < maxLen) (b : DV) : ∃ w', (Instr.mapUpdate 78 (.map (some m)) (nmv s) (vagg b)).run Tryz.prog w = .ok () w' ∧ MAt w' m (put L s b) ∧ w.grownBy w' (some m) := by
  obtain ⟨w', h1, h2, h3⟩ := World.ownsMap.update h law_str under_map hl (key_str hs) (valE_mk b)
  exact ⟨w', h1, mat_tight (by rw [← put_dmap]; exact h2), h3⟩
def dvC (v : DV) : List Value := [.int .i64 v.k, .float .f64 v.x, .string ⟨v.s.toArray⟩]
theorem dvC_len (v : DV) : (dvC v).length = 3 := rfl
theorem info_val : (Tryz.prog.info? 48).map (fun i => (i.zero, i.size, i.bytes)) = some (some (vagg DV.none), 3, 32) := by kernel_rfl
theorem under_vals : Tryz.prog.underlying 80 = some (.slice 48) := by kernel_rfl
/-- A machine at block b: its blocks are of C. -/
structure MB (C : Nat → Prop) (w : World) (b : Nat) (st : List DV) (wr sn : Ent DV) (v : Value) (ms mw : Nat) : Prop where
  box : w.heap[b]? = some (.cells #[v, .map (some ms), .map (some mw)] 82 (0, 0))
  row : w.ownsRow 0 48 3 v st.length (cellsG dvC st)
  snm : MAt w ms sn
  wrm : MAt w mw wr
  cb : C b
  cs : C ms
  cw : C mw
  cr : ∀ k, v.ownBlock = some k → C k
  ne : ms ≠ mw
  lt : ∀ k, C k → k < w.heap.size
/-- What was seen, and where the two maps lie. -/
structure Mm where
  sn : Ent DV
  ms : Nat
  mw : Nat
def Mch (C : Nat → Prop) (w : World) (b : Nat) (st : List DV) (wr : Ent DV) (z : Mm) : Prop := ∃ v, MB C w b st wr z.sn v z.ms z.mw
/-- What a step makes of a machine. -/
def Did (C : Nat → Prop) (w : World) (b : Nat) (st : List DV) (wr : Ent DV) (z : Mm) (w' : World) : Prop := ∃ C', Mch C' w' b st wr z ∧ Way C w C' w'
section
variable {C : Nat → Prop} {b : Nat} {w w' : World} {st : List DV} {wr sn : Ent DV} {v : Value} {ms mw : Nat} {z : Mm}
theorem MB.blt (h : MB C w b st wr sn v ms mw) : b < w.heap.size := h.lt b h.cb
theorem MB.c0 (h : MB C w b st wr sn v ms mw) : w.cell? ⟨b, 0, none⟩ = some v := by simp [World.cell?, h.box]
theorem MB.c1 (h : MB C w b st wr sn v ms mw) : w.cell? ⟨b, 1, none⟩ = some (.map (some ms)) := by simp [World.cell?, h.box]
theorem MB.c2 (h : MB C w b st wr sn v ms mw) : w.cell? ⟨b, 2, none⟩ = some (.map (some mw)) := by simp [World.cell?, h.box]
theorem MB.fz (h : MB C w b st wr sn v ms mw) (o : Nat) : w.frozen? ⟨b, o, none⟩ = false := by simp [World.frozen?, h.box]
theorem MB.below (h : MB C w b st wr sn v ms mw) (hb : Below w.heap.size w w') : MB C w' b st wr sn v ms mw :=
  ⟨(hb.block b h.blt).trans h.box, own_below h.row hb, h.snm.below hb h.snm.lt, h.wrm.below hb h.wrm.lt, h.cb, h.cs, h.cw, h.cr, h.ne, fun k hk => Nat.lt_of_lt_of_le (h.lt k hk) hb.size⟩
theorem Mch.below (h : Mch C w b st wr z) (hb : Below w.heap.size w w') : Mch C w' b st wr z := let ⟨v, h⟩ := h; ⟨v, h.below hb⟩
theorem Mch.lt (h : Mch C w b st wr z) : ∀ k, C k → k < w.heap.size := let ⟨_, h⟩ := h; h.lt
theorem Mch.turned (h : Mch C w b st wr z) {S : Nat → Prop} (ht : Tn S w w') (hd : ∀ k, C k → ¬ S k) : Mch C w' b st wr z := by
  obtain ⟨v, h⟩ := h
  refine ⟨v, ht.at_ h.box (hd _ h.cb), own_tn h.row ht (fun k hk => hd k (h.cr k hk)), ?_, ?_, h.cb, h.cs, h.cw, h.cr, h.ne, fun k hk => Nat.lt_of_lt_of_le (h.lt k hk) ht.size⟩
  · obtain ⟨es, clock, hb, r⟩ := h.snm
    exact ⟨es, clock, ht.at_ hb (hd _ h.cs), r⟩
  · obtain ⟨es, clock, hb, r⟩ := h.wrm
    exact ⟨es, clock, ht.at_ hb (hd _ h.cw), r⟩
theorem MB.bms (h : MB C w b st wr sn v ms mw) : b ≠ ms := fun e => by
  obtain ⟨es, clock, hb, _⟩ := h.snm
  rw [← e, h.box] at hb
  cases hb
theorem MB.bmw (h : MB C w b st wr sn v ms mw) : b ≠ mw := fun e => by
  obtain ⟨es, clock, hb, _⟩ := h.wrm
  rw [← e, h.box] at hb
  cases hb
theorem MB.brow (h : MB C w b st wr sn v ms mw) : v.ownBlock ≠ some b := fun e => by
  rcases h.row.2 with ⟨rfl, _⟩ | ⟨g, cap, cur, rfl, _, hg, _⟩
  · cases e
  · obtain rfl : g = b := by simpa [Value.ownBlock] using e
    rw [h.box] at hg
    cases hg
theorem MB.srow (h : MB C w b st wr sn v ms mw) : v.ownBlock ≠ some ms := fun e => by
  obtain ⟨es, clock, hb, _⟩ := h.snm
  rcases h.row.2 with ⟨rfl, _⟩ | ⟨g, cap, cur, rfl, _, hg, _⟩
  · cases e
  · obtain rfl : g = ms := by simpa [Value.ownBlock] using e
    rw [hb] at hg
    cases hg
theorem MB.wrow (h : MB C w b st wr sn v ms mw) : v.ownBlock ≠ some mw := fun e => by
  obtain ⟨es, clock, hb, _⟩ := h.wrm
  rcases h.row.2 with ⟨rfl, _⟩ | ⟨g, cap, cur, rfl, _, hg, _⟩
  · cases e
  · obtain rfl : g = mw := by simpa [Value.ownBlock] using e
    rw [hb] at hg
    cases hg
/-- A row grows, and is laid as the stack: the rest stands. -/
theorem MB.grown (h : MB C w b st wr sn v ms mw) {row : Option Nat} (hg : w.grownBy w' row) (hr : row = v.ownBlock ∨ row = none) {u : Value} {st' : List DV} (hu : w'.ownsRow 0 48 3 u st'.length (cellsG dvC st')) (hub : ∀ k, u.ownBlock = some k → C k ∨ (w.heap.size ≤ k ∧ k < w'.heap.size)) :
    w'.heap[b]? = some (.cells #[v, .map (some ms), .map (some mw)] 82 (0, 0)) ∧ (∀ o, w'.frozen? ⟨b, o, none⟩ = false) ∧ Did C w b st' wr ⟨sn, ms, mw⟩ (w'.setCell ⟨b, 0, none⟩ u) := by
  have hk : ∀ k, k < w.heap.size → v.ownBlock ≠ some k → w'.heap[k]? = w.heap[k]? := fun k hk hn => hg.block k hk (fun e => by
    rcases hr with r | r
    · exact hn (r ▸ e.symm)
    · rw [r] at e; cases e)
  have b1 := (hk b h.blt h.brow).trans h.box
  have b2 : MAt w' ms sn := by
    obtain ⟨es, clock, hb, r⟩ := h.snm
    exact ⟨es, clock, (hk ms h.snm.lt h.srow).trans hb, r⟩
  have b3 : MAt w' mw wr := by
    obtain ⟨es, clock, hb, r⟩ := h.wrm
    exact ⟨es, clock, (hk mw h.wrm.lt h.wrow).trans hb, r⟩
  refine ⟨b1, fun o => by simp [World.frozen?, b1], fun k => C k ∨ u.ownBlock = some k, ⟨u, ?_⟩, ⟨((Tn.refl C w).grown hg (fun k e _ => by
    rcases hr with r | r
    · exact h.cr k (r ▸ e)
    · rw [r] at e; cases e)).setCell (fun _ => h.cb) u, fun k e => e.elim .inl (fun e => (hub k e).elim .inl (fun e => .inr (by simpa using e)))⟩⟩
  have hne : ∀ k, k ≠ b → (w'.setCell ⟨b, 0, none⟩ u).heap[k]? = w'.heap[k]? := fun k hk => heap_setCell_other w' ⟨b, 0, none⟩ k u hk
  have hsz : (w'.setCell ⟨b, 0, none⟩ u).heap.size = w'.heap.size := by simp
  refine ⟨?_, ?_, ?_, ?_, .inl h.cb, .inl h.cs, .inl h.cw, fun k e => .inr e, h.ne, fun k e => ?_⟩
  · rw [heap_setCell_same w' b 0 _ _ u b1]
    rfl
  · refine hu.kept (row := some b) ⟨rfl, rfl, rfl, by simp, fun k hk hne2 => hne k (fun e => hne2 (by rw [e]))⟩ ?_
    rcases hu.2 with ⟨rfl, _⟩ | ⟨g, cap, cur, rfl, _, hg2, _⟩
    · exact .inl rfl
    · refine .inr fun e => ?_
      obtain rfl : g = b := by simpa [Value.ownBlock] using e
      rw [b1] at hg2
      cases hg2
  · obtain ⟨es, clock, hb, r⟩ := b2
    exact ⟨es, clock, (hne ms (fun e => h.bms e.symm)).trans hb, r⟩
  · obtain ⟨es, clock, hb, r⟩ := b3
    exact ⟨es, clock, (hne mw (fun e => h.bmw e.symm)).trans hb, r⟩
  · rw [hsz]
    rcases e with e | e
    · exact Nat.lt_of_lt_of_le (h.lt k e) hg.size
    · exact (hu.lt k e).2
/-- A value is written. -/
theorem MB.write (h : MB C w b st wr sn v ms mw) {wr' : Ent DV} (hg : w.grownBy w' (some mw)) (hm : MAt w' mw wr') : Did C w b st wr' ⟨sn, ms, mw⟩ w' := by
  refine ⟨C, ⟨v, (hg.block b h.blt (fun e => h.bmw (by simpa using e))).trans h.box, h.row.kept hg (.inr h.wrow), ?_, hm, h.cb, h.cs, h.cw, h.cr, h.ne, fun k hk => Nat.lt_of_lt_of_le (h.lt k hk) hg.size⟩, ⟨(Tn.refl C w).grown hg (fun k e _ => by
    obtain rfl := Option.some.inj e
    exact h.cw), fun _ h => .inl h⟩⟩
  obtain ⟨es, clock, hb, r⟩ := h.snm
  exact ⟨es, clock, (hg.block ms h.snm.lt (fun e => h.ne (by simpa using e))).trans hb, r⟩
theorem Did.way (h : Did C w b st wr z w') {C0 : Nat → Prop} {w0 : World} (h0 : Way C0 w0 C w) : Did C0 w0 b st wr z w' := let ⟨C', hm, hw⟩ := h; ⟨C', hm, h0.trans hw⟩
theorem Did.below (h : Did C w b st wr z w') {w2 : World} (hb : Below w'.heap.size w' w2) : Did C w b st wr z w2 := let ⟨C', hm, hw⟩ := h; ⟨C', hm.below hb, hw.below hb⟩
end
end Go.Proofs.YtbgccaconhmbaaaGreatDoor
namespace Go.Proofs.YtbgccaconhmbaaaGreatDoor
open Go.ChangeShapes Go.WideShapes Go.ChangeAt Go.RowKit Go.Deep
theorem one_dv (x : DV) : ∀ u ∈ dvC x, u.oneCell' = true := by
  intro u hu
  simp [dvC] at hu
  rcases hu with rfl | rfl | rfl <;> rfl
theorem cells_dv (w : World) (x : DV) (n : Nat) (hn : n = w.heap.size) : ∀ j u, (dvC x)[j]? = some u → (w.alloc (.cells #[.int .i64 x.k, .float .f64 x.x, .string ⟨x.s.toArray⟩] 48)).cell? ((⟨n, 0, none⟩ : Addr).add j) = some u := by
  subst hn
  intro j u hu
  rw [Addr.add_lit]
  match j, hu with
  | 0, hu => obtain rfl := Option.some.inj hu; simp [World.cell?_alloc_new]
  | 1, hu => obtain rfl := Option.some.inj hu; simp [World.cell?_alloc_new]
  | 2, hu => obtain rfl := Option.some.inj hu; simp [World.cell?_alloc_new]
  | j + 3, hu => cases hu
theorem cell_box {w : World} {b o : Nat} {cs : Array Value} {t : TypeId} {v : Value} (h : w.heap[b]? = some (.cells cs t (0, 0))) (hv : cs[o]? = some v) : w.cell? ⟨b, o, none⟩ = some v := by
  simp [World.cell?, h, hv]
section
variable {C : Nat → Prop} {b : Nat} {w : World} {st : List DV} {wr : Ent DV} {sn : Mm}
theorem did_grown {v : Value} (h : MB C w b st wr sn.sn v sn.ms sn.mw) {w1 w2 : World} (hb : Below w.heap.size w w1) {x : DV} {u : Value} (hown : w2.ownsRow 0 48 3 u (st.length + 1) (cellsG dvC st ++ dvC x)) (hg : w1.grownBy w2 v.ownBlock) (hat : u.ownBlock = v.ownBlock ∨ u.ownBlock = some w1.heap.size) :
    w2.heap[b]? = some (.cells #[v, .map (some sn.ms), .map (some sn.mw)] 82 (0, 0)) ∧ (∀ o, w2.frozen? ⟨b, o, none⟩ = false) ∧ Did C w b (st ++ [x]) wr sn (w2.setCell ⟨b, 0, none⟩ u) := by
  have h1 := h.below hb
  obtain ⟨e1, e2, e3⟩ := h1.grown hg (.inl rfl) (u := u) (st' := st ++ [x]) (by rw [List.length_append, cellsG_append, cellsG_one]; exact hown) (fun k hk => by
    rcases hat with e | e
    · exact .inl (h.cr k (e ▸ hk))
    · have := (hown.lt k hk).2
      rw [e] at hk
      obtain rfl := Option.some.inj hk
      exact .inr ⟨Nat.le_refl _, this⟩)
  exact ⟨e1, e2, e3.way (Way.of_below hb)⟩
set_option maxRecDepth 100000 in
set_option maxHeartbeats 4000000 in
theorem push_any (h : Mch C w b st wr sn) (x : DV) (hl : st.length ≤ 1000000) :
    Calls Tryz.prog 73 #[.pointer (some ⟨b, 0, none⟩), vagg x] w fun e w' => e = .returned (.tuple #[]) ∧ Did C w b (st ++ [x]) wr sn w' := by
  obtain ⟨v, h⟩ := h
  have hst := run_stf
  obtain ⟨i0, hi, hz0, hz1, hz2⟩ := info_parts info_val
  have HM := Lib.hid h
  have HX := Lib.hid (at_new w x)
  have hlt := h.blt
  have c0 : ∀ o, (w.alloc o).cell? ⟨b, 0, none⟩ = some v := fun o => ((below1 w o).cell (p := ⟨b, 0, none⟩) hlt).trans h.c0
  have c02 : ∀ o o', ((w.alloc o).alloc o').cell? ⟨b, 0, none⟩ = some v := fun o o' => ((below2 w o o').cell (p := ⟨b, 0, none⟩) hlt).trans h.c0
  have f0 : ∀ o, (w.alloc o).frozen? ⟨b, 0, none⟩ = false := fun o => ((below1 w o).frozen (p := ⟨b, 0, none⟩) hlt).trans (h.fz 0)
  clear h hlt
  obtain ⟨k, y, s⟩ := x
  have q0 := HX.out.c0; have q1 := HX.out.c1; have q2 := HX.out.c2
  have c0 := c0 (vobj ⟨k, y, s⟩)
  have c02 := c02 (vobj ⟨k, y, s⟩) (vobj ⟨k, y, s⟩)
  have f0 := f0 (vobj ⟨k, y, s⟩)
  go_enter Tryz.func73, Tryz.ntmps73
  go_wp2
  go_region_law (refine step_append_at rfl (.tmp 8) (.tmp 10) 80 rfl 0 48 i0 (vagg DV.none) 3 32 under_vals hi hz0 hz1 hz2 rfl (by decide) _ _ _ (by simp [Act.eval]) (own_below HM.out.row (((below1 w _).drew).alloc ((below1 w _).drew).size _)) ⟨w.heap.size + 1, 0, none⟩ 1 1 (dvC ⟨k, y, s⟩) (by simp [Act.eval]) rfl (cells_dv _ _ _ (by simp)) (one_dv _) (by unfold maxLen; omega) (by omega) (Nat.zero_le _) ?_; intro v2 w2 hown' hgrow hat; obtain ⟨g2, cap2, rfl⟩ := own_shape hown' (by omega); have HG2 := did_grown HM.out (((below1 w (vobj ⟨k, y, s⟩)).drew).alloc ((below1 w (vobj ⟨k, y, s⟩)).drew).size _) hown' hgrow hat; have e0 := cell_box (o := 0) HG2.1 rfl; have ef := HG2.2.1 0; have HS := Lib.hid HG2.2.2; clear hown' hgrow hat HG2)
  all_goals go_wp2
  all_goals go_end0
  all_goals exact ⟨rfl, HS.out⟩
theorem row_last {w : World} {v : Value} (h : w.ownsRow 0 48 3 v st.length (cellsG dvC st)) {m : Nat} (hm : st.length = m + 1) : ∃ g cap, v = .slice (some ⟨g, 0, none⟩) (m + 1) cap ∧ m + 1 ≤ cap ∧ cap ≤ maxLen ∧ g < w.heap.size ∧
    w.cell? ⟨g, m * 3, none⟩ = some (.int .i64 (pop1 st).k) ∧ w.cell? ⟨g, m * 3 + 1, none⟩ = some (.float .f64 (pop1 st).x) ∧ w.cell? ⟨g, m * 3 + 2, none⟩ = some (.string ⟨(pop1 st).s.toArray⟩) := by
  have hp : pop1 st = st[m] := by
    have e : st.length - 1 = m := by omega
    unfold pop1
    rw [e, List.getD_eq_getElem?_getD, List.getElem?_eq_getElem (by omega)]
    rfl
  rcases h.2 with ⟨_, hn⟩ | ⟨g, cap, cur, rfl, hb, hg, hn, hmx, hcs, ht⟩
  · omega
  · have hc := fun j u (hu : (dvC st[m])[j]? = some u) => h.cells (g := g) rfl _ _ (cellsG_get dvC_len st m (by omega) j u hu)
    have c0 := hc 0 _ rfl
    have c1 := hc 1 _ rfl
    have c2 := hc 2 _ rfl
    rw [Addr.add_lit, Nat.zero_add] at c0 c1 c2
    rw [hp]
    exact ⟨g, cap, by rw [hm], by omega, hmx, (Array.getElem?_eq_some_iff.1 hg).1, c0, c1, c2⟩
set_option maxRecDepth 100000 in
set_option maxHeartbeats 4000000 in
theorem pop_any (h : Mch C w b st wr sn) (h1 : 1 ≤ st.length) (hl : st.length ≤ 1000000) :
    Calls Tryz.prog 75 #[.pointer (some ⟨b, 0, none⟩)] w fun e w' => e = .returned (vagg (pop1 st)) ∧ Did C w b (rest1 st) wr sn w' := by
  obtain ⟨v, h⟩ := h
  have hst := run_stf
  obtain ⟨m, hm⟩ : ∃ m, st.length = m + 1 := ⟨st.length - 1, by omega⟩
  obtain ⟨g, cap, rfl, hcap, hcm, hg, d0, d1, d2⟩ := row_last h.row hm
  have HM := Lib.hid h
  have hlt := h.blt
  have c0 := h.c0
  have f0 := h.fz 0
  have bx : ∀ o, (w.alloc o).cell? ⟨b, 0, none⟩ = some (.slice (some ⟨g, 0, none⟩) (m + 1) cap) := fun o => ((below1 w o).cell (p := ⟨b, 0, none⟩) hlt).trans c0
  have hm2 : m ≤ 1000000 := by omega
  have HL : Hid (rest1 st = st.take m ∧ (st.take m).length = m) := Lib.hid (by unfold rest1; rw [hm]; exact ⟨rfl, by rw [List.length_take]; omega⟩)
  unfold maxLen at hcm
  have HMM := Lib.hid hm
  clear h hl h1 hm
  generalize pop1 st = x at *
  obtain ⟨k, y, s⟩ := x
  simp only at d0 d1 d2
  go_enter Tryz.func75, Tryz.ntmps75
  go_wp2
  go_returns
  have hu : w.ownsRow 0 48 3 (.slice (some ⟨g, 0, none⟩) m cap) (rest1 st).length (cellsG dvC (rest1 st)) := by
    have h0 := HM.out.row
    rw [HMM.out] at h0
    have h1 := own_cut dvC_len h0 (k := m) (by omega)
    rw [HL.out.1, HL.out.2]
    exact h1
  have h2 := (HM.out.grown (World.grownBy.refl w none) (.inr rfl) hu (fun k hk => .inl (HM.out.cr k hk))).2.2
  exact ⟨rfl, h2.below (below2 _ _ _)⟩
theorem mget_any (h : Mch C w b st wr sn) (key : Nm) (hk : key.length ≤ maxLen) :
    Calls Tryz.prog 74 #[.pointer (some ⟨b, 0, none⟩), nmv key] w fun e w' => e = .returned (vagg ((get wr key).getD ((get sn.sn key).getD DV.none))) ∧ Below w.heap.size w w' := by
  obtain ⟨v, h⟩ := h
  have hst := run_stf
  have hlt := h.blt
  have c1 : ∀ o o', ((w.alloc o).alloc o').cell? ⟨b, 1, none⟩ = some (.map (some sn.ms)) := fun o o' => ((below2 w o o').cell (p := ⟨b, 1, none⟩) hlt).trans h.c1
  have c2 : ∀ o, (w.alloc o).cell? ⟨b, 2, none⟩ = some (.map (some sn.mw)) := fun o => ((below1 w o).cell (p := ⟨b, 2, none⟩) hlt).trans h.c2
  have l1 : ∀ o o', (Instr.lookup 78 (.map (some sn.ms)) (nmv key) false).run Tryz.prog ((w.alloc o).alloc o') = .ok (vagg ((get sn.sn key).getD DV.none)) ((w.alloc o).alloc o') := fun o o' => (h.snm.below (below2 w o o') h.snm.lt).look1 hk
  have l2 : ∀ o, (Instr.lookup 78 (.map (some sn.mw)) (nmv key) true).run Tryz.prog (w.alloc o) = .ok (.tuple #[vagg ((get wr key).getD DV.none), .bool (get wr key).isSome]) (w.alloc o) := fun o => (h.wrm.below (below1 w o) h.wrm.lt).look hk
  clear h
  cases hg : get wr key with
  | some x =>
    rw [hg] at l2
    simp only [Option.getD_some, Option.isSome_some] at l2
    obtain ⟨k, y, s⟩ := x
    clear hg l1 c1
    go_enter Tryz.func74, Tryz.ntmps74
    go_wp2
    go_returns
    exact ⟨rfl, below2 _ _ _⟩
  | none =>
    rw [hg] at l2
    simp only [Option.getD_none, Option.isSome_none] at l2
    show Calls _ _ _ _ fun e w' => e = .returned (vagg ((get sn.sn key).getD DV.none)) ∧ _
    generalize (get sn.sn key).getD DV.none = x at *
    obtain ⟨k, y, s⟩ := x
    clear hg
    go_enter Tryz.func74, Tryz.ntmps74
    go_wp2
    go_returns
    exact ⟨rfl, below2 _ _ _⟩
end
end Go.Proofs.YtbgccaconhmbaaaGreatDoor
namespace Go.Proofs.YtbgccaconhmbaaaGreatDoor
open Go.ChangeShapes Go.WideShapes Go.ChangeAt Go.RowKit Go.Deep
theorem pop1_rest (st : List DV) (h : 2 ≤ st.length) : pop1 (rest1 st) = pop2 st ∧ rest1 (rest1 st) = rest2 st := by
  have e : (rest1 st).length = st.length - 1 := rest1_length (by omega)
  refine ⟨?_, ?_⟩
  · unfold pop1 pop2
    rw [e, show st.length - 1 - 1 = st.length - 2 by omega]
    unfold rest1
    rw [List.getD_eq_getElem?_getD, List.getD_eq_getElem?_getD, List.getElem?_take_of_lt (by omega)]
  · show (rest1 st).take ((rest1 st).length - 1) = st.take (st.length - 2)
    rw [e]
    unfold rest1
    rw [List.take_take]
    congr 1
    omega
section
variable {C : Nat → Prop} {b : Nat} {w : World} {st : List DV} {wr : Ent DV} {sn : Mm}
theorem At.tn {C : Nat → Prop} {w w' : World} {k : Nat} {v : DV} (ha : At w k v) (h : Tn C w w') (hn : ¬ C k) : At w' k v := (Way.mk (C' := C) h fun _ e => .inl e).at_dv ha hn
theorem tn_set3 (W : World) (q : Nat) (x y z : Value) : Tn (· = q) W (((W.setCell ⟨q, 0, none⟩ x).setCell ⟨q, 1, none⟩ y).setCell ⟨q, 2, none⟩ z) :=
  (((Tn.refl (· = q) W).setCell (fun _ => rfl) x).setCell (fun _ => rfl) y).setCell (fun _ => rfl) z
theorem mch_set3 {W : World} (h : Mch C W b st wr sn) {q : Nat} (hq : ¬ C q) (x y z : Value) : Mch C (((W.setCell ⟨q, 0, none⟩ x).setCell ⟨q, 1, none⟩ y).setCell ⟨q, 2, none⟩ z) b st wr sn :=
  h.turned (tn_set3 W q x y z) (fun _ hk e => hq (e ▸ hk))
theorem way_set3 {C0 : Nat → Prop} {w0 W : World} (h : Way C0 w0 C W) {q : Nat} (hq : w0.heap.size ≤ q) (x y z : Value) : Way C0 w0 C (((W.setCell ⟨q, 0, none⟩ x).setCell ⟨q, 1, none⟩ y).setCell ⟨q, 2, none⟩ z) :=
  ⟨h.tn.trans (tn_set3 W q x y z) (fun _ hk e => by omega), fun k hk => by simpa using h.new k hk⟩
theorem res_vals {fn : Func} {p q : Tmp} (h : fn.results = #[.cell p 48, .cell q 48]) (tmps : Array Value) {m n : Nat} {v u : DV} {w : World} (hp : tmps.getD p undef = .pointer (some ⟨m, 0, none⟩)) (hq : tmps.getD q undef = .pointer (some ⟨n, 0, none⟩)) (hA : At w m v) (hB : At w n u) :
    (results fn tmps).run Tryz.prog w = .ok (.tuple #[vagg v, vagg u]) w := by
  have l1 := load_at hA
  have l2 := load_at hB
  simp only [Array.getD_eq_getD_getElem?] at hp hq
  simp only [results, h]
  simp [Result.andThen, hp, hq, asAddr, l1, l2]
theorem At.drew {W : World} {p : Nat} {v : DV} (h : At W p v) : At W.drew p v := ⟨h.lt, h.c0, h.c1, h.c2, h.f0, h.f1, h.f2⟩
theorem at_set3 {W : World} {p q : Nat} {v : DV} (h : At W p v) (hpq : p ≠ q) (x y z : Value) : At (((W.setCell ⟨q, 0, none⟩ x).setCell ⟨q, 1, none⟩ y).setCell ⟨q, 2, none⟩ z) p v := h.tn (tn_set3 W q x y z) hpq
theorem at_stored {W : World} {q : Nat} {v : DV} (h : At W q v) (u : DV) : At (((W.setCell ⟨q, 0, none⟩ (.int .i64 u.k)).setCell ⟨q, 1, none⟩ (.float .f64 u.x)).setCell ⟨q, 2, none⟩ (.string ⟨u.s.toArray⟩)) q u := h.setAll u
set_option maxRecDepth 100000 in
set_option maxHeartbeats 4000000 in
theorem pair_any (h : Mch C w b st wr sn) (h2 : 2 ≤ st.length) (hl : st.length ≤ 1000000) :
    Calls Tryz.prog 86 #[.pointer (some ⟨b, 0, none⟩)] w fun e w' => e = .returned (.tuple #[vagg (pop2 st), vagg (pop1 st)]) ∧ Did C w b (rest2 st) wr sn w' := by
  have hst := run_stf
  have HM := Lib.hid (h.below (below2 w (vobj ⟨0, 0, []⟩) (vobj ⟨0, 0, []⟩)))
  have HLT := Lib.hid h.lt
  have H0 := Lib.hid (at_two w ⟨0, 0, []⟩ ⟨0, 0, []⟩)
  have HP := Lib.hid (pop1_rest st h2)
  have hr := rest1_length (st := st) (by omega)
  have HA := Lib.hid (pop_any HM.out (by omega) hl)
  have HB := fun C' w' h => Lib.hid (pop_any (C := C') (w := w') (st := rest1 st) (b := b) (wr := wr) (sn := sn) h (by omega) (by omega))
  rw [HP.out.1, HP.out.2] at HB
  have HW0 := Lib.hid (Way.of_below (C := C) (below2 w (vobj ⟨0, 0, []⟩) (vobj ⟨0, 0, []⟩)))
  clear h h2 hl hr
  generalize pop1 st = x at *
  generalize pop2 st = y at *
  generalize rest1 st = st1 at *
  generalize rest2 st = st2 at *
  clear HP
  obtain ⟨k, u, s⟩ := x
  obtain ⟨k', u2, s2⟩ := y
  go_enter Tryz.func86, Tryz.ntmps86
  go_wp2_with (go_at_call 75; first
    | ((with_reducible refine HA.out.mono ?_); rintro e w1 ⟨rfl, C1, hm, hw⟩; have HM1 := Lib.hid hm; have HW1 := Lib.hid hw; have A1 := Lib.hid (HW1.out.at_dv H0.out.1 (fun e => absurd (HLT.out _ e) (Nat.lt_irrefl _))); have A2 := Lib.hid (HW1.out.at_dv H0.out.2 (fun e => absurd (HLT.out _ e) (by omega))); have N1 := Lib.hid (HW1.out.not H0.out.1.lt (fun e => absurd (HLT.out _ e) (Nat.lt_irrefl _))); have N2 := Lib.hid (HW1.out.not H0.out.2.lt (fun e => absurd (HLT.out _ e) (by omega))); have p0 := A2.out.c0; have p1 := A2.out.c1; have p2 := A2.out.c2; have g0 := A2.out.f0; have g1 := A2.out.f1; have g2 := A2.out.f2; have HM2 := Lib.hid (mch_set3 HM1.out N2.out (.int .i64 k) (.float .f64 u) (.string ⟨s.toArray⟩)); have HW2 := Lib.hid (way_set3 (q := w.heap.size + 1) (HW0.out.trans HW1.out) (by omega) (.int .i64 k) (.float .f64 u) (.string ⟨s.toArray⟩)); have A3 := Lib.hid (at_set3 A1.out (by omega : w.heap.size ≠ w.heap.size + 1) (.int .i64 k) (.float .f64 u) (.string ⟨s.toArray⟩)); have A4 := Lib.hid (at_stored A2.out ⟨k, u, s⟩); have HB := Lib.hid (HB _ _ HM2.out).out; clear hm hw HA HM1 HW1 A1 A2)
    | ((with_reducible refine HB.out.mono ?_); rintro e w3 ⟨rfl, C3, hm, hw⟩; have HM3 := Lib.hid hm; have HW3 := Lib.hid hw; have A5 := Lib.hid (hw.at_dv A3.out N1.out); have A6 := Lib.hid (hw.at_dv A4.out N2.out); have N3 := Lib.hid (hw.not A3.out.lt N1.out); have N4 := Lib.hid (hw.not A4.out.lt N2.out); have q0 := A5.out.c0; have q1 := A5.out.c1; have q2 := A5.out.c2; have h0 := A5.out.f0; have h1 := A5.out.f1; have h2 := A5.out.f2; have r0 := A6.out.c0; have r1 := A6.out.c1; have r2 := A6.out.c2; have k0 := A6.out.f0; have k1 := A6.out.f1; have k2 := A6.out.f2; clear hm hw))
  have HM5 := Lib.hid (mch_set3 HM3.out N3.out (.int .i64 k') (.float .f64 u2) (.string ⟨s2.toArray⟩))
  have HW5 := Lib.hid (way_set3 (q := w.heap.size) (HW2.out.trans HW3.out) (Nat.le_refl _) (.int .i64 k') (.float .f64 u2) (.string ⟨s2.toArray⟩))
  have B1 := Lib.hid (at_stored A5.out ⟨k', u2, s2⟩)
  have B2 := Lib.hid (at_set3 A6.out (by omega : w.heap.size + 1 ≠ w.heap.size) (.int .i64 k') (.float .f64 u2) (.string ⟨s2.toArray⟩))
  clear q0 q1 q2 h0 h1 h2 r0 r1 r2 k0 k1 k2 A3 A4 A5 A6 HB HM2 HW2 HM3 HW3 p0 p1 p2 g0 g1 g2 N1 N2 H0 HM HW0
  generalize hW5 : ((w3.setCell ⟨w.heap.size, 0, none⟩ (.int .i64 k')).setCell ⟨w.heap.size, 1, none⟩ (.float .f64 u2)).setCell ⟨w.heap.size, 2, none⟩ (.string ⟨s2.toArray⟩) = W5 at *
  have hsz : w.heap.size + 1 < W5.heap.size := B2.out.lt
  clear hW5
  have q0 := B1.out.c0; have q1 := B1.out.c1; have q2 := B1.out.c2; have h0 := B1.out.f0; have h1 := B1.out.f1; have h2 := B1.out.f2; have r0 := B2.out.c0; have r1 := B2.out.c1; have r2 := B2.out.c2; have k0 := B2.out.f0; have k1 := B2.out.f1; have k2 := B2.out.f2
  go_region
  go_wp2
  have D1 := at_stored B1.out ⟨k', u2, s2⟩
  have D2 := at_set3 B2.out (by omega : w.heap.size + 1 ≠ w.heap.size) (.int .i64 k') (.float .f64 u2) (.string ⟨s2.toArray⟩)
  have D3 := at_set3 D1 (by omega : w.heap.size ≠ w.heap.size + 1) (.int .i64 k) (.float .f64 u) (.string ⟨s.toArray⟩)
  have D4 := at_stored D2 ⟨k, u, s⟩
  exact bodyPost_ret (res_vals rfl _ rfl rfl D3.drew D4.drew) rfl ⟨rfl, C3, (mch_set3 (mch_set3 HM5.out N3.out _ _ _) N4.out _ _ _).below ((Below.refl _ _).drew), (way_set3 (way_set3 HW5.out (Nat.le_refl _) _ _ _) (by omega) _ _ _).below ((Below.refl _ _).drew)⟩
end
end Go.Proofs.YtbgccaconhmbaaaGreatDoor
