/- Slices of slices of bytes and of truths that came in; what NetOrder's walk keeps to. Conditions: none of its own. -/
import Derived.Test.YtcgbjpmmbbldpaaLf
namespace Go.Proofs.Ytcgbjpmmbbldpaa
open Go.ChangeShapes Go.WideShapes Go.ChangeAt Go.RowKit Go.Deep
theorem info_sl : (Try.prog.info? 33).map (fun i => (i.zero, i.size, i.bytes)) = some (some (.slice none 0 0), 1, 24) := by kernel_rfl
theorem under_sl : Try.prog.underlying 50 = some (.slice 33) := by kernel_rfl
/-- A slice of slices of bytes. -/
structure RB (C : Nat → Prop) (w : World) (ao : Option Addr) (n cap : Nat) (L : List (List UInt8)) : Prop where
  len : n = L.length
  le : n ≤ cap
  max : cap ≤ maxLen
  cells : n = 0 ∨ ∃ b off, ao = some ⟨b, off, none⟩ ∧ C b ∧ ∀ i (h : i < L.length), ∃ ro c, w.cell? ⟨b, off + i, none⟩ = some (.slice ro L[i].length c) ∧ SB C w ro L[i].length c L[i]
/-- A slice of truths. -/
structure BB (C : Nat → Prop) (w : World) (ao : Option Addr) (n cap : Nat) (L : List Bool) : Prop where
  len : n = L.length
  le : n ≤ cap
  max : cap ≤ maxLen
  cells : n = 0 ∨ ∃ b off, ao = some ⟨b, off, none⟩ ∧ C b ∧ ∀ i (h : i < L.length), w.cell? ⟨b, off + i, none⟩ = some (.bool L[i])
section
variable {C S : Nat → Prop} {B : Nat} {w w' : World} {ao : Option Addr} {n cap : Nat} {L : List (List UInt8)} {T : List Bool}
theorem RB.tn (h : RB C w ao n cap L) (ht : Tn S w w') (hd : ∀ k, C k → ¬ S k) : RB C w' ao n cap L := by
  refine ⟨h.len, h.le, h.max, ?_⟩
  rcases h.cells with h0 | ⟨b, off, rfl, hB, hc⟩
  · exact .inl h0
  · exact .inr ⟨b, off, rfl, hB, fun i hi => let ⟨ro, c, h1, h2⟩ := hc i hi; ⟨ro, c, ht.cell h1 (hd b hB), h2.tn ht hd⟩⟩
theorem RB.low (h : RB (· < B) w ao n cap L) (hb : Below B w w') : RB (· < B) w' ao n cap L := h.tn (tn_low hb) (fun k h1 h2 => by omega)
theorem RB.lt (h : RB C w ao n cap L) : n ≤ 9223372036854775807 := by have := h.le; have := h.max; unfold maxLen at this; omega
theorem RB.at_ (h : RB C w ao n cap L) {i : Nat} (hi : i < L.length) : ∃ b off ro c, ao = some ⟨b, off, none⟩ ∧ C b ∧ w.cell? ⟨b, off + i, none⟩ = some (.slice ro L[i].length c) ∧ SB C w ro L[i].length c L[i] := by
  have hn := h.len
  rcases h.cells with h0 | ⟨b, off, rfl, hB, hc⟩
  · omega
  · obtain ⟨ro, c, h1, h2⟩ := hc i hi
    exact ⟨b, off, ro, c, rfl, hB, h1, h2⟩
theorem BB.tn (h : BB C w ao n cap T) (ht : Tn S w w') (hd : ∀ k, C k → ¬ S k) : BB C w' ao n cap T := by
  refine ⟨h.len, h.le, h.max, ?_⟩
  rcases h.cells with h0 | ⟨b, off, rfl, hB, hc⟩
  · exact .inl h0
  · exact .inr ⟨b, off, rfl, hB, fun i hi => ht.cell (hc i hi) (hd b hB)⟩
theorem BB.low (h : BB (· < B) w ao n cap T) (hb : Below B w w') : BB (· < B) w' ao n cap T := h.tn (tn_low hb) (fun k h1 h2 => by omega)
theorem BB.lt (h : BB C w ao n cap T) : n ≤ 9223372036854775807 := by have := h.le; have := h.max; unfold maxLen at this; omega
theorem BB.at_ (h : BB C w ao n cap T) {i : Nat} (hi : i < T.length) : ∃ b off, ao = some ⟨b, off, none⟩ ∧ C b ∧ w.cell? ⟨b, off + i, none⟩ = some (.bool T[i]) := by
  have hn := h.len
  rcases h.cells with h0 | ⟨b, off, rfl, hB, hc⟩
  · omega
  · exact ⟨b, off, rfl, hB, hc i hi⟩
end
section
variable {H : Type} {enc : TypeId × Value → H} {w : World} {base : Nat} {held : Bool}
theorem open_rb {fuel : Nat} {v : Value} {x : DataW H × List MemPlace} (h : DataW.trod enc Try.prog w base (fun _ => true) held fuel 50 [v] = some x) :
    ∃ ao cap xs, v = .slice ao xs.length cap ∧ RB (fun k => k < w.heap.size) w ao xs.length cap xs := by
  rcases Go.Deep.open_slice1 Try.underlying50 (by kernel_rfl) h with ⟨h0, _⟩ | ⟨a, len, cap, m, n, V, D, Pl, h0, hb, hl, hm, hmm, rfl, hx⟩
  · simp at h0
    subst h0
    exact ⟨none, 0, [], rfl, rfl, Nat.le_refl _, by decide, .inl rfl⟩
  simp only [if_true] at hmm
  subst hmm
  simp at h0
  subst h0
  obtain ⟨B, hB⟩ := Go.Deep.choose_lt (α := List UInt8) (p := fun i l => ∃ ao c, V i = .slice ao l.length c ∧ SB (fun k => k < w.heap.size) w ao l.length c l) (fun i hi => by
    obtain ⟨ao, c, xs, h1, h2⟩ := open_sb (hx i hi).2
    exact ⟨xs, ao, c, by simpa using h1, h2⟩)
  have hlen : ((List.range len).map B).length = len := by simp
  refine ⟨some a, m, (List.range len).map B, by rw [hlen], by rw [hlen], by rw [hlen]; exact hl, hm, ?_⟩
  by_cases h1 : len = 0
  · exact .inl (hlen.trans h1)
  right
  obtain ⟨b, off, spot⟩ := a
  have h00 := (hx 0 (by omega)).1
  have hspot : spot = none := by simpa [Addr.add] using World.cell?_spot h00
  subst hspot
  refine ⟨b, off, rfl, World.block_lt_of_cell? _ _ h00, fun i hi => ?_⟩
  have hi' : i < len := by simpa using hi
  have h2 := (hx i (by omega)).1
  rw [Addr.add_lit] at h2
  obtain ⟨ro, c, h3, h4⟩ := hB i (by omega)
  rw [List.getElem_map, List.getElem_range]
  exact ⟨ro, c, by rw [h2, h3], h4⟩
theorem open_bb {fuel : Nat} {v : Value} {x : DataW H × List MemPlace} (h : DataW.trod enc Try.prog w base (fun _ => true) held fuel 51 [v] = some x) :
    ∃ ao cap l, v = .slice ao l.length cap ∧ BB (fun k => k < w.heap.size) w ao l.length cap l := by
  rcases Go.Deep.open_bools Try.underlying51 Try.underlying4 (by kernel_rfl) h with ⟨h0, _⟩ | ⟨a, len, cap, B, h0, _, hl, hm, _, hc⟩
  · simp at h0
    exact ⟨none, 0, [], by simpa using h0, rfl, Nat.le_refl _, by decide, .inl rfl⟩
  have hlen : ((List.range len).map B).length = len := by simp
  refine ⟨some a, cap, (List.range len).map B, by rw [hlen]; simpa using h0, by rw [hlen], by rw [hlen]; exact hl, hm, ?_⟩
  by_cases h1 : len = 0
  · exact .inl (hlen.trans h1)
  refine .inr ?_
  obtain ⟨b, off, spot⟩ := a
  have h00 := hc 0 (by omega)
  have hspot : spot = none := by simpa [Addr.add] using World.cell?_spot h00
  subst hspot
  refine ⟨b, off, rfl, World.block_lt_of_cell? _ _ h00, fun i hi => ?_⟩
  have hi' : i < len := by simpa using hi
  have h2 := hc i (by omega)
  rw [Addr.add_lit] at h2
  rw [h2]
  simp
end
/-- How many bytes are handed in. -/
def weiR (l : List (List UInt8)) : Nat := (l.map fun p => min p.length 20001).sum
theorem weiR_take {l : List (List UInt8)} {k : Nat} (h : k < l.length) : weiR (l.take (k + 1)) = weiR (l.take k) + min l[k].length 20001 := by
  unfold weiR
  rw [List.take_succ_eq_append_getElem h, List.map_append, List.sum_append]
  simp
theorem weiR_le (l : List (List UInt8)) : weiR l ≤ l.length * 20001 := by
  induction l with
  | nil => simp [weiR]
  | cons p r ih =>
    have e : weiR (p :: r) = min p.length 20001 + weiR r := rfl
    rw [e, List.length_cons, Nat.add_mul]
    omega
theorem weiR_mem {l : List (List UInt8)} (h : weiR l ≤ 20000) : ∀ p ∈ l, p.length ≤ 20000 := by
  induction l with
  | nil => intro p hp; cases hp
  | cons u r ih =>
    have e : weiR (u :: r) = min u.length 20001 + weiR r := rfl
    intro p hp
    rcases List.mem_cons.1 hp with rfl | hp
    · omega
    · exact ih (by omega) p hp
theorem took_split {L : List MV} {Q : List (List UInt8 × Value)} {a : Nat} (h : L.map (·.d) = (Q.map (·.1)).drop a) (ha : a < Q.length) : ∃ m L', L = m :: L' ∧ m.d = Q[a].1 ∧ L'.map (·.d) = (Q.map (·.1)).drop (a + 1) := by
  rw [List.drop_eq_getElem_cons (by simpa using ha), List.getElem_map] at h
  cases L with
  | nil => cases h
  | cons m L' =>
    rw [List.map_cons] at h
    injection h with h1 h2
    exact ⟨m, L', rfl, h1, h2⟩
/-- Slices that came in, kept in a row of the call's own. -/
structure SQ (B : Nat) (w : World) (v : Value) (Q : List (List UInt8 × Value)) : Prop where
  own : w.ownsRow B 33 1 v Q.length (Q.map (·.2))
  dat : ∀ x ∈ Q, ∃ ro c, x.2 = .slice ro x.1.length c ∧ SB (· < B) w ro x.1.length c x.1
/-- The net and what was sent, apart from each other. -/
structure OQ (B : Nat) (w : World) (n : Nat) (room : Int) (L : List MV) (v : Value) (Q : List (List UInt8 × Value)) (C : Nat → Prop) : Prop where
  hn : NK C w n room L
  sq : SQ B w v Q
  b1 : ∀ k, C k → B ≤ k
  ap : ∀ k, v.ownBlock = some k → ¬ C k
  bw : B ≤ w.heap.size
section
variable {B n : Nat} {w w' : World} {room : Int} {L L' : List MV} {v v' : Value} {Q : List (List UInt8 × Value)} {C C' S : Nat → Prop}
theorem SQ.tn (h : SQ B w v Q) (ht : Tn S w w') (hv : ∀ k, v.ownBlock = some k → ¬ S k) (hs : ∀ k, S k → B ≤ k) : SQ B w' v Q :=
  ⟨own_tn h.own ht hv, fun x hx => let ⟨ro, c, h1, h2⟩ := h.dat x hx; ⟨ro, c, h1, h2.tn ht (fun k h1 h2 => by have := hs k h2; omega)⟩⟩
theorem SQ.below (h : SQ B w v Q) (hb : Below w.heap.size w w') : SQ B w' v Q := h.tn (Tn.of_below (S := fun _ => False) hb) (fun _ _ e => e) (fun _ e => e.elim)
theorem SQ.at_ {ao : Option Addr} {m cap : Nat} (h : SQ B w (.slice ao m cap) Q) {k : Nat} (hk : k < Q.length) : ∃ g, ao = some ⟨g, 0, none⟩ ∧ g < w.heap.size ∧ w.cell? ⟨g, k, none⟩ = some Q[k].2 := by
  obtain ⟨g, c, e⟩ := own_shape h.own (by omega)
  injection e with e1 e2 e3
  subst e1
  have hc := h.own
  refine ⟨g, rfl, (h.own.lt g rfl).2, ?_⟩
  rcases hc.2 with ⟨e, h0⟩ | ⟨g', c', cur, e, hb, hg, h1, h2, h3, h4⟩
  · cases e
  · injection e with e1 e2 e3
    injection e1 with e1
    injection e1 with e1
    subst e1
    have hlt : k < cur.size := by omega
    have e5 : cur[k]? = some Q[k].2 := by
      have e6 : (cur.toList.take (Q.length * 1))[k]? = (Q.map (·.2))[k]? := by rw [h4]
      rw [List.getElem?_take_of_lt (by omega), List.getElem?_map, List.getElem?_eq_getElem hk] at e6
      simpa using e6
    rw [cell_of_row _ g k cur _ (0, 0) hg, e5]
theorem SQ.cell {g m cap : Nat} (h : SQ B w (.slice (some ⟨g, 0, none⟩) m cap) Q) {k : Nat} (hk : k < Q.length) : w.cell? ⟨g, k, none⟩ = some Q[k].2 := by
  obtain ⟨g', e, _, hc⟩ := h.at_ hk
  injection e with e
  injection e with e
  subst e
  exact hc
theorem SQ.sb (h : SQ B w v Q) {k : Nat} (hk : k < Q.length) {r : Option Addr} {m c : Nat} {d : List UInt8} (e : Q[k].2 = .slice r m c) (hd : Q[k].1 = d) : SB (· < B) w r m c d := by
  obtain ⟨r2, c2, h1, h2⟩ := h.dat _ (List.getElem_mem hk)
  rw [e] at h1
  injection h1 with e1 e2 e3
  subst e1 e3
  rw [e2, ← hd]
  exact h2
theorem OQ.below (h : OQ B w n room L v Q C) (hb : Below w.heap.size w w') : OQ B w' n room L v Q C :=
  ⟨h.hn.below hb, h.sq.below hb, h.b1, h.ap, Nat.le_trans h.bw hb.size⟩
theorem OQ.went (h : OQ B w n room L v Q C) (hk : NK C' w' n room L') (hw : Way C w C' w') : OQ B w' n room L' v Q C' ∧ Below B w w' := by
  refine ⟨⟨hk, h.sq.tn hw.tn h.ap h.b1, fun k h1 => ?_, fun k hv h1 => ?_, Nat.le_trans h.bw hw.tn.size⟩, hw.tn.below h.bw h.b1⟩
  · rcases hw.new k h1 with h3 | h3
    · exact h.b1 k h3
    · have := h.bw; omega
  · rcases hw.new k h1 with h3 | h3
    · exact h.ap k hv h3
    · have := (h.sq.own.lt k hv).2; omega
theorem OQ.push (h : OQ B w n room L v Q C) (hg : w.grownBy w' v.ownBlock) {d : List UInt8} {ro : Option Addr} {c : Nat} (hs : SB (· < B) w ro d.length c d) (ho : w'.ownsRow B 33 1 v' (Q.length + 1) (Q.map (·.2) ++ [.slice ro d.length c])) (hat : v'.ownBlock = v.ownBlock ∨ v'.ownBlock = some w.heap.size) :
    OQ B w' n room L v' (Q ++ [(d, .slice ro d.length c)]) C ∧ Below B w w' := by
  have hv := fun k hk => (h.sq.own.lt k hk).1
  have ht : Tn (fun k => v.ownBlock = some k) w w' := (Tn.refl _ _).grown hg (fun k hk _ => hk)
  have hb := ht.below h.bw hv
  refine ⟨⟨h.hn.tn ht (fun k h1 h2 => h.ap k h2 h1), ⟨by rw [List.length_append, List.map_append]; exact ho, fun x hx => ?_⟩, h.b1, fun k hk h1 => ?_, Nat.le_trans h.bw ht.size⟩, hb⟩
  · rcases List.mem_append.1 hx with hx | hx
    · obtain ⟨r2, c2, h1, h2⟩ := h.sq.dat x hx
      exact ⟨r2, c2, h1, h2.tn (tn_low hb) (fun k h1 h2 => by omega)⟩
    · obtain rfl : x = (d, .slice ro d.length c) := by simpa using hx
      exact ⟨ro, c, rfl, hs.tn (tn_low hb) (fun k h1 h2 => by omega)⟩
  · rcases hat with e | e
    · exact h.ap k (e ▸ hk) h1
    · rw [e] at hk
      injection hk with hk
      have := h.hn.lt k h1
      omega
end
end Go.Proofs.Ytcgbjpmmbbldpaa
