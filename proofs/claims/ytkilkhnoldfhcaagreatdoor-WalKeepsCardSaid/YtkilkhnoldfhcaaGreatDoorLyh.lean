/- Rows of bytes that came in; a log of a new disk of which nothing falls, step by step. Conditions: none of its own. -/
import Derived.Test.YtkilkhnoldfhcaaGreatDoorLyg
import Derived.Test.YtkilkhnoldfhcaaGreatDoorFrT
namespace Go.Proofs.YtkilkhnoldfhcaaGreatDoor
open Go.RowKit
section
variable {H : Type} {enc : TypeId × Value → H} {w : World} {base : Nat} {held : Bool}
theorem open_rb {fuel : Nat} {v : Value} {x : DataW H × List MemPlace} (h : DataW.trod enc Tryz.prog w base (fun _ => true) held fuel 57 [v] = some x) :
    ∃ ao cap xs, v = .slice ao xs.length cap ∧ Fr.RB w.heap.size w ao xs.length cap xs := by
  rcases Go.Deep.open_slice1 Tryz.underlying57 (by kernel_rfl) h with ⟨h0, _⟩ | ⟨a, len, cap, m, n, V, D, Pl, h0, hb, hl, hm, hmm, rfl, hx⟩
  · simp at h0
    subst h0
    exact ⟨none, 0, [], rfl, rfl, Nat.le_refl _, by decide, fun _ => rfl, .inl rfl⟩
  simp only [if_true] at hmm
  subst hmm
  simp at h0
  subst h0
  obtain ⟨B, hB⟩ := Go.Deep.choose_lt (α := List UInt8) (p := fun i l => ∃ ao c, V i = .slice ao l.length c ∧ Fr.SB w.heap.size w ao l.length c l) (fun i hi => by
    obtain ⟨ao, c, xs, h1, h2⟩ := open_sb (hx i hi).2
    exact ⟨xs, ao, c, h1, fr_sb h2⟩)
  have hlen : ((List.range len).map B).length = len := by simp
  refine ⟨some a, m, (List.range len).map B, by rw [hlen], by rw [hlen], by rw [hlen]; exact hl, hm, (fun e => by cases e), ?_⟩
  rw [hlen]
  by_cases h1 : len = 0
  · exact .inl h1
  right
  obtain ⟨b, off, spot⟩ := a
  have h00 := (hx 0 (by omega)).1
  have hspot : spot = none := by simpa [Addr.add] using World.cell?_spot h00
  subst hspot
  refine ⟨b, off, rfl, World.block_lt_of_cell? _ _ h00, fun i hi => ?_⟩
  have h2 := (hx i (by omega)).1
  rw [Addr.add_lit] at h2
  obtain ⟨ro, c, h3, h4⟩ := hB i (by omega)
  have e : ((List.range len).map B).getD i [] = B i := by simp [List.getD, hi]
  rw [e]
  exact ⟨ro, _, c, by rw [h2, h3], h4⟩
end
section
variable {B : Nat} {w w' : World} {ao : Option Addr} {n cap : Nat} {l : List UInt8} {L : List (List UInt8)}
theorem sb_fr (h : Fr.SB B w ao n cap l) : SB (fun k => k < B) w ao n cap l := by
  refine ⟨h.len, h.le, h.max, h.nil, ?_⟩
  rcases h.cells with h0 | ⟨b, off, rfl, hB, hc⟩
  · exact .inl h0
  · exact .inr ⟨b, off, rfl, hB, hc⟩
/-- The rows from a place on. -/
theorem rb_drop {b off : Nat} (h : Fr.RB B w (some ⟨b, off, none⟩) n cap L) {k : Nat} (hk : k ≤ n) (o : Option Addr) (ho : k < cap → o = some ⟨b, off + k, none⟩) (_ho2 : ¬ k < cap → o = some ⟨b, off, none⟩) : Fr.RB B w o (n - k) (cap - k) (L.drop k) := by
  have hl := h.len
  have hc := h.le
  have hm := h.max
  refine ⟨by rw [List.length_drop]; omega, by omega, by omega, fun e => ?_, ?_⟩
  · by_cases hkc : k < cap
    · rw [ho hkc] at e; cases e
    · omega
  · by_cases h0 : n - k = 0
    · exact .inl h0
    · refine .inr ⟨b, off + k, ho (by omega), ?_, fun i hi => ?_⟩
      · rcases h.cells with h1 | ⟨b2, o2, e, hB, _⟩
        · omega
        · injection e with e
          injection e with e1 e2
          rw [e1]
          exact hB
      · obtain ⟨b2, o2, ro, m, c, e, h1, h2⟩ := h.at_ (i := k + i) (by omega)
        injection e with e
        injection e with e1 e2
        subst e1 e2
        refine ⟨ro, m, c, by rw [Nat.add_assoc]; exact h1, ?_⟩
        have e3 : (L.drop k).getD i [] = L.getD (k + i) [] := by rw [List.getD_eq_getElem?_getD, List.getD_eq_getElem?_getD, List.getElem?_drop]
        rw [e3]
        exact h2
end
theorem rb_z {w : World} {ao : Option Addr} {n c : Nat} {M : List (List UInt8)} (hn : n = 0) (hc : c = 0) (hM : M = []) : Fr.RB w.heap.size w ao n c M := by
  subst hn hc hM
  exact ⟨rfl, Nat.le_refl _, by decide, fun _ => rfl, .inl rfl⟩
section
variable {C : Nat → Prop} {w : World}
theorem ro_rb2 {ao : Option Addr} {n cap : Nat} {us : List Value} {L : List (List UInt8)} (h : RO C w (.slice ao n cap) us L) (hn : n = L.length) : Fr.RB w.heap.size w ao n cap L := by
  have ho := h.own
  rcases ho.2 with ⟨e, h0⟩ | ⟨g, c, cur, e, _, hg, h1, h2, _⟩
  · injection e with e1 e2 e3
    subst e1 e2 e3
    exact ⟨hn, Nat.le_refl _, by decide, fun _ => rfl, .inl rfl⟩
  · injection e with e1 e2 e3
    subst e1 e3
    refine ⟨hn, by omega, h2, (fun e => by cases e), ?_⟩
    by_cases hz : n = 0
    · exact .inl hz
    refine .inr ⟨g, 0, rfl, (Array.getElem?_eq_some_iff.1 hg).1, fun i hi => ?_⟩
    have hiL : i < L.length := by omega
    obtain ⟨co, cc, c0, o0⟩ := ro_get h rfl hiL
    have e : L.getD i [] = L[i] := by rw [List.getD_eq_getElem?_getD, List.getElem?_eq_getElem hiL]; rfl
    rw [Nat.zero_add, e]
    exact ⟨co, _, cc, c0, fr_sb (own_sb o0)⟩
end
/-- How many bytes rows have. -/
def weiR (L : List (List UInt8)) : Nat := (L.map fun p => min p.length 20001).sum
theorem weiR_take {L : List (List UInt8)} {k : Nat} (h : k < L.length) : weiR (L.take (k + 1)) = weiR (L.take k) + min L[k].length 20001 := by
  unfold weiR
  rw [List.take_succ_eq_append_getElem h, List.map_append, List.sum_append]
  simp
theorem weiR_le (L : List (List UInt8)) : weiR L ≤ L.length * 20001 := by
  unfold weiR
  induction L with
  | nil => simp
  | cons x r ih => simp at ih ⊢; omega
theorem weiR_mem {L : List (List UInt8)} (h : weiR L ≤ 20000) : (∀ p ∈ L, p.length ≤ 20000) ∧ (L.map List.length).sum ≤ 20000 := by
  have e : (∀ p ∈ L, p.length ≤ 20000) ∧ (L.map List.length).sum = weiR L := by
    induction L with
    | nil => exact ⟨fun _ h => (nomatch h), rfl⟩
    | cons x r ih =>
      have h1 : weiR (x :: r) = min x.length 20001 + weiR r := by simp [weiR]
      obtain ⟨h2, h3⟩ := ih (by omega)
      refine ⟨fun p hp => ?_, ?_⟩
      · rcases List.mem_cons.1 hp with rfl | hp
        · omega
        · exact h2 p hp
      · rw [List.map_cons, List.sum_cons, h3]
        omega
  exact ⟨e.1, by omega⟩
theorem wt_sum (L : List (List UInt8)) : wt L = (L.map List.length).sum + 12 * L.length := by
  unfold wt
  induction L with
  | nil => rfl
  | cons x r ih => simp at ih ⊢; omega
theorem sum_take_le (L : List (List UInt8)) (i : Nat) : ((L.take i).map List.length).sum ≤ (L.map List.length).sum := by
  conv => rhs; rw [← List.take_append_drop i L]
  rw [List.map_append, List.sum_append]
  omega
theorem wt_drop_le (L : List (List UInt8)) (i : Nat) : wt (L.drop i) ≤ wt L := by
  conv => rhs; rw [← List.take_append_drop i L]
  rw [wt_append]
  omega
theorem segs_recs {lg : Lg} {lo : Nat} {all : List (List UInt8)} (h : Ch lg lo all) {m : Nat} (hp : ∀ p ∈ all, p.length ≤ m) : ∀ g ∈ lg.segs, ∀ p ∈ g.recs, p.length ≤ m := by
  obtain ⟨init, g, h1, h2, h3⟩ := h.seg
  intro x hx p hpx
  refine hp p ?_
  rw [← h3, ← h1]
  exact List.mem_flatten.2 ⟨x.recs, List.mem_map.2 ⟨x, hx, rfl⟩, hpx⟩
/-- A log over its disk, of which nothing falls: k steps have been done. -/
structure Calm (full k W : Nat) (lg : Lg) (d : Dk) (lo : Nat) (all : List (List UInt8)) : Prop where
  ch : Ch lg lo all
  fu : Fu lg
  mir : Mir lg d
  few : lg.segs.length ≤ k + 1
  next : lo + all.length ≤ k + 1
  wt : wt all ≤ W + 12 * k
  mem : ∀ p ∈ all, p.length ≤ 20000
  done : d.done + lg.segs.length ≤ 2 + 4 * k
  dir : lg.dir = dLog
  full : lg.full = full
section
variable {full k W V : Nat} {lg : Lg} {d : Dk} {lo : Nat} {all : List (List UInt8)} {p : List UInt8}
theorem calm_zero (full : Nat) (h : 64 ≤ full) : Calm full 0 0 (opZero full).1 (opZero full).2.1 1 [] := by
  obtain ⟨h1, h2⟩ := opMir_zero full h
  have h3 := opIn_zero full
  exact ⟨h3.ch, h1, h2, h3.few, Nat.le_refl _, Nat.zero_le _, fun _ h => (nomatch h), by have := h3.done; show fDA.done + 1 ≤ _; rw [f_da]; omega, h3.dir, h3.full⟩
theorem Calm.append (h : Calm full k W lg d lo all) (hk : k ≤ 1000) (hW : W ≤ 20000) (hp : p.length ≤ 20000) (hV : W + p.length ≤ V) :
    Calm full (k + 1) V (lg.append d p).1 (lg.append d p).2.1 lo (if (lg.append d p).2.2.2 = 0 then all ++ [p] else all) ∧ ((lg.append d p).2.2.2 = 0 → (lg.append d p).2.2.1 = lo + all.length) ∧ ((lg.append d p).2.2.2 = 0 ∨ ((lg.append d p).2.2.2 ≠ 0 ∧ 64 ≤ (lg.append d p).2.1.f.length)) := by
  have hw := h.wt
  have hf := h.few
  have hn := h.ch.next
  have hx := h.next
  obtain ⟨c1, c2, c3, c4, c5, c6⟩ := h.ch.append (p := p) (by omega) (by omega) d
  obtain ⟨m1, m2⟩ := append_mir (p := p) h.ch h.fu h.mir (by omega) (by omega)
  refine ⟨⟨c1, m1, m2, by omega, ?_, ?_, ?_, by have := h.done; omega, c3.trans h.dir, c4.trans h.full⟩, c6, append_res h.ch h.fu h.mir (by omega) (by omega) (by omega) (by omega)⟩
  · split
    · rw [List.length_append]; simp; omega
    · omega
  · split
    · rw [wt_append, wt_one]; omega
    · omega
  · split
    · intro q hq
      rcases List.mem_append.1 hq with hq | hq
      · exact h.mem q hq
      · obtain rfl : q = p := by simpa using hq
        exact hp
    · exact h.mem
theorem Calm.sync (h : Calm full k W lg d lo all) : Calm full (k + 1) W (lg.sync d).1 (lg.sync d).2.1 lo all ∧ (lg.sync d).2.2 = 0 ∧ (lg.sync d).1.safe + 1 = lo + all.length ∧ (lg.sync d).1.segs = lg.segs := by
  obtain ⟨s1, s2, s3, s4, s5, s6, s7, s8⟩ := lsync_mir h.ch h.fu h.mir
  obtain ⟨c1, c2, c3, c4, c5, c6, c7⟩ := h.ch.sync d
  exact ⟨⟨s2, s3, s4, by rw [c2]; have := h.few; omega, by have := h.next; omega, by have := h.wt; omega, h.mem, by have := h.done; rw [c2]; omega, c3.trans h.dir, c4.trans h.full⟩, s1, c7 s1, c2⟩
theorem Calm.trim (h : Calm full k W lg d lo all) (hr : Rising d.f) (below : Int) : ∃ lo', Calm full (k + 1) W (lg.trim d below).1 (lg.trim d below).2.1 lo' (all.drop (lo' - lo)) ∧ (lg.trim d below).2.2 = 0 ∧ lo ≤ lo' ∧ lo' - lo ≤ all.length ∧ (lo' = lo ∨ (lo' : Int) ≤ below) ∧ (lg.trim d below).1.safe = lg.safe ∧ Rising (lg.trim d below).2.1.f := by
  obtain ⟨lo', ht⟩ := trim_mir (below := below) lg.segs d lo all h.ch h.fu h.mir hr
  have h1 := ht.low
  have h2 := ht.hi
  have h3 : (lg.trim d below).1.segs.length ≤ lg.segs.length := ht.len
  have h4 : (lg.trim d below).2.1.done + (lg.trim d below).1.segs.length ≤ d.done + lg.segs.length := ht.done
  have h5 := h.few
  have h6 := h.next
  have h7 := h.wt
  have h8 := h.done
  have h9 := wt_drop_le all (lo' - lo)
  exact ⟨lo', ⟨ht.ch, ht.fu, ht.mir, by omega, by rw [List.length_drop]; omega, by omega, fun p hp => h.mem p (List.mem_of_mem_drop hp), by omega, ht.dir.trans h.dir, ht.full.trans h.full⟩, ht.code, h1, h2, ht.why, ht.safe, ht.rise⟩
theorem Calm.tot (h : Calm full k W lg d lo all) : Go.Proofs.YtkilkhnoldfhcaaGreatDoor.tot d.f ≤ W + 12 * k := by
  obtain ⟨init, g, h1, _, h3⟩ := h.ch.seg
  rw [tot_mir h.mir, h1, h3]
  exact h.wt
/-- Opened anew, a log tells what it told. -/
theorem Calm.open (h : Calm full k W lg d lo all) (hr : Rising d.f) (h64 : 64 ≤ full ∧ full ≤ 262144) : openL dLog (full : Int) d = (some { lg with safe := lg.next - 1 }, (d.sync (segN lg.dir lg.last.first)).1, 0) ∧ Ch { lg with safe := lg.next - 1 } lo all := by
  have h1 := open_mir h.ch h.mir hr (by rw [h.full]; exact h64) (segs_recs h.ch (fun p hp => Nat.le_trans (h.mem p hp) (by decide)))
  refine ⟨?_, h.ch.ok.safe _, h.ch.seg, h.ch.low, ?_⟩
  · rw [← h.full, show dLog = lg.dir from h.dir.symm]
    exact h1
  · have h2 := h.ch.next
    have h3 := h.ch.pos
    show lg.next - 1 < _
    omega
theorem lsync_ok (h : Ok d) : Ok (lg.sync d).2.1 := by
  unfold Lg.sync
  split <;> exact h.sync
/-- From tells all, where all are safe. -/
theorem Ch.whole (h : Ch lg lo all) (hs : lg.safe + 1 = lo + all.length) (hl : all.length ≤ 1073741824) : lg.from (lo : Int) 1073741824 = some all ∧ (lg.rests (lo : Int)).length = all.length := by
  refine ⟨?_, ?_⟩
  · rw [h.from, if_neg (by omega), show ((lo : Int) - (lo : Int)).toNat = 0 by omega, List.drop_zero, show (min (1073741824 : Int) ((lg.safe : Int) + 1 - (lo : Int))).toNat = all.length by omega, List.take_length]
  · rw [h.rests, show ((lo : Int) - (lo : Int)).toNat = 0 by omega, List.drop_zero]
theorem Calm.more (h : Calm full k W lg d lo all) : Calm full (k + 1) W lg d lo all := ⟨h.ch, h.fu, h.mir, by have := h.few; omega, by have := h.next; omega, by have := h.wt; omega, h.mem, by have := h.done; omega, h.dir, h.full⟩
end
end Go.Proofs.YtkilkhnoldfhcaaGreatDoor
