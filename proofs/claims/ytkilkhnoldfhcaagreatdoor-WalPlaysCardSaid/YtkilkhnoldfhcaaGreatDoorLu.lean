/- Operations of a log that came in; racelaw7.Few. Conditions: none of its own. Logs whose segments hang together, and what writing makes of them, in plain terms. Conditions: none of its own. -/
import Derived.Test.YtkilkhnoldfhcaaGreatDoorLt
import Derived.Test.YtkilkhnoldfhcaaGreatDoorCards
import Derived.Deep.Slices
import Derived.Deep.SlicePairs
namespace Go.Proofs.YtkilkhnoldfhcaaGreatDoor
open Go.ChangeShapes Go.WideShapes Go.ChangeAt Go.RowKit Go.Deep
theorem bytes_self (s : ByteArray) : (⟨s.data.toList.toArray⟩ : ByteArray) = s := by cases s; simp
/-- An operation of a log. -/
structure Wo where
  kind : Int
  n : Int
  m : Int
  b : List UInt8
  name : Nm
  picks : List Int
/-- What an operation says is what Go's types hold. -/
structure Wo.wf (p : Wo) : Prop where
  kind : -9223372036854775808 ≤ p.kind ∧ p.kind ≤ 9223372036854775807
  n : -9223372036854775808 ≤ p.n ∧ p.n ≤ 9223372036854775807
  m : -9223372036854775808 ≤ p.m ∧ p.m ≤ 9223372036854775807
  name : p.name.length ≤ maxLen
/-- An operation's cells. -/
structure WAt (C : Nat → Prop) (w : World) (b o : Nat) (p : Wo) : Prop where
  c0 : w.cell? ⟨b, o, none⟩ = some (.int .i64 p.kind)
  c1 : w.cell? ⟨b, o + 1, none⟩ = some (.int .i64 p.n)
  c2 : w.cell? ⟨b, o + 2, none⟩ = some (.int .i64 p.m)
  c3 : ∃ ao cap, w.cell? ⟨b, o + 3, none⟩ = some (.slice ao p.b.length cap) ∧ SB C w ao p.b.length cap p.b
  c4 : w.cell? ⟨b, o + 4, none⟩ = some (nmv p.name)
  c5 : ∃ ao cap, w.cell? ⟨b, o + 5, none⟩ = some (.slice ao p.picks.length cap) ∧ SI C w ao p.picks.length cap p.picks
/-- A slice of operations. -/
structure SW (C : Nat → Prop) (w : World) (ao : Option Addr) (n cap : Nat) (l : List Wo) : Prop where
  len : n = l.length
  le : n ≤ cap
  max : cap ≤ maxLen
  wf : ∀ p ∈ l, p.wf
  cells : n = 0 ∨ ∃ b off, ao = some ⟨b, off, none⟩ ∧ C b ∧ ∀ i (h : i < l.length), WAt C w b (off + i * 6) l[i]
theorem WAt.tn {C S : Nat → Prop} {w w' : World} {b o : Nat} {p : Wo} (h : WAt C w b o p) (ht : Tn S w w') (hb : C b) (hd : ∀ k, C k → ¬ S k) : WAt C w' b o p := by
  obtain ⟨a3, k3, h3, s3⟩ := h.c3
  obtain ⟨a5, k5, h5, s5⟩ := h.c5
  have n := hd b hb
  exact ⟨ht.cell h.c0 n, ht.cell h.c1 n, ht.cell h.c2 n, ⟨a3, k3, ht.cell h3 n, s3.tn ht hd⟩, ht.cell h.c4 n, ⟨a5, k5, ht.cell h5 n, s5.tn ht hd⟩⟩
theorem SW.tn {C S : Nat → Prop} {w w' : World} {ao : Option Addr} {n cap : Nat} {l : List Wo} (h : SW C w ao n cap l) (ht : Tn S w w') (hd : ∀ k, C k → ¬ S k) : SW C w' ao n cap l := by
  refine ⟨h.len, h.le, h.max, h.wf, ?_⟩
  rcases h.cells with h0 | ⟨b, off, rfl, hB, hc⟩
  · exact .inl h0
  · exact .inr ⟨b, off, rfl, hB, fun i hi => (hc i hi).tn ht hB hd⟩
theorem SW.below {C : Nat → Prop} {w w' : World} {ao : Option Addr} {n cap : Nat} {l : List Wo} (h : SW C w ao n cap l) (hb : Below w.heap.size w w') : SW C w' ao n cap l := h.tn (Tn.of_below (S := fun _ => False) hb) (fun _ _ e => e)
theorem SW.lt {C : Nat → Prop} {w : World} {ao : Option Addr} {n cap : Nat} {l : List Wo} (h : SW C w ao n cap l) : n ≤ 9223372036854775807 := by have := h.le; have := h.max; unfold maxLen at this; omega
theorem SW.at_ {C : Nat → Prop} {w : World} {ao : Option Addr} {n cap : Nat} {l : List Wo} (h : SW C w ao n cap l) {i : Nat} (hi : i < l.length) : ∃ b off, ao = some ⟨b, off, none⟩ ∧ C b ∧ WAt C w b (off + i * 6) l[i] ∧ l[i].wf := by
  have hn := h.len
  rcases h.cells with h0 | ⟨b, off, rfl, hB, hc⟩
  · omega
  · exact ⟨b, off, rfl, hB, hc i hi, h.wf _ (List.getElem_mem _)⟩
section
variable {H : Type} {enc : TypeId × Value → H} {w : World} {base : Nat} {held : Bool}
instance : Inhabited Wo := ⟨⟨0, 0, 0, [], [], []⟩⟩
set_option maxRecDepth 100000 in
theorem wop_cells {n : Nat} {b o : Nat} {cs : List Value} {y : DataW H × List MemPlace} (h1 : w.cells? base ⟨b, o, none⟩ 6 = some cs) (h : DataW.trod enc Tryz.prog w base (fun _ => true) held n 39 cs = some y) :
    ∃ p : Wo, p.wf ∧ WAt (fun k => k < w.heap.size) w b o p := by
  obtain ⟨_, hlen, hcell⟩ := World.cells?_some h1
  obtain ⟨xs, k, hk, hxy, _, hxl, hf⟩ := DataW.trod_struct Tryz.underlying39 h
  match xs, hxl, cs, hlen with
  | [y0, y1, y2, y3, y4, y5], _, [v0, v1, v2, v3, v4, v5], _ =>
    have g0 := hf 0 _ rfl
    have g1 := hf 1 _ rfl
    have g2 := hf 2 _ rfl
    have g3 := hf 3 _ rfl
    have g4 := hf 4 _ rfl
    have g5 := hf 5 _ rfl
    have q0 : Tryz.prog.cellsOf 3 = 1 := by kernel_rfl
    have q1 : Tryz.prog.cellsOf 9 = 1 := by kernel_rfl
    have q2 : Tryz.prog.cellsOf 36 = 1 := by kernel_rfl
    have q3 : Tryz.prog.cellsOf 37 = 1 := by kernel_rfl
    simp [q0, q1, q2, q3] at g0 g1 g2 g3 g4 g5
    have e0 := hcell 0 (by omega)
    have e1 := hcell 1 (by omega)
    have e2 := hcell 2 (by omega)
    have e3 := hcell 3 (by omega)
    have e4 := hcell 4 (by omega)
    have e5 := hcell 5 (by omega)
    rw [add_plain] at e0 e1 e2 e3 e4 e5
    obtain ⟨k0, f0, rfl, wf0⟩ := DataW.trod_int Tryz.underlying3 g0
    obtain ⟨k1, f1, rfl, wf1⟩ := DataW.trod_int Tryz.underlying3 g1
    obtain ⟨k2, f2, rfl, wf2⟩ := DataW.trod_int Tryz.underlying3 g2
    obtain ⟨a3, p3, x3, f3, r3⟩ := open_sb g3
    obtain ⟨s4, f4, rfl, wf4⟩ := DataW.trod_string Tryz.underlying9 g4
    obtain ⟨a5, p5, x5, f5, r5⟩ := open_si g5
    simp at f0 f1 f2 f4
    subst f0 f1 f2 f3 f4 f5
    simp [Lit.wf, IntKind.min, IntKind.max, IntKind.signed, IntKind.bits] at wf0 wf1 wf2
    refine ⟨⟨k0, k1, k2, x3, s4.data.toList, x5⟩, ⟨⟨by simp only; omega, by simp only; omega⟩, ⟨by simp only; omega, by simp only; omega⟩, ⟨by simp only; omega, by simp only; omega⟩, ?_⟩, by simpa using e0, by simpa using e1, by simpa using e2, ⟨a3, p3, by simpa using e3, r3⟩, by simpa using e4, ⟨a5, p5, by simpa using e5, r5⟩⟩
    rw [Array.length_toList]; exact wf4
set_option maxRecDepth 100000 in
theorem open_sw {fuel : Nat} {v : Value} {x : DataW H × List MemPlace} (h : DataW.trod enc Tryz.prog w base (fun _ => true) held fuel 22 [v] = some x) :
    ∃ ao cap l, v = .slice ao l.length cap ∧ SW (fun k => k < w.heap.size) w ao l.length cap l := by
  rcases open_slice Tryz.underlying22 h with ⟨h0, _⟩ | ⟨a, len, cap, m, n, D, Pl, h0, hb, hl, hm, hmm, rfl, hx⟩
  · exact ⟨none, 0, [], by simpa using h0, rfl, Nat.le_refl _, by decide, fun _ h => (nomatch h), .inl rfl⟩
  simp only [if_true] at hmm
  subst hmm
  have q : Tryz.prog.cellsOf 39 = 6 := by kernel_rfl
  rw [q] at hx
  obtain ⟨b, o, spot⟩ := a
  by_cases h1 : len = 0
  · subst h1
    exact ⟨some ⟨b, o, spot⟩, m, [], by simpa using h0, rfl, Nat.zero_le _, hm, fun _ h => (nomatch h), .inl rfl⟩
  have hspot : spot = none := by
    obtain ⟨cs, h2, _⟩ := hx 0 (by omega)
    obtain ⟨_, hlen, hcell⟩ := World.cells?_some h2
    have := hcell 0 (by omega)
    match cs, hlen with
    | v0 :: _, _ => simpa [Addr.add] using World.cell?_spot (show w.cell? _ = some v0 from this)
  subst hspot
  obtain ⟨R, hR⟩ := choose_lt (α := Wo) (n := m) (p := fun i r => r.wf ∧ WAt (fun k => k < w.heap.size) w b (o + i * 6) r) (fun i hi => by
    obtain ⟨cs, h2, h3⟩ := hx i hi
    rw [add_plain] at h2
    exact wop_cells h2 h3)
  have hlen : ((List.range len).map R).length = len := by simp
  refine ⟨some ⟨b, o, none⟩, m, (List.range len).map R, by simpa using h0, rfl, by rw [hlen]; exact hl, hm, ?_, .inr ⟨b, o, rfl, ?_, fun i hi => ?_⟩⟩
  · intro r hr
    obtain ⟨i, hi, rfl⟩ := List.mem_map.1 hr
    exact (hR i (by have := List.mem_range.1 hi; omega)).1
  · exact World.block_lt_of_cell? _ _ (hR 0 (by omega)).2.c0
  · have hi' : i < len := by simpa using hi
    rw [List.getElem_map, List.getElem_range]
    exact (hR i (by omega)).2
end
/-- How many bytes operations bear. -/
def weiw (l : List Wo) : Nat := (l.map fun p => min p.b.length 20001 + min p.name.length 20001).sum
def fewW (l : List Wo) : Bool := decide (l.length ≤ 200) && decide (weiw (l.take 200) ≤ 20000)
theorem weiw_take {l : List Wo} {k : Nat} (h : k < l.length) : weiw (l.take (k + 1)) = weiw (l.take k) + (min l[k].b.length 20001 + min l[k].name.length 20001) := by
  unfold weiw
  rw [List.take_succ_eq_append_getElem h, List.map_append, List.sum_append]
  simp
theorem weiw_le (l : List Wo) : weiw l ≤ l.length * 40002 := by
  induction l with
  | nil => simp [weiw]
  | cons p r ih =>
    have e : weiw (p :: r) = (min p.b.length 20001 + min p.name.length 20001) + weiw r := rfl
    rw [e, List.length_cons, Nat.add_mul]
    omega
theorem feww_yes {l : List Wo} (h : fewW l = true) : l.length ≤ 200 ∧ weiw l ≤ 20000 := by
  unfold fewW at h
  simp only [Bool.and_eq_true, decide_eq_true_eq] at h
  obtain ⟨h1, h2⟩ := h
  rw [List.take_of_length_le h1] at h2
  exact ⟨h1, h2⟩
theorem weiw_mem {l : List Wo} (h : weiw l ≤ 20000) : ∀ p ∈ l, p.name.length ≤ 20000 ∧ p.b.length ≤ 20000 := by
  induction l with
  | nil => intro p hp; cases hp
  | cons u r ih =>
    have e : weiw (u :: r) = (min u.b.length 20001 + min u.name.length 20001) + weiw r := rfl
    intro p hp
    rcases List.mem_cons.1 hp with rfl | hp
    · omega
    · exact ih (by omega) p hp
set_option maxRecDepth 100000 in
set_option maxHeartbeats 1000000 in
theorem feww_any {C : Nat → Prop} {w : World} {ao : Option Addr} {n cap : Nat} {l : List Wo} (h : SW C w ao n cap l) :
    Calls Tryz.prog 12 #[.slice ao n cap] w fun e w' => e = .returned (.bool (fewW l)) ∧ Below w.heap.size w w' := by
  have hlt := h.lt
  have hl := h.len
  have H := Lib.hid h
  have HL := Lib.hid hl
  clear h hl
  go_enter Tryz.func12, Tryz.ntmps12
  go_wp2
  go_loopw [3, 4] (fun s i wr => ∃ k : Nat, k ≤ n ∧ k ≤ 200 ∧ i = .int .i64 k ∧ s = .int .i64 (weiw (l.take k) : Nat) ∧ Hid (Below w.heap.size w wr)) (fun _ i _ => 200 - (intOf i).toNat)
  case atStart => exact ⟨0, Nat.zero_le _, Nat.zero_le _, rfl, rfl, Below.refl _ _⟩
  case round =>
    obtain ⟨k, hk, hk4, rfl, rfl, HB⟩ := hrel
    have hw := weiw_le (l.take k)
    rw [List.length_take] at hw
    by_cases hlt2 : k < n ∧ k < 200
    · obtain ⟨hkn, hk100⟩ := hlt2
      have hkl : k < l.length := by rw [← HL.out]; exact hkn
      obtain ⟨b, off, rfl, _, ho, hwf⟩ := (H.out.below HB.out).at_ hkl
      have HW := Lib.hid (weiw_take hkl)
      have c2 := ho.c2
      have c4 := ho.c4
      obtain ⟨a3, k3, c3, s3⟩ := ho.c3
      clear s3 ho
      have n1 := hwf.name
      unfold maxLen at n1
      generalize l[k].name = nm at *
      generalize l[k].b.length = bl at *
      have m1 : min (nm.length : Int) 20001 = ((min nm.length 20001 : Nat) : Int) := by omega
      have m3 : min (bl : Int) 20001 = ((min bl 20001 : Nat) : Int) := by omega
      go_wp2
      go_quiet (fail)
      have HB2 := Lib.hid (HB.out.trans ((below_drewN wr nq).mono HB.out.size))
      generalize wr.drewN nq = w2 at *
      go_wp2
      go_roundw
      case rel => exact ⟨k + 1, by omega, by omega, by go_num, by rw [HW.out]; congr 1; omega, HB2⟩
      case measure => simp [intOf]; omega
    · by_cases hkn : k < n
      · have hf := Lib.hid (show fewW l = false by unfold fewW; rw [← HL.out, decide_eq_false (by omega)]; rfl)
        have h100 : ¬ (k : Int) < 200 := by omega
        have hn100 : ¬ (n : Int) ≤ 200 := by omega
        clear hw hlt2
        generalize weiw (l.take k) = s at *
        go_wp2
        go_ret
        rw [hf.out]
        exact ⟨rfl, HB.out⟩
      · obtain rfl : k = n := by omega
        have hf := Lib.hid (show fewW l = decide (((weiw (l.take k) : Nat) : Int) ≤ 20000) by
          unfold fewW
          rw [← HL.out, decide_eq_true hk4, Bool.true_and, List.take_of_length_le (by rw [← HL.out]; exact hk4), List.take_of_length_le (by rw [← HL.out]; exact Nat.le_refl _)]
          by_cases hc : weiw l ≤ 20000
          · rw [decide_eq_true hc, decide_eq_true (by omega)]
          · rw [decide_eq_false hc, decide_eq_false (by omega)])
        clear hw hlt2
        generalize weiw (l.take k) = s at *
        go_wp2
        go_ret
        rw [hf.out]
        exact ⟨rfl, HB.out⟩
end Go.Proofs.YtkilkhnoldfhcaaGreatDoor
namespace Go.Proofs.YtkilkhnoldfhcaaGreatDoor
open Go.RowKit
/-- Each segment begins where the one ahead of it ends. -/
def linked : List Sg → Prop
  | [] => True
  | [_] => True
  | g :: g2 :: r => g2.first = g.next ∧ linked (g2 :: r)
def allR (l : List Sg) : List (List UInt8) := (l.map fun g => g.recs).flatten
def wt (L : List (List UInt8)) : Nat := (L.map fun p => p.length + 12).sum
theorem allR_cons (g : Sg) (r : List Sg) : allR (g :: r) = g.recs ++ allR r := by simp [allR]
theorem allR_append (l m : List Sg) : allR (l ++ m) = allR l ++ allR m := by simp [allR]
theorem allR_one (g : Sg) : allR [g] = g.recs := by simp [allR]
theorem wt_append (l m : List (List UInt8)) : wt (l ++ m) = wt l + wt m := by simp [wt]
theorem wt_one (p : List UInt8) : wt [p] = p.length + 12 := by simp [wt]
theorem linked_rests : ∀ (r : List Sg) (g : Sg) (k : Int), linked (g :: r) → ((g :: r).map fun g => g.rest k).flatten = (allR (g :: r)).drop (k - (g.first : Int)).toNat
  | [], g, k, _ => by simp [allR, Sg.rest]
  | g2 :: r, g, k, ⟨h1, h2⟩ => by
    have ih := linked_rests r g2 k h2
    have h3 : g2.first = g.first + g.recs.length := h1
    have e2 : (k - (g2.first : Int)).toNat = (k - (g.first : Int)).toNat - g.recs.length := by omega
    rw [List.map_cons, List.flatten_cons, ih, allR_cons g, List.drop_append, e2]
    rfl
theorem linked_last : ∀ (r : List Sg) (g : Sg), linked (g :: r) → ((g :: r).getD r.length ⟨0, []⟩).next = g.first + (allR (g :: r)).length
  | [], g, _ => by simp [allR, Sg.next]
  | g2 :: r, g, ⟨h1, h2⟩ => by
    have ih := linked_last r g2 h2
    have h3 : g2.first = g.first + g.recs.length := h1
    rw [allR_cons g, List.length_append, List.length_cons]
    show ((g2 :: r).getD r.length ⟨0, []⟩).next = _
    omega
theorem linked_in : ∀ (r : List Sg) (g : Sg), linked (g :: r) → ∀ x ∈ g :: r, g.first ≤ x.first ∧ x.first + x.recs.length ≤ g.first + (allR (g :: r)).length
  | [], g, _, x, hx => by
    obtain rfl : x = g := by simpa using hx
    rw [allR_one]
    omega
  | g2 :: r, g, ⟨h1, h2⟩, x, hx => by
    have h3 : g2.first = g.first + g.recs.length := h1
    rw [allR_cons g, List.length_append]
    rcases List.mem_cons.1 hx with rfl | hx
    · omega
    · have := linked_in r g2 h2 x hx
      omega
theorem linked_put : ∀ (l : List Sg) (g g' : Sg), linked (l ++ [g]) → g'.first = g.first → linked (l ++ [g'])
  | [], _, _, _, _ => trivial
  | [_], _, _, ⟨h, _⟩, e => ⟨e.trans h, trivial⟩
  | _ :: y :: r, g, g', ⟨h, h2⟩, e => ⟨h, linked_put (y :: r) g g' h2 e⟩
theorem linked_snoc : ∀ (l : List Sg) (g : Sg), linked (l ++ [g]) → ∀ g' : Sg, g'.first = g.next → linked (l ++ [g] ++ [g'])
  | [], _, _, _, e => ⟨e, trivial⟩
  | [_], _, ⟨h, _⟩, _, e => ⟨h, e, trivial⟩
  | _ :: y :: r, g, ⟨h, h2⟩, g', e => ⟨h, linked_snoc (y :: r) g h2 g' e⟩
theorem size_le {l : List Sg} {g : Sg} (h : g ∈ l) : g.size ≤ wt (allR l) := by
  induction l with
  | nil => cases h
  | cons x r ih =>
    rw [allR_cons, wt_append]
    rcases List.mem_cons.1 h with rfl | h
    · exact Nat.le_add_right _ _
    · have := ih h; omega
/-- A log whose segments hang together: the number of its first record, its records. -/
structure Ch (lg : Lg) (lo : Nat) (all : List (List UInt8)) : Prop where
  ok : LOk lg
  seg : ∃ init g, lg.segs = init ++ [g] ∧ linked (init ++ [g]) ∧ allR (init ++ [g]) = all
  low : lg.low = lo
  safe : lg.safe < lo + all.length
section
variable {lg : Lg} {lo : Nat} {all : List (List UInt8)} {d : Dk} {p : List UInt8}
theorem Ch.cons (h : Ch lg lo all) : ∃ g r, lg.segs = g :: r ∧ linked (g :: r) ∧ allR (g :: r) = all ∧ g.first = lo := by
  obtain ⟨init, g, h1, h2, h3⟩ := h.seg
  have hl := h.low
  unfold Lg.low at hl
  rw [h1] at hl
  cases init with
  | nil => exact ⟨g, [], h1, h2, h3, hl⟩
  | cons x r => exact ⟨x, r ++ [g], h1, h2, h3, hl⟩
theorem Ch.rests (h : Ch lg lo all) (k : Int) : lg.rests k = all.drop (k - (lo : Int)).toNat := by
  obtain ⟨g, r, h1, h2, h3, h4⟩ := h.cons
  unfold Lg.rests
  rw [h1, linked_rests r g k h2, h3, h4]
theorem Ch.next (h : Ch lg lo all) : lg.next = lo + all.length := by
  obtain ⟨g, r, h1, h2, h3, h4⟩ := h.cons
  have h5 := linked_last r g h2
  rw [h3, h4] at h5
  unfold Lg.next Lg.last
  rw [h1]
  exact h5
theorem Ch.pos (h : Ch lg lo all) : 1 ≤ lo ∧ lo ≤ 99999999 := by
  obtain ⟨g, r, h1, h2, h3, h4⟩ := h.cons
  have := h.ok.num g (by rw [h1]; exact List.mem_cons_self)
  omega
theorem Ch.last (_h : Ch lg lo all) {init : List Sg} {g : Sg} (h1 : lg.segs = init ++ [g]) : lg.last = g ∧ lg.segs.length - 1 = init.length := by
  have h2 : lg.segs.length - 1 = init.length := by rw [h1]; simp
  refine ⟨?_, h2⟩
  unfold Lg.last
  rw [h2, h1]
  simp
theorem Ch.read (h : Ch lg lo all) (k : Int) : lg.read k = if k < (lo : Int) then none else all[(k - (lo : Int)).toNat]? := by
  unfold Lg.read
  rw [h.low, h.rests, List.head?_drop]
theorem Ch.from (h : Ch lg lo all) (k most : Int) : lg.from k most = if k < (lo : Int) ∨ (lg.safe : Int) + 1 < k then none else some ((all.drop (k - (lo : Int)).toNat).take (min most ((lg.safe : Int) + 1 - k)).toNat) := by
  unfold Lg.from
  rw [h.low, h.rests]
theorem Ch.sync (h : Ch lg lo all) (d : Dk) : Ch (lg.sync d).1 lo all ∧ (lg.sync d).1.segs = lg.segs ∧ (lg.sync d).1.dir = lg.dir ∧ (lg.sync d).1.full = lg.full ∧ (lg.sync d).2.1.done ≤ d.done + 1 ∧ (lg.sync d).1.next = lg.next ∧ ((lg.sync d).2.2 = 0 → (lg.sync d).1.safe + 1 = lo + all.length) := by
  have hn := h.next
  have hp := h.pos
  have hd := sync_done lg d
  refine ⟨?_, ?_, ?_, ?_, hd, ?_, ?_⟩ <;> unfold Lg.sync <;> split
  · exact ⟨h.ok.safe _, h.seg, h.low, by show lg.next - 1 < _; omega⟩
  · exact h
  · rfl
  · rfl
  · rfl
  · rfl
  · rfl
  · rfl
  · rfl
  · rfl
  · intro _; show lg.next - 1 + 1 = _; omega
  · rename_i h0; intro h1; exact absurd h1 h0
theorem Ch.begin (h : Ch lg lo all) (hfew : lg.segs.length ≤ 999999) (hn : lg.next ≤ 99999999) (d : Dk) : Ch (lg.begin d lg.next).1 lo all ∧ (lg.begin d lg.next).1.segs.length ≤ lg.segs.length + 1 ∧ (lg.begin d lg.next).1.dir = lg.dir ∧ (lg.begin d lg.next).1.full = lg.full ∧ (lg.begin d lg.next).2.1.done ≤ d.done + 1 ∧ (lg.begin d lg.next).1.next = lg.next ∧ (lg.begin d lg.next).1.safe = lg.safe := by
  have hnx := h.next
  have hp := h.pos
  obtain ⟨h1, h2, h3⟩ := begin_ok (d := d) h.ok hfew (n := lg.next) ⟨by omega, hn⟩
  rcases h3 with h3 | h3
  · rw [h3]
    exact ⟨h, by omega, rfl, rfl, h2, rfl, rfl⟩
  · rw [h3] at h1 ⊢
    obtain ⟨init, g, s1, s2, s3⟩ := h.seg
    have hg := (h.last s1).1
    have hgn : lg.next = g.next := by unfold Lg.next; rw [hg]
    refine ⟨⟨h1, ⟨init ++ [g], ⟨lg.next, []⟩, by show lg.segs ++ _ = _; rw [s1], linked_snoc init g s2 _ hgn, by rw [allR_append, s3, allR_one]; simp⟩, ?_, h.safe⟩, by simp, rfl, rfl, h2, ?_, rfl⟩
    · have := h.low
      unfold Lg.low at this ⊢
      rw [s1] at this
      show ((lg.segs ++ [_]).getD 0 ⟨0, []⟩).first = lo
      rw [s1]
      cases init with
      | nil => exact this
      | cons x r => exact this
    · unfold Lg.next
      rw [last_snoc]
      rfl
theorem Ch.put (h : Ch lg lo all) (hw : wt all + (p.length + 12) ≤ 4194304) : Ch (lg.put p) lo (all ++ [p]) ∧ (lg.put p).segs.length = lg.segs.length := by
  obtain ⟨init, g, s1, s2, s3⟩ := h.seg
  obtain ⟨hg, hlen⟩ := h.last s1
  have hs : (lg.put p).segs = init ++ [⟨g.first, g.recs ++ [p]⟩] := by
    show lg.segs.set (lg.segs.length - 1) ⟨lg.last.first, lg.last.recs ++ [p]⟩ = _
    rw [hlen, hg, s1]
    simp
  have ha : allR (init ++ [⟨g.first, g.recs ++ [p]⟩]) = all ++ [p] := by
    rw [← s3, allR_append, allR_append, allR_one, allR_one, List.append_assoc]
  have hl : (lg.put p).segs.length = lg.segs.length := by rw [hs, s1]; simp
  refine ⟨⟨⟨?_, ?_, h.ok.dir, fun x hx => ?_, fun x hx => ?_⟩, ⟨init, _, hs, linked_put init g _ s2 rfl, ha⟩, ?_, ?_⟩, hl⟩
  · rw [hl]; exact h.ok.ne
  · rw [hl]; exact h.ok.few
  · rw [hs] at hx
    rcases List.mem_append.1 hx with hx | hx
    · exact h.ok.num x (by rw [s1]; exact List.mem_append_left _ hx)
    · obtain rfl : x = _ := by simpa using hx
      exact h.ok.num g (by rw [s1]; simp)
  · rw [hs] at hx
    have := size_le hx
    rw [ha, wt_append, wt_one] at this
    omega
  · have := h.low
    unfold Lg.low at this ⊢
    rw [s1] at this
    rw [hs]
    cases init with
    | nil => exact this
    | cons x r => exact this
  · have := h.safe
    rw [List.length_append]
    show lg.safe < _
    omega
theorem Ch.room (h : Ch lg lo all) (hfew : lg.segs.length ≤ 999999) (hn : lg.next ≤ 99999999) (d : Dk) : Ch (lg.room d).1 lo all ∧ (lg.room d).1.segs.length ≤ lg.segs.length + 1 ∧ (lg.room d).1.dir = lg.dir ∧ (lg.room d).1.full = lg.full ∧ (lg.room d).2.1.done ≤ d.done + 2 ∧ (lg.room d).1.next = lg.next := by
  obtain ⟨a1, a2, a3, a4, a5, a6, _⟩ := h.sync d
  unfold Lg.room
  split
  · exact ⟨h, by show lg.segs.length ≤ _; omega, rfl, rfl, by show d.done ≤ _; omega, rfl⟩
  split
  · have hb := a1.begin (by rw [a2]; exact hfew) (by rw [a6]; exact hn) (lg.sync d).2.1
    rw [a6] at hb
    obtain ⟨b1, b2, b3, b4, b5, b6, _⟩ := hb
    exact ⟨b1, by rw [a2] at b2; exact b2, b3.trans a3, b4.trans a4, by omega, b6⟩
  · exact ⟨a1, by rw [a2]; omega, a3, a4, by omega, a6⟩
/-- What Append makes of a log. -/
theorem Ch.append (h : Ch lg lo all) (hfew : lg.segs.length ≤ 999999) (hw : wt all + (p.length + 12) ≤ 4194304) (d : Dk) : Ch (lg.append d p).1 lo (if (lg.append d p).2.2.2 = 0 then all ++ [p] else all) ∧ (lg.append d p).1.segs.length ≤ lg.segs.length + 1 ∧ (lg.append d p).1.dir = lg.dir ∧ (lg.append d p).1.full = lg.full ∧ (lg.append d p).2.1.done ≤ d.done + 3 ∧ ((lg.append d p).2.2.2 = 0 → (lg.append d p).2.2.1 = lo + all.length) := by
  have hnx := h.next
  unfold Lg.append
  split
  · exact ⟨by rw [if_neg (show ¬ (2 : Nat) = 0 by decide)]; exact h, by show lg.segs.length ≤ _; omega, rfl, rfl, by show d.done ≤ _; omega, fun e => by cases e⟩
  split
  · exact ⟨by rw [if_neg (show ¬ (1 : Nat) = 0 by decide)]; exact h, by show lg.segs.length ≤ _; omega, rfl, rfl, by show d.done ≤ _; omega, fun e => by cases e⟩
  rename_i h1 h2
  obtain ⟨b1, b2, b3, b4, b5, b6⟩ := h.room hfew (by omega) d
  split
  · unfold Lg.write
    have hda : ((lg.room d).2.1.append (segN (lg.room d).1.dir (lg.room d).1.last.first) (Fr.frameV p)).1.done ≤ (lg.room d).2.1.done + 1 := by
      unfold Dk.append
      split
      · show (lg.room d).2.1.done ≤ _; omega
      split
      · show (lg.room d).2.1.done ≤ _; omega
      split
      · show (lg.room d).2.1.done ≤ _; omega
      · show ((lg.room d).2.1.spend).1.done ≤ _
        unfold Dk.spend
        split
        · show (lg.room d).2.1.done ≤ _; omega
        · exact Nat.le_refl _
    split
    · obtain ⟨c1, c2⟩ := b1.put hw
      exact ⟨by rw [if_pos rfl]; exact c1, by rw [c2]; exact b2, b3, b4, Nat.le_trans hda (by omega), fun _ => hnx⟩
    · rename_i h0
      exact ⟨by first | exact b1 | (rw [if_neg h0]; exact b1), b2, b3, b4, Nat.le_trans hda (by omega), fun e => absurd e h0⟩
  · rename_i h0
    exact ⟨by first | exact b1 | (rw [if_neg h0]; exact b1), b2, b3, b4, Nat.le_trans b5 (by omega), fun e => absurd e h0⟩
end
end Go.Proofs.YtkilkhnoldfhcaaGreatDoor
