/- A disk that bears just a log's segments, and what writing makes of it. Conditions: none of its own. What load reads, in plain terms: sizes, and when segments hang together. Conditions: none of its own. One segment is laid anew with a row in new memory; rows that a scan told, as records of the call's own. Conditions: none of its own. -/
import Derived.Test.YtkilkhnoldfhcaaGreatDoorLy
namespace Go.Proofs.YtkilkhnoldfhcaaGreatDoor
open Go.RowKit
theorem ins_last {f : Ent Fi} {s : Nm} {x : Fi} (h : ∀ q ∈ f, q.1 < s) : ins s x f = f ++ [(s, x)] := by
  induction f with
  | nil => rfl
  | cons p r ih =>
    rw [ins, if_pos (h p List.mem_cons_self), ih (fun q hq => h q (List.mem_cons_of_mem _ hq))]
    rfl
theorem del_none {f : Ent Fi} {s : Nm} (h : ∀ q ∈ f, q.1 ≠ s) : del f s = f := by
  unfold del
  rw [List.filter_eq_self]
  intro q hq
  simpa using h q hq
theorem linked_init : ∀ (l : List Sg) (g : Sg), linked (l ++ [g]) → ∀ x ∈ l, x.next ≤ g.first
  | [], _, _, x, hx => nomatch hx
  | [y], g, ⟨h, _⟩, x, hx => by
    obtain rfl : x = y := by simpa using hx
    exact Nat.le_of_eq h.symm
  | y :: z :: r, g, ⟨h, h2⟩, x, hx => by
    rcases List.mem_cons.1 hx with rfl | hx
    · have h3 := linked_init (z :: r) g h2 z List.mem_cons_self
      have h4 : z.first = x.next := h
      have h5 : z.next = z.first + z.recs.length := rfl
      omega
    · exact linked_init (z :: r) g h2 x hx
/-- Segments are full but the last, and none has a record more than it wants. -/
structure Fu (lg : Lg) : Prop where
  tight : ∀ g ∈ lg.segs, g.recs = [] ∨ wt g.recs.dropLast < lg.full
  full : ∀ g ∈ lg.segs.dropLast, lg.full ≤ g.size
  pos : 64 ≤ lg.full
/-- What the disk has are the log's segments. -/
structure Mir (lg : Lg) (d : Dk) : Prop where
  on : d.off = false
  left : d.left = 0
  files : d.f.map (fun p => (p.1, p.2.data)) = lg.segs.map (fun g => (segN lg.dir g.first, Fr.joinV g.recs))
section
variable {lg : Lg} {lo : Nat} {all : List (List UInt8)} {d : Dk} {p : List UInt8}
theorem nonempty_of_size {g : Sg} (h : 0 < g.size) : 0 < g.recs.length := by
  cases hr : g.recs with
  | nil => unfold Sg.size at h; rw [hr] at h; exact absurd h (by decide)
  | cons x r => simp
theorem Mir.names (h : Mir lg d) : ∀ q ∈ d.f, ∃ g ∈ lg.segs, q.1 = segN lg.dir g.first ∧ q.2.data = Fr.joinV g.recs := by
  intro q hq
  have h1 : (q.1, q.2.data) ∈ d.f.map (fun p => (p.1, p.2.data)) := List.mem_map.2 ⟨q, hq, rfl⟩
  rw [h.files] at h1
  obtain ⟨g, hg, e⟩ := List.mem_map.1 h1
  injection e with e1 e2
  exact ⟨g, hg, e1.symm, e2.symm⟩
theorem Mir.has (h : Mir lg d) {g : Sg} (hg : g ∈ lg.segs) : Go.Proofs.YtkilkhnoldfhcaaGreatDoor.has d.f (segN lg.dir g.first) = true := by
  have h1 : (segN lg.dir g.first, Fr.joinV g.recs) ∈ d.f.map (fun p => (p.1, p.2.data)) := by rw [h.files]; exact List.mem_map.2 ⟨g, hg, rfl⟩
  obtain ⟨q, hq, e⟩ := List.mem_map.1 h1
  injection e with e1 e2
  unfold Go.Proofs.YtkilkhnoldfhcaaGreatDoor.has
  rw [List.any_eq_true]
  exact ⟨q, hq, by simpa using e1⟩
theorem spend_calm (h1 : d.left = 0) : d.spend = ({ d with left := 0, done := d.done + 1 }, true) := by
  unfold Dk.spend
  rw [if_neg (by omega), h1]
theorem Mir.sync (h : Mir lg d) {g : Sg} (hg : g ∈ lg.segs) : (d.sync (segN lg.dir g.first)).2 = 0 ∧ Mir lg (d.sync (segN lg.dir g.first)).1 := by
  unfold Dk.sync
  rw [if_neg (by rw [h.on]; decide), if_neg (by rw [h.has hg]; decide), spend_calm h.left, if_pos rfl]
  refine ⟨rfl, h.on, rfl, ?_⟩
  rw [← h.files]
  unfold upd
  rw [List.map_map]
  refine List.map_congr_left fun q _ => ?_
  show ((if q.1 == _ then (q.1, _) else q).1, (if q.1 == _ then (q.1, _) else q).2.data) = _
  split <;> rfl
theorem Mir.safe (h : Mir lg d) (s : Nat) : Mir { lg with safe := s } d := ⟨h.on, h.left, h.files⟩
theorem Mir.lsync (h : Mir lg d) (hg : lg.last ∈ lg.segs) : (lg.sync d).2.2 = 0 ∧ Mir (lg.sync d).1 (lg.sync d).2.1 := by
  obtain ⟨h1, h2⟩ := h.sync hg
  unfold Lg.sync
  rw [if_pos h1]
  exact ⟨rfl, h2.safe _⟩
theorem Mir.create (h : Mir lg d) {n : Nat} (hn : n ≤ 99999999) (hl : lg.dir.length ≤ 11) (hlt : ∀ g ∈ lg.segs, g.first < n) : (d.f.length < 64 → (d.create (segN lg.dir n)).2 = 0 ∧ Mir { lg with segs := lg.segs ++ [⟨n, []⟩] } (d.create (segN lg.dir n)).1) ∧ (64 ≤ d.f.length → d.create (segN lg.dir n) = (d, 3)) := by
  have hall : ∀ q ∈ d.f, q.1 < segN lg.dir n := fun q hq => by
    obtain ⟨g, hg, e, _⟩ := h.names q hq
    rw [e]
    exact segN_mono _ (hlt g hg) hn
  have hne : ∀ q ∈ d.f, q.1 ≠ segN lg.dir n := fun q hq e => absurd (hall q hq) (e ▸ List.lt_irrefl _)
  have hnm : isNm (segN lg.dir n) = true := by
    have := segN_length (dir := lg.dir) hn
    unfold isNm
    rw [this, decide_eq_true (by omega), decide_eq_true (by omega)]
    rfl
  have hh : Go.Proofs.YtkilkhnoldfhcaaGreatDoor.has d.f (segN lg.dir n) = false := by
    unfold Go.Proofs.YtkilkhnoldfhcaaGreatDoor.has
    rw [List.any_eq_false]
    intro q hq
    simpa using hne q hq
  unfold Dk.create
  rw [if_neg (by rw [h.on]; decide), if_neg (by rw [hnm]; decide), if_neg (by rw [hh]; decide)]
  refine ⟨fun h6 => ?_, fun h6 => by rw [if_pos h6]⟩
  rw [if_neg (by omega), spend_calm h.left, if_pos rfl]
  refine ⟨rfl, h.on, rfl, ?_⟩
  show (put d.f (segN lg.dir n) (⟨[], 0⟩ : Fi)).map (fun p => (p.1, p.2.data)) = (lg.segs ++ [(⟨n, []⟩ : Sg)]).map (fun g => (segN lg.dir g.first, Fr.joinV g.recs))
  unfold put
  rw [del_none hne, ins_last hall, List.map_append, List.map_append, h.files]
  rfl
theorem joinV_snoc (L : List (List UInt8)) (p : List UInt8) : Fr.joinV (L ++ [p]) = Fr.joinV L ++ Fr.frameV p := by simp [Fr.joinV]
theorem Mir.append (h : Mir lg d) {init : List Sg} {g : Sg} (hs : lg.segs = init ++ [g]) (hne : ∀ x ∈ init, segN lg.dir x.first ≠ segN lg.dir g.first) (hroom : tot d.f + (p.length + 12) ≤ 4194304) :
    (d.append (segN lg.dir g.first) (Fr.frameV p)).2 = 0 ∧ Mir { lg with segs := init ++ [⟨g.first, g.recs ++ [p]⟩] } (d.append (segN lg.dir g.first) (Fr.frameV p)).1 := by
  have hg : g ∈ lg.segs := by rw [hs]; simp
  have hl : (Fr.frameV p).length = p.length + 12 := Fr.frame_length p
  unfold Dk.append
  rw [if_neg (by rw [h.on]; decide), if_neg (by rw [h.has hg]; decide), if_neg (by rw [hl]; omega), spend_calm h.left]
  refine ⟨rfl, h.on, rfl, ?_⟩
  show (upd d.f (segN lg.dir g.first) fun x => ⟨x.data ++ Fr.frameV p, x.safe⟩).map (fun p => (p.1, p.2.data)) = (init ++ [(⟨g.first, g.recs ++ [p]⟩ : Sg)]).map (fun g => (segN lg.dir g.first, Fr.joinV g.recs))
  have e1 : (upd d.f (segN lg.dir g.first) fun x => (⟨x.data ++ Fr.frameV p, x.safe⟩ : Fi)).map (fun p => (p.1, p.2.data)) = (d.f.map (fun p => (p.1, p.2.data))).map (fun q => if q.1 == segN lg.dir g.first then (q.1, q.2 ++ Fr.frameV p) else q) := by
    unfold upd
    rw [List.map_map, List.map_map]
    refine List.map_congr_left fun q _ => ?_
    show ((if q.1 == _ then (q.1, _) else q).1, (if q.1 == _ then (q.1, _) else q).2.data) = if q.1 == _ then (q.1, q.2.data ++ _) else (q.1, q.2.data)
    split <;> rfl
  rw [e1, h.files, hs, List.map_append, List.map_append, List.map_append]
  congr 1
  · rw [List.map_map]
    refine List.map_congr_left fun x hx => ?_
    show (if segN lg.dir x.first == segN lg.dir g.first then _ else _) = _
    rw [if_neg (by simpa using hne x hx)]
  · show [if segN lg.dir g.first == segN lg.dir g.first then _ else _] = _
    rw [if_pos (beq_self_eq_true _)]
    show [(segN lg.dir g.first, Fr.joinV g.recs ++ Fr.frameV p)] = [(segN lg.dir g.first, Fr.joinV (g.recs ++ [p]))]
    rw [joinV_snoc]
theorem tot_mir (h : Mir lg d) : tot d.f = wt (allR lg.segs) := by
  have e : tot d.f = ((d.f.map (fun p => (p.1, p.2.data))).map (fun q => q.2.length)).sum := by
    unfold tot
    rw [List.map_map]
    rfl
  rw [e, h.files, List.map_map]
  generalize lg.segs = l
  induction l with
  | nil => rfl
  | cons g r ih =>
    rw [List.map_cons, List.sum_cons, ih, allR_cons, wt_append]
    congr 1
    show (Fr.joinV g.recs).length = wt g.recs
    generalize g.recs = L
    induction L with
    | nil => rfl
    | cons x s ih2 =>
      have e2 : Fr.joinV (x :: s) = Fr.frameV x ++ Fr.joinV s := rfl
      have e3 : wt (x :: s) = (x.length + 12) + wt s := by simp [wt]
      rw [e2, List.length_append, Fr.frame_length, ih2, e3]
theorem Fu.safe (h : Fu lg) (s : Nat) : Fu { lg with safe := s } := ⟨h.tight, h.full, h.pos⟩
/-- The last segment takes a record: disk and log go on alike. -/
theorem write_mir (hc : Ch lg lo all) (hf : Fu lg) (hm : Mir lg d) (hlast : lg.last.size < lg.full) (hw : wt all + (p.length + 12) ≤ 4194304) (n : Nat) :
    (Lg.write (lg, d, 0) n p).2.2.2 = 0 ∧ Fu (Lg.write (lg, d, 0) n p).1 ∧ Mir (Lg.write (lg, d, 0) n p).1 (Lg.write (lg, d, 0) n p).2.1 := by
  obtain ⟨init, g, s1, s2, s3⟩ := hc.seg
  obtain ⟨hg, hlen⟩ := hc.last s1
  have hdl : lg.segs.dropLast = init := by rw [s1]; simp
  have hne : ∀ x ∈ init, segN lg.dir x.first ≠ segN lg.dir g.first := fun x hx e => by
    have h1 := hf.full x (by rw [hdl]; exact hx)
    have h2 := hf.pos
    have h3 := nonempty_of_size (g := x) (by omega)
    have h4 := linked_init init g s2 x hx
    have h5 : x.next = x.first + x.recs.length := rfl
    have h6 := (hc.ok.num x (by rw [s1]; exact List.mem_append_left _ hx)).2
    have h7 := (hc.ok.num g (by rw [s1]; simp)).2
    have := segN_inj lg.dir h6 h7 e
    omega
  obtain ⟨a1, a2⟩ := hm.append (p := p) s1 hne (by rw [tot_mir hm, s1, s3]; exact hw)
  have hput : lg.put p = { lg with segs := init ++ [⟨g.first, g.recs ++ [p]⟩] } := by
    show ({ lg with segs := lg.segs.set (lg.segs.length - 1) ⟨lg.last.first, lg.last.recs ++ [p]⟩ } : Lg) = _
    rw [hlen, hg, s1]
    simp
  unfold Lg.write
  simp only
  rw [hg, if_pos a1]
  refine ⟨rfl, ?_, by rw [hput]; exact a2⟩
  show Fu (lg.put p)
  rw [hput]
  refine ⟨fun x hx => ?_, fun x hx => ?_, hf.pos⟩
  · rcases List.mem_append.1 hx with hx | hx
    · exact hf.tight x (by rw [s1]; exact List.mem_append_left _ hx)
    · obtain rfl : x = _ := by simpa using hx
      right
      show wt (g.recs ++ [p]).dropLast < lg.full
      rw [List.dropLast_concat]
      rw [hg] at hlast
      exact hlast
  · have hx2 : x ∈ init := by simpa using hx
    exact hf.full x (by rw [hdl]; exact hx2)
theorem firsts_below (hc : Ch lg lo all) (hf : Fu lg) (hlast : ¬ lg.last.size < lg.full) : ∀ x ∈ lg.segs, x.first < lg.next := fun x hx => by
  obtain ⟨init, g, s1, s2, s3⟩ := hc.seg
  obtain ⟨hg, _⟩ := hc.last s1
  have hdl : lg.segs.dropLast = init := by rw [s1]; simp
  have hgl : lg.full ≤ g.size := by rw [hg] at hlast; omega
  have hp := hf.pos
  have hgn : lg.next = g.first + g.recs.length := by unfold Lg.next; rw [hg]; rfl
  have hg0 := nonempty_of_size (g := g) (by omega)
  rw [s1] at hx
  rcases List.mem_append.1 hx with hx | hx
  · have h1 := hf.full x (by rw [hdl]; exact hx)
    have h3 := nonempty_of_size (g := x) (by omega)
    have h4 := linked_init init g s2 x hx
    have h5 : x.next = x.first + x.recs.length := rfl
    omega
  · obtain rfl : x = g := by simpa using hx
    omega
theorem begin_full (hc : Ch lg lo all) (hf : Fu lg) (hm : Mir lg d) (hlast : ¬ lg.last.size < lg.full) (hn : lg.next ≤ 99999999) (h6 : 64 ≤ d.f.length) : lg.begin d lg.next = (lg, d, 3) := by
  have h1 := (hm.create hn hc.ok.dir.2 (firsts_below hc hf hlast)).2 h6
  unfold Lg.begin
  rw [h1, if_neg (show ¬ (3 : Nat) = 0 by decide)]
/-- A segment more. -/
theorem begin_mir (hc : Ch lg lo all) (hf : Fu lg) (hm : Mir lg d) (hlast : ¬ lg.last.size < lg.full) (hn : lg.next ≤ 99999999) (h6 : d.f.length < 64) :
    (lg.begin d lg.next).2.2 = 0 ∧ (lg.begin d lg.next).1 = { lg with segs := lg.segs ++ [⟨lg.next, []⟩] } ∧ Fu (lg.begin d lg.next).1 ∧ Mir (lg.begin d lg.next).1 (lg.begin d lg.next).2.1 := by
  obtain ⟨init, g, s1, s2, s3⟩ := hc.seg
  obtain ⟨hg, _⟩ := hc.last s1
  have hdl : lg.segs.dropLast = init := by rw [s1]; simp
  have hgl : lg.full ≤ g.size := by rw [hg] at hlast; omega
  have hp := hf.pos
  have hgn : lg.next = g.first + g.recs.length := by unfold Lg.next; rw [hg]; rfl
  have hg0 := nonempty_of_size (g := g) (by omega)
  have hlt : ∀ x ∈ lg.segs, x.first < lg.next := fun x hx => by
    rw [s1] at hx
    rcases List.mem_append.1 hx with hx | hx
    · have h1 := hf.full x (by rw [hdl]; exact hx)
      have h3 := nonempty_of_size (g := x) (by omega)
      have h4 := linked_init init g s2 x hx
      have h5 : x.next = x.first + x.recs.length := rfl
      omega
    · obtain rfl : x = g := by simpa using hx
      omega
  obtain ⟨b1, b2⟩ := (hm.create hn hc.ok.dir.2 hlt).1 h6
  unfold Lg.begin
  rw [if_pos b1]
  refine ⟨rfl, rfl, ⟨fun x hx => ?_, fun x hx => ?_, hp⟩, b2⟩
  · rcases List.mem_append.1 hx with hx | hx
    · exact hf.tight x hx
    · obtain rfl : x = _ := by simpa using hx
      exact .inl rfl
  · have hx2 : x ∈ lg.segs := by simpa using hx
    rw [s1] at hx2
    rcases List.mem_append.1 hx2 with hx2 | hx2
    · exact hf.full x (by rw [hdl]; exact hx2)
    · obtain rfl : x = g := by simpa using hx2
      exact hgl
theorem lsync_mir (hc : Ch lg lo all) (hf : Fu lg) (hm : Mir lg d) : (lg.sync d).2.2 = 0 ∧ Ch (lg.sync d).1 lo all ∧ Fu (lg.sync d).1 ∧ Mir (lg.sync d).1 (lg.sync d).2.1 ∧ (lg.sync d).1.last = lg.last ∧ (lg.sync d).1.full = lg.full ∧ (lg.sync d).1.next = lg.next ∧ (lg.sync d).2.1.f.length = d.f.length := by
  obtain ⟨h1, h2⟩ := hm.lsync hc.ok.last.1
  obtain ⟨c1, c2, c3, c4, _, c6, _⟩ := hc.sync d
  have hlen : ∀ {lg' : Lg} {d' : Dk}, Mir lg' d' → d'.f.length = lg'.segs.length := fun hm' => by
    have := congrArg List.length hm'.files
    simpa using this
  refine ⟨h1, c1, ⟨by rw [c2, c4]; exact hf.tight, by rw [c2, c4]; exact hf.full, by rw [c4]; exact hf.pos⟩, h2, by unfold Lg.last; rw [c2], c4, c6, by rw [hlen h2, hlen hm, c2]⟩
/-- Append while nothing falls. -/
theorem append_mir (hc : Ch lg lo all) (hf : Fu lg) (hm : Mir lg d) (hfew : lg.segs.length ≤ 999999) (hw : wt all + (p.length + 12) ≤ 4194304) : Fu (lg.append d p).1 ∧ Mir (lg.append d p).1 (lg.append d p).2.1 := by
  unfold Lg.append
  split
  · exact ⟨hf, hm⟩
  split
  · exact ⟨hf, hm⟩
  rename_i h1 h2
  by_cases hl : lg.last.size < lg.full
  · have hr : lg.room d = (lg, d, 0) := by unfold Lg.room; rw [if_pos hl]
    rw [hr, if_pos rfl]
    exact (write_mir hc hf hm hl hw lg.next).2
  · obtain ⟨s1, s2, s3, s4, s5, s6, s7, s8⟩ := lsync_mir hc hf hm
    have hr : lg.room d = (lg.sync d).1.begin (lg.sync d).2.1 lg.next := by unfold Lg.room; rw [if_neg hl, if_pos s1]
    rw [hr]
    by_cases h6 : d.f.length < 64
    · have hb := begin_mir s2 s3 s4 (by rw [s5, s6]; exact hl) (by rw [s7]; omega) (by rw [s8]; exact h6)
      have hbc := s2.begin (by obtain ⟨_, c2, _⟩ := hc.sync d; rw [c2]; exact hfew) (by rw [s7]; omega) (lg.sync d).2.1
      rw [s7] at hb hbc
      obtain ⟨b1, b2, b3, b4⟩ := hb
      rw [if_pos b1]
      obtain ⟨c1, _⟩ := hbc
      have hlast : ((lg.sync d).1.begin (lg.sync d).2.1 lg.next).1.last.size < ((lg.sync d).1.begin (lg.sync d).2.1 lg.next).1.full := by
        have hp := b3.pos
        rw [b2] at hp ⊢
        rw [last_snoc]
        exact Nat.lt_of_lt_of_le (by decide : 0 < 64) hp
      have e : (lg.sync d).1.begin (lg.sync d).2.1 lg.next = (((lg.sync d).1.begin (lg.sync d).2.1 lg.next).1, ((lg.sync d).1.begin (lg.sync d).2.1 lg.next).2.1, 0) := by rw [← b1]
      rw [e]
      exact (write_mir c1 b3 b4 hlast hw lg.next).2
    · have hb := begin_full s2 s3 s4 (by rw [s5, s6]; exact hl) (by rw [s7]; omega) (by rw [s8]; omega)
      rw [s7] at hb
      rw [hb, if_neg (show ¬ (3 : Nat) = 0 by decide)]
      exact ⟨s3, s4⟩
end
end Go.Proofs.YtkilkhnoldfhcaaGreatDoor
namespace Go.Proofs.YtkilkhnoldfhcaaGreatDoor
open Go.RowKit
theorem joinV_wt (L : List (List UInt8)) : (Fr.joinV L).length = wt L := by
  induction L with
  | nil => rfl
  | cons x s ih =>
    have e2 : Fr.joinV (x :: s) = Fr.frameV x ++ Fr.joinV s := rfl
    have e3 : wt (x :: s) = (x.length + 12) + wt s := by simp [wt]
    rw [e2, List.length_append, Fr.frame_length, ih, e3]
/-- The bytes of the whole frames are the size of what was read. -/
theorem ldSeg_size (dir : Nm) (d : Dk) (g : Sg) : (ldSeg dir d g).size = (Fr.scanV (d.read (segN dir g.first)).1).2 := by
  obtain ⟨_, h2, h3, _⟩ := Fr.scan_small (b := (d.read (segN dir g.first)).1)
  have h4 := congrArg List.length h2
  rw [joinV_wt, List.length_take, Nat.min_eq_left h3] at h4
  exact h4.symm
theorem ldSeg_le (dir : Nm) (d : Dk) (g : Sg) : (ldSeg dir d g).size ≤ (d.read (segN dir g.first)).1.length := by
  rw [ldSeg_size]
  exact Fr.scan_small.2.2.1
theorem ldOk_iff (dir : Nm) (d : Dk) : ∀ (l : List Sg), ldOk dir d l = true ↔ ∀ k (h : k + 1 < l.length), ldTorn dir d l[k] = false ∧ (ldSeg dir d l[k]).next = l[k + 1].first
  | [] => ⟨fun _ k h => by simp at h, fun _ => rfl⟩
  | [_] => ⟨fun _ k h => by simp at h, fun _ => rfl⟩
  | g :: g2 :: r => by
    have ih := ldOk_iff dir d (g2 :: r)
    rw [ldOk, Bool.and_eq_true, Bool.and_eq_true, ih, decide_eq_true_iff, Bool.not_eq_true']
    constructor
    · rintro ⟨⟨h1, h2⟩, h3⟩ k h
      cases k with
      | zero => exact ⟨h1, h2⟩
      | succ k => exact h3 k (by simpa using h)
    · intro h
      refine ⟨h 0 (by simp), fun k hk => h (k + 1) (by simpa using hk)⟩
/-- What Mir says of what load reads: the very records. -/
theorem read_mir {lg : Lg} {d : Dk} (hm : Mir lg d) (hr : Rising d.f) {g : Sg} (hg : g ∈ lg.segs) (hs : ∀ p ∈ g.recs, p.length ≤ 262144) : d.read (segN lg.dir g.first) = (Fr.joinV g.recs, 0) ∧ ldSeg lg.dir d g = g ∧ ldTorn lg.dir d g = false := by
  have h1 : (segN lg.dir g.first, Fr.joinV g.recs) ∈ d.f.map (fun p => (p.1, p.2.data)) := by rw [hm.files]; exact List.mem_map.2 ⟨g, hg, rfl⟩
  obtain ⟨q, hq, e⟩ := List.mem_map.1 h1
  injection e with e1 e2
  have h2 : get d.f (segN lg.dir g.first) = some q.2 := by rw [← e1]; exact mem_get hr hq
  have h3 : d.read (segN lg.dir g.first) = (Fr.joinV g.recs, 0) := by unfold Dk.read; rw [h2]; exact congrArg (fun x => (x, 0)) e2
  have h5 : Fr.firstV [] = none := by rfl
  have h4 : Fr.scanV (Fr.joinV g.recs) = (g.recs, (Fr.joinV g.recs).length) := by
    have h6 := Fr.scan_join [] g.recs hs
    rw [List.append_nil, Fr.scan_none h5, List.append_nil, Nat.add_zero] at h6
    exact h6
  refine ⟨h3, ?_, ?_⟩
  · unfold ldSeg
    rw [h3, h4]
  · unfold ldTorn
    rw [h3, h4]
    exact decide_eq_false (Nat.lt_irrefl _)
end Go.Proofs.YtkilkhnoldfhcaaGreatDoor
namespace Go.Proofs.YtkilkhnoldfhcaaGreatDoor
open Go.RowKit
section
variable {C D S : Nat → Prop} {w w' w1 : World} {v u : Value} {us : List Value} {dir : Nm} {gs : List Sg} {a dp : Nat} {lg : Lg}
/-- One segment's records and size are laid anew, its row wherever it is new. -/
theorem LAt.pushN {g cap k : Nat} {u3 : Value} {xs : List Value} {sg : Sg} (h : LAt C w a dp lg (.slice (some ⟨g, 0, none⟩) lg.segs.length cap) us) (hk : k < lg.segs.length) (hku : k < us.length) (hg : w.grownBy w1 us[k].ownBlock) (hro : RO D w1 u3 xs sg.recs) (hf : sg.first = lg.segs[k].first)
    (hu : ∀ j, u3.ownBlock = some j → us[k].ownBlock = some j ∨ w.heap.size ≤ j) (hC : ∀ j, C j → D j) (hlt : ∀ j, D j → j < w1.heap.size) :
    LAt D ((w1.setCell ⟨g, k * 4 + 2, none⟩ u3).setCell ⟨g, k * 4 + 3, none⟩ (.int .i64 (sg.size : Int))) a dp { lg with segs := lg.segs.set k sg } (.slice (some ⟨g, 0, none⟩) (lg.segs.set k sg).length cap) (us.set k u3) := by
  obtain ⟨xk, hrk⟩ := h.go.recs k hku hk
  have hka : (Value.slice (some ⟨g, 0, none⟩) lg.segs.length cap).ownBlock = none ∨ (Value.slice (some ⟨g, 0, none⟩) lg.segs.length cap).ownBlock ≠ us[k].ownBlock := .inr (fun e => own_apart h.go.own hrk.own (by decide) g rfl e.symm)
  have ho1 := h.go.own.kept hg hka
  obtain ⟨ho2, hg2⟩ := ho1.stored (k * 4 + 2) u3
  obtain ⟨ho3, hg3⟩ := ho2.stored (k * 4 + 3) (.int .i64 (sg.size : Int))
  rw [cellsG_set lg.dir hk hku sg u3 hf] at ho3
  obtain ⟨cur, hcur⟩ := own_at ho1 (k := g) rfl
  have ht : Tn (· = g) w1 ((w1.setCell ⟨g, k * 4 + 2, none⟩ u3).setCell ⟨g, k * 4 + 3, none⟩ (.int .i64 (sg.size : Int))) := tn_set (tn_set (Tn.refl _ _) _) _
  have hag : ¬ a = g := fun e => by
    obtain ⟨c2, hc⟩ := own_at h.go.own (k := g) rfl
    rw [← e, h.box] at hc
    simp at hc
  have hau : ¬ some a = us[k].ownBlock := fun e => by
    obtain ⟨c2, hc⟩ := own_at hrk.own e.symm
    exact ne_of_type h.box hc (by decide) rfl
  have hbx : w1.heap[a]? = some (.cells #[ptr dp, nmv lg.dir, .int .i64 (lg.full : Int), .slice (some ⟨g, 0, none⟩) lg.segs.length cap, .int .i64 (lg.safe : Int)] 104 (0, 0)) := (hg.block a (h.lt a h.ca) hau).trans h.box
  refine ⟨?_, ⟨by rw [List.length_set]; exact ho3, by rw [List.length_set, List.length_set]; exact h.go.len, fun i h1 h2 => ?_, fun j hj => hC j (h.go.row j hj), fun i j h1 h2 hij b hb => ?_⟩, hC a h.ca, fun j hj => by simpa using hlt j hj⟩
  · have := ht.at_ hbx hag
    rw [List.length_set]
    exact this
  · by_cases hi : k = i
    · subst hi
      rw [List.getElem_set_self, List.getElem_set_self]
      exact ⟨xs, hro.away hcur (by decide) (by decide) ht⟩
    · rw [List.getElem_set_ne hi, List.getElem_set_ne hi]
      have h1' : i < us.length := by simpa using h1
      obtain ⟨xi, hri⟩ := h.go.recs i h1' (by simpa using h2)
      have h3 := hri.keptR hrk.own (fun b hb e => h.go.dis i k h1' hku (fun e => hi e.symm) b hb e) hg
      exact ⟨xi, (h3.away hcur (by decide) (by decide) ht).mono fun j _ hj => hC j hj⟩
  · have hold : ∀ (i : Nat) (h1 : i < us.length) (b : Nat), us[i].ownBlock = some b → b < w.heap.size := fun i h1 b hb => by
      obtain ⟨xi, hri⟩ := h.go.recs i h1 (by rw [← h.go.len]; exact h1)
      exact (hri.own.lt b hb).2
    have h1' : i < us.length := by simpa using h1
    have h2' : j < us.length := by simpa using h2
    by_cases hi : k = i
    · subst hi
      rw [List.getElem_set_self] at hb
      rw [List.getElem_set_ne hij]
      intro e
      rcases hu b hb with e2 | e2
      · exact h.go.dis k j hku h2' hij b e2 e
      · have := hold j h2' _ e
        omega
    · rw [List.getElem_set_ne hi] at hb
      by_cases hj : k = j
      · subst hj
        rw [List.getElem_set_self]
        intro e
        rcases hu b e with e2 | e2
        · exact h.go.dis i k h1' hku hij b hb e2
        · have := hold i h1' _ hb
          omega
      · rw [List.getElem_set_ne hj]
        exact h.go.dis i j h1' h2' hij b hb
theorem rs_ro {B : Nat} {L : List (List UInt8)} (h : Fr.Rs B w v us L) : RO (fun k => B ≤ k ∧ k < w.heap.size) w v us L := by
  have hl := h.len
  refine ⟨own_mono h.own (Nat.zero_le _), hl, fun i h1 h2 => ?_, fun k hk => h.own.lt k hk, fun i h1 k hk => ?_⟩
  · have h3 := h.row i h2
    rw [List.getD_eq_getElem?_getD, List.getElem?_eq_getElem h1, List.getD_eq_getElem?_getD, List.getElem?_eq_getElem h2] at h3
    exact own_mono h3 (Nat.zero_le _)
  · have h2 : i < L.length := by omega
    have h3 := h.row i h2
    rw [List.getD_eq_getElem?_getD, List.getElem?_eq_getElem h1] at h3
    exact h3.lt k hk
end
end Go.Proofs.YtkilkhnoldfhcaaGreatDoor
