/- A disk that bears just a log's segments, and what writing makes of it. Conditions: none of its own. -/
import Derived.Test.YtkilkhnoldfhcaaGreatDoorLy
namespace Go.Proofs.YtkilkhnoldfhcaaGreatDoor
open Go.RowKit
theorem ins_last {f : Ent Fi} {s : Nm} {x : Fi} (h : ∀ q ∈ f, q.1 < s) : ins s x f = f ++ [(s, x)] := by
  induction f with
  | nil => rfl
  | cons p r ih =>
    rw [ins, if_pos (h p List.mem_cons_self), ih (fun q hq => h q (List.mem_cons_of_mem _ hq))]
    rfl
theorem del_none {f : Ent Fi} {s : Nm} (h : ∀ q ∈ f, q.1 ≠ s) : del f s = f := by
  unfold del
  rw [List.filter_eq_self]
  intro q hq
  simpa using h q hq
theorem linked_init : ∀ (l : List Sg) (g : Sg), linked (l ++ [g]) → ∀ x ∈ l, x.next ≤ g.first
  | [], _, _, x, hx => nomatch hx
  | [y], g, ⟨h, _⟩, x, hx => by
    obtain rfl : x = y := by simpa using hx
    exact Nat.le_of_eq h.symm
  | y :: z :: r, g, ⟨h, h2⟩, x, hx => by
    rcases List.mem_cons.1 hx with rfl | hx
    · have h3 := linked_init (z :: r) g h2 z List.mem_cons_self
      have h4 : z.first = x.next := h
      have h5 : z.next = z.first + z.recs.length := rfl
      omega
    · exact linked_init (z :: r) g h2 x hx
/-- Segments are full but the last, and none has a record more than it wants. -/
structure Fu (lg : Lg) : Prop where
  tight : ∀ g ∈ lg.segs, g.recs = [] ∨ wt g.recs.dropLast < lg.full
  full : ∀ g ∈ lg.segs.dropLast, lg.full ≤ g.size
  pos : 64 ≤ lg.full
/-- What the disk has are the log's segments. -/
structure Mir (lg : Lg) (d : Dk) : Prop where
  on : d.off = false
  left : d.left = 0
  files : d.f.map (fun p => (p.1, p.2.data)) = lg.segs.map (fun g => (segN lg.dir g.first, Fr.joinV g.recs))
section
variable {lg : Lg} {lo : Nat} {all : List (List UInt8)} {d : Dk} {p : List UInt8}
theorem nonempty_of_size {g : Sg} (h : 0 < g.size) : 0 < g.recs.length := by
  cases hr : g.recs with
  | nil => unfold Sg.size at h; rw [hr] at h; exact absurd h (by decide)
  | cons x r => simp
theorem Mir.names (h : Mir lg d) : ∀ q ∈ d.f, ∃ g ∈ lg.segs, q.1 = segN lg.dir g.first ∧ q.2.data = Fr.joinV g.recs := by
  intro q hq
  have h1 : (q.1, q.2.data) ∈ d.f.map (fun p => (p.1, p.2.data)) := List.mem_map.2 ⟨q, hq, rfl⟩
  rw [h.files] at h1
  obtain ⟨g, hg, e⟩ := List.mem_map.1 h1
  injection e with e1 e2
  exact ⟨g, hg, e1.symm, e2.symm⟩
theorem Mir.has (h : Mir lg d) {g : Sg} (hg : g ∈ lg.segs) : Go.Proofs.YtkilkhnoldfhcaaGreatDoor.has d.f (segN lg.dir g.first) = true := by
  have h1 : (segN lg.dir g.first, Fr.joinV g.recs) ∈ d.f.map (fun p => (p.1, p.2.data)) := by rw [h.files]; exact List.mem_map.2 ⟨g, hg, rfl⟩
  obtain ⟨q, hq, e⟩ := List.mem_map.1 h1
  injection e with e1 e2
  unfold Go.Proofs.YtkilkhnoldfhcaaGreatDoor.has
  rw [List.any_eq_true]
  exact ⟨q, hq, by simpa using e1⟩
theorem spend_calm (h1 : d.left = 0) : d.spend = ({ d with left := 0, done := d.done + 1 }, true) := by
  unfold Dk.spend
  rw [if_neg (by omega), h1]
theorem Mir.sync (h : Mir lg d) {g : Sg} (hg : g ∈ lg.segs) : (d.sync (segN lg.dir g.first)).2 = 0 ∧ Mir lg (d.sync (segN lg.dir g.first)).1 := by
  unfold Dk.sync
  rw [if_neg (by rw [h.on]; decide), if_neg (by rw [h.has hg]; decide), spend_calm h.left, if_pos rfl]
  refine ⟨rfl, h.on, rfl, ?_⟩
  rw [← h.files]
  unfold upd
  rw [List.map_map]
  refine List.map_congr_left fun q _ => ?_
  show ((if q.1 == _ then (q.1, _) else q).1, (if q.1 == _ then (q.1, _) else q).2.data) = _
  split <;> rfl
theorem Mir.safe (h : Mir lg d) (s : Nat) : Mir { lg with safe := s } d := ⟨h.on, h.left, h.files⟩
theorem Mir.lsync (h : Mir lg d) (hg : lg.last ∈ lg.segs) : (lg.sync d).2.2 = 0 ∧ Mir (lg.sync d).1 (lg.sync d).2.1 := by
  obtain ⟨h1, h2⟩ := h.sync hg
  unfold Lg.sync
  rw [if_pos h1]
  exact ⟨rfl, h2.safe _⟩
theorem Mir.create (h : Mir lg d) {n : Nat} (hn : n ≤ 99999999) (hl : lg.dir.length ≤ 11) (hlt : ∀ g ∈ lg.segs, g.first < n) : (d.f.length < 64 → (d.create (segN lg.dir n)).2 = 0 ∧ Mir { lg with segs := lg.segs ++ [⟨n, []⟩] } (d.create (segN lg.dir n)).1) ∧ (64 ≤ d.f.length → d.create (segN lg.dir n) = (d, 3)) := by
  have hall : ∀ q ∈ d.f, q.1 < segN lg.dir n := fun q hq => by
    obtain ⟨g, hg, e, _⟩ := h.names q hq
    rw [e]
    exact segN_mono _ (hlt g hg) hn
  have hne : ∀ q ∈ d.f, q.1 ≠ segN lg.dir n := fun q hq e => absurd (hall q hq) (e ▸ List.lt_irrefl _)
  have hnm : isNm (segN lg.dir n) = true := by
    have := segN_length (dir := lg.dir) hn
    unfold isNm
    rw [this, decide_eq_true (by omega), decide_eq_true (by omega)]
    rfl
  have hh : Go.Proofs.YtkilkhnoldfhcaaGreatDoor.has d.f (segN lg.dir n) = false := by
    unfold Go.Proofs.YtkilkhnoldfhcaaGreatDoor.has
    rw [List.any_eq_false]
    intro q hq
    simpa using hne q hq
  unfold Dk.create
  rw [if_neg (by rw [h.on]; decide), if_neg (by rw [hnm]; decide), if_neg (by rw [hh]; decide)]
  refine ⟨fun h6 => ?_, fun h6 => by rw [if_pos h6]⟩
  rw [if_neg (by omega), spend_calm h.left, if_pos rfl]
  refine ⟨rfl, h.on, rfl, ?_⟩
  show (put d.f (segN lg.dir n) (⟨[], 0⟩ : Fi)).map (fun p => (p.1, p.2.data)) = (lg.segs ++ [(⟨n, []⟩ : Sg)]).map (fun g => (segN lg.dir g.first, Fr.joinV g.recs))
  unfold put
  rw [del_none hne, ins_last hall, List.map_append, List.map_append, h.files]
  rfl
theorem joinV_snoc (L : List (List UInt8)) (p : List UInt8) : Fr.joinV (L ++ [p]) = Fr.joinV L ++ Fr.frameV p := by simp [Fr.joinV]
theorem Mir.append (h : Mir lg d) {init : List Sg} {g : Sg} (hs : lg.segs = init ++ [g]) (hne : ∀ x ∈ init, segN lg.dir x.first ≠ segN lg.dir g.first) (hroom : tot d.f + (p.length + 12) ≤ 4194304) :
    (d.append (segN lg.dir g.first) (Fr.frameV p)).2 = 0 ∧ Mir { lg with segs := init ++ [⟨g.first, g.recs ++ [p]⟩] } (d.append (segN lg.dir g.first) (Fr.frameV p)).1 := by
  have hg : g ∈ lg.segs := by rw [hs]; simp
  have hl : (Fr.frameV p).length = p.length + 12 := Fr.frame_length p
  unfold Dk.append
  rw [if_neg (by rw [h.on]; decide), if_neg (by rw [h.has hg]; decide), if_neg (by rw [hl]; omega), spend_calm h.left]
  refine ⟨rfl, h.on, rfl, ?_⟩
  show (upd d.f (segN lg.dir g.first) fun x => ⟨x.data ++ Fr.frameV p, x.safe⟩).map (fun p => (p.1, p.2.data)) = (init ++ [(⟨g.first, g.recs ++ [p]⟩ : Sg)]).map (fun g => (segN lg.dir g.first, Fr.joinV g.recs))
  have e1 : (upd d.f (segN lg.dir g.first) fun x => (⟨x.data ++ Fr.frameV p, x.safe⟩ : Fi)).map (fun p => (p.1, p.2.data)) = (d.f.map (fun p => (p.1, p.2.data))).map (fun q => if q.1 == segN lg.dir g.first then (q.1, q.2 ++ Fr.frameV p) else q) := by
    unfold upd
    rw [List.map_map, List.map_map]
    refine List.map_congr_left fun q _ => ?_
    show ((if q.1 == _ then (q.1, _) else q).1, (if q.1 == _ then (q.1, _) else q).2.data) = if q.1 == _ then (q.1, q.2.data ++ _) else (q.1, q.2.data)
    split <;> rfl
  rw [e1, h.files, hs, List.map_append, List.map_append, List.map_append]
  congr 1
  · rw [List.map_map]
    refine List.map_congr_left fun x hx => ?_
    show (if segN lg.dir x.first == segN lg.dir g.first then _ else _) = _
    rw [if_neg (by simpa using hne x hx)]
  · show [if segN lg.dir g.first == segN lg.dir g.first then _ else _] = _
    rw [if_pos (beq_self_eq_true _)]
    show [(segN lg.dir g.first, Fr.joinV g.recs ++ Fr.frameV p)] = [(segN lg.dir g.first, Fr.joinV (g.recs ++ [p]))]
    rw [joinV_snoc]
theorem tot_mir (h : Mir lg d) : tot d.f = wt (allR lg.segs) := by
  have e : tot d.f = ((d.f.map (fun p => (p.1, p.2.data))).map (fun q => q.2.length)).sum := by
    unfold tot
    rw [List.map_map]
    rfl
  rw [e, h.files, List.map_map]
  generalize lg.segs = l
  induction l with
  | nil => rfl
  | cons g r ih =>
    rw [List.map_cons, List.sum_cons, ih, allR_cons, wt_append]
    congr 1
    show (Fr.joinV g.recs).length = wt g.recs
    generalize g.recs = L
    induction L with
    | nil => rfl
    | cons x s ih2 =>
      have e2 : Fr.joinV (x :: s) = Fr.frameV x ++ Fr.joinV s := rfl
      have e3 : wt (x :: s) = (x.length + 12) + wt s := by simp [wt]
      rw [e2, List.length_append, Fr.frame_length, ih2, e3]
theorem Fu.safe (h : Fu lg) (s : Nat) : Fu { lg with safe := s } := ⟨h.tight, h.full, h.pos⟩
/-- The last segment takes a record: disk and log go on alike. -/
theorem write_mir (hc : Ch lg lo all) (hf : Fu lg) (hm : Mir lg d) (hlast : lg.last.size < lg.full) (hw : wt all + (p.length + 12) ≤ 4194304) (n : Nat) :
    (Lg.write (lg, d, 0) n p).2.2.2 = 0 ∧ Fu (Lg.write (lg, d, 0) n p).1 ∧ Mir (Lg.write (lg, d, 0) n p).1 (Lg.write (lg, d, 0) n p).2.1 := by
  obtain ⟨init, g, s1, s2, s3⟩ := hc.seg
  obtain ⟨hg, hlen⟩ := hc.last s1
  have hdl : lg.segs.dropLast = init := by rw [s1]; simp
  have hne : ∀ x ∈ init, segN lg.dir x.first ≠ segN lg.dir g.first := fun x hx e => by
    have h1 := hf.full x (by rw [hdl]; exact hx)
    have h2 := hf.pos
    have h3 := nonempty_of_size (g := x) (by omega)
    have h4 := linked_init init g s2 x hx
    have h5 : x.next = x.first + x.recs.length := rfl
    have h6 := (hc.ok.num x (by rw [s1]; exact List.mem_append_left _ hx)).2
    have h7 := (hc.ok.num g (by rw [s1]; simp)).2
    have := segN_inj lg.dir h6 h7 e
    omega
  obtain ⟨a1, a2⟩ := hm.append (p := p) s1 hne (by rw [tot_mir hm, s1, s3]; exact hw)
  have hput : lg.put p = { lg with segs := init ++ [⟨g.first, g.recs ++ [p]⟩] } := by
    show ({ lg with segs := lg.segs.set (lg.segs.length - 1) ⟨lg.last.first, lg.last.recs ++ [p]⟩ } : Lg) = _
    rw [hlen, hg, s1]
    simp
  unfold Lg.write
  simp only
  rw [hg, if_pos a1]
  refine ⟨rfl, ?_, by rw [hput]; exact a2⟩
  show Fu (lg.put p)
  rw [hput]
  refine ⟨fun x hx => ?_, fun x hx => ?_, hf.pos⟩
  · rcases List.mem_append.1 hx with hx | hx
    · exact hf.tight x (by rw [s1]; exact List.mem_append_left _ hx)
    · obtain rfl : x = _ := by simpa using hx
      right
      show wt (g.recs ++ [p]).dropLast < lg.full
      rw [List.dropLast_concat]
      rw [hg] at hlast
      exact hlast
  · have hx2 : x ∈ init := by simpa using hx
    exact hf.full x (by rw [hdl]; exact hx2)
theorem firsts_below (hc : Ch lg lo all) (hf : Fu lg) (hlast : ¬ lg.last.size < lg.full) : ∀ x ∈ lg.segs, x.first < lg.next := fun x hx => by
  obtain ⟨init, g, s1, s2, s3⟩ := hc.seg
  obtain ⟨hg, _⟩ := hc.last s1
  have hdl : lg.segs.dropLast = init := by rw [s1]; simp
  have hgl : lg.full ≤ g.size := by rw [hg] at hlast; omega
  have hp := hf.pos
  have hgn : lg.next = g.first + g.recs.length := by unfold Lg.next; rw [hg]; rfl
  have hg0 := nonempty_of_size (g := g) (by omega)
  rw [s1] at hx
  rcases List.mem_append.1 hx with hx | hx
  · have h1 := hf.full x (by rw [hdl]; exact hx)
    have h3 := nonempty_of_size (g := x) (by omega)
    have h4 := linked_init init g s2 x hx
    have h5 : x.next = x.first + x.recs.length := rfl
    omega
  · obtain rfl : x = g := by simpa using hx
    omega
theorem begin_full (hc : Ch lg lo all) (hf : Fu lg) (hm : Mir lg d) (hlast : ¬ lg.last.size < lg.full) (hn : lg.next ≤ 99999999) (h6 : 64 ≤ d.f.length) : lg.begin d lg.next = (lg, d, 3) := by
  have h1 := (hm.create hn hc.ok.dir.2 (firsts_below hc hf hlast)).2 h6
  unfold Lg.begin
  rw [h1, if_neg (show ¬ (3 : Nat) = 0 by decide)]
/-- A segment more. -/
theorem begin_mir (hc : Ch lg lo all) (hf : Fu lg) (hm : Mir lg d) (hlast : ¬ lg.last.size < lg.full) (hn : lg.next ≤ 99999999) (h6 : d.f.length < 64) :
    (lg.begin d lg.next).2.2 = 0 ∧ (lg.begin d lg.next).1 = { lg with segs := lg.segs ++ [⟨lg.next, []⟩] } ∧ Fu (lg.begin d lg.next).1 ∧ Mir (lg.begin d lg.next).1 (lg.begin d lg.next).2.1 := by
  obtain ⟨init, g, s1, s2, s3⟩ := hc.seg
  obtain ⟨hg, _⟩ := hc.last s1
  have hdl : lg.segs.dropLast = init := by rw [s1]; simp
  have hgl : lg.full ≤ g.size := by rw [hg] at hlast; omega
  have hp := hf.pos
  have hgn : lg.next = g.first + g.recs.length := by unfold Lg.next; rw [hg]; rfl
  have hg0 := nonempty_of_size (g := g) (by omega)
  have hlt : ∀ x ∈ lg.segs, x.first < lg.next := fun x hx => by
    rw [s1] at hx
    rcases List.mem_append.1 hx with hx | hx
    · have h1 := hf.full x (by rw [hdl]; exact hx)
      have h3 := nonempty_of_size (g := x) (by omega)
      have h4 := linked_init init g s2 x hx
      have h5 : x.next = x.first + x.recs.length := rfl
      omega
    · obtain rfl : x = g := by simpa using hx
      omega
  obtain ⟨b1, b2⟩ := (hm.create hn hc.ok.dir.2 hlt).1 h6
  unfold Lg.begin
  rw [if_pos b1]
  refine ⟨rfl, rfl, ⟨fun x hx => ?_, fun x hx => ?_, hp⟩, b2⟩
  · rcases List.mem_append.1 hx with hx | hx
    · exact hf.tight x hx
    · obtain rfl : x = _ := by simpa using hx
      exact .inl rfl
  · have hx2 : x ∈ lg.segs := by simpa using hx
    rw [s1] at hx2
    rcases List.mem_append.1 hx2 with hx2 | hx2
    · exact hf.full x (by rw [hdl]; exact hx2)
    · obtain rfl : x = g := by simpa using hx2
      exact hgl
theorem lsync_mir (hc : Ch lg lo all) (hf : Fu lg) (hm : Mir lg d) : (lg.sync d).2.2 = 0 ∧ Ch (lg.sync d).1 lo all ∧ Fu (lg.sync d).1 ∧ Mir (lg.sync d).1 (lg.sync d).2.1 ∧ (lg.sync d).1.last = lg.last ∧ (lg.sync d).1.full = lg.full ∧ (lg.sync d).1.next = lg.next ∧ (lg.sync d).2.1.f.length = d.f.length := by
  obtain ⟨h1, h2⟩ := hm.lsync hc.ok.last.1
  obtain ⟨c1, c2, c3, c4, _, c6, _⟩ := hc.sync d
  have hlen : ∀ {lg' : Lg} {d' : Dk}, Mir lg' d' → d'.f.length = lg'.segs.length := fun hm' => by
    have := congrArg List.length hm'.files
    simpa using this
  refine ⟨h1, c1, ⟨by rw [c2, c4]; exact hf.tight, by rw [c2, c4]; exact hf.full, by rw [c4]; exact hf.pos⟩, h2, by unfold Lg.last; rw [c2], c4, c6, by rw [hlen h2, hlen hm, c2]⟩
/-- Append while nothing falls. -/
theorem append_mir (hc : Ch lg lo all) (hf : Fu lg) (hm : Mir lg d) (hfew : lg.segs.length ≤ 999999) (hw : wt all + (p.length + 12) ≤ 4194304) : Fu (lg.append d p).1 ∧ Mir (lg.append d p).1 (lg.append d p).2.1 := by
  unfold Lg.append
  split
  · exact ⟨hf, hm⟩
  split
  · exact ⟨hf, hm⟩
  rename_i h1 h2
  by_cases hl : lg.last.size < lg.full
  · have hr : lg.room d = (lg, d, 0) := by unfold Lg.room; rw [if_pos hl]
    rw [hr, if_pos rfl]
    exact (write_mir hc hf hm hl hw lg.next).2
  · obtain ⟨s1, s2, s3, s4, s5, s6, s7, s8⟩ := lsync_mir hc hf hm
    have hr : lg.room d = (lg.sync d).1.begin (lg.sync d).2.1 lg.next := by unfold Lg.room; rw [if_neg hl, if_pos s1]
    rw [hr]
    by_cases h6 : d.f.length < 64
    · have hb := begin_mir s2 s3 s4 (by rw [s5, s6]; exact hl) (by rw [s7]; omega) (by rw [s8]; exact h6)
      have hbc := s2.begin (by obtain ⟨_, c2, _⟩ := hc.sync d; rw [c2]; exact hfew) (by rw [s7]; omega) (lg.sync d).2.1
      rw [s7] at hb hbc
      obtain ⟨b1, b2, b3, b4⟩ := hb
      rw [if_pos b1]
      obtain ⟨c1, _⟩ := hbc
      have hlast : ((lg.sync d).1.begin (lg.sync d).2.1 lg.next).1.last.size < ((lg.sync d).1.begin (lg.sync d).2.1 lg.next).1.full := by
        have hp := b3.pos
        rw [b2] at hp ⊢
        rw [last_snoc]
        exact Nat.lt_of_lt_of_le (by decide : 0 < 64) hp
      have e : (lg.sync d).1.begin (lg.sync d).2.1 lg.next = (((lg.sync d).1.begin (lg.sync d).2.1 lg.next).1, ((lg.sync d).1.begin (lg.sync d).2.1 lg.next).2.1, 0) := by rw [← b1]
      rw [e]
      exact (write_mir c1 b3 b4 hlast hw lg.next).2
    · have hb := begin_full s2 s3 s4 (by rw [s5, s6]; exact hl) (by rw [s7]; omega) (by rw [s8]; omega)
      rw [s7] at hb
      rw [hb, if_neg (show ¬ (3 : Nat) = 0 by decide)]
      exact ⟨s3, s4⟩
end
theorem opMir_zero (full : Nat) (h : 64 ≤ full) : Fu (opZero full).1 ∧ Mir (opZero full).1 (opZero full).2.1 := by
  refine ⟨⟨fun x hx => ?_, fun x hx => (nomatch hx), h⟩, ⟨rfl, rfl, ?_⟩⟩
  · obtain rfl : x = ⟨1, []⟩ := List.mem_singleton.1 hx
    exact .inl rfl
  · show fDA.f.map (fun p => (p.1, p.2.data)) = [(segN dLog 1, Fr.joinV [])]
    rw [f_nm]
    kernel_rfl
theorem opMir_all {full : Nat} {l : List Wo} (h64 : 64 ≤ full) (hf : fewW l = true) : ∀ i, i ≤ l.length → Fu (opFold full (l.take i)).1 ∧ Mir (opFold full (l.take i)).1 (opFold full (l.take i)).2.1
  | 0, _ => opMir_zero full h64
  | i + 1, h => by
    obtain ⟨h1, h2⟩ := feww_yes hf
    have hb := (weiw_mem h2 _ (List.getElem_mem (show i < l.length from h))).2
    have ho := opIn_all (full := full) hf i (Nat.le_of_succ_le h)
    have hw2 : weiw (l.take i) ≤ 20000 := by
      have e : weiw l = weiw (l.take i) + weiw (l.drop i) := by
        conv => lhs; rw [← List.take_append_drop i l]
        unfold weiw
        rw [List.map_append, List.sum_append]
      omega
    obtain ⟨m1, m2⟩ := opMir_all h64 hf i (Nat.le_of_succ_le h)
    rw [opFold_take full l i h]
    have hwt := ho.wt
    have hfw := ho.few
    unfold opStep
    split
    · exact append_mir ho.ch m1 m2 (by omega) (by omega)
    split
    · obtain ⟨_, _, s3, s4, _⟩ := lsync_mir ho.ch m1 m2
      exact ⟨s3, s4⟩
    · exact ⟨m1, m2⟩
end Go.Proofs.YtkilkhnoldfhcaaGreatDoor
