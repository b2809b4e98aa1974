/- A log over a disk that may fall, in plain terms: what lies in its files, how writing goes. Conditions: none of its own. Trim over a disk that may fall; what a crash leaves, and Open of it, cut off or not, in plain terms. Conditions: none of its own. Falls that came in; racelaw7.again: Open behind a crash, cut off some times. Conditions: segments and records as a disk has room for. What WalKeeps keeps to, in plain terms. Conditions: none of its own. The memory of WalKeeps: a log over its disk, the records that were taken, what lies beside. Conditions: none of its own. -/
import Derived.Test.YtkilkhnoldfhcaaGreatDoorLyh
import Derived.Test.YtkilkhnoldfhcaaGreatDoorXk
namespace Go.Proofs.YtkilkhnoldfhcaaGreatDoor
open Go.RowKit
theorem wt_cons (p : List UInt8) (r : List (List UInt8)) : wt (p :: r) = (p.length + 12) + wt r := by simp [wt]
/-- What a scan reads of a beginning of frames. -/
theorem scan_take : ∀ (R : List (List UInt8)) (n : Nat), (∀ p ∈ R, p.length ≤ 262144) → ∃ j, j ≤ R.length ∧ (Fr.scanV ((Fr.joinV R).take n)).1 = R.take j ∧ (∀ k, k ≤ R.length → wt (R.take k) ≤ n → k ≤ j)
  | [], n, _ => ⟨0, Nat.le_refl _, by rw [show Fr.joinV [] = [] from rfl, List.take_nil, Fr.scan_none (Fr.first_short (by decide))]; rfl, fun k hk _ => hk⟩
  | p :: r, n, h => by
    have hp := h p List.mem_cons_self
    by_cases hn : n < p.length + 12
    · refine ⟨0, Nat.zero_le _, ?_, fun k hk hw => ?_⟩
      · rw [Fr.join_cons, Fr.scan_none (Fr.first_cut hp hn)]; rfl
      · cases k with
        | zero => exact Nat.le_refl _
        | succ k =>
          rw [List.take_succ_cons, wt_cons] at hw
          omega
    · obtain ⟨j, h1, h2, h3⟩ := scan_take r (n - (p.length + 12)) (fun q hq => h q (List.mem_cons_of_mem _ hq))
      have e : (Fr.frameV p ++ Fr.joinV r).take n = Fr.frameV p ++ (Fr.joinV r).take (n - (p.length + 12)) := by
        rw [List.take_append, Fr.frame_length, List.take_of_length_le (by rw [Fr.frame_length]; omega)]
      refine ⟨j + 1, by simpa using h1, ?_, fun k hk hw => ?_⟩
      · have e5 : (Fr.frameV p ++ (Fr.joinV r).take (n - (p.length + 12))).drop (p.length + 12) = (Fr.joinV r).take (n - (p.length + 12)) := List.drop_left' (Fr.frame_length p)
        rw [Fr.join_cons, e, Fr.scan_some (Fr.first_frame hp _), e5, h2]
        rfl
      · cases k with
        | zero => exact Nat.zero_le _
        | succ k =>
          rw [List.take_succ_cons, wt_cons] at hw
          have := h3 k (by simpa using hk) (by omega)
          omega
theorem upd_last {fi : Ent Fi} {s : Nm} {x : Fi} (hr : Rising (fi ++ [(s, x)])) (φ : Fi → Fi) : upd (fi ++ [(s, x)]) s φ = fi ++ [(s, φ x)] := by
  have hlt : ∀ q ∈ fi, q.1 < s := fun q hq => (List.pairwise_append.1 hr).2.2 q hq (s, x) List.mem_cons_self
  unfold upd
  rw [List.map_append]
  congr 1
  · conv => rhs; rw [← List.map_id fi]
    refine List.map_congr_left fun q hq => ?_
    have h : ¬ (q.1 == s) = true := by simpa using nm_ne (hlt q hq)
    show (if (q.1 == s) = true then _ else q) = q
    rw [if_neg h]
  · show [if (s == s) = true then (s, φ x) else (s, x)] = _
    rw [if_pos (beq_self_eq_true s)]
theorem has_last (fi : Ent Fi) (s : Nm) (x : Fi) : has (fi ++ [(s, x)]) s = true := by
  unfold has
  rw [List.any_append]
  simp
theorem seg_nm {dir : Nm} {n : Nat} (hl : 1 ≤ dir.length ∧ dir.length ≤ 11) (hn : n ≤ 99999999) : isNm (segN dir n) = true := by
  have := segN_length (dir := dir) hn
  unfold isNm
  rw [this, decide_eq_true (by omega), decide_eq_true (by omega)]
  rfl
/-- A log's files: all but the last are whole and safe, the last has its records, perhaps something torn behind them, and what is safe. -/
structure Lie (dir : Nm) (full safe : Nat) (init : List Sg) (g : Sg) (d : Dk) (t : List UInt8) : Prop where
  fall : t ≠ [] → d.off = true
  file : ∃ fi x, d.f = fi ++ [(segN dir g.first, x)] ∧ fi.map (fun p => (p.1, p.2.data)) = init.map (fun h => (segN dir h.first, Fr.joinV h.recs)) ∧ (∀ p ∈ fi, p.2.safe = p.2.data.length) ∧ x.data = Fr.joinV g.recs ++ t ∧ wt (g.recs.take (safe + 1 - g.first)) ≤ x.safe
  head : g.first ≤ safe + 1
  tail : safe < g.next ∨ (g.recs = [] ∧ safe + 1 = g.first)
  big : ∀ h ∈ init, full ≤ h.size
  pos : 64 ≤ full
def Synced (d : Dk) : Prop := ∀ p ∈ d.f, p.2.safe = p.2.data.length
section
variable {dir : Nm} {full safe : Nat} {init : List Sg} {g : Sg} {d : Dk} {t p : List UInt8}
theorem spend_cases (d : Dk) : (d.spend.2 = true ∧ d.spend.1.f = d.f ∧ d.spend.1.off = d.off) ∨ (d.spend.2 = false ∧ d.spend.1.f = d.f ∧ d.spend.1.off = true) := by
  unfold Dk.spend
  by_cases h : d.left = 1
  · rw [if_pos h]; exact .inr ⟨rfl, rfl, rfl⟩
  · rw [if_neg h]; exact .inl ⟨rfl, rfl, rfl⟩
theorem Lie.tot (h : Lie dir full safe init g d t) : tot d.f = wt (allR (init ++ [g])) + t.length := by
  obtain ⟨fi, x, h1, h2, _, h4, _⟩ := h.file
  have e1 : ∀ (f : Ent Fi) (l : List Sg), f.map (fun p => (p.1, p.2.data)) = l.map (fun h => (segN dir h.first, Fr.joinV h.recs)) → Go.Proofs.YtkilkhnoldfhcaaGreatDoor.tot f = wt (allR l) := by
    intro f
    induction f with
    | nil => intro l h; cases l with
      | nil => rfl
      | cons y l => cases h
    | cons q f ih =>
      intro l h
      cases l with
      | nil => cases h
      | cons y l =>
        rw [List.map_cons, List.map_cons] at h
        injection h with a b
        injection a with a1 a2
        have := ih l b
        rw [allR_cons, wt_append, ← this, ← joinV_wt, ← a2]
        unfold Go.Proofs.YtkilkhnoldfhcaaGreatDoor.tot
        simp
  rw [h1, allR_append, allR_one, wt_append, ← e1 fi init h2]
  unfold Go.Proofs.YtkilkhnoldfhcaaGreatDoor.tot
  rw [List.map_append, List.sum_append]
  have : x.data.length = wt g.recs + t.length := by rw [h4, List.length_append, joinV_wt]
  simp [this]
  omega
/-- The last file takes a record, or what comes of it. -/
theorem lie_write (h : Lie dir full safe init g d []) (hr : Rising d.f) (hoff : d.off = false) (hroom : Go.Proofs.YtkilkhnoldfhcaaGreatDoor.tot d.f + (p.length + 12) ≤ 4194304) :
    ((d.append (segN dir g.first) (Fr.frameV p)).2 = 0 ∧ Lie dir full safe init ⟨g.first, g.recs ++ [p]⟩ (d.append (segN dir g.first) (Fr.frameV p)).1 []) ∨ ((d.append (segN dir g.first) (Fr.frameV p)).2 = 12 ∧ Lie dir full safe init g (d.append (segN dir g.first) (Fr.frameV p)).1 (Fr.frameV p)) := by
  obtain ⟨fi, x, h1, h2, h3, h4, h5⟩ := h.file
  have hl : (Fr.frameV p).length = p.length + 12 := Fr.frame_length p
  have hh : Go.Proofs.YtkilkhnoldfhcaaGreatDoor.has d.f (segN dir g.first) = true := by rw [h1]; exact has_last _ _ _
  have hu : upd d.f (segN dir g.first) (fun x => (⟨x.data ++ Fr.frameV p, x.safe⟩ : Fi)) = fi ++ [(segN dir g.first, ⟨x.data ++ Fr.frameV p, x.safe⟩)] := by
    rw [h1] at hr ⊢
    exact upd_last hr _
  have e : d.append (segN dir g.first) (Fr.frameV p) = ({ d.spend.1 with f := upd d.f (segN dir g.first) fun x => (⟨x.data ++ Fr.frameV p, x.safe⟩ : Fi) }, if d.spend.2 then 0 else 12) := by
    unfold Dk.append
    rw [if_neg (by rw [hoff]; decide), if_neg (by rw [hh]; decide), if_neg (by rw [hl]; omega)]
  rw [e, hu]
  rcases spend_cases d with ⟨s1, _, s3⟩ | ⟨s1, _, s3⟩
  · left
    rw [s1]
    refine ⟨rfl, (fun e => absurd rfl e), ⟨fi, _, rfl, h2, h3, by show x.data ++ _ = _; rw [h4, List.append_nil, List.append_nil, joinV_snoc], ?_⟩, h.head, ?_, h.big, h.pos⟩
    · show wt ((g.recs ++ [p]).take (safe + 1 - g.first)) ≤ x.safe
      have hk : safe + 1 - g.first ≤ g.recs.length := by
        rcases h.tail with h6 | ⟨_, h6⟩
        · have : g.next = g.first + g.recs.length := rfl
          omega
        · omega
      rw [List.take_append_of_le_length hk]
      exact h5
    · left
      show safe < g.first + (g.recs ++ [p]).length
      rw [List.length_append]
      rcases h.tail with h6 | ⟨_, h6⟩
      · have : g.next = g.first + g.recs.length := rfl
        omega
      · simp; omega
  · right
    rw [s1]
    refine ⟨rfl, (fun _ => s3), ⟨fi, _, rfl, h2, h3, by show x.data ++ _ = _; rw [h4, List.append_nil], h5⟩, h.head, h.tail, h.big, h.pos⟩
/-- All is synced, or the disk falls. -/
theorem lie_sync (h : Lie dir full safe init g d []) (hr : Rising d.f) (hoff : d.off = false) (hn : 1 ≤ g.next) :
    ((d.sync (segN dir g.first)).2 = 0 ∧ Lie dir full (g.next - 1) init g (d.sync (segN dir g.first)).1 [] ∧ Synced (d.sync (segN dir g.first)).1 ∧ (d.sync (segN dir g.first)).1.off = false) ∨ ((d.sync (segN dir g.first)).2 = 12 ∧ Lie dir full safe init g (d.sync (segN dir g.first)).1 []) := by
  obtain ⟨fi, x, h1, h2, h3, h4, h5⟩ := h.file
  have hh : Go.Proofs.YtkilkhnoldfhcaaGreatDoor.has d.f (segN dir g.first) = true := by rw [h1]; exact has_last _ _ _
  have hu : upd d.f (segN dir g.first) (fun x => (⟨x.data, x.data.length⟩ : Fi)) = fi ++ [(segN dir g.first, ⟨x.data, x.data.length⟩)] := by
    rw [h1] at hr ⊢
    exact upd_last hr _
  have hgn : g.next = g.first + g.recs.length := rfl
  unfold Dk.sync
  rw [if_neg (by rw [hoff]; decide), if_neg (by rw [hh]; decide), hu]
  rcases spend_cases d with ⟨s1, _, s3⟩ | ⟨s1, s2, s3⟩
  · left
    rw [if_pos s1]
    refine ⟨rfl, ⟨(fun e => absurd rfl e), ⟨fi, _, rfl, h2, h3, h4, ?_⟩, by omega, ?_, h.big, h.pos⟩, ?_, by show d.spend.1.off = false; rw [s3]; exact hoff⟩
    · show wt (g.recs.take (g.next - 1 + 1 - g.first)) ≤ x.data.length
      rw [h4, List.append_nil, joinV_wt, List.take_of_length_le (by omega)]
      exact Nat.le_refl _
    · by_cases e : g.recs = []
      · have h9 : g.recs.length = 0 := by rw [e]; rfl
        exact .inr ⟨e, by omega⟩
      · left; omega
    · intro q hq
      have hq : q ∈ fi ++ [(segN dir g.first, (⟨x.data, x.data.length⟩ : Fi))] := hq
      rcases List.mem_append.1 hq with hq | hq
      · exact h3 q hq
      · obtain rfl := List.mem_singleton.1 hq
        rfl
  · right
    rw [if_neg (by rw [s1]; decide)]
    exact ⟨rfl, (fun e => absurd rfl e), ⟨fi, x, by rw [s2]; exact h1, h2, h3, h4, h5⟩, h.head, h.tail, h.big, h.pos⟩
/-- A file more. -/
theorem lie_create (h : Lie dir full safe init g d []) (_hr : Rising d.f) (hs : Synced d) (hoff : d.off = false) (hd : 1 ≤ dir.length ∧ dir.length ≤ 11) (hsafe : safe + 1 = g.next) (hbig : full ≤ g.size) (hn : g.next ≤ 99999999) (hlk : linked (init ++ [g])) :
    d.create (segN dir g.next) = (d, 3) ∨ ((d.create (segN dir g.next)).2 = 0 ∧ Lie dir full safe (init ++ [g]) ⟨g.next, []⟩ (d.create (segN dir g.next)).1 [] ∧ (d.create (segN dir g.next)).1.off = false) ∨ ((d.create (segN dir g.next)).2 = 12 ∧ Lie dir full safe init g (d.create (segN dir g.next)).1 []) := by
  obtain ⟨fi, x, h1, h2, h3, h4, h5⟩ := h.file
  have hp := h.pos
  have hg0 := nonempty_of_size (g := g) (by omega)
  have hgn : g.next = g.first + g.recs.length := rfl
  have hall : ∀ q ∈ d.f, q.1 < segN dir g.next := fun q hq => by
    rw [h1] at hq
    rcases List.mem_append.1 hq with hq | hq
    · have h6 : (q.1, q.2.data) ∈ fi.map (fun p => (p.1, p.2.data)) := List.mem_map.2 ⟨q, hq, rfl⟩
      rw [h2] at h6
      obtain ⟨y, hy, e⟩ := List.mem_map.1 h6
      injection e with e1 _
      rw [← e1]
      have h7 := linked_init init g hlk y hy
      have h8 : y.next = y.first + y.recs.length := rfl
      exact segN_mono _ (by omega) hn
    · obtain rfl := List.mem_singleton.1 hq
      exact segN_mono _ (by omega) hn
  have hne : ∀ q ∈ d.f, q.1 ≠ segN dir g.next := fun q hq e => absurd (hall q hq) (e ▸ List.lt_irrefl _)
  have hh : Go.Proofs.YtkilkhnoldfhcaaGreatDoor.has d.f (segN dir g.next) = false := by
    unfold Go.Proofs.YtkilkhnoldfhcaaGreatDoor.has
    rw [List.any_eq_false]
    intro q hq
    simpa using hne q hq
  unfold Dk.create
  rw [if_neg (by rw [hoff]; decide), if_neg (by rw [seg_nm hd hn]; decide), if_neg (by rw [hh]; decide)]
  by_cases h6 : 64 ≤ d.f.length
  · rw [if_pos h6]
    exact .inl rfl
  · rw [if_neg h6]
    right
    rcases spend_cases d with ⟨s1, _, s3⟩ | ⟨s1, s2, s3⟩
    · left
      rw [if_pos s1]
      refine ⟨rfl, ⟨(fun e => absurd rfl e), ⟨fi ++ [(segN dir g.first, x)], ⟨[], 0⟩, ?_, ?_, ?_, rfl, ?_⟩, by show g.next ≤ _; omega, .inr ⟨rfl, hsafe⟩, fun y hy => ?_, h.pos⟩, by show d.spend.1.off = false; rw [s3]; exact hoff⟩
      · show put d.f (segN dir g.next) (⟨[], 0⟩ : Fi) = _
        unfold put
        rw [del_none hne, ins_last hall, h1]
      · rw [List.map_append, List.map_append, h2]
        congr 1
        show [(segN dir g.first, x.data)] = [(segN dir g.first, Fr.joinV g.recs)]
        rw [h4, List.append_nil]
      · intro q hq
        rw [← h1] at hq
        exact hs q hq
      · show wt (List.take _ []) ≤ 0
        rw [List.take_nil]
        exact Nat.le_refl _
      · rcases List.mem_append.1 hy with hy | hy
        · exact h.big y hy
        · obtain rfl := List.mem_singleton.1 hy
          exact hbig
    · right
      rw [if_neg (by rw [s1]; decide)]
      exact ⟨rfl, (fun e => absurd rfl e), ⟨fi, x, by rw [s2]; exact h1, h2, h3, h4, h5⟩, h.head, h.tail, h.big, h.pos⟩
end
/-- The same of a log. -/
def LieL (lg : Lg) (d : Dk) (t : List UInt8) : Prop := ∃ init g, lg.segs = init ++ [g] ∧ Lie lg.dir lg.full lg.safe init g d t
section
variable {lg : Lg} {lo : Nat} {all : List (List UInt8)} {d : Dk} {t p : List UInt8}
/-- What comes of an Append. -/
def AppT (d : Dk) (t p : List UInt8) (code : Nat) (t' : List UInt8) : Prop := (code = 0 ∧ t' = []) ∨ (code ≠ 0 ∧ (t' = [] ∨ (d.off = true ∧ t' = t) ∨ (d.off = false ∧ t' = Fr.frameV p)))
theorem sync_off (h : d.off = true) (s : Nm) : d.sync s = (d, 12) := by unfold Dk.sync; rw [if_pos h]
theorem append_off (h : d.off = true) (s : Nm) (b : List UInt8) : d.append s b = (d, 12) := by unfold Dk.append; rw [if_pos h]
theorem lsync_eq (lg : Lg) (d : Dk) {x : Dk × Nat} (h : d.sync (segN lg.dir lg.last.first) = x) : lg.sync d = if x.2 = 0 then ({ lg with safe := lg.next - 1 }, x.1, 0) else (lg, x.1, x.2) := by unfold Lg.sync; rw [h]
/-- The frame is written, or the disk falls. -/
theorem lieL_write (hc : Ch lg lo all) (h : LieL lg d []) (hok : Ok d) (hoff : d.off = false) (hw : wt all + (p.length + 12) ≤ 4194304) (n : Nat) :
    ∃ t', LieL (Lg.write (lg, d, 0) n p).1 (Lg.write (lg, d, 0) n p).2.1 t' ∧ (((Lg.write (lg, d, 0) n p).2.2.2 = 0 ∧ t' = []) ∨ ((Lg.write (lg, d, 0) n p).2.2.2 ≠ 0 ∧ t' = Fr.frameV p)) := by
  obtain ⟨init, g, hs, hl⟩ := h
  obtain ⟨hg, hlen⟩ := hc.last hs
  have htot := hl.tot
  obtain ⟨i2, g2, s1, s2, s3⟩ := hc.seg
  rw [← hs, s1, s3] at htot
  have hwr := lie_write (p := p) hl hok.rising hoff (by rw [htot]; simpa using hw)
  have e : Lg.write (lg, d, 0) n p = if (d.append (segN lg.dir g.first) (Fr.frameV p)).2 = 0 then (lg.put p, (d.append (segN lg.dir g.first) (Fr.frameV p)).1, n, 0) else (lg, (d.append (segN lg.dir g.first) (Fr.frameV p)).1, 0, (d.append (segN lg.dir g.first) (Fr.frameV p)).2) := by
    unfold Lg.write
    show (if (d.append (segN lg.dir lg.last.first) (Fr.frameV p)).2 = 0 then (lg.put p, (d.append (segN lg.dir lg.last.first) (Fr.frameV p)).1, n, 0) else (lg, (d.append (segN lg.dir lg.last.first) (Fr.frameV p)).1, 0, (d.append (segN lg.dir lg.last.first) (Fr.frameV p)).2)) = _
    rw [hg]
  rw [e]
  rcases hwr with ⟨c0, hl2⟩ | ⟨c0, hl2⟩
  · rw [if_pos c0]
    refine ⟨[], ⟨init, ⟨g.first, g.recs ++ [p]⟩, ?_, hl2⟩, .inl ⟨rfl, rfl⟩⟩
    show lg.segs.set (lg.segs.length - 1) ⟨lg.last.first, lg.last.recs ++ [p]⟩ = _
    rw [hlen, hg, hs]
    simp
  · rw [if_neg (by rw [c0]; decide)]
    refine ⟨Fr.frameV p, ⟨init, g, hs, hl2⟩, .inr ⟨?_, rfl⟩⟩
    show (d.append (segN lg.dir g.first) (Fr.frameV p)).2 ≠ 0
    rw [c0]
    decide
theorem lieL_append (hc : Ch lg lo all) (h : LieL lg d t) (hok : Ok d) (hp : p.length ≤ 262144) (hn : lg.next ≤ 99999999) (hw : wt all + (p.length + 12) ≤ 4194304) (hfew : lg.segs.length ≤ 999999) :
    ∃ t', LieL (lg.append d p).1 (lg.append d p).2.1 t' ∧ AppT d t p (lg.append d p).2.2.2 t' := by
  unfold Lg.append
  rw [if_neg (by omega), if_neg (by omega)]
  obtain ⟨init, g, hs, hl⟩ := h
  obtain ⟨hg, hlen⟩ := hc.last hs
  cases hoff : d.off with
  | true =>
    have hlast : lg.room d = (lg, d, 0) ∨ lg.room d = (lg, d, 12) := by
      unfold Lg.room
      split
      · exact .inl rfl
      · right
        rw [lsync_eq lg d (sync_off hoff _), if_neg (show ¬ (12 : Nat) = 0 by decide)]
        rfl
    rcases hlast with e | e
    · rw [e, if_pos rfl]
      have e2 : Lg.write (lg, d, 0) lg.next p = (lg, d, 0, 12) := by
        unfold Lg.write
        show (if (d.append _ _).2 = 0 then _ else _) = _
        rw [append_off hoff, if_neg (show ¬ (12 : Nat) = 0 by decide)]
      rw [e2]
      exact ⟨t, ⟨init, g, hs, hl⟩, .inr ⟨(fun e => by cases e), .inr (.inl ⟨hoff, rfl⟩)⟩⟩
    · rw [e, if_neg (show ¬ (12 : Nat) = 0 by decide)]
      exact ⟨t, ⟨init, g, hs, hl⟩, .inr ⟨(fun e => by cases e), .inr (.inl ⟨hoff, rfl⟩)⟩⟩
  | false =>
    have ht : t = [] := by
      cases t with
      | nil => rfl
      | cons a b => exact absurd (hl.fall (fun e => by cases e)) (by rw [hoff]; decide)
    subst ht
    by_cases hlt : lg.last.size < lg.full
    · have hr : lg.room d = (lg, d, 0) := by unfold Lg.room; rw [if_pos hlt]
      rw [hr, if_pos rfl]
      obtain ⟨t', h1, h2⟩ := lieL_write (p := p) hc ⟨init, g, hs, hl⟩ hok hoff hw lg.next
      refine ⟨t', h1, ?_⟩
      rcases h2 with h2 | ⟨h2, h3⟩
      · exact .inl h2
      · exact .inr ⟨h2, .inr (.inr ⟨hoff, h3⟩)⟩
    · have hnx : lg.next = g.next := by unfold Lg.next; rw [hg]
      have hn1 := hc.ok.next.1
      obtain ⟨c1, c2, c3, c4, c5, c6, c7⟩ := hc.sync d
      have hr : lg.room d = if (lg.sync d).2.2 = 0 then (lg.sync d).1.begin (lg.sync d).2.1 lg.next else lg.sync d := by unfold Lg.room; rw [if_neg hlt]
      rw [hr]
      have hsy := lie_sync hl hok.rising hoff (by omega)
      have hok1 : Ok (d.sync (segN lg.dir g.first)).1 := hok.sync
      have he := lsync_eq lg d (x := d.sync (segN lg.dir g.first)) (by rw [hg])
      rcases hsy with ⟨x0, hl1, hsd, hof1⟩ | ⟨x0, hl1⟩
      · rw [if_pos x0] at he
        rw [he] at c1 c2 c6 ⊢
        rw [if_pos rfl]
        obtain ⟨i2, g2, s1, s2, s3⟩ := hc.seg
        have hlk : linked (init ++ [g]) := by rw [← hs, s1]; exact s2
        have hcr := lie_create hl1 hok1.rising hsd hof1 hc.ok.dir (by omega) (by rw [hg] at hlt; omega) (by omega) hlk
        have hbe : Lg.begin { lg with safe := lg.next - 1 } (d.sync (segN lg.dir g.first)).1 lg.next = if ((d.sync (segN lg.dir g.first)).1.create (segN lg.dir g.next)).2 = 0 then ({ lg with segs := lg.segs ++ [⟨g.next, []⟩], safe := lg.next - 1 }, ((d.sync (segN lg.dir g.first)).1.create (segN lg.dir g.next)).1, 0) else ({ lg with safe := lg.next - 1 }, ((d.sync (segN lg.dir g.first)).1.create (segN lg.dir g.next)).1, ((d.sync (segN lg.dir g.first)).1.create (segN lg.dir g.next)).2) := by
          unfold Lg.begin
          rw [hnx]
        have hl1' : Lie lg.dir lg.full (lg.next - 1) init g (d.sync (segN lg.dir g.first)).1 [] := by rw [hnx]; exact hl1
        have hcb := c1.begin (by rw [c2]; exact hfew) (by rw [c6]; exact hn) (d.sync (segN lg.dir g.first)).1
        rw [c6] at hcb
        generalize hy : (d.sync (segN lg.dir g.first)).1.create (segN lg.dir g.next) = y at *
        rcases hcr with e | ⟨y0, hl2, hof2⟩ | ⟨y0, hl2⟩
        · subst e
          rw [if_neg (show ¬ (3 : Nat) = 0 by decide)] at hbe
          rw [hbe, if_neg (show ¬ (3 : Nat) = 0 by decide)]
          exact ⟨[], ⟨init, g, hs, hl1'⟩, .inr ⟨(fun e => by cases e), .inl rfl⟩⟩
        · rw [if_pos y0] at hbe
          rw [hbe] at hcb ⊢
          rw [if_pos rfl]
          obtain ⟨k1, _⟩ := hcb
          have hok2 : Ok y.1 := by rw [← hy]; exact hok1.create
          obtain ⟨t', h1, h2⟩ := lieL_write (p := p) k1 ⟨init ++ [g], ⟨g.next, []⟩, by show lg.segs ++ _ = _; rw [hs], by rw [hnx]; exact hl2⟩ hok2 hof2 hw lg.next
          refine ⟨t', h1, ?_⟩
          rcases h2 with h2 | ⟨h2, h3⟩
          · exact .inl h2
          · exact .inr ⟨h2, .inr (.inr ⟨hoff, h3⟩)⟩
        · rw [if_neg (by rw [y0]; decide)] at hbe
          rw [hbe, if_neg (by show ¬ y.2 = 0; rw [y0]; decide)]
          exact ⟨[], ⟨init, g, hs, by rw [hnx]; exact hl2⟩, .inr ⟨(by show y.2 ≠ 0; rw [y0]; decide), .inl rfl⟩⟩
      · rw [if_neg (by rw [x0]; decide)] at he
        have hA : ¬ ((lg, (d.sync (segN lg.dir g.first)).1, (d.sync (segN lg.dir g.first)).2) : Lg × Dk × Nat).2.2 = 0 := by show ¬ (d.sync (segN lg.dir g.first)).2 = 0; rw [x0]; decide
        rw [he, if_neg hA, if_neg hA]
        exact ⟨[], ⟨init, g, hs, hl1⟩, .inr ⟨(by show (d.sync (segN lg.dir g.first)).2 ≠ 0; rw [x0]; decide), .inl rfl⟩⟩
theorem lieL_sync (hc : Ch lg lo all) (h : LieL lg d t) (hok : Ok d) : LieL (lg.sync d).1 (lg.sync d).2.1 t := by
  obtain ⟨init, g, hs, hl⟩ := h
  obtain ⟨hg, _⟩ := hc.last hs
  have hnx : lg.next = g.next := by unfold Lg.next; rw [hg]
  have hn1 := hc.ok.next.1
  have he := lsync_eq lg d (x := d.sync (segN lg.dir g.first)) (by rw [hg])
  cases hoff : d.off with
  | true =>
    rw [sync_off hoff, if_neg (show ¬ (12 : Nat) = 0 by decide)] at he
    rw [he]
    exact ⟨init, g, hs, hl⟩
  | false =>
    have ht : t = [] := by
      cases t with
      | nil => rfl
      | cons a b => exact absurd (hl.fall (fun e => by cases e)) (by rw [hoff]; decide)
    subst ht
    rcases lie_sync hl hok.rising hoff (by omega) with ⟨x0, hl1, _, _⟩ | ⟨x0, hl1⟩
    · rw [if_pos x0] at he
      rw [he]
      exact ⟨init, g, hs, by rw [hnx]; exact hl1⟩
    · rw [if_neg (by rw [x0]; decide)] at he
      rw [he]
      exact ⟨init, g, hs, hl1⟩
end
end Go.Proofs.YtkilkhnoldfhcaaGreatDoor
namespace Go.Proofs.YtkilkhnoldfhcaaGreatDoor
open Go.RowKit
section
variable {dir : Nm} {full safe : Nat} {init : List Sg} {g s s2 : Sg} {r : List Sg} {d : Dk} {t p : List UInt8} {below : Int} {lo : Nat} {all : List (List UInt8)}
theorem remove_off (h : d.off = true) (s : Nm) : d.remove s = (d, 12) := by unfold Dk.remove; rw [if_pos h]
/-- The first file goes, or the disk falls. -/
theorem lie_remove (h : Lie dir full safe (s :: init) g d []) (hr : Rising d.f) (hoff : d.off = false) :
    ((d.remove (segN dir s.first)).2 = 0 ∧ Lie dir full safe init g (d.remove (segN dir s.first)).1 []) ∨ ((d.remove (segN dir s.first)).2 = 12 ∧ Lie dir full safe (s :: init) g (d.remove (segN dir s.first)).1 []) := by
  obtain ⟨fi, x, h1, h2, h3, h4, h5⟩ := h.file
  cases fi with
  | nil => cases h2
  | cons q fi =>
    rw [List.map_cons, List.map_cons] at h2
    injection h2 with a b
    injection a with a1 a2
    have hd : d.f = q :: (fi ++ [(segN dir g.first, x)]) := h1
    have hh : Go.Proofs.YtkilkhnoldfhcaaGreatDoor.has d.f (segN dir s.first) = true := by
      rw [hd]
      unfold Go.Proofs.YtkilkhnoldfhcaaGreatDoor.has
      rw [List.any_cons, a1, beq_self_eq_true, Bool.true_or]
    have hu : del d.f (segN dir s.first) = fi ++ [(segN dir g.first, x)] := by
      rw [hd] at hr ⊢
      unfold del
      rw [List.filter_cons, if_neg (by simpa using a1), List.filter_eq_self]
      intro y hy
      have := hr.head y hy
      rw [a1] at this
      simpa using (nm_ne this).symm
    unfold Dk.remove
    rw [if_neg (by rw [hoff]; decide), if_neg (by rw [hh]; decide), hu]
    rcases spend_cases d with ⟨s1, _, s3⟩ | ⟨s1, e2, s3⟩
    · left
      rw [if_pos s1]
      exact ⟨rfl, (fun e => absurd rfl e), ⟨fi, x, rfl, b, fun y hy => h3 y (List.mem_cons_of_mem _ hy), h4, h5⟩, h.head, h.tail, fun y hy => h.big y (List.mem_cons_of_mem _ hy), h.pos⟩
    · right
      rw [if_neg (by rw [s1]; decide)]
      exact ⟨rfl, (fun e => absurd rfl e), ⟨q :: fi, x, by rw [e2]; exact h1, by rw [List.map_cons, List.map_cons, b, a1, a2], h3, h4, h5⟩, h.head, h.tail, h.big, h.pos⟩
/-- What Trim leaves of a log over a disk that may fall. -/
structure TrimF (lg : Lg) (lo : Nat) (all : List (List UInt8)) (d : Dk) (t : List UInt8) (r : Lg × Dk × Nat) (lo' : Nat) : Prop where
  ch : Ch r.1 lo' (all.drop (lo' - lo))
  lie : LieL r.1 r.2.1 t
  low : lo ≤ lo'
  hi : lo' - lo ≤ all.length
  len : r.1.segs.length ≤ lg.segs.length
  done : r.2.1.done + r.1.segs.length ≤ d.done + lg.segs.length
  dir : r.1.dir = lg.dir
  full : r.1.full = lg.full
  safe : r.1.safe = lg.safe
theorem trim_lie : ∀ (gs : List Sg) (d : Dk) (lo : Nat) (all : List (List UInt8)), Ch ⟨dir, full, gs, safe⟩ lo all → LieL ⟨dir, full, gs, safe⟩ d t → Ok d → ∃ lo', TrimF ⟨dir, full, gs, safe⟩ lo all d t (Lg.trim ⟨dir, full, gs, safe⟩ d below) lo'
  | [], _, _, _, hc, _, _ => absurd hc.ok.ne (Nat.lt_irrefl 0)
  | [g], d, lo, all, hc, hl, _ => ⟨lo, by rw [Nat.sub_self, List.drop_zero]; exact hc, hl, Nat.le_refl _, by omega, Nat.le_refl _, Nat.le_refl _, rfl, rfl, rfl⟩
  | s :: s2 :: r, d, lo, all, hc, hl, hk => by
    have ih := trim_lie (s2 :: r)
    have hstay : ∀ k, Lg.trim ⟨dir, full, s :: s2 :: r, safe⟩ d below = (⟨dir, full, s :: s2 :: r, safe⟩, d, k) → ∃ lo', TrimF ⟨dir, full, s :: s2 :: r, safe⟩ lo all d t (Lg.trim ⟨dir, full, s :: s2 :: r, safe⟩ d below) lo' := fun k e => by
      rw [e]
      exact ⟨lo, by rw [Nat.sub_self, List.drop_zero]; exact hc, hl, Nat.le_refl _, by omega, Nat.le_refl _, Nat.le_refl _, rfl, rfl, rfl⟩
    by_cases hle : (s.next : Int) ≤ below
    · cases hoff : d.off with
      | true => exact hstay 12 (by unfold Lg.trim; rw [trim_fell hle (remove_off hoff _) (show (12 : Nat) ≠ 0 by decide)])
      | false =>
        obtain ⟨init, g, hs, hi⟩ := hl
        have ht : t = [] := by
          cases t with
          | nil => rfl
          | cons a b => exact absurd (hi.fall (fun e => by cases e)) (by rw [hoff]; decide)
        subst ht
        cases init with
        | nil => simp at hs
        | cons y i2 =>
          rw [List.cons_append] at hs
          injection hs with e1 e2
          subst e1
          have hd := remove_done d (segN dir s.first)
          obtain ⟨c0, c1, c2⟩ := hc.tail
          have hk1 : Ok (d.remove (segN dir s.first)).1 := hk.remove
          rcases lie_remove hi hk.rising hoff with ⟨h0, hl1⟩ | ⟨h0, hl1⟩
          · obtain ⟨lo', ht⟩ := ih _ _ _ c2 ⟨i2, g, e2, hl1⟩ hk1
            have e : Lg.trim ⟨dir, full, s :: s2 :: r, safe⟩ d below = Lg.trim ⟨dir, full, s2 :: r, safe⟩ (d.remove (segN dir s.first)).1 below := by
              unfold Lg.trim
              rw [trim_go hle rfl h0]
            rw [e]
            have hhi := ht.hi
            have hlo := ht.low
            rw [List.length_drop] at hhi
            have hdn := ht.done
            have hln := ht.len
            refine ⟨lo', ?_, ht.lie, by omega, by omega, ?_, ?_, ht.dir, ht.full, ht.safe⟩
            · have hch := ht.ch
              rw [List.drop_drop, show s.recs.length + (lo' - (lo + s.recs.length)) = lo' - lo by omega] at hch
              exact hch
            · simp at hln ⊢; omega
            · simp at hdn ⊢; omega
          · have e : Lg.trim ⟨dir, full, s :: s2 :: r, safe⟩ d below = (⟨dir, full, s :: s2 :: r, safe⟩, (d.remove (segN dir s.first)).1, (d.remove (segN dir s.first)).2) := by
              unfold Lg.trim
              rw [trim_fell hle rfl (by rw [h0]; decide)]
            have hdd : (d.remove (segN dir s.first)).1.done = d.done := by
              obtain ⟨fi, x, f1, f2, _⟩ := hi.file
              have := h0
              unfold Dk.remove at this ⊢
              split at this
              · cases this; rename_i e; rw [e] at hoff; cases hoff
              split at this
              · cases this
              split at this
              · cases this
              · rename_i h1 h2 h3
                rw [if_neg h1, if_neg h2, if_neg h3]
                show d.spend.1.done = d.done
                unfold Dk.spend at h3 ⊢
                split at h3
                · rename_i h4; rw [if_pos h4]
                · exact absurd rfl h3
            rw [e]
            exact ⟨lo, by rw [Nat.sub_self, List.drop_zero]; exact hc, ⟨s :: i2, g, by rw [e2]; rfl, hl1⟩, Nat.le_refl _, by omega, Nat.le_refl _, by show (d.remove _).1.done + _ ≤ _; rw [hdd]; exact Nat.le_refl _, rfl, rfl, rfl⟩
    · exact hstay 0 (by unfold Lg.trim; rw [trim_stay hle])
/-- What a crash leaves of a log's files: all is safe, the last file scans as Q. -/
structure Rest (dir : Nm) (init : List Sg) (first : Nat) (Q : List (List UInt8)) (d : Dk) : Prop where
  file : ∃ fi x, d.f = fi ++ [(segN dir first, x)] ∧ fi.map (fun p => (p.1, p.2.data)) = init.map (fun h => (segN dir h.first, Fr.joinV h.recs)) ∧ (∀ p ∈ d.f, p.2.safe = p.2.data.length) ∧ (Fr.scanV x.data).1 = Q
theorem Rest.crash {first : Nat} {Q : List (List UInt8)} (h : Rest dir init first Q d) (picks : List Int) : Rest dir init first Q (d.crash picks) := by
  obtain ⟨fi, x, h1, h2, h3, h4⟩ := h.file
  have e : (d.crash picks).f = d.f := tear_safe picks _ 0 (fun p hp => h3 p hp)
  exact ⟨fi, x, by rw [e]; exact h1, h2, by rw [e]; exact h3, h4⟩
theorem Rest.arm {first : Nat} {Q : List (List UInt8)} (h : Rest dir init first Q d) (n : Int) : Rest dir init first Q (d.arm n) := by
  have e : (d.arm n).f = d.f := by unfold Dk.arm; split <;> rfl
  obtain ⟨fi, x, h1, h2, h3, h4⟩ := h.file
  exact ⟨fi, x, by rw [e]; exact h1, h2, by rw [e]; exact h3, h4⟩
theorem tear_last (picks : List Int) : ∀ (fi : Ent Fi) (i : Nat) (s : Nm) (x : Fi), (∀ p ∈ fi, p.2.safe = p.2.data.length) → x.safe ≤ x.data.length → ∃ n, x.safe ≤ n ∧ n ≤ x.data.length ∧ tear picks i (fi ++ [(s, x)]) = fi ++ [(s, ⟨x.data.take n, n⟩)]
  | [], i, s, x, _, hx => by
    show ∃ n, x.safe ≤ n ∧ n ≤ x.data.length ∧ tear picks i [(s, x)] = [(s, ⟨x.data.take n, n⟩)]
    unfold tear
    by_cases h : x.data.length = x.safe
    · rw [if_pos h]
      refine ⟨x.data.length, by omega, Nat.le_refl _, ?_⟩
      rw [List.take_length, h]
      rfl
    · rw [if_neg h]
      refine ⟨x.safe + kept picks i (x.data.length - x.safe), by omega, ?_, rfl⟩
      have : kept picks i (x.data.length - x.safe) ≤ x.data.length - x.safe := by
        unfold kept
        split
        · omega
        · exact Nat.le_of_lt_succ (Nat.mod_lt _ (by omega))
      omega
  | q :: fi, i, s, x, h, hx => by
    obtain ⟨a, y⟩ := q
    have hy : y.data.length = y.safe := (h (a, y) List.mem_cons_self).symm
    obtain ⟨n, h1, h2, h3⟩ := tear_last picks fi i s x (fun p hp => h p (List.mem_cons_of_mem _ hp)) hx
    refine ⟨n, h1, h2, ?_⟩
    show tear picks i ((a, y) :: (fi ++ [(s, x)])) = _
    unfold tear
    rw [if_pos hy, h3]
    rfl
/-- A crash keeps a beginning of the records, with all that are safe. -/
theorem lie_crash {T : List (List UInt8)} (h : Lie dir full safe init g d t) (hk : Ok d) (hT : t = Fr.joinV T) (hp : ∀ p ∈ g.recs ++ T, p.length ≤ 262144) (picks : List Int) : ∃ j, j ≤ (g.recs ++ T).length ∧ min (safe + 1 - g.first) g.recs.length ≤ j ∧ Rest dir init g.first ((g.recs ++ T).take j) (d.crash picks) := by
  obtain ⟨fi, x, h1, h2, h3, h4, h5⟩ := h.file
  have hxs : x.safe ≤ x.data.length := hk.safe (segN dir g.first, x) (by rw [h1]; simp)
  obtain ⟨n, n1, n2, n3⟩ := tear_last picks fi 0 (segN dir g.first) x h3 hxs
  have hx : x.data = Fr.joinV (g.recs ++ T) := by rw [h4, hT, Fr.join_append]
  obtain ⟨j, j1, j2, j3⟩ := scan_take (g.recs ++ T) n hp
  refine ⟨j, j1, ?_, ⟨fi, ⟨x.data.take n, n⟩, by show tear picks 0 d.f = _; rw [h1]; exact n3, h2, ?_, by rw [← j2, hx]⟩⟩
  · refine j3 _ (by rw [List.length_append]; omega) ?_
    have e : (g.recs ++ T).take (min (safe + 1 - g.first) g.recs.length) = g.recs.take (safe + 1 - g.first) := by
      rw [List.take_append_of_le_length (by omega)]
      by_cases hm : safe + 1 - g.first ≤ g.recs.length
      · rw [Nat.min_eq_left hm]
      · rw [Nat.min_eq_right (by omega), List.take_length, List.take_of_length_le (by omega)]
    rw [e]
    omega
  · intro q hq
    have hq : q ∈ tear picks 0 d.f := hq
    rw [h1, n3] at hq
    rcases List.mem_append.1 hq with hq | hq
    · exact h3 q hq
    · obtain rfl := List.mem_singleton.1 hq
      show n = (x.data.take n).length
      rw [List.length_take, Nat.min_eq_left n2]
theorem load_cut2 {lg : Lg} {g0 : Sg} {x : Dk × Nat} (hd : lg.dir = dir) (hl : lg.last = g0) (h : ldOk dir d lg.segs = true) (ht : ldTorn dir d g0 = true) (hr : d.cut (segN dir g0.first) ((ldSeg dir d g0).size : Int) = x) (h0 : x.2 = 0) : lg.load d = ok3 ((lg.mid d lg.segs.length).sync x.1) := by
  subst hd hl
  exact load_cut (Nat.le_refl _) h ht hr h0
theorem load_fell2 {lg : Lg} {g0 : Sg} {x : Dk × Nat} (hd : lg.dir = dir) (hl : lg.last = g0) (h : ldOk dir d lg.segs = true) (ht : ldTorn dir d g0 = true) (hr : d.cut (segN dir g0.first) ((ldSeg dir d g0).size : Int) = x) (h0 : x.2 ≠ 0) : lg.load d = (none, x.1, x.2) := by
  subst hd hl
  exact load_fell h ht hr h0
theorem load_whole2 {lg : Lg} {g0 : Sg} (hd : lg.dir = dir) (hl : lg.last = g0) (h : ldOk dir d lg.segs = true) (ht : ldTorn dir d g0 = false) : lg.load d = ok3 ((lg.mid d lg.segs.length).sync d) := by
  subst hd hl
  exact load_whole (Nat.le_refl _) h ht
/-- How far a segment is known by its name. -/
def bare (g : Sg) : Sg := ⟨g.first, []⟩
theorem ldOk_bare {first : Nat} {Q : List (List UInt8)} : ∀ {init : List Sg}, (∀ h ∈ init, ldSeg dir d (bare h) = h ∧ ldTorn dir d (bare h) = false) → linked (init ++ [⟨first, Q⟩]) → ldOk dir d (init.map bare ++ [⟨first, []⟩]) = true
  | [], _, _ => rfl
  | [h], hh, hl => by
    obtain ⟨h1, h2⟩ := hh h List.mem_cons_self
    show (!ldTorn dir d (bare h) && decide ((ldSeg dir d (bare h)).next = first) && true) = true
    have h3 : first = h.next := hl.1
    rw [h1, h2, h3, decide_eq_true rfl]
    rfl
  | h :: h2 :: r, hh, hl => by
    obtain ⟨h1, h3⟩ := hh h List.mem_cons_self
    have ih := ldOk_bare (init := h2 :: r) (first := first) (Q := Q) (fun y hy => hh y (List.mem_cons_of_mem _ hy)) hl.2
    show (!ldTorn dir d (bare h) && decide ((ldSeg dir d (bare h)).next = h2.first) && ldOk dir d ((h2 :: r).map bare ++ [⟨first, []⟩])) = true
    have h4 : h2.first = h.next := hl.1
    rw [ih, h1, h3, h4, decide_eq_true rfl]
    rfl
theorem found_bare : ∀ (l : List Sg), (∀ g ∈ l, 1 ≤ g.first ∧ g.first ≤ 99999999) → found dir (l.map (fun g => segN dir g.first)) = l.map bare
  | [], _ => rfl
  | x :: r, h => by
    have hx := h x List.mem_cons_self
    have ih := found_bare r (fun g hg => h g (List.mem_cons_of_mem _ hg))
    unfold found at ih ⊢
    rw [List.map_cons, List.filterMap_cons, numR_seg _ hx.2, if_pos (by omega), ih]
    rfl
theorem upd_id (f : Ent Fi) (s : Nm) (φ : Fi → Fi) (h : ∀ p ∈ f, φ p.2 = p.2) : upd f s φ = f := by
  unfold upd
  conv => rhs; rw [← List.map_id f]
  refine List.map_congr_left fun q hq => ?_
  show (if (q.1 == s) = true then (q.1, φ q.2) else q) = q
  rw [h q hq]
  split <;> rfl
/-- Sync where all is safe changes no file. -/
theorem sync_safe (hs : Synced d) {s : Nm} (hh : has d.f s = true) (hoff : d.off = false) : ((d.sync s).2 = 0 ∨ ((d.sync s).2 = 12 ∧ d.left ≠ 0)) ∧ (d.sync s).1.f = d.f ∧ ((d.sync s).2 = 0 → (d.sync s).1.off = false ∧ (d.left = 0 → (d.sync s).1.left = 0)) := by
  have hu : upd d.f s (fun x => (⟨x.data, x.data.length⟩ : Fi)) = d.f := upd_id _ _ _ fun q hq => by
    have := hs q hq
    obtain ⟨a, b, c⟩ := q
    simp only at this ⊢
    rw [this]
  unfold Dk.sync
  rw [if_neg (by rw [hoff]; decide), if_neg (by rw [hh]; decide), hu]
  unfold Dk.spend
  by_cases hl : d.left = 1
  · rw [if_pos hl, if_neg (show ¬ false = true by decide)]
    exact ⟨.inr ⟨rfl, by omega⟩, rfl, fun e => by cases e⟩
  · rw [if_neg hl, if_pos rfl]
    exact ⟨.inl rfl, rfl, fun _ => ⟨hoff, fun e => by show d.left - 1 = 0; omega⟩⟩
set_option maxHeartbeats 1000000 in
/-- What Open makes of the files that a crash has left, cut off or not. -/
theorem rest_open {first : Nat} {Q : List (List UInt8)} (hR : Rest dir init first Q d) (hoff : d.off = false) (hr : Rising d.f) (hd : 1 ≤ dir.length ∧ dir.length ≤ 11) (h64 : 64 ≤ full ∧ full ≤ 262144) (hlk : linked (init ++ [⟨first, Q⟩])) (hnum : ∀ g ∈ init ++ [(⟨first, Q⟩ : Sg)], 1 ≤ g.first ∧ g.first ≤ 99999999)
    (hp : ∀ g ∈ init, ∀ p ∈ g.recs, p.length ≤ 262144) (hbig : ∀ g ∈ init, full ≤ g.size) :
    Rest dir init first Q (openL dir (full : Int) d).2.1 ∧ ((openL dir (full : Int) d).1 = none ∨ ((openL dir (full : Int) d).1 = some ⟨dir, full, init ++ [⟨first, Q⟩], first + Q.length - 1⟩ ∧ Lie dir full (first + Q.length - 1) init ⟨first, Q⟩ (openL dir (full : Int) d).2.1 [])) ∧ (d.left = 0 → (openL dir (full : Int) d).1 = some ⟨dir, full, init ++ [⟨first, Q⟩], first + Q.length - 1⟩ ∧ (openL dir (full : Int) d).2.2 = 0) ∧ tot (openL dir (full : Int) d).2.1.f ≤ tot d.f ∧ (openL dir (full : Int) d).2.1.done ≤ d.done + 2 := by
  obtain ⟨fi, x, h1, h2, h3, h4⟩ := hR.file
  have hf1 : (1 ≤ first ∧ first ≤ 99999999) := hnum ⟨first, Q⟩ (by simp)
  have hnm : names d.f = (init ++ [(⟨first, Q⟩ : Sg)]).map (fun g => segN dir g.first) := by
    have := congrArg (List.map Prod.fst) h2
    rw [List.map_map, List.map_map] at this
    rw [h1]
    unfold names
    rw [List.map_append, List.map_append]
    congr 1
  have hfd : found dir (names d.f) = init.map bare ++ [⟨first, []⟩] := by
    rw [hnm, found_bare _ hnum, List.map_append]
    rfl
  have hread : ∀ h ∈ init, ldSeg dir d (bare h) = h ∧ ldTorn dir d (bare h) = false := fun h hh => by
    have e1 : (segN dir h.first, Fr.joinV h.recs) ∈ fi.map (fun p => (p.1, p.2.data)) := by rw [h2]; exact List.mem_map.2 ⟨h, hh, rfl⟩
    obtain ⟨q, hq, e⟩ := List.mem_map.1 e1
    injection e with e2 e3
    have e4 : get d.f (segN dir h.first) = some q.2 := by rw [← e2]; exact mem_get hr (by rw [h1]; exact List.mem_append_left _ hq)
    have e5 : d.read (segN dir h.first) = (Fr.joinV h.recs, 0) := by unfold Dk.read; rw [e4]; exact congrArg (fun x => (x, 0)) e3
    have e7 : Fr.scanV (Fr.joinV h.recs) = (h.recs, (Fr.joinV h.recs).length) := by
      have h6 := Fr.scan_join [] h.recs (hp h hh)
      rw [List.append_nil, Fr.scan_none (show Fr.firstV [] = none by rfl), List.append_nil, Nat.add_zero] at h6
      exact h6
    refine ⟨?_, ?_⟩
    · show (⟨h.first, (Fr.scanV (d.read (segN dir h.first)).1).1⟩ : Sg) = h
      rw [e5, e7]
    · unfold ldTorn
      show decide ((Fr.scanV (d.read (segN dir h.first)).1).2 < (d.read (segN dir h.first)).1.length) = false
      rw [e5, e7]
      exact decide_eq_false (Nat.lt_irrefl _)
  have hgx : get d.f (segN dir first) = some x := mem_get hr (by rw [h1]; simp)
  have hrx : d.read (segN dir first) = (x.data, 0) := by unfold Dk.read; rw [hgx]
  have hlx : ldSeg dir d ⟨first, []⟩ = ⟨first, Q⟩ := by
    show (⟨first, (Fr.scanV (d.read (segN dir first)).1).1⟩ : Sg) = _
    rw [hrx, h4]
  have htx : ldTorn dir d ⟨first, []⟩ = decide ((Fr.scanV x.data).2 < x.data.length) := by
    show decide ((Fr.scanV (d.read (segN dir first)).1).2 < (d.read (segN dir first)).1.length) = _
    rw [hrx]
  have hok := ldOk_bare hread hlk
  have hmap : (init.map bare ++ [(⟨first, []⟩ : Sg)]).map (ldSeg dir d) = init ++ [⟨first, Q⟩] := by
    rw [List.map_append, List.map_map]
    congr 1
    · conv => rhs; rw [← List.map_id init]
      exact List.map_congr_left fun h hh => (hread h hh).1
    · show [ldSeg dir d ⟨first, []⟩] = _
      rw [hlx]
  obtain ⟨_, sc2, sc3, _⟩ := Fr.scan_small (b := x.data)
  rw [h4] at sc2
  have hqs : ∀ p ∈ Q, p.length ≤ 262144 := by rw [← h4]; exact Fr.scan_small.1
  have hsj : Fr.scanV (Fr.joinV Q) = (Q, (Fr.joinV Q).length) := by
    have h6 := Fr.scan_join [] Q hqs
    rw [List.append_nil, Fr.scan_none (show Fr.firstV [] = none by rfl), List.append_nil, Nat.add_zero] at h6
    exact h6
  have hlast : (⟨dir, full, init.map bare ++ [⟨first, []⟩], 0⟩ : Lg).last = ⟨first, []⟩ := by
    unfold Lg.last
    simp
  have hlast2 : (⟨dir, full, init ++ [⟨first, Q⟩], 0⟩ : Lg).last = ⟨first, Q⟩ := by
    unfold Lg.last
    simp
  have hne : found dir (names d.f) ≠ [] := by rw [hfd]; simp
  have hmid : (⟨dir, full, init.map bare ++ [⟨first, []⟩], 0⟩ : Lg).mid d (⟨dir, full, init.map bare ++ [⟨first, []⟩], 0⟩ : Lg).segs.length = ⟨dir, full, init ++ [⟨first, Q⟩], 0⟩ := by
    rw [mid_all _ _ (Nat.le_refl _)]
    show (⟨dir, full, (init.map bare ++ [(⟨first, []⟩ : Sg)]).map (ldSeg dir d), 0⟩ : Lg) = _
    rw [hmap]
  -- the end: a whole last file is synced
  have hend : ∀ d1 : Dk, d1.off = false → d1.f = fi ++ [(segN dir first, ⟨Fr.joinV Q, (Fr.joinV Q).length⟩)] → Rising d1.f → (∀ p ∈ fi, p.2.safe = p.2.data.length) →
      Rest dir init first Q (ok3 (Lg.sync ⟨dir, full, init ++ [⟨first, Q⟩], 0⟩ d1)).2.1 ∧ ((ok3 (Lg.sync ⟨dir, full, init ++ [⟨first, Q⟩], 0⟩ d1)).1 = none ∨ ((ok3 (Lg.sync ⟨dir, full, init ++ [⟨first, Q⟩], 0⟩ d1)).1 = some ⟨dir, full, init ++ [⟨first, Q⟩], first + Q.length - 1⟩ ∧ Lie dir full (first + Q.length - 1) init ⟨first, Q⟩ (ok3 (Lg.sync ⟨dir, full, init ++ [⟨first, Q⟩], 0⟩ d1)).2.1 [])) ∧ (d1.left = 0 → (ok3 (Lg.sync ⟨dir, full, init ++ [⟨first, Q⟩], 0⟩ d1)).1 = some ⟨dir, full, init ++ [⟨first, Q⟩], first + Q.length - 1⟩ ∧ (ok3 (Lg.sync ⟨dir, full, init ++ [⟨first, Q⟩], 0⟩ d1)).2.2 = 0) ∧ (ok3 (Lg.sync ⟨dir, full, init ++ [⟨first, Q⟩], 0⟩ d1)).2.1.f = d1.f ∧ (ok3 (Lg.sync ⟨dir, full, init ++ [⟨first, Q⟩], 0⟩ d1)).2.1.done ≤ d1.done + 1 := by
    intro d1 o1 f1 r1 s1
    have hsd : Synced d1 := fun q hq => by
      rw [f1] at hq
      rcases List.mem_append.1 hq with hq | hq
      · exact s1 q hq
      · obtain rfl := List.mem_singleton.1 hq
        rfl
    obtain ⟨k1, k2, k3⟩ := sync_safe hsd (s := segN dir first) (by rw [f1]; exact has_last _ _ _) o1
    have hnx : (⟨dir, full, init ++ [⟨first, Q⟩], 0⟩ : Lg).next = first + Q.length := by unfold Lg.next; rw [hlast2]; rfl
    have he := lsync_eq ⟨dir, full, init ++ [⟨first, Q⟩], 0⟩ d1 (x := d1.sync (segN dir first)) (by rw [hlast2])
    rw [hnx] at he
    have hdn := sync_done ⟨dir, full, init ++ [⟨first, Q⟩], 0⟩ d1
    have hrest : Rest dir init first Q (d1.sync (segN dir first)).1 := ⟨fi, _, by rw [k2]; exact f1, h2, by rw [k2]; exact hsd, by rw [hsj]⟩
    generalize hy : d1.sync (segN dir first) = y at *
    rcases k1 with k1 | ⟨k1, k4⟩
    · rw [if_pos k1] at he
      rw [he] at hdn ⊢
      have hlie : Lie dir full (first + Q.length - 1) init ⟨first, Q⟩ y.1 [] := by
        refine ⟨(fun e => absurd rfl e), ⟨fi, _, by rw [k2]; exact f1, h2, s1, by rw [List.append_nil], ?_⟩, by show first ≤ _; omega, ?_, hbig, h64.1⟩
        · show wt (Q.take _) ≤ (Fr.joinV Q).length
          rw [joinV_wt, List.take_of_length_le (by show Q.length ≤ first + Q.length - 1 + 1 - first; omega)]
          exact Nat.le_refl _
        · cases Q with
          | nil => exact .inr ⟨rfl, by show first + 0 - 1 + 1 = first; omega⟩
          | cons a b => left; show first + (a :: b).length - 1 < first + (a :: b).length; rw [List.length_cons]; omega
      exact ⟨hrest, .inr ⟨rfl, hlie⟩, fun _ => ⟨rfl, rfl⟩, k2, hdn⟩
    · rw [if_neg (by rw [k1]; decide)] at he
      rw [he] at hdn ⊢
      unfold ok3
      have h12 : ¬ ((⟨dir, full, init ++ [⟨first, Q⟩], 0⟩, y.1, y.2) : Lg × Dk × Nat).2.2 = 0 := by show ¬ y.2 = 0; rw [k1]; decide
      rw [if_neg h12]
      exact ⟨hrest, .inl rfl, fun e => absurd e k4, k2, hdn⟩
  have hL : openL dir (full : Int) d = Lg.load ⟨dir, full, init.map bare ++ [⟨first, []⟩], 0⟩ d := by
    unfold openL
    rw [if_neg (by intro e; rcases e with e | e; (rw [e] at hd; simp at hd); omega), if_neg (by omega), if_neg (by rw [hoff]; decide), Int.toNat_natCast]
    unfold Lg.start
    rw [if_neg hne, hfd]
  rw [hL]
  have hx3 : x.safe = x.data.length := h3 (segN dir first, x) (by rw [h1]; simp)
  have hs3 : ∀ p ∈ fi, p.2.safe = p.2.data.length := fun q hq => h3 q (by rw [h1]; exact List.mem_append_left _ hq)
  by_cases ht : (Fr.scanV x.data).2 < x.data.length
  · have htt : ldTorn dir d ⟨first, []⟩ = true := by rw [htx]; exact decide_eq_true ht
    have hsz : (ldSeg dir d ⟨first, []⟩).size = (Fr.scanV x.data).2 := by rw [ldSeg_size]; show (Fr.scanV (d.read (segN dir first)).1).2 = _; rw [hrx]
    obtain ⟨c, hc⟩ : ∃ c, d.cut (segN dir first) ((Fr.scanV x.data).2 : Int) = c := ⟨_, rfl⟩
    have hcut : d.cut (segN dir (⟨first, []⟩ : Sg).first) ((ldSeg dir d ⟨first, []⟩).size : Int) = c := by rw [hsz]; exact hc
    have hlen : len d.f (segN dir first) = x.data.length := by unfold len; rw [hgx]
    have hu : upd d.f (segN dir first) (fun y => (⟨y.data.take ((Fr.scanV x.data).2 : Int).toNat, min y.safe ((Fr.scanV x.data).2 : Int).toNat⟩ : Fi)) = fi ++ [(segN dir first, ⟨Fr.joinV Q, (Fr.joinV Q).length⟩)] := by
      rw [h1] at hr ⊢
      rw [upd_last hr, Int.toNat_natCast, sc2]
      have : min x.safe (Fr.scanV x.data).2 = (Fr.joinV Q).length := by
        rw [← sc2, List.length_take, hx3]
        omega
      rw [this]
    have hce : c = if d.spend.2 then ({ d.spend.1 with f := fi ++ [(segN dir first, ⟨Fr.joinV Q, (Fr.joinV Q).length⟩)] }, 0) else (d.spend.1, 12) := by
      rw [← hc]
      unfold Dk.cut
      rw [if_neg (by rw [hoff]; decide), if_neg (by rw [h1, has_last]; decide), if_neg (by rw [hlen]; omega), hu]
    rcases spend_cases d with ⟨p1, _, p3⟩ | ⟨p1, p2, p3⟩
    · rw [if_pos p1] at hce
      have hc0 : c.2 = 0 := by rw [hce]
      have hw := load_cut2 (lg := ⟨dir, full, init.map bare ++ [⟨first, []⟩], 0⟩) rfl hlast hok htt hcut hc0
      rw [hw, hmid]
      have hc1 : c.1.f = fi ++ [(segN dir first, ⟨Fr.joinV Q, (Fr.joinV Q).length⟩)] := by rw [hce]
      have hco : c.1.off = false := by rw [hce]; show d.spend.1.off = false; rw [p3]; exact hoff
      have hcr : Rising c.1.f := by
        rw [hc1]
        rw [h1] at hr
        exact hr.of_names (by unfold names; simp)
      obtain ⟨q1, q2, q3, q4, q5⟩ := hend c.1 hco hc1 hcr hs3
      have hcd := cut_done d (segN dir first) ((Fr.scanV x.data).2 : Int)
      rw [hc] at hcd
      refine ⟨q1, q2, fun e => q3 ?_, ?_, Nat.le_trans q5 (by omega)⟩
      · rw [hce, spend_calm e]
      · rw [q4, hc1, h1]
        unfold tot
        rw [List.map_append, List.map_append, List.sum_append, List.sum_append]
        have hjl : (Fr.joinV Q).length ≤ x.data.length := by rw [← sc2, List.length_take]; omega
        simp
        omega
    · rw [if_neg (by rw [p1]; decide)] at hce
      have hc0 : c.2 ≠ 0 := by rw [hce]; show (12 : Nat) ≠ 0; decide
      have hw := load_fell2 (lg := ⟨dir, full, init.map bare ++ [⟨first, []⟩], 0⟩) rfl hlast hok htt hcut hc0
      rw [hw, hce]
      have hcd := cut_done d (segN dir first) ((Fr.scanV x.data).2 : Int)
      rw [hc, hce] at hcd
      refine ⟨⟨fi, x, by show d.spend.1.f = _; rw [p2]; exact h1, h2, by show ∀ p ∈ d.spend.1.f, _; rw [p2]; exact h3, h4⟩, .inl rfl, fun e => ?_, by show tot d.spend.1.f ≤ _; rw [p2]; exact Nat.le_refl _, Nat.le_succ_of_le hcd⟩
      rw [spend_calm e] at p1
      cases p1
  · have hwh : x.data = Fr.joinV Q := by rw [List.take_of_length_le (by omega)] at sc2; exact sc2
    have htt : ldTorn dir d ⟨first, []⟩ = false := by rw [htx]; exact decide_eq_false ht
    have hw := load_whole2 (lg := ⟨dir, full, init.map bare ++ [⟨first, []⟩], 0⟩) rfl hlast hok htt
    rw [hw, hmid]
    obtain ⟨q1, q2, q3, q4, q5⟩ := hend d hoff (by rw [h1, ← hwh, ← hx3]) hr hs3
    exact ⟨q1, q2, q3, by rw [q4]; exact Nat.le_refl _, Nat.le_succ_of_le q5⟩
end
end Go.Proofs.YtkilkhnoldfhcaaGreatDoor
namespace Go.Proofs.YtkilkhnoldfhcaaGreatDoor
open Go.ChangeShapes Go.WideShapes Go.RowKit Go.Deep
/-- What is done till the power goes. -/
structure Fl where
  steps : Int
  l : List Wo
  picks : List Int
  again : List Int
instance : Inhabited Fl := ⟨⟨0, [], [], []⟩⟩
structure Fl.wf (p : Fl) : Prop where
  steps : -9223372036854775808 ≤ p.steps ∧ p.steps ≤ 9223372036854775807
/-- Its cells. -/
structure FlAt (C : Nat → Prop) (w : World) (b o : Nat) (p : Fl) : Prop where
  c0 : w.cell? ⟨b, o, none⟩ = some (.int .i64 p.steps)
  c1 : ∃ ao cap, w.cell? ⟨b, o + 1, none⟩ = some (.slice ao p.l.length cap) ∧ SW C w ao p.l.length cap p.l
  c2 : ∃ ao cap, w.cell? ⟨b, o + 2, none⟩ = some (.slice ao p.picks.length cap) ∧ SI C w ao p.picks.length cap p.picks
  c3 : ∃ ao cap, w.cell? ⟨b, o + 3, none⟩ = some (.slice ao p.again.length cap) ∧ SI C w ao p.again.length cap p.again
/-- A slice of them. -/
structure SL (C : Nat → Prop) (w : World) (ao : Option Addr) (n cap : Nat) (l : List Fl) : Prop where
  len : n = l.length
  le : n ≤ cap
  max : cap ≤ maxLen
  wf : ∀ p ∈ l, p.wf
  cells : n = 0 ∨ ∃ b off, ao = some ⟨b, off, none⟩ ∧ C b ∧ ∀ i (h : i < l.length), FlAt C w b (off + i * 4) l[i]
theorem SL.lt {C : Nat → Prop} {w : World} {ao : Option Addr} {n cap : Nat} {l : List Fl} (h : SL C w ao n cap l) : n ≤ 9223372036854775807 := by have := h.le; have := h.max; unfold maxLen at this; omega
theorem SL.at_ {C : Nat → Prop} {w : World} {ao : Option Addr} {n cap : Nat} {l : List Fl} (h : SL C w ao n cap l) {i : Nat} (hi : i < l.length) : ∃ b off, ao = some ⟨b, off, none⟩ ∧ C b ∧ FlAt C w b (off + i * 4) l[i] ∧ l[i].wf := by
  rcases h.cells with h0 | ⟨b, off, rfl, hB, hc⟩
  · have := h.len; omega
  · exact ⟨b, off, rfl, hB, hc i hi, h.wf _ (List.getElem_mem hi)⟩
section
variable {H : Type} {enc : TypeId × Value → H} {w : World} {base : Nat} {held : Bool}
set_option maxRecDepth 100000 in
theorem fl_cells {n : Nat} {b o : Nat} {cs : List Value} {y : DataW H × List MemPlace} (h1 : w.cells? base ⟨b, o, none⟩ 4 = some cs) (h : DataW.trod enc Tryz.prog w base (fun _ => true) held n 59 cs = some y) :
    ∃ p : Fl, p.wf ∧ FlAt (fun k => k < w.heap.size) w b o p := by
  obtain ⟨_, hlen, hcell⟩ := World.cells?_some h1
  obtain ⟨xs, k, hk, hxy, _, hxl, hf⟩ := DataW.trod_struct Tryz.underlying59 h
  match xs, hxl, cs, hlen with
  | [y0, y1, y2, y3], _, [v0, v1, v2, v3], _ =>
    have g0 := hf 0 _ rfl
    have g1 := hf 1 _ rfl
    have g2 := hf 2 _ rfl
    have g3 := hf 3 _ rfl
    have q0 : Tryz.prog.cellsOf 3 = 1 := by kernel_rfl
    have q1 : Tryz.prog.cellsOf 22 = 1 := by kernel_rfl
    have q3 : Tryz.prog.cellsOf 37 = 1 := by kernel_rfl
    simp [q0, q1, q3] at g0 g1 g2 g3
    have e0 := hcell 0 (by omega)
    have e1 := hcell 1 (by omega)
    have e2 := hcell 2 (by omega)
    have e3 := hcell 3 (by omega)
    rw [add_plain] at e0 e1 e2 e3
    obtain ⟨k0, f0, rfl, wf0⟩ := DataW.trod_int Tryz.underlying3 g0
    obtain ⟨a1, p1, x1, f1, r1⟩ := open_sw g1
    obtain ⟨a2, p2, x2, f2, r2⟩ := open_si g2
    obtain ⟨a3, p3, x3, f3, r3⟩ := open_si g3
    simp at f0
    subst f0 f1 f2 f3
    simp [Lit.wf, IntKind.min, IntKind.max, IntKind.signed, IntKind.bits] at wf0
    exact ⟨⟨k0, x1, x2, x3⟩, ⟨by simp only; omega, by simp only; omega⟩, by simpa using e0, ⟨a1, p1, by simpa using e1, r1⟩, ⟨a2, p2, by simpa using e2, r2⟩, ⟨a3, p3, by simpa using e3, r3⟩⟩
set_option maxRecDepth 100000 in
theorem open_sl {fuel : Nat} {v : Value} {x : DataW H × List MemPlace} (h : DataW.trod enc Tryz.prog w base (fun _ => true) held fuel 54 [v] = some x) :
    ∃ ao cap l, v = .slice ao l.length cap ∧ SL (fun k => k < w.heap.size) w ao l.length cap l := by
  rcases open_slice Tryz.underlying54 h with ⟨h0, _⟩ | ⟨a, len, cap, m, n, D, Pl, h0, hb, hl, hm, hmm, rfl, hx⟩
  · exact ⟨none, 0, [], by simpa using h0, rfl, Nat.le_refl _, by decide, fun _ h => (nomatch h), .inl rfl⟩
  simp only [if_true] at hmm
  subst hmm
  have q : Tryz.prog.cellsOf 59 = 4 := by kernel_rfl
  rw [q] at hx
  obtain ⟨b, o, spot⟩ := a
  by_cases h1 : len = 0
  · subst h1
    exact ⟨some ⟨b, o, spot⟩, m, [], by simpa using h0, rfl, Nat.zero_le _, hm, fun _ h => (nomatch h), .inl rfl⟩
  have hspot : spot = none := by
    obtain ⟨cs, h2, _⟩ := hx 0 (by omega)
    obtain ⟨_, hlen, hcell⟩ := World.cells?_some h2
    have := hcell 0 (by omega)
    match cs, hlen with
    | v0 :: _, _ => simpa [Addr.add] using World.cell?_spot (show w.cell? _ = some v0 from this)
  subst hspot
  obtain ⟨R, hR⟩ := choose_lt (α := Fl) (n := m) (p := fun i r => r.wf ∧ FlAt (fun k => k < w.heap.size) w b (o + i * 4) r) (fun i hi => by
    obtain ⟨cs, h2, h3⟩ := hx i hi
    rw [add_plain] at h2
    exact fl_cells h2 h3)
  have hlen : ((List.range len).map R).length = len := by simp
  refine ⟨some ⟨b, o, none⟩, m, (List.range len).map R, by simpa using h0, rfl, by rw [hlen]; exact hl, hm, ?_, .inr ⟨b, o, rfl, ?_, fun i hi => ?_⟩⟩
  · intro r hr
    obtain ⟨i, hi, rfl⟩ := List.mem_map.1 hr
    exact (hR i (by have := List.mem_range.1 hi; omega)).1
  · exact World.block_lt_of_cell? _ _ (hR 0 (by omega)).2.c0
  · have hi' : i < len := by simpa using hi
    rw [List.getElem_map, List.getElem_range]
    exact (hR i (by omega)).2
end
section
variable {B : Nat} {w w' w1 : World} {a dp : Nat} {C S : Nat → Prop} {lg lg' : Lg} {d d' : Dk}
theorem dk_arm (h : DK S w dp d) (n : Int) (h1 : -9223372036854775808 ≤ n) (h2 : n ≤ 9223372036854775807) : Calls Tryz.prog 19 #[ptr dp, .int .i64 n] w fun e w' => e = .returned (.tuple #[]) ∧ DK S w' dp (d.arm n) ∧ Tn S w w' := by
  obtain ⟨m, ρ, δ, h⟩ := h
  exact (arm_any h n h1 h2).mono fun e w' ⟨e1, e2, e3⟩ => ⟨e1, ⟨m, ρ, δ, e2⟩, e3⟩
/-- Whatever Open has answered: the disk. -/
theorem opened_dk {r : Option Lg × Dk × Nat} {e : Ending} (h : Opened S B w dp r e w') : ∃ v, e = .returned v ∧ ∃ S', DK S' w' dp r.2.1 ∧ (∀ k, S' k → B ≤ k) ∧ Tn S w w' ∧ (∀ k, S' k → S k ∨ w.heap.size ≤ k) := by
  unfold Opened at h
  split at h
  · obtain ⟨_, a, C', S', e1, e2, e3⟩ := h
    exact ⟨_, e1, S', e2.dk, e2.sb, e3.tn, fun k hk => e3.sub k (.inr hk)⟩
  · obtain ⟨_, e1, S', e2, e3, e4⟩ := h
    exact ⟨_, e1, S', e2, e3, e4.tn, fun k hk => e4.sub k hk⟩
theorem arm_tot (d : Dk) (n : Int) : (d.arm n).f = d.f ∧ (d.arm n).off = d.off ∧ (d.arm n).done = d.done := by unfold Dk.arm; split <;> exact ⟨rfl, rfl, rfl⟩
/-- The disk of again, between crashes. -/
structure Ag (init : List Sg) (first : Nat) (Q : List (List UInt8)) (T D : Nat) (d : Dk) : Prop where
  rest : Rest dLog init first Q d
  off : d.off = false
  left : d.left = 0
  room : tot d.f ≤ T
  done : d.done ≤ D
theorem Ag.crash {init : List Sg} {first T D : Nat} {Q : List (List UInt8)} (h : Rest dLog init first Q d) (ht : tot d.f ≤ T) (hd : d.done ≤ D) (picks : List Int) : Ag init first Q T D (d.crash picks) :=
  ⟨h.crash picks, rfl, rfl, Nat.le_trans (tot_tear picks d.f 0) ht, hd⟩
/-- What is asked of a log that was. -/
structure Was (full : Nat) (init : List Sg) (first : Nat) (Q : List (List UInt8)) : Prop where
  f64 : 64 ≤ full ∧ full ≤ 262144
  lk : linked (init ++ [⟨first, Q⟩])
  num : ∀ g ∈ init ++ [(⟨first, Q⟩ : Sg)], 1 ≤ g.first ∧ g.first ≤ 99999999
  small : ∀ g ∈ init, ∀ p ∈ g.recs, p.length ≤ 262144
  big : ∀ g ∈ init, full ≤ g.size
/-- The log that again answers. -/
def agLog (full : Nat) (init : List Sg) (first : Nat) (Q : List (List UInt8)) : Lg := ⟨dLog, full, init ++ [⟨first, Q⟩], first + Q.length - 1⟩
set_option maxRecDepth 100000 in
set_option maxHeartbeats 8000000 in
theorem again_any {full T D : Nat} {init : List Sg} {first : Nat} {Q : List (List UInt8)} {E : Nat → Prop} {po ro : Option Addr} {pc rc : Nat} {picks again : List Int} {v0 v1 : Value} (h : DK S w dp d) (hS : ∀ k, S k → B ≤ k) (hB : B ≤ w.heap.size) (hT : Tabs w) (h6 : 6 ≤ B)
    (hag : Ag init first Q T D (d.crash picks)) (hw : Was full init first Q) (hTT : T ≤ 1000000) (hD : D ≤ 900000000) (hE : ∀ k, E k → k < B) (hp : SI E w po picks.length pc picks) (hr : SI E w ro again.length rc again) :
    Calls Tryz.prog 32 #[ptr dp, .int .i64 (full : Int), .agg #[v0, v1, .slice po picks.length pc, .slice ro again.length rc]] w fun e w' => ∃ a C' S' d', e = .returned (ptr a) ∧ WL B w' a C' (agLog full init first Q) dp S' d' ∧ Lie dLog full (first + Q.length - 1) init ⟨first, Q⟩ d' [] ∧ tot d'.f ≤ T ∧ d'.done ≤ D + 10 ∧ Went S w w' (fun k => C' k ∨ S' k) := by
  have HSF := Lib.hid hS
  have HBW := Lib.hid hB
  have HT := Lib.hid hT
  have H6 := Lib.hid h6
  have HAG := Lib.hid hag
  have HWA := Lib.hid hw
  have HTT := Lib.hid hTT
  have HDD := Lib.hid hD
  have HE := Lib.hid hE
  have HP := Lib.hid hp
  have HR := Lib.hid hr
  have HD0 := Lib.hid h
  have HSL := Lib.hid h.lt
  have hrl := hr.lt
  clear h hS hB hT h6 hag hw hTT hD hE hp hr
  have k2 : (w.alloc (.cells #[v0, v1, .slice po picks.length pc, .slice ro again.length rc] 59)).cell? ⟨w.heap.size, 2, none⟩ = some (.slice po picks.length pc) := by rw [World.cell?, heap_alloc_new]; rfl
  have k3 : (w.alloc (.cells #[v0, v1, .slice po picks.length pc, .slice ro again.length rc] 59)).cell? ⟨w.heap.size, 3, none⟩ = some (.slice ro again.length rc) := by rw [World.cell?, heap_alloc_new]; rfl
  have HB0 := Lib.hid (below1 w (.cells #[v0, v1, .slice po picks.length pc, .slice ro again.length rc] 59))
  have HBL : Hid (w.heap.size < (w.alloc (.cells #[v0, v1, .slice po picks.length pc, .slice ro again.length rc] 59)).heap.size) := Lib.hid (by simp)
  go_enter Tryz.func32, Tryz.ntmps32
  go_wp2_with (go_at_call 42; (refine (dk_crash (HD0.out.below HB0.out) (HP.out.below HB0.out) (fun k hk hs => absurd (HE.out k hk) (Nat.not_lt_of_le (HSF.out k hs)))).mono ?_); rintro e w1 ⟨rfl, hd, ht⟩; have HD1 := Lib.hid hd; have HT1 := Lib.hid ht; clear hd ht)
  have HK2 := Lib.hid k2
  have HK3 := Lib.hid k3
  clear k2 k3
  go_loopw [7] (fun vi wr => ∃ (i : Nat) (S' : Nat → Prop) (d' : Dk), vi = .int .i64 (i : Int) ∧ i ≤ again.length ∧ i ≤ 4 ∧ Hid (DK S' wr dp d') ∧ Hid (Ag init first Q T (D + 2 * i) d') ∧ Hid (∀ k, S' k → B ≤ k ∧ k ≠ w.heap.size) ∧ Hid (Went S w wr S') ∧ Hid (wr.cell? ⟨w.heap.size, 2, none⟩ = some (.slice po picks.length pc)) ∧ Hid (wr.cell? ⟨w.heap.size, 3, none⟩ = some (.slice ro again.length rc))) (fun vi _ => 4 - (intOf vi).toNat)
  case atStart =>
    have hsx : ¬ S w.heap.size := fun e => absurd (HSL.out _ e) (Nat.lt_irrefl _)
    exact ⟨0, _, _, rfl, Nat.zero_le _, Nat.zero_le _, HD1, HAG, Lib.hid (fun k hk => ⟨HSF.out k hk, fun e => by have := HSL.out k hk; omega⟩), Lib.hid ⟨(Tn.of_below HB0.out).trans HT1.out (fun _ _ e => e), fun k hk => .inl hk⟩, Lib.hid (HT1.out.cell HK2.out hsx), Lib.hid (HT1.out.cell HK3.out hsx)⟩
  case round =>
    clear HK2 HK3 HD1 HT1 HAG
    obtain ⟨i, S1, d1, rfl, hi, hi4, HD, HAG, HS1, HG, K2, K3⟩ := hrel
    have c2 := K2.out
    have c3 := K3.out
    have HBX : Hid (Below B w wr) := Lib.hid (HG.out.tn.below HBW.out HSF.out)
    have HTW := Lib.hid (HT.out.on (HBX.out.mono H6.out))
    have HPW := Lib.hid (HP.out.tn HG.out.tn (fun k hk hs => absurd (HE.out k hk) (Nat.not_lt_of_le (HSF.out k hs))))
    have HES : Hid (∀ k, E k → ¬ S1 k) := Lib.hid (fun k hk hs => absurd (HE.out k hk) (Nat.not_lt_of_le (HS1.out k hs).1))
    have HX1 : Hid (¬ S1 w.heap.size) := Lib.hid (fun e => (HS1.out _ e).2 rfl)
    have HBR : Hid (B ≤ wr.heap.size) := Lib.hid (Nat.le_trans HBW.out HBX.out.size)
    have HXL : Hid (w.heap.size < wr.heap.size) := Lib.hid (World.block_lt_of_cell? _ _ c2)
    by_cases hlt : i < again.length ∧ i < 4
    · obtain ⟨hlt, hl4⟩ := hlt
      have hil4 : (i : Int) < 4 := by omega
      have hwi : IntKind.i64.wrap ((i : Int) + 1) = ((i + 1 : Nat) : Int) := by rw [wrap_in (by omega)]; omega
      obtain ⟨b, off, rfl, hbE, hc⟩ : ∃ b off, ro = some ⟨b, off, none⟩ ∧ E b ∧ ∀ i, i < again.length → w.cell? ⟨b, off + i, none⟩ = some (.int .i64 (again.getD i 0)) := by
        rcases HR.out.cells with h0 | h0
        · omega
        · exact h0
      have g0 := (HBX.out.cell (p := ⟨b, off + i, none⟩) (HE.out b hbE)).trans (hc i hlt)
      generalize again.getD i 0 = y at *
      have hy : -4 ≤ Int.tmod y 5 ∧ Int.tmod y 5 ≤ 4 := ⟨by have := Int.lt_tmod_of_pos y (show (0 : Int) < 5 by decide); omega, by have := Int.tmod_lt_of_pos y (show (0 : Int) < 5 by decide); omega⟩
      clear hc hbE
      have hy3 : -9223372036854775808 ≤ Int.tmod y 5 + 1 ∧ Int.tmod y 5 + 1 ≤ 9223372036854775807 := by omega
      have HY := Lib.hid hy3
      have hft := arm_tot d1 (Int.tmod y 5 + 1)
      have HFT := Lib.hid hft
      have HLT := Lib.hid hlt
      clear hy3 hft hlt
      obtain ⟨d2, hd2⟩ : ∃ d2, d1.arm (Int.tmod y 5 + 1) = d2 := ⟨_, rfl⟩
      have HRA : Hid (Rest dLog init first Q d2) := Lib.hid (hd2 ▸ HAG.out.rest.arm _)
      have HD2E := Lib.hid hd2
      rw [hd2] at HFT
      clear hd2
      have HRM : Hid (tot d2.f ≤ 1000000) := Lib.hid (by rw [HFT.out.1]; exact Nat.le_trans HAG.out.room HTT.out)
      have HDN : Hid (d2.done ≤ 1000000000) := Lib.hid (by rw [HFT.out.2.2]; have := HAG.out.done; have := HDD.out; omega)
      have HOF : Hid (d2.off = false) := Lib.hid (HFT.out.2.1.trans HAG.out.off)
      go_wp2_with (first
        | (go_at_call 19; (refine (dk_arm HD.out (Int.tmod y 5 + 1) HY.out.1 HY.out.2).mono ?_); rw [HD2E.out]; rintro e w2 ⟨rfl, hd, ht⟩; have HD2 := Lib.hid hd; have HG2 := Lib.hid (HG.out.trans ⟨ht, fun k hk => .inl hk⟩); have HPW := Lib.hid (HPW.out.tn ht HES.out); have HTW := Lib.hid (HTW.out.tn ht (fun k hk => Nat.le_trans H6.out (HS1.out k hk).1)); have c2 := ht.cell c2 HX1.out; have c3 := ht.cell c3 HX1.out; have HBR := Lib.hid (Nat.le_trans HBR.out ht.size); have HXL := Lib.hid (Nat.lt_of_lt_of_le HXL.out ht.size); clear hd ht)
        | (go_at_call 23; (refine (lopen_any HD2.out (fun k hk => (HS1.out k hk).1) HBR.out HTW.out H6.out dLog (by decide) (full : Int) HRM.out HDN.out).mono ?_); rintro e w3 he; obtain ⟨v3, rfl, S3, hd, hs3, ht, hsub⟩ := opened_dk he; have HD3 := Lib.hid hd; have HG3 := Lib.hid (HG2.out.trans ⟨ht, hsub⟩); have HPW := Lib.hid (HPW.out.tn ht HES.out); have c2 := ht.cell c2 HX1.out; have c3 := ht.cell c3 HX1.out; have HS3 : Hid (∀ k, S3 k → B ≤ k ∧ k ≠ w.heap.size) := Lib.hid (fun k hk => ⟨hs3 k hk, fun e => (hsub k hk).elim (fun x => (HS1.out k x).2 e) (fun x => by have := HXL.out; omega)⟩); clear hd ht hs3 hsub he)
        | (go_at_call 42; (refine (dk_crash HD3.out HPW.out (fun k hk hs => absurd (HE.out k hk) (Nat.not_lt_of_le (HS3.out k hs).1))).mono ?_); rintro e w4 ⟨rfl, hd, ht⟩; have HD4 := Lib.hid hd; have HG4 := Lib.hid (HG3.out.trans ⟨ht, fun k hk => .inl hk⟩); have K2 := Lib.hid (ht.cell c2 (fun e => (HS3.out _ e).2 rfl)); have K3 := Lib.hid (ht.cell c3 (fun e => (HS3.out _ e).2 rfl)); clear hd ht))
      obtain ⟨o1, _, _, o4, o5⟩ := rest_open (full := full) HRA.out HOF.out HD2.out.ok.rising (by decide) HWA.out.f64 HWA.out.lk HWA.out.num HWA.out.small HWA.out.big
      have hg1 := HAG.out.room
      have hg2 := HAG.out.done
      have hf1 := HFT.out.1
      have hf2 := HFT.out.2.2
      rw [hf1] at o4
      rw [hf2] at o5
      have hag : Ag init first Q T (D + 2 * (i + 1)) ((openL dLog (full : Int) d2).2.1.crash picks) := Ag.crash o1 (by omega) (by omega) picks
      have HAG4 := Lib.hid hag
      have hlt := HLT.out
      clear o1 o4 o5 hg1 hg2 hf1 hf2 hag
      go_roundw
      case rel => exact ⟨i + 1, S3, _, congrArg (Value.int .i64) (by omega), hlt, hl4, HD4, HAG4, HS3, HG4, K2, K3⟩
      case measure => simp [intOf]; omega
    · have hex : ¬ i < again.length ∨ (i < again.length ∧ ¬ (i : Int) < 4) := by omega
      obtain ⟨o1, o2, o3, o4, o5⟩ := rest_open (full := full) HAG.out.rest HAG.out.off HD.out.ok.rising (by decide) HWA.out.f64 HWA.out.lk HWA.out.num HWA.out.small HWA.out.big
      obtain ⟨q1, q2⟩ := o3 HAG.out.left
      obtain ⟨d5, hd5⟩ : ∃ d5, (openL dLog (full : Int) d1).2.1 = d5 := ⟨_, rfl⟩
      have hL : openL dLog (full : Int) d1 = (some (agLog full init first Q), d5, 0) := by
        rw [← hd5]
        exact Prod.ext q1 (Prod.ext rfl q2)
      have HLI : Hid (Lie dLog full (first + Q.length - 1) init ⟨first, Q⟩ d5 []) := Lib.hid (by
        rw [← hd5]
        rcases o2 with e | e
        · rw [q1] at e; cases e
        · exact e.2)
      rw [hd5] at o4 o5
      have HTO : Hid (tot d5.f ≤ T) := Lib.hid (Nat.le_trans o4 HAG.out.room)
      have HDO : Hid (d5.done ≤ D + 10) := Lib.hid (by have := HAG.out.done; omega)
      have HLE := Lib.hid hL
      have HRM : Hid (tot d1.f ≤ 1000000) := Lib.hid (Nat.le_trans HAG.out.room HTT.out)
      have HDN : Hid (d1.done ≤ 1000000000) := Lib.hid (by have := HAG.out.done; have := HDD.out; omega)
      clear o1 o2 o3 o4 o5 q1 q2 hd5 hL hlt
      rcases hex with e1 | ⟨e1, e2⟩
      all_goals
        go_wp2_with (go_at_call 23; (refine (lopen_any HD.out (fun k hk => (HS1.out k hk).1) HBR.out HTW.out H6.out dLog (by decide) (full : Int) HRM.out HDN.out).mono ?_); rw [HLE.out]; rintro e w3 ⟨_, a, C5, S5, rfl, hw, hg⟩; have HW5 := Lib.hid hw; have HG5 := Lib.hid (HG.out.trans hg); clear hw hg)
        go_ret
        exact ⟨a, C5, S5, d5, rfl, HW5.out, HLI.out, HTO.out, HDO.out, HG5.out⟩
end
end Go.Proofs.YtkilkhnoldfhcaaGreatDoor
namespace Go.Proofs.YtkilkhnoldfhcaaGreatDoor
open Go.RowKit
theorem lieL_few {lg : Lg} {d : Dk} {t : List UInt8} (h : LieL lg d t) (hk : Ok d) : lg.segs.length ≤ 64 := by
  obtain ⟨init, g, hs, hl⟩ := h
  obtain ⟨fi, x, h1, h2, _⟩ := hl.file
  have h3 := congrArg List.length h2
  have h4 := hk.few
  rw [h1] at h4
  rw [hs]
  simp at h3 h4 ⊢
  omega
theorem wt_le {L : List (List UInt8)} (h : ∀ p ∈ L, p.length ≤ 1000) : wt L ≤ 1012 * L.length := by
  induction L with
  | nil => exact Nat.le_refl _
  | cons p r ih =>
    have h1 := ih (fun q hq => h q (List.mem_cons_of_mem _ hq))
    have h2 := h p List.mem_cons_self
    rw [wt_cons, List.length_cons]
    omega
/-- A log, its disk, the records that it took, and the one whose Append fell. -/
structure Kp (full i k : Nat) (lg : Lg) (d : Dk) (lo : Nat) (all : List (List UInt8)) (fell : Bool) (tn t : List UInt8) : Prop where
  ch : Ch lg lo (all.drop (lo - 1))
  low : 1 ≤ lo ∧ lo - 1 ≤ all.length
  lie : LieL lg d t
  torn : t = [] ∨ (fell = true ∧ t = Fr.frameV tn)
  tsm : tn.length ≤ 1000
  mem : ∀ p ∈ all, p.length ≤ 1000
  len : all.length ≤ 41 * i + k
  done : d.done ≤ 1 + 3000 * i + 70 * k
  dir : lg.dir = dLog
  full : lg.full = full
section
variable {full i k : Nat} {lg : Lg} {d : Dk} {lo : Nat} {all : List (List UInt8)} {fell : Bool} {tn t p : List UInt8}
theorem Kp.next (h : Kp full i k lg d lo all fell tn t) : lg.next = all.length + 1 ∧ lg.safe < lg.next := by
  have h1 := h.ch.next
  have h2 := h.low
  have h3 := h.ch.safe
  rw [List.length_drop] at h1 h3
  omega
theorem Kp.wt (h : Kp full i k lg d lo all fell tn t) (hi : i ≤ 6) (hk : k ≤ 40) : YtkilkhnoldfhcaaGreatDoor.wt (all.drop (lo - 1)) ≤ 300000 := by
  have h1 := wt_le (L := all.drop (lo - 1)) (fun p hp => h.mem p (List.mem_of_mem_drop hp))
  have h2 := h.len
  rw [List.length_drop] at h1
  omega
theorem Kp.more (h : Kp full i k lg d lo all fell tn t) : Kp full i (k + 1) lg d lo all fell tn t := ⟨h.ch, h.low, h.lie, h.torn, h.tsm, h.mem, by have := h.len; omega, by have := h.done; omega, h.dir, h.full⟩
theorem kp_zero (h64 : 64 ≤ full) : Kp full 0 0 (opZero full).1 (opZero full).2.1 1 [] false [] [] := by
  have h := calm_zero full h64
  obtain ⟨m1, m2⟩ := opMir_zero full h64
  refine ⟨h.ch, ⟨Nat.le_refl _, Nat.zero_le _⟩, ⟨[], ⟨1, []⟩, rfl, ⟨(fun e => absurd rfl e), ⟨[], ⟨[], 0⟩, ?_, rfl, fun _ h => (nomatch h), rfl, Nat.zero_le _⟩, Nat.le_refl _, .inr ⟨rfl, rfl⟩, fun _ h => (nomatch h), h64⟩⟩, .inl rfl, Nat.zero_le _, fun _ h => (nomatch h), Nat.le_refl _, by show fDA.done ≤ _; rw [f_da]; exact Nat.le_refl _, rfl, rfl⟩
  show fDA.f = [(segN dLog 1, ⟨[], 0⟩)]
  rw [f_nm]
  kernel_rfl
theorem Kp.append (h : Kp full i k lg d lo all fell tn t) (hok : Ok d) (hi : i ≤ 6) (hk : k < 40) (hp : p.length ≤ 1000) :
    ((lg.append d p).2.2.2 = 0 → Kp full i (k + 1) (lg.append d p).1 (lg.append d p).2.1 lo (all ++ [p]) fell tn []) ∧
    ((lg.append d p).2.2.2 ≠ 0 → d.off = false → ∃ t', Kp full i (k + 1) (lg.append d p).1 (lg.append d p).2.1 lo all true p t') ∧
    ((lg.append d p).2.2.2 ≠ 0 → d.off = true → ∃ t', Kp full i (k + 1) (lg.append d p).1 (lg.append d p).2.1 lo all fell tn t') := by
  have hw := h.wt hi (by omega)
  have hnx := h.next.1
  have hln := h.len
  have hdn := h.done
  have hlw := h.low
  have hfw := lieL_few h.lie hok
  obtain ⟨c1, c2, c3, c4, c5, c6⟩ := h.ch.append (p := p) (by omega) (by omega) d
  obtain ⟨t', l1, l2⟩ := lieL_append (p := p) h.ch h.lie hok (by omega) (by omega) (by omega) (by omega)
  refine ⟨fun h0 => ?_, fun h0 ho => ⟨t', ?_⟩, fun h0 ho => ⟨t', ?_⟩⟩
  · rw [if_pos h0] at c1
    have ht : t' = [] := by
      rcases l2 with ⟨_, e⟩ | ⟨e, _⟩
      · exact e
      · exact absurd h0 e
    rw [ht] at l1
    refine ⟨by rw [List.drop_append_of_le_length hlw.2]; exact c1, ⟨hlw.1, by rw [List.length_append]; omega⟩, l1, .inl rfl, h.tsm, fun q hq => ?_, by rw [List.length_append]; simp; omega, by omega, c3.trans h.dir, c4.trans h.full⟩
    rcases List.mem_append.1 hq with hq | hq
    · exact h.mem q hq
    · obtain rfl := List.mem_singleton.1 hq
      exact hp
  · rw [if_neg h0] at c1
    refine ⟨c1, hlw, l1, ?_, hp, h.mem, by omega, by omega, c3.trans h.dir, c4.trans h.full⟩
    rcases l2 with ⟨e, _⟩ | ⟨_, e | ⟨e, _⟩ | ⟨_, e⟩⟩
    · exact absurd e h0
    · exact .inl e
    · rw [ho] at e; cases e
    · exact .inr ⟨rfl, e⟩
  · rw [if_neg h0] at c1
    refine ⟨c1, hlw, l1, ?_, h.tsm, h.mem, by omega, by omega, c3.trans h.dir, c4.trans h.full⟩
    rcases l2 with ⟨e, _⟩ | ⟨_, e | ⟨_, e⟩ | ⟨e, _⟩⟩
    · exact absurd e h0
    · exact .inl e
    · rw [e]; exact h.torn
    · rw [ho] at e; cases e
theorem Kp.sync (h : Kp full i k lg d lo all fell tn t) (hok : Ok d) : Kp full i (k + 1) (lg.sync d).1 (lg.sync d).2.1 lo all fell tn t := by
  obtain ⟨c1, c2, c3, c4, c5, c6, c7⟩ := h.ch.sync d
  exact ⟨c1, h.low, lieL_sync h.ch h.lie hok, h.torn, h.tsm, h.mem, by have := h.len; omega, by have := h.done; omega, c3.trans h.dir, c4.trans h.full⟩
theorem Kp.trim (h : Kp full i k lg d lo all fell tn t) (hok : Ok d) (below : Int) : ∃ lo', Kp full i (k + 1) (lg.trim d below).1 (lg.trim d below).2.1 lo' all fell tn t := by
  have hfw := lieL_few h.lie hok
  obtain ⟨lo', ht⟩ := trim_lie (below := below) lg.segs d lo _ h.ch h.lie hok
  have h1 := ht.low
  have h2 := ht.hi
  have h3 := h.low
  rw [List.length_drop] at h2
  have h4 : (lg.trim d below).2.1.done + (lg.trim d below).1.segs.length ≤ d.done + lg.segs.length := ht.done
  have h5 : Ch (lg.trim d below).1 lo' ((all.drop (lo - 1)).drop (lo' - lo)) := ht.ch
  rw [List.drop_drop, show lo - 1 + (lo' - lo) = lo' - 1 by omega] at h5
  have h6 := h.done
  exact ⟨lo', h5, by omega, ht.lie, h.torn, h.tsm, h.mem, by have := h.len; omega, by omega, ht.dir.trans h.dir, ht.full.trans h.full⟩
/-- What a crash and Open behind it, cut off or not, make of it. -/
structure Fell (full i k : Nat) (lg : Lg) (d : Dk) (lo : Nat) (all : List (List UInt8)) (fell : Bool) (tn : List UInt8) (picks : List Int) (init : List Sg) (first : Nat) (Q : List (List UInt8)) (n : Nat) : Prop where
  ag : Ag init first Q 900000 (1 + 3000 * i + 70 * k) (d.crash picks)
  was : Was full init first Q
  next : (agLog full init first Q).next = n
  pos : 1 ≤ n
  safe : lg.safe < n
  safe2 : (agLog full init first Q).safe = n - 1
  most : n ≤ all.length + 1 ∨ (n = all.length + 2 ∧ fell = true)
  kp : ∀ d', Lie dLog full (first + Q.length - 1) init ⟨first, Q⟩ d' [] → d'.done ≤ 1 + 3000 * i + 70 * k + 10 → Kp full (i + 1) 0 (agLog full init first Q) d' lo ((all ++ [tn]).take (n - 1)) false [] []
theorem Kp.crash (h : Kp full i k lg d lo all fell tn t) (hok : Ok d) (h64 : 64 ≤ full ∧ full ≤ 262144) (hi : i ≤ 6) (hk : k ≤ 40) (picks : List Int) : ∃ init first Q n, Fell full i k lg d lo all fell tn picks init first Q n := by
  obtain ⟨init, g, hs, hl⟩ := h.lie
  rw [h.dir, h.full] at hl
  obtain ⟨i2, g2, s1, s2, s3⟩ := h.ch.seg
  have hlk : linked (init ++ [g]) := by rw [← hs, s1]; exact s2
  have hall : allR init ++ g.recs = all.drop (lo - 1) := by rw [← s3, ← s1, hs, allR_append, allR_one]
  obtain ⟨T, hT, hTl⟩ : ∃ T, t = Fr.joinV T ∧ (T = [] ∨ (fell = true ∧ T = [tn])) := by
    rcases h.torn with e | ⟨e, e2⟩
    · exact ⟨[], e, .inl rfl⟩
    · exact ⟨[tn], by rw [e2]; simp [Fr.joinV], .inr ⟨e, rfl⟩⟩
  have hmg : ∀ p ∈ g.recs, p.length ≤ 1000 := fun p hp => h.mem p (List.mem_of_mem_drop (by rw [← hall]; exact List.mem_append_right _ hp))
  have hmi : ∀ p ∈ allR init, p.length ≤ 1000 := fun p hp => h.mem p (List.mem_of_mem_drop (by rw [← hall]; exact List.mem_append_left _ hp))
  have hmT : ∀ p ∈ T, p.length ≤ 1000 := fun p hp => by
    rcases hTl with e | ⟨_, e⟩
    · rw [e] at hp; cases hp
    · rw [e] at hp
      obtain rfl := List.mem_singleton.1 hp
      exact h.tsm
  have hmgT : ∀ p ∈ g.recs ++ T, p.length ≤ 1000 := fun p hp => (List.mem_append.1 hp).elim (hmg p) (hmT p)
  have htot : tot d.f ≤ 900000 := by
    have h1 := hl.tot
    rw [allR_append, allR_one, hall] at h1
    have h2 := h.wt hi hk
    have h3 : t.length ≤ 1012 := by
      rw [hT, joinV_wt]
      rcases hTl with e | ⟨_, e⟩
      · rw [e]; exact Nat.zero_le _
      · rw [e, wt_one]; have := h.tsm; omega
    omega
  obtain ⟨j, j1, j2, j3⟩ := lie_crash hl hok hT (fun p hp => Nat.le_trans (hmgT p hp) (by decide)) picks
  obtain ⟨Q, hQ⟩ : ∃ Q, Q = (g.recs ++ T).take j := ⟨_, rfl⟩
  rw [← hQ] at j3
  have hQl : Q.length = j := by rw [hQ, List.length_take, Nat.min_eq_left j1]
  have hal := congrArg List.length hall
  rw [List.length_append, List.length_drop] at hal
  have hlo := h.low
  have hgf : g.first = lo + (allR init).length := by
    obtain ⟨y, r, e1, e2, e3, e4⟩ := h.ch.cons
    have hn := h.ch.next
    rw [List.length_drop] at hn
    have hnx : lg.next = g.next := by unfold Lg.next; rw [(h.ch.last hs).1]
    have : g.next = g.first + g.recs.length := rfl
    omega
  have hsafe := h.ch.safe
  rw [List.length_drop] at hsafe
  have hhead := hl.head
  have hnum : ∀ y ∈ init ++ [(⟨g.first, Q⟩ : Sg)], 1 ≤ y.first ∧ y.first ≤ 99999999 := fun y hy => by
    rcases List.mem_append.1 hy with hy | hy
    · exact h.ch.ok.num y (by rw [hs]; exact List.mem_append_left _ hy)
    · obtain rfl := List.mem_singleton.1 hy
      exact h.ch.ok.num g (by rw [hs]; simp)
  have hlk2 : linked (init ++ [⟨g.first, Q⟩]) := linked_put init g _ hlk rfl
  have hwas : Was full init g.first Q := ⟨h64, hlk2, hnum, fun y hy p hp => Nat.le_trans (hmi p (List.mem_flatten.2 ⟨y.recs, List.mem_map.2 ⟨y, hy, rfl⟩, hp⟩)) (by decide), hl.big⟩
  have hnx : (agLog full init g.first Q).next = g.first + Q.length := by
    unfold Lg.next Lg.last agLog
    simp [Sg.next]
  have hTn : T.length = 0 ∨ (T.length = 1 ∧ fell = true) := by
    rcases hTl with e | ⟨e0, e⟩
    · exact .inl (by rw [e]; rfl)
    · exact .inr ⟨by rw [e]; rfl, e0⟩
  have hjl : j ≤ g.recs.length + T.length := by rw [List.length_append] at j1; exact j1
  have hmost : g.first + j ≤ all.length + 1 ∨ (g.first + j = all.length + 2 ∧ fell = true) := by
    rcases hTn with e | ⟨e, e2⟩
    · exact .inl (by omega)
    · by_cases hh : g.first + j ≤ all.length + 1
      · exact .inl hh
      · exact .inr ⟨by omega, e2⟩
  refine ⟨init, g.first, Q, g.first + j, ⟨j3, rfl, rfl, Nat.le_trans (tot_tear picks d.f 0) htot, h.done⟩, hwas, by rw [hnx, hQl], by omega, by omega, by show g.first + Q.length - 1 = _; rw [hQl], hmost, fun d' hd' hdn => ?_⟩
  -- the records that are left
  have e1 : (all ++ [tn]).take (g.first + j - 1) = (all ++ T).take (g.first + j - 1) := by
    rcases hTl with e | ⟨e0, e⟩
    · have hT0 : T.length = 0 := by rw [e]; rfl
      rw [e, List.append_nil, List.take_append_of_le_length (by omega)]
    · rw [e]
  have e2 : ((all ++ T).take (g.first + j - 1)).drop (lo - 1) = allR init ++ Q := by
    rw [List.drop_take, List.drop_append_of_le_length hlo.2, ← hall, List.append_assoc, show g.first + j - 1 - (lo - 1) = (allR init).length + j by omega, List.take_length_add_append, ← hQ]
  have hlen : ((all ++ T).take (g.first + j - 1)).length = g.first + j - 1 := by rw [List.length_take, List.length_append]; omega
  rw [e1]
  have hch : Ch (agLog full init g.first Q) lo (allR init ++ Q) := by
    refine ⟨⟨by show 0 < (init ++ [_]).length; simp, ?_, (show 1 ≤ dLog.length ∧ dLog.length ≤ 11 by decide), hnum, fun y hy => ?_⟩, ⟨init, ⟨g.first, Q⟩, rfl, hlk2, by rw [allR_append, allR_one]⟩, ?_, ?_⟩
    · have := h.ch.ok.few
      rw [hs] at this
      show (init ++ [_]).length ≤ _
      simp at this ⊢
      exact this
    · have hy2 := size_le hy
      rw [show allR (agLog full init g.first Q).segs = allR init ++ Q by show allR (init ++ [_]) = _; rw [allR_append, allR_one]] at hy2
      have h1 := wt_le (L := allR init ++ Q) (fun p hp => (List.mem_append.1 hp).elim (hmi p) (fun hp => hmgT p (List.mem_of_mem_take (hQ ▸ hp))))
      have h2 := h.len
      rw [List.length_append, hQl] at h1
      omega
    · have := h.ch.low
      unfold Lg.low at this ⊢
      rw [hs] at this
      show ((init ++ [(⟨g.first, Q⟩ : Sg)]).getD 0 ⟨0, []⟩).first = lo
      cases init with
      | nil => exact this
      | cons y r => exact this
    · show g.first + Q.length - 1 < lo + (allR init ++ Q).length
      rw [List.length_append]
      omega
  refine ⟨by rw [e2]; exact hch, ⟨hlo.1, by omega⟩, ⟨init, ⟨g.first, Q⟩, rfl, hd'⟩, .inl rfl, Nat.zero_le _, fun p hp => ?_, by have := h.len; omega, by omega, rfl, rfl⟩
  rcases List.mem_append.1 (List.mem_of_mem_take hp) with hp | hp
  · exact h.mem p hp
  · exact hmT p hp
end
end Go.Proofs.YtkilkhnoldfhcaaGreatDoor
namespace Go.Proofs.YtkilkhnoldfhcaaGreatDoor
open Go.RowKit
theorem Kp.arm {full i k : Nat} {lg : Lg} {d : Dk} {lo : Nat} {all : List (List UInt8)} {fell : Bool} {tn : List UInt8} (h : Kp full i k lg d lo all fell tn []) (n : Int) : Kp full i k lg (d.arm n) lo all fell tn [] := by
  obtain ⟨h1, h2, h3⟩ := arm_tot d n
  obtain ⟨init, g, hs, hl⟩ := h.lie
  obtain ⟨fi, x, f1, f2, f3, f4, f5⟩ := hl.file
  exact ⟨h.ch, h.low, ⟨init, g, hs, (fun e => absurd rfl e), ⟨fi, x, by rw [h1]; exact f1, f2, f3, f4, f5⟩, hl.head, hl.tail, hl.big, hl.pos⟩, .inl rfl, h.tsm, h.mem, h.len, by rw [h3]; exact h.done, h.dir, h.full⟩
section
variable {W w w' w1 w4 : World} {B dp a a' bx : Nat} {C S E C' S' U : Nat → Prop} {lg lg' : Lg} {d d' : Dk} {v8 v4 u x0 x1 x2 x3 : Value} {us : List Value} {all : List (List UInt8)} {p : List UInt8}
/-- A log over its disk, and the records that were taken. -/
structure Mo (W : World) (B dp a : Nat) (C S E : Nat → Prop) (w : World) (lg : Lg) (d : Dk) (v8 : Value) (us : List Value) (all : List (List UInt8)) : Prop where
  wl : WL B w a C lg dp S d
  ro : RO E w v8 us all
  e : ∀ k, E k → W.heap.size ≤ k ∧ k < w.heap.size ∧ ¬ C k ∧ ¬ S k
  below : Below W.heap.size W w
  base : B ≤ w.heap.size
  baseW : W.heap.size ≤ B
theorem Mo.step (h : Mo W B dp a C S E w lg d v8 us all) (hg : Went (fun k => C k ∨ S k) w w' (fun k => C' k ∨ S' k)) (hw : WL B w' a' C' lg' dp S' d') : Mo W B dp a' C' S' E w' lg' d' v8 us all :=
  ⟨hw, h.ro.tn hg.tn (fun k hk e => e.elim (h.e k hk).2.2.1 (h.e k hk).2.2.2), fun k hk => ⟨(h.e k hk).1, Nat.lt_of_lt_of_le (h.e k hk).2.1 hg.tn.size, fun e => (hg.sub k (.inl e)).elim (fun x => x.elim (h.e k hk).2.2.1 (h.e k hk).2.2.2) (fun x => by have := (h.e k hk).2.1; omega), fun e => (hg.sub k (.inr e)).elim (fun x => x.elim (h.e k hk).2.2.1 (h.e k hk).2.2.2) (fun x => by have := (h.e k hk).2.1; omega)⟩,
    h.below.trans ((h.wl.went h.base hg).mono h.baseW), Nat.le_trans h.base hg.tn.size, h.baseW⟩
theorem Mo.quiet (h : Mo W B dp a C S E w lg d v8 us all) (hb : Below w.heap.size w w') : Mo W B dp a C S E w' lg d v8 us all :=
  ⟨h.wl.below hb, h.ro.below hb, fun k hk => ⟨(h.e k hk).1, Nat.lt_of_lt_of_le (h.e k hk).2.1 hb.size, (h.e k hk).2.2⟩, h.below.trans (hb.mono h.below.size), Nat.le_trans h.base hb.size, h.baseW⟩
theorem Mo.disk (h : Mo W B dp a C S E w lg d v8 us all) (hd : DK S w' dp d') (ht : Tn S w w') : Mo W B dp a C S E w' lg d' v8 us all :=
  ⟨⟨let ⟨v, us, hl⟩ := h.wl.lk; ⟨v, us, hl.tn ht h.wl.cs⟩, hd, h.wl.cb, h.wl.sb, h.wl.cs⟩, h.ro.tn ht (fun k hk e => (h.e k hk).2.2.2 e), fun k hk => ⟨(h.e k hk).1, Nat.lt_of_lt_of_le (h.e k hk).2.1 ht.size, (h.e k hk).2.2⟩, h.below.trans ((ht.below h.base h.wl.sb).mono h.baseW), Nat.le_trans h.base ht.size, h.baseW⟩
theorem Mo.push (h : Mo W B dp a C S E w lg d v8 us all) (hb : Below w.heap.size w w1) (hc : w1.ownsRow w.heap.size 5 1 u p.length (bys p)) (hg : (w1.alloc (.cells #[u] 36)).grownBy w4 v8.ownBlock) (ho : w4.ownsRow 0 36 1 v4 (all.length + 1) (us ++ [u])) (hl : v4.ownBlock = v8.ownBlock ∨ v4.ownBlock = some (w1.alloc (.cells #[u] 36)).heap.size) :
    Mo W B dp a C S (fun q => E q ∨ (w.heap.size ≤ q ∧ q < w4.heap.size)) w4 lg d v4 (us ++ [u]) (all ++ [p]) := by
  have hb2 : Below w.heap.size w (w1.alloc (.cells #[u] 36)) := hb.trans ((below1 w1 _).mono hb.size)
  have h2 := h.quiet hb2
  have hsz : (w1.alloc (.cells #[u] 36)).heap.size ≤ w4.heap.size := hg.size
  have hws : w.heap.size ≤ w1.heap.size := hb.size
  have hal : (w1.alloc (.cells #[u] 36)).heap.size = w1.heap.size + 1 := by simp
  have hrow : ∀ k, v8.ownBlock = some k → E k := h.ro.row
  have ht : Tn (fun k => v8.ownBlock = some k) (w1.alloc (.cells #[u] 36)) w4 := (Tn.refl _ _).grown hg (fun k e _ => e)
  have hoc := own_below hc (below1 w1 (.cells #[u] 36))
  have hlast : w4.heap.size > (w1.alloc (.cells #[u] 36)).heap.size ∨ v4.ownBlock = v8.ownBlock := by
    rcases hl with e | e
    · exact .inr e
    · have := (ho.lt _ e).2
      exact .inl this
  have hlw : w.heap.size ≤ W.heap.size ∨ W.heap.size ≤ w.heap.size := Nat.le_total _ _
  have hWw := h.below.size
  refine ⟨h2.wl.aside ht (fun k hk e => (h.e k (hrow k e)).2.2.1 hk) (fun k hk e => (h.e k (hrow k e)).2.2.2 hk), ?_, fun k hk => ?_, h2.below.grown hg h2.below.size (fun k e => (h.e k (hrow k e)).1), Nat.le_trans h2.base hsz, h.baseW⟩
  · have hro : RO (fun q => E q ∨ w.heap.size ≤ q) w4 v4 (us ++ [u]) (all ++ [p]) := (h2.ro.mono (D := fun q => E q ∨ w.heap.size ≤ q) (fun k _ hk => .inl hk)).snoc hg ho hl (own_mono hoc (Nat.zero_le _)) (fun q e => .inr (hoc.lt q e).1) (.inr (by omega))
    refine ⟨hro.own, hro.len, hro.at_, fun k hk => ?_, fun i hi k hk => ?_⟩
    · have h3 := (hro.own.lt k hk).2
      exact (hro.row k hk).elim .inl (fun x => .inr ⟨x, h3⟩)
    · have h3 := ((hro.at_ i hi (by rw [← hro.len]; exact hi)).lt k hk).2
      exact (hro.rows i hi k hk).elim .inl (fun x => .inr ⟨x, h3⟩)
  · rcases hk with hk | ⟨k1, k2⟩
    · have h3 := h.e k hk
      exact ⟨h3.1, by omega, h3.2.2⟩
    · exact ⟨by omega, k2, fun e => by have := h.wl.clt k e; omega, fun e => by have := h.wl.dk.lt k e; omega⟩
theorem Mo.top {ro : Option Addr} {rc m n : Nat} (h : Mo W B dp a C S E w lg d (.slice ro m rc) us all) (hm : m = all.length) (hn : n ≤ m) : Mo W B dp a C S E w lg d (.slice ro n rc) (us.take n) (all.take n) := by
  have hl := h.ro.len
  have hown : w.ownsRow 0 36 1 (.slice ro n rc) (all.take n).length (us.take n) := by
    have h1 := h.ro.own
    have e : (all.take n).length = n := by rw [List.length_take]; omega
    rw [e]
    cases ro with
    | none =>
      rcases h1.2 with ⟨e1, e2⟩ | ⟨g, c, cur, e1, _⟩
      · injection e1 with e3 e4 e5
        obtain rfl : n = 0 := by omega
        subst e5
        rw [List.take_zero]
        exact World.ownsRow_nil _ _ _ _
      · cases e1
    | some ad =>
      rcases h1.2 with ⟨e1, _⟩ | ⟨g, c, cur, e1, _⟩
      · cases e1
      · injection e1 with e3 e4 e5
        injection e3 with e3
        subst e3
        rw [← hm] at h1
        have h2 := own_head h1 hn
        rw [Nat.mul_one] at h2
        exact h2
  refine ⟨h.wl, ⟨hown, by rw [List.length_take, List.length_take, hl], fun i h1 h2 => ?_, fun k hk => h.ro.row k (by cases ro <;> exact hk), fun i hi k hk => ?_⟩, h.e, h.below, h.base, h.baseW⟩
  · rw [List.getElem_take, List.getElem_take]
    exact h.ro.at_ i (by rw [List.length_take] at h1; omega) (by rw [List.length_take] at h2; omega)
  · rw [List.getElem_take] at hk
    exact h.ro.rows i (by rw [List.length_take] at hi; omega) k hk
/-- Four cells beside. -/
structure Bx (bx : Nat) (x0 x1 x2 x3 : Value) (C S E : Nat → Prop) (w : World) : Prop where
  c0 : w.cell? ⟨bx, 0, none⟩ = some x0
  c1 : w.cell? ⟨bx, 1, none⟩ = some x1
  c2 : w.cell? ⟨bx, 2, none⟩ = some x2
  c3 : w.cell? ⟨bx, 3, none⟩ = some x3
  nc : ¬ C bx
  ns : ¬ S bx
  ne : ¬ E bx
theorem Bx.lt (h : Bx bx x0 x1 x2 x3 C S E w) : bx < w.heap.size := World.block_lt_of_cell? _ _ h.c0
theorem Bx.step (h : Bx bx x0 x1 x2 x3 C S E w) (hg : Went (fun k => C k ∨ S k) w w' (fun k => C' k ∨ S' k)) : Bx bx x0 x1 x2 x3 C' S' E w' := by
  have hn : ¬ (C bx ∨ S bx) := fun e => e.elim h.nc h.ns
  have hl := h.lt
  exact ⟨hg.tn.cell h.c0 hn, hg.tn.cell h.c1 hn, hg.tn.cell h.c2 hn, hg.tn.cell h.c3 hn, fun e => (hg.sub _ (.inl e)).elim hn (fun x => by omega), fun e => (hg.sub _ (.inr e)).elim hn (fun x => by omega), h.ne⟩
theorem Bx.quiet (h : Bx bx x0 x1 x2 x3 C S E w) (hb : Below w.heap.size w w') : Bx bx x0 x1 x2 x3 C S E w' :=
  ⟨(hb.cell (p := ⟨bx, 0, none⟩) h.lt).trans h.c0, (hb.cell (p := ⟨bx, 1, none⟩) h.lt).trans h.c1, (hb.cell (p := ⟨bx, 2, none⟩) h.lt).trans h.c2, (hb.cell (p := ⟨bx, 3, none⟩) h.lt).trans h.c3, h.nc, h.ns, h.ne⟩
theorem Bx.disk (h : Bx bx x0 x1 x2 x3 C S E w) (ht : Tn S w w') : Bx bx x0 x1 x2 x3 C S E w' := ⟨ht.cell h.c0 h.ns, ht.cell h.c1 h.ns, ht.cell h.c2 h.ns, ht.cell h.c3 h.ns, h.nc, h.ns, h.ne⟩
theorem Bx.push (h : Bx bx x0 x1 x2 x3 C S E w) (hb : Below w.heap.size w w1) (hg : (w1.alloc (.cells #[u] 36)).grownBy w4 v8.ownBlock) (hr : ∀ k, v8.ownBlock = some k → E k) : Bx bx x0 x1 x2 x3 C S (fun q => E q ∨ (w.heap.size ≤ q ∧ q < w4.heap.size)) w4 := by
  have hb2 : Below w.heap.size w (w1.alloc (.cells #[u] 36)) := hb.trans ((below1 w1 _).mono hb.size)
  have h2 := h.quiet hb2
  have ht : Tn (fun k => v8.ownBlock = some k) (w1.alloc (.cells #[u] 36)) w4 := (Tn.refl _ _).grown hg (fun k e _ => e)
  have hn : ¬ v8.ownBlock = some bx := fun e => h.ne (hr _ e)
  have hl := h.lt
  exact ⟨ht.cell h2.c0 hn, ht.cell h2.c1 hn, ht.cell h2.c2 hn, ht.cell h2.c3 hn, h.nc, h.ns, fun e => e.elim h.ne (fun x => by omega)⟩
end
end Go.Proofs.YtkilkhnoldfhcaaGreatDoor
