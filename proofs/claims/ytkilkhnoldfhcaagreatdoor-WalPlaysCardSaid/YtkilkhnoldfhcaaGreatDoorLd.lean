/- wal: next, last, Next, First, Safe. Conditions: segments and records as a disk has room for. A log over its disk; wal: Sync. Conditions: segments and records as a disk has room for. wal: begin. Conditions: segments as a disk has room for. wal: makeRoom. Conditions: segments and records as a disk has room for. -/
import Derived.Test.YtkilkhnoldfhcaaGreatDoorLb
import Derived.Test.YtkilkhnoldfhcaaGreatDoorMj
namespace Go.Proofs.YtkilkhnoldfhcaaGreatDoor
open Go.RowKit
theorem recs_size (g : Sg) : g.recs.length * 12 ≤ g.size := by
  obtain ⟨f, L⟩ := g
  show L.length * 12 ≤ (L.map fun p => p.length + 12).sum
  induction L with
  | nil => simp
  | cons p r ih =>
    rw [List.length_cons, List.map_cons, List.sum_cons]
    omega
/-- What a log keeps to. -/
structure LOk (lg : Lg) : Prop where
  ne : 0 < lg.segs.length
  few : lg.segs.length ≤ 1000000
  dir : 1 ≤ lg.dir.length ∧ lg.dir.length ≤ 11
  num : ∀ g ∈ lg.segs, 1 ≤ g.first ∧ g.first ≤ 99999999
  room : ∀ g ∈ lg.segs, g.size ≤ 4194304
/-- The last segment. -/
def Lg.last (lg : Lg) : Sg := lg.segs.getD (lg.segs.length - 1) ⟨0, []⟩
def Lg.next (lg : Lg) : Nat := lg.last.next
theorem LOk.last {lg : Lg} (h : LOk lg) : lg.last ∈ lg.segs ∧ ∃ hk : lg.segs.length - 1 < lg.segs.length, lg.segs[lg.segs.length - 1] = lg.last := by
  have hn := h.ne
  have hk : lg.segs.length - 1 < lg.segs.length := by omega
  have e : lg.last = lg.segs[lg.segs.length - 1] := by unfold Lg.last; rw [List.getD_eq_getElem?_getD, List.getElem?_eq_getElem hk]; rfl
  exact ⟨by rw [e]; exact List.getElem_mem _, hk, e.symm⟩
section
variable {C D S : Nat → Prop} {w w' : World} {v : Value} {us : List Value} {a dp : Nat} {lg : Lg}
theorem fnext_any (w : World) (name : Nm) (first n cap size : Nat) (bo : Option Addr) (h1 : first ≤ 99999999) (h2 : n ≤ 100000000) :
    Calls Tryz.prog 72 #[.agg #[nmv name, .int .i64 (first : Int), .slice bo n cap, .int .i64 (size : Int)]] w fun e w' => e = .returned (.int .i64 ((first + n : Nat) : Int)) ∧ Below w.heap.size w w' := by
  have hw : IntKind.i64.wrap ((first : Int) + (n : Int)) = ((first + n : Nat) : Int) := by rw [wrap_in (by omega)]; omega
  go_enter Tryz.func72, Tryz.ntmps72
  go_wp2
  go_ret
  exact ⟨rfl, below1 w _⟩
set_option maxRecDepth 100000 in
set_option maxHeartbeats 1000000 in
theorem last_any {g cap : Nat} (h : LAt C w a dp lg (.slice (some ⟨g, 0, none⟩) lg.segs.length cap) us) (hk : LOk lg) :
    Calls Tryz.prog 69 #[ptr a] w fun e w' => e = .returned (.pointer (some ⟨g, (lg.segs.length - 1) * 4, none⟩)) ∧ ∃ q, w' = w.drewN q := by
  have c3 := h.c3
  have hn := hk.ne
  have hf := hk.few
  obtain ⟨n, hn1⟩ : ∃ n, lg.segs.length = n + 1 := ⟨lg.segs.length - 1, by omega⟩
  rw [hn1] at c3 hf ⊢
  have hw : IntKind.i64.wrap (((n + 1 : Nat) : Int) - 1) = (n : Int) := by rw [wrap_in (by omega)]; omega
  clear h hk hn hn1
  go_enter Tryz.func69, Tryz.ntmps69
  go_wp2
  go_quiet (fail)
  go_wp2
  go_ret
  exact ⟨rfl, nq, rfl⟩
theorem first_any (h : LAt C w a dp lg v us) (hk : LOk lg) : Calls Tryz.prog 31 #[ptr a] w fun e w' => e = .returned (.int .i64 ((lg.segs.getD 0 ⟨0, []⟩).first : Int)) ∧ w = w' := by
  have hn := hk.ne
  have hf := hk.few
  obtain ⟨g, cap, bo, bc, rfl, _, hcap, _, _, g1, hrest⟩ := h.seg hn
  clear hrest
  have c3 := h.c3
  have e : (lg.segs.getD 0 ⟨0, []⟩).first = lg.segs[0].first := by rw [List.getD_eq_getElem?_getD, List.getElem?_eq_getElem hn]; rfl
  rw [e]
  generalize lg.segs[0].first = f at *
  clear h hk e
  go_enter Tryz.func31, Tryz.ntmps31
  go_wp2
  go_ret
  exact ⟨rfl, rfl⟩
theorem safe_any (h : LAt C w a dp lg v us) : Calls Tryz.prog 30 #[ptr a] w fun e w' => e = .returned (.int .i64 (lg.safe : Int)) ∧ w = w' := by
  have c4 := h.c4
  clear h
  go_enter Tryz.func30, Tryz.ntmps30
  go_wp2
  go_ret
  exact ⟨rfl, rfl⟩
set_option maxRecDepth 100000 in
theorem next_any (h : LAt C w a dp lg v us) (hk : LOk lg) : Calls Tryz.prog 29 #[ptr a] w fun e w' => e = .returned (.int .i64 (lg.next : Int)) ∧ Below w.heap.size w w' := by
  obtain ⟨hm, hkl, hlast⟩ := hk.last
  obtain ⟨g, cap, bo, bc, rfl, _, _, _, _⟩ := h.seg hkl
  have hnum := (hk.num _ hm).2
  have hrs := recs_size lg.last
  have hroom := hk.room _ hm
  have H := Lib.hid h
  have HK := Lib.hid hk
  have HL := Lib.hid hlast
  clear h hk
  have HX : Hid (lg.next = lg.last.first + lg.last.recs.length) := rfl
  go_enter Tryz.func29, Tryz.ntmps29
  go_wp2_with (first
    | (go_at_call 69; (refine (last_any H.out HK.out).mono ?_); rintro e w1 ⟨rfl, q, hq⟩; have HB1 := Lib.hid (below_of_drew hq); obtain ⟨g', cap', bo, bc, hv, _, _, _, g0, g1, g2, g3, _⟩ := (H.out.below HB1.out).seg hkl; injection hv with e1 e2 e3; injection e1 with e1; injection e1 with e1; subst e1; rw [HL.out] at g0 g1 g2 g3; clear hq)
    | (go_at_call 72; (refine (fnext_any w1 _ lg.last.first lg.last.recs.length bc lg.last.size bo hnum (by omega)).mono ?_); rintro e w2 ⟨rfl, hb⟩; have HB2 := Lib.hid (HB1.out.trans (hb.mono HB1.out.size)); clear hb))
  go_ret
  rw [HX.out]
  exact ⟨rfl, HB2.out⟩
end
end Go.Proofs.YtkilkhnoldfhcaaGreatDoor
namespace Go.Proofs.YtkilkhnoldfhcaaGreatDoor
open Go.RowKit
/-- A log and its disk, in blocks from B on. -/
structure WL (B : Nat) (w : World) (a : Nat) (C : Nat → Prop) (lg : Lg) (dp : Nat) (S : Nat → Prop) (d : Dk) : Prop where
  lk : ∃ v us, LAt C w a dp lg v us
  dk : DK S w dp d
  cb : ∀ k, C k → B ≤ k
  sb : ∀ k, S k → B ≤ k
  cs : ∀ k, C k → ¬ S k
section
variable {B : Nat} {w w' w1 : World} {a dp : Nat} {C S : Nat → Prop} {lg lg' : Lg} {d d' : Dk}
theorem WL.below (h : WL B w a C lg dp S d) (hb : Below w.heap.size w w') : WL B w' a C lg dp S d :=
  ⟨let ⟨v, us, hl⟩ := h.lk; ⟨v, us, hl.below hb⟩, h.dk.below hb, h.cb, h.sb, h.cs⟩
theorem WL.clt (h : WL B w a C lg dp S d) : ∀ k, C k → k < w.heap.size := let ⟨_, _, hl⟩ := h.lk; hl.lt
/-- The disk has turned. -/
theorem WL.disk {w w' : World} (h : WL B w a C lg dp S d) (hB : B ≤ w.heap.size) (hd : DK (Gw S w w') w' dp d') (ht : Tn S w w') : WL B w' a C lg dp (Gw S w w') d' := by
  refine ⟨let ⟨v, us, hl⟩ := h.lk; ⟨v, us, hl.tn ht h.cs⟩, hd, h.cb, fun k hk => Gw.lo h.sb hB hk, fun k hk e => ?_⟩
  rcases e with e | e
  · exact h.cs k hk e
  · have := h.clt k hk; omega
/-- The log has turned. -/
theorem WL.log (h : WL B w a C lg dp S d) (hB : B ≤ w.heap.size) (hl : ∃ v us, LAt (Gw C w w') w' a dp lg' v us) (ht : Tn C w w') : WL B w' a (Gw C w w') lg' dp S d := by
  refine ⟨hl, h.dk.tn ht (fun k hk e => h.cs k e hk), fun k hk => Gw.lo h.cb hB hk, h.sb, fun k hk e => ?_⟩
  rcases hk with hk | hk
  · exact h.cs k hk e
  · have := h.dk.lt k e; omega
theorem LAt.grow {D : Nat → Prop} {v : Value} {us : List Value} (h : LAt C w a dp lg v us) (hu : ∀ k, C k → D k) (hl : ∀ k, D k → k < w.heap.size) : LAt D w a dp lg v us :=
  ⟨h.box, ⟨h.go.own, h.go.len, fun i h1 h2 => let ⟨xs, hx⟩ := h.go.recs i h1 h2; ⟨xs, hx.mono fun k _ hk => hu k hk⟩, fun k hk => hu k (h.go.row k hk), h.go.dis⟩, hu a h.ca, hl⟩
theorem ne_of_type {k : Nat} {cur : Array Value} {e : TypeId} {cs : Array Value} (hb : w.heap[a]? = some (.cells cs 104 (0, 0))) (hk : w.heap[k]? = some (.cells cur e (0, 0))) (he : e ≠ 104) : ¬ k = a := by
  intro e2
  subst e2
  rw [hb] at hk
  simp at hk
  exact he hk.2.symm
/-- The log's own cells are turned. -/
theorem LAt.ctl {v : Value} {us : List Value} {safe : Nat} (h : LAt C w a dp lg v us) (ht : Tn (· = a) w w') (hb : w'.heap[a]? = some (.cells #[ptr dp, nmv lg.dir, .int .i64 (lg.full : Int), v, .int .i64 (safe : Int)] 104 (0, 0))) : LAt C w' a dp { lg with safe := safe } v us := by
  have hx : ∀ {B e size n : Nat} {u : Value} {xs : List Value}, w.ownsRow B e size u n xs → e ≠ 104 → ∀ k, u.ownBlock = some k → ¬ k = a := fun ho he k hk => let ⟨cur, hc⟩ := own_at ho hk; ne_of_type h.box hc he
  refine ⟨hb, ⟨own_tn h.go.own ht (hx h.go.own (by decide)), h.go.len, fun i h1 h2 => ?_, h.go.row, h.go.dis⟩, h.ca, fun k hk => Nat.lt_of_lt_of_le (h.lt k hk) ht.size⟩
  obtain ⟨xs, hr⟩ := h.go.recs i h1 h2
  exact ⟨xs, own_tn hr.own ht (hx hr.own (by decide)), hr.len, fun j h3 h4 => own_tn (hr.at_ j h3 h4) ht (hx (hr.at_ j h3 h4) (by decide)), hr.row, hr.rows⟩
/-- Nothing has turned but blocks of U and new ones; what may turn from then on, V, lies there. -/
structure Went (U : Nat → Prop) (w w' : World) (V : Nat → Prop) : Prop where
  tn : Tn U w w'
  sub : ∀ k, V k → U k ∨ w.heap.size ≤ k
theorem Went.trans {U V X : Nat → Prop} {w w1 w2 : World} (h : Went U w w1 V) (h2 : Went V w1 w2 X) : Went U w w2 X :=
  ⟨h.tn.trans h2.tn (fun k hk hv => (h.sub k hv).elim id (fun e => by omega)), fun k hk => (h2.sub k hk).elim (h.sub k) (fun e => .inr (Nat.le_trans h.tn.size e))⟩
theorem went_below {U : Nat → Prop} {w w' : World} (hb : Below w.heap.size w w') : Went U w w' U := ⟨Tn.of_below hb, fun _ hk => .inl hk⟩
theorem went_disk {w w' : World} (ht : Tn S w w') : Went (fun k => C k ∨ S k) w w' (fun k => C k ∨ Gw S w w' k) :=
  ⟨ht.mono fun _ _ hk => .inr hk, fun k hk => by
    rcases hk with hk | hk | hk
    · exact .inl (.inl hk)
    · exact .inl (.inr hk)
    · exact .inr hk.1⟩
theorem went_log {w w' : World} (ht : Tn C w w') : Went (fun k => C k ∨ S k) w w' (fun k => Gw C w w' k ∨ S k) :=
  ⟨ht.mono fun _ _ hk => .inl hk, fun k hk => by
    rcases hk with (hk | hk) | hk
    · exact .inl (.inl hk)
    · exact .inr hk.1
    · exact .inl (.inr hk)⟩
/-- Log and disk stand so, and what has turned. -/
def Stood (C S : Nat → Prop) (B : Nat) (w : World) (a dp : Nat) (lg : Lg) (d : Dk) (w' : World) : Prop :=
  ∃ C' S', WL B w' a C' lg dp S' d ∧ Went (fun k => C k ∨ S k) w w' (fun k => C' k ∨ S' k)
/-- What an operation of a log answers, and that log and disk stand so. -/
def Logged (C S : Nat → Prop) (B : Nat) (w : World) (a dp : Nat) (r : Lg × Dk × Nat) (e : Ending) (w' : World) : Prop :=
  e = .returned (.int .i64 (r.2.2 : Int)) ∧ Stood C S B w a dp r.1 r.2.1 w'
theorem WL.went {U : Nat → Prop} {w w' : World} (h : WL B w a C lg dp S d) (hB : B ≤ w.heap.size) (ht : Went (fun k => C k ∨ S k) w w' U) : Below B w w' := ht.tn.below hB (fun k hk => hk.elim (h.cb k) (h.sb k))
def Lg.sync (lg : Lg) (d : Dk) : Lg × Dk × Nat :=
  if (d.sync (segN lg.dir lg.last.first)).2 = 0 then ({ lg with safe := lg.next - 1 }, (d.sync (segN lg.dir lg.last.first)).1, 0) else (lg, (d.sync (segN lg.dir lg.last.first)).1, (d.sync (segN lg.dir lg.last.first)).2)
theorem LOk.name (h : LOk lg) : (segN lg.dir lg.last.first).length ≤ 20 := by
  have h1 := h.num _ h.last.1
  rw [segN_length h1.2]
  have := h.dir
  omega
theorem LOk.next (h : LOk lg) : 1 ≤ lg.next ∧ lg.next ≤ 200000000 := by
  have h1 := h.num _ h.last.1
  have h2 := recs_size lg.last
  have h3 := h.room _ h.last.1
  unfold Lg.next Sg.next
  omega
set_option maxRecDepth 100000 in
set_option maxHeartbeats 4000000 in
theorem lsync_any (h : WL B w a C lg dp S d) (hB : B ≤ w.heap.size) (hk : LOk lg) (hd : d.done < 9223372036854775807) : Calls Tryz.prog 27 #[ptr a] w (Logged C S B w a dp (lg.sync d)) := by
  obtain ⟨hm, hkl, hlast⟩ := hk.last
  obtain ⟨v, us, hl⟩ := h.lk
  obtain ⟨g, cap, bo, bc, rfl, hCg, _, _, c1, _⟩ := hl.seg hkl
  rw [hlast] at c1
  have c0 := hl.c0
  have HNL : Hid ((segN lg.dir lg.last.first).length ≤ maxLen) := Nat.le_trans hk.name (by decide)
  have HBW0 := Lib.hid hB
  have HNX := Lib.hid hk.next
  have HW := Lib.hid (h.below (Below.refl _ w).drew)
  have HW0 := Lib.hid h
  have HL := Lib.hid (hl.below (Below.refl _ w).drew)
  have HBW : Hid (B ≤ w.drew.heap.size) := hB
  have HK := Lib.hid hk
  have HDN := Lib.hid hd
  have HCA := Lib.hid hl.ca
  have HCG := Lib.hid hCg
  have HAS : Hid (a < w.drew.heap.size) := hl.lt a hl.ca
  have HGS : Hid (g < w.drew.heap.size) := hl.lt g hCg
  have c0 : w.drew.cell? ⟨a, 0, none⟩ = some (ptr dp) := c0
  have c1 : w.drew.cell? ⟨g, (lg.segs.length - 1) * 4, none⟩ = some (nmv (segN lg.dir lg.last.first)) := c1
  have HSY : Hid (lg.sync d = if (d.sync (segN lg.dir lg.last.first)).2 = 0 then ({ lg with safe := lg.next - 1 }, (d.sync (segN lg.dir lg.last.first)).1, 0) else (lg, (d.sync (segN lg.dir lg.last.first)).1, (d.sync (segN lg.dir lg.last.first)).2)) := rfl
  clear h hB hk hd hl hm hlast hCg
  generalize hr : d.sync (segN lg.dir lg.last.first) = r at *
  go_enter Tryz.func27, Tryz.ntmps27
  go_upto_region 1 with (fail)
  go_region_held (fun w' => w'.cell? ⟨a, 0, none⟩ = some (ptr dp) ∧ w'.cell? ⟨g, (lg.segs.length - 1) * 4, none⟩ = some (nmv (segN lg.dir lg.last.first))) (first | exact ⟨c0, c1⟩ | exact ⟨p0, p1⟩ | exact ⟨s0, s1⟩) (first
    | (go_at_call 69; (refine (last_any HL.out HK.out).mono ?_); rintro e w1 ⟨rfl, q, hq⟩; have HB1 := Lib.hid (below_of_drew hq); have p0 := (HB1.out.cell (p := ⟨a, 0, none⟩) HAS.out).trans c0; have p1 := (HB1.out.cell (p := ⟨g, (lg.segs.length - 1) * 4, none⟩) HGS.out).trans c1; clear hq)
    | (go_at_call 71; (refine (dk_sync (HW.out.below HB1.out).dk HNL.out HDN.out).mono ?_); rintro e w2 ⟨rfl, hd, ht⟩; rw [hr] at hd ⊢; have HW2 := Lib.hid ((HW.out.below HB1.out).disk (Nat.le_trans HBW.out HB1.out.size) hd ht); have s0 := ht.cell p0 (HW.out.cs _ HCA.out); have s1 := ht.cell p1 (HW.out.cs _ HCG.out); have HT2 := Lib.hid ht; clear hd ht))
  by_cases h0 : r.2 = 0
  · have hb : (((r.2 : Nat) : Int) != 0) = false := by rw [h0]; rfl
    have HR0 := Lib.hid h0
    obtain ⟨v2, us2, hl2⟩ := HW2.out.lk
    have HL2 := Lib.hid hl2
    have hnx := HNX.out
    have hw : IntKind.i64.wrap ((lg.next : Int) - 1) = ((lg.next - 1 : Nat) : Int) := by rw [wrap_in (by omega)]; omega
    clear h0 hl2 c0 c1 p0 p1 s0 s1
    go_wp2_with (go_at_call 29; (refine (next_any HL2.out HK.out).mono ?_); rintro e w3 ⟨rfl, hb3⟩; have HB3 := Lib.hid hb3; have fz := (HL2.out.below hb3).fz 4; have c4 := (HL2.out.below hb3).c4; clear hb3)
    go_ret
    rw [HSY.out, if_pos HR0.out]
    have hl3 := HL2.out.below HB3.out
    have ht : Tn (· = a) w3 (w3.setCell ⟨a, 4, none⟩ (.int .i64 ((lg.next - 1 : Nat) : Int))) := tn_set (Tn.refl _ _) _
    have hl4 := hl3.ctl (safe := lg.next - 1) ht (heap_set hl3.box _ rfl)
    have hW3 := HW2.out.below HB3.out
    have htC : Tn C w3 (w3.setCell ⟨a, 4, none⟩ (.int .i64 ((lg.next - 1 : Nat) : Int))) := ht.mono fun _ _ e => e ▸ HCA.out
    have hB3 : B ≤ w3.heap.size := Nat.le_trans HBW.out (Nat.le_trans HB1.out.size (Nat.le_trans HT2.out.size HB3.out.size))
    have hW4 := hW3.log hB3 ⟨_, _, hl4.grow (fun k hk => .inl hk) (fun k hk => Gw.size htC.size hW3.clt hk)⟩ htC
    exact ⟨rfl, _, _, hW4, ((((went_below (Below.refl _ w).drew).trans (went_below HB1.out)).trans (went_disk HT2.out)).trans (went_below HB3.out)).trans (went_log htC)⟩
  · have hb : (((r.2 : Nat) : Int) != 0) = true := by simpa using h0
    have HR0 := Lib.hid h0
    clear h0
    go_wp2
    go_ret
    rw [HSY.out, if_neg HR0.out]
    exact ⟨rfl, _, _, HW2.out, ((went_below (Below.refl _ w).drew).trans (went_below HB1.out)).trans (went_disk HT2.out)⟩
end
end Go.Proofs.YtkilkhnoldfhcaaGreatDoor
namespace Go.Proofs.YtkilkhnoldfhcaaGreatDoor
open Go.RowKit
theorem dk_create {S : Nat → Prop} {w : World} {a : Nat} {d : Dk} (h : DK S w a d) {s : Nm} (hs : s.length ≤ 281474976710656) (hd : d.done < 9223372036854775807) : Calls Tryz.prog 44 #[ptr a, nmv s] w (Wrote S w a (d.create s)) := let ⟨_, _, _, h⟩ := h; create_any h hs hd
theorem dk_append {S C : Nat → Prop} {w : World} {a : Nat} {d : Dk} {ao : Option Addr} {n cap : Nat} {b : List UInt8} (h : DK S w a d) {s : Nm} (hs : s.length ≤ maxLen) (hd : d.done < 9223372036854775807) (hb : SB C w ao n cap b) (hn : n ≤ 70000000000000) : Calls Tryz.prog 70 #[ptr a, nmv s, .slice ao n cap] w (Wrote S w a (d.append s b)) := let ⟨_, _, _, h⟩ := h; append_any h hs hd hb hn
theorem dk_remove {S : Nat → Prop} {w : World} {a : Nat} {d : Dk} (h : DK S w a d) {s : Nm} (hs : s.length ≤ maxLen) (hd : d.done < 9223372036854775807) : Calls Tryz.prog 73 #[ptr a, nmv s] w (Wrote S w a (d.remove s)) := let ⟨_, _, _, h⟩ := h; remove_any h hs hd
theorem cell_box {w : World} {a : Nat} {v0 v1 v2 v3 v4 : Value} (h : w.heap[a]? = some (.cells #[v0, v1, v2, v3, v4] 104 (0, 0))) : w.cell? ⟨a, 3, none⟩ = some v3 := by simp [World.cell?, h]
theorem cellG_one (dir : Nm) (g : Sg) {u : Value} (h : u.oneCell' = true) : ∀ y ∈ cellG dir g u, y.oneCell' = true := by
  intro y hy
  unfold cellG at hy
  simp at hy
  rcases hy with rfl | rfl | rfl | rfl
  · rfl
  · rfl
  · exact h
  · rfl
/-- append of one segment onto a row of them. -/
theorem wpList_append_seg {ops : Array Oper} {rest : List Oper} {o : Oper} {a : Act} {w : World} {Q : Exit → Act → World → Prop} (hw : Region.wanted o (yielded ops a.tmps) = true) (s x : Operand)
    (ho : o.op = .call { callee := .builtin .append, args := #[s, x], argTypes := #[102, 102] })
    {v : Value} {n : Nat} {xs : List Value} {dir : Nm} {g : Sg} {u : Value} {b : Nat} (hs : a.eval s = v) (hown : w.ownsRow 0 110 4 v n xs) (hx : a.eval x = .slice (some ⟨b, 0, none⟩) 1 1) (hm : w.heap[b]? = some (.cells (cellG dir g u).toArray 110 (0, 0)))
    (h1 : u.oneCell' = true) (hroom : n ≤ 1000000)
    (h : ∀ v' w', w'.ownsRow 0 110 4 v' (n + 1) (xs ++ cellG dir g u) → w.grownBy w' v.ownBlock → (v'.ownBlock = v.ownBlock ∨ v'.ownBlock = some w.heap.size) → wpList Tryz.prog ops Q rest (a.put o.dst v') w') : wpList Tryz.prog ops Q (o :: rest) a w := by
  obtain ⟨i0, hi, hz0, hz1, hz2⟩ := info_parts info110
  obtain ⟨v', w', hr, h2, h3, _, h5⟩ := run_append_own_at (P := Tryz.prog) w 0 102 o.type 110 i0 (.agg #[.string ⟨#[]⟩, .int .i64 0, .slice none 0 0, .int .i64 0]) 4 56 under102 hi hz0 hz1 hz2 rfl (by decide) v n xs hown ⟨b, 0, none⟩ 1 1 (cellG dir g u) rfl (fun j y hy => by
    rw [Addr.add_lit, Nat.zero_add]
    simp only [World.cell?, hm]
    simpa using hy) (cellG_one dir g h1) (by unfold maxLen; omega) (by omega) (Nat.zero_le _)
  refine wpList_step fun K hK => ?_
  rw [if_pos hw]
  unfold Oper.wp execOp
  simp only [ho, resolve, invoke, builtin, Sem.run_bind, Sem.run_pure, Result.andThen_ok, List.map_toArray, List.map_cons, List.map_nil, hs, hx, hr]
  exact hK _ _ (h v' w' h2 h3 h5)
section
variable {B : Nat} {w w' w1 : World} {a dp : Nat} {C S : Nat → Prop} {lg lg' : Lg} {d d' : Dk} {v v3 u : Value} {us : List Value} {dir : Nm} {gs : List Sg} {g : Sg}
theorem RO.kept {L : List (List UInt8)} {xs : List Value} {ws : List Value} {n size : Nat} (h : RO C w u xs L) (hv : w.ownsRow 0 110 size v n ws) (hg : w.grownBy w' v.ownBlock) : RO C w' u xs L := by
  have hk : ∀ {e s m : Nat} {t : Value} {ys : List Value}, w.ownsRow 0 e s t m ys → e ≠ 110 → w'.ownsRow 0 e s t m ys := fun {e s m t ys} ht he => ht.kept hg (by
    cases e2 : t.ownBlock with
    | none => exact .inl rfl
    | some j => exact .inr (fun e3 => own_apart ht hv he j e2 e3.symm))
  exact ⟨hk h.own (by decide), h.len, fun i h1 h2 => hk (h.at_ i h1 h2) (by decide), h.row, h.rows⟩
/-- One segment more. -/
theorem GO.snoc (h : GO C w v dir gs us) (hg : w.grownBy w' v.ownBlock) (ho : w'.ownsRow 0 110 4 v3 (gs.length + 1) (cellsG dir gs us ++ cellG dir g u)) (hl : v3.ownBlock = v.ownBlock ∨ v3.ownBlock = some w.heap.size)
    (hr : ∃ xs, RO C w u xs g.recs) (hu : ∀ i (h1 : i < us.length) k, us[i].ownBlock = some k → u.ownBlock ≠ some k) (hC : C w.heap.size) : GO C w' v3 dir (gs ++ [g]) (us ++ [u]) := by
  have hll := h.len
  refine ⟨by rw [List.length_append, cellsG_append dir g u hll]; exact ho, by rw [List.length_append, List.length_append, hll]; rfl, fun i h1 h2 => ?_, fun k hk => ?_, fun i j h1 h2 hij k hk => ?_⟩
  · by_cases hi : i < us.length
    · have h3 : (us ++ [u])[i] = us[i] := List.getElem_append_left _
      have h4 : (gs ++ [g])[i] = gs[i]'(by rw [← hll]; exact hi) := List.getElem_append_left _
      obtain ⟨xs, hx⟩ := h.recs i hi (by rw [← hll]; exact hi)
      rw [h3, h4]
      exact ⟨xs, hx.kept h.own hg⟩
    · have he : i = us.length := by simp at h1; omega
      subst he
      have h3 : (us ++ [u])[us.length] = u := by simp
      have h4 : (gs ++ [g])[us.length] = g := by simp [hll]
      obtain ⟨xs, hx⟩ := hr
      rw [h3, h4]
      exact ⟨xs, hx.kept h.own hg⟩
  · rcases hl with e | e
    · exact h.row k (e ▸ hk)
    · rw [e] at hk; cases hk; exact hC
  · by_cases hi : i < us.length
    · have h3 : (us ++ [u])[i] = us[i] := List.getElem_append_left _
      rw [h3] at hk
      by_cases hj : j < us.length
      · have h4 : (us ++ [u])[j] = us[j] := List.getElem_append_left _
        rw [h4]
        exact h.dis i j hi hj hij k hk
      · have he : j = us.length := by simp at h2; omega
        subst he
        have h4 : (us ++ [u])[us.length] = u := by simp
        rw [h4]
        exact hu i hi k hk
    · have he : i = us.length := by simp at h1; omega
      subst he
      have h3 : (us ++ [u])[us.length] = u := by simp
      rw [h3] at hk
      have hj : j < us.length := by simp at h2; omega
      have h4 : (us ++ [u])[j] = us[j] := List.getElem_append_left _
      rw [h4]
      exact fun e => hu j hj k e hk
theorem GO.mono {D : Nat → Prop} (h : GO C w v dir gs us) (hd : ∀ k, C k → D k) : GO D w v dir gs us :=
  ⟨h.own, h.len, fun i h1 h2 => let ⟨xs, hx⟩ := h.recs i h1 h2; ⟨xs, hx.mono fun k _ hk => hd k hk⟩, fun k hk => hd k (h.row k hk), h.dis⟩
theorem GO.mono2 {D : Nat → Prop} (h : GO C w v dir gs us) (hd : ∀ k, k < w.heap.size → C k → D k) : GO D w v dir gs us :=
  ⟨h.own, h.len, fun i h1 h2 => let ⟨xs, hx⟩ := h.recs i h1 h2; ⟨xs, hx.mono hd⟩, fun k hk => hd k (h.own.lt k hk).2 (h.row k hk), h.dis⟩
/-- The log's row of segments is laid anew. -/
theorem lat_rows {D : Nat → Prop} (h : w.heap[a]? = some (.cells #[ptr dp, nmv lg.dir, .int .i64 (lg.full : Int), v, .int .i64 (lg.safe : Int)] 104 (0, 0))) {gs' : List Sg} {us' : List Value} (hgo : GO D w v3 lg.dir gs' us') (hC : D a) (hD : ∀ k, D k → k < w.heap.size) : LAt D (w.setCell ⟨a, 3, none⟩ v3) a dp { lg with segs := gs' } v3 us' := by
  have ht : Tn (· = a) w (w.setCell ⟨a, 3, none⟩ v3) := tn_set (Tn.refl _ _) _
  have hx : ∀ {B e size n : Nat} {u : Value} {xs : List Value}, w.ownsRow B e size u n xs → e ≠ 104 → ∀ k, u.ownBlock = some k → ¬ k = a := fun ho he k hk => let ⟨cur, hc⟩ := own_at ho hk; ne_of_type h hc he
  refine ⟨heap_set h _ rfl, ⟨own_tn hgo.own ht (hx hgo.own (by decide)), hgo.len, fun i h1 h2 => ?_, hgo.row, hgo.dis⟩, hC, fun k hk => by simpa using hD k hk⟩
  obtain ⟨xs, hr⟩ := hgo.recs i h1 h2
  exact ⟨xs, own_tn hr.own ht (hx hr.own (by decide)), hr.len, fun j h3 h4 => own_tn (hr.at_ j h3 h4) ht (hx (hr.at_ j h3 h4) (by decide)), hr.row, hr.rows⟩
def Lg.begin (lg : Lg) (d : Dk) (n : Nat) : Lg × Dk × Nat :=
  if (d.create (segN lg.dir n)).2 = 0 then ({ lg with segs := lg.segs ++ [⟨n, []⟩] }, (d.create (segN lg.dir n)).1, 0) else (lg, (d.create (segN lg.dir n)).1, (d.create (segN lg.dir n)).2)
set_option maxRecDepth 100000 in
set_option maxHeartbeats 4000000 in
theorem begin_any (h : WL B w a C lg dp S d) (hB : B ≤ w.heap.size) (hT : Tabs w) (hdir : 1 ≤ lg.dir.length ∧ lg.dir.length ≤ 11) (hfew : lg.segs.length ≤ 1000000) (n : Nat) (hn : 1 ≤ n ∧ n ≤ 99999999) (hd : d.done < 9223372036854775807) :
    Calls Tryz.prog 104 #[ptr a, .int .i64 (n : Int)] w (Logged C S B w a dp (lg.begin d n)) := by
  obtain ⟨v, us, hl⟩ := h.lk
  have c1 := hl.c1
  have HD := Lib.hid (show lg.dir.length ≤ maxLen from Nat.le_trans hdir.2 (by decide))
  have HNV : Hid (nameV lg.dir (n : Int) = (segN lg.dir n, 0)) := by
    have e0 : ¬ (lg.dir = [] ∨ 11 < lg.dir.length) := by
      rintro (e | e)
      · rw [e] at hdir; simp at hdir
      · omega
    show _ = _
    unfold nameV
    rw [if_neg e0, if_neg (by omega), Int.toNat_natCast]
  have HNL : Hid ((segN lg.dir n).length ≤ 281474976710656) := by
    have e0 := segN_length (dir := lg.dir) hn.2
    show _ ≤ _
    omega
  have HBG : Hid (lg.begin d n = if (d.create (segN lg.dir n)).2 = 0 then ({ lg with segs := lg.segs ++ [⟨n, []⟩] }, (d.create (segN lg.dir n)).1, 0) else (lg, (d.create (segN lg.dir n)).1, (d.create (segN lg.dir n)).2)) := rfl
  have HW := Lib.hid h
  have HT := Lib.hid hT
  have HBW := Lib.hid hB
  have HLA := Lib.hid hl
  have HDN := Lib.hid hd
  have hn2 := hn.2
  clear h hB hT hl hd hdir
  generalize hr : d.create (segN lg.dir n) = r at *
  go_enter Tryz.func104, Tryz.ntmps104
  go_upto_region 5 with (first
    | (go_at_call 21; (refine (name_any w HT.out lg.dir HD.out (n : Int) (by omega) (by omega)).mono ?_); rw [HNV.out]; rintro e w1 ⟨rfl, hb⟩; have HB1 := Lib.hid hb; have c0 := (HLA.out.below hb).c0; clear hb)
    | (go_at_call 44; (refine (dk_create (HW.out.below HB1.out).dk HNL.out HDN.out).mono ?_); rintro e w2 ⟨rfl, hd, ht⟩; rw [hr] at hd ⊢; have HW2 := Lib.hid ((HW.out.below HB1.out).disk (Nat.le_trans HBW.out HB1.out.size) hd ht); have HL2 := Lib.hid ((HLA.out.below HB1.out).tn ht HW.out.cs); have HT2 := Lib.hid ht; clear hd ht))
  have HWE : Hid (Went (fun k => C k ∨ S k) w w2 (fun k => C k ∨ Gw S w1 w2 k)) := (went_below HB1.out).trans (went_disk HT2.out)
  clear c1
  by_cases h0 : r.2 = 0
  · have hb : (((r.2 : Nat) : Int) != 0) = false := by rw [h0]; rfl
    have HR0 := Lib.hid h0
    have c3 := HL2.out.c3
    clear c0 h0
    obtain ⟨vo, vc, rfl⟩ := own_slice HL2.out.go.own
    have HAZ : Hid (a < (w2.alloc (.cells (cellG lg.dir ⟨n, []⟩ (.slice none 0 0)).toArray 110)).heap.size) := Nat.lt_of_lt_of_le (HL2.out.lt a HL2.out.ca) (below1 w2 _).size
    have HNV2 : Hid (¬ some a = (Value.slice vo lg.segs.length vc).ownBlock) := fun e => by
      obtain ⟨cur, hc⟩ := own_at HL2.out.go.own e.symm
      exact ne_of_type HL2.out.box hc (by decide) rfl
    go_wp2_with (at_builtin; refine wpList_append_seg (wanted_none rfl _) (.tmp 33) (.tmp 37) rfl (dir := lg.dir) (g := ⟨n, []⟩) (u := .slice none 0 0) rfl (HL2.out.below (below1 w2 _)).go.own rfl (heap_alloc_new w2 _) rfl hfew ?_; intro v3 w3 ho3 hg3 hl3; have hg4 : (w2.alloc (.cells (cellG lg.dir ⟨n, []⟩ (.slice none 0 0)).toArray 110)).grownBy w3 (Value.slice vo lg.segs.length vc).ownBlock := hg3; have hl4 : v3.ownBlock = (Value.slice vo lg.segs.length vc).ownBlock ∨ v3.ownBlock = some (w2.alloc (.cells (cellG lg.dir ⟨n, []⟩ (.slice none 0 0)).toArray 110)).heap.size := hl3; have hbx := (hg4.block a (HAZ.out) HNV2.out).trans (HL2.out.below (below1 w2 (.cells (cellG lg.dir ⟨n, []⟩ (.slice none 0 0)).toArray 110))).box; have fz := frozen_zero (o := 3) hbx; have cc3 : w3.cell? ⟨a, 3, none⟩ = some (.slice vo lg.segs.length vc) := cell_box hbx; have HBX := Lib.hid hbx; have HGO := Lib.hid (((HL2.out.below (below1 w2 (.cells (cellG lg.dir ⟨n, []⟩ (.slice none 0 0)).toArray 110))).go.mono (D := fun k => C k ∨ w2.heap.size ≤ k) (fun k hk => .inl hk)).snoc (g := ⟨n, []⟩) (u := .slice none 0 0) hg4 ho3 hl4 ⟨[], RO.nil _ _⟩ (fun _ _ _ _ e => (nomatch e)) (.inr (below1 w2 (.cells (cellG lg.dir ⟨n, []⟩ (.slice none 0 0)).toArray 110)).size)); have HG4 := Lib.hid hg4; obtain ⟨o3, k3, rfl⟩ := own_slice ho3; clear hg4 hl4 hbx; clear ho3 hg3 hl3)
    go_ret
    rw [HBG.out, if_pos HR0.out]
    have hl5 := lat_rows (D := Gw C w2 w3) (lg := lg) HBX.out (HGO.out.mono2 (fun k h1 h2 => by
      rcases h2 with h2 | h2
      · exact .inl h2
      · exact .inr ⟨h2, h1⟩)) (.inl HL2.out.ca) (fun k hk => Gw.size (Nat.le_trans (below1 w2 _).size HG4.out.size) HL2.out.lt hk)
    have ht3 : Tn C w2 w3 := (Tn.of_below (S := C) (below1 w2 _)).grown HG4.out (fun k hk _ => HL2.out.go.row k hk)
    have hzz : ∀ u, (w3.setCell ⟨a, 3, none⟩ u).heap.size = w3.heap.size := fun u => by simp
    have ht4 : ∀ u, Tn C w2 (w3.setCell ⟨a, 3, none⟩ u) := fun u => ht3.setCell (fun _ => HL2.out.ca) u
    have hB2 : B ≤ w2.heap.size := Nat.le_trans HBW.out (Nat.le_trans HB1.out.size HT2.out.size)
    have hW5 := HW2.out.log hB2 ⟨_, _, hl5.grow (D := Gw C w2 (w3.setCell ⟨a, 3, none⟩ (.slice o3 (lg.segs.length + 1) k3))) (fun k hk => hk.elim .inl (fun e => .inr ⟨e.1, by rw [hzz]; exact e.2⟩)) (fun k hk => Gw.size (ht4 _).size HL2.out.lt hk)⟩ (ht4 _)
    exact ⟨rfl, _, _, hW5, HWE.out.trans (went_log (ht4 _))⟩
  · have hb : (((r.2 : Nat) : Int) != 0) = true := by simpa using h0
    have HR0 := Lib.hid h0
    clear h0
    go_wp2
    go_ret
    rw [HBG.out, if_neg HR0.out]
    exact ⟨rfl, _, _, HW2.out, HWE.out⟩
end
end Go.Proofs.YtkilkhnoldfhcaaGreatDoor
namespace Go.Proofs.YtkilkhnoldfhcaaGreatDoor
open Go.RowKit
def Lg.room (lg : Lg) (d : Dk) : Lg × Dk × Nat :=
  if lg.last.size < lg.full then (lg, d, 0) else if (lg.sync d).2.2 = 0 then (lg.sync d).1.begin (lg.sync d).2.1 lg.next else lg.sync d
section
variable {B : Nat} {w w' w1 : World} {a dp : Nat} {C S : Nat → Prop} {lg lg' : Lg} {d d' : Dk}
theorem LOk.safe (h : LOk lg) (s : Nat) : LOk { lg with safe := s } := ⟨h.ne, h.few, h.dir, h.num, h.room⟩
theorem sync_lg (lg : Lg) (d : Dk) : (lg.sync d).1 = lg ∨ ∃ s, (lg.sync d).1 = { lg with safe := s } := by
  unfold Lg.sync
  split
  · exact .inr ⟨_, rfl⟩
  · exact .inl rfl
theorem sync_ok' (h : LOk lg) (d : Dk) : LOk (lg.sync d).1 ∧ (lg.sync d).1.next = lg.next ∧ (lg.sync d).1.dir = lg.dir ∧ (lg.sync d).1.segs = lg.segs := by
  rcases sync_lg lg d with e | ⟨s, e⟩
  · rw [e]; exact ⟨h, rfl, rfl, rfl⟩
  · rw [e]; exact ⟨h.safe s, rfl, rfl, rfl⟩
theorem sync_done (lg : Lg) (d : Dk) : (lg.sync d).2.1.done ≤ d.done + 1 := by
  unfold Lg.sync
  split
  · exact done_sync d _
  · exact done_sync d _
set_option maxRecDepth 100000 in
set_option maxHeartbeats 4000000 in
theorem room_any (h : WL B w a C lg dp S d) (hB : B ≤ w.heap.size) (hT : Tabs w) (h6 : 6 ≤ B) (hk : LOk lg) (hn : lg.next ≤ 99999999) (hd : d.done ≤ 1000000000) : Calls Tryz.prog 68 #[ptr a] w (Logged C S B w a dp (lg.room d)) := by
  obtain ⟨hm, hkl, hlast⟩ := hk.last
  obtain ⟨v, us, hl⟩ := h.lk
  obtain ⟨g, cap, bo, bc, rfl, hCg, _, _, _, _, _, c1, hrest⟩ := hl.seg hkl
  clear hrest
  rw [hlast] at c1
  have c0 := hl.c2
  have HNX := Lib.hid hk.next
  have HW := Lib.hid (h.below (Below.refl _ w).drew)
  have HL := Lib.hid (hl.below (Below.refl _ w).drew)
  have HBW : Hid (B ≤ w.drew.heap.size) := hB
  have HT := Lib.hid (hT.below (Below.refl _ w).drew)
  have HK := Lib.hid hk
  have HDN := Lib.hid hd
  have HAS : Hid (a < w.drew.heap.size) := hl.lt a hl.ca
  have HGS : Hid (g < w.drew.heap.size) := hl.lt g hCg
  have c0 : w.drew.cell? ⟨a, 2, none⟩ = some (.int .i64 (lg.full : Int)) := c0
  have c1 : w.drew.cell? ⟨g, (lg.segs.length - 1) * 4 + 3, none⟩ = some (.int .i64 (lg.last.size : Int)) := c1
  have HRM : Hid (lg.room d = if lg.last.size < lg.full then (lg, d, 0) else if (lg.sync d).2.2 = 0 then (lg.sync d).1.begin (lg.sync d).2.1 lg.next else lg.sync d) := rfl
  have HSK := Lib.hid (sync_ok' hk d)
  have HSD := Lib.hid (sync_done lg d)
  clear h hB hT hk hd hl hm hlast hCg
  go_enter Tryz.func68, Tryz.ntmps68
  go_upto_region 1 with (fail)
  go_region_held (fun w' => w'.cell? ⟨a, 2, none⟩ = some (.int .i64 (lg.full : Int)) ∧ w'.cell? ⟨g, (lg.segs.length - 1) * 4 + 3, none⟩ = some (.int .i64 (lg.last.size : Int))) (first | exact ⟨c0, c1⟩ | exact ⟨p0, p1⟩) (first
    | (go_at_call 69; (refine (last_any HL.out HK.out).mono ?_); rintro e w1 ⟨rfl, q, hq⟩; have HB1 := Lib.hid (below_of_drew hq); have p0 := (HB1.out.cell (p := ⟨a, 2, none⟩) HAS.out).trans c0; have p1 := (HB1.out.cell (p := ⟨g, (lg.segs.length - 1) * 4 + 3, none⟩) HGS.out).trans c1; clear hq))
  have HWE : Hid (Went (fun k => C k ∨ S k) w w1 (fun k => C k ∨ S k)) := (went_below (Below.refl _ w).drew).trans (went_below HB1.out)
  have HW1 := Lib.hid (HW.out.below HB1.out)
  have HB0 : Hid (B ≤ w1.heap.size) := Nat.le_trans HBW.out HB1.out.size
  have HT1 := Lib.hid (HT.out.below HB1.out)
  clear c0 c1 p0 p1 HL HW HT
  by_cases hs : lg.last.size < lg.full
  · have hb : (lg.last.size : Int) < (lg.full : Int) := by omega
    go_wp2
    go_ret
    rw [HRM.out, if_pos hs]
    exact ⟨rfl, _, _, HW1.out, HWE.out⟩
  · have hb : ¬ (lg.last.size : Int) < (lg.full : Int) := by omega
    have HS := Lib.hid hs
    clear hs
    have HNL : Hid ((lg.sync d).1.segs.length ≤ 1000000) := by rw [HSK.out.2.2.2]; exact HK.out.few
    have HDR : Hid (1 ≤ (lg.sync d).1.dir.length ∧ (lg.sync d).1.dir.length ≤ 11) := HSK.out.1.dir
    have HSN : Hid (((lg.sync d).1.next : Int) = (lg.next : Int)) := by show _ = _; rw [HSK.out.2.1]
    generalize hr : lg.sync d = r at *
    by_cases h0 : r.2.2 = 0
    · have hb0 : (((r.2.2 : Nat) : Int) != 0) = false := by rw [h0]; rfl
      have HR0 := Lib.hid h0
      clear h0
      go_wp2_with (first
        | (go_at_call 27; (refine (lsync_any HW1.out HB0.out HK.out (Nat.lt_of_le_of_lt HDN.out (by decide))).mono ?_); rw [hr]; rintro e w2 ⟨rfl, C2, S2, hw2, ht2⟩; have HW2 := Lib.hid hw2; have HB2 := Lib.hid (HW1.out.went HB0.out ht2); have HG2 := Lib.hid ht2; clear hw2 ht2)
        | (go_at_call 29; (obtain ⟨v2, us2, hl2⟩ := HW2.out.lk; refine (next_any hl2 HSK.out.1).mono ?_); rw [HSN.out]; rintro e w3 ⟨rfl, hb3⟩; have HW3 := Lib.hid (HW2.out.below hb3); have HB3 := Lib.hid (HB2.out.trans (hb3.mono (Nat.le_trans HB0.out HB2.out.size))); have HG3 := Lib.hid (HG2.out.trans (went_below hb3)); clear hb3)
        | (go_at_call 104; (refine (begin_any HW3.out (Nat.le_trans HB0.out HB3.out.size) (HT1.out.on (HB3.out.mono h6)) HDR.out HNL.out lg.next ⟨HNX.out.1, hn⟩ (Nat.lt_of_le_of_lt HSD.out (Nat.lt_of_le_of_lt (Nat.succ_le_succ HDN.out) (by decide)))).mono ?_); rintro e w4 ⟨rfl, C4, S4, hw4, ht4⟩; have HW4 := Lib.hid hw4; have HG4 := Lib.hid (HG3.out.trans ht4); clear hw4 ht4))
      go_ret
      rw [HRM.out, if_neg HS.out, if_pos HR0.out]
      exact ⟨rfl, _, _, HW4.out, HWE.out.trans HG4.out⟩
    · have hb0 : (((r.2.2 : Nat) : Int) != 0) = true := by simpa using h0
      have HR0 := Lib.hid h0
      clear h0
      go_wp2_with (go_at_call 27; (refine (lsync_any HW1.out HB0.out HK.out (Nat.lt_of_le_of_lt HDN.out (by decide))).mono ?_); rw [hr]; rintro e w2 ⟨rfl, C2, S2, hw2, ht2⟩; have HW2 := Lib.hid hw2; have HB2 := Lib.hid (HW1.out.went HB0.out ht2); have HG2 := Lib.hid ht2; clear hw2 ht2)
      go_ret
      rw [HRM.out, if_neg HS.out, if_neg HR0.out]
      exact ⟨rfl, _, _, HW2.out, HWE.out.trans HG2.out⟩
end
end Go.Proofs.YtkilkhnoldfhcaaGreatDoor
