/- (*wal.Log).load. Conditions: segments whose files are there, of a size that a scan takes. -/
import Derived.Test.YtkilkhnoldfhcaaGreatDoorLya
import Derived.Deep.LoopGhost
namespace Go.Proofs.YtkilkhnoldfhcaaGreatDoor
open Go.RowKit
/-- The log when the first i segments have been read. -/
def Lg.mid (lg : Lg) (d : Dk) (i : Nat) : Lg := { lg with segs := (lg.segs.take i).map (ldSeg lg.dir d) ++ lg.segs.drop i }
theorem mid_zero (lg : Lg) (d : Dk) : lg.mid d 0 = lg := by unfold Lg.mid; simp
theorem mid_all (lg : Lg) (d : Dk) {i : Nat} (h : lg.segs.length ≤ i) : lg.mid d i = { lg with segs := lg.segs.map (ldSeg lg.dir d) } := by unfold Lg.mid; rw [List.take_of_length_le h, List.drop_of_length_le h, List.append_nil]
theorem mid_length (lg : Lg) (d : Dk) {i : Nat} (h : i ≤ lg.segs.length) : (lg.mid d i).segs.length = lg.segs.length := by unfold Lg.mid; simp; omega
theorem mid_get (lg : Lg) (d : Dk) {i k : Nat} (hi : i ≤ k) (hk : k < lg.segs.length) : (lg.mid d i).segs[k]? = some lg.segs[k] := by
  unfold Lg.mid
  rw [List.getElem?_append_right (by simp; omega), List.length_map, List.length_take, Nat.min_eq_left (by omega), List.getElem?_drop, show i + (k - i) = k by omega, List.getElem?_eq_getElem hk]
theorem mid_succ (lg : Lg) (d : Dk) {i : Nat} (h : i < lg.segs.length) : (lg.mid d (i + 1)).segs = (lg.mid d i).segs.set i (ldSeg lg.dir d lg.segs[i]) := by
  unfold Lg.mid
  have hl : ((lg.segs.take i).map (ldSeg lg.dir d)).length = i := by simp; omega
  rw [List.set_append_right _ _ (by omega), hl, Nat.sub_self, List.take_add_one, List.getElem?_eq_getElem h, List.map_append, List.append_assoc]
  have e : lg.segs.drop i = lg.segs[i] :: lg.segs.drop (i + 1) := List.drop_eq_getElem_cons h
  rw [e]
  rfl
theorem mid_at (lg : Lg) (d : Dk) {i : Nat} (h : i < lg.segs.length) : (lg.mid d (i + 1)).segs[i]? = some (ldSeg lg.dir d lg.segs[i]) := by
  have hml := mid_length lg d (Nat.le_of_lt h)
  rw [mid_succ lg d h, List.getElem?_set_self (by omega)]
theorem last_at {lg : Lg} {i : Nat} (hi : i < lg.segs.length) (h : i + 1 = lg.segs.length) : lg.last = lg.segs[i] := by
  unfold Lg.last
  rw [show lg.segs.length - 1 = i by omega, List.getD_eq_getElem?_getD, List.getElem?_eq_getElem hi]
  rfl
theorem load_bad {lg : Lg} {d : Dk} (h : ldOk lg.dir d lg.segs = false) : lg.load d = (none, d, 13) := by unfold Lg.load; rw [if_pos h]
theorem load_whole {lg : Lg} {d : Dk} {N : Nat} (hN : lg.segs.length ≤ N) (h : ldOk lg.dir d lg.segs = true) (ht : ldTorn lg.dir d lg.last = false) : lg.load d = ok3 ((lg.mid d N).sync d) := by
  unfold Lg.load
  rw [if_neg (by rw [h]; decide), if_pos ht, mid_all lg d hN]
theorem load_cut {lg : Lg} {d : Dk} {N : Nat} {r : Dk × Nat} (hN : lg.segs.length ≤ N) (h : ldOk lg.dir d lg.segs = true) (ht : ldTorn lg.dir d lg.last = true) (hr : d.cut (segN lg.dir lg.last.first) ((ldSeg lg.dir d lg.last).size : Int) = r) (h0 : r.2 = 0) : lg.load d = ok3 ((lg.mid d N).sync r.1) := by
  unfold Lg.load
  rw [ldSeg_size] at hr
  rw [if_neg (by rw [h]; decide), if_neg (by rw [ht]; decide), hr, if_pos h0, mid_all lg d hN]
theorem load_fell {lg : Lg} {d : Dk} {r : Dk × Nat} (h : ldOk lg.dir d lg.segs = true) (ht : ldTorn lg.dir d lg.last = true) (hr : d.cut (segN lg.dir lg.last.first) ((ldSeg lg.dir d lg.last).size : Int) = r) (h0 : r.2 ≠ 0) : lg.load d = (none, r.1, r.2) := by
  unfold Lg.load
  rw [ldSeg_size] at hr
  rw [if_neg (by rw [h]; decide), if_neg (by rw [ht]; decide), hr, if_neg h0]
theorem grown_below {w w' : World} (h : Below w.heap.size w w') (row : Option Nat) : w.grownBy w' row := ⟨h.os, h.tape, h.output, h.size, fun k hk _ => h.block k hk⟩
theorem lat_fz {C : Nat → Prop} {w : World} {a dp g n cap : Nat} {lg : Lg} {us : List Value} (h : LAt C w a dp lg (.slice (some ⟨g, 0, none⟩) n cap) us) (o : Nat) : w.frozen? ⟨g, o, none⟩ = false := by
  obtain ⟨cur, hc⟩ := own_at h.go.own (k := g) rfl
  exact frozen_zero hc
section
variable {B : Nat} {w w' w1 w2 : World} {a dp : Nat} {C S : Nat → Prop} {lg lg' : Lg} {d d' : Dk}
theorem dk_cut {S : Nat → Prop} {w : World} {a : Nat} {d : Dk} (h : DK S w a d) {s : Nm} (hs : s.length ≤ maxLen) (hd : d.done < 9223372036854775807) (n : Int) (hn1 : -9223372036854775808 ≤ n) (hn2 : n ≤ 9223372036854775807) : Calls Tryz.prog 124 #[ptr a, nmv s, .int .i64 n] w (Wrote S w a (d.cut s n)) := let ⟨_, _, _, h⟩ := h; cut_any h hs hd n hn1 hn2
/-- One segment has been read. -/
theorem load_step {v5 : Value} {us us5 : List Value} {i N g cap : Nat} {z : Int} {rs : List (List UInt8)} {sg : Sg} (hl : LAt C w a dp (lg.mid d i) (.slice (some ⟨g, 0, none⟩) N cap) us) (hN : N = lg.segs.length) (hi : i < lg.segs.length) (hb : Below w.heap.size w w1) (hro : RO (fun k => w.heap.size ≤ k ∧ k < w1.heap.size) w1 v5 us5 rs)
    (hsg : lg.segs[i] = sg) (hrs : rs = (ldSeg lg.dir d sg).recs) (hz : z = ((ldSeg lg.dir d sg).size : Int)) (h2 : w2 = (w1.setCell ⟨g, i * 4 + 2, none⟩ v5).setCell ⟨g, i * 4 + 3, none⟩ (.int .i64 z)) :
    LAt (fun k => C k ∨ (w.heap.size ≤ k ∧ k < w1.heap.size)) w2 a dp (lg.mid d (i + 1)) (.slice (some ⟨g, 0, none⟩) N cap) (us.set i v5) ∧ Tn C w w2 ∧ w2.heap.size = w1.heap.size := by
  subst hsg hrs hz
  have hml := mid_length lg d (Nat.le_of_lt hi)
  have hg : C g := hl.go.row g rfl
  have hku : i < us.length := by rw [hl.go.len]; omega
  have hf : (ldSeg lg.dir d lg.segs[i]).first = (lg.mid d i).segs[i].first := by
    have h1 := mid_get lg d (Nat.le_refl i) hi
    rw [List.getElem?_eq_getElem (by omega)] at h1
    rw [Option.some.inj h1]
    rfl
  rw [hN, ← hml] at hl
  have h := hl.pushN (D := fun k => C k ∨ (w.heap.size ≤ k ∧ k < w1.heap.size)) (k := i) (by omega) hku (grown_below hb _) (hro.mono fun k _ hk => .inr hk) hf (fun j hj => .inr (hro.row j hj).1) (fun j hj => .inl hj) (fun j hj => hj.elim (fun x => Nat.lt_of_lt_of_le (hl.lt j x) hb.size) (fun x => x.2))
  have e : ({ lg.mid d i with segs := (lg.mid d i).segs.set i (ldSeg lg.dir d lg.segs[i]) } : Lg) = lg.mid d (i + 1) := by rw [← mid_succ lg d hi]; rfl
  have e2 : ((lg.mid d i).segs.set i (ldSeg lg.dir d lg.segs[i])).length = N := by rw [List.length_set]; omega
  rw [e, e2] at h
  rw [h2]
  exact ⟨h, ((Tn.of_below hb).setCell (fun _ => hg) _).setCell (fun _ => hg) _, by simp⟩
theorem load_went {U D : Nat → Prop} {wr w4 w5 w6 w0 : World} (hgo : Went U w wr (fun k => C k ∨ S k)) (hb : Below wr.drew.heap.size wr.drew w4) (ht : Tn C w4 w6) (hD : ∀ k, D k → C k ∨ (w4.heap.size ≤ k ∧ k < w5.heap.size)) (hw : w0 = w6) : Went U w w0 (fun k => D k ∨ S k) := by
  subst hw
  have hs : wr.heap.size ≤ w4.heap.size := hb.size
  refine hgo.trans ⟨((Tn.refl _ wr).drew.trans (Tn.of_below (S := fun _ => False) hb) (fun _ _ e => e.elim)).trans ht (fun k _ hk => .inl hk), fun k hk => ?_⟩
  rcases hk with hk | hk
  · rcases hD k hk with h | h
    · exact .inl (.inl h)
    · exact .inr (by omega)
  · exact .inl (.inr hk)
/-- The log, of which all segments have been read, over its disk. -/
theorem load_wl {N g cap : Nat} {us : List Value} (hl : LAt C w a dp (lg.mid d N) (.slice (some ⟨g, 0, none⟩) N cap) us) (hd : DK S w dp d) (hcb : ∀ k, C k → B ≤ k) (hsb : ∀ k, S k → B ≤ k) (hcs : ∀ k, C k → ¬ S k) : WL B w a C (lg.mid d N) dp S d := ⟨⟨_, _, hl⟩, hd, hcb, hsb, hcs⟩
theorem mid_ok (hne : 0 < lg.segs.length) (hfew : lg.segs.length ≤ 1000000) (hdir : 1 ≤ lg.dir.length ∧ lg.dir.length ≤ 11) (hnum : ∀ g ∈ lg.segs, 1 ≤ g.first ∧ g.first ≤ 99999999)
    (hrd : ∀ g ∈ lg.segs, (d.read (segN lg.dir g.first)).2 = 0 ∧ (d.read (segN lg.dir g.first)).1.length ≤ 1000000) {N : Nat} (hN : lg.segs.length ≤ N) : LOk (lg.mid d N) ∧ (lg.mid d N).last = ldSeg lg.dir d lg.last := by
  rw [mid_all lg d hN]
  refine ⟨⟨by simpa using hne, by simpa using hfew, hdir, fun g hg => ?_, fun g hg => ?_⟩, ?_⟩
  · obtain ⟨x, hx, rfl⟩ := List.mem_map.1 hg
    exact hnum x hx
  · obtain ⟨x, hx, rfl⟩ := List.mem_map.1 hg
    exact Nat.le_trans (ldSeg_le _ _ _) (Nat.le_trans (hrd x hx).2 (by decide))
  · unfold Lg.last
    have h1 : lg.segs.length - 1 < lg.segs.length := by omega
    show (lg.segs.map (ldSeg lg.dir d)).getD ((lg.segs.map (ldSeg lg.dir d)).length - 1) ⟨0, []⟩ = _
    rw [List.length_map, List.getD_eq_getElem?_getD, List.getElem?_map, List.getD_eq_getElem?_getD, List.getElem?_eq_getElem h1]
    rfl
theorem ok_of_runs (h : ∀ k (_ : k + 1 < lg.segs.length), ldTorn lg.dir d lg.segs[k] = false ∧ (ldSeg lg.dir d lg.segs[k]).next = lg.segs[k + 1].first) : ldOk lg.dir d lg.segs = true := (ldOk_iff _ _ _).2 h
theorem bad_of_run {k : Nat} (hk : k + 1 < lg.segs.length) (h : ldTorn lg.dir d lg.segs[k] = false → (ldSeg lg.dir d lg.segs[k]).next ≠ lg.segs[k + 1].first) : ldOk lg.dir d lg.segs = false := by
  cases e : ldOk lg.dir d lg.segs
  · rfl
  · obtain ⟨h1, h2⟩ := (ldOk_iff _ _ _).1 e k hk
    exact absurd h2 (h h1)
theorem cut_done (d : Dk) (s : Nm) (n : Int) : (d.cut s n).1.done ≤ d.done + 1 := by
  have hs : d.spend.1.done ≤ d.done + 1 := by
    unfold Dk.spend
    split
    · exact Nat.le_succ _
    · exact Nat.le_refl _
  unfold Dk.cut
  split
  · exact Nat.le_succ _
  split
  · exact Nat.le_succ _
  split
  · exact Nat.le_succ _
  split
  · exact hs
  · exact hs
theorem mlast_any {N i g cap : Nat} {us : List Value} (hl : LAt C w a dp (lg.mid d N) (.slice (some ⟨g, 0, none⟩) N cap) us) (hk : LOk (lg.mid d N)) (hN : (lg.mid d N).segs.length = N) (hi : i + 1 = N) : Calls Tryz.prog 69 #[ptr a] w fun e w' => e = .returned (.pointer (some ⟨g, i * 4, none⟩)) ∧ ∃ q, w' = w.drewN q := by
  have h := last_any (lg := lg.mid d N) (by rw [hN]; exact hl) hk
  rw [hN, show N - 1 = i by omega] at h
  exact h
theorem started_none {k : Nat} {e : Ending} {U : Nat → Prop} (hk : k ≠ 0) (he : e = .returned (.int .i64 (k : Int))) (hd : DK S w' dp d') (hS : ∀ j, S j → B ≤ j) (hg : Went (fun k => C k ∨ U k) w w' S) : Started C U B w a dp (none, d', k) e w' := ⟨he, hk, S, hd, hS, hg⟩
set_option maxRecDepth 100000 in
set_option maxHeartbeats 16000000 in
theorem lload_any (h : WL B w a C lg dp S d) (hB : B ≤ w.heap.size) (hne : 0 < lg.segs.length) (hfew : lg.segs.length ≤ 1000000) (hdir : 1 ≤ lg.dir.length ∧ lg.dir.length ≤ 11) (hnum : ∀ g ∈ lg.segs, 1 ≤ g.first ∧ g.first ≤ 99999999)
    (hrd : ∀ g ∈ lg.segs, (d.read (segN lg.dir g.first)).2 = 0 ∧ (d.read (segN lg.dir g.first)).1.length ≤ 1000000) (hd : d.done ≤ 1000000000) : Calls Tryz.prog 105 #[ptr a] w (Started C S B w a dp (lg.load d)) := by
  obtain ⟨v, us, hl⟩ := h.lk
  obtain ⟨g, cap, hgc, hgf, rfl⟩ : ∃ g cap, C g ∧ (lg.segs.length ≤ cap) ∧ v = .slice (some ⟨g, 0, none⟩) lg.segs.length cap := by
    obtain ⟨g, cap, _, _, hv, hc, hcap, _⟩ := hl.seg hne
    exact ⟨g, cap, hc, hcap, hv⟩
  obtain ⟨N, hN⟩ : ∃ N, N = lg.segs.length := ⟨_, rfl⟩
  obtain ⟨hmk, hml0⟩ := mid_ok hne hfew hdir hnum hrd (N := N) (Nat.le_of_eq hN.symm)
  have HMK := Lib.hid hmk
  have HML := Lib.hid hml0
  rw [← hN] at hl hfew hne hgf
  have HL0 : Hid (LAt C w a dp (lg.mid d 0) (.slice (some ⟨g, 0, none⟩) N cap) us) := Lib.hid (by rw [mid_zero]; exact hl)
  have HN := Lib.hid hN
  have HW := Lib.hid h
  have c3 := hl.c3
  have HNUM := Lib.hid hnum
  have HRDS := Lib.hid hrd
  have HDIR := Lib.hid hdir
  have HBW := Lib.hid hB
  have HDN := Lib.hid hd
  clear h hl hN hnum hrd hdir hmk hml0 hB hd
  go_enter Tryz.func105, Tryz.ntmps105
  go_wp2
  go_step3
  go_wp2
  go_step3
  go_wp2
  clear c3
  go_loopg [3, 14] N (fun gk vb vi wr => ∃ (i : Nat) (b : Bool) (C' : Nat → Prop) (us : List Value), i + gk = N ∧ i < N ∧ vi = .int .i64 (i : Int) ∧ vb = .bool b ∧ Hid (LAt C' wr a dp (lg.mid d i) (.slice (some ⟨g, 0, none⟩) N cap) us) ∧ Hid (DK S wr dp d) ∧ Hid (∀ k, C' k → B ≤ k) ∧ Hid (∀ k, C' k → ¬ S k) ∧ Hid (Went (fun k => C k ∨ S k) w wr (fun k => C' k ∨ S k)) ∧ Hid (∀ k (h : k + 1 < lg.segs.length), k < i → ldTorn lg.dir d lg.segs[k] = false ∧ (ldSeg lg.dir d lg.segs[k]).next = lg.segs[k + 1].first))
  case atStart => exact ⟨0, false, C, us, by omega, hne, rfl, rfl, HL0, Lib.hid HW.out.dk, Lib.hid HW.out.cb, Lib.hid HW.out.cs, Lib.hid (went_below (Below.refl _ _)), Lib.hid (fun _ _ h => absurd h (Nat.not_lt_zero _))⟩
  case round =>
    clear HL0
    obtain ⟨i, b, C', us', hig, hi, rfl, rfl, HL, HDK, HCB, HCS, HGO, HPR⟩ := hrel
    cases gk with
    | zero => omega
    | succ go_ =>
      have hil : (i : Int) < (N : Int) := by omega
      have hil2 : decide (i < N) = true := decide_eq_true hi
      have hiN : i < lg.segs.length := by have := HN.out; omega
      have hml := mid_length lg d (Nat.le_of_lt hiN)
      have hi2 : i < (lg.mid d i).segs.length := by omega
      obtain ⟨bo0, bc0, g0, g1, g2, g3, xs0, hro⟩ := HL.out.segAt hi2
      have hge : (lg.mid d i).segs[i] = lg.segs[i] := by
        have h1 := mid_get lg d (Nat.le_refl i) hiN
        rw [List.getElem?_eq_getElem hi2] at h1
        exact Option.some.inj h1
      rw [hge] at g0 g1 g2 g3
      have hmem : lg.segs[i] ∈ lg.segs := List.getElem_mem hiN
      have hnum := HNUM.out _ hmem
      obtain ⟨hr0, hr1⟩ := HRDS.out _ hmem
      have HNM : Hid ((segN lg.dir lg.segs[i].first).length ≤ maxLen) := Lib.hid (by rw [segN_length hnum.2]; exact Nat.le_trans (show lg.dir.length + 9 ≤ 1000 by have := HDIR.out; omega) (by decide))
      obtain ⟨bs, hbs⟩ : ∃ bs, bs = (d.read (segN lg.dir lg.segs[i].first)).1 := ⟨_, rfl⟩
      have HRD : Hid (d.read (segN lg.dir lg.segs[i].first) = (bs, 0)) := Lib.hid (by rw [hbs, ← hr0])
      have HBL : Hid (bs.length ≤ 1000000) := Lib.hid (by rw [hbs]; exact hr1)
      have HBS := Lib.hid hbs
      clear hbs
      have HGL : Hid (g < wr.drew.heap.size) := Lib.hid (World.block_lt_of_cell? _ _ g0)
      have c0 := HL.out.c0
      have c3 := HL.out.c3
      generalize hsg : lg.segs[i] = sg at *
      have HSG := Lib.hid hsg
      clear hsg
      have hdd : (lg.mid d i).dir = lg.dir := rfl
      rw [hdd] at g0
      go_upto_region 6 with (fail)
      have HL := Lib.hid (HL.out.below (Below.refl _ _).drew)
      have HDK := Lib.hid (HDK.out.below (Below.refl _ _).drew)
      go_region_held (fun w' => w'.cell? ⟨a, 0, none⟩ = some (ptr dp) ∧ w'.cell? ⟨g, i * 4, none⟩ = some (nmv (segN lg.dir sg.first))) (exact ⟨c0, g0⟩) (first
        | (go_at_call 122; (refine (dk_read (HDK.out) HNM.out).mono ?_); rintro e w4 ⟨bo, bc, rfl, hsb, hb⟩; rw [HRD.out] at hsb ⊢; have HSB := Lib.hid hsb; have HL := Lib.hid (HL.out.below hb); have HDK := Lib.hid (HDK.out.below hb); have HB4 := Lib.hid hb; have c0 := HL.out.c0; have g0 := (hb.cell (p := ⟨g, i * 4, none⟩) HGL.out).trans g0; clear hb hsb))
      obtain ⟨bo1, bc1, q0, q1, q2, q3, xs1, hro1⟩ := HL.out.segAt hi2
      have HQ2 := Lib.hid q2
      have HQ3 := Lib.hid q3
      have HGX : Hid (g < w4.heap.size) := Lib.hid (World.block_lt_of_cell? _ _ q0)
      clear q0 q1 q2 q3 g1 g2 g3 g0 hro hro1 hr0 hr1
      have HDK4 := HDK
      go_upto_region 10 with (go_at_call 123; (refine (Fr.scan_any (fr_sb HSB.out) HBL.out).mono ?_); rintro e w5 ⟨v5, us5, rfl, hrs, hb⟩; obtain ⟨o5, k5, rfl⟩ := own_slice hrs.own; have HRS := Lib.hid (rs_ro hrs); have HB5 := Lib.hid hb; have HL5 := Lib.hid (HL.out.below hb); have HDK := Lib.hid (HDK.out.below hb); have q2 := (hb.cell (p := ⟨g, i * 4 + 2, none⟩) HGX.out).trans HQ2.out; have q3 := (hb.cell (p := ⟨g, i * 4 + 3, none⟩) HGX.out).trans HQ3.out; have z2 := lat_fz HL5.out (i * 4 + 2); have z3 := lat_fz HL5.out (i * 4 + 3); clear hb hrs)
      generalize hW6 : (w5.setCell ⟨g, i * 4 + 2, none⟩ (.slice o5 (Fr.scanV bs).1.length k5)).setCell ⟨g, i * 4 + 3, none⟩ (.int .i64 ((Fr.scanV bs).2 : Int)) = w6
      have hrec : (Fr.scanV bs).1 = (ldSeg lg.dir d sg).recs := by unfold ldSeg; rw [HRD.out]
      have hsz : (Fr.scanV bs).2 = (ldSeg lg.dir d sg).size := by rw [ldSeg_size, HRD.out]
      have htn : ldTorn lg.dir d sg = decide ((ldSeg lg.dir d sg).size < bs.length) := by rw [← hsz]; unfold ldTorn; rw [HRD.out]
      have hfst : (ldSeg lg.dir d sg).first = sg.first := rfl
      obtain ⟨hl6, ht6, hs6⟩ := load_step HL.out HN.out hiN HB5.out HRS.out HSG.out hrec (by rw [hsz]) hW6.symm
      have HL6 := Lib.hid hl6
      have HDK6 := Lib.hid (HDK4.out.tn ht6 (fun k hk e => HCS.out k e hk))
      obtain ⟨D, hD⟩ : ∃ D : Nat → Prop, D = fun k => C' k ∨ (w4.heap.size ≤ k ∧ k < w5.heap.size) := ⟨_, rfl⟩
      rw [← hD] at hl6
      have hsz4 : wr.heap.size ≤ w4.heap.size := HB4.out.size
      have hszr : w.heap.size ≤ wr.heap.size := HGO.out.tn.size
      have hB0 := HBW.out
      have HGO6 : Hid (Went (fun k => C k ∨ S k) w w6 (fun k => D k ∨ S k)) := Lib.hid (load_went (w5 := w5) HGO.out HB4.out ht6 (fun k hk => by rw [hD] at hk; exact hk) rfl)
      have HCB6 : Hid (∀ k, D k → B ≤ k) := Lib.hid (fun k hk => by rw [hD] at hk; exact hk.elim (HCB.out k) (fun x => by omega))
      have HCS6 : Hid (∀ k, D k → ¬ S k) := Lib.hid (fun k hk e => by rw [hD] at hk; exact hk.elim (fun x => HCS.out k x e) (fun x => by have := HDK4.out.lt k e; omega))
      have HB6 : Hid (B ≤ w6.heap.size) := Lib.hid (Nat.le_trans hB0 HGO6.out.tn.size)
      have hml6 := mid_length lg d (i := i + 1) hiN
      have h6 : i < (lg.mid d (i + 1)).segs.length := by omega
      obtain ⟨o6, k6, h0, h1, h2, h3, xs6, _⟩ := hl6.segAt h6
      have hge6 : (lg.mid d (i + 1)).segs[i] = ldSeg lg.dir d sg := by
        have h1 := mid_at lg d hiN
        rw [List.getElem?_eq_getElem h6, HSG.out] at h1
        exact Option.some.inj h1
      rw [hge6] at h0 h1 h2 h3
      have hroom : (ldSeg lg.dir d sg).size ≤ 1000000 := Nat.le_trans (ldSeg_le _ _ _) (by rw [HRD.out]; exact HBL.out)
      have hrs6 := recs_size (ldSeg lg.dir d sg)
      have c3 := hl6.c3
      have c0 := hl6.c0
      have HL6 := Lib.hid hl6
      have HTN : Hid (ldTorn lg.dir d lg.segs[i] = decide ((ldSeg lg.dir d sg).size < bs.length)) := Lib.hid (by rw [HSG.out]; exact htn)
      have HNX : Hid ((ldSeg lg.dir d lg.segs[i]).next = (ldSeg lg.dir d sg).first + (ldSeg lg.dir d sg).recs.length) := Lib.hid (by rw [HSG.out]; rfl)
      have HFI : Hid ((ldSeg lg.dir d sg).first ≤ 99999999) := Lib.hid hnum.2
      have HN6 : Hid ((ldSeg lg.dir d sg).recs.length ≤ 100000000) := Lib.hid (by omega)
      have HNM6 : Hid ((segN lg.dir (ldSeg lg.dir d sg).first).length ≤ maxLen) := HNM
      have HNMQ : Hid (segN lg.dir lg.segs[i].first = segN lg.dir (ldSeg lg.dir d sg).first) := Lib.hid (by rw [HSG.out]; rfl)
      have HSB6 : Hid ((ldSeg lg.dir d sg).size ≤ 1000000) := Lib.hid hroom
      have HSZ : Hid ((ldSeg lg.dir d lg.segs[i]).size = (ldSeg lg.dir d sg).size) := Lib.hid (by rw [HSG.out])
      have HAS : Hid (a < w6.drew.heap.size) := Lib.hid (World.block_lt_of_cell? _ _ c0)
      have HGS : Hid (g < w6.drew.heap.size) := Lib.hid (World.block_lt_of_cell? _ _ h0)
      have hfst' : (lg.mid d (i + 1)).dir = lg.dir := rfl
      rw [hfst'] at h0
      clear hl6 htn hrec hfst hge6 hfst' hsz4 hszr hB0 hge q2 q3 z2 z3 HL5 HDK HDK4 HQ2 HQ3 hnum HNM HRD HBS HL HSB
      clear hrs6 hroom hD ht6 hs6 hmem HRS HB5 HGX hi2 hml hdd
      rw [hsz] at hW6 ⊢
      clear hsz hW6
      generalize segN lg.dir (ldSeg lg.dir d sg).first = nm6 at *
      generalize (ldSeg lg.dir d sg).first = fi6 at *
      generalize (ldSeg lg.dir d sg).recs.length = n6 at *
      generalize (ldSeg lg.dir d sg).size = sz6 at *
      have hwi : IntKind.i64.wrap ((i : Int) + 1) = ((i + 1 : Nat) : Int) := by rw [wrap_in (by have := HN.out; omega)]; omega
      by_cases hlast : i + 1 = N
      · have e1 : ((i : Int) == (N : Int) - 1) = true := by simp; omega
        have hln : lg.segs.length ≤ N := by rw [← HN.out]; exact Nat.le_refl _
        have HLA : Hid (lg.last = lg.segs[i]) := Lib.hid (last_at hiN (by rw [hlast]; exact HN.out))
        have HOK : Hid (ldOk lg.dir d lg.segs = true) := Lib.hid (ok_of_runs fun k hk => HPR.out k hk (by have := HN.out; omega))
        have hl7 := HL6.out
        rw [hlast] at hl7
        have HWL := Lib.hid (load_wl hl7 HDK6.out HCB6.out HW.out.sb HCS6.out)
        have HLN := Lib.hid hln
        cases htb : decide (sz6 < bs.length) with
        | false =>
          have HLD : Hid (lg.load d = ok3 ((lg.mid d N).sync d)) := Lib.hid (load_whole HLN.out HOK.out (by rw [HLA.out, HTN.out]; exact htb))
          clear hln hl7 hlast
          go_wp2_with (go_at_call 27; (refine (lsync_any HWL.out HB6.out HMK.out (Nat.lt_of_le_of_lt HDN.out (by decide))).mono ?_); rintro e w7 he; have HE := Lib.hid ((started_ok3 he).back HGO6.out); obtain ⟨rfl, _⟩ := he)
          try rw [Exit.noGoto_ret]
          go_ret
          rw [HLD.out]
          exact HE.out
        | true =>
          obtain ⟨r, hr⟩ : ∃ r, d.cut nm6 (sz6 : Int) = r := ⟨_, rfl⟩
          have hcut : d.cut (segN lg.dir lg.last.first) ((ldSeg lg.dir d lg.last).size : Int) = r := by rw [HLA.out, HNMQ.out, HSZ.out]; exact hr
          have htt : ldTorn lg.dir d lg.last = true := by rw [HLA.out, HTN.out]; exact htb
          have HLD1 := Lib.hid (fun h0 => load_cut HLN.out HOK.out htt hcut h0)
          have HLD2 := Lib.hid (fun h0 => load_fell HOK.out htt hcut h0)
          have HRD9 : Hid (r.1.done ≤ d.done + 1) := Lib.hid (by rw [← hr]; exact cut_done d _ _)
          have HCR := Lib.hid hr
          have HL7 := Lib.hid hl7
          have HBX : Hid (Below w6.heap.size w6 w6.drew) := Lib.hid (Below.refl _ _).drew
          have HLX := Lib.hid (hl7.below HBX.out)
          have HLL : Hid ((lg.mid d N).segs.length = N) := Lib.hid (by rw [mid_length lg d (by rw [HN.out]; exact Nat.le_refl _)]; exact HN.out.symm)
          have HI1 := Lib.hid hlast
          have HC0 := Lib.hid c0
          have HH0 := Lib.hid h0
          have HH3 := Lib.hid h3
          have HCA := Lib.hid hl7.ca
          have HCG := Lib.hid (hl7.go.row g rfl)
          have HDN2 : Hid (d.done < 9223372036854775807) := Lib.hid (Nat.lt_of_le_of_lt HDN.out (by decide))
          have HSL : Hid (-9223372036854775808 ≤ (sz6 : Int) ∧ (sz6 : Int) ≤ 9223372036854775807) := Lib.hid (by have := HSB6.out; omega)
          clear hr hcut htt hl7 hln hlast
          by_cases hr0 : r.2 = 0
          · have q1 : (((r.2 : Nat) : Int) != 0) = false := by rw [hr0]; rfl
            have HLD := Lib.hid (HLD1.out hr0)
            have HR0 := Lib.hid hr0
            clear hr0
            go_upto_region 16 with (fail)
            go_region_held (fun w' => w'.cell? ⟨a, 0, none⟩ = some (ptr dp) ∧ w'.cell? ⟨g, i * 4, none⟩ = some (nmv nm6) ∧ w'.cell? ⟨g, i * 4 + 3, none⟩ = some (.int .i64 (sz6 : Int))) (exact ⟨c0, h0, h3⟩) (first
              | (go_at_call 69; (refine (mlast_any HLX.out HMK.out HLL.out HI1.out).mono ?_); rintro e w7 ⟨rfl, q, hq⟩; have HBX := Lib.hid (HBX.out.trans ((below_of_drew hq).mono HBX.out.size)); have HLX := Lib.hid (HL7.out.below HBX.out); have c0 := (HBX.out.cell (p := ⟨a, 0, none⟩) HAS.out).trans HC0.out; have h0 := (HBX.out.cell (p := ⟨g, i * 4, none⟩) HGS.out).trans HH0.out; have h3 := (HBX.out.cell (p := ⟨g, i * 4 + 3, none⟩) HGS.out).trans HH3.out; clear hq)
              | (go_at_call 69; (refine (mlast_any HLX.out HMK.out HLL.out HI1.out).mono ?_); rintro e w8 ⟨rfl, q, hq⟩; have HBX := Lib.hid (HBX.out.trans ((below_of_drew hq).mono HBX.out.size)); have HLX := Lib.hid (HL7.out.below HBX.out); have c0 := (HBX.out.cell (p := ⟨a, 0, none⟩) HAS.out).trans HC0.out; have h0 := (HBX.out.cell (p := ⟨g, i * 4, none⟩) HGS.out).trans HH0.out; have h3 := (HBX.out.cell (p := ⟨g, i * 4 + 3, none⟩) HGS.out).trans HH3.out; clear hq)
              | (go_at_call 124; (refine (dk_cut (HDK6.out.below HBX.out) HNM6.out HDN2.out (sz6 : Int) HSL.out.1 HSL.out.2).mono ?_); rw [HCR.out]; rintro e w9 ⟨rfl, hd, ht⟩; have HD9 := Lib.hid hd; have HW9 := Lib.hid ((HWL.out.below HBX.out).disk (Nat.le_trans HB6.out HBX.out.size) hd ht); have HG9 := Lib.hid ((HGO6.out.trans (went_below HBX.out)).trans (went_disk ht)); have c0 := ht.cell c0 (HCS6.out _ HCA.out); have h0 := ht.cell h0 (HCS6.out _ HCG.out); have h3 := ht.cell h3 (HCS6.out _ HCG.out); clear hd ht))
            go_wp2_with (go_at_call 27; (refine (lsync_any HW9.out (Nat.le_trans HBW.out HG9.out.tn.size) HMK.out (Nat.lt_of_le_of_lt HRD9.out (by have := HDN.out; omega))).mono ?_); rintro e w10 he; have HE := Lib.hid ((started_ok3 he).back HG9.out); obtain ⟨rfl, _⟩ := he)
            try rw [Exit.noGoto_ret]
            go_ret
            rw [HLD.out]
            exact HE.out
          · have q1 : (((r.2 : Nat) : Int) != 0) = true := by simpa using hr0
            have HLD := Lib.hid (HLD2.out hr0)
            have HR0 := Lib.hid hr0
            clear hr0
            go_upto_region 16 with (fail)
            go_region_held (fun w' => w'.cell? ⟨a, 0, none⟩ = some (ptr dp) ∧ w'.cell? ⟨g, i * 4, none⟩ = some (nmv nm6) ∧ w'.cell? ⟨g, i * 4 + 3, none⟩ = some (.int .i64 (sz6 : Int))) (exact ⟨c0, h0, h3⟩) (first
              | (go_at_call 69; (refine (mlast_any HLX.out HMK.out HLL.out HI1.out).mono ?_); rintro e w7 ⟨rfl, q, hq⟩; have HBX := Lib.hid (HBX.out.trans ((below_of_drew hq).mono HBX.out.size)); have HLX := Lib.hid (HL7.out.below HBX.out); have c0 := (HBX.out.cell (p := ⟨a, 0, none⟩) HAS.out).trans HC0.out; have h0 := (HBX.out.cell (p := ⟨g, i * 4, none⟩) HGS.out).trans HH0.out; have h3 := (HBX.out.cell (p := ⟨g, i * 4 + 3, none⟩) HGS.out).trans HH3.out; clear hq)
              | (go_at_call 69; (refine (mlast_any HLX.out HMK.out HLL.out HI1.out).mono ?_); rintro e w8 ⟨rfl, q, hq⟩; have HBX := Lib.hid (HBX.out.trans ((below_of_drew hq).mono HBX.out.size)); have HLX := Lib.hid (HL7.out.below HBX.out); have c0 := (HBX.out.cell (p := ⟨a, 0, none⟩) HAS.out).trans HC0.out; have h0 := (HBX.out.cell (p := ⟨g, i * 4, none⟩) HGS.out).trans HH0.out; have h3 := (HBX.out.cell (p := ⟨g, i * 4 + 3, none⟩) HGS.out).trans HH3.out; clear hq)
              | (go_at_call 124; (refine (dk_cut (HDK6.out.below HBX.out) HNM6.out HDN2.out (sz6 : Int) HSL.out.1 HSL.out.2).mono ?_); rw [HCR.out]; rintro e w9 ⟨rfl, hd, ht⟩; have HD9 := Lib.hid hd; have HW9 := Lib.hid ((HWL.out.below HBX.out).disk (Nat.le_trans HB6.out HBX.out.size) hd ht); have HG9 := Lib.hid ((HGO6.out.trans (went_below HBX.out)).trans (went_disk ht)); have c0 := ht.cell c0 (HCS6.out _ HCA.out); have h0 := ht.cell h0 (HCS6.out _ HCG.out); have h3 := ht.cell h3 (HCS6.out _ HCG.out); clear hd ht))
            go_wp2
            try rw [Exit.noGoto_ret]
            go_ret
            rw [HLD.out]
            exact started_none HR0.out rfl HD9.out HW9.out.sb ⟨HG9.out.tn, fun k hk => HG9.out.sub k (.inr hk)⟩
      · have e1 : ((i : Int) == (N : Int) - 1) = false := by simp; omega
        have hi1 : i + 1 < lg.segs.length := by have := HN.out; omega
        have hi3 : ((i + 1 : Nat) : Int) < (N : Int) := by omega
        have hi5 : (0 : Int) ≤ (i : Int) + 1 := by omega
        have hi6 : (i : Int) + 1 < (N : Int) := by omega
        have hi4 : decide (i + 1 < N) = true := decide_eq_true (by omega)
        cases htb : decide (sz6 < bs.length) with
        | true =>
          have HLD : Hid (lg.load d = (none, d, 13)) := Lib.hid (load_bad (bad_of_run hi1 (fun e => by rw [HTN.out, htb] at e; cases e)))
          go_upto_region 12 with (fail)
          refine wp_region_held (S := (fun w' => w'.cell? ⟨a, 3, none⟩ = some (.slice (some ⟨g, 0, none⟩) N cap))) (by kernel_rfl) ?_
          change wpAnyH _ _ _ _ _ _ _ _ (World.drew _)
          refine wpAnyH_take (i := 0) (v := ?vh12t_0) rfl (by kernel_rfl) (by kernel_rfl) (by kernel_rfl) (fun _ _ _ h => h) (Or.inl ⟨by rfl, ?yh12t_0⟩) c3 ?rh12t_0
          case yh12t_0 => (intro W hSw; (try dsimp only at hSw); obtain _ := hSw; first | (go_simp; done) | (go_simp; with_reducible rfl))
          try go_simp
          refine wpAnyH_take (i := 1) (v := ?vh12t_1) rfl (by kernel_rfl) (by kernel_rfl) (by kernel_rfl) (fun _ _ _ h => h) (Or.inl ⟨by rfl, ?yh12t_1⟩) c3 ?rh12t_1
          case yh12t_1 => (intro W hSw; (try dsimp only at hSw); obtain _ := hSw; first | (go_simp; done) | (go_simp; with_reducible rfl))
          try go_simp
          refine wpAnyH_take (i := 2) (v := undef) rfl (by kernel_rfl) (by kernel_rfl) (by kernel_rfl) (fun _ _ _ h => h) (Or.inr ⟨by rfl, rfl⟩) c3 ?rh12t_2
          try go_simp
          refine wpAnyH_take (i := 3) (v := undef) rfl (by kernel_rfl) (by kernel_rfl) (by kernel_rfl) (fun _ _ _ h => h) (Or.inr ⟨by rfl, rfl⟩) c3 ?rh12t_3
          try go_simp
          refine wpAnyH_take (i := 4) (v := undef) rfl (by kernel_rfl) (by kernel_rfl) (by kernel_rfl) (fun _ _ _ h => h) (Or.inr ⟨by rfl, rfl⟩) c3 ?rh12t_4
          try go_simp
          refine wpAnyH_take (i := 5) (v := undef) rfl (by kernel_rfl) (by kernel_rfl) (by kernel_rfl) (fun _ _ _ h => h) (Or.inr ⟨by rfl, rfl⟩) c3 ?rh12t_5
          try go_simp
          refine wpAnyH_take (i := 6) (v := undef) rfl (by kernel_rfl) (by kernel_rfl) (by kernel_rfl) (fun _ _ _ h => h) (Or.inr ⟨by rfl, rfl⟩) c3 ?rh12t_6
          try go_simp
          refine wpAnyH_take (i := 7) (v := undef) rfl (by kernel_rfl) (by kernel_rfl) (by kernel_rfl) (fun _ _ _ h => h) (Or.inr ⟨by rfl, rfl⟩) c3 ?rh12t_7
          try go_simp
          refine wpAnyH_take (i := 8) (v := undef) rfl (by kernel_rfl) (by kernel_rfl) (by kernel_rfl) (fun _ _ _ h => h) (Or.inr ⟨by rfl, rfl⟩) c3 ?rh12t_8
          try go_simp
          refine wpAnyH_take (i := 9) (v := undef) rfl (by kernel_rfl) (by kernel_rfl) (by kernel_rfl) (fun _ _ _ h => h) (Or.inr ⟨by rfl, rfl⟩) c3 ?rh12t_9
          try go_simp
          refine wpAnyH_take (i := 10) (v := undef) rfl (by kernel_rfl) (by kernel_rfl) (by kernel_rfl) (fun _ _ _ h => h) (Or.inr ⟨by rfl, rfl⟩) c3 ?rh12t_10
          try go_simp
          refine wpAnyH_take (i := 11) (v := undef) rfl (by kernel_rfl) (by kernel_rfl) (by kernel_rfl) (fun _ _ _ h => h) (Or.inr ⟨by rfl, rfl⟩) c3 ?rh12t_11
          try go_simp
          refine wpAnyH_take (i := 12) (v := undef) rfl (by kernel_rfl) (by kernel_rfl) (by kernel_rfl) (fun _ _ _ h => h) (Or.inr ⟨by rfl, rfl⟩) c3 ?rh12t_12
          try go_simp
          refine wpAnyH_take (i := 13) (v := undef) rfl (by kernel_rfl) (by kernel_rfl) (by kernel_rfl) (fun _ _ _ h => h) (Or.inr ⟨by rfl, rfl⟩) c3 ?rh12t_13
          try go_simp
          refine wpAnyH_take (i := 14) (v := undef) rfl (by kernel_rfl) (by kernel_rfl) (by kernel_rfl) (fun _ _ _ h => h) (Or.inr ⟨by rfl, rfl⟩) c3 ?rh12t_14
          try go_simp
          refine wpAnyH_take (i := 15) (v := undef) rfl (by kernel_rfl) (by kernel_rfl) (by kernel_rfl) (fun _ _ _ h => h) (Or.inr ⟨by rfl, rfl⟩) c3 ?rh12t_15
          try go_simp
          refine wpAnyH_take (i := 16) (v := ?vh12t_16) rfl (by kernel_rfl) (by kernel_rfl) (by kernel_rfl) (fun _ _ _ h => h) (Or.inl ⟨by rfl, ?yh12t_16⟩) c3 ?rh12t_16
          case yh12t_16 => (intro W hSw; (try dsimp only at hSw); obtain _ := hSw; first | (go_simp; done) | (go_simp; with_reducible rfl))
          try go_simp
          refine wpAnyH_take (i := 17) (v := ?vh12t_17) rfl (by kernel_rfl) (by kernel_rfl) (by kernel_rfl) (fun _ _ _ h => h) (Or.inl ⟨by rfl, ?yh12t_17⟩) c3 ?rh12t_17
          case yh12t_17 => (intro W hSw; (try dsimp only at hSw); obtain _ := hSw; first | (go_simp; done) | (go_simp; with_reducible rfl))
          try go_simp
          refine wpAnyH_done (by kernel_rfl) ?_ _
          go_wp2
          try rw [Exit.noGoto_ret]
          go_ret
          rw [HLD.out]
          exact started_none (by decide) rfl (HDK6.out.below (Below.refl _ _).drew) HW.out.sb ⟨HGO6.out.tn.drew, fun k hk => HGO6.out.sub k (.inr hk)⟩
        | false =>
          obtain ⟨_, _, _, h4, _⟩ := HL6.out.segAt (k := i + 1) (by omega)
          have hge7 : (lg.mid d (i + 1)).segs[i + 1]'(by omega) = lg.segs[i + 1] := by
            have h1 := mid_get lg d (Nat.le_refl (i + 1)) hi1
            rw [List.getElem?_eq_getElem (by omega)] at h1
            exact Option.some.inj h1
          rw [hge7] at h4
          clear hge7
          obtain ⟨nx, hnv⟩ : ∃ x, fi6 + n6 = x := ⟨_, rfl⟩
          have HNV := Lib.hid hnv
          have HNX2 := Lib.hid (HNX.out.trans hnv)
          clear hnv
          by_cases hnx : nx = lg.segs[i + 1].first
          · have HPR2 : Hid (∀ k (h : k + 1 < lg.segs.length), k < i + 1 → ldTorn lg.dir d lg.segs[k] = false ∧ (ldSeg lg.dir d lg.segs[k]).next = lg.segs[k + 1].first) := Lib.hid (fun k hk hki => by
              by_cases e : k = i
              · subst e
                exact ⟨HTN.out.trans htb, HNX2.out.trans hnx⟩
              · exact HPR.out k hk (by omega))
            generalize lg.segs[i + 1].first = f2 at *
            have hq0 : ((nx : Int) == (f2 : Int)) = true := by subst hnx; simp
            have hq1 : ((nx : Int) != (f2 : Int)) = false := by subst hnx; simp
            clear hnx
            go_upto_region 12 with (fail)
            go_region_held (fun w' => w'.cell? ⟨a, 3, none⟩ = some (.slice (some ⟨g, 0, none⟩) N cap) ∧ w'.cell? ⟨g, i * 4, none⟩ = some (nmv nm6) ∧ w'.cell? ⟨g, i * 4 + 1, none⟩ = some (.int .i64 (fi6 : Int)) ∧ w'.cell? ⟨g, i * 4 + 2, none⟩ = some (.slice o6 n6 k6) ∧ w'.cell? ⟨g, i * 4 + 3, none⟩ = some (.int .i64 (sz6 : Int)) ∧ w'.cell? ⟨g, (i + 1) * 4 + 1, none⟩ = some (.int .i64 (f2 : Int))) (exact ⟨c3, h0, h1, h2, h3, h4⟩) (first
              | (go_at_call 72; (refine (fnext_any _ _ fi6 n6 k6 sz6 o6 HFI.out HN6.out).mono ?_); rw [HNV.out]; rintro e w7 ⟨rfl, hb⟩; have HB7 := Lib.hid hb; have c3 := (hb.cell (p := ⟨a, 3, none⟩) HAS.out).trans c3; have h0 := (hb.cell (p := ⟨g, i * 4, none⟩) HGS.out).trans h0; have h1 := (hb.cell (p := ⟨g, i * 4 + 1, none⟩) HGS.out).trans h1; have h2 := (hb.cell (p := ⟨g, i * 4 + 2, none⟩) HGS.out).trans h2; have h3 := (hb.cell (p := ⟨g, i * 4 + 3, none⟩) HGS.out).trans h3; have h4 := (hb.cell (p := ⟨g, (i + 1) * 4 + 1, none⟩) HGS.out).trans h4; clear hb))
            go_wp2
            go_roundg go_
            case measure => omega
            case rel => exact ⟨i + 1, false, D, _, by omega, by omega, rfl, rfl, Lib.hid (HL6.out.below ((Below.refl _ _).drew.trans HB7.out)), Lib.hid (HDK6.out.below ((Below.refl _ _).drew.trans HB7.out)), HCB6, HCS6, Lib.hid (HGO6.out.trans (went_below ((Below.refl _ _).drew.trans HB7.out))), HPR2⟩
          · have HLD : Hid (lg.load d = (none, d, 13)) := Lib.hid (load_bad (bad_of_run hi1 (fun _ e => hnx (by rw [← e, HNX2.out]))))
            generalize lg.segs[i + 1].first = f2 at *
            have hq0 : ((nx : Int) == (f2 : Int)) = false := by simp; omega
            have hq1 : ((nx : Int) != (f2 : Int)) = true := by simp; omega
            clear hnx
            go_upto_region 12 with (fail)
            go_region_held (fun w' => w'.cell? ⟨a, 3, none⟩ = some (.slice (some ⟨g, 0, none⟩) N cap) ∧ w'.cell? ⟨g, i * 4, none⟩ = some (nmv nm6) ∧ w'.cell? ⟨g, i * 4 + 1, none⟩ = some (.int .i64 (fi6 : Int)) ∧ w'.cell? ⟨g, i * 4 + 2, none⟩ = some (.slice o6 n6 k6) ∧ w'.cell? ⟨g, i * 4 + 3, none⟩ = some (.int .i64 (sz6 : Int)) ∧ w'.cell? ⟨g, (i + 1) * 4 + 1, none⟩ = some (.int .i64 (f2 : Int))) (exact ⟨c3, h0, h1, h2, h3, h4⟩) (first
              | (go_at_call 72; (refine (fnext_any _ _ fi6 n6 k6 sz6 o6 HFI.out HN6.out).mono ?_); rw [HNV.out]; rintro e w7 ⟨rfl, hb⟩; have HB7 := Lib.hid hb; have c3 := (hb.cell (p := ⟨a, 3, none⟩) HAS.out).trans c3; have h0 := (hb.cell (p := ⟨g, i * 4, none⟩) HGS.out).trans h0; have h1 := (hb.cell (p := ⟨g, i * 4 + 1, none⟩) HGS.out).trans h1; have h2 := (hb.cell (p := ⟨g, i * 4 + 2, none⟩) HGS.out).trans h2; have h3 := (hb.cell (p := ⟨g, i * 4 + 3, none⟩) HGS.out).trans h3; have h4 := (hb.cell (p := ⟨g, (i + 1) * 4 + 1, none⟩) HGS.out).trans h4; clear hb))
            go_wp2
            try rw [Exit.noGoto_ret]
            go_ret
            rw [HLD.out]
            exact started_none (by decide) rfl (HDK6.out.below ((Below.refl _ _).drew.trans HB7.out)) HW.out.sb (let h := HGO6.out.trans (went_below ((Below.refl _ _).drew.trans HB7.out)); ⟨h.tn, fun k hk => h.sub k (.inr hk)⟩)
end
end Go.Proofs.YtkilkhnoldfhcaaGreatDoor
