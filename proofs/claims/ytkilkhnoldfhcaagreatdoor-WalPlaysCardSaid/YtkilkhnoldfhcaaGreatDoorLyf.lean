/- (*wal.Log).Trim. Conditions: segments and records as a disk has room for. -/
import Derived.Test.YtkilkhnoldfhcaaGreatDoorLye
import Derived.Deep.LoopGhost
namespace Go.Proofs.YtkilkhnoldfhcaaGreatDoor
open Go.RowKit
/-- What Trim makes of segments. -/
def trimL (dir : Nm) (below : Int) : List Sg → Dk → List Sg × Dk × Nat
  | g :: g2 :: r, d => if (g.next : Int) ≤ below then (if (d.remove (segN dir g.first)).2 = 0 then trimL dir below (g2 :: r) (d.remove (segN dir g.first)).1 else (g :: g2 :: r, (d.remove (segN dir g.first)).1, (d.remove (segN dir g.first)).2)) else (g :: g2 :: r, d, 0)
  | l, d => (l, d, 0)
def Lg.trim (lg : Lg) (d : Dk) (below : Int) : Lg × Dk × Nat := ({ lg with segs := (trimL lg.dir below lg.segs d).1 }, (trimL lg.dir below lg.segs d).2.1, (trimL lg.dir below lg.segs d).2.2)
theorem trim_one (dir : Nm) (below : Int) (g : Sg) (d : Dk) : trimL dir below [g] d = ([g], d, 0) := rfl
theorem trim_stay {dir : Nm} {below : Int} {g g2 : Sg} {r : List Sg} {d : Dk} (h : ¬ (g.next : Int) ≤ below) : trimL dir below (g :: g2 :: r) d = (g :: g2 :: r, d, 0) := by rw [trimL, if_neg h]
theorem trim_go {dir : Nm} {below : Int} {g g2 : Sg} {r : List Sg} {d : Dk} {x : Dk × Nat} (h : (g.next : Int) ≤ below) (hx : d.remove (segN dir g.first) = x) (h0 : x.2 = 0) : trimL dir below (g :: g2 :: r) d = trimL dir below (g2 :: r) x.1 := by rw [trimL, if_pos h, hx, if_pos h0]
theorem trim_fell {dir : Nm} {below : Int} {g g2 : Sg} {r : List Sg} {d : Dk} {x : Dk × Nat} (h : (g.next : Int) ≤ below) (hx : d.remove (segN dir g.first) = x) (h0 : x.2 ≠ 0) : trimL dir below (g :: g2 :: r) d = (g :: g2 :: r, x.1, x.2) := by rw [trimL, if_pos h, hx, if_neg h0]
theorem remove_done (d : Dk) (s : Nm) : (d.remove s).1.done ≤ d.done + 1 := by
  have hs : d.spend.1.done ≤ d.done + 1 := by
    unfold Dk.spend
    split
    · exact Nat.le_succ _
    · exact Nat.le_refl _
  unfold Dk.remove
  split
  · exact Nat.le_succ _
  split
  · exact Nat.le_succ _
  split
  · exact hs
  · exact hs
section
variable {B : Nat} {w w' w1 w2 : World} {a dp : Nat} {C S : Nat → Prop} {lg lg' : Lg} {d d' : Dk}
theorem wl_tail {v : Value} {us : List Value} (h : WL B w a C lg dp S d) (hl : LAt C w1 a dp lg' v us) (ht : Tn C w w1) : WL B w1 a C lg' dp S d := ⟨⟨_, _, hl⟩, h.dk.tn ht (fun k hs hc => h.cs k hc hs), h.cb, h.sb, h.cs⟩
theorem logged_trim {below : Int} {gs : List Sg} {k : Nat} {C' S' : Nat → Prop} {r : List Sg × Dk × Nat} {x : List Sg × Dk × Nat} (hr : trimL lg.dir below lg.segs d = r) (he : r = x) (hx : x = (gs, d', k)) (hw : WL B w' a C' { lg with segs := gs } dp S' d') (hg : Went (fun k => C k ∨ S k) w w' (fun k => C' k ∨ S' k)) : Logged C S B w a dp (lg.trim d below) (.returned (.int .i64 (k : Int))) w' := by
  subst hx he
  unfold Lg.trim
  rw [hr]
  exact ⟨rfl, C', S', hw, hg⟩
set_option maxRecDepth 100000 in
set_option maxHeartbeats 8000000 in
theorem ltrim_any (h : WL B w a C lg dp S d) (hB : B ≤ w.heap.size) (hk : LOk lg) (hd : d.done ≤ 1000000000) (below : Int) : Calls Tryz.prog 28 #[ptr a, .int .i64 below] w (Logged C S B w a dp (lg.trim d below)) := by
  obtain ⟨N, hN⟩ : ∃ N, lg.segs.length = N + 1 := ⟨lg.segs.length - 1, by have := hk.ne; omega⟩
  have HW0 := Lib.hid h
  have HK := Lib.hid hk
  have HBW := Lib.hid hB
  have hfew := hk.few
  have HNF : Hid (N ≤ 1000000) := Lib.hid (by omega)
  have HD0 := Lib.hid hd
  have HN := Lib.hid hN
  clear h hk hB hN hfew hd
  go_enter Tryz.func28, Tryz.ntmps28
  go_wp2
  go_loopg [5] N (fun gk v5 wr => ∃ (C' S' : Nat → Prop) (gs : List Sg) (d' : Dk), gs.length = gk + 1 ∧ Hid (WL B wr a C' { lg with segs := gs } dp S' d') ∧ Hid (Went (fun k => C k ∨ S k) w wr (fun k => C' k ∨ S' k)) ∧ Hid (trimL lg.dir below lg.segs d = trimL lg.dir below gs d') ∧ Hid (∀ g ∈ gs, g ∈ lg.segs) ∧ Hid (d'.done + gk ≤ d.done + N))
  case atStart => exact ⟨C, S, lg.segs, d, HN.out, HW0, Lib.hid (went_below (Below.refl _ _)), Lib.hid rfl, Lib.hid (fun _ h => h), Lib.hid (Nat.le_refl _)⟩
  case round =>
    obtain ⟨C', S', gs, d', hgs, HW, HG, HT, HM, HDD⟩ := hrel
    cases gk with
    | zero =>
      obtain ⟨g1, rfl⟩ : ∃ g1, gs = [g1] := List.length_eq_one_iff.1 (by simpa using hgs)
      obtain ⟨v, us, hl⟩ := HW.out.lk
      obtain ⟨ao, cap, hv⟩ := own_slice hl.go.own
      subst hv
      have c3 := hl.c3
      have c3 : wr.cell? ⟨a, 3, none⟩ = some (.slice ao 1 cap) := c3
      clear hl hgs
      go_wp2
      go_ret
      exact logged_trim (k := 0) HT.out (trim_one _ _ _ _) rfl HW.out HG.out
    | succ gk2 =>
      obtain ⟨s, s2, r, rfl⟩ : ∃ s s2 r, gs = s :: s2 :: r := by
        match gs, hgs with
        | s :: s2 :: r, _ => exact ⟨s, s2, r, rfl⟩
      obtain ⟨n, hn⟩ : ∃ n, n = (s :: s2 :: r).length := ⟨_, rfl⟩
      have hn2 : n = gk2 + 1 + 1 := hn.trans hgs
      obtain ⟨v, us, hl⟩ := HW.out.lk
      obtain ⟨g, cap, bo, bc, rfl, hCg, hcap, hfz, g0, g1, g2, g3, _⟩ := hl.seg (k := 0) (Nat.succ_pos _)
      have hl' : LAt C' wr a dp { lg with segs := s :: s2 :: r } (.slice (some ⟨g, 0, none⟩) n cap) us := by rw [hn]; exact hl
      have HL := Lib.hid hl'
      have c0 := hl'.c0
      have c3 := hl'.c3
      have g0 : wr.cell? ⟨g, 0, none⟩ = some (nmv (segN lg.dir s.first)) := g0
      have g1 : wr.cell? ⟨g, 1, none⟩ = some (.int .i64 (s.first : Int)) := by simpa using g1
      have g2 : wr.cell? ⟨g, 2, none⟩ = some (.slice bo s.recs.length bc) := by simpa using g2
      have g3 : wr.cell? ⟨g, 3, none⟩ = some (.int .i64 (s.size : Int)) := by simpa using g3
      have hsm := HM.out s List.mem_cons_self
      have hnum := HK.out.num s hsm
      have hrm := HK.out.room s hsm
      have hrs := recs_size s
      have hdr := HK.out.dir
      have HFI : Hid (s.first ≤ 99999999) := Lib.hid hnum.2
      have HRC : Hid (s.recs.length ≤ 100000000) := Lib.hid (by omega)
      have HNM : Hid ((segN lg.dir s.first).length ≤ maxLen) := Lib.hid (by rw [segN_length hnum.2]; exact Nat.le_trans (show lg.dir.length + 9 ≤ 1000 by omega) (by decide))
      have HDN : Hid (d'.done < 9223372036854775807) := Lib.hid (by have := HDD.out; have := HNF.out; have := HD0.out; omega)
      have hn1 : 1 < n := by omega
      have hi0 : (0 : Int) < (n : Int) := by omega
      have hi1 : (1 : Int) < (n : Int) := by omega
      have hp0 : 0 < n := by omega
      have HNX : Hid (s.next = s.first + s.recs.length) := rfl
      have HAS : Hid (a < wr.heap.size) := Lib.hid (World.block_lt_of_cell? _ _ c0)
      have HGS : Hid (g < wr.heap.size) := Lib.hid (World.block_lt_of_cell? _ _ g0)
      have HN := Lib.hid hn
      have HN2 := Lib.hid hn2
      have HCA := Lib.hid (HW.out.cs _ hl'.ca)
      have HCG := Lib.hid (HW.out.cs _ hCg)
      have HGA : Hid (C' g) := Lib.hid hCg
      clear hl hl' hn hn2 hgs hcap hfz hsm hnum hrm hrs hdr hCg
      obtain ⟨nx, hnx⟩ : ∃ nx, s.first + s.recs.length = nx := ⟨_, rfl⟩
      have HNV := Lib.hid hnx
      have HNX2 := Lib.hid (HNX.out.trans hnx)
      clear hnx
      by_cases hle : (nx : Int) ≤ below
      · have d1 : decide ((nx : Int) ≤ below) = true := decide_eq_true hle
        obtain ⟨x, hx⟩ : ∃ x, d'.remove (segN lg.dir s.first) = x := ⟨_, rfl⟩
        have HR := Lib.hid hx
        have HRD : Hid (x.1.done ≤ d'.done + 1) := Lib.hid (by rw [← hx]; exact remove_done _ _)
        have HLE : Hid ((s.next : Int) ≤ below) := Lib.hid (by rw [HNX2.out]; exact hle)
        clear hx
        by_cases h0 : x.2 = 0
        · have q1 : (((x.2 : Nat) : Int) != 0) = false := by rw [h0]; rfl
          have HTG := Lib.hid (HT.out.trans (trim_go HLE.out HR.out h0))
          clear h0
          go_upto_region 2 with (go_at_call 72; (refine (fnext_any _ _ s.first s.recs.length bc s.size bo HFI.out HRC.out).mono ?_); rw [HNV.out]; rintro e w1 ⟨rfl, hb⟩; have HB1 := Lib.hid hb; have c0 := (hb.cell (p := ⟨a, 0, none⟩) HAS.out).trans c0; have c3 := (hb.cell (p := ⟨a, 3, none⟩) HAS.out).trans c3; have g0 := (hb.cell (p := ⟨g, 0, none⟩) HGS.out).trans g0; have HW := Lib.hid (HW.out.below hb); have HL := Lib.hid (HL.out.below hb); have HG := Lib.hid (HG.out.trans (went_below hb)); have HB1W : Hid (B ≤ w1.drew.heap.size) := Lib.hid (Nat.le_trans HBW.out HG.out.tn.size); clear hb)
          go_region_held (fun w' => w'.cell? ⟨a, 0, none⟩ = some (ptr dp) ∧ w'.cell? ⟨a, 3, none⟩ = some (.slice (some ⟨g, 0, none⟩) n cap) ∧ w'.cell? ⟨g, 0, none⟩ = some (nmv (segN lg.dir s.first))) (exact ⟨c0, c3, g0⟩) (first
            | (go_at_call 73; (refine (dk_remove (HW.out.dk.below (Below.refl _ _).drew) HNM.out HDN.out).mono ?_); rw [HR.out]; rintro e w2 ⟨rfl, hd, ht⟩; have HD2 := Lib.hid hd; have HT2 := Lib.hid ht; have c0 := ht.cell c0 HCA.out; have c3 := ht.cell c3 HCA.out; have g0 := ht.cell g0 HCG.out; have HW2 := Lib.hid ((HW.out.below (Below.refl _ _).drew).disk HB1W.out hd ht); have HL2 := Lib.hid ((HL.out.below (Below.refl _ _).drew).tn ht HW.out.cs); have HG2 := Lib.hid ((HG.out.trans (went_below (Below.refl _ _).drew)).trans (went_disk ht)); clear hd ht))
          have HNL : Hid (2 ≤ n) := Lib.hid hn1
          go_wp2_with (go_at_call 74; (refine (ldelete_any HL2.out HN.out HNL.out).mono ?_); rintro e w3 ⟨rfl, ho, ht⟩; obtain ⟨hl3, k3, z3, ht3⟩ := LAt.tail HL2.out rfl HN.out ho ht; have HL3 := Lib.hid hl3; have HT3 := Lib.hid ht3; clear hl3 ht3 ho ht)
          have h2 := HN2.out
          have h3 := HN.out
          have h4 := HDD.out
          have h5 := HRD.out
          go_roundg gk2
          case measure => omega
          case rel => exact ⟨C', _, s2 :: r, x.1, by simp at h3 ⊢; omega, Lib.hid (wl_tail HW2.out HL3.out HT3.out), Lib.hid (HG2.out.trans ⟨HT3.out.mono (fun k _ e => .inl e), fun k e => .inl e⟩), HTG, Lib.hid (fun y hy => HM.out y (List.mem_cons_of_mem _ hy)), Lib.hid (by omega)⟩
        · have q1 : (((x.2 : Nat) : Int) != 0) = true := by simpa using h0
          have HTG := Lib.hid (HT.out.trans (trim_fell HLE.out HR.out h0))
          clear h0
          go_upto_region 2 with (go_at_call 72; (refine (fnext_any _ _ s.first s.recs.length bc s.size bo HFI.out HRC.out).mono ?_); rw [HNV.out]; rintro e w1 ⟨rfl, hb⟩; have HB1 := Lib.hid hb; have c0 := (hb.cell (p := ⟨a, 0, none⟩) HAS.out).trans c0; have c3 := (hb.cell (p := ⟨a, 3, none⟩) HAS.out).trans c3; have g0 := (hb.cell (p := ⟨g, 0, none⟩) HGS.out).trans g0; have HW := Lib.hid (HW.out.below hb); have HL := Lib.hid (HL.out.below hb); have HG := Lib.hid (HG.out.trans (went_below hb)); have HB1W : Hid (B ≤ w1.drew.heap.size) := Lib.hid (Nat.le_trans HBW.out HG.out.tn.size); clear hb)
          go_region_held (fun w' => w'.cell? ⟨a, 0, none⟩ = some (ptr dp) ∧ w'.cell? ⟨a, 3, none⟩ = some (.slice (some ⟨g, 0, none⟩) n cap) ∧ w'.cell? ⟨g, 0, none⟩ = some (nmv (segN lg.dir s.first))) (exact ⟨c0, c3, g0⟩) (first
            | (go_at_call 73; (refine (dk_remove (HW.out.dk.below (Below.refl _ _).drew) HNM.out HDN.out).mono ?_); rw [HR.out]; rintro e w2 ⟨rfl, hd, ht⟩; have HD2 := Lib.hid hd; have HT2 := Lib.hid ht; have c0 := ht.cell c0 HCA.out; have c3 := ht.cell c3 HCA.out; have g0 := ht.cell g0 HCG.out; have HW2 := Lib.hid ((HW.out.below (Below.refl _ _).drew).disk HB1W.out hd ht); have HL2 := Lib.hid ((HL.out.below (Below.refl _ _).drew).tn ht HW.out.cs); have HG2 := Lib.hid ((HG.out.trans (went_below (Below.refl _ _).drew)).trans (went_disk ht)); clear hd ht))
          go_wp2
          go_ret
          exact logged_trim (k := x.2) HTG.out rfl rfl HW2.out HG2.out
      · have d1 : decide ((nx : Int) ≤ below) = false := decide_eq_false hle
        have HTG := Lib.hid (HT.out.trans (trim_stay (by rw [HNX2.out]; exact hle)))
        go_wp2_with (go_at_call 72; (refine (fnext_any _ _ s.first s.recs.length bc s.size bo HFI.out HRC.out).mono ?_); rw [HNV.out]; rintro e w1 ⟨rfl, hb⟩; have HB1 := Lib.hid hb; clear hb)
        go_ret
        exact logged_trim (k := 0) HTG.out rfl rfl (HW.out.below HB1.out) (HG.out.trans (went_below HB1.out))
end
end Go.Proofs.YtkilkhnoldfhcaaGreatDoor
