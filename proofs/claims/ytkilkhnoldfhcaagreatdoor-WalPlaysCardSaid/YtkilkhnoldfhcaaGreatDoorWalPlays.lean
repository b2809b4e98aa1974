/- Any operations, falls and crashes of the disk among them: wal's log answers, and stands, as the document's: racelaw7.WalPlays answers true and leaves its arguments as they were. Conditions: the library's tables and errors hold what their initialisers lay. -/
import Derived.Test.YtkilkhnoldfhcaaGreatDoorLzv
namespace Go.Proofs.YtkilkhnoldfhcaaGreatDoor
open Go.ChangeShapes Go.WideShapes Go.ChangeAt Go.RowKit
set_option maxRecDepth 100000 in
set_option maxHeartbeats 4000000 in
theorem plays_not (W : World) (dir : Nm) (seg : Int) (ao : Option Addr) (cap : Nat) (l : List Wo) (hl : SW (fun k => k < W.heap.size) W ao l.length cap l) (hT : Tabs W) (hn : fewW l = false ∨ (fewW l = true ∧ 200 < dir.length)) :
    Calls Tryz.prog 3 #[nmv dir, .int .i64 seg, .slice ao l.length cap] W fun e w' => e = .returned (.bool true) ∧ Below W.heap.size W w' := by
  have HT := Lib.hid hT
  have HL := Lib.hid hl
  have HB := Lib.hid (Below.refl W.heap.size W)
  clear hT hl
  rcases hn with hf | ⟨hf, hd⟩
  · have HF := Lib.hid hf
    clear hf
    go_enter Tryz.func3, Tryz.ntmps3
    go_wp2_with (first
      | (go_at_call 11; (refine (first7 _ (HT.out.below HB.out)).mono ?_); rintro e w1 ⟨rfl, hb⟩; have HB := Lib.hid (HB.out.trans (hb.mono HB.out.size)); clear hb)
      | (go_at_call 12; (refine (feww_any (HL.out.below HB.out)).mono ?_); rw [HF.out]; rintro e w0 ⟨rfl, hb⟩; have HB := Lib.hid (HB.out.trans (hb.mono HB.out.size)); clear hb))
    go_ret
    exact ⟨rfl, HB.out⟩
  · have HF := Lib.hid hf
    have d1 : (200 : Int) < (dir.length : Int) := by omega
    have d2 : decide ((200 : Int) < (dir.length : Int)) = true := decide_eq_true d1
    clear hf hd
    go_enter Tryz.func3, Tryz.ntmps3
    go_wp2_with (first
      | (go_at_call 11; (refine (first7 _ (HT.out.below HB.out)).mono ?_); rintro e w1 ⟨rfl, hb⟩; have HB := Lib.hid (HB.out.trans (hb.mono HB.out.size)); clear hb)
      | (go_at_call 12; (refine (feww_any (HL.out.below HB.out)).mono ?_); rw [HF.out]; rintro e w0 ⟨rfl, hb⟩; have HB := Lib.hid (HB.out.trans (hb.mono HB.out.size)); clear hb))
    go_ret
    exact ⟨rfl, HB.out⟩
set_option maxRecDepth 100000 in
set_option maxHeartbeats 8000000 in
theorem plays_main (W : World) (dir : Nm) (seg : Int) (ao : Option Addr) (cap : Nat) (l : List Wo) (hl : SW (fun k => k < W.heap.size) W ao l.length cap l) (hT : Tabs W) (hf : fewW l = true) (hd : dir.length ≤ 200) :
    Calls Tryz.prog 3 #[nmv dir, .int .i64 seg, .slice ao l.length cap] W fun e w' => e = .returned (.bool true) ∧ Below W.heap.size W w' := by
  have HT := Lib.hid hT
  have HL := Lib.hid hl
  have HB := Lib.hid (Below.refl W.heap.size W)
  have HF := Lib.hid hf
  have HDL : Hid (dir.length ≤ 1000) := Lib.hid (by omega)
  have hw := feww_yes hf
  have HWE := Lib.hid hw
  have HWM := Lib.hid (weiw_mem hw.2)
  have H6 := Lib.hid hT.size
  have d1 : ¬ (200 : Int) < (dir.length : Int) := by omega
  have d2 : decide ((200 : Int) < (dir.length : Int)) = false := decide_eq_false d1
  have hll := hl.lt
  clear hT hl hf hd hw
  go_enter Tryz.func3, Tryz.ntmps3
  go_upto_region 6 with (first
    | (go_at_call 11; (refine (first7 _ (HT.out.below HB.out)).mono ?_); rintro e w1 ⟨rfl, hb⟩; have HB := Lib.hid (HB.out.trans (hb.mono HB.out.size)); clear hb)
    | (go_at_call 12; (refine (feww_any (HL.out.below HB.out)).mono ?_); rw [HF.out]; rintro e w0 ⟨rfl, hb⟩; have HB := Lib.hid (HB.out.trans (hb.mono HB.out.size)); clear hb)
    | (go_at_call 13; (refine (new_any _).mono ?_); rintro e w2 ⟨rfl, hb, hd⟩; have HD2 := Lib.hid hd; have HS0 := Lib.hid HB.out.size; have HB2 := Lib.hid hb; have HB := Lib.hid (HB.out.trans (hb.mono HB.out.size)); clear hd hb))
  clear d1 d2
  have hbo0 : Bo W.heap.size ((w2.alloc (.cells #[.slice none 0 0, .bool false, .int .i64 0, .int .i64 0] 31)).alloc (.cells #[ptr (w0.heap.size + 1), ptr w2.heap.size, .pointer none, .pointer none, nmv dir, .int .i64 seg] 35)) (w2.heap.size + 1) (.pointer none) (.pointer none) (w0.heap.size + 1) w2.heap.size dir seg none .zero (fun k => w0.heap.size ≤ k ∧ k < w2.heap.size) (· = w2.heap.size) := by
    have hb1 := below1 w2 (.cells #[.slice none 0 0, .bool false, .int .i64 0, .int .i64 0] 31)
    have e := bo_new (B := W.heap.size) (dir := dir) (seg := seg) (w := w2.alloc (.cells #[.slice none 0 0, .bool false, .int .i64 0, .int .i64 0] 31)) (Nat.le_trans HB.out.size hb1.size) (HD2.out.below hb1) (fun j hj => Nat.le_trans HS0.out hj.1) (rk_new w2) (fun j hj => by rw [hj]; exact HB.out.size) (fun j hj e => by rw [e] at hj; omega)
    have hs : (w2.alloc (.cells #[.slice none 0 0, .bool false, .int .i64 0, .int .i64 0] 31)).heap.size = w2.heap.size + 1 := by simp
    rw [hs] at e
    exact e
  obtain ⟨w3, hw3⟩ : ∃ w3, w3 = (w2.alloc (.cells #[.slice none 0 0, .bool false, .int .i64 0, .int .i64 0] 31)).alloc (.cells #[ptr (w0.heap.size + 1), ptr w2.heap.size, .pointer none, .pointer none, nmv dir, .int .i64 seg] 35) := ⟨_, rfl⟩
  have HB3 : Hid (Below W.heap.size W w3) := Lib.hid (by
    rw [hw3]
    exact below_alloc (below_alloc HB.out _ HB.out.size) _ (Nat.le_trans HB.out.size (by simp)))
  obtain ⟨k, hk⟩ : ∃ k, k = w2.heap.size + 1 := ⟨_, rfl⟩
  obtain ⟨dp, hdp⟩ : ∃ dp, dp = w0.heap.size + 1 := ⟨_, rfl⟩
  obtain ⟨c, hc⟩ : ∃ c, c = w2.heap.size := ⟨_, rfl⟩
  rw [← hw3, ← hk, ← hdp, ← hc] at hbo0
  have HBO := Lib.hid hbo0
  have hpk : (Value.pointer (some { block := w2.heap.size + 1, off := 0 })) = ptr k := by rw [hk]
  have hpc : (Value.pointer (some { block := w2.heap.size, off := 0 })) = ptr c := by rw [hc]
  rw [hpk, hpc, ← hdp]
  have hw3' : w3 = (w2.alloc (.cells #[.slice none 0 0, .bool false, .int .i64 0, .int .i64 0] 31)).alloc (.cells #[ptr dp, ptr c, .pointer none, .pointer none, nmv dir, .int .i64 seg] 35) := by rw [hw3, hdp, hc]
  rw [← hw3']
  have HB := HB3
  have c0 := HBO.out.c0
  clear hbo0 hw3 hw3' hpk hpc hk hdp hc HD2 HB2 HS0
  have HOK0 : Hid (Ok Dk.zero) := ok_zero
  have HPI := Lib.hid (Pi.open (dir := dir) (seg := seg) (T := 0) (D := 0) HOK0.out (Nat.le_refl 0) (Nat.le_refl 0) (by decide))
  obtain ⟨r, hr⟩ : ∃ r, openL dir seg .zero = r := ⟨_, rfl⟩
  have HRR := Lib.hid hr
  rw [hr] at HPI
  clear hr
  go_wp2_with (go_at_call 14; (refine (opens_any H6.out HDL.out _ _ _ _ _ _ _ HBO.out (HT.out.below HB.out) (Nat.zero_le _) (Nat.zero_le _)).mono ?_); rw [HRR.out]; rintro e w5 ⟨rfl, lv, mv, U, V, hb5, hu5⟩; have HBO5 := Lib.hid hb5; have HB := Lib.hid (HB.out.trans hu5); clear hb5 hu5)
  clear c0
  go_loopg [8, 9] l.length (fun gk v8 v9 wr => ∃ (i : Nat) (lv mv : Value) (o : Option Lg) (d : Dk) (U V : Nat → Prop), gk + i = l.length ∧ v8 = .int .i64 (i : Int) ∧ Hid (Bo W.heap.size wr k lv mv dp c dir seg o d U V) ∧ Hid (Below W.heap.size W wr) ∧ Hid (Pi (64 + i) (weiw (l.take i) + 12 * i) (2 + 300 * i) dir seg o d))
  case atStart => exact ⟨0, lv, mv, _, _, U, V, rfl, rfl, HBO5, HB, Lib.hid (HPI.out.mono (Nat.le_refl _) (Nat.zero_le _) (Nat.le_refl _))⟩
  case round =>
    obtain ⟨i, lv, mv, o, d, U, V, hi, rfl, HBO, HB, HPI⟩ := hrel
    by_cases hil : i < l.length
    · have hlt2 : (i : Int) < (l.length : Int) := by omega
      have hlt3 : decide ((i : Int) < (l.length : Int)) = true := decide_eq_true hlt2
      obtain ⟨ab, off, rfl, hab, ha, hwf⟩ := HL.out.at_ hil
      have hpw := HWM.out _ (List.getElem_mem hil)
      have hwt := weiw_take hil
      have hwe := (weiw_take_le l (i + 1))
      obtain ⟨p, hp⟩ : ∃ p, p = l[i] := ⟨_, rfl⟩
      rw [← hp] at ha hwf hpw hwt
      obtain ⟨bo, bc, a3, sb⟩ := ha.c3
      obtain ⟨po, pc, a5, si⟩ := ha.c5
      have c0 := (HB.out.cell (p := ⟨ab, off + i * 6, none⟩) hab).trans ha.c0
      have c1 := (HB.out.cell (p := ⟨ab, off + i * 6 + 1, none⟩) hab).trans ha.c1
      have c2 := (HB.out.cell (p := ⟨ab, off + i * 6 + 2, none⟩) hab).trans ha.c2
      have c3 := (HB.out.cell (p := ⟨ab, off + i * 6 + 3, none⟩) hab).trans a3
      have c4 := (HB.out.cell (p := ⟨ab, off + i * 6 + 4, none⟩) hab).trans ha.c4
      have c5 := (HB.out.cell (p := ⟨ab, off + i * 6 + 5, none⟩) hab).trans a5
      have HSB := Lib.hid sb
      have HSI := Lib.hid si
      have HPW := Lib.hid hpw
      have HWT := Lib.hid hwt
      have HWL := Lib.hid hwe
      have HIL := Lib.hid hil
      obtain ⟨h1, h2, h3, h4, h5, h6', h7⟩ := cutN_facts p hwf
      have HCW := Lib.hid h1
      have HC4 := Lib.hid h4
      obtain ⟨gk2, rfl⟩ : ∃ gk2, gk = gk2 + 1 := ⟨gk - 1, by omega⟩
      clear ha hwf hpw hwt hwe a3 a5 sb si hab hp h1 h2 h3 h4 h5 h6' h7
      go_upto_region 12 with (fail)
      clear c0 c1 c2 c3 c4 c5
      obtain ⟨x, hx⟩ : ∃ x, x = wr.heap.size := ⟨_, rfl⟩
      obtain ⟨wX, hwX⟩ : ∃ wX, wX = wr.alloc (.cells #[.int .i64 p.kind, .int .i64 p.n, .int .i64 p.m, .slice bo p.b.length bc, nmv p.name, .slice po p.picks.length pc] 39) := ⟨_, rfl⟩
      have hXB : XB wX x (.int .i64 p.kind) (.int .i64 p.n) (.int .i64 p.m) (.slice bo p.b.length bc) (nmv p.name) (.slice po p.picks.length pc) := ⟨by rw [hwX, hx]; exact heap_alloc_new wr _⟩
      have HBX : Hid (Below W.heap.size W wX) := Lib.hid (by rw [hwX]; exact below_alloc HB.out _ HB.out.size)
      have HBOX : Hid (Bo W.heap.size wX k lv mv dp c dir seg o d U V) := Lib.hid (by rw [hwX]; exact HBO.out.below (below1 wr _))
      have HXN : Hid (W.heap.size ≤ x ∧ (∀ j, U j → ¬ j = x) ∧ (∀ j, V j → ¬ j = x) ∧ ¬ k = x) := Lib.hid (by
        rw [hx]
        exact ⟨HB.out.size, fun j hj e => by have := (HBO.out.lp.lt j hj).2; omega, fun j hj e => by have := (HBO.out.rp.lt j hj).2; omega, fun e => by have := HBO.out.lt; omega⟩)
      change Code.wp _ _ _ _ (wr.alloc (.cells #[.int .i64 p.kind, .int .i64 p.n, .int .i64 p.m, .slice bo p.b.length bc, nmv p.name, .slice po p.picks.length pc] 39))
      rw [← hwX, ← hx]
      have HXB := Lib.hid hXB
      have HN64 : Hid (64 + i ≤ 999990) := Lib.hid (by have := HWE.out.1; omega)
      have HT60 : Hid (weiw (l.take i) + 12 * i + (p.b.length + 12) ≤ 60000) := Lib.hid (by have h1 := HWE.out; have h2 := HWL.out; have h3 := HWT.out; have h4 := HPW.out; omega)
      have HD9 : Hid (2 + 300 * i ≤ 900000000) := Lib.hid (by have := HWE.out.1; omega)
      have HNW : Hid (wrap64 ((i : Int) + 1) = ((i + 1 : Nat) : Int)) := Lib.hid (by have := HWE.out.1; unfold wrap64; omega)
      clear hx hwX hXB
      by_cases hcut : 4 < p.name.length ∧ p.kind = 9
      · have q1 : decide ((4 : Int) < (p.name.length : Int)) = true := decide_eq_true (by omega)
        have q1' : (4 : Int) < (p.name.length : Int) := by omega
        have hext : (⟨p.name.toArray⟩ : ByteArray).extract 0 4 = ⟨(p.name.take 4).toArray⟩ := ext_take p.name 4
        have hnl4 : (4 : Int) ≤ (p.name.length : Int) := by omega
        have x0 : wX.cell? ⟨x, 0, none⟩ = some (.int .i64 9) := by rw [← hcut.2]; exact HXB.out.c0
        have x4 := HXB.out.c4
        have f4 : wX.frozen? ⟨x, 4, none⟩ = false := frozen_zero HXB.out.box
        have hcp : cutN p = { p with name := p.name.take 4 } := if_pos hcut
        have HCP := Lib.hid hcp
        have hkk := hcut.2
        have HKK := Lib.hid hkk
        clear hcut hcp hkk
        go_upto_region 14 with (fail)
        obtain ⟨wY, hwY⟩ : ∃ wY, wY = wX.setCell ⟨x, 4, none⟩ (.string ⟨(p.name.take 4).toArray⟩) := ⟨_, rfl⟩
        have hTY : Tn (· = x) wX wY := by rw [hwY]; exact tn_set (Tn.refl _ _) _
        have hXY : XB wY x (.int .i64 p.kind) (.int .i64 p.n) (.int .i64 p.m) (.slice bo p.b.length bc) (nmv (p.name.take 4)) (.slice po p.picks.length pc) := ⟨by rw [hwY]; exact heap_set (o := 4) HXB.out.box _ rfl⟩
        have HBO := Lib.hid (HBOX.out.tn hTY (fun j hj => HXN.out.2.1 j hj) (fun j hj => HXN.out.2.2.1 j hj) HXN.out.2.2.2)
        have HB := Lib.hid (HBX.out.trans (hTY.below HBX.out.size (fun j e => e ▸ HXN.out.1)))
        rw [← hwY]
        have x0 := hXY.c0
        have x1 := hXY.c1
        have x2 := hXY.c2
        have x3 := hXY.c3
        have x4 := hXY.c4
        have x5 := hXY.c5
        have hcp := HCP.out
        rw [hcp] at HCW HC4
        clear hwY hTY hXY hcp f4 hext q1 q1' hnl4
        go_wp2_with (first
          | (go_at_call 15; (refine (does_any HBO.out (HT.out.on (HB.out.mono H6.out)) H6.out HPI.out HN64.out (Nat.le_trans (Nat.le_add_right _ _) HT60.out) HD9.out HDL.out HCW.out HPW.out.2 HC4.out (HSB.out.on2 HB.out (fun _ e => e)) (si_on HSI.out HB.out (fun _ e => e)) (fun _ e => e)).mono ?_); rintro e w6 ⟨rfl, lv6, mv6, U6, V6, hb6, hu6⟩; have HBO6 := Lib.hid hb6; have HB := Lib.hid (HB.out.trans hu6); clear hb6 hu6; have HPI6 := Lib.hid (play_pi (p := { p with name := p.name.take 4 }) HPI.out HBO.out.okd HN64.out HT60.out HC4.out HWT.out HPW.out.2 (by have := HWE.out.1; have := HIL.out; omega)))
          | (go_at_call 16; (refine (stands_any HBO6.out HPI6.out (by have h1 := HWE.out; have h2 := HWL.out; have h3 := HIL.out; omega)).mono ?_); rintro e w7 ⟨rfl, hb7⟩; have HBO7 := Lib.hid (HBO6.out.below hb7); have HB := Lib.hid (HB.out.trans (hb7.mono HB.out.size)); clear hb7))
        go_roundg gk2
        case measure => omega
        case rel => exact ⟨i + 1, lv6, mv6, _, _, U6, V6, by omega, congrArg (Value.int .i64) (by omega), HBO7, HB, HPI6⟩
      · have hcp : cutN p = p := if_neg hcut
        rw [hcp] at HCW HC4
        have x0 := HXB.out.c0
        have x1 := HXB.out.c1
        have x2 := HXB.out.c2
        have x3 := HXB.out.c3
        have x4 := HXB.out.c4
        have x5 := HXB.out.c5
        have HB := HBX
        have HBO := HBOX
        have hq : decide ((4 : Int) < (p.name.length : Int)) = false ∨ (p.kind == 9) = false := by
          by_cases h4 : 4 < p.name.length
          · exact .inr (neb (fun e => hcut ⟨h4, e⟩))
          · exact .inl (decide_eq_false (by omega))
        clear hcut hcp
        rcases hq with hq | hq
        · have hq2 : ¬ (4 : Int) < (p.name.length : Int) := of_decide_eq_false hq
          go_wp2_with (first
            | (go_at_call 15; (refine (does_any HBO.out (HT.out.on (HB.out.mono H6.out)) H6.out HPI.out HN64.out (Nat.le_trans (Nat.le_add_right _ _) HT60.out) HD9.out HDL.out HCW.out HPW.out.2 HC4.out (HSB.out.on2 HB.out (fun _ e => e)) (si_on HSI.out HB.out (fun _ e => e)) (fun _ e => e)).mono ?_); rintro e w6 ⟨rfl, lv6, mv6, U6, V6, hb6, hu6⟩; have HBO6 := Lib.hid hb6; have HB := Lib.hid (HB.out.trans hu6); clear hb6 hu6; have HPI6 := Lib.hid (play_pi (p := p) HPI.out HBO.out.okd HN64.out HT60.out HC4.out HWT.out HPW.out.2 (by have := HWE.out.1; have := HIL.out; omega)))
            | (go_at_call 16; (refine (stands_any HBO6.out HPI6.out (by have h1 := HWE.out; have h2 := HWL.out; have h3 := HIL.out; omega)).mono ?_); rintro e w7 ⟨rfl, hb7⟩; have HBO7 := Lib.hid (HBO6.out.below hb7); have HB := Lib.hid (HB.out.trans (hb7.mono HB.out.size)); clear hb7))
          go_roundg gk2
          case measure => omega
          case rel => exact ⟨i + 1, lv6, mv6, _, _, U6, V6, by omega, congrArg (Value.int .i64) (by omega), HBO7, HB, HPI6⟩
        · cases hq3 : decide ((4 : Int) < (p.name.length : Int)) with
          | true =>
            have hq2 : (4 : Int) < (p.name.length : Int) := of_decide_eq_true hq3
            go_wp2_with (first
              | (go_at_call 15; (refine (does_any HBO.out (HT.out.on (HB.out.mono H6.out)) H6.out HPI.out HN64.out (Nat.le_trans (Nat.le_add_right _ _) HT60.out) HD9.out HDL.out HCW.out HPW.out.2 HC4.out (HSB.out.on2 HB.out (fun _ e => e)) (si_on HSI.out HB.out (fun _ e => e)) (fun _ e => e)).mono ?_); rintro e w6 ⟨rfl, lv6, mv6, U6, V6, hb6, hu6⟩; have HBO6 := Lib.hid hb6; have HB := Lib.hid (HB.out.trans hu6); clear hb6 hu6; have HPI6 := Lib.hid (play_pi (p := p) HPI.out HBO.out.okd HN64.out HT60.out HC4.out HWT.out HPW.out.2 (by have := HWE.out.1; have := HIL.out; omega)))
              | (go_at_call 16; (refine (stands_any HBO6.out HPI6.out (by have h1 := HWE.out; have h2 := HWL.out; have h3 := HIL.out; omega)).mono ?_); rintro e w7 ⟨rfl, hb7⟩; have HBO7 := Lib.hid (HBO6.out.below hb7); have HB := Lib.hid (HB.out.trans (hb7.mono HB.out.size)); clear hb7))
            go_roundg gk2
            case measure => omega
            case rel => exact ⟨i + 1, lv6, mv6, _, _, U6, V6, by omega, congrArg (Value.int .i64) (by omega), HBO7, HB, HPI6⟩
          | false =>
            have hq2 : ¬ (4 : Int) < (p.name.length : Int) := of_decide_eq_false hq3
            go_wp2_with (first
              | (go_at_call 15; (refine (does_any HBO.out (HT.out.on (HB.out.mono H6.out)) H6.out HPI.out HN64.out (Nat.le_trans (Nat.le_add_right _ _) HT60.out) HD9.out HDL.out HCW.out HPW.out.2 HC4.out (HSB.out.on2 HB.out (fun _ e => e)) (si_on HSI.out HB.out (fun _ e => e)) (fun _ e => e)).mono ?_); rintro e w6 ⟨rfl, lv6, mv6, U6, V6, hb6, hu6⟩; have HBO6 := Lib.hid hb6; have HB := Lib.hid (HB.out.trans hu6); clear hb6 hu6; have HPI6 := Lib.hid (play_pi (p := p) HPI.out HBO.out.okd HN64.out HT60.out HC4.out HWT.out HPW.out.2 (by have := HWE.out.1; have := HIL.out; omega)))
              | (go_at_call 16; (refine (stands_any HBO6.out HPI6.out (by have h1 := HWE.out; have h2 := HWL.out; have h3 := HIL.out; omega)).mono ?_); rintro e w7 ⟨rfl, hb7⟩; have HBO7 := Lib.hid (HBO6.out.below hb7); have HB := Lib.hid (HB.out.trans (hb7.mono HB.out.size)); clear hb7))
            go_roundg gk2
            case measure => omega
            case rel => exact ⟨i + 1, lv6, mv6, _, _, U6, V6, by omega, congrArg (Value.int .i64) (by omega), HBO7, HB, HPI6⟩
    · have hlt2 : ¬ (i : Int) < (l.length : Int) := by omega
      have hlt3 : decide ((i : Int) < (l.length : Int)) = false := decide_eq_false hlt2
      go_wp2_with (first
        | (go_at_call 11; (refine (first7 _ (HT.out.below HB.out)).mono ?_); rintro e w1 ⟨rfl, hb⟩; have HB := Lib.hid (HB.out.trans (hb.mono HB.out.size)); clear hb))
      go_ret
      exact ⟨rfl, HB.out⟩
theorem walPlays_walk (W : World) (dir : Nm) (_ : dir.length ≤ 9223372036854775807) (seg : Int) (_ : -9223372036854775808 ≤ seg) (_ : seg ≤ 9223372036854775807) (ao : Option Addr) (cap : Nat) (l : List Wo) (hl : SW (fun k => k < W.heap.size) W ao l.length cap l) (hT : Tabs W) :
    Calls Tryz.prog 3 #[nmv dir, .int .i64 seg, .slice ao l.length cap] W fun e w' => e = .returned (.bool true) ∧ Below W.heap.size W w' := by
  cases hf : fewW l with
  | false => exact plays_not W dir seg ao cap l hl hT (.inl hf)
  | true =>
    by_cases hd : 200 < dir.length
    · exact plays_not W dir seg ao cap l hl hT (.inr ⟨hf, hd⟩)
    · exact plays_main W dir seg ao cap l hl hT hf (by omega)

set_option maxRecDepth 100000 in
theorem walPlays_lifted (os : Os) (started : os.Started) (H : Type) (enc : TypeId × Value → H) :
    ReturnsInHanded {} Tryz.checked os 3 .any (fun w args => (Rows.walPlaysSpec.pre enc Tryz.prog Tryz.f3 [] false w args ∧ laidMetH Tryz.prog laid7 w) ∧ sizedMet enc Tryz.prog Tryz.f3 (OpenSpec.ofChange Rows.walPlaysSpec) false w args)
      (Rows.walPlaysSpec.post enc Tryz.prog Tryz.f3 false true false false) := by
  refine returnsInHanded_of_change_and (C := Tryz.checked) (X := fun w _ => laidMetH Tryz.prog laid7 w) (fun _ _ _ hh h => h.of_heap hh) own started (by kernel_rfl) Tryz.func3
    (ChangeSpec.witness_shaped (enc := enc) (C := Tryz.checked) (os := os) (X := fun w _ => laidMetH Tryz.prog laid7 w) false (World.doorLaid Tryz.prog 400 os) #[.string ⟨#[]⟩, .int .i64 0, .slice none 0 0] 8 rfl (World.shaped_of_RefB (by kernel_rfl) (by kernel_rfl)) (by kernel_rfl) (by kernel_rfl) (by kernel_rfl) (door_met os _)) ?_
  intro W base args ds gs before hval0 hW _ _ hL _
  have hval : ∀ (j : Nat) t v, Tryz.f3.params[j]? = some t → args[j]? = some v → Value.okWide Tryz.prog W .any base t v := hval0
  have hW' := hW
  obtain ⟨p, q, hA0, hV, rfl, hfz, hnd⟩ := hW
  have hA : DataW.TrodAll enc Tryz.prog W 0 (fun _ => true) true Tryz.f3.params.toList args.toList ds p := hA0
  rw [Tryz.params3] at hA hval
  obtain ⟨v0, v1, v2, d0, d1, d2, p0, p1, p2, rfl, rfl, rfl, h0, h1, h2⟩ := trodAll_three hA
  obtain ⟨rfl, rfl⟩ := trodVars_none hV
  clear hA0 hval0
  simp only [List.append_nil] at hW'
  have hlt : ∀ x ∈ p0 ++ p1 ++ p2, x.block < W.heap.size := fun x hx => hW'.lt x (by simpa using hx)
  have hT := tabs_of_laid hL
  have k0 := h0
  obtain ⟨s0, rfl, rfl, rfl, wf0⟩ := ChangeMaps.open_string Tryz.underlying9 (hval 0 9 v0 rfl rfl) h0
  have hwf0 : s0.data.toList.length ≤ 9223372036854775807 := by
    have e : s0.data.toList.length = s0.size := by rw [Array.length_toList]; rfl
    rw [e]; unfold maxLen at wf0; omega
  have k1 := h1
  obtain ⟨a1, rfl, rfl, rfl, wf1⟩ := open_int Tryz.underlying3 (hval 1 3 v1 rfl rfl) h1
  have hwf1 := wf1
  simp [Lit.wf, IntKind.min, IntKind.max, IntKind.signed, IntKind.bits] at hwf1
  have k2 := h2
  obtain ⟨b2, len2, cap2, rfl⟩ := okWide_slice Tryz.underlying22 (hval 2 22 v2 rfl rfl)
  obtain ⟨fuel2, g2⟩ := h2
  obtain ⟨ao2, c2, xs2, hv2, r2⟩ := open_sw g2
  refine Calls.mono (?walk : Calls _ _ _ _ fun e w' => e = .returned (.bool true) ∧ Below W.heap.size W w') fun e W' ⟨he, hw⟩ => ?_
  case walk =>
    rw [← bytes_self s0]
    rw [hv2]
    exact walPlays_walk W s0.data.toList hwf0 a1 (by omega) (by omega) ao2 c2 xs2 r2 hT
  subst he
  exact ⟨_, rfl, post_of_below (pa := [] ++ ([] ++ p2)) (pv := []) hW' (fun _ _ _ => trodAll_mk1 (shut_bool Tryz.underlying4 _)) (fun sp hsp => trodAll_mk3 (WideElems.Trod_stays laidOut (by kernel_rfl) (of_decide_eq_true (by kernel_rfl)) k0 (fun x hx => hw.same (hlt x (nomatch hx))) (fun x hx => hsp x (nomatch hx))) (WideElems.Trod_stays laidOut (by kernel_rfl) (of_decide_eq_true (by kernel_rfl)) k1 (fun x hx => hw.same (hlt x (nomatch hx))) (fun x hx => hsp x (nomatch hx))) (WideElems.Trod_stays laidOut (by kernel_rfl) (of_decide_eq_true (by kernel_rfl)) k2 (fun x hx => hw.same (hlt x (by simp [hx]))) (fun x hx => hsp x (by simp [hx])))) (fun _ _ => rfl) (by simp) hw (ok_one (by kernel_rfl) rfl (okWide_bool_mk Tryz.underlying4 _))⟩
theorem walPlays_holds : Rows.WalPlaysSaid :=
  OpenClaim.holds_of_wide 3 Tryz.f3 rfl rfl rfl rfl rfl rfl rfl ⟨rfl, rfl, rfl, rfl, rfl⟩ rfl rfl rfl rfl rfl (by kernel_rfl) Tryz.func3 (by kernel_rfl)
    (of_decide_eq_true (by kernel_rfl)) (by unfold Func.isWrapper; first | (rw [if_pos (by decide +kernel)]; kernel_rfl) | (rw [if_neg (by decide +kernel)]; exact ⟨rfl, rfl⟩))
    (fun os started H enc _ => walPlays_lifted os started H enc)
/-- THE TIED CARD. -/
theorem walPlays_card : Rows.WalPlaysCardSaid :=
  Claim7.holds_tied_plain_at .later [] [.data, .data, .data, .sentinel, .sentinel] true (true, "e9ab51ce47dcc3953fa184c943e4ea011639904eb8e571ed572ebda56f291a89") true
    walPlays_holds (fun _ h => by cases h) (by kernel_rfl) (fun _ h => by cases h) walPlays_row_tie rfl ⟨rfl, rfl⟩ (by kernel_rfl) rfl
    (fun f fn hf hfn => by
      obtain rfl : f = 3 := Option.some.inj ((show Tryz.prog.funcNamed "headrace/racelaw7.WalPlays" = some 3 by kernel_rfl).symm.trans hf) |>.symm
      obtain rfl : fn = Tryz.f3 := (Option.some.inj (Tryz.func3.symm.trans hfn)).symm
      exact ⟨by kernel_rfl, fun j t ht => by
        rw [Tryz.params3] at ht
        have hm : t ∈ [9, 3, 22] := by simpa using Array.mem_of_getElem? ht
        have hall : ([9, 3, 22].all fun u => !Tryz.prog.wantsStandIn u) = true := by kernel_rfl
        exact (show Tryz.prog.wantsStandIn t = false by simpa using List.all_eq_true.1 hall t hm)⟩)
    (by kernel_rfl)
#print axioms walPlays_card
end Go.Proofs.YtkilkhnoldfhcaaGreatDoor
