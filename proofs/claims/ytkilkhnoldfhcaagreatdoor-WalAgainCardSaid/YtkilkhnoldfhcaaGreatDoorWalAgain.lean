/- Open behind Open changes nothing that is told, nor the files: racelaw7.WalAgain answers true and leaves its arguments as they were. Conditions: the library's tables and errors hold what their initialisers lay. -/
import Derived.Test.YtkilkhnoldfhcaaGreatDoorLyh
namespace Go.Proofs.YtkilkhnoldfhcaaGreatDoor
open Go.ChangeShapes Go.WideShapes Go.ChangeAt Go.RowKit
theorem weiw_top {l : List Wo} (h : weiw l ≤ 20000) (i : Nat) : weiw (l.take i) ≤ 20000 := by
  have e : weiw l = weiw (l.take i) + weiw (l.drop i) := by
    conv => lhs; rw [← List.take_append_drop i l]
    unfold weiw
    rw [List.map_append, List.sum_append]
  omega
theorem Calm.wide {full k W V : Nat} {lg : Lg} {d : Dk} {lo : Nat} {all : List (List UInt8)} (h : Calm full k W lg d lo all) (hV : W ≤ V) : Calm full k V lg d lo all := ⟨h.ch, h.fu, h.mir, h.few, h.next, by have := h.wt; omega, h.mem, h.done, h.dir, h.full⟩
theorem upd_twice (f : Ent Fi) (s : Nm) (φ : Fi → Fi) (hφ : ∀ x, φ (φ x) = φ x) : upd (upd f s φ) s φ = upd f s φ := by
  unfold upd
  rw [List.map_map]
  refine List.map_congr_left fun q _ => ?_
  obtain ⟨a, x⟩ := q
  by_cases h : (a == s) = true
  · have e : (if (a == s) = true then (a, φ x) else (a, x)) = (a, φ x) := if_pos h
    show (if ((if (a == s) = true then (a, φ x) else (a, x)).1 == s) = true then ((if (a == s) = true then (a, φ x) else (a, x)).1, φ (if (a == s) = true then (a, φ x) else (a, x)).2) else (if (a == s) = true then (a, φ x) else (a, x))) = (if (a == s) = true then (a, φ x) else (a, x))
    rw [e]
    show (if (a == s) = true then (a, φ (φ x)) else (a, φ x)) = (a, φ x)
    rw [if_pos h, hφ]
  · have e : (if (a == s) = true then (a, φ x) else (a, x)) = (a, x) := if_neg h
    show (if ((if (a == s) = true then (a, φ x) else (a, x)).1 == s) = true then ((if (a == s) = true then (a, φ x) else (a, x)).1, φ (if (a == s) = true then (a, φ x) else (a, x)).2) else (if (a == s) = true then (a, φ x) else (a, x))) = (if (a == s) = true then (a, φ x) else (a, x))
    rw [e]
    exact e
/-- Synced again, the files stay. -/
theorem again_files {lg : Lg} {d : Dk} {lo : Nat} {all : List (List UInt8)} (hc : Ch lg lo all) (hm : Mir lg d) : ((lg.sync d).2.1.sync (segN (lg.sync d).1.dir (lg.sync d).1.last.first)).1.f = (lg.sync d).2.1.f := by
  obtain ⟨h1, h2⟩ := hm.sync hc.ok.last.1
  obtain ⟨h3, _⟩ := h2.sync hc.ok.last.1
  have e : lg.sync d = ({ lg with safe := lg.next - 1 }, (d.sync (segN lg.dir lg.last.first)).1, 0) := by unfold Lg.sync; rw [if_pos h1]
  rw [e]
  show ((d.sync (segN lg.dir lg.last.first)).1.sync (segN lg.dir lg.last.first)).1.f = (d.sync (segN lg.dir lg.last.first)).1.f
  have hh := hm.has hc.ok.last.1
  have hh2 := h2.has hc.ok.last.1
  have e1 : (d.sync (segN lg.dir lg.last.first)).1.f = upd d.f (segN lg.dir lg.last.first) fun x => ⟨x.data, x.data.length⟩ := by
    unfold Dk.sync
    rw [if_neg (by rw [hm.on]; decide), if_neg (by rw [hh]; decide), spend_calm hm.left, if_pos rfl]
  have e2 : ((d.sync (segN lg.dir lg.last.first)).1.sync (segN lg.dir lg.last.first)).1.f = upd (d.sync (segN lg.dir lg.last.first)).1.f (segN lg.dir lg.last.first) fun x => ⟨x.data, x.data.length⟩ := by
    generalize (d.sync (segN lg.dir lg.last.first)).1 = d1 at *
    unfold Dk.sync
    rw [if_neg (by rw [h2.on]; decide), if_neg (by rw [hh2]; decide), spend_calm h2.left, if_pos rfl]
  rw [e2, e1]
  exact upd_twice _ _ _ fun _ => rfl
set_option maxRecDepth 100000 in
set_option maxHeartbeats 8000000 in
theorem again_not (W : World) (seg : Int) (ao : Option Addr) (cap : Nat) (l : List Wo) (hl : SW (fun k => k < W.heap.size) W ao l.length cap l) (hT : Tabs W) (hc : fewW l = false ∨ (fewW l = true ∧ (seg < 64 ∨ 262144 < seg))) :
    Calls Tryz.prog 7 #[.int .i64 seg, .slice ao l.length cap] W fun e w' => e = .returned (.bool true) ∧ Below W.heap.size W w' := by
  have HT := Lib.hid hT
  have HL := Lib.hid hl
  have HB := Lib.hid (Below.refl W.heap.size W)
  have HF := fun w h => Lib.hid (feww_any (C := fun k => k < W.heap.size) (w := w) (ao := ao) (n := l.length) (cap := cap) (l := l) h)
  clear hT hl
  have A11 := fun w (h : Below W.heap.size W w) => Lib.hid (first7 w (HT.out.below h))
  rcases hc with h | ⟨h, h2⟩
  · rw [h] at HF
    clear h
    go_enter Tryz.func7, Tryz.ntmps7
    go_wp2_with (first
      | (go_at_call 11; (refine (A11 _ HB.out).out.mono ?_); rintro e w1 ⟨rfl, hb⟩; have HB := Lib.hid (HB.out.trans (hb.mono HB.out.size)); clear hb)
      | (go_at_call 12; (refine (HF _ (HL.out.below HB.out)).out.mono ?_); rintro e w1 ⟨rfl, hb⟩; have HB := Lib.hid (HB.out.trans (hb.mono HB.out.size)); clear hb))
    go_ret
    exact ⟨rfl, HB.out⟩
  · rw [h] at HF
    clear h
    rcases (show seg < 64 ∨ (¬ seg < 64 ∧ 262144 < seg) by omega) with h3 | ⟨h3, h4⟩
    · have d1 : decide (seg < 64) = true := decide_eq_true h3
      clear h2 h3
      go_enter Tryz.func7, Tryz.ntmps7
      go_wp2_with (first
        | (go_at_call 11; (refine (A11 _ HB.out).out.mono ?_); rintro e w1 ⟨rfl, hb⟩; have HB := Lib.hid (HB.out.trans (hb.mono HB.out.size)); clear hb)
        | (go_at_call 12; (refine (HF _ (HL.out.below HB.out)).out.mono ?_); rintro e w1 ⟨rfl, hb⟩; have HB := Lib.hid (HB.out.trans (hb.mono HB.out.size)); clear hb))
      go_ret
      exact ⟨rfl, HB.out⟩
    · have d1 : decide (seg < 64) = false := decide_eq_false h3
      have d2 : decide (262144 < seg) = true := decide_eq_true h4
      clear h2 h3 h4
      go_enter Tryz.func7, Tryz.ntmps7
      go_wp2_with (first
        | (go_at_call 11; (refine (A11 _ HB.out).out.mono ?_); rintro e w1 ⟨rfl, hb⟩; have HB := Lib.hid (HB.out.trans (hb.mono HB.out.size)); clear hb)
        | (go_at_call 12; (refine (HF _ (HL.out.below HB.out)).out.mono ?_); rintro e w1 ⟨rfl, hb⟩; have HB := Lib.hid (HB.out.trans (hb.mono HB.out.size)); clear hb))
      go_ret
      exact ⟨rfl, HB.out⟩
set_option maxRecDepth 100000 in
set_option maxHeartbeats 16000000 in
theorem again_main (W : World) (full : Nat) (h64 : 64 ≤ full ∧ full ≤ 262144) (ao : Option Addr) (cap : Nat) (l : List Wo) (hl : SW (fun k => k < W.heap.size) W ao l.length cap l) (hT : Tabs W) (hfew : fewW l = true) :
    Calls Tryz.prog 7 #[.int .i64 (full : Int), .slice ao l.length cap] W fun e w' => e = .returned (.bool true) ∧ Below W.heap.size W w' := by
  have HT := Lib.hid hT
  have H6 := Lib.hid hT.size
  have HL := Lib.hid hl
  have HB := Lib.hid (Below.refl W.heap.size W)
  have HF := fun w h => Lib.hid (feww_any (C := fun k => k < W.heap.size) (w := w) (ao := ao) (n := l.length) (cap := cap) (l := l) h)
  rw [hfew] at HF
  have A11 := fun w (h : Below W.heap.size W w) => Lib.hid (first7 w (HT.out.below h))
  have HFO := Lib.hid (f_openN full h64)
  obtain ⟨hl200, hwei⟩ := feww_yes hfew
  have HWE := Lib.hid hwei
  have HWM := Lib.hid (fun p hp => (weiw_mem hwei p hp).2)
  clear hT hl hfew hwei
  have d1 : decide ((full : Int) < 64) = false := decide_eq_false (by omega)
  have d2 : decide ((262144 : Int) < (full : Int)) = false := decide_eq_false (by omega)
  go_enter Tryz.func7, Tryz.ntmps7
  go_upto_region 5 with (first
    | (go_at_call 11; (refine (A11 _ HB.out).out.mono ?_); rintro e w6 ⟨rfl, hb⟩; have HB := Lib.hid (HB.out.trans (hb.mono HB.out.size)); clear hb)
    | (go_at_call 12; (refine (HF _ (HL.out.below HB.out)).out.mono ?_); rintro e w0 ⟨rfl, hb⟩; have HB := Lib.hid (HB.out.trans (hb.mono HB.out.size)); clear hb))
  have HBW : Hid (W.heap.size ≤ w0.heap.size) := Lib.hid HB.out.size
  have HB6 : Hid (6 ≤ w0.heap.size) := Lib.hid (Nat.le_trans H6.out HB.out.size)
  go_upto_region 11 with (first
    | (go_at_call 13; (refine (new_any _).mono ?_); rintro e w1 ⟨rfl, hb, hd⟩; have HD := Lib.hid hd; have HBX := Lib.hid hb; have HB := Lib.hid (HB.out.trans (hb.mono HB.out.size)); clear hb hd)
    | (go_at_call 23; (refine (open_any (B := w0.heap.size) HD.out (fun k hk => hk.1) HBX.out.size (HT.out.below HB.out) HB6.out dLog (by decide) (full : Int) (by decide) (by decide) (fun _ h => absurd (by kernel_rfl) h)).mono ?_); rw [HFO.out]; rintro e w2 ⟨_, a, C0, S0, rfl, hw, hg⟩; have HW0 := Lib.hid hw; have HBN := Lib.hid (hg.tn.below HBX.out.size (fun k hk => hk.1)); have HBX := Lib.hid (HBX.out.trans HBN.out); have HB := Lib.hid (HB.out.trans (HBN.out.mono HBW.out)); clear hw hg))
  go_wp2
  go_loopw [8] (fun vi wr => ∃ (i : Nat) (C S : Nat → Prop) (lg : Lg) (d : Dk) (lo : Nat) (all : List (List UInt8)), vi = .int .i64 (i : Int) ∧ i ≤ l.length ∧ Hid (WL w0.heap.size wr a C lg (w0.heap.size + 1) S d) ∧ Hid (Calm full i (weiw (l.take i)) lg d lo all) ∧ Hid (Below W.heap.size W wr) ∧ Hid (Below w0.heap.size w0 wr)) (fun vi _ => l.length - (intOf vi).toNat)
  case atStart => exact ⟨0, C0, S0, _, _, 1, [], rfl, Nat.zero_le _, HW0, Lib.hid (calm_zero full h64.1), HB, HBX⟩
  case round =>
    clear HW0 HB HBX HD
    obtain ⟨i, C, S, lg, d, lo, all, rfl, hi, HW, HCM, HB, HBX⟩ := hrel
    have hwt : weiw (l.take i) ≤ 20000 := weiw_top HWE.out i
    by_cases hlt : i < l.length
    · have hil : (i : Int) < (l.length : Int) := by omega
      have hil2 : decide ((i : Int) < (l.length : Int)) = true := decide_eq_true hil
      have hwi : IntKind.i64.wrap ((i : Int) + 1) = ((i + 1 : Nat) : Int) := by rw [wrap_in (by omega)]; omega
      obtain ⟨b, off, rfl, hbl, ho, hwf⟩ := HL.out.at_ hlt
      have q0 := (HB.out.cell (p := ⟨b, off + i * 6, none⟩) hbl).trans ho.c0
      have q1 := (HB.out.cell (p := ⟨b, off + i * 6 + 1, none⟩) hbl).trans ho.c1
      obtain ⟨a3, k3, c3, s3⟩ := ho.c3
      have q3 := (HB.out.cell (p := ⟨b, off + i * 6 + 3, none⟩) hbl).trans c3
      have htk := weiw_take hlt
      have hpb := HWM.out _ (List.getElem_mem hlt)
      have HS3 := Lib.hid s3
      have HLT := Lib.hid hlt
      have hok := HCM.out.ch.ok
      have hfw := HCM.out.few
      have hdn := HCM.out.done
      have HOK := Lib.hid hok
      have HFW : Hid (lg.segs.length ≤ 999999) := Lib.hid (by omega)
      have HDN : Hid (d.done ≤ 1000000000) := Lib.hid (by omega)
      have HDL : Hid (d.done < 9223372036854775807) := Lib.hid (by omega)
      have HRI := Lib.hid HW.out.dk.ok.rising
      generalize hv : weiw (l.take (i + 1)) = V at *
      have HV := Lib.hid hv
      generalize l[i] = p at *
      have hVle : weiw (l.take i) ≤ V := by omega
      have hVb : weiw (l.take i) + p.b.length ≤ V := by omega
      clear ho hwf s3 hbl c3 hlt hok hfw hdn htk hv
      have HE : Hid (∀ k, k < W.heap.size → k < wr.heap.size ∧ ¬ C k ∧ ¬ S k) := Lib.hid (fun k hk => ⟨Nat.lt_of_lt_of_le hk HB.out.size, fun e => absurd (HW.out.cb k e) (Nat.not_le_of_lt (Nat.lt_of_lt_of_le hk HBW.out)), fun e => absurd (HW.out.sb k e) (Nat.not_le_of_lt (Nat.lt_of_lt_of_le hk HBW.out))⟩)
      by_cases hk1 : p.kind = 1
      · have t1 : (p.kind == 1) = true := by simpa using hk1
        obtain ⟨hst, _, _⟩ := HCM.out.append (p := p.b) (V := V) (by omega) hwt hpb hVb
        clear hk1 hVle hVb hpb hwt
        generalize hr : lg.append d p.b = r at *
        have HCM2 : Hid (Calm full (i + 1) (weiw (l.take (i + 1))) r.1 r.2.1 lo _) := Lib.hid (by rw [HV.out]; exact hst)
        clear hst
        go_wp2_with (go_at_call 25; (refine (lappend_any HW.out HBX.out.size (HT.out.below HB.out) HB6.out HOK.out HFW.out HDN.out (HS3.out.below HB.out) HE.out).mono ?_); rw [hr]; rintro e w3 ⟨rfl, C, S, hw, hg⟩; have HBN := Lib.hid (HW.out.went HBX.out.size hg); have HBX := Lib.hid (HBX.out.trans HBN.out); have HB := Lib.hid (HB.out.trans (HBN.out.mono HBW.out)); have HW := Lib.hid hw; clear hw hg)
        go_roundw
        case rel => exact ⟨i + 1, C, S, r.1, r.2.1, lo, _, congrArg (Value.int .i64) (by omega), HLT.out, HW, HCM2, HB, HBX⟩
        case measure => (have hlt := HLT.out; simp [intOf]; omega)
      · have t1 : (p.kind == 1) = false := by simpa using hk1
        by_cases hk2 : p.kind = 2
        · have t2 : (p.kind == 2) = true := by simpa using hk2
          obtain ⟨hst, _, _, _⟩ := HCM.out.sync
          have hst := hst.wide hVle
          clear hk1 hk2 hVle hVb hpb hwt
          generalize hr : lg.sync d = r at *
          have HCM2 : Hid (Calm full (i + 1) (weiw (l.take (i + 1))) r.1 r.2.1 lo all) := Lib.hid (by rw [HV.out]; exact hst)
          clear hst
          go_wp2_with (go_at_call 27; (refine (lsync_any HW.out HBX.out.size HOK.out HDL.out).mono ?_); rw [hr]; rintro e w3 ⟨rfl, C, S, hw, hg⟩; have HBN := Lib.hid (HW.out.went HBX.out.size hg); have HBX := Lib.hid (HBX.out.trans HBN.out); have HB := Lib.hid (HB.out.trans (HBN.out.mono HBW.out)); have HW := Lib.hid hw; clear hw hg)
          go_roundw
          case rel => exact ⟨i + 1, C, S, r.1, r.2.1, lo, all, congrArg (Value.int .i64) (by omega), HLT.out, HW, HCM2, HB, HBX⟩
          case measure => (have hlt := HLT.out; simp [intOf]; omega)
        · have t2 : (p.kind == 2) = false := by simpa using hk2
          by_cases hk3 : p.kind = 3
          · have t3 : (p.kind == 3) = true := by simpa using hk3
            obtain ⟨lo', hst, _⟩ := HCM.out.trim HRI.out p.n
            have hst := hst.wide hVle
            clear hk1 hk2 hk3 hVle hVb hpb hwt
            generalize hr : lg.trim d p.n = r at *
            have HCM2 : Hid (Calm full (i + 1) (weiw (l.take (i + 1))) r.1 r.2.1 lo' (all.drop (lo' - lo))) := Lib.hid (by rw [HV.out]; exact hst)
            clear hst
            go_wp2_with (go_at_call 28; (refine (ltrim_any HW.out HBX.out.size HOK.out HDN.out p.n).mono ?_); rw [hr]; rintro e w3 ⟨rfl, C, S, hw, hg⟩; have HBN := Lib.hid (HW.out.went HBX.out.size hg); have HBX := Lib.hid (HBX.out.trans HBN.out); have HB := Lib.hid (HB.out.trans (HBN.out.mono HBW.out)); have HW := Lib.hid hw; clear hw hg)
            go_roundw
            case rel => exact ⟨i + 1, C, S, r.1, r.2.1, lo', _, congrArg (Value.int .i64) (by omega), HLT.out, HW, HCM2, HB, HBX⟩
            case measure => (have hlt := HLT.out; simp [intOf]; omega)
          · have t3 : (p.kind == 3) = false := by simpa using hk3
            have HCM2 : Hid (Calm full (i + 1) (weiw (l.take (i + 1))) lg d lo all) := Lib.hid (by rw [HV.out]; exact HCM.out.more.wide hVle)
            clear hk1 hk2 hk3 hVle hVb hpb hwt
            go_wp2
            go_roundw
            case rel => exact ⟨i + 1, C, S, lg, d, lo, all, congrArg (Value.int .i64) (by omega), HLT.out, HW, HCM2, HB, HBX⟩
            case measure => (have hlt := HLT.out; simp [intOf]; omega)
    · 
      obtain rfl : i = l.length := by omega
      have hil : ¬ ((l.length : Nat) : Int) < (l.length : Int) := by omega
      have hil2 : decide (((l.length : Nat) : Int) < (l.length : Int)) = false := decide_eq_false hil
      have hcm := HCM.out
      rw [List.take_length] at hcm
      have HOK0 := Lib.hid hcm.ch.ok
      obtain ⟨hcs, hc0, hsf, hsg⟩ := hcm.sync
      have hri := (lsync_ok (lg := lg) HW.out.dk.ok).rising
      have HDN : Hid (d.done < 9223372036854775807) := Lib.hid (by have := hcm.done; omega)
      have hidem := again_files hcm.ch hcm.mir
      clear hcm hi hsg
      generalize hsy : lg.sync d = rs at *
      obtain ⟨lg2, d2, c2⟩ := rs
      simp only at hcs hc0 hsf hri hidem
      subst hc0
      have HSY := Lib.hid hsy
      obtain ⟨hop, hc4⟩ := hcs.open hri h64
      have hnx := hcs.ch.next
      have hlg : ({ lg2 with safe := lg2.next - 1 } : Lg) = lg2 := by
        have e : lg2.next - 1 = lg2.safe := by omega
        rw [e]
      rw [hlg] at hop hc4
      obtain ⟨d3, hd3⟩ : ∃ d3, (d2.sync (segN lg2.dir lg2.last.first)).1 = d3 := ⟨_, rfl⟩
      rw [hd3] at hop hidem
      have HOP := Lib.hid hop
      have HFV : Hid (fvs d3.f = fvs d2.f) := Lib.hid (by rw [hidem])
      have HOK := Lib.hid hc4.ok
      have HTOT : Hid (tot d2.f ≤ 1000000) := Lib.hid (by have := hcs.tot; have := HWE.out; omega)
      have HDN3 : Hid (d2.done ≤ 1000000000) := Lib.hid (by have := hcs.done; omega)
      have hal : all.length ≤ 1000 := by have := hcs.next; omega
      obtain ⟨hf4, hm4⟩ := hc4.whole (by omega) (by omega)
      have hlo : (lg2.segs.getD 0 ⟨0, []⟩).first = lo := hc4.low
      have HFR : Hid (lg2.from ((lg2.segs.getD 0 ⟨0, []⟩).first : Int) 1073741824 = some all) := Lib.hid (by rw [hlo]; exact hf4)
      have HMN : Hid ((lg2.rests ((lg2.segs.getD 0 ⟨0, []⟩).first : Int)).length ≤ 1000000) := Lib.hid (by rw [hlo]; omega)
      have HSF : Hid (lg2.safe ≤ 1000000000) := Lib.hid (by have := hcs.next; omega)
      clear hcs hsf hri hsy hop hc4 hnx hlg hd3 hidem hf4 hm4 hlo hal
      go_upto_region 22 with (go_at_call 27; (refine (lsync_any HW.out HBX.out.size HOK0.out HDN.out).mono ?_); rw [HSY.out]; rintro e w4 ⟨rfl, C4, S4, hw, hg⟩; have HBN := Lib.hid (HW.out.went HBX.out.size hg); have HBX := Lib.hid (HBX.out.trans HBN.out); have HB := Lib.hid (HB.out.trans (HBN.out.mono HBW.out)); have HW := Lib.hid hw; clear hw hg)
      go_upto_region 23 with (go_at_call 35; (refine (dk_files HW.out.dk).mono ?_); rintro e w5 ⟨fo, fc, rfl, hs, hb⟩; have HS := Lib.hid hs; have HSL := Lib.hid HW.out.dk.lt; have HB := Lib.hid (HB.out.trans (hb.mono HB.out.size)); have HBX := Lib.hid (HBX.out.trans (hb.mono HBX.out.size)); have HW := Lib.hid (HW.out.below hb); clear hs hb)
      obtain ⟨vx, usx, hx⟩ := HW.out.lk
      have HX := Lib.hid hx
      clear hx
      go_upto_region 24 with (go_at_call 23; (refine (lopen_any HW.out.dk HW.out.sb HBX.out.size (HT.out.below HB.out) HB6.out dLog (by decide) (full : Int) HTOT.out HDN3.out).mono ?_); rw [HOP.out]; rintro e w9 ⟨_, a9, C9, S9, rfl, hw, hg⟩; have HBN := Lib.hid (hg.tn.below HBX.out.size HW.out.sb); have HBX := Lib.hid (HBX.out.trans HBN.out); have HB := Lib.hid (HB.out.trans (HBN.out.mono HBW.out)); have HX := Lib.hid (HX.out.tn hg.tn HW.out.cs); have HS := Lib.hid (HS.out.tn hg.tn (fun k hk e => by have := HSL.out k e; omega)); obtain ⟨vy, usy, hy⟩ := hw.lk; have HY := Lib.hid hy; have HDK := Lib.hid hw.dk; clear hw hg hy)
      go_upto_region 26 with (first
        | (go_at_call 31; (first | (with_reducible refine (first_any HY.out HOK.out).mono ?_) | (with_reducible refine (first_any HX.out HOK.out).mono ?_)); rintro e w5 ⟨rfl, rfl⟩)
        | (go_at_call 29; (first | (with_reducible refine (next_any HY.out HOK.out).mono ?_) | (with_reducible refine (next_any HX.out HOK.out).mono ?_)); rintro e w6 ⟨rfl, hb⟩; have HB := Lib.hid (HB.out.trans (hb.mono HB.out.size)); have HBX := Lib.hid (HBX.out.trans (hb.mono HBX.out.size)); have HY := Lib.hid (HY.out.below hb); have HX := Lib.hid (HX.out.below hb); have HDK := Lib.hid (HDK.out.below hb); have HS := Lib.hid (HS.out.below hb); clear hb)
        | (go_at_call 30; (first | (with_reducible refine (safe_any HY.out).mono ?_) | (with_reducible refine (safe_any HX.out).mono ?_)); rintro e w5 ⟨rfl, rfl⟩))
      go_upto_region 27 with (first
        | (go_at_call 31; (first | (with_reducible refine (first_any HY.out HOK.out).mono ?_) | (with_reducible refine (first_any HX.out HOK.out).mono ?_)); rintro e w5 ⟨rfl, rfl⟩)
        | (go_at_call 33; (refine (lfrom_any HX.out HOK.out HSF.out _ 1073741824 HMN.out).mono ?_); rw [HFR.out]; rintro e w7 ⟨⟨v7, r7, rfl, ⟨us7, hr7⟩, rfl⟩, hb⟩; obtain ⟨ao7, ac7, rfl⟩ := own_slice hr7.own; have HRA := Lib.hid hr7; have HB := Lib.hid (HB.out.trans (hb.mono HB.out.size)); have HBX := Lib.hid (HBX.out.trans (hb.mono HBX.out.size)); have HY := Lib.hid (HY.out.below hb); have HX := Lib.hid (HX.out.below hb); have HDK := Lib.hid (HDK.out.below hb); have HS := Lib.hid (HS.out.below hb); clear hb hr7))
      go_upto_region 28 with (first
        | (go_at_call 31; (first | (with_reducible refine (first_any HY.out HOK.out).mono ?_) | (with_reducible refine (first_any HX.out HOK.out).mono ?_)); rintro e w5 ⟨rfl, rfl⟩)
        | (go_at_call 33; (refine (lfrom_any HY.out HOK.out HSF.out _ 1073741824 HMN.out).mono ?_); rw [HFR.out]; rintro e w7 ⟨⟨v7, r7, rfl, ⟨us7, hr7⟩, rfl⟩, hb⟩; obtain ⟨bo7, bc7, rfl⟩ := own_slice hr7.own; have HRA := Lib.hid (HRA.out.below hb); have HRB := Lib.hid hr7; have HB := Lib.hid (HB.out.trans (hb.mono HB.out.size)); have HBX := Lib.hid (HBX.out.trans (hb.mono HBX.out.size)); have HY := Lib.hid (HY.out.below hb); have HX := Lib.hid (HX.out.below hb); have HDK := Lib.hid (HDK.out.below hb); have HS := Lib.hid (HS.out.below hb); clear hb hr7))
      go_wp2_with (first
        | (go_at_call 11; (refine (A11 _ HB.out).out.mono ?_); rintro e w6 ⟨rfl, hb⟩; have HRA := Lib.hid (HRA.out.below hb); have HRB := Lib.hid (HRB.out.below hb); have HB := Lib.hid (HB.out.trans (hb.mono HB.out.size)); have HBX := Lib.hid (HBX.out.trans (hb.mono HBX.out.size)); have HY := Lib.hid (HY.out.below hb); have HX := Lib.hid (HX.out.below hb); have HDK := Lib.hid (HDK.out.below hb); have HS := Lib.hid (HS.out.below hb); clear hb)
        | (go_at_call 34; (refine (Fr.rows_any (ro_rb2 HRA.out rfl) (ro_rb2 HRB.out rfl)).mono ?_); rw [beq_self_eq_true]; rintro e w8 ⟨rfl, q, hq⟩; have hb := below_of_drew hq; have HB := Lib.hid (HB.out.trans (hb.mono HB.out.size)); have HBX := Lib.hid (HBX.out.trans (hb.mono HBX.out.size)); have HY := Lib.hid (HY.out.below hb); have HX := Lib.hid (HX.out.below hb); have HDK := Lib.hid (HDK.out.below hb); have HS := Lib.hid (HS.out.below hb); clear hq hb)
        | (go_at_call 35; (refine (dk_files HDK.out).mono ?_); rw [HFV.out]; rintro e w5 ⟨fo2, fc2, rfl, hs, hb⟩; have HS2 := Lib.hid hs; have HB := Lib.hid (HB.out.trans (hb.mono HB.out.size)); have HBX := Lib.hid (HBX.out.trans (hb.mono HBX.out.size)); have HY := Lib.hid (HY.out.below hb); have HX := Lib.hid (HX.out.below hb); have HDK := Lib.hid (HDK.out.below hb); have HS := Lib.hid (HS.out.below hb); clear hs hb)
        | (go_at_call 36; (refine (same_any HS2.out HS.out).mono ?_); rw [sameF_self]; rintro e w8 ⟨rfl, q, hq⟩; have hb := below_of_drew hq; have HB := Lib.hid (HB.out.trans (hb.mono HB.out.size)); clear hq hb))
      go_ret
      exact ⟨rfl, HB.out⟩
theorem walAgain_walk (W : World) (seg : Int) (_ : -9223372036854775808 ≤ seg) (_ : seg ≤ 9223372036854775807) (ao : Option Addr) (cap : Nat) (l : List Wo) (hl : SW (fun k => k < W.heap.size) W ao l.length cap l) (hT : Tabs W) :
    Calls Tryz.prog 7 #[.int .i64 seg, .slice ao l.length cap] W fun e w' => e = .returned (.bool true) ∧ Below W.heap.size W w' := by
  cases hf : fewW l with
  | false => exact again_not W seg ao cap l hl hT (.inl hf)
  | true =>
    by_cases hs : seg < 64 ∨ 262144 < seg
    · exact again_not W seg ao cap l hl hT (.inr ⟨hf, hs⟩)
    · have h := again_main W seg.toNat (by omega) ao cap l hl hT hf
      rw [show ((seg.toNat : Nat) : Int) = seg by omega] at h
      exact h

set_option maxRecDepth 100000 in
theorem walAgain_lifted (os : Os) (started : os.Started) (H : Type) (enc : TypeId × Value → H) :
    ReturnsInHanded {} Tryz.checked os 7 .any (fun w args => (Rows.walAgainSpec.pre enc Tryz.prog Tryz.f7 [] false w args ∧ laidMetH Tryz.prog laid7 w) ∧ sizedMet enc Tryz.prog Tryz.f7 (OpenSpec.ofChange Rows.walAgainSpec) false w args)
      (Rows.walAgainSpec.post enc Tryz.prog Tryz.f7 false true false false) := by
  refine returnsInHanded_of_change_and (C := Tryz.checked) (X := fun w _ => laidMetH Tryz.prog laid7 w) (fun _ _ _ hh h => h.of_heap hh) own started (by kernel_rfl) Tryz.func7
    (ChangeSpec.witness_shaped (enc := enc) (C := Tryz.checked) (os := os) (X := fun w _ => laidMetH Tryz.prog laid7 w) false (World.doorLaid Tryz.prog 400 os) #[.int .i64 0, .slice none 0 0] 8 rfl (World.shaped_of_RefB (by kernel_rfl) (by kernel_rfl)) (by kernel_rfl) (by kernel_rfl) (by kernel_rfl) (door_met os _)) ?_
  intro W base args ds gs before hval0 hW _ _ hL _
  have hval : ∀ (j : Nat) t v, Tryz.f7.params[j]? = some t → args[j]? = some v → Value.okWide Tryz.prog W .any base t v := hval0
  have hW' := hW
  obtain ⟨p, q, hA0, hV, rfl, hfz, hnd⟩ := hW
  have hA : DataW.TrodAll enc Tryz.prog W 0 (fun _ => true) true Tryz.f7.params.toList args.toList ds p := hA0
  rw [Tryz.params7] at hA hval
  obtain ⟨v0, v1, d0, d1, p0, p1, rfl, rfl, rfl, h0, h1⟩ := trodAll_two hA
  obtain ⟨rfl, rfl⟩ := trodVars_none hV
  clear hA0 hval0
  simp only [List.append_nil] at hW'
  have hlt : ∀ x ∈ p0 ++ p1, x.block < W.heap.size := fun x hx => hW'.lt x (by simpa using hx)
  have hT := tabs_of_laid hL
  have k0 := h0
  obtain ⟨a0, rfl, rfl, rfl, wf0⟩ := open_int Tryz.underlying3 (hval 0 3 v0 rfl rfl) h0
  have hwf0 := wf0
  simp [Lit.wf, IntKind.min, IntKind.max, IntKind.signed, IntKind.bits] at hwf0
  have k1 := h1
  obtain ⟨b1, len1, cap1, rfl⟩ := okWide_slice Tryz.underlying22 (hval 1 22 v1 rfl rfl)
  obtain ⟨fuel1, g1⟩ := h1
  obtain ⟨ao1, c1, xs1, hv1, r1⟩ := open_sw g1
  refine Calls.mono (?walk : Calls _ _ _ _ fun e w' => e = .returned (.bool true) ∧ Below W.heap.size W w') fun e W' ⟨he, hw⟩ => ?_
  case walk =>
    rw [hv1]
    exact walAgain_walk W a0 (by omega) (by omega) ao1 c1 xs1 r1 hT
  subst he
  exact ⟨_, rfl, post_of_below (pa := [] ++ p1) (pv := []) hW' (fun _ _ _ => trodAll_mk1 (shut_bool Tryz.underlying4 _)) (fun sp hsp => trodAll_mk2 (WideElems.Trod_stays laidOut (by kernel_rfl) (of_decide_eq_true (by kernel_rfl)) k0 (fun x hx => hw.same (hlt x (nomatch hx))) (fun x hx => hsp x (nomatch hx))) (WideElems.Trod_stays laidOut (by kernel_rfl) (of_decide_eq_true (by kernel_rfl)) k1 (fun x hx => hw.same (hlt x (by simp [hx]))) (fun x hx => hsp x (by simp [hx])))) (fun _ _ => rfl) (by simp) hw (ok_one (by kernel_rfl) rfl (okWide_bool_mk Tryz.underlying4 _))⟩
theorem walAgain_holds : Rows.WalAgainSaid :=
  OpenClaim.holds_of_wide 7 Tryz.f7 rfl rfl rfl rfl rfl rfl rfl ⟨rfl, rfl, rfl, rfl, rfl⟩ rfl rfl rfl rfl rfl (by kernel_rfl) Tryz.func7 (by kernel_rfl)
    (of_decide_eq_true (by kernel_rfl)) (by unfold Func.isWrapper; first | (rw [if_pos (by decide +kernel)]; kernel_rfl) | (rw [if_neg (by decide +kernel)]; exact ⟨rfl, rfl⟩))
    (fun os started H enc _ => walAgain_lifted os started H enc)
/-- THE TIED CARD. -/
theorem walAgain_card : Rows.WalAgainCardSaid :=
  Claim7.holds_tied_plain_at .later [] [.data, .data, .data, .sentinel, .sentinel] true (true, "e9ab51ce47dcc3953fa184c943e4ea011639904eb8e571ed572ebda56f291a89") true
    walAgain_holds (fun _ h => by cases h) (by kernel_rfl) (fun _ h => by cases h) walAgain_row_tie rfl ⟨rfl, rfl⟩ (by kernel_rfl) rfl
    (fun f fn hf hfn => by
      obtain rfl : f = 7 := Option.some.inj ((show Tryz.prog.funcNamed "headrace/racelaw7.WalAgain" = some 7 by kernel_rfl).symm.trans hf) |>.symm
      obtain rfl : fn = Tryz.f7 := (Option.some.inj (Tryz.func7.symm.trans hfn)).symm
      exact ⟨by kernel_rfl, fun j t ht => by
        rw [Tryz.params7] at ht
        have hm : t ∈ [3, 22] := by simpa using Array.mem_of_getElem? ht
        have hall : ([3, 22].all fun u => !Tryz.prog.wantsStandIn u) = true := by kernel_rfl
        exact (show Tryz.prog.wantsStandIn t = false by simpa using List.all_eq_true.1 hall t hm)⟩)
    (by kernel_rfl)
#print axioms walAgain_card
end Go.Proofs.YtkilkhnoldfhcaaGreatDoor
