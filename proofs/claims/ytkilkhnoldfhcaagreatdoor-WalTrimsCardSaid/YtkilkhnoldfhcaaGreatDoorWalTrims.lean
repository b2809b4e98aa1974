/- What is trimmed are records below the number alone, and the others stay, behind an Open too: racelaw7.WalTrims answers true and leaves its arguments as they were. Conditions: the library's tables and errors hold what their initialisers lay. -/
import Derived.Test.YtkilkhnoldfhcaaGreatDoorLyh
namespace Go.Proofs.YtkilkhnoldfhcaaGreatDoor
open Go.ChangeShapes Go.WideShapes Go.ChangeAt Go.RowKit
theorem rb_e {w : World} {ad : Addr} {n c : Nat} {M : List (List UInt8)} (hn : n = 0) (hc : c ≤ maxLen) (hM : M = []) : Fr.RB w.heap.size w (some ad) n c M := by
  subst hn hM
  exact ⟨rfl, Nat.zero_le _, hc, (fun e => by cases e), .inl rfl⟩
set_option maxRecDepth 100000 in
set_option maxHeartbeats 16000000 in
theorem walTrims_walk (W : World) (seg : Int) (_hs1 : -9223372036854775808 ≤ seg) (_hs2 : seg ≤ 9223372036854775807) (ao : Option Addr) (cap : Nat) (L : List (List UInt8)) (hR : Fr.RB W.heap.size W ao L.length cap L) (below : Int) (_hb1 : -9223372036854775808 ≤ below) (_hb2 : below ≤ 9223372036854775807) (hT : Tabs W) :
    Calls Tryz.prog 8 #[.int .i64 seg, .slice ao L.length cap, .int .i64 below] W fun e w' => e = .returned (.bool true) ∧ Below W.heap.size W w' := by
  have HT := Lib.hid hT
  have HR := Lib.hid hR
  have HB := Lib.hid (Below.refl W.heap.size W)
  have HLT := hR.lt
  have H6 := Lib.hid hT.size
  clear hT hR _hs1 _hs2 _hb1 _hb2
  have A11 := fun w (h : Below W.heap.size W w) => Lib.hid (first7 w (HT.out.below h))
  go_enter Tryz.func8, Tryz.ntmps8
  go_wp2_with (go_at_call 11; (refine (A11 _ HB.out).out.mono ?_); rintro e w0 ⟨rfl, hb⟩; have HB := Lib.hid (HB.out.trans (hb.mono HB.out.size)); clear hb)
  go_loop [7, 8] (fun vn vi => ∃ i : Nat, vi = .int .i64 (i : Int) ∧ vn = .int .i64 (weiR (L.take i) : Nat) ∧ i ≤ L.length ∧ i ≤ 100) (fun _ vi => 100 - (intOf vi).toNat)
  case atStart => exact ⟨0, rfl, rfl, Nat.zero_le _, Nat.zero_le _⟩
  case round =>
    obtain ⟨i, rfl, rfl, hi, h100⟩ := hrel
    have hwl := weiR_le (L.take i)
    rw [List.length_take] at hwl
    by_cases hlt : i < L.length ∧ i < 100
    · obtain ⟨hlt, h1⟩ := hlt
      obtain ⟨b, off, ro, m, c, rfl, g0, hsb⟩ := (HR.out.below HB.out).at_ hlt
      have hp : L.getD i [] = L[i] := by rw [List.getD_eq_getElem?_getD, List.getElem?_eq_getElem hlt]; rfl
      have hml := hsb.len
      rw [hp] at hml
      have HWT := Lib.hid (weiR_take hlt)
      rw [← hml] at HWT
      have hmx := hsb.lt
      clear hsb hp hml
      have m1 : min (m : Int) 20001 = ((min m 20001 : Nat) : Int) := by omega
      have d1 : (i : Int) < 100 := by omega
      generalize weiR (L.take i) = s at *
      go_wp2
      go_round
      case rel => exact ⟨i + 1, by go_num, by rw [HWT.out]; exact congrArg (Value.int .i64) (by omega), hlt, h1⟩
      case measure => simp [intOf]; omega
    · have hbad : (seg < 64 ∨ 262144 < seg ∨ 100 < L.length ∨ 20000 < weiR (L.take i)) ∨ (64 ≤ seg ∧ seg ≤ 262144 ∧ i = L.length ∧ weiR L ≤ 20000) := by
        by_cases e : i = L.length
        · have e2 : L.take i = L := by rw [e, List.take_length]
          rw [e2]
          omega
        · omega
      have hex : ¬ i < L.length ∨ (i < L.length ∧ ¬ (i : Int) < 100) := by
        by_cases e : i < L.length
        · exact .inr ⟨e, by omega⟩
        · exact .inl e
      rcases hbad with hbad | ⟨h64a, h64b, rfl, hwt⟩
      · generalize weiR (L.take i) = s at *
        clear hlt
        rcases hex with e1 | ⟨e1, e2⟩
        all_goals
          by_cases c1 : seg < 64
          · have c1 : decide (seg < 64) = true := decide_eq_true c1
            clear hbad
            go_wp2_with (first
              | (go_at_call 11; (refine (A11 _ HB.out).out.mono ?_); rintro e w6 ⟨rfl, hb⟩; have HB := Lib.hid (HB.out.trans (hb.mono HB.out.size)); clear hb))
            go_ret
            exact ⟨rfl, HB.out⟩
          · have c1' : decide (seg < 64) = false := decide_eq_false c1
            by_cases c2 : 262144 < seg
            · have c2 : decide (262144 < seg) = true := decide_eq_true c2
              clear hbad
              go_wp2_with (first
                | (go_at_call 11; (refine (A11 _ HB.out).out.mono ?_); rintro e w6 ⟨rfl, hb⟩; have HB := Lib.hid (HB.out.trans (hb.mono HB.out.size)); clear hb))
              go_ret
              exact ⟨rfl, HB.out⟩
            · have c2' : decide (262144 < seg) = false := decide_eq_false c2
              by_cases c3 : 100 < L.length
              · have c3a : decide ((100 : Int) < (L.length : Int)) = true := decide_eq_true (by omega)
                have c3b : decide (100 < L.length) = true := decide_eq_true c3
                clear hbad
                go_wp2_with (first
                  | (go_at_call 11; (refine (A11 _ HB.out).out.mono ?_); rintro e w6 ⟨rfl, hb⟩; have HB := Lib.hid (HB.out.trans (hb.mono HB.out.size)); clear hb))
                go_ret
                exact ⟨rfl, HB.out⟩
              · have c3a : decide ((100 : Int) < (L.length : Int)) = false := decide_eq_false (by omega)
                have c3b : decide (100 < L.length) = false := decide_eq_false c3
                have c4a : decide ((20000 : Int) < (s : Int)) = true := decide_eq_true (by omega)
                have c4b : decide (20000 < s) = true := decide_eq_true (by omega)
                clear hbad
                go_wp2_with (first
                  | (go_at_call 11; (refine (A11 _ HB.out).out.mono ?_); rintro e w6 ⟨rfl, hb⟩; have HB := Lib.hid (HB.out.trans (hb.mono HB.out.size)); clear hb))
                go_ret
                exact ⟨rfl, HB.out⟩
      · have e1 : ¬ L.length < L.length := Nat.lt_irrefl _
        rw [List.take_length] at *
        have HWM := Lib.hid (weiR_mem hwt)
        have c1 : decide (seg < 64) = false := decide_eq_false (by omega)
        have c2 : decide (262144 < seg) = false := decide_eq_false (by omega)
        have c3a : decide ((100 : Int) < (L.length : Int)) = false := decide_eq_false (by omega)
        have c3b : decide (100 < L.length) = false := decide_eq_false (by omega)
        have c4a : decide ((20000 : Int) < (weiR L : Int)) = false := decide_eq_false (by omega)
        have c4b : decide (20000 < weiR L) = false := decide_eq_false (by omega)
        obtain ⟨full, rfl⟩ : ∃ full : Nat, seg = (full : Int) := ⟨seg.toNat, by omega⟩
        have h64 : 64 ≤ full ∧ full ≤ 262144 := by omega
        have HFO := Lib.hid (f_openN full h64)
        have hln := HWM.out.2
        have hL100 : L.length ≤ 100 := h100
        clear hlt hex hwl hwt h64a h64b HLT
        go_upto_region 10 with (fail)
        have HBW : Hid (W.heap.size ≤ w0.heap.size) := Lib.hid HB.out.size
        have HB6 : Hid (6 ≤ w0.heap.size) := Lib.hid (Nat.le_trans H6.out HB.out.size)
        generalize weiR L = swr at *
        go_upto_region 14 with (first
          | (go_at_call 13; (refine (new_any _).mono ?_); rintro e w1 ⟨rfl, hb, hd⟩; have HD := Lib.hid hd; have HBX := Lib.hid hb; have HB := Lib.hid (HB.out.trans (hb.mono HB.out.size)); clear hb hd)
          | (go_at_call 23; (refine (open_any (B := w0.heap.size) HD.out (fun k hk => hk.1) HBX.out.size (HT.out.below HB.out) HB6.out dLog (by decide) (full : Int) (by decide) (by decide) (fun _ h => absurd (by kernel_rfl) h)).mono ?_); rw [HFO.out]; rintro e w2 ⟨_, a, C0, S0, rfl, hw, hg⟩; have HW0 := Lib.hid hw; have HBN := Lib.hid (hg.tn.below HBX.out.size (fun k hk => hk.1)); have HBX := Lib.hid (HBX.out.trans HBN.out); have HB := Lib.hid (HB.out.trans (HBN.out.mono HBW.out)); clear hw hg))
        go_upto_region 16 with (fail)
        go_wp2
        go_loopw [12] (fun vi wr => ∃ (i : Nat) (C S : Nat → Prop) (lg : Lg) (d : Dk), vi = .int .i64 (i : Int) ∧ i ≤ L.length ∧ Hid (WL w0.heap.size wr a C lg (w0.heap.size + 1) S d) ∧ Hid (Calm full i ((L.take i).map List.length).sum lg d 1 (L.take i)) ∧ Hid (Below W.heap.size W wr) ∧ Hid (Below w0.heap.size w0 wr)) (fun vi _ => L.length - (intOf vi).toNat)
        case atStart => exact ⟨0, C0, S0, _, _, rfl, Nat.zero_le _, HW0, Lib.hid (calm_zero full h64.1), HB, HBX⟩
        case round =>
          clear HW0 HB HBX HD
          obtain ⟨i, C, S, lg, d, rfl, hi, HW, HCM, HB, HBX⟩ := hrel
          have hsm := sum_take_le L i
          by_cases hlt : i < L.length
          · have hil : (i : Int) < (L.length : Int) := by omega
            have hil2 : decide ((i : Int) < (L.length : Int)) = true := decide_eq_true hil
            have hwi : IntKind.i64.wrap ((i : Int) + 1) = ((i + 1 : Nat) : Int) := by rw [wrap_in (by omega)]; omega
            obtain ⟨b, off, ro, m, c, rfl, g0', hsb⟩ := HR.out.at_ hlt
            have g0 := (HB.out.cell (p := ⟨b, off + i, none⟩) (World.block_lt_of_cell? _ _ g0')).trans g0'
            have hp : L.getD i [] = L[i] := by rw [List.getD_eq_getElem?_getD, List.getElem?_eq_getElem hlt]; rfl
            rw [hp] at hsb
            have hml := hsb.len
            subst hml
            have hpl := HWM.out.1 _ (List.getElem_mem hlt)
            have htk : L.take (i + 1) = L.take i ++ [L[i]] := List.take_succ_eq_append_getElem hlt
            have hstep := HCM.out.append (p := L[i]) (V := ((L.take (i + 1)).map List.length).sum) (by omega) (by omega) hpl (by rw [htk, List.map_append, List.sum_append]; simp)
            rw [← htk] at hstep
            have HP := Lib.hid (sb_fr (hsb.below HB.out))
            have hok := HCM.out.ch.ok
            have hfw := HCM.out.few
            have hdn := HCM.out.done
            have HOK := Lib.hid hok
            have HFW : Hid (lg.segs.length ≤ 999999) := Lib.hid (by omega)
            have HDN : Hid (d.done ≤ 1000000000) := Lib.hid (by omega)
            have HTL : Hid ((L.take i).length = i) := Lib.hid (by rw [List.length_take]; omega)
            have HLT := Lib.hid hlt
            clear hp hsb hpl htk hok hfw hdn g0' hsm
            generalize L[i] = p at *
            clear hlt
            generalize hr : lg.append d p = r at *
            have HWO := HW
            have HE : Hid (∀ k, k < W.heap.size → k < wr.heap.size ∧ ¬ C k ∧ ¬ S k) := Lib.hid (fun k hk => ⟨Nat.lt_of_lt_of_le hk HB.out.size, fun e => absurd (HW.out.cb k e) (Nat.not_le_of_lt (Nat.lt_of_lt_of_le hk HBW.out)), fun e => absurd (HW.out.sb k e) (Nat.not_le_of_lt (Nat.lt_of_lt_of_le hk HBW.out))⟩)
            by_cases h0 : r.2.2.2 = 0
            · obtain ⟨q1, q2, _⟩ := hstep
              rw [if_pos h0] at q1
              have q2 := q2 h0
              have q1' : Calm full (i + 1) ((L.take (i + 1)).map List.length).sum r.1 r.2.1 1 (L.take (i + 1)) := q1
              have HC1 := Lib.hid q1'
              have hn : r.2.2.1 = i + 1 := by rw [q2, HTL.out]; omega
              have t1 : (((r.2.2.2 : Nat) : Int) != 0) = false := by rw [h0]; rfl
              clear q1 q1' q2 h0
              have HN := Lib.hid hn
              clear hn
              go_wp2_with (go_at_call 25; (refine (lappend_any HW.out HBX.out.size (HT.out.below HB.out) HB6.out HOK.out HFW.out HDN.out HP.out HE.out).mono ?_); rw [hr]; rintro e w3 ⟨rfl, C3, S3, hw, hg⟩; rw [HN.out]; have HW3 := Lib.hid hw; have HBN := Lib.hid (HW.out.went HBX.out.size hg); have HBX3 := Lib.hid (HBX.out.trans HBN.out); have HB3 := Lib.hid (HB.out.trans (HBN.out.mono HBW.out)); clear hw hg)
              have hlt := HLT.out
              go_roundw
              case rel => exact ⟨i + 1, C3, S3, r.1, r.2.1, congrArg (Value.int .i64) (by omega), hlt, HW3, HC1, HB3, HBX3⟩
              case measure => simp [intOf]; omega
            · obtain ⟨_, _, q3⟩ := hstep
              have q4 := (q3.resolve_left h0).2
              have t1 : (((r.2.2.2 : Nat) : Int) != 0) = true := by simpa using h0
              clear q3 h0
              have HQ4 := Lib.hid q4
              clear q4
              go_upto_region 21 with (go_at_call 25; (refine (lappend_any HW.out HBX.out.size (HT.out.below HB.out) HB6.out HOK.out HFW.out HDN.out HP.out HE.out).mono ?_); rw [hr]; rintro e w3 ⟨rfl, C3, S3, hw, hg⟩; have HW := Lib.hid hw; have HBN := Lib.hid (HWO.out.went HBX.out.size hg); have HBX := Lib.hid (HBX.out.trans HBN.out); have HB := Lib.hid (HB.out.trans (HBN.out.mono HBW.out)); clear hw hg)
              have h64f : (fvs r.2.1.f).length = 64 := by
                rw [fvs_length]
                have h1 := HW.out.dk.ok.few
                have h2 := HQ4.out
                omega
              go_wp2_with (first
                | (go_at_call 11; (refine (A11 _ HB.out).out.mono ?_); rintro e w6 ⟨rfl, hb⟩; have HB := Lib.hid (HB.out.trans (hb.mono HB.out.size)); have HBX := Lib.hid (HBX.out.trans (hb.mono HBX.out.size)); have HW := Lib.hid (HW.out.below hb); clear hb)
                | (go_at_call 37; (refine (dk_list HW.out.dk).mono ?_); rw [h64f]; rintro e w7 ⟨lo7, lc7, rfl, hb⟩; have HB := Lib.hid (HB.out.trans (hb.mono HB.out.size)); clear hb))
              go_ret
              exact ⟨rfl, HB.out⟩
          ·
            -- all rows are in
            obtain rfl : i = L.length := by omega
            have hil : ¬ L.length < L.length := Nat.lt_irrefl _
            have hcm := HCM.out
            rw [List.take_length] at hcm
            have HCM := Lib.hid hcm
            obtain ⟨hcs, hc0, hsf, hsg⟩ := hcm.sync
            have hri := (lsync_ok (lg := lg) HW.out.dk.ok).rising
            have HDN : Hid (d.done < 9223372036854775807) := Lib.hid (by have := hcm.done; omega)
            clear hcm hi hsm hsg
            generalize hsy : lg.sync d = rs at *
            obtain ⟨lg2, d2, c2⟩ := rs
            simp only at hcs hc0 hsf hri
            subst hc0
            have HSY := Lib.hid hsy
            have HCS := Lib.hid hcs
            have HDN2 : Hid (d2.done ≤ 1000000000) := Lib.hid (by have := hcs.done; omega)
            obtain ⟨A, hct, ht0, hA1, hAn, hwhy, hsafe, hri3⟩ := hcs.trim hri below
            clear hcs hri hsy
            generalize htr : lg2.trim d2 below = rt at *
            obtain ⟨lg3, d3, c3⟩ := rt
            simp only at hct ht0 hsafe hri3
            subst ht0
            have HTR := Lib.hid htr
            obtain ⟨hop, hc4⟩ := hct.open hri3 h64
            obtain ⟨k0, hk0⟩ : ∃ k0, A - 1 = k0 := ⟨_, rfl⟩
            rw [hk0] at hct hAn hc4
            generalize hM : L.drop k0 = M at *
            have hdl : M.length = L.length - k0 := by rw [← hM]; exact List.length_drop
            have HM := Lib.hid hM
            clear hM
            have hnx := hct.ch.next
            have HC3 := Lib.hid hct.ch
            have HC4 := Lib.hid hc4
            have HOP := Lib.hid hop
            have HTOT : Hid (tot d3.f ≤ 1000000) := Lib.hid (by have := hct.tot; omega)
            have HDN3 : Hid (d3.done ≤ 1000000000) := Lib.hid (by have := hct.done; omega)
            have hsf3 : lg3.safe + 1 = A + M.length := by omega
            obtain ⟨hf3, hm3⟩ := hct.ch.whole hsf3 (by omega)
            obtain ⟨hf4, hm4⟩ := hc4.whole (by show lg3.next - 1 + 1 = _; omega) (by omega)
            have HF3 := Lib.hid hf3
            have HF3M : Hid ((lg3.rests (A : Int)).length ≤ 1000000) := Lib.hid (by omega)
            have HF3S : Hid (lg3.safe ≤ 1000000000) := Lib.hid (by omega)
            have HF4 := Lib.hid hf4
            have HF4M := Lib.hid (show (Lg.rests { lg3 with safe := lg3.next - 1 } (A : Int)).length ≤ 1000000 by omega)
            have HF4S := Lib.hid (show (lg3.next - 1 : Nat) ≤ 1000000000 by omega)
            have HNX : Hid (lg3.next = L.length + 1) := Lib.hid (by omega)
            have hw3 : IntKind.i64.wrap ((A : Int) - 1) = (k0 : Int) := by rw [wrap_in (by omega)]; omega
            have hk1 : k0 ≤ L.length := hAn
            have hge : ¬ (1 : Int) < (A : Int) ∨ ((1 : Int) < (A : Int) ∧ ¬ below < (A : Int)) := by omega
            have HCAP := Lib.hid HR.out.le
            have hla : L.length ≤ 100 := hL100
            clear hwhy hsf3 hf3 hm3 hf4 hm4 hnx hdl hop hc4 hct htr hsafe hri3 hsf hAn hA1 hk0
            go_upto_region 26 with (first
              | (go_at_call 27; (refine (lsync_any HW.out HBX.out.size HCM.out.ch.ok HDN.out).mono ?_); rw [HSY.out]; rintro e w4 ⟨rfl, C4, S4, hw, hg⟩; have HBN := Lib.hid (HW.out.went HBX.out.size hg); have HBX := Lib.hid (HBX.out.trans HBN.out); have HB := Lib.hid (HB.out.trans (HBN.out.mono HBW.out)); have HW := Lib.hid hw; clear hw hg)
              | (go_at_call 28; (refine (ltrim_any HW.out HBX.out.size HCS.out.ch.ok HDN2.out below).mono ?_); rw [HTR.out]; rintro e w5 ⟨rfl, C5, S5, hw, hg⟩; have HBN := Lib.hid (HW.out.went HBX.out.size hg); have HBX := Lib.hid (HBX.out.trans HBN.out); have HB := Lib.hid (HB.out.trans (HBN.out.mono HBW.out)); have HW := Lib.hid hw; clear hw hg))
            go_upto_region 27 with (go_at_call 31; (obtain ⟨v1, us1, hl1⟩ := HW.out.lk; refine (first_any hl1 HC3.out.ok).mono ?_); rw [show (lg3.segs.getD 0 ⟨0, []⟩).first = A from HC3.out.low]; rintro e w5 ⟨rfl, rfl⟩; clear hl1)
            rcases hge with hg1 | ⟨hg1, hg2⟩
            all_goals
              go_upto_region 29 with (go_at_call 29; (obtain ⟨v1, us1, hl1⟩ := HW.out.lk; refine (next_any hl1 HC3.out.ok).mono ?_); rw [HNX.out]; rintro e w6 ⟨rfl, hb⟩; have HB := Lib.hid (HB.out.trans (hb.mono HB.out.size)); have HBX := Lib.hid (HBX.out.trans (hb.mono HBX.out.size)); have HW := Lib.hid (HW.out.below hb); clear hb; clear hl1)
              cases ao with
              | none =>
                have hc0 : cap = 0 := HR.out.nil rfl
                have hl0 : L.length = 0 := by have := HCAP.out; omega
                have HC0 := Lib.hid hc0
                obtain rfl : k0 = 0 := by omega
                have HNIL : Hid (M = []) := Lib.hid (by rw [← HM.out]; exact List.eq_nil_of_length_eq_zero (by simpa using hl0))
                have HZ : Hid (L.length = 0) := Lib.hid hl0
                clear hc0 hl0
                as_aux_lemma =>
                  go_upto_region 32 with (first
                    | (go_at_call 33; (obtain ⟨v1, us1, hl1⟩ := HW.out.lk; refine (lfrom_any hl1 HC3.out.ok HF3S.out (A : Int) 1073741824 HF3M.out).mono ?_); rw [HF3.out]; rintro e w7 ⟨⟨v7, r7, rfl, ⟨us7, hr7⟩, rfl⟩, hb⟩; obtain ⟨fo, fc, rfl⟩ := own_slice hr7.own; have HRO := Lib.hid hr7; have HB := Lib.hid (HB.out.trans (hb.mono HB.out.size)); have HBX := Lib.hid (HBX.out.trans (hb.mono HBX.out.size)); have HW := Lib.hid (HW.out.below hb); clear hb; clear hl1 hr7)
                    | (go_at_call 34; (refine (Fr.rows_any (ro_rb2 HRO.out rfl) (rb_z HZ.out HC0.out HNIL.out)).mono ?_); rw [beq_self_eq_true]; rintro e w8 ⟨rfl, q, hq⟩; have hb := below_of_drew hq; have HB := Lib.hid (HB.out.trans (hb.mono HB.out.size)); have HBX := Lib.hid (HBX.out.trans (hb.mono HBX.out.size)); have HW := Lib.hid (HW.out.below hb); clear hb; clear hq))
                  go_upto_region 33 with (go_at_call 23; (refine (lopen_any HW.out.dk HW.out.sb HBX.out.size (HT.out.below HB.out) HB6.out dLog (by decide) (full : Int) HTOT.out HDN3.out).mono ?_); rw [HOP.out]; rintro e w9 ⟨_, a9, C9, S9, rfl, hw, hg⟩; have HBN := Lib.hid (hg.tn.below HBX.out.size HW.out.sb); have HBX := Lib.hid (HBX.out.trans HBN.out); have HB := Lib.hid (HB.out.trans (HBN.out.mono HBW.out)); have HW := Lib.hid hw; clear hw hg)
                  go_upto_region 35 with (go_at_call 31; (obtain ⟨v1, us1, hl1⟩ := HW.out.lk; refine (first_any hl1 HC4.out.ok).mono ?_); rw [show (lg3.segs.getD 0 ⟨0, []⟩).first = A from HC4.out.low]; rintro e w10 ⟨rfl, rfl⟩; clear hl1)
                  go_wp2_with (first
                    | (go_at_call 33; (obtain ⟨v1, us1, hl1⟩ := HW.out.lk; refine (lfrom_any hl1 HC4.out.ok HF4S.out (A : Int) 1073741824 HF4M.out).mono ?_); rw [HF4.out]; rintro e w7 ⟨⟨v7, r7, rfl, ⟨us7, hr7⟩, rfl⟩, hb⟩; obtain ⟨fo, fc, rfl⟩ := own_slice hr7.own; have HRO := Lib.hid hr7; have HB := Lib.hid (HB.out.trans (hb.mono HB.out.size)); have HBX := Lib.hid (HBX.out.trans (hb.mono HBX.out.size)); have HW := Lib.hid (HW.out.below hb); clear hb; clear hl1 hr7)
                    | (go_at_call 11; (refine (A11 _ HB.out).out.mono ?_); rintro e w6 ⟨rfl, hb⟩; have HRO := Lib.hid (HRO.out.below hb); have HB := Lib.hid (HB.out.trans (hb.mono HB.out.size)); have HBX := Lib.hid (HBX.out.trans (hb.mono HBX.out.size)); have HW := Lib.hid (HW.out.below hb); clear hb)
                    | (go_at_call 34; (refine (Fr.rows_any (ro_rb2 HRO.out rfl) (rb_z HZ.out HC0.out HNIL.out)).mono ?_); rw [beq_self_eq_true]; rintro e w8 ⟨rfl, q, hq⟩; have hb := below_of_drew hq; have HB := Lib.hid (HB.out.trans (hb.mono HB.out.size)); have HBX := Lib.hid (HBX.out.trans (hb.mono HBX.out.size)); have HW := Lib.hid (HW.out.below hb); clear hb; clear hq))
                  go_ret
                  exact ⟨rfl, HB.out⟩
              | some ad =>
                have hcp := HCAP.out
                have hcm := HR.out.max
                by_cases hl0 : L.length = 0
                · obtain rfl : k0 = 0 := by omega
                  have HNIL : Hid (M = []) := Lib.hid (by rw [← HM.out]; exact List.eq_nil_of_length_eq_zero (by simpa using hl0))
                  have HZ : Hid (L.length = 0) := Lib.hid hl0
                  have HCM : Hid (cap ≤ maxLen) := Lib.hid hcm
                  clear hcm
                  by_cases hc0 : cap = 0
                  · as_aux_lemma =>
                      go_upto_region 32 with (first
                        | (go_at_call 33; (obtain ⟨v1, us1, hl1⟩ := HW.out.lk; refine (lfrom_any hl1 HC3.out.ok HF3S.out (A : Int) 1073741824 HF3M.out).mono ?_); rw [HF3.out]; rintro e w7 ⟨⟨v7, r7, rfl, ⟨us7, hr7⟩, rfl⟩, hb⟩; obtain ⟨fo, fc, rfl⟩ := own_slice hr7.own; have HRO := Lib.hid hr7; have HB := Lib.hid (HB.out.trans (hb.mono HB.out.size)); have HBX := Lib.hid (HBX.out.trans (hb.mono HBX.out.size)); have HW := Lib.hid (HW.out.below hb); clear hb; clear hl1 hr7)
                        | (go_at_call 34; (refine (Fr.rows_any (ro_rb2 HRO.out rfl) (rb_z rfl rfl HNIL.out)).mono ?_); rw [beq_self_eq_true]; rintro e w8 ⟨rfl, q, hq⟩; have hb := below_of_drew hq; have HB := Lib.hid (HB.out.trans (hb.mono HB.out.size)); have HBX := Lib.hid (HBX.out.trans (hb.mono HBX.out.size)); have HW := Lib.hid (HW.out.below hb); clear hb; clear hq))
                      go_upto_region 33 with (go_at_call 23; (refine (lopen_any HW.out.dk HW.out.sb HBX.out.size (HT.out.below HB.out) HB6.out dLog (by decide) (full : Int) HTOT.out HDN3.out).mono ?_); rw [HOP.out]; rintro e w9 ⟨_, a9, C9, S9, rfl, hw, hg⟩; have HBN := Lib.hid (hg.tn.below HBX.out.size HW.out.sb); have HBX := Lib.hid (HBX.out.trans HBN.out); have HB := Lib.hid (HB.out.trans (HBN.out.mono HBW.out)); have HW := Lib.hid hw; clear hw hg)
                      go_upto_region 35 with (go_at_call 31; (obtain ⟨v1, us1, hl1⟩ := HW.out.lk; refine (first_any hl1 HC4.out.ok).mono ?_); rw [show (lg3.segs.getD 0 ⟨0, []⟩).first = A from HC4.out.low]; rintro e w10 ⟨rfl, rfl⟩; clear hl1)
                      go_wp2_with (first
                        | (go_at_call 33; (obtain ⟨v1, us1, hl1⟩ := HW.out.lk; refine (lfrom_any hl1 HC4.out.ok HF4S.out (A : Int) 1073741824 HF4M.out).mono ?_); rw [HF4.out]; rintro e w7 ⟨⟨v7, r7, rfl, ⟨us7, hr7⟩, rfl⟩, hb⟩; obtain ⟨fo, fc, rfl⟩ := own_slice hr7.own; have HRO := Lib.hid hr7; have HB := Lib.hid (HB.out.trans (hb.mono HB.out.size)); have HBX := Lib.hid (HBX.out.trans (hb.mono HBX.out.size)); have HW := Lib.hid (HW.out.below hb); clear hb; clear hl1 hr7)
                        | (go_at_call 11; (refine (A11 _ HB.out).out.mono ?_); rintro e w6 ⟨rfl, hb⟩; have HRO := Lib.hid (HRO.out.below hb); have HB := Lib.hid (HB.out.trans (hb.mono HB.out.size)); have HBX := Lib.hid (HBX.out.trans (hb.mono HBX.out.size)); have HW := Lib.hid (HW.out.below hb); clear hb)
                        | (go_at_call 34; (refine (Fr.rows_any (ro_rb2 HRO.out rfl) (rb_z rfl rfl HNIL.out)).mono ?_); rw [beq_self_eq_true]; rintro e w8 ⟨rfl, q, hq⟩; have hb := below_of_drew hq; have HB := Lib.hid (HB.out.trans (hb.mono HB.out.size)); have HBX := Lib.hid (HBX.out.trans (hb.mono HBX.out.size)); have HW := Lib.hid (HW.out.below hb); clear hb; clear hq))
                      go_ret
                      exact ⟨rfl, HB.out⟩
                  · as_aux_lemma =>
                      go_upto_region 32 with (first
                        | (go_at_call 33; (obtain ⟨v1, us1, hl1⟩ := HW.out.lk; refine (lfrom_any hl1 HC3.out.ok HF3S.out (A : Int) 1073741824 HF3M.out).mono ?_); rw [HF3.out]; rintro e w7 ⟨⟨v7, r7, rfl, ⟨us7, hr7⟩, rfl⟩, hb⟩; obtain ⟨fo, fc, rfl⟩ := own_slice hr7.own; have HRO := Lib.hid hr7; have HB := Lib.hid (HB.out.trans (hb.mono HB.out.size)); have HBX := Lib.hid (HBX.out.trans (hb.mono HBX.out.size)); have HW := Lib.hid (HW.out.below hb); clear hb; clear hl1 hr7)
                        | (go_at_call 34; (refine (Fr.rows_any (ro_rb2 HRO.out rfl) (rb_e rfl HCM.out HNIL.out)).mono ?_); rw [beq_self_eq_true]; rintro e w8 ⟨rfl, q, hq⟩; have hb := below_of_drew hq; have HB := Lib.hid (HB.out.trans (hb.mono HB.out.size)); have HBX := Lib.hid (HBX.out.trans (hb.mono HBX.out.size)); have HW := Lib.hid (HW.out.below hb); clear hb; clear hq))
                      go_upto_region 33 with (go_at_call 23; (refine (lopen_any HW.out.dk HW.out.sb HBX.out.size (HT.out.below HB.out) HB6.out dLog (by decide) (full : Int) HTOT.out HDN3.out).mono ?_); rw [HOP.out]; rintro e w9 ⟨_, a9, C9, S9, rfl, hw, hg⟩; have HBN := Lib.hid (hg.tn.below HBX.out.size HW.out.sb); have HBX := Lib.hid (HBX.out.trans HBN.out); have HB := Lib.hid (HB.out.trans (HBN.out.mono HBW.out)); have HW := Lib.hid hw; clear hw hg)
                      go_upto_region 35 with (go_at_call 31; (obtain ⟨v1, us1, hl1⟩ := HW.out.lk; refine (first_any hl1 HC4.out.ok).mono ?_); rw [show (lg3.segs.getD 0 ⟨0, []⟩).first = A from HC4.out.low]; rintro e w10 ⟨rfl, rfl⟩; clear hl1)
                      go_wp2_with (first
                        | (go_at_call 33; (obtain ⟨v1, us1, hl1⟩ := HW.out.lk; refine (lfrom_any hl1 HC4.out.ok HF4S.out (A : Int) 1073741824 HF4M.out).mono ?_); rw [HF4.out]; rintro e w7 ⟨⟨v7, r7, rfl, ⟨us7, hr7⟩, rfl⟩, hb⟩; obtain ⟨fo, fc, rfl⟩ := own_slice hr7.own; have HRO := Lib.hid hr7; have HB := Lib.hid (HB.out.trans (hb.mono HB.out.size)); have HBX := Lib.hid (HBX.out.trans (hb.mono HBX.out.size)); have HW := Lib.hid (HW.out.below hb); clear hb; clear hl1 hr7)
                        | (go_at_call 11; (refine (A11 _ HB.out).out.mono ?_); rintro e w6 ⟨rfl, hb⟩; have HRO := Lib.hid (HRO.out.below hb); have HB := Lib.hid (HB.out.trans (hb.mono HB.out.size)); have HBX := Lib.hid (HBX.out.trans (hb.mono HBX.out.size)); have HW := Lib.hid (HW.out.below hb); clear hb)
                        | (go_at_call 34; (refine (Fr.rows_any (ro_rb2 HRO.out rfl) (rb_e rfl HCM.out HNIL.out)).mono ?_); rw [beq_self_eq_true]; rintro e w8 ⟨rfl, q, hq⟩; have hb := below_of_drew hq; have HB := Lib.hid (HB.out.trans (hb.mono HB.out.size)); have HBX := Lib.hid (HBX.out.trans (hb.mono HBX.out.size)); have HW := Lib.hid (HW.out.below hb); clear hb; clear hq))
                      go_ret
                      exact ⟨rfl, HB.out⟩
                · obtain ⟨b, off, _, _, _, e, _⟩ := HR.out.at_ (i := 0) (by omega)
                  injection e with e
                  subst e
                  by_cases hck : cap = k0
                  · have HNIL : Hid (M = []) := Lib.hid (by rw [← HM.out]; exact List.drop_of_length_le (by omega))
                    subst hck
                    have HZ : Hid (L.length - cap = 0) := Lib.hid (by omega)
                    clear hcm hl0
                    as_aux_lemma =>
                      go_upto_region 32 with (first
                        | (go_at_call 33; (obtain ⟨v1, us1, hl1⟩ := HW.out.lk; refine (lfrom_any hl1 HC3.out.ok HF3S.out (A : Int) 1073741824 HF3M.out).mono ?_); rw [HF3.out]; rintro e w7 ⟨⟨v7, r7, rfl, ⟨us7, hr7⟩, rfl⟩, hb⟩; obtain ⟨fo, fc, rfl⟩ := own_slice hr7.own; have HRO := Lib.hid hr7; have HB := Lib.hid (HB.out.trans (hb.mono HB.out.size)); have HBX := Lib.hid (HBX.out.trans (hb.mono HBX.out.size)); have HW := Lib.hid (HW.out.below hb); clear hb; clear hl1 hr7)
                        | (go_at_call 34; (refine (Fr.rows_any (ro_rb2 HRO.out rfl) (rb_z rfl rfl HNIL.out)).mono ?_); rw [beq_self_eq_true]; rintro e w8 ⟨rfl, q, hq⟩; have hb := below_of_drew hq; have HB := Lib.hid (HB.out.trans (hb.mono HB.out.size)); have HBX := Lib.hid (HBX.out.trans (hb.mono HBX.out.size)); have HW := Lib.hid (HW.out.below hb); clear hb; clear hq))
                      go_upto_region 33 with (go_at_call 23; (refine (lopen_any HW.out.dk HW.out.sb HBX.out.size (HT.out.below HB.out) HB6.out dLog (by decide) (full : Int) HTOT.out HDN3.out).mono ?_); rw [HOP.out]; rintro e w9 ⟨_, a9, C9, S9, rfl, hw, hg⟩; have HBN := Lib.hid (hg.tn.below HBX.out.size HW.out.sb); have HBX := Lib.hid (HBX.out.trans HBN.out); have HB := Lib.hid (HB.out.trans (HBN.out.mono HBW.out)); have HW := Lib.hid hw; clear hw hg)
                      go_upto_region 35 with (go_at_call 31; (obtain ⟨v1, us1, hl1⟩ := HW.out.lk; refine (first_any hl1 HC4.out.ok).mono ?_); rw [show (lg3.segs.getD 0 ⟨0, []⟩).first = A from HC4.out.low]; rintro e w10 ⟨rfl, rfl⟩; clear hl1)
                      go_wp2_with (first
                        | (go_at_call 33; (obtain ⟨v1, us1, hl1⟩ := HW.out.lk; refine (lfrom_any hl1 HC4.out.ok HF4S.out (A : Int) 1073741824 HF4M.out).mono ?_); rw [HF4.out]; rintro e w7 ⟨⟨v7, r7, rfl, ⟨us7, hr7⟩, rfl⟩, hb⟩; obtain ⟨fo, fc, rfl⟩ := own_slice hr7.own; have HRO := Lib.hid hr7; have HB := Lib.hid (HB.out.trans (hb.mono HB.out.size)); have HBX := Lib.hid (HBX.out.trans (hb.mono HBX.out.size)); have HW := Lib.hid (HW.out.below hb); clear hb; clear hl1 hr7)
                        | (go_at_call 11; (refine (A11 _ HB.out).out.mono ?_); rintro e w6 ⟨rfl, hb⟩; have HRO := Lib.hid (HRO.out.below hb); have HB := Lib.hid (HB.out.trans (hb.mono HB.out.size)); have HBX := Lib.hid (HBX.out.trans (hb.mono HBX.out.size)); have HW := Lib.hid (HW.out.below hb); clear hb)
                        | (go_at_call 34; (refine (Fr.rows_any (ro_rb2 HRO.out rfl) (rb_z rfl rfl HNIL.out)).mono ?_); rw [beq_self_eq_true]; rintro e w8 ⟨rfl, q, hq⟩; have hb := below_of_drew hq; have HB := Lib.hid (HB.out.trans (hb.mono HB.out.size)); have HBX := Lib.hid (HBX.out.trans (hb.mono HBX.out.size)); have HW := Lib.hid (HW.out.below hb); clear hb; clear hq))
                      go_ret
                      exact ⟨rfl, HB.out⟩
                  · have HRD := fun w (h : Below W.heap.size W w) => Lib.hid (HM.out ▸ rb_drop (HR.out.below h) hk1 (some ⟨b, off + k0, none⟩) (fun _ => rfl) (fun h => absurd (show k0 < cap by omega) h))
                    have hck2 : ¬ k0 = cap := fun e => hck e.symm
                    clear hcm hl0
                    as_aux_lemma =>
                      go_upto_region 32 with (first
                        | (go_at_call 33; (obtain ⟨v1, us1, hl1⟩ := HW.out.lk; refine (lfrom_any hl1 HC3.out.ok HF3S.out (A : Int) 1073741824 HF3M.out).mono ?_); rw [HF3.out]; rintro e w7 ⟨⟨v7, r7, rfl, ⟨us7, hr7⟩, rfl⟩, hb⟩; obtain ⟨fo, fc, rfl⟩ := own_slice hr7.own; have HRO := Lib.hid hr7; have HB := Lib.hid (HB.out.trans (hb.mono HB.out.size)); have HBX := Lib.hid (HBX.out.trans (hb.mono HBX.out.size)); have HW := Lib.hid (HW.out.below hb); clear hb; clear hl1 hr7)
                        | (go_at_call 34; (refine (Fr.rows_any (ro_rb2 HRO.out rfl) (HRD _ HB.out).out).mono ?_); rw [beq_self_eq_true]; rintro e w8 ⟨rfl, q, hq⟩; have hb := below_of_drew hq; have HB := Lib.hid (HB.out.trans (hb.mono HB.out.size)); have HBX := Lib.hid (HBX.out.trans (hb.mono HBX.out.size)); have HW := Lib.hid (HW.out.below hb); clear hb; clear hq))
                      go_upto_region 33 with (go_at_call 23; (refine (lopen_any HW.out.dk HW.out.sb HBX.out.size (HT.out.below HB.out) HB6.out dLog (by decide) (full : Int) HTOT.out HDN3.out).mono ?_); rw [HOP.out]; rintro e w9 ⟨_, a9, C9, S9, rfl, hw, hg⟩; have HBN := Lib.hid (hg.tn.below HBX.out.size HW.out.sb); have HBX := Lib.hid (HBX.out.trans HBN.out); have HB := Lib.hid (HB.out.trans (HBN.out.mono HBW.out)); have HW := Lib.hid hw; clear hw hg)
                      go_upto_region 35 with (go_at_call 31; (obtain ⟨v1, us1, hl1⟩ := HW.out.lk; refine (first_any hl1 HC4.out.ok).mono ?_); rw [show (lg3.segs.getD 0 ⟨0, []⟩).first = A from HC4.out.low]; rintro e w10 ⟨rfl, rfl⟩; clear hl1)
                      go_wp2_with (first
                        | (go_at_call 33; (obtain ⟨v1, us1, hl1⟩ := HW.out.lk; refine (lfrom_any hl1 HC4.out.ok HF4S.out (A : Int) 1073741824 HF4M.out).mono ?_); rw [HF4.out]; rintro e w7 ⟨⟨v7, r7, rfl, ⟨us7, hr7⟩, rfl⟩, hb⟩; obtain ⟨fo, fc, rfl⟩ := own_slice hr7.own; have HRO := Lib.hid hr7; have HB := Lib.hid (HB.out.trans (hb.mono HB.out.size)); have HBX := Lib.hid (HBX.out.trans (hb.mono HBX.out.size)); have HW := Lib.hid (HW.out.below hb); clear hb; clear hl1 hr7)
                        | (go_at_call 11; (refine (A11 _ HB.out).out.mono ?_); rintro e w6 ⟨rfl, hb⟩; have HRO := Lib.hid (HRO.out.below hb); have HB := Lib.hid (HB.out.trans (hb.mono HB.out.size)); have HBX := Lib.hid (HBX.out.trans (hb.mono HBX.out.size)); have HW := Lib.hid (HW.out.below hb); clear hb)
                        | (go_at_call 34; (refine (Fr.rows_any (ro_rb2 HRO.out rfl) (HRD _ HB.out).out).mono ?_); rw [beq_self_eq_true]; rintro e w8 ⟨rfl, q, hq⟩; have hb := below_of_drew hq; have HB := Lib.hid (HB.out.trans (hb.mono HB.out.size)); have HBX := Lib.hid (HBX.out.trans (hb.mono HBX.out.size)); have HW := Lib.hid (HW.out.below hb); clear hb; clear hq))
                      go_ret
                      exact ⟨rfl, HB.out⟩

set_option maxRecDepth 100000 in
theorem walTrims_lifted (os : Os) (started : os.Started) (H : Type) (enc : TypeId × Value → H) :
    ReturnsInHanded {} Tryz.checked os 8 .any (fun w args => (Rows.walTrimsSpec.pre enc Tryz.prog Tryz.f8 [] false w args ∧ laidMetH Tryz.prog laid7 w) ∧ sizedMet enc Tryz.prog Tryz.f8 (OpenSpec.ofChange Rows.walTrimsSpec) false w args)
      (Rows.walTrimsSpec.post enc Tryz.prog Tryz.f8 false true false false) := by
  refine returnsInHanded_of_change_and (C := Tryz.checked) (X := fun w _ => laidMetH Tryz.prog laid7 w) (fun _ _ _ hh h => h.of_heap hh) own started (by kernel_rfl) Tryz.func8
    (ChangeSpec.witness_shaped (enc := enc) (C := Tryz.checked) (os := os) (X := fun w _ => laidMetH Tryz.prog laid7 w) false (World.doorLaid Tryz.prog 400 os) #[.int .i64 0, .slice none 0 0, .int .i64 0] 8 rfl (World.shaped_of_RefB (by kernel_rfl) (by kernel_rfl)) (by kernel_rfl) (by kernel_rfl) (by kernel_rfl) (door_met os _)) ?_
  intro W base args ds gs before hval0 hW _ _ hL _
  have hval : ∀ (j : Nat) t v, Tryz.f8.params[j]? = some t → args[j]? = some v → Value.okWide Tryz.prog W .any base t v := hval0
  have hW' := hW
  obtain ⟨p, q, hA0, hV, rfl, hfz, hnd⟩ := hW
  have hA : DataW.TrodAll enc Tryz.prog W 0 (fun _ => true) true Tryz.f8.params.toList args.toList ds p := hA0
  rw [Tryz.params8] at hA hval
  obtain ⟨v0, v1, v2, d0, d1, d2, p0, p1, p2, rfl, rfl, rfl, h0, h1, h2⟩ := trodAll_three hA
  obtain ⟨rfl, rfl⟩ := trodVars_none hV
  clear hA0 hval0
  simp only [List.append_nil] at hW'
  have hlt : ∀ x ∈ p0 ++ p1 ++ p2, x.block < W.heap.size := fun x hx => hW'.lt x (by simpa using hx)
  have hT := tabs_of_laid hL
  have k0 := h0
  obtain ⟨a0, rfl, rfl, rfl, wf0⟩ := open_int Tryz.underlying3 (hval 0 3 v0 rfl rfl) h0
  have hwf0 := wf0
  simp [Lit.wf, IntKind.min, IntKind.max, IntKind.signed, IntKind.bits] at hwf0
  have k1 := h1
  obtain ⟨b1, len1, cap1, rfl⟩ := okWide_slice Tryz.underlying57 (hval 1 57 v1 rfl rfl)
  obtain ⟨fuel1, g1⟩ := h1
  obtain ⟨ao1, c1, xs1, hv1, r1⟩ := open_rb g1
  have k2 := h2
  obtain ⟨a2, rfl, rfl, rfl, wf2⟩ := open_int Tryz.underlying3 (hval 2 3 v2 rfl rfl) h2
  have hwf2 := wf2
  simp [Lit.wf, IntKind.min, IntKind.max, IntKind.signed, IntKind.bits] at hwf2
  refine Calls.mono (?walk : Calls _ _ _ _ fun e w' => e = .returned (.bool true) ∧ Below W.heap.size W w') fun e W' ⟨he, hw⟩ => ?_
  case walk =>
    rw [hv1]
    exact walTrims_walk W a0 (by omega) (by omega) ao1 c1 xs1 r1 a2 (by omega) (by omega) hT
  subst he
  exact ⟨_, rfl, post_of_below (pa := [] ++ (p1 ++ [])) (pv := []) hW' (fun _ _ _ => trodAll_mk1 (shut_bool Tryz.underlying4 _)) (fun sp hsp => trodAll_mk3 (WideElems.Trod_stays laidOut (by kernel_rfl) (of_decide_eq_true (by kernel_rfl)) k0 (fun x hx => hw.same (hlt x (nomatch hx))) (fun x hx => hsp x (nomatch hx))) (WideElems.Trod_stays laidOut (by kernel_rfl) (of_decide_eq_true (by kernel_rfl)) k1 (fun x hx => hw.same (hlt x (by simp [hx]))) (fun x hx => hsp x (by simp [hx]))) (WideElems.Trod_stays laidOut (by kernel_rfl) (of_decide_eq_true (by kernel_rfl)) k2 (fun x hx => hw.same (hlt x (nomatch hx))) (fun x hx => hsp x (nomatch hx)))) (fun _ _ => rfl) (by simp) hw (ok_one (by kernel_rfl) rfl (okWide_bool_mk Tryz.underlying4 _))⟩
theorem walTrims_holds : Rows.WalTrimsSaid :=
  OpenClaim.holds_of_wide 8 Tryz.f8 rfl rfl rfl rfl rfl rfl rfl ⟨rfl, rfl, rfl, rfl, rfl⟩ rfl rfl rfl rfl rfl (by kernel_rfl) Tryz.func8 (by kernel_rfl)
    (of_decide_eq_true (by kernel_rfl)) (by unfold Func.isWrapper; first | (rw [if_pos (by decide +kernel)]; kernel_rfl) | (rw [if_neg (by decide +kernel)]; exact ⟨rfl, rfl⟩))
    (fun os started H enc _ => walTrims_lifted os started H enc)
/-- THE TIED CARD. -/
theorem walTrims_card : Rows.WalTrimsCardSaid :=
  Claim7.holds_tied_plain_at .later [] [.data, .data, .data, .sentinel, .sentinel] true (true, "e9ab51ce47dcc3953fa184c943e4ea011639904eb8e571ed572ebda56f291a89") true
    walTrims_holds (fun _ h => by cases h) (by kernel_rfl) (fun _ h => by cases h) walTrims_row_tie rfl ⟨rfl, rfl⟩ (by kernel_rfl) rfl
    (fun f fn hf hfn => by
      obtain rfl : f = 8 := Option.some.inj ((show Tryz.prog.funcNamed "headrace/racelaw7.WalTrims" = some 8 by kernel_rfl).symm.trans hf) |>.symm
      obtain rfl : fn = Tryz.f8 := (Option.some.inj (Tryz.func8.symm.trans hfn)).symm
      exact ⟨by kernel_rfl, fun j t ht => by
        rw [Tryz.params8] at ht
        have hm : t ∈ [3, 57, 3] := by simpa using Array.mem_of_getElem? ht
        have hall : ([3, 57, 3].all fun u => !Tryz.prog.wantsStandIn u) = true := by kernel_rfl
        exact (show Tryz.prog.wantsStandIn t = false by simpa using List.all_eq_true.1 hall t hm)⟩)
    (by kernel_rfl)
#print axioms walTrims_card
end Go.Proofs.YtkilkhnoldfhcaaGreatDoor
