/- racelaw6.DiskKeeps answers true, whatever came in: a crash leaves of each file the safe bytes, and behind them a beginning of the others; a second crash changes nothing. Conditions: none. -/
import Derived.Test.YtefgnlijgomgpaaXk
namespace Go.Proofs.Ytefgnlijgomgpaa
open Go.ChangeShapes Go.WideShapes Go.ChangeAt Go.RowKit
set_option maxRecDepth 100000 in
set_option maxHeartbeats 8000000 in
theorem diskKeeps_walk (w : World) (ao : Option Addr) (cap : Nat) (l : List Do) (hl : SO (fun k => k < w.heap.size) w ao l.length cap l)
    (po : Option Addr) (pc : Nat) (picks : List Int) (hp : SI (fun k => k < w.heap.size) w po picks.length pc picks) :
    Calls Try.prog 5 #[.slice ao l.length cap, .slice po picks.length pc] w fun e w' => e = .returned (.bool true) ∧ Below w.heap.size w w' := by
  have H := Lib.hid hl
  have HP := Lib.hid hp
  have hlt := hl.lt
  have hplt := hp.lt
  clear hl hp
  cases hf : fewB l with
  | false =>
    have HF := Lib.hid hf
    clear hf
    go_enter Try.func5, Try.ntmps5
    go_wp2_with (first
      | (go_at_call 10; (with_reducible refine (first_any _).mono ?_); rintro e w1 ⟨rfl, hb⟩; have HB1 := Lib.hid hb; clear hb)
      | (go_at_call 11; (with_reducible refine (few_any (H.out.below HB1.out)).mono ?_); rw [HF.out]; rintro e w2 ⟨rfl, hb⟩; have HB2 := Lib.hid (HB1.out.trans (hb.mono HB1.out.size)); clear hb))
    go_ret
    exact ⟨rfl, HB2.out.trans (HB1.out.mono HB2.out.size)⟩
  | true =>
    have HF := Lib.hid hf
    have hsm := few_small hf (H.out.wf)
    have hlen := (few_yes hf).1
    have HSM := Lib.hid hsm
    clear hf hsm
    go_enter Try.func5, Try.ntmps5
    go_wp2_with (first
      | (go_at_call 10; (with_reducible refine (first_any _).mono ?_); rintro e w1 ⟨rfl, hb⟩; have HB1 := Lib.hid hb; clear hb)
      | (go_at_call 11; (with_reducible refine (few_any (H.out.below HB1.out)).mono ?_); rw [HF.out]; rintro e w2 ⟨rfl, hb⟩; have HB2 := Lib.hid (HB1.out.trans (hb.mono HB1.out.size)); clear hb))
    go_wp2_with (go_at_call 12; (with_reducible refine (one_new _).mono ?_); rintro e w3 ⟨rfl, hd, hb⟩; have HD3 := Lib.hid hd; have HB3 := Lib.hid hb; clear hd hb)
    go_loopw [6] (fun i wr => ∃ k : Nat, k ≤ l.length ∧ i = .int .i64 k ∧ Hid (OneD w2.heap.size wr (w2.heap.size + 1) (Dk.zero.run (l.take k))) ∧ Hid (Below w2.heap.size w2 wr)) (fun i _ => l.length - (intOf i).toNat)
    case atStart => exact ⟨0, Nat.zero_le _, rfl, HD3, HB3⟩
    case round =>
      obtain ⟨k, hk, rfl, HD, HB⟩ := hrel
      by_cases hlt2 : k < l.length
      · have hso := (H.out.below (HB2.out.trans (HB.out.mono HB2.out.size)))
        obtain ⟨b, off, rfl, hbw, ho, _⟩ := hso.at_ hlt2
        have hsk := HSM.out _ (List.getElem_mem hlt2)
        have HRT := Lib.hid (run_take Dk.zero l hlt2)
        generalize l[k] = p at *
        have c0 := ho.c0
        have c1 := ho.c1
        have c2 := ho.c2
        have c3 := ho.c3
        obtain ⟨a4, k4, c4, s4⟩ := ho.c4
        obtain ⟨a5, k5, c5, s5⟩ := ho.c5
        have HSK := Lib.hid hsk
        have HS4 := Lib.hid s4
        have HS5 := Lib.hid s5
        clear hsk s4 s5 ho hso
        have HDN := Lib.hid (done_take l k (by omega))
        go_wp2_with (go_at_call 13; (refine (one_does HD.out (Nat.le_trans (Nat.le_refl _) HB.out.size) HSK.out HS4.out HS5.out (fun j hj => Nat.lt_of_lt_of_le hj HB2.out.size) HDN.out).mono ?_); rintro e w4 ⟨rfl, hd, hb⟩; have HD4 := Lib.hid hd; have HB4 := Lib.hid (HB.out.trans hb); clear hd hb)
        go_roundw
        case rel => exact ⟨k + 1, by omega, by go_num, by rw [HRT.out]; exact HD4, HB4⟩
        case measure => simp [intOf]; omega
      · obtain rfl : k = l.length := by omega
        rw [List.take_length] at HD
        have HBW := Lib.hid (HB2.out.trans (HB.out.mono HB2.out.size))
        have HW2 := Lib.hid HB2.out.size
        clear HB2 HF HSM hlen
        generalize Dk.zero.run l = d at *
        obtain ⟨S, hS, hkk⟩ := HD.out
        have hN := crash_len d picks
        have hoff : (d.crash picks).off = false := rfl
        have htw := crash_twice hkk.ok picks
        have hfew := hkk.ok.few
        have HOK := Lib.hid hkk.ok
        have HK := Lib.hid hkk
        have HSL := Lib.hid hkk.lt
        have HSW : Hid (∀ j, S j → w.heap.size ≤ j) := fun j hj => Nat.le_trans HW2.out (hS j hj)
        have HDJ : Hid (∀ k, (fun k => k < w.heap.size) k → ¬ S k) := fun j hj e => Nat.not_lt.2 (HSW.out j e) hj
        have HN := Lib.hid hN
        have HOFF := Lib.hid hoff
        have HTW := Lib.hid htw
        have hNl : (fvs d.f).length ≤ 64 := by rw [fvs_length]; exact hfew
        clear hS hkk HD hN hoff htw hfew HB
        go_wp2_with (first
          | (go_at_call 23; (with_reducible refine (dk_files HK.out).mono ?_); rintro e w4 ⟨fo, fc, rfl, hs, hb⟩; have HSF4 := Lib.hid hs; have HK4 := Lib.hid (HK.out.below hb); have HB4 := Lib.hid (HBW.out.trans (hb.mono HBW.out.size)); have HB44 := Lib.hid hb; clear hs hb)
          | (go_at_call 24; (with_reducible refine (dk_crash HK4.out (HP.out.below HB4.out) HDJ.out).mono ?_); rintro e w5 ⟨rfl, hd, ht⟩; have HK5 := Lib.hid hd; have HB5 := Lib.hid (HB4.out.trans (ht.below HB4.out.size HSW.out)); have HSF5 := Lib.hid (HSF4.out.tn ht (fun j hj e => by have := HSL.out j e; omega)); clear hd ht)
          | (go_at_call 23; (with_reducible refine (dk_files HK5.out).mono ?_); rintro e w6 ⟨go, gc, rfl, hs, hb⟩; rw [HN.out] at hs ⊢; have HSF6 := Lib.hid hs; have HSF56 := Lib.hid (HSF5.out.below hb); have HK6 := Lib.hid (HK5.out.below hb); have HB6 := Lib.hid (HB5.out.trans (hb.mono HB5.out.size)); have HBZ := Lib.hid hb; clear hs hb)
          | (go_at_call 25; (with_reducible refine (dk_down HK6.out).mono ?_); rintro e w' ⟨rfl, rfl⟩; rw [HOFF.out]))
        have HSL5 : Hid (∀ j, S j → j < w5.heap.size) := fun j hj => HK5.out.lt j hj
        go_loopw [9, 10] (fun i _ wr => ∃ k : Nat, k ≤ (fvs d.f).length ∧ i = .int .i64 k ∧ Hid (Below w6.heap.size w6 wr)) (fun i _ _ => (fvs d.f).length - (intOf i).toNat)
        case atStart => exact ⟨0, Nat.zero_le _, rfl, Below.refl _ _⟩
        case round =>
          obtain ⟨k, hk, rfl, HB7⟩ := hrel
          by_cases hlt3 : k < (fvs d.f).length
          · have hlt4 : k < (fvs (d.crash picks).f).length := by rw [HN.out]; exact hlt3
            obtain ⟨b1, o1, rfl, _, f1, _⟩ := (HSF56.out.below HB7.out).at_ hlt3
            obtain ⟨b2, o2, rfl, _, f2, _⟩ := (HSF6.out.below HB7.out).at_ hlt4
            obtain ⟨s, b, m, n, g1, g2, hmn, hnb⟩ := crash_at HOK.out picks hlt3 hlt4
            rw [g1] at f1
            rw [g2] at f2
            have c10 := f1.c0
            have c12 := f1.c2
            have c20 := f2.c0
            have c22 := f2.c2
            obtain ⟨p1, k1, c11, s1⟩ := f1.c1
            obtain ⟨p2, k2, c21, s2⟩ := f2.c1
            have hcap := s1.le
            have htl : (b.take n).length = n := by rw [List.length_take]; omega
            simp only at c10 c12 c20 c22 c11 c21 s1 s2 hcap
            rw [htl] at c21 s2
            have cv1 : ∀ q, (convert 33 9 (.slice p1 n k1)).run Try.prog (wr.drewN q) = .ok (.string ⟨(b.take n).toArray⟩) (wr.drewN q) := fun q => ((s1.top hnb).drewN q).conv
            have cv2 : ∀ q, (convert 33 9 (.slice p2 n k2)).run Try.prog (wr.drewN q) = .ok (.string ⟨(b.take n).toArray⟩) (wr.drewN q) := fun q => (s2.drewN q).conv
            generalize b.take n = bt at *
            have hlb := s1.lt
            have h01 : ¬ (n : Int) < (m : Int) := by omega
            have h02 : ¬ (b.length : Int) < (n : Int) := by omega
            have hcond : (0 : Int) ≤ (n : Int) ∧ (n : Int) ≤ (k1 : Int) := by omega
            clear s1 s2 f1 f2 g1 g2 htl
            go_wp2
            go_quiet (fail)
            have HB8 := Lib.hid (HB7.out.trans ((below_drewN wr nq).mono HB7.out.size))
            generalize wr.drewN nq = wz at *
            go_wp2
            go_roundw
            case rel => exact ⟨k + 1, by omega, by go_num, HB8⟩
            case measure => simp [intOf]; omega
          · have HB67 := Lib.hid (HB6.out.trans (HB7.out.mono HB6.out.size))
            go_wp2_with (first
              | (go_at_call 24; (with_reducible refine (dk_crash (HK6.out.below HB7.out) (HP.out.below HB67.out) HDJ.out).mono ?_); rintro e w8 ⟨rfl, hd, ht⟩; rw [HTW.out] at hd; have HK8 := Lib.hid hd; have HB8 := Lib.hid (HB67.out.trans (ht.below HB67.out.size HSW.out)); have HSF8 := Lib.hid ((HSF6.out.below HB7.out).tn ht (fun j hj e => by have := HSL5.out j e; omega)); clear hd ht)
              | (go_at_call 10; (with_reducible refine (first_any w8).mono ?_); rintro e w9 ⟨rfl, hb⟩; have HK9 := Lib.hid (HK8.out.below hb); have HB9 := Lib.hid (HB8.out.trans (hb.mono HB8.out.size)); have HSF9 := Lib.hid (HSF8.out.below hb); clear hb)
              | (go_at_call 23; (with_reducible refine (dk_files HK9.out).mono ?_); rintro e w10 ⟨ho, hc, rfl, hs, hb⟩; rw [HN.out] at hs ⊢; have HSF10 := Lib.hid hs; have HSFX := Lib.hid (HSF9.out.below hb); have HB10 := Lib.hid (HB9.out.trans (hb.mono HB9.out.size)); clear hs hb)
              | (go_at_call 22; (with_reducible refine (same_any HSF10.out HSFX.out).mono ?_); rintro e w11 ⟨rfl, q, hq⟩; rw [sameF_self]; have HB11 := Lib.hid (HB10.out.trans ((below_of_drew hq).mono HB10.out.size)); clear hq))
            go_ret
            exact ⟨rfl, HB11.out⟩

set_option maxRecDepth 100000 in
theorem diskKeeps_lifted (os : Os) (started : os.Started) (H : Type) (enc : TypeId × Value → H) :
    ReturnsInHanded {} Try.checked os 5 .any (Rows.diskKeepsSpec.pre6 enc Try.prog Try.f5 [] false) (Rows.diskKeepsSpec.post enc Try.prog Try.f5 false true false false) := by
  refine returnsInHanded_of_change (C := Try.checked) own started (by kernel_rfl) Try.func5
    (ChangeSpec.witness6 (enc := enc) (C := Try.checked) false ⟨#[], #[.slice none 0 0, .slice none 0 0], []⟩ 8 (by kernel_rfl) (by kernel_rfl) (by kernel_rfl) (by kernel_rfl)) ?_
  intro W base args ds gs before hval0 hW _ _
  have hval : ∀ (j : Nat) t v, Try.f5.params[j]? = some t → args[j]? = some v → Value.okWide Try.prog W .any base t v := hval0
  have hW' := hW
  obtain ⟨p, q, hA0, hV, rfl, hfz, hnd⟩ := hW
  have hA : DataW.TrodAll enc Try.prog W 0 (fun _ => true) true Try.f5.params.toList args.toList ds p := hA0
  rw [Try.params5] at hA hval
  obtain ⟨v0, v1, d0, d1, p0, p1, rfl, rfl, rfl, h0, h1⟩ := trodAll_two hA
  obtain ⟨b0, len0, cap0, rfl⟩ := okWide_slice Try.underlying22 (hval 0 22 v0 rfl rfl)
  have k0 := h0
  obtain ⟨fuel0, g0⟩ := h0
  obtain ⟨b1, len1, cap1, rfl⟩ := okWide_slice Try.underlying34 (hval 1 34 v1 rfl rfl)
  have k1 := h1
  obtain ⟨fuel1, g1⟩ := h1
  obtain ⟨rfl, rfl⟩ := trodVars_none hV
  clear hA0 hval0
  simp only [List.append_nil] at hW'
  have hlt : ∀ x ∈ p0 ++ p1, x.block < W.heap.size := fun x hx => hW'.lt x (by simpa using hx)
  obtain ⟨ao0, c0, xs0, hv0, r0⟩ := open_so g0
  obtain ⟨ao1, c1, xs1, hv1, r1⟩ := open_si g1
  refine Calls.mono (?walk : Calls _ _ _ _ fun e w' => e = .returned (.bool true) ∧ Below W.heap.size W w') fun e W' ⟨he, hw⟩ => ?_
  case walk =>
    rw [hv0]
    rw [hv1]
    exact diskKeeps_walk W ao0 c0 xs0 r0 ao1 c1 xs1 r1
  subst he
  exact ⟨_, rfl, post_of_below (pa := p0 ++ p1) (pv := []) hW' (fun _ _ _ => trodAll_mk1 (shut_bool Try.underlying4 _)) (fun sp hsp => trodAll_mk2 (WideElems.Trod_stays laidOut (by kernel_rfl) (of_decide_eq_true (by kernel_rfl)) k0 (fun x hx => hw.same (hlt x (by first | (simp [hx]; done) | exact nomatch hx))) (fun x hx => hsp x (by first | (simp [hx]; done) | exact nomatch hx))) (WideElems.Trod_stays laidOut (by kernel_rfl) (of_decide_eq_true (by kernel_rfl)) k1 (fun x hx => hw.same (hlt x (by first | (simp [hx]; done) | exact nomatch hx))) (fun x hx => hsp x (by first | (simp [hx]; done) | exact nomatch hx)))) (fun _ _ => rfl) (by simp) hw (ok_one (by kernel_rfl) rfl (okWide_bool_mk Try.underlying4 _))⟩
/-- THE ROW. -/
theorem diskKeeps_holds : Rows.DiskKeepsSaid :=
  OpenClaim.holds_of_wide 5 Try.f5 rfl rfl rfl rfl rfl rfl rfl ⟨rfl, rfl, rfl, rfl, rfl⟩ rfl rfl rfl rfl rfl (by kernel_rfl) Try.func5 (by kernel_rfl)
    (of_decide_eq_true (by kernel_rfl)) (by unfold Func.isWrapper; first | (rw [if_pos (by decide +kernel)]; kernel_rfl) | (rw [if_neg (by decide +kernel)]; exact ⟨rfl, rfl⟩))
    (fun os started H enc _ => diskKeeps_lifted os started H enc)
#print axioms diskKeeps_holds
end Go.Proofs.Ytefgnlijgomgpaa
