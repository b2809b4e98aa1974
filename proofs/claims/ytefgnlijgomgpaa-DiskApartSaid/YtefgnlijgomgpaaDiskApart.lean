/- racelaw6.DiskApart answers true, whatever came in: what is done to one file changes no other one. Conditions: none. -/
import Derived.Test.YtefgnlijgomgpaaW
namespace Go.Proofs.Ytefgnlijgomgpaa
open Go.ChangeShapes Go.WideShapes Go.ChangeAt Go.RowKit
theorem wrap_add {a b : Nat} (h : a + b ≤ 4194304) : IntKind.i64.wrap ((a : Int) + (b : Int)) = ((a + b : Nat) : Int) := by rw [wrap_in (by omega)]; omega
set_option maxRecDepth 100000 in
set_option maxHeartbeats 8000000 in
theorem diskApart_walk (w : World) (ao : Option Addr) (cap : Nat) (l : List Do) (hl : SO (fun k => k < w.heap.size) w ao l.length cap l) :
    Calls Try.prog 9 #[.slice ao l.length cap] w fun e w' => e = .returned (.bool true) ∧ Below w.heap.size w w' := by
  have H := Lib.hid hl
  have hlt := hl.lt
  clear hl
  cases hf : fewB l with
  | false =>
    have HF := Lib.hid hf
    clear hf
    go_enter Try.func9, Try.ntmps9
    go_wp2_with (first
      | (go_at_call 10; (with_reducible refine (first_any _).mono ?_); rintro e w1 ⟨rfl, hb⟩; have HB1 := Lib.hid hb; clear hb)
      | (go_at_call 11; (with_reducible refine (few_any (H.out.below HB1.out)).mono ?_); rw [HF.out]; rintro e w2 ⟨rfl, hb⟩; have HB2 := Lib.hid (HB1.out.trans (hb.mono HB1.out.size)); clear hb))
    go_ret
    exact ⟨rfl, HB2.out.trans (HB1.out.mono HB2.out.size)⟩
  | true =>
    have HF := Lib.hid hf
    have hsm := few_small hf (H.out.wf)
    have hlen := (few_yes hf).1
    have HSM := Lib.hid hsm
    clear hf hsm
    go_enter Try.func9, Try.ntmps9
    go_wp2_with (first
      | (go_at_call 10; (with_reducible refine (first_any _).mono ?_); rintro e w1 ⟨rfl, hb⟩; have HB1 := Lib.hid hb; clear hb)
      | (go_at_call 11; (with_reducible refine (few_any (H.out.below HB1.out)).mono ?_); rw [HF.out]; rintro e w2 ⟨rfl, hb⟩; have HB2 := Lib.hid (HB1.out.trans (hb.mono HB1.out.size)); clear hb))
    go_wp2_with (go_at_call 12; (with_reducible refine (one_new _).mono ?_); rintro e w3 ⟨rfl, hd, hb⟩; have HD3 := Lib.hid hd; have HB3 := Lib.hid hb; clear hd hb)
    have HB23 := Lib.hid (HB2.out.trans (HB3.out.mono HB2.out.size))
    have HW2 := Lib.hid HB2.out.size
    clear HB3 HB2 HB1
    go_loopw [4, 5, 6, 7, 8, 9, 10, 11] (fun i _ _ _ _ _ _ _ wr => ∃ k : Nat, k ≤ l.length ∧ i = .int .i64 k ∧ Hid (OneD w2.heap.size wr (w2.heap.size + 1) (Dk.zero.run (l.take k))) ∧ Hid (Below w.heap.size w wr)) (fun i _ _ _ _ _ _ _ _ => l.length - (intOf i).toNat)
    case atStart => exact ⟨0, Nat.zero_le _, rfl, HD3, HB23⟩
    case round =>
      obtain ⟨k, hk, rfl, HD, HBW⟩ := hrel
      by_cases hlt2 : k < l.length
      · obtain ⟨b, off, rfl, hbw, ho, _⟩ := H.out.at_ hlt2
        have hsk := HSM.out _ (List.getElem_mem hlt2)
        have HRT := Lib.hid (run_take Dk.zero l hlt2)
        have HDN := Lib.hid (done_take l k (by omega))
        obtain ⟨S, hS, hkk⟩ := HD.out
        have HAP : Hid (l[k].kind ≠ 8 → ∀ q ∈ fvs (Dk.zero.run (l.take k)).f, q.name ≠ l[k].name → q.name ≠ l[k].to → q ∈ fvs ((Dk.zero.run (l.take k)).step l[k]).1.f) := fun h8 q hq h1 h2 => apart_fvs hq h8 h1 h2
        generalize hx : Dk.zero.run (l.take k) = x at *
        generalize hp : l[k] = p at *
        have HO := Lib.hid ho
        have HSK := Lib.hid hsk
        have HK := Lib.hid hkk
        have HSL := Lib.hid hkk.lt
        have HSW : Hid (∀ j, S j → w.heap.size ≤ j) := fun j hj => Nat.le_trans HW2.out (hS j hj)
        have HSW2 := Lib.hid hS
        have HWS2 : Hid (w2.heap.size ≤ wr.heap.size) := by have h1 := hS _ hkk.sa; have h2 := hkk.lt _ hkk.sa; show _ ≤ _; omega
        have HDJ : Hid (∀ k, (fun k => k < w.heap.size) k → ¬ S k) := fun j hj e => Nat.not_lt.2 (HSW.out j e) hj
        have HBL := Lib.hid hbw
        clear ho hsk hkk hS HD hbw hx hp
        go_wp2_with (first
          | (go_at_call 23; (with_reducible refine (dk_files HK.out).mono ?_); rintro e w4 ⟨fo, fc, rfl, hs, hb⟩; have HSF4 := Lib.hid hs; have HK4 := Lib.hid (HK.out.below hb); have HB4 := Lib.hid (HBW.out.trans (hb.mono HBW.out.size)); have HSZ := Lib.hid hb.size; obtain ⟨c0, c1, c2, c3, ⟨a4, k4, c4, s4⟩, ⟨a5, k5, c5, s5⟩⟩ := HO.out.below HB4.out HBL.out; have HS4 := Lib.hid s4; have HS5 := Lib.hid s5; clear hs hb s4 s5)
          | (go_at_call 13; (refine (does_any HK4.out HSK.out HS4.out HS5.out HDJ.out HDN.out).mono ?_); rintro e w5 ⟨rfl, hd, ht⟩; have HK5 := Lib.hid hd; have HB5 := Lib.hid (HB4.out.trans (ht.below HB4.out.size HSW.out)); have HSF5 := Lib.hid (HSF4.out.tn ht (fun j hj e => by have := HSL.out j e; omega)); have HGW := Lib.hid (fun j (hj : Gw S w4 w5 j) => Gw.lo HSW2.out (Nat.le_trans HWS2.out HSZ.out) hj); clear hd ht c0 c1 c2 c3 c4 c5)
          | (go_at_call 23; (with_reducible refine (dk_files HK5.out).mono ?_); rintro e w6 ⟨go, gc, rfl, hs, hb⟩; have HSF6 := Lib.hid hs; have HSG6 := Lib.hid (HSF5.out.below hb); have HK6 := Lib.hid (HK5.out.below hb); have HB6 := Lib.hid (HB5.out.trans (hb.mono HB5.out.size)); clear hs hb))
        have HTD := Lib.hid (told HK6.out.ok)
        generalize (x.step p).1 = y at *
        clear HK HSL HSW HDJ HK4 HB4 HSF4 HK5 HB5 HSF5 HSW2 HWS2 HS4 HS5 HSK HDN HSZ HBW
        have HROOM : Hid (totF (fvs y.f) ≤ 4194304) := HTD.out.room
        go_loopw [7, 8] (fun n i wr => ∃ j : Nat, j ≤ (fvs y.f).length ∧ i = .int .i64 j ∧ n = .int .i64 (totF ((fvs y.f).take j) : Nat) ∧ Hid (Below w6.heap.size w6 wr)) (fun _ i _ => (fvs y.f).length - (intOf i).toNat)
        case atStart => exact ⟨0, Nat.zero_le _, rfl, rfl, Below.refl _ _⟩
        case round =>
          obtain ⟨j, hj, rfl, rfl, HB7⟩ := hrel
          have hfl := HSF6.out.lt
          by_cases hlt3 : j < (fvs y.f).length
          · have hls := HTD.out.safe j hlt3
            have htk := totF_take hlt3
            have hle := totF_le (fvs y.f) (j + 1)
            have hroom := HROOM.out
            rw [htk] at hle
            have hadd : IntKind.i64.wrap ((totF ((fvs y.f).take j) : Int) + ((fvs y.f)[j].data.length : Int)) = (totF ((fvs y.f).take (j + 1)) : Nat) := by rw [htk]; exact wrap_add (by omega)
            obtain ⟨b1, o1, e1, _, f1, _⟩ := (HSF6.out.below HB7.out).at_ hlt3
            have HTK := Lib.hid htk
            clear htk hle hroom
            generalize hT2 : totF ((fvs y.f).take (j + 1)) = T2 at *
            have HT2 := Lib.hid hT2
            clear hT2
            generalize totF ((fvs y.f).take j) = T at *
            cases j with
            | zero =>
              subst e1
              generalize (fvs y.f)[0] = q at *
              have c0 := f1.c0
              have c2 := f1.c2
              obtain ⟨p1, k1, c1, _⟩ := f1.c1
              have h01 : decide (q.safe < (0 : Int)) = false := decide_eq_false (by omega)
              have h02 : decide ((q.data.length : Int) < q.safe) = false := decide_eq_false (by omega)
              clear f1 hls
              go_wp2
              go_big_quiet (fail)
              have HB8 := Lib.hid (HB7.out.trans ((below_drewN wr nq).mono HB7.out.size))
              generalize wr.drewN nq = wz at *
              go_wp2
              go_roundw
              case rel => exact ⟨0 + 1, by omega, by go_num, by rw [HT2.out], HB8⟩
              case measure => simp [intOf]; omega
            | succ i =>
              have hlt4 : i < (fvs y.f).length := by omega
              obtain ⟨b2, o2, e2, _, f2, _⟩ := (HSF6.out.below HB7.out).at_ hlt4
              rw [e1] at e2
              injection e2 with e2
              injection e2 with e2 e3
              subst e2; subst e3; subst e1
              obtain ⟨hn1, hn2⟩ := HTD.out.less i hlt3
              generalize (fvs y.f)[i + 1] = q at *
              generalize (fvs y.f)[i] = r at *
              have c0 := f1.c0
              have c2 := f1.c2
              obtain ⟨p1, k1, c1, _⟩ := f1.c1
              have g0 := f2.c0
              have h00 : (0 : Int) < ((i + 1 : Nat) : Int) := by omega
              have h01 : decide (q.safe < (0 : Int)) = false := decide_eq_false (by omega)
              have h02 : decide ((q.data.length : Int) < q.safe) = false := decide_eq_false (by omega)
              have hsub : IntKind.i64.wrap (((i + 1 : Nat) : Int) - 1) = (i : Int) := by rw [wrap_in (by omega)]; omega
              clear f1 f2 hls
              go_wp2
              go_big_quiet (fail)
              have HB8 := Lib.hid (HB7.out.trans ((below_drewN wr nq).mono HB7.out.size))
              generalize wr.drewN nq = wz at *
              go_wp2
              go_roundw
              case rel => exact ⟨i + 1 + 1, by omega, by go_num, by rw [HT2.out], HB8⟩
              case measure => simp [intOf]; omega
          · obtain rfl : j = (fvs y.f).length := by omega
            rw [List.take_length]
            go_wp2_with (first
              | (go_at_call 30; (with_reducible refine (dk_size (HK6.out.below HB7.out)).mono ?_); rintro e w8 ⟨rfl, hb⟩; have HB8 := Lib.hid (HB7.out.trans (hb.mono HB7.out.size)); clear hb)
              | (go_at_call 31; (with_reducible refine (dk_list (HK6.out.below HB8.out)).mono ?_); rintro e w9 ⟨lo, lc, rfl, hb⟩; have HB9 := Lib.hid (HB8.out.trans (hb.mono HB8.out.size)); clear hb))
            clear HROOM HB7 HB8
            go_loopw [9, 10, 11] (fun i _ _ wr => ∃ j : Nat, j ≤ (fvs x.f).length ∧ i = .int .i64 j ∧ Hid (Below w6.heap.size w6 wr)) (fun i _ _ _ => (fvs x.f).length - (intOf i).toNat)
            case atStart => exact ⟨0, Nat.zero_le _, rfl, HB9⟩
            case round =>
              obtain ⟨j, hj, rfl, HB⟩ := hrel
              have hfl3 := HSG6.out.lt
              have HB6R := Lib.hid (HB6.out.trans (HB.out.mono HB6.out.size))
              obtain ⟨c0, _, c2, c3, _, _⟩ := HO.out.below HB6R.out HBL.out
              by_cases hlt3 : j < (fvs x.f).length
              · by_cases h8 : p.kind = 8
                · rw [h8] at c0
                  go_wp2
                  have HBX := Lib.hid HB.out
                  have HBN := Lib.hid (HB6.out.trans (HBX.out.mono HB6.out.size))
                  go_roundw
                  case rel => exact ⟨k + 1, by omega, by go_num, by rw [HRT.out]; exact ⟨_, HGW.out, HK6.out.below HBX.out⟩, HBN.out⟩
                  case measure => simp [intOf]; omega
                · have h8b : (p.kind == 8) = false := by rw [beq_eq_false_iff_ne]; exact h8
                  obtain ⟨b1, o1, e1, _, f1, _⟩ := (HSG6.out.below HB.out).at_ hlt3
                  subst e1
                  have HQ : Hid ((fvs x.f)[j].name ≠ p.name → (fvs x.f)[j].name ≠ p.to → (fvs x.f)[j] ∈ fvs y.f) := HAP.out h8 _ (List.getElem_mem hlt3)
                  have HSUB : Hid (∃ C, SF C w6 (some ⟨b1, o1 + j * 3, none⟩) 1 (fc - j) [(fvs x.f)[j]]) := ⟨_, HSG6.out.sub hlt3⟩
                  generalize (fvs x.f)[j] = q at *
                  have g0 := f1.c0
                  clear f1
                  go_wp2
                  by_cases hn1 : q.name = p.name
                  · rw [hn1] at g0
                    go_wp2
                    go_big_quiet (fail)
                    have HBC := Lib.hid (HB.out.trans ((below_drewN wr nq).mono HB.out.size))
                    generalize wr.drewN nq = wz at *
                    go_wp2
                    go_roundw
                    case rel => exact ⟨j + 1, by omega, by go_num, HBC⟩
                    case measure => simp [intOf]; omega
                  by_cases hn2 : q.name = p.to
                  · by_cases hn3 : p.to = p.name
                    · exact absurd (hn2.trans hn3) hn1
                    have ht3 : (p.to == p.name) = false := by rw [beq_eq_false_iff_ne]; exact hn3
                    rw [hn2] at g0
                    go_wp2
                    go_big_quiet (fail)
                    have HBC := Lib.hid (HB.out.trans ((below_drewN wr nq).mono HB.out.size))
                    generalize wr.drewN nq = wz at *
                    go_wp2
                    go_roundw
                    case rel => exact ⟨j + 1, by omega, by go_num, HBC⟩
                    case measure => simp [intOf]; omega
                  · have ht1 : (q.name == p.name) = false := by rw [beq_eq_false_iff_ne]; exact hn1
                    have ht2 : (q.name == p.to) = false := by rw [beq_eq_false_iff_ne]; exact hn2
                    have HIN := Lib.hid (HQ.out hn1 hn2)
                    go_wp2
                    go_big_quiet (fail)
                    have HBC := Lib.hid (HB.out.trans ((below_drewN wr nq).mono HB.out.size))
                    generalize wr.drewN nq = wz at *
                    clear ht1 ht2 c0 c2 c3 g0 h8b
                    go_wp2
                    go_loopw [10, 11] (fun m i wr => ∃ r : Nat, r ≤ (fvs y.f).length ∧ i = .int .i64 r ∧ m = .bool (met ((fvs y.f).take r) q) ∧ Hid (Below w6.heap.size w6 wr)) (fun _ i _ => (fvs y.f).length - (intOf i).toNat)
                    case atStart => exact ⟨0, Nat.zero_le _, rfl, rfl, HBC⟩
                    case round =>
                      obtain ⟨r, hr, rfl, rfl, HBE⟩ := hrel
                      have hfl4 := HSF6.out.lt
                      by_cases hlt5 : r < (fvs y.f).length
                      · have hmt := met_take hlt5 q
                        obtain ⟨b2, o2, e2, _, _, _⟩ := HSF6.out.at_ hlt5
                        subst e2
                        obtain ⟨C1, hs1⟩ := HSUB.out
                        have hs2 := HSF6.out.sub hlt5
                        have HS1 := Lib.hid (hs1.below HBE.out)
                        have HS2 := Lib.hid (hs2.below HBE.out)
                        have hle4 := HSF6.out.le
                        have hmx4 := HSF6.out.max
                        have hle5 := HSG6.out.le
                        have hmx5 := HSG6.out.max
                        unfold maxLen at hmx4 hmx5
                        clear hs1 hs2
                        have HMT := Lib.hid hmt
                        clear hmt
                        have HV : Hid (sameF [(fvs y.f)[r]] [q] = eqv (fvs y.f)[r] q) := sameF_one _ _
                        generalize (fvs y.f)[r] = z at *
                        cases hm : met ((fvs y.f).take r) q with
                        | true =>
                          go_wp2
                          go_big_quiet (fail)
                          have HBF := Lib.hid (HBE.out.trans ((below_drewN wr nq).mono HBE.out.size))
                          generalize wr.drewN nq = wz at *
                          go_wp2
                          go_roundw
                          case rel => exact ⟨r + 1, by omega, by go_num, by rw [HMT.out, hm, Bool.true_or], HBF⟩
                          case measure => simp [intOf]; omega
                        | false =>
                          go_wp2
                          go_big_quiet ((go_at_call 22; exact Calls.quiet_of (same_any (HS2.out.below (below_drewN _ _)) (HS1.out.below (below_drewN _ _)))))
                          have HBF := Lib.hid (HBE.out.trans ((below_drewN wr nq).mono HBE.out.size))
                          generalize wr.drewN nq = wz at *
                          go_wp2
                          go_roundw
                          case rel => exact ⟨r + 1, by omega, by go_num, by rw [HMT.out, hm, Bool.false_or, HV.out], HBF⟩
                          case measure => simp [intOf]; omega
                      · obtain rfl : r = (fvs y.f).length := by omega
                        have hmm : met ((fvs y.f).take (fvs y.f).length) q = true := by rw [List.take_length]; exact met_mem HIN.out
                        rw [hmm]
                        go_wp2
                        go_roundw
                        case rel => exact ⟨j + 1, by omega, by go_num, HBE⟩
                        case measure => simp [intOf]; omega
              · go_wp2
                have HBX := Lib.hid HB.out
                have HBN := Lib.hid (HB6.out.trans (HBX.out.mono HB6.out.size))
                go_roundw
                case rel => exact ⟨k + 1, by omega, by go_num, by rw [HRT.out]; exact ⟨_, HGW.out, HK6.out.below HBX.out⟩, HBN.out⟩
                case measure => simp [intOf]; omega
      · go_wp2_with (go_at_call 10; (with_reducible refine (first_any _).mono ?_); rintro e w1 ⟨rfl, hb⟩; have HB1 := Lib.hid hb; clear hb)
        go_ret
        exact ⟨rfl, HBW.out.trans (HB1.out.mono HBW.out.size)⟩

set_option maxRecDepth 100000 in
theorem diskApart_lifted (os : Os) (started : os.Started) (H : Type) (enc : TypeId × Value → H) :
    ReturnsInHanded {} Try.checked os 9 .any (Rows.diskApartSpec.pre6 enc Try.prog Try.f9 [] false) (Rows.diskApartSpec.post enc Try.prog Try.f9 false true false false) := by
  refine returnsInHanded_of_change (C := Try.checked) own started (by kernel_rfl) Try.func9
    (ChangeSpec.witness6 (enc := enc) (C := Try.checked) false ⟨#[], #[.slice none 0 0], []⟩ 8 (by kernel_rfl) (by kernel_rfl) (by kernel_rfl) (by kernel_rfl)) ?_
  intro W base args ds gs before hval0 hW _ _
  have hval : ∀ (j : Nat) t v, Try.f9.params[j]? = some t → args[j]? = some v → Value.okWide Try.prog W .any base t v := hval0
  have hW' := hW
  obtain ⟨p, q, hA0, hV, rfl, hfz, hnd⟩ := hW
  have hA : DataW.TrodAll enc Try.prog W 0 (fun _ => true) true Try.f9.params.toList args.toList ds p := hA0
  rw [Try.params9] at hA hval
  obtain ⟨v0, d0, rfl, rfl, h0⟩ := trodAll_one hA
  obtain ⟨b0, len0, cap0, rfl⟩ := okWide_slice Try.underlying22 (hval 0 22 v0 rfl rfl)
  have k0 := h0
  obtain ⟨fuel0, g0⟩ := h0
  obtain ⟨rfl, rfl⟩ := trodVars_none hV
  clear hA0 hval0
  simp only [List.append_nil] at hW'
  have hlt : ∀ x ∈ p, x.block < W.heap.size := fun x hx => hW'.lt x (by simpa using hx)
  obtain ⟨ao0, c0, xs0, hv0, r0⟩ := open_so g0
  refine Calls.mono (?walk : Calls _ _ _ _ fun e w' => e = .returned (.bool true) ∧ Below W.heap.size W w') fun e W' ⟨he, hw⟩ => ?_
  case walk =>
    rw [hv0]
    exact diskApart_walk W ao0 c0 xs0 r0
  subst he
  exact ⟨_, rfl, post_of_below (pa := p) (pv := []) hW' (fun _ _ _ => trodAll_mk1 (shut_bool Try.underlying4 _)) (fun sp hsp => trodAll_mk1 (WideElems.Trod_stays laidOut (by kernel_rfl) (of_decide_eq_true (by kernel_rfl)) k0 (fun x hx => hw.same (hlt x (by first | (simp [hx]; done) | exact nomatch hx))) (fun x hx => hsp x (by first | (simp [hx]; done) | exact nomatch hx)))) (fun _ _ => rfl) (by simp) hw (ok_one (by kernel_rfl) rfl (okWide_bool_mk Try.underlying4 _))⟩
/-- THE ROW. -/
theorem diskApart_holds : Rows.DiskApartSaid :=
  OpenClaim.holds_of_wide 9 Try.f9 rfl rfl rfl rfl rfl rfl rfl ⟨rfl, rfl, rfl, rfl, rfl⟩ rfl rfl rfl rfl rfl (by kernel_rfl) Try.func9 (by kernel_rfl)
    (of_decide_eq_true (by kernel_rfl)) (by unfold Func.isWrapper; first | (rw [if_pos (by decide +kernel)]; kernel_rfl) | (rw [if_neg (by decide +kernel)]; exact ⟨rfl, rfl⟩))
    (fun os started H enc _ => diskApart_lifted os started H enc)
#print axioms diskApart_holds
end Go.Proofs.Ytefgnlijgomgpaa
