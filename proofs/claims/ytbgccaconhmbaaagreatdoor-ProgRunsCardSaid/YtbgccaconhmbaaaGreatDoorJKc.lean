/- ProgChecks' walk. Conditions: values and texts as Go has them. -/
import Derived.Test.YtbgccaconhmbaaaGreatDoorJKy
import Derived.Test.YtbgccaconhmbaaaGreatDoorJPu
import Derived.Test.YtbgccaconhmbaaaGreatDoorJNl
namespace Go.Proofs.YtbgccaconhmbaaaGreatDoor
open Go.ChangeShapes Go.WideShapes Go.ChangeAt Go.RowKit Go.Deep
theorem fewO_len {p : List OpV} (h : fewO p = true) : p.length ≤ 200 := by
  unfold fewO at h
  rw [Bool.and_eq_true] at h
  exact of_decide_eq_true h.1
section
variable {P : Nat → Prop} {w : World} {vp : Value} {p : List OpV}
set_option maxRecDepth 100000 in
set_option maxHeartbeats 4000000 in
/-- racelaw9.ProgChecks answers true. -/
theorem checks_any (hp : HasO P w vp p) (hR : Rdy w) (hwp : ∀ o ∈ p, o.wf) :
    Calls Tryz.prog 3 #[vp] w fun e w' => e = .returned (.bool true) ∧ Below w.heap.size w w' := by
  have HP := Lib.hid hp
  have HR := Lib.hid hR
  have HF := fun w hR => Lib.hid (first9_any w hR)
  have HA := fun w (hp : HasO P w vp p) => Lib.hid (fewO_any hp hwp)
  obtain ⟨ao, cap, rfl⟩ := hasg_sl hp
  clear hp hR
  cases h1 : fewO p with
  | false =>
    simp only [h1] at HA
    clear h1 hwp
    go_enter Tryz.func3, Tryz.ntmps3
    go_wp2_with (first
      | (go_at_call 12; refine (HA _ (HP.out.below HB1.out)).out.mono ?_; rintro e w2 ⟨rfl, hb⟩; have HB2 := Lib.hid (HB1.out.trans (hb.mono HB1.out.size)); clear hb)
      | (go_at_call 11; first
        | (refine (HF _ (HR.out.below HB2.out)).out.mono ?_; rintro e w3 ⟨rfl, hb⟩; have HB3 := Lib.hid (HB2.out.trans (hb.mono HB2.out.size)); clear hb)
        | (refine (HF _ HR.out).out.mono ?_; rintro e w1 ⟨rfl, hb⟩; have HB1 := Lib.hid hb; clear hb)))
    go_ret
    exact ⟨rfl, HB3.out⟩
  | true =>
    simp only [h1] at HA
    have hl := fewO_len h1
    have hl6 : p.length ≤ 1000000 := by omega
    have HCP := fun w (hp : HasO P w (.slice ao p.length cap) p) => Lib.hid (copyOps_any hp hl6)
    have HCK : Hid (∀ {P' : Nat → Prop} {w : World} {v : Value}, HasO P' w v p → Rdy w → Calls Tryz.prog 16 #[v] w fun e w' => e = .returned (.int .i64 (chkV p)) ∧ Below w.heap.size w w') := Lib.hid (fun a b => check_any a b.stb.stp)
    have HRC := fun w (hp : HasO P w (.slice ao p.length cap) p) => Lib.hid (rcheck_any hp)
    have HRR := fun w (hp : HasO P w (.slice ao p.length cap) p) => Lib.hid (rreads_any hp hl6)
    have HRN := fun w (hp : HasO P w (.slice ao p.length cap) p) => Lib.hid (rnames_any hp hl6)
    obtain ⟨Rq, hRq⟩ : ∃ R, readsV p = R := ⟨_, rfl⟩
    obtain ⟨Nq, hNq⟩ : ∃ R, namesV p = R := ⟨_, rfl⟩
    obtain ⟨Rn, hRn⟩ : ∃ n, Rq.length = n := ⟨_, rfl⟩
    obtain ⟨Nn, hNn⟩ : ∃ n, Nq.length = n := ⟨_, rfl⟩
    have HRD := fun (w : World) (v : Value) (P : Nat → Prop) (hv : HasO P w v p) => Lib.hid (readsS_any hv hl6 hRq hRn)
    have HND := fun (w : World) (v : Value) (P : Nat → Prop) (hv : HasO P w v p) => Lib.hid (namesS_any hv hl6 hNq hNn)
    simp only [hRq] at HRR
    simp only [hNq] at HRN
    have HTR := fun (P Q : Nat → Prop) (w : World) (va vb : Value) (ha : HasS P w va Rq) (hb : HasS Q w vb Rq) => Lib.hid (texts_any ha hb)
    have HTN := fun (P Q : Nat → Prop) (w : World) (va vb : Value) (ha : HasS P w va Nq) (hb : HasS Q w vb Nq) => Lib.hid (texts_any ha hb)
    have HOO := fun (P' Q : Nat → Prop) (w : World) (va vb : Value) (ha : HasO P' w va p) (hb : HasO Q w vb p) => Lib.hid (ops_any ha hb)
    simp only [allT_self] at HTR HTN
    simp only [allO_self] at HOO
    generalize chkV p = c at *
    obtain ⟨n, hn⟩ : ∃ n, p.length = n := ⟨_, rfl⟩
    rw [hn] at HP HA HCP HRC HRR HRN
    rw [hn]
    have HL := Lib.hid hn
    clear h1 hwp hl hl6 hRq hNq hRn hNn hn
    go_enter Tryz.func3, Tryz.ntmps3
    go_wp2_with (first
      | (go_at_call 12; refine (HA _ (HP.out.below HB1.out)).out.mono ?_; rintro e w2 ⟨rfl, hb⟩; have HB2 := Lib.hid (HB1.out.trans (hb.mono HB1.out.size)); clear hb)
      | (go_at_call 13; refine (HCP _ (HP.out.below HB2.out)).out.mono ?_; rintro e w3 ⟨u3, rfl, hb, ho⟩; have HB3 := Lib.hid (HB2.out.trans (hb.mono HB2.out.size)); have HI3 : Hid (HasO (fun k => w2.heap.size ≤ k) w3 u3 p) := Lib.hid (own_hasG opC_len (by rw [HL.out]; exact ho)); clear hb ho)
      | (go_at_call 14; refine (HRD _ _ _ HI3.out).out.mono ?_; rintro e w4 ⟨a4, c4, rfl, hb, hk⟩; have HB4 := Lib.hid (HB3.out.trans (hb.mono HB3.out.size)); have HI4 := Lib.hid (HI3.out.below hb); have RA4 := Lib.hid hk; clear hb hk)
      | (go_at_call 15; refine (HND _ _ _ HI4.out).out.mono ?_; rintro e w5 ⟨a5, c5, rfl, hb, hk⟩; have HB5 := Lib.hid (HB4.out.trans (hb.mono HB4.out.size)); have HI5 := Lib.hid (HI4.out.below hb); have RA5 := Lib.hid (RA4.out.below hb); have NA5 := Lib.hid hk; clear hb hk)
      | (go_at_call 11; first
        | (refine (HF _ (HR.out.below HB5.out)).out.mono ?_; rintro e w6 ⟨rfl, hb⟩; have HB6 := Lib.hid (HB5.out.trans (hb.mono HB5.out.size)); have HI6 := Lib.hid (HI5.out.below hb); have RA6 := Lib.hid (RA5.out.below hb); have NA6 := Lib.hid (NA5.out.below hb); clear hb)
        | (refine (HF _ HR.out).out.mono ?_; rintro e w1 ⟨rfl, hb⟩; have HB1 := Lib.hid hb; clear hb))
      | (go_at_call 16; refine (HCK.out HI6.out (HR.out.below HB6.out)).mono ?_; rintro e w7 ⟨rfl, hb⟩; have HB7 := Lib.hid (HB6.out.trans (hb.mono HB6.out.size)); have HI7 := Lib.hid (HI6.out.below hb); have RA7 := Lib.hid (RA6.out.below hb); have NA7 := Lib.hid (NA6.out.below hb); clear hb)
      | (go_at_call 17; refine (HRC _ (HP.out.below HB7.out)).out.mono ?_; rintro e w8 ⟨rfl, hb⟩; have HB8 := Lib.hid (HB7.out.trans (hb.mono HB7.out.size)); have HI8 := Lib.hid (HI7.out.below hb); have RA8 := Lib.hid (RA7.out.below hb); have NA8 := Lib.hid (NA7.out.below hb); clear hb)
      | (go_at_call 19; refine (HRR _ (HP.out.below HB8.out)).out.mono ?_; rintro e w9 ⟨u9, rfl, hb, ho⟩; have HB9 := Lib.hid (HB8.out.trans (hb.mono HB8.out.size)); have HI9 := Lib.hid (HI8.out.below hb); have RA9 := Lib.hid (RA8.out.below hb); have NA9 := Lib.hid (NA8.out.below hb); have RR9 := Lib.hid (own_keys ho); clear hb ho)
      | (go_at_call 20; refine (HRN _ (HP.out.below HB10.out)).out.mono ?_; rintro e w11 ⟨u11, rfl, hb, ho⟩; have HB11 := Lib.hid (HB10.out.trans (hb.mono HB10.out.size)); have HI11 := Lib.hid (HI10.out.below hb); have NA11 := Lib.hid (NA10.out.below hb); have RN11 := Lib.hid (own_keys ho); clear hb ho)
      | (go_at_call 18; first
        | (refine (HTN _ _ _ _ _ NA11.out RN11.out).out.mono ?_; rintro e w12 ⟨rfl, hb⟩; have HB12 := Lib.hid (HB11.out.trans (hb.mono HB11.out.size)); have HI12 := Lib.hid (HI11.out.below hb); clear hb)
        | (refine (HTR _ _ _ _ _ RA9.out RR9.out).out.mono ?_; rintro e w10 ⟨rfl, hb⟩; have HB10 := Lib.hid (HB9.out.trans (hb.mono HB9.out.size)); have HI10 := Lib.hid (HI9.out.below hb); have NA10 := Lib.hid (NA9.out.below hb); clear hb))
      | (go_at_call 21; refine (HOO _ _ _ _ _ HI12.out (HP.out.below HB12.out)).out.mono ?_; rintro e w13 ⟨rfl, hb⟩; have HB13 := Lib.hid (HB12.out.trans (hb.mono HB12.out.size)); clear hb))
    go_ret
    exact ⟨rfl, HB13.out⟩
end
end Go.Proofs.YtbgccaconhmbaaaGreatDoor
