/- Any range: whether it may be, whether a place lies in it, and how it is split, as the document says: racelaw4.PlaceRanges answers true and leaves its arguments as they were. Conditions: none. -/
import Derived.Test.YtfdopinlmjbfaaaSp
import Derived.Test.YtfdopinlmjbfaaaOp
import Derived.Test.YtfdopinlmjbfaaaFi
import Derived.Deep.RegionHeld
namespace Go.Proofs.Ytfdopinlmjbfaaa
open Go.ChangeShapes Go.WideShapes Go.ChangeAt Go.RowKit
set_option maxRecDepth 100000 in
set_option maxHeartbeats 8000000 in
theorem ranges_all (w : World) (ai ae : Int) (al ah : Nat) (ur : (⟨ai, ae, al, ah⟩ : RV).wf) (x : Nat) (hx : x < 18446744073709551616) (c : Int) :
    Calls Try.prog 5 #[ragg ⟨ai, ae, al, ah⟩, .float .f64 x, .int .i64 c] w fun e w' => e = .returned (.bool true) ∧ Below w.heap.size w w' := by
  have hst := run_stf
  have HW := Lib.hid (below1 w (robj ⟨ai, ae, al, ah⟩))
  have HA := Lib.hid (at_new w ⟨ai, ae, al, ah⟩)
  have HS1 := fun w => Lib.hid (split_any ⟨ai, ae, al, ah⟩ ur x hx c w)
  have HS2 := fun w => Lib.hid (rsplit_any ⟨ai, ae, al, ah⟩ ur x hx c w)
  have HM1 := fun w => Lib.hid (may_any ⟨ai, ae, al, ah⟩ ur.2.2.1 ur.2.2.2 w)
  have HM2 := fun w => Lib.hid (rmay_any ⟨ai, ae, al, ah⟩ ur.2.2.1 ur.2.2.2 w)
  have HI1 := fun w => Lib.hid (in_any ⟨ai, ae, al, ah⟩ x w)
  have HI2 := fun w => Lib.hid (rin_any ⟨ai, ae, al, ah⟩ x w)
  generalize splitV ⟨ai, ae, al, ah⟩ x c = R at *
  generalize mayV ⟨ai, ae, al, ah⟩ = mb at *
  generalize inV ⟨ai, ae, al, ah⟩ x = ib at *
  obtain ⟨⟨pi, pe, pl, ph⟩, ⟨qi, qe, ql, qh⟩, n⟩ := R
  simp only at HS1 HS2
  have HV1 := fun w => Lib.hid (range_same ⟨pi, pe, pl, ph⟩ w)
  have HV2 := fun w => Lib.hid (range_same ⟨qi, qe, ql, qh⟩ w)
  have e1 : (mb == mb) = true := beq_self_eq_true _
  have e2 : (ib == ib) = true := beq_self_eq_true _
  have e3 : (n == n) = true := beq_self_eq_true _
  clear ur hx
  go_enter Try.func5, Try.ntmps5
  go_wp2_with (first
    | (go_at_call 12; ((with_reducible refine (first_any _).mono ?_); rintro e w' ⟨rfl, rfl⟩))
    | (go_at_call 22; with_reducible refine (HS1 _).out.mono ?_; rintro e w4 ⟨rfl, hb⟩; have HA := Lib.hid (((HA.out.below hb HA.out.lt).alloc (robj ⟨pi, pe, pl, ph⟩)).alloc (robj ⟨qi, qe, ql, qh⟩)); have HP := Lib.hid ((at_new w4 ⟨pi, pe, pl, ph⟩).alloc (robj ⟨qi, qe, ql, qh⟩)); have HQ := Lib.hid (at_snd w4 ⟨pi, pe, pl, ph⟩ ⟨qi, qe, ql, qh⟩); have HW := Lib.hid (bel2 (HW.out.trans (hb.mono HW.out.size)) (robj ⟨pi, pe, pl, ph⟩) (robj ⟨qi, qe, ql, qh⟩)); have A0 := HA.out.c0; have A1 := HA.out.c1; have A2 := HA.out.c2; have A3 := HA.out.c3; simp only [robj] at A0 A1 A2 A3; clear hb)
    | (go_at_call 23; with_reducible refine (HS2 _).out.mono ?_; rintro e w5 ⟨rfl, hb⟩; have HA := Lib.hid (((HA.out.below hb HA.out.lt).alloc (robj ⟨pi, pe, pl, ph⟩)).alloc (robj ⟨qi, qe, ql, qh⟩)); have HP := Lib.hid (((HP.out.below hb HP.out.lt).alloc (robj ⟨pi, pe, pl, ph⟩)).alloc (robj ⟨qi, qe, ql, qh⟩)); have HQ := Lib.hid (((HQ.out.below hb HQ.out.lt).alloc (robj ⟨pi, pe, pl, ph⟩)).alloc (robj ⟨qi, qe, ql, qh⟩)); have HR := Lib.hid ((at_new w5 ⟨pi, pe, pl, ph⟩).alloc (robj ⟨qi, qe, ql, qh⟩)); have HU := Lib.hid (at_snd w5 ⟨pi, pe, pl, ph⟩ ⟨qi, qe, ql, qh⟩); have HW := Lib.hid (bel2 (HW.out.trans (hb.mono HW.out.size)) (robj ⟨pi, pe, pl, ph⟩) (robj ⟨qi, qe, ql, qh⟩)); clear hb))
  have HW := Lib.hid (HW.out.drew)
  have HA := Lib.hid (HA.out.below (Below.refl _ _).drew HA.out.lt)
  have HP := Lib.hid (HP.out.below (Below.refl _ _).drew HP.out.lt)
  have HQ := Lib.hid (HQ.out.below (Below.refl _ _).drew HQ.out.lt)
  have HR := Lib.hid (HR.out.below (Below.refl _ _).drew HR.out.lt)
  have HU := Lib.hid (HU.out.below (Below.refl _ _).drew HU.out.lt)
  go_region_held (fun w' => w'.cell? ⟨w.heap.size, 0, none⟩ = some (.int .i64 ai) ∧ w'.cell? ⟨w.heap.size, 1, none⟩ = some (.int .i64 ae) ∧ w'.cell? ⟨w.heap.size, 2, none⟩ = some (.float .f64 al) ∧ w'.cell? ⟨w.heap.size, 3, none⟩ = some (.float .f64 ah) ∧ w'.cell? ⟨w4.heap.size, 0, none⟩ = some (.int .i64 pi) ∧ w'.cell? ⟨w4.heap.size, 1, none⟩ = some (.int .i64 pe) ∧ w'.cell? ⟨w4.heap.size, 2, none⟩ = some (.float .f64 pl) ∧ w'.cell? ⟨w4.heap.size, 3, none⟩ = some (.float .f64 ph) ∧ w'.cell? ⟨w4.heap.size + 1, 0, none⟩ = some (.int .i64 qi) ∧ w'.cell? ⟨w4.heap.size + 1, 1, none⟩ = some (.int .i64 qe) ∧ w'.cell? ⟨w4.heap.size + 1, 2, none⟩ = some (.float .f64 ql) ∧ w'.cell? ⟨w4.heap.size + 1, 3, none⟩ = some (.float .f64 qh) ∧ w'.cell? ⟨w5.heap.size, 0, none⟩ = some (.int .i64 pi) ∧ w'.cell? ⟨w5.heap.size, 1, none⟩ = some (.int .i64 pe) ∧ w'.cell? ⟨w5.heap.size, 2, none⟩ = some (.float .f64 pl) ∧ w'.cell? ⟨w5.heap.size, 3, none⟩ = some (.float .f64 ph) ∧ w'.cell? ⟨w5.heap.size + 1, 0, none⟩ = some (.int .i64 qi) ∧ w'.cell? ⟨w5.heap.size + 1, 1, none⟩ = some (.int .i64 qe) ∧ w'.cell? ⟨w5.heap.size + 1, 2, none⟩ = some (.float .f64 ql) ∧ w'.cell? ⟨w5.heap.size + 1, 3, none⟩ = some (.float .f64 qh)) (exact ⟨HA.out.c0, HA.out.c1, HA.out.c2, HA.out.c3, HP.out.c0, HP.out.c1, HP.out.c2, HP.out.c3, HQ.out.c0, HQ.out.c1, HQ.out.c2, HQ.out.c3, HR.out.c0, HR.out.c1, HR.out.c2, HR.out.c3, HU.out.c0, HU.out.c1, HU.out.c2, HU.out.c3⟩) (first
    | (go_at_call 12; ((with_reducible refine (first_any _).mono ?_); rintro e w' ⟨rfl, rfl⟩))
    | (go_at_call 24; with_reducible refine ((HM1 _).out).mono ?_; rintro e w6 ⟨rfl, hb⟩; have HA := Lib.hid (HA.out.below hb HA.out.lt); have HP := Lib.hid (HP.out.below hb HP.out.lt); have HQ := Lib.hid (HQ.out.below hb HQ.out.lt); have HR := Lib.hid (HR.out.below hb HR.out.lt); have HU := Lib.hid (HU.out.below hb HU.out.lt); have HW := Lib.hid (HW.out.trans (hb.mono HW.out.size)); clear hb)
    | (go_at_call 25; with_reducible refine ((HM2 _).out).mono ?_; rintro e w6 ⟨rfl, hb⟩; have HA := Lib.hid (HA.out.below hb HA.out.lt); have HP := Lib.hid (HP.out.below hb HP.out.lt); have HQ := Lib.hid (HQ.out.below hb HQ.out.lt); have HR := Lib.hid (HR.out.below hb HR.out.lt); have HU := Lib.hid (HU.out.below hb HU.out.lt); have HW := Lib.hid (HW.out.trans (hb.mono HW.out.size)); clear hb)
    | (go_at_call 26; with_reducible refine ((HI1 _).out).mono ?_; rintro e w6 ⟨rfl, hb⟩; have HA := Lib.hid (HA.out.below hb HA.out.lt); have HP := Lib.hid (HP.out.below hb HP.out.lt); have HQ := Lib.hid (HQ.out.below hb HQ.out.lt); have HR := Lib.hid (HR.out.below hb HR.out.lt); have HU := Lib.hid (HU.out.below hb HU.out.lt); have HW := Lib.hid (HW.out.trans (hb.mono HW.out.size)); clear hb)
    | (go_at_call 27; with_reducible refine ((HI2 _).out).mono ?_; rintro e w6 ⟨rfl, hb⟩; have HA := Lib.hid (HA.out.below hb HA.out.lt); have HP := Lib.hid (HP.out.below hb HP.out.lt); have HQ := Lib.hid (HQ.out.below hb HQ.out.lt); have HR := Lib.hid (HR.out.below hb HR.out.lt); have HU := Lib.hid (HU.out.below hb HU.out.lt); have HW := Lib.hid (HW.out.trans (hb.mono HW.out.size)); clear hb)
    | (go_at_call 28; with_reducible refine ((HV1 _).out).mono ?_; rintro e w6 ⟨rfl, hb⟩; have HA := Lib.hid (HA.out.below hb HA.out.lt); have HP := Lib.hid (HP.out.below hb HP.out.lt); have HQ := Lib.hid (HQ.out.below hb HQ.out.lt); have HR := Lib.hid (HR.out.below hb HR.out.lt); have HU := Lib.hid (HU.out.below hb HU.out.lt); have HW := Lib.hid (HW.out.trans (hb.mono HW.out.size)); clear hb)
    | (go_at_call 28; with_reducible refine ((HV2 _).out).mono ?_; rintro e w6 ⟨rfl, hb⟩; have HA := Lib.hid (HA.out.below hb HA.out.lt); have HP := Lib.hid (HP.out.below hb HP.out.lt); have HQ := Lib.hid (HQ.out.below hb HQ.out.lt); have HR := Lib.hid (HR.out.below hb HR.out.lt); have HU := Lib.hid (HU.out.below hb HU.out.lt); have HW := Lib.hid (HW.out.trans (hb.mono HW.out.size)); clear hb))
  all_goals go_wp2
  all_goals go_ret
  all_goals exact ⟨rfl, HW.out⟩
theorem placeRanges_walk (W : World) (r : RV) (ur : r.wf) (x : Nat) (hx : x < 18446744073709551616) (c : Int) (_ : -9223372036854775808 ≤ c) (_ : c < 9223372036854775808) :
    Calls Try.prog 5 #[ragg r, .float .f64 x, .int .i64 c] W fun e w' => e = .returned (.bool true) ∧ Below W.heap.size W w' := by
  obtain ⟨ai, ae, al, ah⟩ := r
  exact ranges_all W ai ae al ah ur x hx c

set_option maxRecDepth 100000 in
theorem placeRanges_lifted (os : Os) (started : os.Started) (H : Type) (enc : TypeId × Value → H) :
    ReturnsInHanded {} Try.checked os 5 .any (Rows.placeRangesSpec.pre6 enc Try.prog Try.f5 [] false) (Rows.placeRangesSpec.post enc Try.prog Try.f5 false true false false) := by
  refine returnsInHanded_of_change (C := Try.checked) own started (by kernel_rfl) Try.func5
    (ChangeSpec.witness6 (enc := enc) (C := Try.checked) false ⟨#[], #[.agg #[.int .i64 0, .int .i64 0, .float .f64 0, .float .f64 0], .float .f64 0, .int .i64 0], []⟩ 8 (by kernel_rfl) (by kernel_rfl) (by kernel_rfl) (by kernel_rfl)) ?_
  intro W base args ds gs before hval0 hW _ _
  have hval : ∀ (j : Nat) t v, Try.f5.params[j]? = some t → args[j]? = some v → Value.okWide Try.prog W .any base t v := hval0
  have hW' := hW
  obtain ⟨p, q, hA0, hV, rfl, hfz, hnd⟩ := hW
  have hA : DataW.TrodAll enc Try.prog W 0 (fun _ => true) true Try.f5.params.toList args.toList ds p := hA0
  rw [Try.params5] at hA hval
  obtain ⟨v0, v1, v2, d0, d1, d2, p0, p1, p2, rfl, rfl, rfl, h0, h1, h2⟩ := trodAll_three hA
  have k0 := h0
  obtain ⟨x0, rfl, rfl, u0⟩ := open_range (hval 0 34 v0 rfl rfl) h0
  obtain ⟨a1, rfl, rfl, rfl, wf1⟩ := open_float Try.underlying23 (hval 1 23 v1 rfl rfl) h1
  obtain ⟨a2, rfl, rfl, rfl, wf2⟩ := open_int Try.underlying3 (hval 2 3 v2 rfl rfl) h2
  obtain ⟨rfl, rfl⟩ := trodVars_none hV
  clear hA0 hval0
  simp only [List.append_nil] at hW'
  have hlt : ∀ x ∈ ([] : List MemPlace) ++ ([] : List MemPlace) ++ ([] : List MemPlace), x.block < W.heap.size := fun x hx => by simp at hx
  have hwf1 := wf1
  simp [Lit.wf] at hwf1
  have hwf2 := wf2
  simp [Lit.wf, IntKind.min, IntKind.max, IntKind.signed, IntKind.bits] at hwf2
  refine Calls.mono (?walk : Calls _ _ _ _ fun e w' => e = .returned (.bool true) ∧ Below W.heap.size W w') fun e W' ⟨he, hw⟩ => ?_
  case walk =>
    exact placeRanges_walk W x0 u0 a1 (by omega) a2 (by omega) (by omega)
  subst he
  exact ⟨_, rfl, post_of_below (pa := [] ++ ([] ++ [])) (pv := []) hW' (fun _ _ _ => trodAll_mk1 (shut_bool Try.underlying4 _)) (fun sp hsp => trodAll_mk3 (WideElems.Trod_stays laidOut (by kernel_rfl) (of_decide_eq_true (by kernel_rfl)) k0 (fun x hx => hw.same (hlt x (by simp [hx]))) (fun x hx => hsp x (by simp [hx]))) (shut_float Try.underlying23 wf1) (shut_int Try.underlying3 wf2)) (fun _ _ => rfl) (by simp) hw (ok_one (by kernel_rfl) rfl (okWide_bool_mk Try.underlying4 _))⟩
/-- THE ROW. -/
theorem placeRanges_holds : Rows.PlaceRangesSaid :=
  OpenClaim.holds_of_wide 5 Try.f5 rfl rfl rfl rfl rfl rfl rfl ⟨rfl, rfl, rfl, rfl, rfl⟩ rfl rfl rfl rfl rfl (by kernel_rfl) Try.func5 (by kernel_rfl)
    (of_decide_eq_true (by kernel_rfl)) (by unfold Func.isWrapper; first | (rw [if_pos (by decide +kernel)]; kernel_rfl) | (rw [if_neg (by decide +kernel)]; exact ⟨rfl, rfl⟩))
    (fun os started H enc _ => placeRanges_lifted os started H enc)
#print axioms placeRanges_holds
end Go.Proofs.Ytfdopinlmjbfaaa
