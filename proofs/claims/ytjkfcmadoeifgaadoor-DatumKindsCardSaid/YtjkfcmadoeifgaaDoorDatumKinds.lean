/- Which texts are keys, which values may be, and what is made: racelaw3.DatumKinds answers true and leaves its arguments as they were. Conditions: the library's tables hold what their initialisers lay. -/
import Derived.Test.YtjkfcmadoeifgaaDoorFj
import Derived.Test.YtjkfcmadoeifgaaDoorAg
import Derived.Deep.RegionWith
import Derived.Test.YtjkfcmadoeifgaaDoorCards
import Derived.Test.YtjkfcmadoeifgaaDoorTie
namespace Go.Proofs.YtjkfcmadoeifgaaDoor
open Go.ChangeShapes Go.WideShapes Go.ChangeAt Go.RowKit
set_option maxRecDepth 100000 in
theorem datumKinds_first (w : World) (s : List UInt8) (v : DV) (x : Nat) (hT : Tabs w) (hc : 2000 < s.length ∨ s.length ≤ 2000 ∧ 2000 < v.s.length) :
    Calls Tryd.prog 3 #[.string ⟨s.toArray⟩, vagg v, .float .f64 x] w fun e w' => e = .returned (.bool true) ∧ Below w.heap.size w w' := by
  have HB := Lib.hid (below1 w (vobj v))
  have HA := Lib.hid (at_new w v)
  have HT := Lib.hid hT
  have HSM := fun w => Lib.hid (small_any v w)
  clear hT
  rcases hc with hc | ⟨hc, hv⟩
  · have hc' : (2000 : Int) < (s.length : Int) := by omega
    obtain ⟨k, y, t⟩ := v
    go_enter Tryd.func3, Tryd.ntmps3
    go_wp2_with (first
      | (go_at_call 8; refine (first_ex _ (HT.out.below HB.out)).mono ?_; rintro e w1 ⟨rfl, hb⟩; have ha := HA.out.below hb HA.out.lt; have d0 := ha.c0; have d1 := ha.c1; have d2 := ha.c2; have HB := Lib.hid (HB.out.trans (hb.mono HB.out.size)); have HA := Lib.hid ha; clear hb ha))
    go_ret
    exact ⟨rfl, HB.out⟩
  · have hc' : ¬ (2000 : Int) < (s.length : Int) := by omega
    rw [decide_eq_false (by omega)] at HSM
    obtain ⟨k, y, t⟩ := v
    clear hv
    go_enter Tryd.func3, Tryd.ntmps3
    go_wp2_with (first
      | (go_at_call 8; refine (first_ex _ (HT.out.below HB.out)).mono ?_; rintro e w1 ⟨rfl, hb⟩; have ha := HA.out.below hb HA.out.lt; have d0 := ha.c0; have d1 := ha.c1; have d2 := ha.c2; have HB := Lib.hid (HB.out.trans (hb.mono HB.out.size)); have HA := Lib.hid ha; clear hb ha)
      | (go_at_call 9; refine (HSM _).out.mono ?_; rintro e w2 ⟨rfl, hb⟩; have HA := Lib.hid (HA.out.below hb HA.out.lt); have HB := Lib.hid (HB.out.trans (hb.mono HB.out.size)); clear hb))
    go_ret
    exact ⟨rfl, HB.out⟩
set_option maxRecDepth 100000 in
set_option maxHeartbeats 4000000 in
theorem datumKinds_some (w : World) (s : List UInt8) (v : DV) (x : Nat) (hT : Tabs w) (hc : s.length ≤ 2000) (hv : v.s.length ≤ 2000) :
    Calls Tryd.prog 3 #[.string ⟨s.toArray⟩, vagg v, .float .f64 x] w fun e w' => e = .returned (.bool true) ∧ Below w.heap.size w w' := by
  have HB := Lib.hid (below1 w (vobj v))
  have HA := Lib.hid (at_new w v)
  have HT := Lib.hid hT
  have HSM := fun w => Lib.hid (small_any v w)
  have HV1 := fun w => Lib.hid (value_any ⟨1, canon x, []⟩ ⟨1, canon x, []⟩ w)
  have HV2 := fun w => Lib.hid (value_any (wordsV s) (wordsV s) w)
  rw [sameV_self] at HV1 HV2
  have HN1 := fun w => Lib.hid (number_any x w)
  have HN2 := fun w => Lib.hid (rnumber_any x w)
  have HW1 := fun w => Lib.hid (words_any s w)
  have HW2 := fun w => Lib.hid (rwords_any s w)
  have HK1 := fun w => Lib.hid (key_any s w)
  have HK2 := fun w => Lib.hid (rkey_any s w)
  have HM1 := fun w => Lib.hid (may_any v w)
  have HM2 := fun w => Lib.hid (rmay_any v w)
  have hc' : ¬ (2000 : Int) < (s.length : Int) := by omega
  rw [decide_eq_true (by omega)] at HSM
  generalize wordsV s = W at *
  generalize keyV s = kb at *
  generalize mayV v = mb at *
  have hk : (kb == kb) = true := beq_self_eq_true _
  have hm : (mb == mb) = true := beq_self_eq_true _
  obtain ⟨k, y, t⟩ := v
  clear hT hv
  go_enter Tryd.func3, Tryd.ntmps3
  go_wp2_with (first
    | (go_at_call 8; refine (first_ex _ (HT.out.below HB.out)).mono ?_; rintro e w1 ⟨rfl, hb⟩; have ha := HA.out.below hb HA.out.lt; have d0 := ha.c0; have d1 := ha.c1; have d2 := ha.c2; have HB := Lib.hid (HB.out.trans (hb.mono HB.out.size)); have HA := Lib.hid ha; clear hb ha)
    | (go_at_call 9; refine (HSM _).out.mono ?_; rintro e w2 ⟨rfl, hb⟩; have HA := Lib.hid (HA.out.below hb HA.out.lt); have HB := Lib.hid (HB.out.trans (hb.mono HB.out.size)); clear hb)
    | (go_at_call 11; with_reducible refine ((HN1 _).out).mono ?_; rintro e w3 ⟨rfl, hb⟩; have HA := Lib.hid (HA.out.below hb HA.out.lt); have HB := Lib.hid (HB.out.trans (hb.mono HB.out.size)); clear hb)
    | (go_at_call 12; with_reducible refine ((HN2 _).out).mono ?_; rintro e w3 ⟨rfl, hb⟩; have HA := Lib.hid (HA.out.below hb HA.out.lt); have HB := Lib.hid (HB.out.trans (hb.mono HB.out.size)); clear hb)
    | (go_at_call 10; with_reducible refine ((HV1 _).out).mono ?_; rintro e w3 ⟨rfl, hb⟩; have HA := Lib.hid (HA.out.below hb HA.out.lt); have HB := Lib.hid (HB.out.trans (hb.mono HB.out.size)); clear hb)
    | (go_at_call 10; with_reducible refine ((HV2 _).out).mono ?_; rintro e w3 ⟨rfl, hb⟩; have HA := Lib.hid (HA.out.below hb HA.out.lt); have HB := Lib.hid (HB.out.trans (hb.mono HB.out.size)); clear hb)
    | (go_at_call 13; with_reducible refine ((HW1 _).out).mono ?_; rintro e w3 ⟨rfl, hb⟩; have HA := Lib.hid (HA.out.below hb HA.out.lt); have HB := Lib.hid (HB.out.trans (hb.mono HB.out.size)); clear hb)
    | (go_at_call 14; with_reducible refine ((HW2 _).out).mono ?_; rintro e w3 ⟨rfl, hb⟩; have HA := Lib.hid (HA.out.below hb HA.out.lt); have HB := Lib.hid (HB.out.trans (hb.mono HB.out.size)); clear hb))
  have HBD := Lib.hid (HB.out.drew)
  have HAD := Lib.hid (HA.out.below (Below.refl _ _).drew HA.out.lt)
  go_region_with (first
    | (go_at_call 8; refine (first_ex _ (HT.out.below HBD.out)).mono ?_; rintro e w1 ⟨rfl, hb⟩; have ha := HAD.out.below hb HAD.out.lt; have d0 := ha.c0; have d1 := ha.c1; have d2 := ha.c2; have HBE := Lib.hid (HBD.out.trans (hb.mono HBD.out.size)); have HAE := Lib.hid ha; clear hb ha)
    | (go_at_call 15; with_reducible refine (HK1 _).out.mono ?_; rintro e w3 ⟨rfl, rfl⟩)
    | (go_at_call 16; with_reducible refine (HK2 _).out.mono ?_; rintro e w4 ⟨rfl, rfl⟩)
    | (go_at_call 17; with_reducible refine (HM1 _).out.mono ?_; rintro e w5 ⟨rfl, hb⟩; have ha := HAE.out.below hb HAE.out.lt; have e0 := ha.c0; have e1 := ha.c1; have e2 := ha.c2; have HBF := Lib.hid (HBE.out.trans (hb.mono HBE.out.size)); clear hb ha)
    | (go_at_call 18; with_reducible refine (HM2 _).out.mono ?_; rintro e w6 ⟨rfl, hb⟩; have HBG := Lib.hid (HBF.out.trans (hb.mono HBF.out.size)); clear hb))
  all_goals go_wp2
  all_goals go_ret
  all_goals exact ⟨rfl, HBG.out⟩
theorem datumKinds_walk (w : World) (s : List UInt8) (_ : s.length ≤ 9223372036854775807) (v : DV) (_ : v.wf) (x : Nat) (_ : x < 18446744073709551616) (hT : Tabs w) :
    Calls Tryd.prog 3 #[.string ⟨s.toArray⟩, vagg v, .float .f64 x] w fun e w' => e = .returned (.bool true) ∧ Below w.heap.size w w' := by
  by_cases h1 : s.length ≤ 2000
  · by_cases h2 : v.s.length ≤ 2000
    · exact datumKinds_some w s v x hT h1 h2
    · exact datumKinds_first w s v x hT (.inr ⟨h1, by omega⟩)
  · exact datumKinds_first w s v x hT (.inl (by omega))

set_option maxRecDepth 100000 in
theorem datumKinds_lifted (os : Os) (started : os.Started) (H : Type) (enc : TypeId × Value → H) :
    ReturnsInHanded {} Tryd.checked os 3 .any (fun w args => (Rows.datumKindsSpec.pre enc Tryd.prog Tryd.f3 [] false w args ∧ laidMetH Tryd.prog laid3 w) ∧ sizedMet enc Tryd.prog Tryd.f3 (OpenSpec.ofChange Rows.datumKindsSpec) false w args)
      (Rows.datumKindsSpec.post enc Tryd.prog Tryd.f3 false true false false) := by
  refine returnsInHanded_of_change_and (C := Tryd.checked) (X := fun w _ => laidMetH Tryd.prog laid3 w) (fun _ _ _ hh h => h.of_heap hh) own started (by kernel_rfl) Tryd.func3
    (ChangeSpec.witness_shaped (enc := enc) (C := Tryd.checked) (os := os) (X := fun w _ => laidMetH Tryd.prog laid3 w) false (World.doorLaid Tryd.prog 400 os) #[.string ⟨#[]⟩, .agg #[.int .i64 0, .float .f64 0, .string ⟨#[]⟩], .float .f64 0] 8 rfl (World.shaped_of_RefB (by kernel_rfl) (by kernel_rfl)) (by kernel_rfl) (by kernel_rfl) (by kernel_rfl) (door_met os _)) ?_
  intro W base args ds gs before hval0 hW _ _ hL _
  have hval : ∀ (j : Nat) t v, Tryd.f3.params[j]? = some t → args[j]? = some v → Value.okWide Tryd.prog W .any base t v := hval0
  have hW' := hW
  obtain ⟨p, q, hA0, hV, rfl, hfz, hnd⟩ := hW
  have hA : DataW.TrodAll enc Tryd.prog W 0 (fun _ => true) true Tryd.f3.params.toList args.toList ds p := hA0
  rw [Tryd.params3] at hA hval
  obtain ⟨v0, v1, v2, d0, d1, d2, p0, p1, p2, rfl, rfl, rfl, h0, h1, h2⟩ := trodAll_three hA
  obtain ⟨rfl, rfl⟩ := trodVars_none hV
  clear hA0 hval0
  simp only [List.append_nil] at hW'
  have hlt : ∀ x ∈ p0 ++ p1 ++ p2, x.block < W.heap.size := fun x hx => hW'.lt x (by simpa using hx)
  have hT := tabs_of_laid hL
  have k0 := h0
  obtain ⟨s0, rfl, rfl, rfl, wf0⟩ := ChangeMaps.open_string Tryd.underlying9 (hval 0 9 v0 rfl rfl) h0
  have hwf0 : s0.data.toList.length ≤ 9223372036854775807 := by
    have e : s0.data.toList.length = s0.size := by rw [Array.length_toList]; rfl
    rw [e]; unfold maxLen at wf0; omega
  have k1 := h1
  obtain ⟨x1, rfl, rfl, u1⟩ := open_val (hval 1 24 v1 rfl rfl) h1
  have k2 := h2
  obtain ⟨a2, rfl, rfl, rfl, wf2⟩ := open_float Tryd.underlying22 (hval 2 22 v2 rfl rfl) h2
  have hwf2 := wf2
  simp [Lit.wf] at hwf2
  refine Calls.mono (?walk : Calls _ _ _ _ fun e w' => e = .returned (.bool true) ∧ Below W.heap.size W w') fun e W' ⟨he, hw⟩ => ?_
  case walk =>
    rw [← bytes_self s0]
    exact datumKinds_walk W s0.data.toList hwf0 x1 u1 a2 (by omega) hT
  subst he
  exact ⟨_, rfl, post_of_below (pa := [] ++ ([] ++ [])) (pv := []) hW' (fun _ _ _ => trodAll_mk1 (shut_bool Tryd.underlying4 _)) (fun sp hsp => trodAll_mk3 (WideElems.Trod_stays laidOut3 (by kernel_rfl) (of_decide_eq_true (by kernel_rfl)) k0 (fun x hx => hw.same (hlt x (by simp [hx]))) (fun x hx => hsp x (by simp [hx]))) (WideElems.Trod_stays laidOut3 (by kernel_rfl) (of_decide_eq_true (by kernel_rfl)) k1 (fun x hx => hw.same (hlt x (by simp [hx]))) (fun x hx => hsp x (by simp [hx]))) (WideElems.Trod_stays laidOut3 (by kernel_rfl) (of_decide_eq_true (by kernel_rfl)) k2 (fun x hx => hw.same (hlt x (by simp [hx]))) (fun x hx => hsp x (by simp [hx])))) (fun _ _ => rfl) (by simp) hw (ok_one (by kernel_rfl) rfl (okWide_bool_mk Tryd.underlying4 _))⟩
theorem datumKinds_holds : Rows.DatumKindsSaid :=
  OpenClaim.holds_of_wide 3 Tryd.f3 rfl rfl rfl rfl rfl rfl rfl ⟨rfl, rfl, rfl, rfl, rfl⟩ rfl rfl rfl rfl rfl (by kernel_rfl) Tryd.func3 (by kernel_rfl)
    (of_decide_eq_true (by kernel_rfl)) (by unfold Func.isWrapper; first | (rw [if_pos (by decide +kernel)]; kernel_rfl) | (rw [if_neg (by decide +kernel)]; exact ⟨rfl, rfl⟩))
    (fun os started H enc _ => datumKinds_lifted os started H enc)
/-- THE TIED CARD. -/
theorem datumKinds_card : Rows.DatumKindsCardSaid :=
  Claim7.holds_tied_plain_at .later [] [.data, .data, .data] true (true, "e365411bd106a08e9233803ba0fe4dfaa9695e3b647a3ddff3aaff483a6e1884") false
    datumKinds_holds (fun _ h => by cases h) (by kernel_rfl) (fun _ h => by cases h) datumKinds_row_tie rfl ⟨rfl, rfl⟩ (by kernel_rfl) rfl
    (fun f fn hf hfn => by
      obtain rfl : f = 3 := Option.some.inj ((show Tryd.prog.funcNamed "headrace/racelaw3.DatumKinds" = some 3 by kernel_rfl).symm.trans hf) |>.symm
      obtain rfl : fn = Tryd.f3 := (Option.some.inj (Tryd.func3.symm.trans hfn)).symm
      exact ⟨by kernel_rfl, fun j t ht => by
        rw [Tryd.params3] at ht
        have hm : t ∈ [9, 24, 22] := by simpa using Array.mem_of_getElem? ht
        have hall : ([9, 24, 22].all fun u => !Tryd.prog.wantsStandIn u) = true := by kernel_rfl
        exact (show Tryd.prog.wantsStandIn t = false by simpa using List.all_eq_true.1 hall t hm)⟩)
    (by kernel_rfl)
#print axioms datumKinds_card
end Go.Proofs.YtjkfcmadoeifgaaDoor
