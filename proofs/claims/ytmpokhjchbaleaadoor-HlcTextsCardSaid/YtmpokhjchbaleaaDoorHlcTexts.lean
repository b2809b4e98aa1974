/- Any text is a stamp's, or refused, as the document says: racelaw8.HlcTexts answers true and leaves its argument as it was. Conditions: the library's table and errors are what their initialisers lay. -/
import Derived.Test.YtmpokhjchbaleaaDoorQ
namespace Go.Proofs.YtmpokhjchbaleaaDoor
open Go.ChangeShapes Go.WideShapes Go.ChangeAt Go.RowKit
set_option maxRecDepth 100000 in
set_option maxHeartbeats 8000000 in
theorem texts_long (w : World) (l : Nm) (hl : l.length ≤ 9223372036854775807) (hT : Tabs w) (hm : 2000 < l.length) : Calls Tryd.prog 4 #[nmv l] w fun e w' => e = .returned (.bool true) ∧ Below w.heap.size w w' := by
  have HT := Lib.hid hT
  have hm1 : (2000 : Int) < (l.length : Int) := by omega
  have HB := Lib.hid (Below.refl w.heap.size w)
  clear hT hm hl
  go_enter Tryd.func4, Tryd.ntmps4
  go_wp2_with (go_at_call 10; (with_reducible refine (first_any _ (HT.out.below HB.out).pow).mono ?_); rintro e w1 ⟨rfl, hb⟩; have HB := Lib.hid (HB.out.trans (hb.mono HB.out.size)); clear hb)
  go_ret
  exact ⟨rfl, HB.out⟩
set_option maxRecDepth 100000 in
set_option maxHeartbeats 8000000 in
theorem texts_short (w : World) (l : Nm) (hT : Tabs w) (hm : l.length ≤ 2000) : Calls Tryd.prog 4 #[nmv l] w fun e w' => e = .returned (.bool true) ∧ Below w.heap.size w w' := by
  have HT := Lib.hid hT
  have hm1 : ¬ (2000 : Int) < (l.length : Int) := by omega
  have HB := Lib.hid (Below.refl w.heap.size w)
  have HP := fun w h => Lib.hid (parse_any w h l (by omega))
  have HQ := fun w => Lib.hid (rparse_any w l (by omega))
  rw [← (parse_is l).one (rparse_is l)] at HQ
  clear hT hm
  generalize parseS l = R at *
  obtain ⟨⟨x1, x2, x3⟩, x4⟩ := R
  simp only at HP HQ
  have q1 := q_self ⟨x1, x2, x3⟩
  have q2 : (x4 == x4) = true := beq_self_eq_true _
  go_enter Tryd.func4, Tryd.ntmps4
  go_upto_region 7 with (first
    | (go_at_call 10; (with_reducible refine (first_any _ (HT.out.below HB.out).pow).mono ?_); rintro e w1 ⟨rfl, hb⟩; have HB := Lib.hid (HB.out.trans (hb.mono HB.out.size)); clear hb)
    | (go_at_call 21; (with_reducible refine (HP _ (HT.out.below HB.out)).out.mono ?_); rintro e w2 ⟨rfl, hb⟩; have HX := Lib.hid (at_new w2 ⟨x1, x2, x3⟩); have HB := Lib.hid ((HB.out.trans (hb.mono HB.out.size)).alloc (Nat.le_trans HB.out.size hb.size) (sobj ⟨x1, x2, x3⟩)); clear hb)
    | (go_at_call 22; (with_reducible refine (HQ _).out.mono ?_); rintro e w3 ⟨rfl, hb⟩; have HX := Lib.hid ((HX.out.below hb HX.out.lt).alloc (sobj ⟨x1, x2, x3⟩)); have HY := Lib.hid (at_new w3 ⟨x1, x2, x3⟩); have HB := Lib.hid ((HB.out.trans (hb.mono HB.out.size)).alloc (Nat.le_trans HB.out.size hb.size) (sobj ⟨x1, x2, x3⟩)); clear hb))
  go_wp2_with (go_at_call 10; (with_reducible refine (first_any _ (HT.out.below HB.out).pow).mono ?_); rintro e w4 ⟨rfl, hb⟩; have HX := Lib.hid (HX.out.below hb HX.out.lt); have HY := Lib.hid (HY.out.below hb HY.out.lt); have HB := Lib.hid (HB.out.trans (hb.mono HB.out.size)); have a0 := HX.out.c0; have a1 := HX.out.c1; have a2 := HX.out.c2; have b0 := HY.out.c0; have b1 := HY.out.c1; have b2 := HY.out.c2; clear hb)
  go_ret
  exact ⟨rfl, HB.out⟩
theorem hlcTexts_walk (W : World) (l : Nm) (hl : l.length ≤ 9223372036854775807) (hT : Tabs W) : Calls Tryd.prog 4 #[nmv l] W fun e w' => e = .returned (.bool true) ∧ Below W.heap.size W w' := by
  by_cases h : 2000 < l.length
  · exact texts_long W l hl hT h
  · exact texts_short W l hT (by omega)

set_option maxRecDepth 100000 in
theorem hlcTexts_lifted (os : Os) (started : os.Started) (H : Type) (enc : TypeId × Value → H) :
    ReturnsInHanded {} Tryd.checked os 4 .any (fun w args => (Rows.hlcTextsSpec.pre enc Tryd.prog Tryd.f4 [] false w args ∧ laidMetH Tryd.prog laid5 w) ∧ sizedMet enc Tryd.prog Tryd.f4 (OpenSpec.ofChange Rows.hlcTextsSpec) false w args)
      (Rows.hlcTextsSpec.post enc Tryd.prog Tryd.f4 false true false false) := by
  refine returnsInHanded_of_change_and (C := Tryd.checked) (X := fun w _ => laidMetH Tryd.prog laid5 w) (fun _ _ _ hh h => h.of_heap hh) own started (by kernel_rfl) Tryd.func4
    (ChangeSpec.witness_shaped (enc := enc) (C := Tryd.checked) (os := os) (X := fun w _ => laidMetH Tryd.prog laid5 w) false (World.doorLaid Tryd.prog 400 os) #[.string ⟨#[]⟩] 8 rfl (World.shaped_of_RefB (by kernel_rfl) (by kernel_rfl)) (by kernel_rfl) (by kernel_rfl) (by kernel_rfl) (door_met5 os _)) ?_
  intro W base args ds gs before hval0 hW _ _ hL _
  have hval : ∀ (j : Nat) t v, Tryd.f4.params[j]? = some t → args[j]? = some v → Value.okWide Tryd.prog W .any base t v := hval0
  have hW' := hW
  obtain ⟨p, q, hA0, hV, rfl, hfz, hnd⟩ := hW
  have hA : DataW.TrodAll enc Tryd.prog W 0 (fun _ => true) true Tryd.f4.params.toList args.toList ds p := hA0
  rw [Tryd.params4] at hA hval
  obtain ⟨v0, d0, rfl, rfl, h0⟩ := trodAll_one hA
  obtain ⟨rfl, rfl⟩ := trodVars_none hV
  clear hA0 hval0
  simp only [List.append_nil] at hW'
  have hlt : ∀ x ∈ p, x.block < W.heap.size := fun x hx => hW'.lt x (by simpa using hx)
  have hT := tabs_of_laid hL
  have k0 := h0
  obtain ⟨s0, rfl, rfl, rfl, wf0⟩ := ChangeMaps.open_string Tryd.underlying9 (hval 0 9 v0 rfl rfl) h0
  have hwf0 : s0.data.toList.length ≤ 9223372036854775807 := by
    have e : s0.data.toList.length = s0.size := by rw [Array.length_toList]; rfl
    rw [e]; unfold maxLen at wf0; omega
  refine Calls.mono (?walk : Calls _ _ _ _ fun e w' => e = .returned (.bool true) ∧ Below W.heap.size W w') fun e W' ⟨he, hw⟩ => ?_
  case walk =>
    rw [← bytes_self s0]
    exact hlcTexts_walk W s0.data.toList hwf0 hT
  subst he
  exact ⟨_, rfl, post_of_below (pa := []) (pv := []) hW' (fun _ _ _ => trodAll_mk1 (shut_bool Tryd.underlying4 _)) (fun sp hsp => trodAll_mk1 (WideElems.Trod_stays laidOutP (by kernel_rfl) (of_decide_eq_true (by kernel_rfl)) k0 (fun x hx => hw.same (hlt x (nomatch hx))) (fun x hx => hsp x (nomatch hx)))) (fun _ _ => rfl) (by simp) hw (ok_one (by kernel_rfl) rfl (okWide_bool_mk Tryd.underlying4 _))⟩
theorem hlcTexts_holds : Rows.HlcTextsSaid :=
  OpenClaim.holds_of_wide 4 Tryd.f4 rfl rfl rfl rfl rfl rfl rfl ⟨rfl, rfl, rfl, rfl, rfl⟩ rfl rfl rfl rfl rfl (by kernel_rfl) Tryd.func4 (by kernel_rfl)
    (of_decide_eq_true (by kernel_rfl)) (by unfold Func.isWrapper; first | (rw [if_pos (by decide +kernel)]; kernel_rfl) | (rw [if_neg (by decide +kernel)]; exact ⟨rfl, rfl⟩))
    (fun os started H enc _ => hlcTexts_lifted os started H enc)
/-- THE TIED CARD. -/
theorem hlcTexts_card : Rows.HlcTextsCardSaid :=
  Claim7.holds_tied_plain_at .later [] [.data, .data, .data, .sentinel, .sentinel] true (true, "55d94c96041e578d324afd5bc41b6edf1ded3878fc07ea6770ba733d434b73f6") true
    hlcTexts_holds (fun _ h => by cases h) (by kernel_rfl) (fun _ h => by cases h) hlcTexts_row_tie rfl ⟨rfl, rfl⟩ (by kernel_rfl) rfl
    (fun f fn hf hfn => by
      obtain rfl : f = 4 := Option.some.inj ((show Tryd.prog.funcNamed "headrace/racelaw8.HlcTexts" = some 4 by kernel_rfl).symm.trans hf) |>.symm
      obtain rfl : fn = Tryd.f4 := (Option.some.inj (Tryd.func4.symm.trans hfn)).symm
      exact ⟨by kernel_rfl, fun j t ht => by
        rw [Tryd.params4] at ht
        have hm : t ∈ [9] := by simpa using Array.mem_of_getElem? ht
        have hall : ([9].all fun u => !Tryd.prog.wantsStandIn u) = true := by kernel_rfl
        exact (show Tryd.prog.wantsStandIn t = false by simpa using List.all_eq_true.1 hall t hm)⟩)
    (by kernel_rfl)
#print axioms hlcTexts_card
end Go.Proofs.YtmpokhjchbaleaaDoor
