/- Any stamps: whether they may be, their order, the later one, the one ahead, their text, as the document says: racelaw8.HlcStamps answers true and leaves its arguments as they were. Conditions: the library's table holds what its initialiser lays. -/
import Derived.Test.YtmpokhjchbaleaaDoorE
import Derived.Test.YtmpokhjchbaleaaDoorZ
namespace Go.Proofs.YtmpokhjchbaleaaDoor
open Go.ChangeShapes Go.WideShapes Go.ChangeAt Go.RowKit
theorem q_self (s : St) (w : World) : (Op.equalIn 9999 23 (sagg s) (sagg s)).run Tryd.prog w = .ok true w := (eq_st _ _ w).trans (by rw [decide_eq_true rfl])
set_option maxRecDepth 100000 in
set_option maxHeartbeats 8000000 in
theorem stamps_all (w : World) (a b : St) (ua : a.wf) (hT : Pow w) : Calls Tryd.prog 3 #[sagg a, sagg b] w fun e w' => e = .returned (.bool true) ∧ Below w.heap.size w w' := by
  have HT := Lib.hid hT
  have HM1 := fun w => Lib.hid (may_any a w)
  have HM2 := fun w => Lib.hid (rmay_any a w)
  have HC1 := fun w => Lib.hid (compare_any a b w)
  have HC2 := fun w => Lib.hid (rcompare_any a b w)
  have HL1 := fun w => Lib.hid (later_any a b w)
  have HL2 := fun w => Lib.hid (rlater_any a b w)
  have HP1 := fun w => Lib.hid (prior_any a w)
  have HP2 := fun w => Lib.hid (rprior_any a w)
  have HX1 := fun w h => Lib.hid (print_any a ua w h)
  have HX2 := fun w => Lib.hid (rprint_any a ua w)
  have HA := Lib.hid (at_two w a b).1
  have HB := Lib.hid (at_two w a b).2
  have HW := Lib.hid (below2 w (sobj a) (sobj b))
  generalize mayS a = mb at *
  generalize cmpS a b = cb at *
  generalize laterS a b = lb at *
  generalize priorS a = pb at *
  generalize printS a = xb at *
  obtain ⟨⟨p1, p2, p3⟩, p4⟩ := pb
  obtain ⟨l1, l2, l3⟩ := lb
  obtain ⟨a1, a2, a3⟩ := a
  obtain ⟨b1, b2, b3⟩ := b
  simp only at HP1 HP2 HL1 HL2
  have e1 : (mb == mb) = true := beq_self_eq_true _
  have e2 : (cb == cb) = true := beq_self_eq_true _
  have e3 : (p4 == p4) = true := beq_self_eq_true _
  have q1 := q_self ⟨l1, l2, l3⟩
  have q2 := q_self ⟨p1, p2, p3⟩
  clear ua hT
  go_enter Tryd.func3, Tryd.ntmps3
  go_wp2_with (first
    | (go_at_call 10; (with_reducible refine (first_any _ (HT.out.below HW.out)).mono ?_); rintro e w1 ⟨rfl, hb⟩; have HA := Lib.hid (HA.out.below hb HA.out.lt); have HB := Lib.hid (HB.out.below hb HB.out.lt); have HW := Lib.hid (HW.out.trans (hb.mono HW.out.size)); have a0 := HA.out.c0; have a1' := HA.out.c1; have a2' := HA.out.c2; clear hb)
    | (go_at_call 11; (with_reducible refine (HP1 _).out.mono ?_); rintro e w2 ⟨rfl, hb⟩; have HA := Lib.hid ((HA.out.below hb HA.out.lt).alloc (sobj ⟨p1, p2, p3⟩)); have HB := Lib.hid ((HB.out.below hb HB.out.lt).alloc (sobj ⟨p1, p2, p3⟩)); have HP := Lib.hid (at_new w2 ⟨p1, p2, p3⟩); have HW := Lib.hid ((HW.out.trans (hb.mono HW.out.size)).alloc (Nat.le_trans HW.out.size hb.size) (sobj ⟨p1, p2, p3⟩)); have a0 := HA.out.c0; have a1' := HA.out.c1; have a2' := HA.out.c2; clear hb)
    | (go_at_call 12; (with_reducible refine (HP2 _).out.mono ?_); rintro e w3 ⟨rfl, hb⟩; have HA := Lib.hid ((HA.out.below hb HA.out.lt).alloc (sobj ⟨p1, p2, p3⟩)); have HB := Lib.hid ((HB.out.below hb HB.out.lt).alloc (sobj ⟨p1, p2, p3⟩)); have HP := Lib.hid ((HP.out.below hb HP.out.lt).alloc (sobj ⟨p1, p2, p3⟩)); have HQ := Lib.hid (at_new w3 ⟨p1, p2, p3⟩); have HW := Lib.hid ((HW.out.trans (hb.mono HW.out.size)).alloc (Nat.le_trans HW.out.size hb.size) (sobj ⟨p1, p2, p3⟩)); clear hb))
  have HW := Lib.hid (HW.out.drew)
  have HA := Lib.hid (HA.out.below (Below.refl _ _).drew HA.out.lt)
  have HB := Lib.hid (HB.out.below (Below.refl _ _).drew HB.out.lt)
  have HP := Lib.hid (HP.out.below (Below.refl _ _).drew HP.out.lt)
  have HQ := Lib.hid (HQ.out.below (Below.refl _ _).drew HQ.out.lt)
  go_region_held (fun w' => w'.cell? ⟨w.heap.size, 0, none⟩ = some (.int .i64 a1) ∧ w'.cell? ⟨w.heap.size, 1, none⟩ = some (.int .i64 a2) ∧ w'.cell? ⟨w.heap.size, 2, none⟩ = some (.int .i64 a3) ∧ w'.cell? ⟨w.heap.size + 1, 0, none⟩ = some (.int .i64 b1) ∧ w'.cell? ⟨w.heap.size + 1, 1, none⟩ = some (.int .i64 b2) ∧ w'.cell? ⟨w.heap.size + 1, 2, none⟩ = some (.int .i64 b3) ∧ w'.cell? ⟨w2.heap.size, 0, none⟩ = some (.int .i64 p1) ∧ w'.cell? ⟨w2.heap.size, 1, none⟩ = some (.int .i64 p2) ∧ w'.cell? ⟨w2.heap.size, 2, none⟩ = some (.int .i64 p3) ∧ w'.cell? ⟨w3.heap.size, 0, none⟩ = some (.int .i64 p1) ∧ w'.cell? ⟨w3.heap.size, 1, none⟩ = some (.int .i64 p2) ∧ w'.cell? ⟨w3.heap.size, 2, none⟩ = some (.int .i64 p3)) (exact ⟨HA.out.c0, HA.out.c1, HA.out.c2, HB.out.c0, HB.out.c1, HB.out.c2, HP.out.c0, HP.out.c1, HP.out.c2, HQ.out.c0, HQ.out.c1, HQ.out.c2⟩) (first
    | (go_at_call 10; (with_reducible refine (first_any _ (HT.out.below HW.out)).mono ?_); rintro e w6 ⟨rfl, hb⟩; have HA := Lib.hid (HA.out.below hb HA.out.lt); have HB := Lib.hid (HB.out.below hb HB.out.lt); have HP := Lib.hid (HP.out.below hb HP.out.lt); have HQ := Lib.hid (HQ.out.below hb HQ.out.lt); have HW := Lib.hid (HW.out.trans (hb.mono HW.out.size)); clear hb)
    | (go_at_call 13; (with_reducible refine (HM1 _).out.mono ?_); rintro e w6 ⟨rfl, hb⟩; have HA := Lib.hid (HA.out.below hb HA.out.lt); have HB := Lib.hid (HB.out.below hb HB.out.lt); have HP := Lib.hid (HP.out.below hb HP.out.lt); have HQ := Lib.hid (HQ.out.below hb HQ.out.lt); have HW := Lib.hid (HW.out.trans (hb.mono HW.out.size)); clear hb)
    | (go_at_call 14; (with_reducible refine (HM2 _).out.mono ?_); rintro e w6 ⟨rfl, hb⟩; have HA := Lib.hid (HA.out.below hb HA.out.lt); have HB := Lib.hid (HB.out.below hb HB.out.lt); have HP := Lib.hid (HP.out.below hb HP.out.lt); have HQ := Lib.hid (HQ.out.below hb HQ.out.lt); have HW := Lib.hid (HW.out.trans (hb.mono HW.out.size)); clear hb)
    | (go_at_call 15; (with_reducible refine (HC1 _).out.mono ?_); rintro e w6 ⟨rfl, hb⟩; have HA := Lib.hid (HA.out.below hb HA.out.lt); have HB := Lib.hid (HB.out.below hb HB.out.lt); have HP := Lib.hid (HP.out.below hb HP.out.lt); have HQ := Lib.hid (HQ.out.below hb HQ.out.lt); have HW := Lib.hid (HW.out.trans (hb.mono HW.out.size)); clear hb)
    | (go_at_call 16; (with_reducible refine (HC2 _).out.mono ?_); rintro e w6 ⟨rfl, hb⟩; have HA := Lib.hid (HA.out.below hb HA.out.lt); have HB := Lib.hid (HB.out.below hb HB.out.lt); have HP := Lib.hid (HP.out.below hb HP.out.lt); have HQ := Lib.hid (HQ.out.below hb HQ.out.lt); have HW := Lib.hid (HW.out.trans (hb.mono HW.out.size)); clear hb)
    | (go_at_call 17; (with_reducible refine (HL1 _).out.mono ?_); rintro e w6 ⟨rfl, hb⟩; have HA := Lib.hid (HA.out.below hb HA.out.lt); have HB := Lib.hid (HB.out.below hb HB.out.lt); have HP := Lib.hid (HP.out.below hb HP.out.lt); have HQ := Lib.hid (HQ.out.below hb HQ.out.lt); have HW := Lib.hid (HW.out.trans (hb.mono HW.out.size)); clear hb)
    | (go_at_call 18; (with_reducible refine (HL2 _).out.mono ?_); rintro e w6 ⟨rfl, hb⟩; have HA := Lib.hid (HA.out.below hb HA.out.lt); have HB := Lib.hid (HB.out.below hb HB.out.lt); have HP := Lib.hid (HP.out.below hb HP.out.lt); have HQ := Lib.hid (HQ.out.below hb HQ.out.lt); have HW := Lib.hid (HW.out.trans (hb.mono HW.out.size)); clear hb)
    | (go_at_call 19; (with_reducible refine (HX1 _ (HT.out.below HW.out)).out.mono ?_); rintro e w6 ⟨rfl, hb⟩; have HA := Lib.hid (HA.out.below hb HA.out.lt); have HB := Lib.hid (HB.out.below hb HB.out.lt); have HP := Lib.hid (HP.out.below hb HP.out.lt); have HQ := Lib.hid (HQ.out.below hb HQ.out.lt); have HW := Lib.hid (HW.out.trans (hb.mono HW.out.size)); clear hb)
    | (go_at_call 20; (with_reducible refine (HX2 _).out.mono ?_); rintro e w6 ⟨rfl, hb⟩; have HA := Lib.hid (HA.out.below hb HA.out.lt); have HB := Lib.hid (HB.out.below hb HB.out.lt); have HP := Lib.hid (HP.out.below hb HP.out.lt); have HQ := Lib.hid (HQ.out.below hb HQ.out.lt); have HW := Lib.hid (HW.out.trans (hb.mono HW.out.size)); clear hb))
  all_goals go_wp2
  all_goals go_ret
  all_goals exact ⟨rfl, HW.out⟩
theorem hlcStamps_walk (W : World) (a : St) (ua : a.wf) (b : St) (_ : b.wf) (hT : Pow W) : Calls Tryd.prog 3 #[sagg a, sagg b] W fun e w' => e = .returned (.bool true) ∧ Below W.heap.size W w' :=
  stamps_all W a b ua hT

set_option maxRecDepth 100000 in
theorem hlcStamps_lifted (os : Os) (started : os.Started) (H : Type) (enc : TypeId × Value → H) :
    ReturnsInHanded {} Tryd.checked os 3 .any (fun w args => (Rows.hlcStampsSpec.pre enc Tryd.prog Tryd.f3 [] false w args ∧ laidMetH Tryd.prog laid3 w) ∧ sizedMet enc Tryd.prog Tryd.f3 (OpenSpec.ofChange Rows.hlcStampsSpec) false w args)
      (Rows.hlcStampsSpec.post enc Tryd.prog Tryd.f3 false true false false) := by
  refine returnsInHanded_of_change_and (C := Tryd.checked) (X := fun w _ => laidMetH Tryd.prog laid3 w) (fun _ _ _ hh h => h.of_heap hh) own started (by kernel_rfl) Tryd.func3
    (ChangeSpec.witness_shaped (enc := enc) (C := Tryd.checked) (os := os) (X := fun w _ => laidMetH Tryd.prog laid3 w) false (World.doorLaid Tryd.prog 400 os) #[.agg #[.int .i64 0, .int .i64 0, .int .i64 0], .agg #[.int .i64 0, .int .i64 0, .int .i64 0]] 8 rfl (World.shaped_of_RefB (by kernel_rfl) (by kernel_rfl)) (by kernel_rfl) (by kernel_rfl) (by kernel_rfl) (door_met3 os _)) ?_
  intro W base args ds gs before hval0 hW _ _ hL _
  have hval : ∀ (j : Nat) t v, Tryd.f3.params[j]? = some t → args[j]? = some v → Value.okWide Tryd.prog W .any base t v := hval0
  have hW' := hW
  obtain ⟨p, q, hA0, hV, rfl, hfz, hnd⟩ := hW
  have hA : DataW.TrodAll enc Tryd.prog W 0 (fun _ => true) true Tryd.f3.params.toList args.toList ds p := hA0
  rw [Tryd.params3] at hA hval
  obtain ⟨v0, v1, d0, d1, p0, p1, rfl, rfl, rfl, h0, h1⟩ := trodAll_two hA
  obtain ⟨rfl, rfl⟩ := trodVars_none hV
  clear hA0 hval0
  simp only [List.append_nil] at hW'
  have hlt : ∀ x ∈ p0 ++ p1, x.block < W.heap.size := fun x hx => hW'.lt x (by simpa using hx)
  have hT := pow_of_laid hL
  have k0 := h0
  obtain ⟨x0, rfl, rfl, u0⟩ := open_stamp (hval 0 23 v0 rfl rfl) h0
  have k1 := h1
  obtain ⟨x1, rfl, rfl, u1⟩ := open_stamp (hval 1 23 v1 rfl rfl) h1
  refine Calls.mono (?walk : Calls _ _ _ _ fun e w' => e = .returned (.bool true) ∧ Below W.heap.size W w') fun e W' ⟨he, hw⟩ => ?_
  case walk =>
    exact hlcStamps_walk W x0 u0 x1 u1 hT
  subst he
  exact ⟨_, rfl, post_of_below (pa := [] ++ []) (pv := []) hW' (fun _ _ _ => trodAll_mk1 (shut_bool Tryd.underlying4 _)) (fun sp hsp => trodAll_mk2 (WideElems.Trod_stays laidOutP (by kernel_rfl) (of_decide_eq_true (by kernel_rfl)) k0 (fun x hx => hw.same (hlt x (by first | (simp [hx]; done) | exact nomatch hx))) (fun x hx => hsp x (by first | (simp [hx]; done) | exact nomatch hx))) (WideElems.Trod_stays laidOutP (by kernel_rfl) (of_decide_eq_true (by kernel_rfl)) k1 (fun x hx => hw.same (hlt x (by first | (simp [hx]; done) | exact nomatch hx))) (fun x hx => hsp x (by first | (simp [hx]; done) | exact nomatch hx)))) (fun _ _ => rfl) (by simp) hw (ok_one (by kernel_rfl) rfl (okWide_bool_mk Tryd.underlying4 _))⟩
theorem hlcStamps_holds : Rows.HlcStampsSaid :=
  OpenClaim.holds_of_wide 3 Tryd.f3 rfl rfl rfl rfl rfl rfl rfl ⟨rfl, rfl, rfl, rfl, rfl⟩ rfl rfl rfl rfl rfl (by kernel_rfl) Tryd.func3 (by kernel_rfl)
    (of_decide_eq_true (by kernel_rfl)) (by unfold Func.isWrapper; first | (rw [if_pos (by decide +kernel)]; kernel_rfl) | (rw [if_neg (by decide +kernel)]; exact ⟨rfl, rfl⟩))
    (fun os started H enc _ => hlcStamps_lifted os started H enc)
/-- THE TIED CARD. -/
theorem hlcStamps_card : Rows.HlcStampsCardSaid :=
  Claim7.holds_tied_plain_at .later [] [.data, .data, .data] true (true, "55d94c96041e578d324afd5bc41b6edf1ded3878fc07ea6770ba733d434b73f6") true
    hlcStamps_holds (fun _ h => by cases h) (by kernel_rfl) (fun _ h => by cases h) hlcStamps_row_tie rfl ⟨rfl, rfl⟩ (by kernel_rfl) rfl
    (fun f fn hf hfn => by
      obtain rfl : f = 3 := Option.some.inj ((show Tryd.prog.funcNamed "headrace/racelaw8.HlcStamps" = some 3 by kernel_rfl).symm.trans hf) |>.symm
      obtain rfl : fn = Tryd.f3 := (Option.some.inj (Tryd.func3.symm.trans hfn)).symm
      exact ⟨by kernel_rfl, fun j t ht => by
        rw [Tryd.params3] at ht
        have hm : t ∈ [23, 23] := by simpa using Array.mem_of_getElem? ht
        have hall : ([23, 23].all fun u => !Tryd.prog.wantsStandIn u) = true := by kernel_rfl
        exact (show Tryd.prog.wantsStandIn t = false by simpa using List.all_eq_true.1 hall t hm)⟩)
    (by kernel_rfl)
#print axioms hlcStamps_card
end Go.Proofs.YtmpokhjchbaleaaDoor
