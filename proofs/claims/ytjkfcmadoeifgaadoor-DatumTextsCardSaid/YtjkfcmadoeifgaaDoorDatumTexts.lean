/- Any text quoted, and read as a quoted one or as a value, and any value's text, as the document has it: racelaw3.DatumTexts answers true and leaves its arguments as they were. Conditions: the library's tables hold what their initialisers lay. -/
import Derived.Test.YtjkfcmadoeifgaaDoorRw
import Derived.Test.YtjkfcmadoeifgaaDoorFj
import Derived.Test.YtjkfcmadoeifgaaDoorAg
import Derived.Deep.RegionHeld
import Derived.Test.YtjkfcmadoeifgaaDoorCards
import Derived.Test.YtjkfcmadoeifgaaDoorTie
namespace Go.Proofs.YtjkfcmadoeifgaaDoor
open Go.ChangeShapes Go.WideShapes Go.ChangeAt Go.RowKit
set_option maxRecDepth 100000 in
theorem texts_first1 (w : World) (s : ByteArray) (ak : Int) (ax : Nat) (asx : List UInt8) (hT : Tabs w) (h1 : 2000 < s.size) :
    Calls Tryd.prog 4 #[.string s, vagg ⟨ak, ax, asx⟩] w fun e w' => e = .returned (.bool true) ∧ Below w.heap.size w w' := by
  have HW := Lib.hid (below1 w (vobj ⟨ak, ax, asx⟩))
  have HA := Lib.hid (at_new w ⟨ak, ax, asx⟩)
  have HT := Lib.hid hT
  have HS1 := fun w => Lib.hid (small_any ⟨ak, ax, asx⟩ w)
  have hc : (2000 : Int) < (s.size : Int) := by omega
  clear hT h1
  go_enter Tryd.func4, Tryd.ntmps4
  go_wp2_with (first
    | (go_at_call 8; with_reducible refine (first_ex _ (HT.out.below HW.out)).mono ?_; rintro e w1 ⟨rfl, hb⟩; have HA := Lib.hid (HA.out.below hb HA.out.lt); have A0 := HA.out.c0; have A1 := HA.out.c1; have A2 := HA.out.c2; dsimp only at A0 A1 A2; have HW := Lib.hid (HW.out.trans (hb.mono HW.out.size)); clear hb)
    | (go_at_call 9; with_reducible refine ((HS1 _).out).mono ?_; rintro e w1 ⟨rfl, hb⟩; have HA := Lib.hid (HA.out.below hb HA.out.lt); have A0 := HA.out.c0; have A1 := HA.out.c1; have A2 := HA.out.c2; dsimp only at A0 A1 A2; have HW := Lib.hid (HW.out.trans (hb.mono HW.out.size)); clear hb))
  go_ret
  exact ⟨rfl, HW.out⟩
set_option maxRecDepth 100000 in
theorem texts_first2 (w : World) (s : ByteArray) (ak : Int) (ax : Nat) (asx : List UInt8) (hT : Tabs w) (h1 : s.size ≤ 2000) (h2 : 2000 < asx.length) :
    Calls Tryd.prog 4 #[.string s, vagg ⟨ak, ax, asx⟩] w fun e w' => e = .returned (.bool true) ∧ Below w.heap.size w w' := by
  have HW := Lib.hid (below1 w (vobj ⟨ak, ax, asx⟩))
  have HA := Lib.hid (at_new w ⟨ak, ax, asx⟩)
  have HT := Lib.hid hT
  have HS1 := fun w => Lib.hid (small_any ⟨ak, ax, asx⟩ w)
  have hc : ¬ (2000 : Int) < (s.size : Int) := by omega
  rw [decide_eq_false (by simp only; omega)] at HS1
  clear hT h1 h2
  go_enter Tryd.func4, Tryd.ntmps4
  go_wp2_with (first
    | (go_at_call 8; with_reducible refine (first_ex _ (HT.out.below HW.out)).mono ?_; rintro e w1 ⟨rfl, hb⟩; have HA := Lib.hid (HA.out.below hb HA.out.lt); have A0 := HA.out.c0; have A1 := HA.out.c1; have A2 := HA.out.c2; dsimp only at A0 A1 A2; have HW := Lib.hid (HW.out.trans (hb.mono HW.out.size)); clear hb)
    | (go_at_call 9; with_reducible refine ((HS1 _).out).mono ?_; rintro e w1 ⟨rfl, hb⟩; have HA := Lib.hid (HA.out.below hb HA.out.lt); have A0 := HA.out.c0; have A1 := HA.out.c1; have A2 := HA.out.c2; dsimp only at A0 A1 A2; have HW := Lib.hid (HW.out.trans (hb.mono HW.out.size)); clear hb))
  go_ret
  exact ⟨rfl, HW.out⟩
set_option maxRecDepth 100000 in
set_option maxHeartbeats 8000000 in
theorem texts_some (w : World) (s : ByteArray) (ak : Int) (ax : Nat) (asx : List UInt8) (hT : Tabs w) (h1 : s.size ≤ 2000) (h2 : asx.length ≤ 2000) (ua : (⟨ak, ax, asx⟩ : DV).wf) :
    Calls Tryd.prog 4 #[.string s, vagg ⟨ak, ax, asx⟩] w fun e w' => e = .returned (.bool true) ∧ Below w.heap.size w w' := by
  have HW := Lib.hid (below1 w (vobj ⟨ak, ax, asx⟩))
  have HA := Lib.hid (at_new w ⟨ak, ax, asx⟩)
  have HT := Lib.hid hT
  have HS1 := fun w => Lib.hid (small_any ⟨ak, ax, asx⟩ w)
  rw [decide_eq_true (by simp only; omega)] at HS1
  have hc : ¬ (2000 : Int) < (s.size : Int) := by omega
  have hst := run_stf
  have HU1 := fun w => Lib.hid (unquote_any s (by omega) w)
  have HU2 := fun w => Lib.hid (runquote_any s h1 w)
  have HP1 := fun w => Lib.hid (dparse_any s h1 w)
  have HP2 := fun w => Lib.hid (rdparse_any s h1 w)
  have HQ1 := fun w => Lib.hid (quote_any s (by omega) w)
  have HQ2 := fun w => Lib.hid (rquote_any s (by omega) w)
  have HR1 := fun w hT => Lib.hid (vprint_any ⟨ak, ax, asx⟩ ua.2.1 w hT)
  have HR2 := fun w => Lib.hid (vrprint_any ⟨ak, ax, asx⟩ ua.2.1 w)
  generalize dparseV s.data.toList = R at *
  generalize (⟨(unqS (unqV s.data.toList)).toArray⟩ : ByteArray) = us at *
  generalize unqE (unqV s.data.toList) = un at *
  generalize (⟨(quoteV s.data.toList).toArray⟩ : ByteArray) = qs at *
  generalize (⟨(printV ⟨ak, ax, asx⟩).toArray⟩ : ByteArray) = rs at *
  obtain ⟨⟨pk, px, ps⟩, pn⟩ := R
  have HV := fun w => Lib.hid (value_any ⟨pk, px, ps⟩ ⟨pk, px, ps⟩ w)
  rw [sameV_self] at HV
  simp only at HP1 HP2
  have e1 : (un == un) = true := beq_self_eq_true _
  have e3 : (pn == pn) = true := beq_self_eq_true _
  have e4 : (us.toList == us.toList) = true := beq_self_eq_true _
  have e5 : (qs.toList == qs.toList) = true := beq_self_eq_true _
  have e6 : (rs.toList == rs.toList) = true := beq_self_eq_true _
  clear hT h1 h2 ua
  go_enter Tryd.func4, Tryd.ntmps4
  go_wp2_with (first
    | (go_at_call 8; with_reducible refine (first_ex _ (HT.out.below HW.out)).mono ?_; rintro e w1 ⟨rfl, hb⟩; have HA := Lib.hid (HA.out.below hb HA.out.lt); have A0 := HA.out.c0; have A1 := HA.out.c1; have A2 := HA.out.c2; dsimp only at A0 A1 A2; have HW := Lib.hid (HW.out.trans (hb.mono HW.out.size)); clear hb)
    | (go_at_call 9; with_reducible refine ((HS1 _).out).mono ?_; rintro e w1 ⟨rfl, hb⟩; have HA := Lib.hid (HA.out.below hb HA.out.lt); have A0 := HA.out.c0; have A1 := HA.out.c1; have A2 := HA.out.c2; dsimp only at A0 A1 A2; have HW := Lib.hid (HW.out.trans (hb.mono HW.out.size)); clear hb)
    | (go_at_call 19; with_reducible refine ((HU1 _).out).mono ?_; rintro e w1 ⟨rfl, hb⟩; have HA := Lib.hid (HA.out.below hb HA.out.lt); have A0 := HA.out.c0; have A1 := HA.out.c1; have A2 := HA.out.c2; dsimp only at A0 A1 A2; have HW := Lib.hid (HW.out.trans (hb.mono HW.out.size)); clear hb)
    | (go_at_call 20; with_reducible refine ((HU2 _).out).mono ?_; rintro e w1 ⟨rfl, hb⟩; have HA := Lib.hid (HA.out.below hb HA.out.lt); have A0 := HA.out.c0; have A1 := HA.out.c1; have A2 := HA.out.c2; dsimp only at A0 A1 A2; have HW := Lib.hid (HW.out.trans (hb.mono HW.out.size)); clear hb)
    | (go_at_call 21; with_reducible refine (HP1 _).out.mono ?_; rintro e w4 ⟨rfl, hb⟩; have HA := Lib.hid (HA.out.below hb HA.out.lt); have HA := Lib.hid (HA.out.alloc (vobj ⟨pk, px, ps⟩)); have A0 := HA.out.c0; have A1 := HA.out.c1; have A2 := HA.out.c2; simp only [vobj] at A0 A1 A2; have HW := Lib.hid (HW.out.trans (hb.mono HW.out.size)); have HP := Lib.hid (at_new w4 ⟨pk, px, ps⟩); have HW := Lib.hid (HW.out.alloc HW.out.size (vobj ⟨pk, px, ps⟩)); clear hb)
    | (go_at_call 22; with_reducible refine (HP2 _).out.mono ?_; rintro e w5 ⟨rfl, hb⟩; have HA := Lib.hid (HA.out.below hb HA.out.lt); have HA := Lib.hid (HA.out.alloc (vobj ⟨pk, px, ps⟩)); have A0 := HA.out.c0; have A1 := HA.out.c1; have A2 := HA.out.c2; simp only [vobj] at A0 A1 A2; have HP := Lib.hid (HP.out.below hb HP.out.lt); have HP := Lib.hid (HP.out.alloc (vobj ⟨pk, px, ps⟩)); have P0 := HP.out.c0; have P1 := HP.out.c1; have P2 := HP.out.c2; simp only [vobj] at P0 P1 P2; have HW := Lib.hid (HW.out.trans (hb.mono HW.out.size)); have HQ := Lib.hid (at_new w5 ⟨pk, px, ps⟩); have HW := Lib.hid (HW.out.alloc HW.out.size (vobj ⟨pk, px, ps⟩)); clear hb))
  have HW := Lib.hid (HW.out.drew)
  have HA := Lib.hid (HA.out.below (Below.refl _ _).drew HA.out.lt)
  have HP := Lib.hid (HP.out.below (Below.refl _ _).drew HP.out.lt)
  have HQ := Lib.hid (HQ.out.below (Below.refl _ _).drew HQ.out.lt)
  go_region_held (fun w' => w'.cell? ⟨w.heap.size, 0, none⟩ = some (.int .i64 ak) ∧ w'.cell? ⟨w.heap.size, 1, none⟩ = some (.float .f64 ax) ∧ w'.cell? ⟨w.heap.size, 2, none⟩ = some (.string ⟨asx.toArray⟩) ∧ w'.cell? ⟨w4.heap.size, 0, none⟩ = some (.int .i64 pk) ∧ w'.cell? ⟨w4.heap.size, 1, none⟩ = some (.float .f64 px) ∧ w'.cell? ⟨w4.heap.size, 2, none⟩ = some (.string ⟨ps.toArray⟩) ∧ w'.cell? ⟨w5.heap.size, 0, none⟩ = some (.int .i64 pk) ∧ w'.cell? ⟨w5.heap.size, 1, none⟩ = some (.float .f64 px) ∧ w'.cell? ⟨w5.heap.size, 2, none⟩ = some (.string ⟨ps.toArray⟩)) (exact ⟨HA.out.c0, HA.out.c1, HA.out.c2, HP.out.c0, HP.out.c1, HP.out.c2, HQ.out.c0, HQ.out.c1, HQ.out.c2⟩) (first
    | (go_at_call 8; with_reducible refine (first_ex _ (HT.out.below HW.out)).mono ?_; rintro e w6 ⟨rfl, hb⟩; have HA := Lib.hid (HA.out.below hb HA.out.lt); have HP := Lib.hid (HP.out.below hb HP.out.lt); have HQ := Lib.hid (HQ.out.below hb HQ.out.lt); have HW := Lib.hid (HW.out.trans (hb.mono HW.out.size)); clear hb)
    | (go_at_call 23; with_reducible refine ((HQ1 _).out).mono ?_; rintro e w6 ⟨rfl, hb⟩; have HA := Lib.hid (HA.out.below hb HA.out.lt); have HP := Lib.hid (HP.out.below hb HP.out.lt); have HQ := Lib.hid (HQ.out.below hb HQ.out.lt); have HW := Lib.hid (HW.out.trans (hb.mono HW.out.size)); clear hb)
    | (go_at_call 24; with_reducible refine ((HQ2 _).out).mono ?_; rintro e w6 ⟨rfl, hb⟩; have HA := Lib.hid (HA.out.below hb HA.out.lt); have HP := Lib.hid (HP.out.below hb HP.out.lt); have HQ := Lib.hid (HQ.out.below hb HQ.out.lt); have HW := Lib.hid (HW.out.trans (hb.mono HW.out.size)); clear hb)
    | (go_at_call 10; with_reducible refine ((HV _).out).mono ?_; rintro e w6 ⟨rfl, hb⟩; have HA := Lib.hid (HA.out.below hb HA.out.lt); have HP := Lib.hid (HP.out.below hb HP.out.lt); have HQ := Lib.hid (HQ.out.below hb HQ.out.lt); have HW := Lib.hid (HW.out.trans (hb.mono HW.out.size)); clear hb)
    | (go_at_call 25; with_reducible refine ((HR1 _ (HT.out.below HW.out)).out).mono ?_; rintro e w6 ⟨rfl, hb⟩; have HA := Lib.hid (HA.out.below hb HA.out.lt); have HP := Lib.hid (HP.out.below hb HP.out.lt); have HQ := Lib.hid (HQ.out.below hb HQ.out.lt); have HW := Lib.hid (HW.out.trans (hb.mono HW.out.size)); clear hb)
    | (go_at_call 26; with_reducible refine ((HR2 _).out).mono ?_; rintro e w6 ⟨rfl, hb⟩; have HA := Lib.hid (HA.out.below hb HA.out.lt); have HP := Lib.hid (HP.out.below hb HP.out.lt); have HQ := Lib.hid (HQ.out.below hb HQ.out.lt); have HW := Lib.hid (HW.out.trans (hb.mono HW.out.size)); clear hb))
  all_goals go_wp2
  all_goals go_ret
  all_goals exact ⟨rfl, HW.out⟩
theorem datumTexts_walk (w : World) (s : List UInt8) (_ : s.length ≤ 9223372036854775807) (a : DV) (ua : a.wf) (hT : Tabs w) :
    Calls Tryd.prog 4 #[.string ⟨s.toArray⟩, vagg a] w fun e w' => e = .returned (.bool true) ∧ Below w.heap.size w w' := by
  obtain ⟨ak, ax, asx⟩ := a
  rcases Nat.lt_or_ge 2000 s.length with ha | ha
  · exact texts_first1 w _ ak ax asx hT ha
  rcases Nat.lt_or_ge 2000 asx.length with hb | hb
  · exact texts_first2 w _ ak ax asx hT ha hb
  exact texts_some w _ ak ax asx hT ha hb ua

set_option maxRecDepth 100000 in
theorem datumTexts_lifted (os : Os) (started : os.Started) (H : Type) (enc : TypeId × Value → H) :
    ReturnsInHanded {} Tryd.checked os 4 .any (fun w args => (Rows.datumTextsSpec.pre enc Tryd.prog Tryd.f4 [] false w args ∧ laidMetH Tryd.prog laid3 w) ∧ sizedMet enc Tryd.prog Tryd.f4 (OpenSpec.ofChange Rows.datumTextsSpec) false w args)
      (Rows.datumTextsSpec.post enc Tryd.prog Tryd.f4 false true false false) := by
  refine returnsInHanded_of_change_and (C := Tryd.checked) (X := fun w _ => laidMetH Tryd.prog laid3 w) (fun _ _ _ hh h => h.of_heap hh) own started (by kernel_rfl) Tryd.func4
    (ChangeSpec.witness_shaped (enc := enc) (C := Tryd.checked) (os := os) (X := fun w _ => laidMetH Tryd.prog laid3 w) false (World.doorLaid Tryd.prog 400 os) #[.string ⟨#[]⟩, .agg #[.int .i64 0, .float .f64 0, .string ⟨#[]⟩]] 8 rfl (World.shaped_of_RefB (by kernel_rfl) (by kernel_rfl)) (by kernel_rfl) (by kernel_rfl) (by kernel_rfl) (door_met os _)) ?_
  intro W base args ds gs before hval0 hW _ _ hL _
  have hval : ∀ (j : Nat) t v, Tryd.f4.params[j]? = some t → args[j]? = some v → Value.okWide Tryd.prog W .any base t v := hval0
  have hW' := hW
  obtain ⟨p, q, hA0, hV, rfl, hfz, hnd⟩ := hW
  have hA : DataW.TrodAll enc Tryd.prog W 0 (fun _ => true) true Tryd.f4.params.toList args.toList ds p := hA0
  rw [Tryd.params4] at hA hval
  obtain ⟨v0, v1, d0, d1, p0, p1, rfl, rfl, rfl, h0, h1⟩ := trodAll_two hA
  obtain ⟨rfl, rfl⟩ := trodVars_none hV
  clear hA0 hval0
  simp only [List.append_nil] at hW'
  have hlt : ∀ x ∈ p0 ++ p1, x.block < W.heap.size := fun x hx => hW'.lt x (by simpa using hx)
  have hT := tabs_of_laid hL
  have k0 := h0
  obtain ⟨s0, rfl, rfl, rfl, wf0⟩ := ChangeMaps.open_string Tryd.underlying9 (hval 0 9 v0 rfl rfl) h0
  have hwf0 : s0.data.toList.length ≤ 9223372036854775807 := by
    have e : s0.data.toList.length = s0.size := by rw [Array.length_toList]; rfl
    rw [e]; unfold maxLen at wf0; omega
  have k1 := h1
  obtain ⟨x1, rfl, rfl, u1⟩ := open_val (hval 1 24 v1 rfl rfl) h1
  refine Calls.mono (?walk : Calls _ _ _ _ fun e w' => e = .returned (.bool true) ∧ Below W.heap.size W w') fun e W' ⟨he, hw⟩ => ?_
  case walk =>
    rw [← bytes_self s0]
    exact datumTexts_walk W s0.data.toList hwf0 x1 u1 hT
  subst he
  exact ⟨_, rfl, post_of_below (pa := [] ++ []) (pv := []) hW' (fun _ _ _ => trodAll_mk1 (shut_bool Tryd.underlying4 _)) (fun sp hsp => trodAll_mk2 (WideElems.Trod_stays laidOut3 (by kernel_rfl) (of_decide_eq_true (by kernel_rfl)) k0 (fun x hx => hw.same (hlt x (by simp [hx]))) (fun x hx => hsp x (by simp [hx]))) (WideElems.Trod_stays laidOut3 (by kernel_rfl) (of_decide_eq_true (by kernel_rfl)) k1 (fun x hx => hw.same (hlt x (by simp [hx]))) (fun x hx => hsp x (by simp [hx])))) (fun _ _ => rfl) (by simp) hw (ok_one (by kernel_rfl) rfl (okWide_bool_mk Tryd.underlying4 _))⟩
theorem datumTexts_holds : Rows.DatumTextsSaid :=
  OpenClaim.holds_of_wide 4 Tryd.f4 rfl rfl rfl rfl rfl rfl rfl ⟨rfl, rfl, rfl, rfl, rfl⟩ rfl rfl rfl rfl rfl (by kernel_rfl) Tryd.func4 (by kernel_rfl)
    (of_decide_eq_true (by kernel_rfl)) (by unfold Func.isWrapper; first | (rw [if_pos (by decide +kernel)]; kernel_rfl) | (rw [if_neg (by decide +kernel)]; exact ⟨rfl, rfl⟩))
    (fun os started H enc _ => datumTexts_lifted os started H enc)
/-- THE TIED CARD. -/
theorem datumTexts_card : Rows.DatumTextsCardSaid :=
  Claim7.holds_tied_plain_at .later [] [.data, .data, .data] true (true, "e365411bd106a08e9233803ba0fe4dfaa9695e3b647a3ddff3aaff483a6e1884") false
    datumTexts_holds (fun _ h => by cases h) (by kernel_rfl) (fun _ h => by cases h) datumTexts_row_tie rfl ⟨rfl, rfl⟩ (by kernel_rfl) rfl
    (fun f fn hf hfn => by
      obtain rfl : f = 4 := Option.some.inj ((show Tryd.prog.funcNamed "headrace/racelaw3.DatumTexts" = some 4 by kernel_rfl).symm.trans hf) |>.symm
      obtain rfl : fn = Tryd.f4 := (Option.some.inj (Tryd.func4.symm.trans hfn)).symm
      exact ⟨by kernel_rfl, fun j t ht => by
        rw [Tryd.params4] at ht
        have hm : t ∈ [9, 24] := by simpa using Array.mem_of_getElem? ht
        have hall : ([9, 24].all fun u => !Tryd.prog.wantsStandIn u) = true := by kernel_rfl
        exact (show Tryd.prog.wantsStandIn t = false by simpa using List.all_eq_true.1 hall t hm)⟩)
    (by kernel_rfl)
#print axioms datumTexts_card
end Go.Proofs.YtjkfcmadoeifgaaDoor
