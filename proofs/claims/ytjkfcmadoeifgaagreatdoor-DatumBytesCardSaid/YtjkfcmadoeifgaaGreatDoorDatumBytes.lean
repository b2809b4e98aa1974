/- Any value as bytes, and any bytes as a value, or a fault, as the document has it: racelaw3.DatumBytes answers true and leaves its arguments as they were. Conditions: the library's tables hold what their initialisers lay. -/
import Derived.Test.YtjkfcmadoeifgaaGreatDoorTs
import Derived.Test.YtjkfcmadoeifgaaGreatDoorFj
import Derived.Test.YtjkfcmadoeifgaaGreatDoorAg
import Derived.Deep.RegionHeld
import Derived.Test.YtjkfcmadoeifgaaGreatDoorCards
import Derived.Test.YtjkfcmadoeifgaaGreatDoorTie
namespace Go.Proofs.YtjkfcmadoeifgaaGreatDoor
open Go.ChangeShapes Go.WideShapes Go.ChangeAt Go.RowKit
set_option maxRecDepth 100000 in
theorem bytes_first1 (w : World) (ak : Int) (ax : Nat) (asx : List UInt8) (ao : Option Addr) (cap : Nat) (l : List UInt8) (hT : Tabs w) (h1 : 2000 < asx.length) :
    Calls Tryz.prog 4 #[vagg ⟨ak, ax, asx⟩, .slice ao l.length cap] w fun e w' => e = .returned (.bool true) ∧ Below w.heap.size w w' := by
  have HW := Lib.hid (below1 w (vobj ⟨ak, ax, asx⟩))
  have HA := Lib.hid (at_new w ⟨ak, ax, asx⟩)
  have HT := Lib.hid hT
  have HS := fun w => Lib.hid (small_any ⟨ak, ax, asx⟩ w)
  rw [decide_eq_false (by simp only; omega)] at HS
  clear hT h1
  go_enter Tryz.func4, Tryz.ntmps4
  go_wp2_with (first
    | (go_at_call 6; ((with_reducible refine (first_ex _ (HT.out.below HW.out)).mono ?_); rintro e w1 ⟨rfl, hb⟩; have HA := Lib.hid (HA.out.below hb HA.out.lt); have A0 := HA.out.c0; have A1 := HA.out.c1; have A2 := HA.out.c2; have az := HA.out.lt; dsimp only at A0 A1 A2; have HW := Lib.hid (HW.out.trans (hb.mono HW.out.size)); clear hb))
    | (go_at_call 7; ((with_reducible refine (HS _).out.mono ?_); rintro e w1 ⟨rfl, hb⟩; have HA := Lib.hid (HA.out.below hb HA.out.lt); have A0 := HA.out.c0; have A1 := HA.out.c1; have A2 := HA.out.c2; have az := HA.out.lt; dsimp only at A0 A1 A2; have HW := Lib.hid (HW.out.trans (hb.mono HW.out.size)); clear hb)))
  go_ret
  exact ⟨rfl, HW.out⟩
set_option maxRecDepth 100000 in
theorem bytes_first2 (w : World) (ak : Int) (ax : Nat) (asx : List UInt8) (ao : Option Addr) (cap : Nat) (l : List UInt8) (hT : Tabs w) (h1 : asx.length ≤ 2000) (h2 : 2000 < l.length) :
    Calls Tryz.prog 4 #[vagg ⟨ak, ax, asx⟩, .slice ao l.length cap] w fun e w' => e = .returned (.bool true) ∧ Below w.heap.size w w' := by
  have HW := Lib.hid (below1 w (vobj ⟨ak, ax, asx⟩))
  have HA := Lib.hid (at_new w ⟨ak, ax, asx⟩)
  have HT := Lib.hid hT
  have HS := fun w => Lib.hid (small_any ⟨ak, ax, asx⟩ w)
  rw [decide_eq_true (by simp only; omega)] at HS
  have hc : (2000 : Int) < (l.length : Int) := by omega
  clear hT h1 h2
  go_enter Tryz.func4, Tryz.ntmps4
  go_wp2_with (first
    | (go_at_call 6; ((with_reducible refine (first_ex _ (HT.out.below HW.out)).mono ?_); rintro e w1 ⟨rfl, hb⟩; have HA := Lib.hid (HA.out.below hb HA.out.lt); have A0 := HA.out.c0; have A1 := HA.out.c1; have A2 := HA.out.c2; have az := HA.out.lt; dsimp only at A0 A1 A2; have HW := Lib.hid (HW.out.trans (hb.mono HW.out.size)); clear hb))
    | (go_at_call 7; ((with_reducible refine (HS _).out.mono ?_); rintro e w1 ⟨rfl, hb⟩; have HA := Lib.hid (HA.out.below hb HA.out.lt); have A0 := HA.out.c0; have A1 := HA.out.c1; have A2 := HA.out.c2; have az := HA.out.lt; dsimp only at A0 A1 A2; have HW := Lib.hid (HW.out.trans (hb.mono HW.out.size)); clear hb)))
  go_ret
  exact ⟨rfl, HW.out⟩
set_option maxRecDepth 100000 in
set_option maxHeartbeats 8000000 in
theorem bytes_some (w : World) (ak : Int) (ax : Nat) (asx : List UInt8) (ao : Option Addr) (cap : Nat) (l : List UInt8) (hT : Tabs w) (h1 : asx.length ≤ 2000) (h2 : l.length ≤ 2000) (hx : ax < 18446744073709551616) (hb : HasB (fun k => k < w.heap.size) w (.slice ao l.length cap) l) :
    Calls Tryz.prog 4 #[vagg ⟨ak, ax, asx⟩, .slice ao l.length cap] w fun e w' => e = .returned (.bool true) ∧ Below w.heap.size w w' := by
  have HW := Lib.hid (below1 w (vobj ⟨ak, ax, asx⟩))
  have HA := Lib.hid (at_new w ⟨ak, ax, asx⟩)
  have HT := Lib.hid hT
  have HS := fun w => Lib.hid (small_any ⟨ak, ax, asx⟩ w)
  rw [decide_eq_true (by simp only; omega)] at HS
  have hst := run_stf
  have hc : ¬ (2000 : Int) < (l.length : Int) := by omega
  have hroom : l.length ≤ 140737488355328 := by omega
  have HBB := Lib.hid hb
  have HAX := Lib.hid hx
  have hlen : (putV ⟨ak, ax, asx⟩).length ≤ 140737488355328 := Nat.le_trans (put_len _) (by decide)
  have hlk : Like (getV ⟨l, 0, 0, 0⟩).2 (getV ⟨l, 0, 0, 0⟩).2 := (Like.get ⟨rfl, rfl, rfl, fun _ => rfl, fun _ => rfl⟩).2
  obtain ⟨GV, hge⟩ : ∃ GV, getV ⟨l, 0, 0, 0⟩ = GV := ⟨_, rfl⟩
  rw [hge] at hlk
  obtain ⟨⟨pk, px, ps⟩, s1⟩ := GV
  have HGE := Lib.hid hge
  have HGF := Lib.hid hlk.no
  obtain ⟨EN, hen⟩ : ∃ EN, endR s1 = EN := ⟨_, rfl⟩
  obtain ⟨en, ep⟩ := EN
  have HEN := Lib.hid hen
  have HV := fun w => Lib.hid (value_any ⟨pk, px, ps⟩ ⟨pk, px, ps⟩ w)
  rw [sameV_self] at HV
  have e1 : (en == en) = true := beq_self_eq_true _
  have e2 : ((ep : Int) == (ep : Int)) = true := beq_self_eq_true _
  clear hT h1 h2 hx hb hge hlk hen
  go_enter Tryz.func4, Tryz.ntmps4
  go_wp2_with (first
    | (go_at_call 6; ((with_reducible refine (first_ex _ (HT.out.below HW.out)).mono ?_); rintro e w1 ⟨rfl, hb⟩; have HA := Lib.hid (HA.out.below hb HA.out.lt); have A0 := HA.out.c0; have A1 := HA.out.c1; have A2 := HA.out.c2; have az := HA.out.lt; dsimp only at A0 A1 A2; have HW := Lib.hid (HW.out.trans (hb.mono HW.out.size)); clear hb))
    | (go_at_call 7; ((with_reducible refine (HS _).out.mono ?_); rintro e w1 ⟨rfl, hb⟩; have HA := Lib.hid (HA.out.below hb HA.out.lt); have A0 := HA.out.c0; have A1 := HA.out.c1; have A2 := HA.out.c2; have az := HA.out.lt; dsimp only at A0 A1 A2; have HW := Lib.hid (HW.out.trans (hb.mono HW.out.size)); clear hb))
    | (go_at_call 15; have HAL := Lib.hid HA.out.lt; ((with_reducible refine (newWriter_any _).mono ?_); rintro e w1 ⟨p, rfl, hp, hwr, hf⟩; have HWr := Lib.hid hwr; have HA := Lib.hid (HA.out.fr hf id); have A0 := HA.out.c0; have A1 := HA.out.c1; have A2 := HA.out.c2; have az := HA.out.lt; dsimp only at A0 A1 A2; have HW := Lib.hid (HW.out.trans (hf.below (fun _ h => h.elim) HW.out.size)); have o1 : w.heap.size < p := Nat.lt_of_lt_of_le HAL.out hp; have HAZ := Lib.hid hwr.lt; clear hp hwr hf))
    | (go_at_call 16; ((with_reducible refine (newReader_any (HBB.out.fr (Fr.of_below HW.out (fun _ _ h => h)) (fun _ hk e => by omega)) hroom).mono ?_); rintro e w2 ⟨r, vr, rfl, o3, hrd, hf⟩; have HX := Lib.hid (WrX.new (HWr.out.fr hf id (fun _ _ => id)) (Fr.refl _ _) (Nat.le_refl _)); have HR := Lib.hid hrd; have HA := Lib.hid (HA.out.fr hf id); have A0 := HA.out.c0; have A1 := HA.out.c1; have A2 := HA.out.c2; have az := HA.out.lt; dsimp only at A0 A1 A2; have HW := Lib.hid (HW.out.trans (hf.below (fun _ h => h.elim) HW.out.size)); clear hrd hf))
    | (go_at_call 17; ((with_reducible refine (dput_any HX.out ⟨ak, ax, asx⟩ HAX.out (Nat.zero_le _)).mono ?_); rintro e w3 ⟨rfl, hx3, hf⟩; obtain ⟨vw, hts⟩ := TS.make HW.out HA.out HR.out hx3 hf HBB.out hroom o1 HAZ.out o3; have HTS := Lib.hid hts; rw [List.nil_append] at HTS; clear hx3 hf hts))
    | (go_at_call 18; ((with_reducible refine (dget_is HTS.out.rd HTS.out.k69 HGE.out).mono ?_); rintro e w4 ⟨rfl, hr, hf⟩; have HT4 := Lib.hid (HTS.out.get hr hf); have hq4 := Lib.hid HT4.out.rx.lt; have hr4 := Lib.hid HT4.out.rd.lt; have HTS := Lib.hid (HT4.out.below (below1 w4 (vobj ⟨pk, px, ps⟩))); have HP := Lib.hid (at_new w4 ⟨pk, px, ps⟩); clear hr hf))
    | (go_at_call 19; ((with_reducible refine (rdget_is HTS.out.rx HTS.out.k40 HGE.out).mono ?_); rintro e w5 ⟨rfl, hr, hf⟩; have HT5 := Lib.hid (HTS.out.rget hr hf); have hq5 := Lib.hid HT5.out.rx.lt; have hr5 := Lib.hid HT5.out.rd.lt; have HTS := Lib.hid (HT5.out.below (below1 w5 (vobj ⟨pk, px, ps⟩))); have HP := Lib.hid ((HP.out.keep hf hq4.out).alloc (vobj ⟨pk, px, ps⟩)); have HQ := Lib.hid (at_new w5 ⟨pk, px, ps⟩); clear hr hf))
    | (go_at_call 20; ((with_reducible refine (end_is HTS.out.rd HGF.out HEN.out).mono ?_); rintro e w6 ⟨rfl, hr, hf⟩; have HTS := Lib.hid (HTS.out.get hr hf); have HP := Lib.hid (HP.out.keep hf hr4.out); have HQ := Lib.hid (HQ.out.keep hf hr5.out); clear hr hf))
    | (go_at_call 21; ((with_reducible refine (rend_is HTS.out.rx HEN.out).mono ?_); rintro e w7 ⟨rfl, hr, hf⟩; have HTS := Lib.hid (HTS.out.rget hr hf); have HP := Lib.hid (HP.out.keep hf hq4.out); have HQ := Lib.hid (HQ.out.keep hf hq5.out); clear hr hf)))
  have hdr := fun W => (Below.refl (World.heap W).size W).drew
  have HP := Lib.hid (HP.out.below (hdr _) HP.out.lt)
  have HQ := Lib.hid (HQ.out.below (hdr _) HQ.out.lt)
  have HTS := Lib.hid (HTS.out.below (hdr _))
  clear hdr
  go_region_held (fun w' => w'.cell? ⟨w.heap.size, 0, none⟩ = some (.int .i64 ak) ∧ w'.cell? ⟨w.heap.size, 1, none⟩ = some (.float .f64 ax) ∧ w'.cell? ⟨w.heap.size, 2, none⟩ = some (.string ⟨asx.toArray⟩) ∧ w'.cell? ⟨w4.heap.size, 0, none⟩ = some (.int .i64 pk) ∧ w'.cell? ⟨w4.heap.size, 1, none⟩ = some (.float .f64 px) ∧ w'.cell? ⟨w4.heap.size, 2, none⟩ = some (.string ⟨ps.toArray⟩) ∧ w'.cell? ⟨w5.heap.size, 0, none⟩ = some (.int .i64 pk) ∧ w'.cell? ⟨w5.heap.size, 1, none⟩ = some (.float .f64 px) ∧ w'.cell? ⟨w5.heap.size, 2, none⟩ = some (.string ⟨ps.toArray⟩)) (exact ⟨HTS.out.bx.c0, HTS.out.bx.c1, HTS.out.bx.c2, HP.out.c0, HP.out.c1, HP.out.c2, HQ.out.c0, HQ.out.c1, HQ.out.c2⟩) (first
    | (go_at_call 6; with_reducible refine (first_ex _ (HT.out.below HTS.out.be)).mono ?_; rintro e w8 ⟨rfl, hb⟩; have HP := Lib.hid (HP.out.below hb HP.out.lt); have HQ := Lib.hid (HQ.out.below hb HQ.out.lt); have HTS := Lib.hid (HTS.out.below hb); clear hb)
    | (go_at_call 23; with_reducible refine (wbytes_any HTS.out.wr hlen).mono ?_; rintro e w8 ⟨vb1, rfl, ho, hf⟩; have hb := hf.below (fun _ h => h.elim) (Nat.le_refl _); have HOA := Lib.hid (own_has ho); have HP := Lib.hid (HP.out.below hb HP.out.lt); have HQ := Lib.hid (HQ.out.below hb HQ.out.lt); have HTS := Lib.hid (HTS.out.below hb); clear hb hf ho)
    | (go_at_call 24; refine (rput_any ⟨ak, ax, asx⟩ HAX.out w8).mono ?_; rintro e w9 ⟨vb2, rfl, ho, hb⟩; have HOB := Lib.hid (own_has ho); have HOA := Lib.hid (HOA.out.below hb); have HP := Lib.hid (HP.out.below hb HP.out.lt); have HQ := Lib.hid (HQ.out.below hb HQ.out.lt); have HTS := Lib.hid (HTS.out.below hb); clear hb ho)
    | (go_at_call 22; with_reducible refine (same_self HOA.out HOB.out).mono ?_; rintro e w' ⟨rfl, rfl⟩)
    | (go_at_call 14; refine (HV _).out.mono ?_; rintro e w8 ⟨rfl, hb⟩; have HP := Lib.hid (HP.out.below hb HP.out.lt); have HQ := Lib.hid (HQ.out.below hb HQ.out.lt); have HTS := Lib.hid (HTS.out.below hb); clear hb))
  all_goals go_wp2
  all_goals go_ret
  all_goals exact ⟨rfl, HTS.out.be⟩
theorem datumBytes_walk (w : World) (a : DV) (ua : a.wf) (bv : Value) (l : List UInt8) (hb : HasB (fun k => k < w.heap.size) w bv l) (_ : l.length ≤ 9223372036854775807) (hT : Tabs w) :
    Calls Tryz.prog 4 #[vagg a, bv] w fun e w' => e = .returned (.bool true) ∧ Below w.heap.size w w' := by
  obtain ⟨ak, ax, asx⟩ := a
  have hb0 := hb
  obtain ⟨ao, cap, rfl, _⟩ := hb
  rcases Nat.lt_or_ge 2000 asx.length with h1 | h1
  · exact bytes_first1 w ak ax asx ao cap l hT h1
  rcases Nat.lt_or_ge 2000 l.length with h2 | h2
  · exact bytes_first2 w ak ax asx ao cap l hT h1 h2
  exact bytes_some w ak ax asx ao cap l hT h1 h2 ua.2.1 hb0

set_option maxRecDepth 100000 in
theorem datumBytes_lifted (os : Os) (started : os.Started) (H : Type) (enc : TypeId × Value → H) :
    ReturnsInHanded {} Tryz.checked os 4 .any (fun w args => (Rows.datumBytesSpec.pre enc Tryz.prog Tryz.f4 [] false w args ∧ laidMetH Tryz.prog laid3 w) ∧ sizedMet enc Tryz.prog Tryz.f4 (OpenSpec.ofChange Rows.datumBytesSpec) false w args)
      (Rows.datumBytesSpec.post enc Tryz.prog Tryz.f4 false true false false) := by
  refine returnsInHanded_of_change_and (C := Tryz.checked) (X := fun w _ => laidMetH Tryz.prog laid3 w) (fun _ _ _ hh h => h.of_heap hh) own started (by kernel_rfl) Tryz.func4
    (ChangeSpec.witness_shaped (enc := enc) (C := Tryz.checked) (os := os) (X := fun w _ => laidMetH Tryz.prog laid3 w) false (World.doorLaid Tryz.prog 400 os) #[.agg #[.int .i64 0, .float .f64 0, .string ⟨#[]⟩], .slice none 0 0] 8 rfl (World.shaped_of_RefB (by kernel_rfl) (by kernel_rfl)) (by kernel_rfl) (by kernel_rfl) (by kernel_rfl) (door_met os _)) ?_
  intro W base args ds gs before hval0 hW _ _ hL _
  have hval : ∀ (j : Nat) t v, Tryz.f4.params[j]? = some t → args[j]? = some v → Value.okWide Tryz.prog W .any base t v := hval0
  have hW' := hW
  obtain ⟨p, q, hA0, hV, rfl, hfz, hnd⟩ := hW
  have hA : DataW.TrodAll enc Tryz.prog W 0 (fun _ => true) true Tryz.f4.params.toList args.toList ds p := hA0
  rw [Tryz.params4] at hA hval
  obtain ⟨v0, v1, d0, d1, p0, p1, rfl, rfl, rfl, h0, h1⟩ := trodAll_two hA
  obtain ⟨rfl, rfl⟩ := trodVars_none hV
  clear hA0 hval0
  simp only [List.append_nil] at hW'
  have hlt : ∀ x ∈ p0 ++ p1, x.block < W.heap.size := fun x hx => hW'.lt x (by simpa using hx)
  have hT := tabs_of_laid hL
  have k0 := h0
  obtain ⟨x0, rfl, rfl, u0⟩ := open_val (hval 0 24 v0 rfl rfl) h0
  obtain ⟨b1, len1, cap1, rfl⟩ := okWide_slice Tryz.underlying32 (hval 1 32 v1 rfl rfl)
  have k1 := h1
  obtain ⟨fuel1, g1⟩ := h1
  obtain ⟨xs1, r1, m1⟩ := open_has g1
  refine Calls.mono (?walk : Calls _ _ _ _ fun e w' => e = .returned (.bool true) ∧ Below W.heap.size W w') fun e W' ⟨he, hw⟩ => ?_
  case walk =>
    exact datumBytes_walk W x0 u0 _ xs1 r1 m1 hT
  subst he
  exact ⟨_, rfl, post_of_below (pa := [] ++ p1) (pv := []) hW' (fun _ _ _ => trodAll_mk1 (shut_bool Tryz.underlying4 _)) (fun sp hsp => trodAll_mk2 (WideElems.Trod_stays laidOut3 (by kernel_rfl) (of_decide_eq_true (by kernel_rfl)) k0 (fun x hx => hw.same (hlt x (by first | (simp [hx]; done) | exact nomatch hx))) (fun x hx => hsp x (by first | (simp [hx]; done) | exact nomatch hx))) (WideElems.Trod_stays laidOut3 (by kernel_rfl) (of_decide_eq_true (by kernel_rfl)) k1 (fun x hx => hw.same (hlt x (by first | (simp [hx]; done) | exact nomatch hx))) (fun x hx => hsp x (by first | (simp [hx]; done) | exact nomatch hx)))) (fun _ _ => rfl) (by simp) hw (ok_one (by kernel_rfl) rfl (okWide_bool_mk Tryz.underlying4 _))⟩
theorem datumBytes_holds : Rows.DatumBytesSaid :=
  OpenClaim.holds_of_wide 4 Tryz.f4 rfl rfl rfl rfl rfl rfl rfl ⟨rfl, rfl, rfl, rfl, rfl⟩ rfl rfl rfl rfl rfl (by kernel_rfl) Tryz.func4 (by kernel_rfl)
    (of_decide_eq_true (by kernel_rfl)) (by unfold Func.isWrapper; first | (rw [if_pos (by decide +kernel)]; kernel_rfl) | (rw [if_neg (by decide +kernel)]; exact ⟨rfl, rfl⟩))
    (fun os started H enc _ => datumBytes_lifted os started H enc)
/-- THE TIED CARD. -/
theorem datumBytes_card : Rows.DatumBytesCardSaid :=
  Claim7.holds_tied_plain_at .later [] [.data, .data, .data] true (true, "ad566913e74d85a7beddde3228583cfa7c9eda3ab28821132b9a3e8e5ad2af56") false
    datumBytes_holds (fun _ h => by cases h) (by kernel_rfl) (fun _ h => by cases h) datumBytes_row_tie rfl ⟨rfl, rfl⟩ (by kernel_rfl) rfl
    (fun f fn hf hfn => by
      obtain rfl : f = 4 := Option.some.inj ((show Tryz.prog.funcNamed "headrace/racelaw3.DatumBytes" = some 4 by kernel_rfl).symm.trans hf) |>.symm
      obtain rfl : fn = Tryz.f4 := (Option.some.inj (Tryz.func4.symm.trans hfn)).symm
      exact ⟨by kernel_rfl, fun j t ht => by
        rw [Tryz.params4] at ht
        have hm : t ∈ [24, 32] := by simpa using Array.mem_of_getElem? ht
        have hall : ([24, 32].all fun u => !Tryz.prog.wantsStandIn u) = true := by kernel_rfl
        exact (show Tryz.prog.wantsStandIn t = false by simpa using List.all_eq_true.1 hall t hm)⟩)
    (by kernel_rfl)
#print axioms datumBytes_card
end Go.Proofs.YtjkfcmadoeifgaaGreatDoor
