/- Sums turned round, None added: racelaw3.DatumAdds answers true and leaves its arguments as they were. Conditions: the library's tables hold what their initialisers lay. -/
import Derived.Test.YtjkfcmadoeifgaaDoorDb
import Derived.Test.YtjkfcmadoeifgaaDoorDc
import Derived.Test.YtjkfcmadoeifgaaDoorDd
import Derived.Test.YtjkfcmadoeifgaaDoorDe
import Derived.Test.YtjkfcmadoeifgaaDoorDf
import Derived.Test.YtjkfcmadoeifgaaDoorCards
import Derived.Test.YtjkfcmadoeifgaaDoorTie
namespace Go.Proofs.YtjkfcmadoeifgaaDoor
open Go.ChangeShapes Go.WideShapes Go.ChangeAt Go.RowKit
set_option maxRecDepth 100000 in
theorem adds_first1 (w : World) (ak : Int) (ax : Nat) (asx : List UInt8) (bk : Int) (bx : Nat) (bs : List UInt8) (hT : Tabs w) (h1 : 2000 < asx.length) :
    Calls Tryd.prog 7 #[vagg ⟨ak, ax, asx⟩, vagg ⟨bk, bx, bs⟩] w fun e w' => e = .returned (.bool true) ∧ Below w.heap.size w w' := by
  have HW := Lib.hid (below2 w (vobj ⟨ak, ax, asx⟩) (vobj ⟨bk, bx, bs⟩))
  have HA := Lib.hid (at_two w ⟨ak, ax, asx⟩ ⟨bk, bx, bs⟩).1
  have HB := Lib.hid (at_two w ⟨ak, ax, asx⟩ ⟨bk, bx, bs⟩).2
  have HT := Lib.hid hT
  have HS1 := fun w => Lib.hid (small_any ⟨ak, ax, asx⟩ w)
  have HS2 := fun w => Lib.hid (small_any ⟨bk, bx, bs⟩ w)
  rw [decide_eq_false (by simp only; omega)] at HS1
  clear hT h1
  go_enter Tryd.func7, Tryd.ntmps7
  go_wp2_with (first
    | (go_at_call 8; with_reducible refine (first_ex _ (HT.out.below HW.out)).mono ?_; rintro e w1 ⟨rfl, hb⟩; have HA := Lib.hid (HA.out.below hb HA.out.lt); have A0 := HA.out.c0; have A1 := HA.out.c1; have A2 := HA.out.c2; dsimp only at A0 A1 A2; have HB := Lib.hid (HB.out.below hb HB.out.lt); have B0 := HB.out.c0; have B1 := HB.out.c1; have B2 := HB.out.c2; dsimp only at B0 B1 B2; have HW := Lib.hid (HW.out.trans (hb.mono HW.out.size)); clear hb)
    | (go_at_call 9; with_reducible refine (HS1 _).out.mono ?_; rintro e w1 ⟨rfl, hb⟩; have HA := Lib.hid (HA.out.below hb HA.out.lt); have A0 := HA.out.c0; have A1 := HA.out.c1; have A2 := HA.out.c2; dsimp only at A0 A1 A2; have HB := Lib.hid (HB.out.below hb HB.out.lt); have B0 := HB.out.c0; have B1 := HB.out.c1; have B2 := HB.out.c2; dsimp only at B0 B1 B2; have HW := Lib.hid (HW.out.trans (hb.mono HW.out.size)); clear hb)
    | (go_at_call 9; with_reducible refine (HS2 _).out.mono ?_; rintro e w1 ⟨rfl, hb⟩; have HA := Lib.hid (HA.out.below hb HA.out.lt); have A0 := HA.out.c0; have A1 := HA.out.c1; have A2 := HA.out.c2; dsimp only at A0 A1 A2; have HB := Lib.hid (HB.out.below hb HB.out.lt); have B0 := HB.out.c0; have B1 := HB.out.c1; have B2 := HB.out.c2; dsimp only at B0 B1 B2; have HW := Lib.hid (HW.out.trans (hb.mono HW.out.size)); clear hb))
  go_ret
  exact ⟨rfl, HW.out⟩
set_option maxRecDepth 100000 in
theorem adds_first2 (w : World) (ak : Int) (ax : Nat) (asx : List UInt8) (bk : Int) (bx : Nat) (bs : List UInt8) (hT : Tabs w) (h1 : asx.length ≤ 2000) (h2 : 2000 < bs.length) :
    Calls Tryd.prog 7 #[vagg ⟨ak, ax, asx⟩, vagg ⟨bk, bx, bs⟩] w fun e w' => e = .returned (.bool true) ∧ Below w.heap.size w w' := by
  have HW := Lib.hid (below2 w (vobj ⟨ak, ax, asx⟩) (vobj ⟨bk, bx, bs⟩))
  have HA := Lib.hid (at_two w ⟨ak, ax, asx⟩ ⟨bk, bx, bs⟩).1
  have HB := Lib.hid (at_two w ⟨ak, ax, asx⟩ ⟨bk, bx, bs⟩).2
  have HT := Lib.hid hT
  have HS1 := fun w => Lib.hid (small_any ⟨ak, ax, asx⟩ w)
  have HS2 := fun w => Lib.hid (small_any ⟨bk, bx, bs⟩ w)
  rw [decide_eq_true (by simp only; omega)] at HS1
  rw [decide_eq_false (by simp only; omega)] at HS2
  clear hT h1 h2
  go_enter Tryd.func7, Tryd.ntmps7
  go_wp2_with (first
    | (go_at_call 8; with_reducible refine (first_ex _ (HT.out.below HW.out)).mono ?_; rintro e w1 ⟨rfl, hb⟩; have HA := Lib.hid (HA.out.below hb HA.out.lt); have A0 := HA.out.c0; have A1 := HA.out.c1; have A2 := HA.out.c2; dsimp only at A0 A1 A2; have HB := Lib.hid (HB.out.below hb HB.out.lt); have B0 := HB.out.c0; have B1 := HB.out.c1; have B2 := HB.out.c2; dsimp only at B0 B1 B2; have HW := Lib.hid (HW.out.trans (hb.mono HW.out.size)); clear hb)
    | (go_at_call 9; with_reducible refine (HS1 _).out.mono ?_; rintro e w1 ⟨rfl, hb⟩; have HA := Lib.hid (HA.out.below hb HA.out.lt); have A0 := HA.out.c0; have A1 := HA.out.c1; have A2 := HA.out.c2; dsimp only at A0 A1 A2; have HB := Lib.hid (HB.out.below hb HB.out.lt); have B0 := HB.out.c0; have B1 := HB.out.c1; have B2 := HB.out.c2; dsimp only at B0 B1 B2; have HW := Lib.hid (HW.out.trans (hb.mono HW.out.size)); clear hb)
    | (go_at_call 9; with_reducible refine (HS2 _).out.mono ?_; rintro e w1 ⟨rfl, hb⟩; have HA := Lib.hid (HA.out.below hb HA.out.lt); have A0 := HA.out.c0; have A1 := HA.out.c1; have A2 := HA.out.c2; dsimp only at A0 A1 A2; have HB := Lib.hid (HB.out.below hb HB.out.lt); have B0 := HB.out.c0; have B1 := HB.out.c1; have B2 := HB.out.c2; dsimp only at B0 B1 B2; have HW := Lib.hid (HW.out.trans (hb.mono HW.out.size)); clear hb))
  go_ret
  exact ⟨rfl, HW.out⟩
theorem adds_tail {ax : Nat} {asx : List UInt8} (hx : ax < 18446744073709551616) (hma : mayV ⟨1, ax, asx⟩ = true) :
    ∃ Z, plusV ⟨1, ax, asx⟩ ⟨0, 0, []⟩ = (Z, 0) ∧ (sameV Z ⟨1, ax, asx⟩ = true ∨ (sameV Z ⟨1, ax, asx⟩ = false ∧ sameV Z ⟨1, 0, []⟩ = true ∧ Op.floatEq .f64 ax 0 = true)) := by
  have e : mayV ⟨1, ax, asx⟩ = (ax == canon ax && asx == []) := rfl
  have hs : asx = [] := by rw [e] at hma; simp at hma; exact hma.2
  have hc : ax = canon ax := by rw [e] at hma; simp at hma; exact hma.1
  subst hs
  have hz : plusV ⟨1, ax, []⟩ ⟨0, 0, []⟩ = (⟨1, canon (resN (Ieee.double.add ax 0)), []⟩, 0) := by
    have h1 : addV ⟨1, ax, []⟩ = (ax, true) := by unfold addV; rw [hma]; rfl
    have h2 : addV ⟨0, 0, []⟩ = (0, true) := by decide
    unfold plusV
    rw [h1, h2]
    rfl
  rcases add_zero_res hx with h | ⟨h, h0⟩
  · refine ⟨_, hz, .inl ?_⟩
    rw [h, canon_canon, ← hc]
    exact sameV_self _
  · by_cases hn : ax = 0
    · subst hn
      refine ⟨_, hz, .inl ?_⟩
      rw [h0]
      decide
    · have hm : ax = 9223372036854775808 := by omega
      subst hm
      refine ⟨_, hz, .inr ⟨?_, ?_, ?_⟩⟩
      · rw [h0]; decide
      · rw [h0]; decide
      · decide +kernel
theorem datumAdds_walk (w : World) (a : DV) (ua : a.wf) (b : DV) (_ : b.wf) (hT : Tabs w) :
    Calls Tryd.prog 7 #[vagg a, vagg b] w fun e w' => e = .returned (.bool true) ∧ Below w.heap.size w w' := by
  obtain ⟨ak, ax, asx⟩ := a
  obtain ⟨bk, bx, bs⟩ := b
  have hx : ax < 18446744073709551616 := ua.2.1
  clear ua
  rcases Nat.lt_or_ge 2000 asx.length with ha | ha
  · exact adds_first1 w ak ax asx bk bx bs hT ha
  rcases Nat.lt_or_ge 2000 bs.length with hb | hb
  · exact adds_first2 w ak ax asx bk bx bs hT ha hb
  cases hma : mayV ⟨ak, ax, asx⟩
  · exact adds_c1 w ak ax asx bk bx bs hT ha hb hma
  cases hmb : mayV ⟨bk, bx, bs⟩
  · by_cases h1 : ak = 1
    · subst h1
      obtain ⟨Z, hz, h | ⟨h, h0, hf⟩⟩ := adds_tail hx hma
      · exact adds_d1_t1 w ax asx bk bx bs hT ha hb hma hmb Z hz h
      · exact adds_d1_t2 w ax asx bk bx bs hT ha hb hma hmb Z hz h h0 hf
    · exact adds_c2 w ak ax asx bk bx bs hT ha hb hma hmb (by simpa using h1)
  by_cases h1 : ak = 1
  · subst h1
    obtain ⟨Z, hz, h | ⟨h, h0, hf⟩⟩ := adds_tail hx hma
    · by_cases h2 : bk = 2
      · exact adds_d2_t1 w ax asx bk bx bs hT ha hb hma hmb (by simpa using h2) Z hz h
      · exact adds_d3_t1 w ax asx bk bx bs hT ha hb hma hmb (by simpa using h2) Z hz h
    · by_cases h2 : bk = 2
      · exact adds_d2_t2 w ax asx bk bx bs hT ha hb hma hmb (by simpa using h2) Z hz h h0 hf
      · exact adds_d3_t2 w ax asx bk bx bs hT ha hb hma hmb (by simpa using h2) Z hz h h0 hf
  · have hk : (ak != 1) = true := by simpa using h1
    by_cases h2 : ak = 2
    · exact adds_c3 w ak ax asx bk bx bs hT ha hb hma hmb hk (by simpa using h2)
    · by_cases h3 : bk = 2
      · exact adds_c4 w ak ax asx bk bx bs hT ha hb hma hmb hk (by simpa using h2) (by simpa using h3)
      · exact adds_c5 w ak ax asx bk bx bs hT ha hb hma hmb hk (by simpa using h2) (by simpa using h3)

set_option maxRecDepth 100000 in
theorem datumAdds_lifted (os : Os) (started : os.Started) (H : Type) (enc : TypeId × Value → H) :
    ReturnsInHanded {} Tryd.checked os 7 .any (fun w args => (Rows.datumAddsSpec.pre enc Tryd.prog Tryd.f7 [] false w args ∧ laidMetH Tryd.prog laid3 w) ∧ sizedMet enc Tryd.prog Tryd.f7 (OpenSpec.ofChange Rows.datumAddsSpec) false w args)
      (Rows.datumAddsSpec.post enc Tryd.prog Tryd.f7 false true false false) := by
  refine returnsInHanded_of_change_and (C := Tryd.checked) (X := fun w _ => laidMetH Tryd.prog laid3 w) (fun _ _ _ hh h => h.of_heap hh) own started (by kernel_rfl) Tryd.func7
    (ChangeSpec.witness_shaped (enc := enc) (C := Tryd.checked) (os := os) (X := fun w _ => laidMetH Tryd.prog laid3 w) false (World.doorLaid Tryd.prog 400 os) #[.agg #[.int .i64 0, .float .f64 0, .string ⟨#[]⟩], .agg #[.int .i64 0, .float .f64 0, .string ⟨#[]⟩]] 8 rfl (World.shaped_of_RefB (by kernel_rfl) (by kernel_rfl)) (by kernel_rfl) (by kernel_rfl) (by kernel_rfl) (door_met os _)) ?_
  intro W base args ds gs before hval0 hW _ _ hL _
  have hval : ∀ (j : Nat) t v, Tryd.f7.params[j]? = some t → args[j]? = some v → Value.okWide Tryd.prog W .any base t v := hval0
  have hW' := hW
  obtain ⟨p, q, hA0, hV, rfl, hfz, hnd⟩ := hW
  have hA : DataW.TrodAll enc Tryd.prog W 0 (fun _ => true) true Tryd.f7.params.toList args.toList ds p := hA0
  rw [Tryd.params7] at hA hval
  obtain ⟨v0, v1, d0, d1, p0, p1, rfl, rfl, rfl, h0, h1⟩ := trodAll_two hA
  obtain ⟨rfl, rfl⟩ := trodVars_none hV
  clear hA0 hval0
  simp only [List.append_nil] at hW'
  have hlt : ∀ x ∈ p0 ++ p1, x.block < W.heap.size := fun x hx => hW'.lt x (by simpa using hx)
  have hT := tabs_of_laid hL
  have k0 := h0
  obtain ⟨x0, rfl, rfl, u0⟩ := open_val (hval 0 24 v0 rfl rfl) h0
  have k1 := h1
  obtain ⟨x1, rfl, rfl, u1⟩ := open_val (hval 1 24 v1 rfl rfl) h1
  refine Calls.mono (?walk : Calls _ _ _ _ fun e w' => e = .returned (.bool true) ∧ Below W.heap.size W w') fun e W' ⟨he, hw⟩ => ?_
  case walk =>
    exact datumAdds_walk W x0 u0 x1 u1 hT
  subst he
  exact ⟨_, rfl, post_of_below (pa := [] ++ []) (pv := []) hW' (fun _ _ _ => trodAll_mk1 (shut_bool Tryd.underlying4 _)) (fun sp hsp => trodAll_mk2 (WideElems.Trod_stays laidOut3 (by kernel_rfl) (of_decide_eq_true (by kernel_rfl)) k0 (fun x hx => hw.same (hlt x (by simp [hx]))) (fun x hx => hsp x (by simp [hx]))) (WideElems.Trod_stays laidOut3 (by kernel_rfl) (of_decide_eq_true (by kernel_rfl)) k1 (fun x hx => hw.same (hlt x (by simp [hx]))) (fun x hx => hsp x (by simp [hx])))) (fun _ _ => rfl) (by simp) hw (ok_one (by kernel_rfl) rfl (okWide_bool_mk Tryd.underlying4 _))⟩
theorem datumAdds_holds : Rows.DatumAddsSaid :=
  OpenClaim.holds_of_wide 7 Tryd.f7 rfl rfl rfl rfl rfl rfl rfl ⟨rfl, rfl, rfl, rfl, rfl⟩ rfl rfl rfl rfl rfl (by kernel_rfl) Tryd.func7 (by kernel_rfl)
    (of_decide_eq_true (by kernel_rfl)) (by unfold Func.isWrapper; first | (rw [if_pos (by decide +kernel)]; kernel_rfl) | (rw [if_neg (by decide +kernel)]; exact ⟨rfl, rfl⟩))
    (fun os started H enc _ => datumAdds_lifted os started H enc)
/-- THE TIED CARD. -/
theorem datumAdds_card : Rows.DatumAddsCardSaid :=
  Claim7.holds_tied_plain_at .later [] [.data, .data, .data] true (true, "e365411bd106a08e9233803ba0fe4dfaa9695e3b647a3ddff3aaff483a6e1884") false
    datumAdds_holds (fun _ h => by cases h) (by kernel_rfl) (fun _ h => by cases h) datumAdds_row_tie rfl ⟨rfl, rfl⟩ (by kernel_rfl) rfl
    (fun f fn hf hfn => by
      obtain rfl : f = 7 := Option.some.inj ((show Tryd.prog.funcNamed "headrace/racelaw3.DatumAdds" = some 7 by kernel_rfl).symm.trans hf) |>.symm
      obtain rfl : fn = Tryd.f7 := (Option.some.inj (Tryd.func7.symm.trans hfn)).symm
      exact ⟨by kernel_rfl, fun j t ht => by
        rw [Tryd.params7] at ht
        have hm : t ∈ [24, 24] := by simpa using Array.mem_of_getElem? ht
        have hall : ([24, 24].all fun u => !Tryd.prog.wantsStandIn u) = true := by kernel_rfl
        exact (show Tryd.prog.wantsStandIn t = false by simpa using List.all_eq_true.1 hall t hm)⟩)
    (by kernel_rfl)
#print axioms datumAdds_card
end Go.Proofs.YtjkfcmadoeifgaaDoor
