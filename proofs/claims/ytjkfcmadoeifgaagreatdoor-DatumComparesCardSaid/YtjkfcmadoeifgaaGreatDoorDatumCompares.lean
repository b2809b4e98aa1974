/- Any two values in order, the same, and added, as the document has it: racelaw3.DatumCompares answers true and leaves its arguments as they were. Conditions: the library's tables hold what their initialisers lay. -/
import Derived.Test.YtjkfcmadoeifgaaGreatDoorCs
import Derived.Test.YtjkfcmadoeifgaaGreatDoorFj
import Derived.Test.YtjkfcmadoeifgaaGreatDoorAg
import Derived.Deep.RegionHeld
import Derived.Test.YtjkfcmadoeifgaaGreatDoorCards
import Derived.Test.YtjkfcmadoeifgaaGreatDoorTie
namespace Go.Proofs.YtjkfcmadoeifgaaGreatDoor
open Go.ChangeShapes Go.WideShapes Go.ChangeAt Go.RowKit
set_option maxRecDepth 100000 in
theorem comps_first1 (w : World) (ak : Int) (ax : Nat) (asx : List UInt8) (bk : Int) (bx : Nat) (bs : List UInt8) (hT : Tabs w) (h1 : 2000 < asx.length) :
    Calls Tryz.prog 3 #[vagg ⟨ak, ax, asx⟩, vagg ⟨bk, bx, bs⟩] w fun e w' => e = .returned (.bool true) ∧ Below w.heap.size w w' := by
  have HW := Lib.hid (below2 w (vobj ⟨ak, ax, asx⟩) (vobj ⟨bk, bx, bs⟩))
  have HA := Lib.hid (at_two w ⟨ak, ax, asx⟩ ⟨bk, bx, bs⟩).1
  have HB := Lib.hid (at_two w ⟨ak, ax, asx⟩ ⟨bk, bx, bs⟩).2
  have HT := Lib.hid hT
  have HS1 := fun w => Lib.hid (small_any ⟨ak, ax, asx⟩ w)
  have HS2 := fun w => Lib.hid (small_any ⟨bk, bx, bs⟩ w)
  rw [decide_eq_false (by simp only; omega)] at HS1
  clear hT h1
  go_enter Tryz.func3, Tryz.ntmps3
  go_wp2_with (first
    | (go_at_call 6; with_reducible refine (first_ex _ (HT.out.below HW.out)).mono ?_; rintro e w1 ⟨rfl, hb⟩; have HA := Lib.hid (HA.out.below hb HA.out.lt); have A0 := HA.out.c0; have A1 := HA.out.c1; have A2 := HA.out.c2; dsimp only at A0 A1 A2; have HB := Lib.hid (HB.out.below hb HB.out.lt); have B0 := HB.out.c0; have B1 := HB.out.c1; have B2 := HB.out.c2; dsimp only at B0 B1 B2; have HW := Lib.hid (HW.out.trans (hb.mono HW.out.size)); clear hb)
    | (go_at_call 7; with_reducible refine ((HS1 _).out).mono ?_; rintro e w1 ⟨rfl, hb⟩; have HA := Lib.hid (HA.out.below hb HA.out.lt); have A0 := HA.out.c0; have A1 := HA.out.c1; have A2 := HA.out.c2; dsimp only at A0 A1 A2; have HB := Lib.hid (HB.out.below hb HB.out.lt); have B0 := HB.out.c0; have B1 := HB.out.c1; have B2 := HB.out.c2; dsimp only at B0 B1 B2; have HW := Lib.hid (HW.out.trans (hb.mono HW.out.size)); clear hb)
    | (go_at_call 7; with_reducible refine ((HS2 _).out).mono ?_; rintro e w1 ⟨rfl, hb⟩; have HA := Lib.hid (HA.out.below hb HA.out.lt); have A0 := HA.out.c0; have A1 := HA.out.c1; have A2 := HA.out.c2; dsimp only at A0 A1 A2; have HB := Lib.hid (HB.out.below hb HB.out.lt); have B0 := HB.out.c0; have B1 := HB.out.c1; have B2 := HB.out.c2; dsimp only at B0 B1 B2; have HW := Lib.hid (HW.out.trans (hb.mono HW.out.size)); clear hb))
  go_ret
  exact ⟨rfl, HW.out⟩
set_option maxRecDepth 100000 in
theorem comps_first2 (w : World) (ak : Int) (ax : Nat) (asx : List UInt8) (bk : Int) (bx : Nat) (bs : List UInt8) (hT : Tabs w) (h1 : asx.length ≤ 2000) (h2 : 2000 < bs.length) :
    Calls Tryz.prog 3 #[vagg ⟨ak, ax, asx⟩, vagg ⟨bk, bx, bs⟩] w fun e w' => e = .returned (.bool true) ∧ Below w.heap.size w w' := by
  have HW := Lib.hid (below2 w (vobj ⟨ak, ax, asx⟩) (vobj ⟨bk, bx, bs⟩))
  have HA := Lib.hid (at_two w ⟨ak, ax, asx⟩ ⟨bk, bx, bs⟩).1
  have HB := Lib.hid (at_two w ⟨ak, ax, asx⟩ ⟨bk, bx, bs⟩).2
  have HT := Lib.hid hT
  have HS1 := fun w => Lib.hid (small_any ⟨ak, ax, asx⟩ w)
  have HS2 := fun w => Lib.hid (small_any ⟨bk, bx, bs⟩ w)
  rw [decide_eq_true (by simp only; omega)] at HS1
  rw [decide_eq_false (by simp only; omega)] at HS2
  clear hT h1 h2
  go_enter Tryz.func3, Tryz.ntmps3
  go_wp2_with (first
    | (go_at_call 6; with_reducible refine (first_ex _ (HT.out.below HW.out)).mono ?_; rintro e w1 ⟨rfl, hb⟩; have HA := Lib.hid (HA.out.below hb HA.out.lt); have A0 := HA.out.c0; have A1 := HA.out.c1; have A2 := HA.out.c2; dsimp only at A0 A1 A2; have HB := Lib.hid (HB.out.below hb HB.out.lt); have B0 := HB.out.c0; have B1 := HB.out.c1; have B2 := HB.out.c2; dsimp only at B0 B1 B2; have HW := Lib.hid (HW.out.trans (hb.mono HW.out.size)); clear hb)
    | (go_at_call 7; with_reducible refine ((HS1 _).out).mono ?_; rintro e w1 ⟨rfl, hb⟩; have HA := Lib.hid (HA.out.below hb HA.out.lt); have A0 := HA.out.c0; have A1 := HA.out.c1; have A2 := HA.out.c2; dsimp only at A0 A1 A2; have HB := Lib.hid (HB.out.below hb HB.out.lt); have B0 := HB.out.c0; have B1 := HB.out.c1; have B2 := HB.out.c2; dsimp only at B0 B1 B2; have HW := Lib.hid (HW.out.trans (hb.mono HW.out.size)); clear hb)
    | (go_at_call 7; with_reducible refine ((HS2 _).out).mono ?_; rintro e w1 ⟨rfl, hb⟩; have HA := Lib.hid (HA.out.below hb HA.out.lt); have A0 := HA.out.c0; have A1 := HA.out.c1; have A2 := HA.out.c2; dsimp only at A0 A1 A2; have HB := Lib.hid (HB.out.below hb HB.out.lt); have B0 := HB.out.c0; have B1 := HB.out.c1; have B2 := HB.out.c2; dsimp only at B0 B1 B2; have HW := Lib.hid (HW.out.trans (hb.mono HW.out.size)); clear hb))
  go_ret
  exact ⟨rfl, HW.out⟩
set_option maxRecDepth 100000 in
set_option maxHeartbeats 8000000 in
theorem comps_some (w : World) (ak : Int) (ax : Nat) (asx : List UInt8) (bk : Int) (bx : Nat) (bs : List UInt8) (hT : Tabs w) (h1 : asx.length ≤ 2000) (h2 : bs.length ≤ 2000) (ua : (⟨ak, ax, asx⟩ : DV).wf) (ub : (⟨bk, bx, bs⟩ : DV).wf) :
    Calls Tryz.prog 3 #[vagg ⟨ak, ax, asx⟩, vagg ⟨bk, bx, bs⟩] w fun e w' => e = .returned (.bool true) ∧ Below w.heap.size w w' := by
  have HW := Lib.hid (below2 w (vobj ⟨ak, ax, asx⟩) (vobj ⟨bk, bx, bs⟩))
  have HA := Lib.hid (at_two w ⟨ak, ax, asx⟩ ⟨bk, bx, bs⟩).1
  have HB := Lib.hid (at_two w ⟨ak, ax, asx⟩ ⟨bk, bx, bs⟩).2
  have HT := Lib.hid hT
  have HS1 := fun w => Lib.hid (small_any ⟨ak, ax, asx⟩ w)
  have HS2 := fun w => Lib.hid (small_any ⟨bk, bx, bs⟩ w)
  rw [decide_eq_true (by simp only; omega)] at HS1 HS2
  have hst := run_stf
  have HP1 := fun w => Lib.hid (plus_any ⟨ak, ax, asx⟩ ⟨bk, bx, bs⟩ w)
  have HP2 := fun w => Lib.hid (rplus_any ⟨ak, ax, asx⟩ ⟨bk, bx, bs⟩ w)
  have HC1 := fun w => Lib.hid (vcompare_any ⟨ak, ax, asx⟩ ⟨bk, bx, bs⟩ ua ub w)
  have HC2 := fun w => Lib.hid (vrcompare_any ⟨ak, ax, asx⟩ ⟨bk, bx, bs⟩ ua ub w)
  have HE1 := fun w => Lib.hid (vsame_any ⟨ak, ax, asx⟩ ⟨bk, bx, bs⟩ ua ub w)
  have HE2 := fun w => Lib.hid (vrsame_any ⟨ak, ax, asx⟩ ⟨bk, bx, bs⟩ ua ub w)
  generalize plusV ⟨ak, ax, asx⟩ ⟨bk, bx, bs⟩ = R at *
  generalize compV ⟨ak, ax, asx⟩ ⟨bk, bx, bs⟩ = cn at *
  generalize sameB ⟨ak, ax, asx⟩ ⟨bk, bx, bs⟩ = sb at *
  obtain ⟨⟨pk, px, ps⟩, pn⟩ := R
  have HV := fun w => Lib.hid (value_any ⟨pk, px, ps⟩ ⟨pk, px, ps⟩ w)
  rw [sameV_self] at HV
  simp only at HP1 HP2
  have e1 : (cn == cn) = true := beq_self_eq_true _
  have e2 : (sb == sb) = true := beq_self_eq_true _
  have e3 : (pn == pn) = true := beq_self_eq_true _
  clear hT h1 h2 ua ub
  go_enter Tryz.func3, Tryz.ntmps3
  go_wp2_with (first
    | (go_at_call 6; with_reducible refine (first_ex _ (HT.out.below HW.out)).mono ?_; rintro e w1 ⟨rfl, hb⟩; have HA := Lib.hid (HA.out.below hb HA.out.lt); have A0 := HA.out.c0; have A1 := HA.out.c1; have A2 := HA.out.c2; dsimp only at A0 A1 A2; have HB := Lib.hid (HB.out.below hb HB.out.lt); have B0 := HB.out.c0; have B1 := HB.out.c1; have B2 := HB.out.c2; dsimp only at B0 B1 B2; have HW := Lib.hid (HW.out.trans (hb.mono HW.out.size)); clear hb)
    | (go_at_call 7; with_reducible refine ((HS1 _).out).mono ?_; rintro e w1 ⟨rfl, hb⟩; have HA := Lib.hid (HA.out.below hb HA.out.lt); have A0 := HA.out.c0; have A1 := HA.out.c1; have A2 := HA.out.c2; dsimp only at A0 A1 A2; have HB := Lib.hid (HB.out.below hb HB.out.lt); have B0 := HB.out.c0; have B1 := HB.out.c1; have B2 := HB.out.c2; dsimp only at B0 B1 B2; have HW := Lib.hid (HW.out.trans (hb.mono HW.out.size)); clear hb)
    | (go_at_call 7; with_reducible refine ((HS2 _).out).mono ?_; rintro e w1 ⟨rfl, hb⟩; have HA := Lib.hid (HA.out.below hb HA.out.lt); have A0 := HA.out.c0; have A1 := HA.out.c1; have A2 := HA.out.c2; dsimp only at A0 A1 A2; have HB := Lib.hid (HB.out.below hb HB.out.lt); have B0 := HB.out.c0; have B1 := HB.out.c1; have B2 := HB.out.c2; dsimp only at B0 B1 B2; have HW := Lib.hid (HW.out.trans (hb.mono HW.out.size)); clear hb)
    | (go_at_call 8; with_reducible refine (HP1 _).out.mono ?_; rintro e w4 ⟨rfl, hb⟩; have HA := Lib.hid (HA.out.below hb HA.out.lt); have HA := Lib.hid (HA.out.alloc (vobj ⟨pk, px, ps⟩)); have A0 := HA.out.c0; have A1 := HA.out.c1; have A2 := HA.out.c2; simp only [vobj] at A0 A1 A2; have HB := Lib.hid (HB.out.below hb HB.out.lt); have HB := Lib.hid (HB.out.alloc (vobj ⟨pk, px, ps⟩)); have B0 := HB.out.c0; have B1 := HB.out.c1; have B2 := HB.out.c2; simp only [vobj] at B0 B1 B2; have HW := Lib.hid (HW.out.trans (hb.mono HW.out.size)); have HP := Lib.hid (at_new w4 ⟨pk, px, ps⟩); have HW := Lib.hid (HW.out.alloc HW.out.size (vobj ⟨pk, px, ps⟩)); clear hb)
    | (go_at_call 9; with_reducible refine (HP2 _).out.mono ?_; rintro e w5 ⟨rfl, hb⟩; have HA := Lib.hid (HA.out.below hb HA.out.lt); have HA := Lib.hid (HA.out.alloc (vobj ⟨pk, px, ps⟩)); have A0 := HA.out.c0; have A1 := HA.out.c1; have A2 := HA.out.c2; simp only [vobj] at A0 A1 A2; have HB := Lib.hid (HB.out.below hb HB.out.lt); have HB := Lib.hid (HB.out.alloc (vobj ⟨pk, px, ps⟩)); have B0 := HB.out.c0; have B1 := HB.out.c1; have B2 := HB.out.c2; simp only [vobj] at B0 B1 B2; have HP := Lib.hid (HP.out.below hb HP.out.lt); have HP := Lib.hid (HP.out.alloc (vobj ⟨pk, px, ps⟩)); have P0 := HP.out.c0; have P1 := HP.out.c1; have P2 := HP.out.c2; simp only [vobj] at P0 P1 P2; have HW := Lib.hid (HW.out.trans (hb.mono HW.out.size)); have HQ := Lib.hid (at_new w5 ⟨pk, px, ps⟩); have HW := Lib.hid (HW.out.alloc HW.out.size (vobj ⟨pk, px, ps⟩)); clear hb))
  have HW := Lib.hid (HW.out.drew)
  have HA := Lib.hid (HA.out.below (Below.refl _ _).drew HA.out.lt)
  have HB := Lib.hid (HB.out.below (Below.refl _ _).drew HB.out.lt)
  have HP := Lib.hid (HP.out.below (Below.refl _ _).drew HP.out.lt)
  have HQ := Lib.hid (HQ.out.below (Below.refl _ _).drew HQ.out.lt)
  go_region_held (fun w' => w'.cell? ⟨w.heap.size, 0, none⟩ = some (.int .i64 ak) ∧ w'.cell? ⟨w.heap.size, 1, none⟩ = some (.float .f64 ax) ∧ w'.cell? ⟨w.heap.size, 2, none⟩ = some (.string ⟨asx.toArray⟩) ∧ w'.cell? ⟨w.heap.size + 1, 0, none⟩ = some (.int .i64 bk) ∧ w'.cell? ⟨w.heap.size + 1, 1, none⟩ = some (.float .f64 bx) ∧ w'.cell? ⟨w.heap.size + 1, 2, none⟩ = some (.string ⟨bs.toArray⟩) ∧ w'.cell? ⟨w4.heap.size, 0, none⟩ = some (.int .i64 pk) ∧ w'.cell? ⟨w4.heap.size, 1, none⟩ = some (.float .f64 px) ∧ w'.cell? ⟨w4.heap.size, 2, none⟩ = some (.string ⟨ps.toArray⟩) ∧ w'.cell? ⟨w5.heap.size, 0, none⟩ = some (.int .i64 pk) ∧ w'.cell? ⟨w5.heap.size, 1, none⟩ = some (.float .f64 px) ∧ w'.cell? ⟨w5.heap.size, 2, none⟩ = some (.string ⟨ps.toArray⟩)) (exact ⟨HA.out.c0, HA.out.c1, HA.out.c2, HB.out.c0, HB.out.c1, HB.out.c2, HP.out.c0, HP.out.c1, HP.out.c2, HQ.out.c0, HQ.out.c1, HQ.out.c2⟩) (first
    | (go_at_call 6; with_reducible refine (first_ex _ (HT.out.below HW.out)).mono ?_; rintro e w6 ⟨rfl, hb⟩; have HA := Lib.hid (HA.out.below hb HA.out.lt); have HB := Lib.hid (HB.out.below hb HB.out.lt); have HP := Lib.hid (HP.out.below hb HP.out.lt); have HQ := Lib.hid (HQ.out.below hb HQ.out.lt); have HW := Lib.hid (HW.out.trans (hb.mono HW.out.size)); clear hb)
    | (go_at_call 10; with_reducible refine ((HC1 _).out).mono ?_; rintro e w6 ⟨rfl, hb⟩; have HA := Lib.hid (HA.out.below hb HA.out.lt); have HB := Lib.hid (HB.out.below hb HB.out.lt); have HP := Lib.hid (HP.out.below hb HP.out.lt); have HQ := Lib.hid (HQ.out.below hb HQ.out.lt); have HW := Lib.hid (HW.out.trans (hb.mono HW.out.size)); clear hb)
    | (go_at_call 11; with_reducible refine ((HC2 _).out).mono ?_; rintro e w6 ⟨rfl, hb⟩; have HA := Lib.hid (HA.out.below hb HA.out.lt); have HB := Lib.hid (HB.out.below hb HB.out.lt); have HP := Lib.hid (HP.out.below hb HP.out.lt); have HQ := Lib.hid (HQ.out.below hb HQ.out.lt); have HW := Lib.hid (HW.out.trans (hb.mono HW.out.size)); clear hb)
    | (go_at_call 12; with_reducible refine ((HE1 _).out).mono ?_; rintro e w6 ⟨rfl, hb⟩; have HA := Lib.hid (HA.out.below hb HA.out.lt); have HB := Lib.hid (HB.out.below hb HB.out.lt); have HP := Lib.hid (HP.out.below hb HP.out.lt); have HQ := Lib.hid (HQ.out.below hb HQ.out.lt); have HW := Lib.hid (HW.out.trans (hb.mono HW.out.size)); clear hb)
    | (go_at_call 13; with_reducible refine ((HE2 _).out).mono ?_; rintro e w6 ⟨rfl, hb⟩; have HA := Lib.hid (HA.out.below hb HA.out.lt); have HB := Lib.hid (HB.out.below hb HB.out.lt); have HP := Lib.hid (HP.out.below hb HP.out.lt); have HQ := Lib.hid (HQ.out.below hb HQ.out.lt); have HW := Lib.hid (HW.out.trans (hb.mono HW.out.size)); clear hb)
    | (go_at_call 14; with_reducible refine ((HV _).out).mono ?_; rintro e w6 ⟨rfl, hb⟩; have HA := Lib.hid (HA.out.below hb HA.out.lt); have HB := Lib.hid (HB.out.below hb HB.out.lt); have HP := Lib.hid (HP.out.below hb HP.out.lt); have HQ := Lib.hid (HQ.out.below hb HQ.out.lt); have HW := Lib.hid (HW.out.trans (hb.mono HW.out.size)); clear hb))
  all_goals go_wp2
  all_goals go_ret
  all_goals exact ⟨rfl, HW.out⟩
theorem datumCompares_walk (w : World) (a : DV) (ua : a.wf) (b : DV) (ub : b.wf) (hT : Tabs w) :
    Calls Tryz.prog 3 #[vagg a, vagg b] w fun e w' => e = .returned (.bool true) ∧ Below w.heap.size w w' := by
  obtain ⟨ak, ax, asx⟩ := a
  obtain ⟨bk, bx, bs⟩ := b
  rcases Nat.lt_or_ge 2000 asx.length with ha | ha
  · exact comps_first1 w ak ax asx bk bx bs hT ha
  rcases Nat.lt_or_ge 2000 bs.length with hb | hb
  · exact comps_first2 w ak ax asx bk bx bs hT ha hb
  exact comps_some w ak ax asx bk bx bs hT ha hb ua ub

set_option maxRecDepth 100000 in
theorem datumCompares_lifted (os : Os) (started : os.Started) (H : Type) (enc : TypeId × Value → H) :
    ReturnsInHanded {} Tryz.checked os 3 .any (fun w args => (Rows.datumComparesSpec.pre enc Tryz.prog Tryz.f3 [] false w args ∧ laidMetH Tryz.prog laid3 w) ∧ sizedMet enc Tryz.prog Tryz.f3 (OpenSpec.ofChange Rows.datumComparesSpec) false w args)
      (Rows.datumComparesSpec.post enc Tryz.prog Tryz.f3 false true false false) := by
  refine returnsInHanded_of_change_and (C := Tryz.checked) (X := fun w _ => laidMetH Tryz.prog laid3 w) (fun _ _ _ hh h => h.of_heap hh) own started (by kernel_rfl) Tryz.func3
    (ChangeSpec.witness_shaped (enc := enc) (C := Tryz.checked) (os := os) (X := fun w _ => laidMetH Tryz.prog laid3 w) false (World.doorLaid Tryz.prog 400 os) #[.agg #[.int .i64 0, .float .f64 0, .string ⟨#[]⟩], .agg #[.int .i64 0, .float .f64 0, .string ⟨#[]⟩]] 8 rfl (World.shaped_of_RefB (by kernel_rfl) (by kernel_rfl)) (by kernel_rfl) (by kernel_rfl) (by kernel_rfl) (door_met os _)) ?_
  intro W base args ds gs before hval0 hW _ _ hL _
  have hval : ∀ (j : Nat) t v, Tryz.f3.params[j]? = some t → args[j]? = some v → Value.okWide Tryz.prog W .any base t v := hval0
  have hW' := hW
  obtain ⟨p, q, hA0, hV, rfl, hfz, hnd⟩ := hW
  have hA : DataW.TrodAll enc Tryz.prog W 0 (fun _ => true) true Tryz.f3.params.toList args.toList ds p := hA0
  rw [Tryz.params3] at hA hval
  obtain ⟨v0, v1, d0, d1, p0, p1, rfl, rfl, rfl, h0, h1⟩ := trodAll_two hA
  obtain ⟨rfl, rfl⟩ := trodVars_none hV
  clear hA0 hval0
  simp only [List.append_nil] at hW'
  have hlt : ∀ x ∈ p0 ++ p1, x.block < W.heap.size := fun x hx => hW'.lt x (by simpa using hx)
  have hT := tabs_of_laid hL
  have k0 := h0
  obtain ⟨x0, rfl, rfl, u0⟩ := open_val (hval 0 24 v0 rfl rfl) h0
  have k1 := h1
  obtain ⟨x1, rfl, rfl, u1⟩ := open_val (hval 1 24 v1 rfl rfl) h1
  refine Calls.mono (?walk : Calls _ _ _ _ fun e w' => e = .returned (.bool true) ∧ Below W.heap.size W w') fun e W' ⟨he, hw⟩ => ?_
  case walk =>
    exact datumCompares_walk W x0 u0 x1 u1 hT
  subst he
  exact ⟨_, rfl, post_of_below (pa := [] ++ []) (pv := []) hW' (fun _ _ _ => trodAll_mk1 (shut_bool Tryz.underlying4 _)) (fun sp hsp => trodAll_mk2 (WideElems.Trod_stays laidOut3 (by kernel_rfl) (of_decide_eq_true (by kernel_rfl)) k0 (fun x hx => hw.same (hlt x (by simp [hx]))) (fun x hx => hsp x (by simp [hx]))) (WideElems.Trod_stays laidOut3 (by kernel_rfl) (of_decide_eq_true (by kernel_rfl)) k1 (fun x hx => hw.same (hlt x (by simp [hx]))) (fun x hx => hsp x (by simp [hx])))) (fun _ _ => rfl) (by simp) hw (ok_one (by kernel_rfl) rfl (okWide_bool_mk Tryz.underlying4 _))⟩
theorem datumCompares_holds : Rows.DatumComparesSaid :=
  OpenClaim.holds_of_wide 3 Tryz.f3 rfl rfl rfl rfl rfl rfl rfl ⟨rfl, rfl, rfl, rfl, rfl⟩ rfl rfl rfl rfl rfl (by kernel_rfl) Tryz.func3 (by kernel_rfl)
    (of_decide_eq_true (by kernel_rfl)) (by unfold Func.isWrapper; first | (rw [if_pos (by decide +kernel)]; kernel_rfl) | (rw [if_neg (by decide +kernel)]; exact ⟨rfl, rfl⟩))
    (fun os started H enc _ => datumCompares_lifted os started H enc)
/-- THE TIED CARD. -/
theorem datumCompares_card : Rows.DatumComparesCardSaid :=
  Claim7.holds_tied_plain_at .later [] [.data, .data, .data] true (true, "ad566913e74d85a7beddde3228583cfa7c9eda3ab28821132b9a3e8e5ad2af56") false
    datumCompares_holds (fun _ h => by cases h) (by kernel_rfl) (fun _ h => by cases h) datumCompares_row_tie rfl ⟨rfl, rfl⟩ (by kernel_rfl) rfl
    (fun f fn hf hfn => by
      obtain rfl : f = 3 := Option.some.inj ((show Tryz.prog.funcNamed "headrace/racelaw3.DatumCompares" = some 3 by kernel_rfl).symm.trans hf) |>.symm
      obtain rfl : fn = Tryz.f3 := (Option.some.inj (Tryz.func3.symm.trans hfn)).symm
      exact ⟨by kernel_rfl, fun j t ht => by
        rw [Tryz.params3] at ht
        have hm : t ∈ [24, 24] := by simpa using Array.mem_of_getElem? ht
        have hall : ([24, 24].all fun u => !Tryz.prog.wantsStandIn u) = true := by kernel_rfl
        exact (show Tryz.prog.wantsStandIn t = false by simpa using List.all_eq_true.1 hall t hm)⟩)
    (by kernel_rfl)
#print axioms datumCompares_card
end Go.Proofs.YtjkfcmadoeifgaaGreatDoor
