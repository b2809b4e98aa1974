/- For any two floats, num's sum, difference, product, quotient, least, most and order are the document's: racelaw1.NumReckons answers true and leaves its arguments as they were. Conditions: none beyond the row's own (the listed tables of Go's library, tied to the program's text). -/
import Derived.Test.YtjgbccadjgelbaaDoorRows
import Derived.Test.YtjgbccadjgelbaaDoorCards
import Derived.Test.YtjgbccadjgelbaaDoorTie
import Derived.Test.YtjgbccadjgelbaaDoorE
import Derived.Test.YtjgbccadjgelbaaDoorF
import Derived.Test.YtjgbccadjgelbaaDoorG
import Derived.Test.YtjgbccadjgelbaaDoorY
import Derived.Test.YtjgbccadjgelbaaDoorZ
import Derived.Test.YtjgbccadjgelbaaDoorHelp
import Derived.SevenTiedAt
namespace Go.Proofs.YtjgbccadjgelbaaDoor
open Go.ChangeShapes Go.WideShapes Go.ChangeAt Go.RowKit
set_option maxRecDepth 100000 in
set_option maxHeartbeats 800000 in
theorem numReckons_walk (a b : Nat) (ha : a < 18446744073709551616) (hb : b < 18446744073709551616) (w : World) (hT : Tabs w) :
    Calls Tryd.prog 4 #[.float .f64 a, .float .f64 b] w fun e w' => e = .returned (.bool true) ∧ Below w.heap.size w w' := by
  have HT := Lib.hid hT; clear hT
  have HA := Lib.hid ha; clear ha
  have HBB := Lib.hid hb; clear hb
  go_enter Tryd.func4, Tryd.ntmps4
  go_wp2_with (first
    | (go_at_call 15; refine (first_any _ HT.out).mono ?_; rintro e w1 ⟨rfl, hb1⟩; have HT1 := Lib.hid (HT.out.below hb1); have HB1 := Lib.hid hb1; clear hb1 HT)
    | (go_at_call 15; refine (first_any _ (tabs_drewN HT1.out _)).mono ?_; rintro e w2 ⟨rfl, hb2⟩; have HB2 := Lib.hid hb2; clear hb2)
    | (go_at_call 17; refine (same_yes _ _).mono ?_; rintro e w' ⟨rfl, rfl⟩)
    | (go_at_call 29; refine (add_any _ _ _).mono ?_; rintro e w' ⟨rfl, n, rfl⟩)
    | (go_at_call 31; refine (sub_any _ _ _).mono ?_; rintro e w' ⟨rfl, n, rfl⟩)
    | (go_at_call 32; refine (mul_any _ _ _).mono ?_; rintro e w' ⟨rfl, n, rfl⟩)
    | (go_at_call 33; refine (div_any _ _ _).mono ?_; rintro e w' ⟨rfl, n, rfl⟩)
    | (go_at_call 34; refine (least_any _ _ _ HA.out HBB.out).mono ?_; rintro e w' ⟨rfl, rfl⟩)
    | (go_at_call 35; refine (most_any _ _ _ HA.out HBB.out).mono ?_; rintro e w' ⟨rfl, rfl⟩)
    | (go_at_call 36; refine (compare_any _ _ _ HA.out HBB.out).mono ?_; rintro e w' ⟨rfl, rfl⟩)
    | (go_at_call 37; refine (rcompare_any _ _ _ HA.out HBB.out).mono ?_; rintro e w' ⟨rfl, rfl⟩)
    | (go_at_call 30; first
        | ((with_reducible refine (does0_any _ _ _).mono ?_); rintro e w' ⟨rfl, n, rfl⟩)
        | ((with_reducible refine (does1_any _ _ _).mono ?_); rintro e w' ⟨rfl, n, rfl⟩)
        | ((with_reducible refine (does2_any _ _ _).mono ?_); rintro e w' ⟨rfl, n, rfl⟩)
        | ((with_reducible refine (does3_any _ _ _).mono ?_); rintro e w' ⟨rfl, n, rfl⟩)
        | ((with_reducible refine (does4_any _ _ _ HA.out HBB.out).mono ?_); rintro e w' ⟨rfl, rfl⟩)
        | ((with_reducible refine (does5_any _ _ _ HA.out HBB.out).mono ?_); rintro e w' ⟨rfl, rfl⟩)))
  go_ret
  exact ⟨rfl, HB1.out.trans ((below_drewN (Below.refl _ _) _).trans (HB2.out.mono HB1.out.size))⟩

set_option maxRecDepth 100000 in
theorem numReckons_lifted (os : Os) (started : os.Started) (H : Type) (enc : TypeId × Value → H) :
    ReturnsInHanded {} Tryd.checked os 4 .any (fun w args => (Rows.numReckonsSpec.pre enc Tryd.prog Tryd.f4 [] false w args ∧ laidMetH Tryd.prog laid3 w) ∧ sizedMet enc Tryd.prog Tryd.f4 (OpenSpec.ofChange Rows.numReckonsSpec) false w args)
      (Rows.numReckonsSpec.post enc Tryd.prog Tryd.f4 false true false false) := by
  refine returnsInHanded_of_change_and (C := Tryd.checked) (X := fun w _ => laidMetH Tryd.prog laid3 w) (fun _ _ _ hh h => h.of_heap hh) own started (by kernel_rfl) Tryd.func4
    (ChangeSpec.witness_shaped (enc := enc) (C := Tryd.checked) (os := os) (X := fun w _ => laidMetH Tryd.prog laid3 w) false (World.doorLaid Tryd.prog 400 os) #[.float .f64 0, .float .f64 0] 8 rfl (World.shaped_of_RefB (by kernel_rfl) (by kernel_rfl)) (by kernel_rfl) (by kernel_rfl) (by kernel_rfl) (door_met os _)) ?_
  intro W base args ds gs before hval0 hW _ _ hL _
  have hval : ∀ (j : Nat) t v, Tryd.f4.params[j]? = some t → args[j]? = some v → Value.okWide Tryd.prog W .any base t v := hval0
  have hW' := hW
  obtain ⟨p, q, hA0, hV, rfl, hfz, hnd⟩ := hW
  have hA : DataW.TrodAll enc Tryd.prog W 0 (fun _ => true) true Tryd.f4.params.toList args.toList ds p := hA0
  rw [Tryd.params4] at hA hval
  obtain ⟨v0, v1, d0, d1, p0, p1, rfl, rfl, rfl, h0, h1⟩ := trodAll_two hA
  obtain ⟨n0, rfl, rfl, rfl, wf0⟩ := open_float Tryd.underlying23 (hval 0 23 v0 rfl rfl) h0
  obtain ⟨n1, rfl, rfl, rfl, wf1⟩ := open_float Tryd.underlying23 (hval 1 23 v1 rfl rfl) h1
  obtain ⟨rfl, rfl⟩ := trodVars_none hV
  clear hA0 hval0
  simp only [List.append_nil] at hW'
  have hT := tabs_of_laid hL
  have hwf0 := wf0
  simp [Lit.wf] at hwf0
  have hwf1 := wf1
  simp [Lit.wf] at hwf1
  refine (numReckons_walk n0 n1 (by omega) (by omega)  W hT).mono fun e W' ⟨he, hw⟩ => ?_
  subst he
  exact ⟨_, rfl, post_of_below (pa := []) (pv := []) hW' (fun _ _ _ => trodAll_mk1 (shut_bool Tryd.underlying4 _)) (fun sp _ => trodAll_mk2 (shut_float Tryd.underlying23 wf0) (shut_float Tryd.underlying23 wf1)) (fun _ _ => rfl) rfl hw (ok_one (by kernel_rfl) rfl (okWide_bool_mk Tryd.underlying4 _))⟩

theorem numReckons_holds : Rows.NumReckonsSaid :=
  OpenClaim.holds_of_wide 4 Tryd.f4 rfl rfl rfl rfl rfl rfl rfl ⟨rfl, rfl, rfl, rfl, rfl⟩ rfl rfl rfl rfl rfl (by kernel_rfl) Tryd.func4 (by kernel_rfl)
    (of_decide_eq_true (by kernel_rfl)) (by unfold Func.isWrapper; first | (rw [if_pos (by decide +kernel)]; kernel_rfl) | (rw [if_neg (by decide +kernel)]; exact ⟨rfl, rfl⟩))
    (fun os started H enc _ => numReckons_lifted os started H enc)
/-- THE TIED CARD. -/
theorem numReckons_card : Rows.NumReckonsCardSaid :=
  Claim7.holds_tied_plain_at .later [] [.data, .data, .data] true (true, "263a68124a9ec9e14e3c232618efbe301a45d4cac9ae9d43003c9ae83addfa09") false
    numReckons_holds (fun _ h => by cases h) (by kernel_rfl) (fun _ h => by cases h) numReckons_row_tie rfl ⟨rfl, rfl⟩ (by kernel_rfl) rfl
    (fun f fn hf hfn => by
      obtain rfl : f = 4 := Option.some.inj ((show Tryd.prog.funcNamed "headrace/racelaw1.NumReckons" = some 4 by kernel_rfl).symm.trans hf) |>.symm
      obtain rfl : fn = Tryd.f4 := (Option.some.inj (Tryd.func4.symm.trans hfn)).symm
      exact ⟨by kernel_rfl, fun j t ht => by
        rw [Tryd.params4] at ht
        have hm : t ∈ [23, 23] := by simpa using Array.mem_of_getElem? ht
        have hall : ([23, 23].all fun u => !Tryd.prog.wantsStandIn u) = true := by kernel_rfl
        exact (show Tryd.prog.wantsStandIn t = false by simpa using List.all_eq_true.1 hall t hm)⟩)
    (by kernel_rfl)
#print axioms numReckons_card
end Go.Proofs.YtjgbccadjgelbaaDoor
