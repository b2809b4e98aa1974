/- For all ranks and any float, between the floats of two ranks that follow each other there is none, and both lead back: racelaw1.NumNext answers true and leaves its arguments as they were. Conditions: none beyond the row's own (the listed tables of Go's library, tied to the program's text). -/
import Derived.Test.YtjgbccadjgelbaaDoorRows
import Derived.Test.YtjgbccadjgelbaaDoorCards
import Derived.Test.YtjgbccadjgelbaaDoorTie
import Derived.Test.YtjgbccadjgelbaaDoorE
import Derived.Test.YtjgbccadjgelbaaDoorF
import Derived.Test.YtjgbccadjgelbaaDoorG
import Derived.Test.YtjgbccadjgelbaaDoorY
import Derived.Test.YtjgbccadjgelbaaDoorZ
import Derived.Test.YtjgbccadjgelbaaDoorHelp
import Derived.SevenTiedAt
namespace Go.Proofs.YtjgbccadjgelbaaDoor
open Go.ChangeShapes Go.WideShapes Go.ChangeAt Go.RowKit
set_option maxRecDepth 100000 in
set_option maxHeartbeats 800000 in
theorem numNext_top (r x a : Nat) (hr : r < 18446744073709551616) (hx : x < 18446744073709551616) (HBR : Hid (backN r = a)) (htop : ((r : Int) == 18446744073709551615) = true) (w : World) (hT : Tabs w) :
    Calls Tryd.prog 12 #[.int .u64 (r : Int), .float .f64 x] w fun e w' => e = .returned (.bool true) ∧ Below w.heap.size w w' := by
  have HT := Lib.hid hT; clear hT
  have HR := Lib.hid hr; clear hr
  have HX := Lib.hid hx; clear hx
  go_enter Tryd.func12, Tryd.ntmps12
  go_wp2_with (first
    | (go_at_call 15; refine (first_any _ HT.out).mono ?_; rintro e w1 ⟨rfl, hb1⟩; have HT1 := Lib.hid (HT.out.below hb1); have HB1 := Lib.hid hb1; clear hb1 HT)
    | (go_at_call 15; refine (first_any _ HT1.out).mono ?_; rintro e w2 ⟨rfl, hb2⟩; have HB2 := Lib.hid hb2; clear hb2)
    | (go_at_call 27; ((with_reducible refine (back_is r a HBR.out HR.out _).mono ?_)); rintro e w' ⟨rfl, rfl⟩))
  go_ret
  exact ⟨by first | rfl | (refine ret_b ?_; simp; omega), HB1.out.trans (HB2.out.mono HB1.out.size)⟩
set_option maxRecDepth 100000 in
set_option maxHeartbeats 800000 in
theorem numNext_apart (r x a ra : Nat) (hr : r < 18446744073709551616) (hx : x < 18446744073709551616) (HBR : Hid (backN r = a)) (HA : Hid (a < 18446744073709551616)) (HRA : Hid (rankN a = ra)) (htop : ((r : Int) == 18446744073709551615) = false) (hne : ((ra : Int) != (r : Int)) = true) (w : World) (hT : Tabs w) :
    Calls Tryd.prog 12 #[.int .u64 (r : Int), .float .f64 x] w fun e w' => e = .returned (.bool true) ∧ Below w.heap.size w w' := by
  have HT := Lib.hid hT; clear hT
  have HR := Lib.hid hr; clear hr
  have HX := Lib.hid hx; clear hx
  go_enter Tryd.func12, Tryd.ntmps12
  go_wp2_with (first
    | (go_at_call 15; refine (first_any _ HT.out).mono ?_; rintro e w1 ⟨rfl, hb1⟩; have HT1 := Lib.hid (HT.out.below hb1); have HB1 := Lib.hid hb1; clear hb1 HT)
    | (go_at_call 15; refine (first_any _ HT1.out).mono ?_; rintro e w2 ⟨rfl, hb2⟩; have HB2 := Lib.hid hb2; clear hb2)
    | (go_at_call 27; ((with_reducible refine (back_is r a HBR.out HR.out _).mono ?_)); rintro e w' ⟨rfl, rfl⟩)
    | (go_at_call 25; ((with_reducible refine (rank_is a ra HRA.out HA.out _).mono ?_)); rintro e w' ⟨rfl, rfl⟩))
  go_ret
  exact ⟨by first | rfl | (refine ret_b ?_; simp; omega), HB1.out.trans (HB2.out.mono HB1.out.size)⟩
set_option maxRecDepth 100000 in
set_option maxHeartbeats 800000 in
theorem numNext_apart2 (r x a r1 b rb : Nat) (hr : r < 18446744073709551616) (hx : x < 18446744073709551616) (HBR : Hid (backN r = a)) (HA : Hid (a < 18446744073709551616)) (HRA : Hid (rankN a = r)) (HR1 : Hid (r1 < 18446744073709551616)) (HBR1 : Hid (backN r1 = b)) (HBL : Hid (b < 18446744073709551616)) (HRB : Hid (rankN b = rb)) (htop : ((r : Int) == 18446744073709551615) = false) (hinc : IntKind.u64.wrap ((r : Int) + 1) = (r1 : Int)) (hne : ((rb : Int) != (r1 : Int)) = true) (w : World) (hT : Tabs w) :
    Calls Tryd.prog 12 #[.int .u64 (r : Int), .float .f64 x] w fun e w' => e = .returned (.bool true) ∧ Below w.heap.size w w' := by
  have HT := Lib.hid hT; clear hT
  have HR := Lib.hid hr; clear hr
  have HX := Lib.hid hx; clear hx
  go_enter Tryd.func12, Tryd.ntmps12
  go_wp2_with (first
    | (go_at_call 15; refine (first_any _ HT.out).mono ?_; rintro e w1 ⟨rfl, hb1⟩; have HT1 := Lib.hid (HT.out.below hb1); have HB1 := Lib.hid hb1; clear hb1 HT)
    | (go_at_call 15; refine (first_any _ HT1.out).mono ?_; rintro e w2 ⟨rfl, hb2⟩; have HB2 := Lib.hid hb2; clear hb2)
    | (go_at_call 27; ((with_reducible refine (back_is r a HBR.out HR.out _).mono ?_)); rintro e w' ⟨rfl, rfl⟩)
    | (go_at_call 27; ((with_reducible refine (back_is r1 b HBR1.out HR1.out _).mono ?_)); rintro e w' ⟨rfl, rfl⟩)
    | (go_at_call 25; ((with_reducible refine (rank_is a r HRA.out HA.out _).mono ?_)); rintro e w' ⟨rfl, rfl⟩)
    | (go_at_call 25; ((with_reducible refine (rank_is b rb HRB.out HBL.out _).mono ?_)); rintro e w' ⟨rfl, rfl⟩))
  go_ret
  exact ⟨by first | rfl | (refine ret_b ?_; simp; omega), HB1.out.trans (HB2.out.mono HB1.out.size)⟩
set_option maxRecDepth 100000 in
set_option maxHeartbeats 800000 in
theorem numNext_below (r x a r1 b : Nat) (y z : Int) (hr : r < 18446744073709551616) (hx : x < 18446744073709551616) (HBR : Hid (backN r = a)) (HA : Hid (a < 18446744073709551616)) (HRA : Hid (rankN a = r)) (HR1 : Hid (r1 < 18446744073709551616)) (HBR1 : Hid (backN r1 = b)) (HBL : Hid (b < 18446744073709551616)) (HRB : Hid (rankN b = r1)) (htop : ((r : Int) == 18446744073709551615) = false) (hinc : IntKind.u64.wrap ((r : Int) + 1) = (r1 : Int)) (HAB : Hid (cmpN (rankN a) (rankN b) = -1)) (HAX : Hid (cmpN (rankN a) (rankN x) = y)) (_HXB : Hid (cmpN (rankN x) (rankN b) = z)) (hy : 0 ≤ y) (w : World) (hT : Tabs w) :
    Calls Tryd.prog 12 #[.int .u64 (r : Int), .float .f64 x] w fun e w' => e = .returned (.bool true) ∧ Below w.heap.size w w' := by
  have HT := Lib.hid hT; clear hT
  have HR := Lib.hid hr; clear hr
  have HX := Lib.hid hx; clear hx
  go_enter Tryd.func12, Tryd.ntmps12
  go_wp2_with (first
    | (go_at_call 15; refine (first_any _ HT.out).mono ?_; rintro e w1 ⟨rfl, hb1⟩; have HT1 := Lib.hid (HT.out.below hb1); have HB1 := Lib.hid hb1; clear hb1 HT)
    | (go_at_call 15; refine (first_any _ HT1.out).mono ?_; rintro e w2 ⟨rfl, hb2⟩; have HB2 := Lib.hid hb2; clear hb2)
    | (go_at_call 27; ((with_reducible refine (back_is r a HBR.out HR.out _).mono ?_)); rintro e w' ⟨rfl, rfl⟩)
    | (go_at_call 27; ((with_reducible refine (back_is r1 b HBR1.out HR1.out _).mono ?_)); rintro e w' ⟨rfl, rfl⟩)
    | (go_at_call 25; ((with_reducible refine (rank_is a r HRA.out HA.out _).mono ?_)); rintro e w' ⟨rfl, rfl⟩)
    | (go_at_call 25; ((with_reducible refine (rank_is b r1 HRB.out HBL.out _).mono ?_)); rintro e w' ⟨rfl, rfl⟩)
    | (go_at_call 36; first
        | ((with_reducible refine (cmp_is a b _ HAB.out HA.out HBL.out _).mono ?_); rintro e w' ⟨rfl, rfl⟩)
        | ((with_reducible refine (cmp_is a x _ HAX.out HA.out HX.out _).mono ?_); rintro e w' ⟨rfl, rfl⟩)
        | ((with_reducible refine (cmp_is x b _ HXB.out HX.out HBL.out _).mono ?_); rintro e w' ⟨rfl, rfl⟩)))
  go_ret
  exact ⟨by first | rfl | (refine ret_b ?_; simp; omega), HB1.out.trans (HB2.out.mono HB1.out.size)⟩
set_option maxRecDepth 100000 in
set_option maxHeartbeats 800000 in
theorem numNext_above (r x a r1 b : Nat) (_y z : Int) (hr : r < 18446744073709551616) (hx : x < 18446744073709551616) (HBR : Hid (backN r = a)) (HA : Hid (a < 18446744073709551616)) (HRA : Hid (rankN a = r)) (HR1 : Hid (r1 < 18446744073709551616)) (HBR1 : Hid (backN r1 = b)) (HBL : Hid (b < 18446744073709551616)) (HRB : Hid (rankN b = r1)) (htop : ((r : Int) == 18446744073709551615) = false) (hinc : IntKind.u64.wrap ((r : Int) + 1) = (r1 : Int)) (HAB : Hid (cmpN (rankN a) (rankN b) = -1)) (HAX : Hid (cmpN (rankN a) (rankN x) = -1)) (HXB : Hid (cmpN (rankN x) (rankN b) = z)) (hz : 0 ≤ z) (w : World) (hT : Tabs w) :
    Calls Tryd.prog 12 #[.int .u64 (r : Int), .float .f64 x] w fun e w' => e = .returned (.bool true) ∧ Below w.heap.size w w' := by
  have HT := Lib.hid hT; clear hT
  have HR := Lib.hid hr; clear hr
  have HX := Lib.hid hx; clear hx
  go_enter Tryd.func12, Tryd.ntmps12
  go_wp2_with (first
    | (go_at_call 15; refine (first_any _ HT.out).mono ?_; rintro e w1 ⟨rfl, hb1⟩; have HT1 := Lib.hid (HT.out.below hb1); have HB1 := Lib.hid hb1; clear hb1 HT)
    | (go_at_call 15; refine (first_any _ HT1.out).mono ?_; rintro e w2 ⟨rfl, hb2⟩; have HB2 := Lib.hid hb2; clear hb2)
    | (go_at_call 27; ((with_reducible refine (back_is r a HBR.out HR.out _).mono ?_)); rintro e w' ⟨rfl, rfl⟩)
    | (go_at_call 27; ((with_reducible refine (back_is r1 b HBR1.out HR1.out _).mono ?_)); rintro e w' ⟨rfl, rfl⟩)
    | (go_at_call 25; ((with_reducible refine (rank_is a r HRA.out HA.out _).mono ?_)); rintro e w' ⟨rfl, rfl⟩)
    | (go_at_call 25; ((with_reducible refine (rank_is b r1 HRB.out HBL.out _).mono ?_)); rintro e w' ⟨rfl, rfl⟩)
    | (go_at_call 36; first
        | ((with_reducible refine (cmp_is a b _ HAB.out HA.out HBL.out _).mono ?_); rintro e w' ⟨rfl, rfl⟩)
        | ((with_reducible refine (cmp_is a x _ HAX.out HA.out HX.out _).mono ?_); rintro e w' ⟨rfl, rfl⟩)
        | ((with_reducible refine (cmp_is x b _ HXB.out HX.out HBL.out _).mono ?_); rintro e w' ⟨rfl, rfl⟩)))
  go_ret
  exact ⟨by first | rfl | (refine ret_b ?_; simp; omega), HB1.out.trans (HB2.out.mono HB1.out.size)⟩

theorem numNext_walk (r x : Nat) (hr : r < 18446744073709551616) (hx : x < 18446744073709551616) (w : World) (hT : Tabs w) :
    Calls Tryd.prog 12 #[.int .u64 (r : Int), .float .f64 x] w fun e w' => e = .returned (.bool true) ∧ Below w.heap.size w w' := by
  by_cases h1 : r = 18446744073709551615
  · exact numNext_top r x _ hr hx rfl (by simp; omega) w hT
  · have htop : ((r : Int) == 18446744073709551615) = false := by simp; omega
    have ha := backN_lt hr
    by_cases h2 : rankN (backN r) = r
    · have hr1 : r + 1 < 18446744073709551616 := by omega
      have hb := backN_lt hr1
      have hinc : IntKind.u64.wrap ((r : Int) + 1) = ((r + 1 : Nat) : Int) := wrap_nat hr1
      by_cases h3 : rankN (backN (r + 1)) = r + 1
      · have hab : cmpN (rankN (backN r)) (rankN (backN (r + 1))) = -1 := cmpN_lt (by omega)
        by_cases h4 : rankN x ≤ r
        · exact numNext_below r x _ _ _ _ _ hr hx rfl ha h2 hr1 rfl hb h3 htop hinc hab rfl rfl (cmpN_nonneg (by omega)) w hT
        · exact numNext_above r x _ _ _ 0 _ hr hx rfl ha h2 hr1 rfl hb h3 htop hinc hab (cmpN_lt (by omega)) rfl (cmpN_nonneg (by omega)) w hT
      · exact numNext_apart2 r x _ _ _ _ hr hx rfl ha h2 hr1 rfl hb rfl htop hinc (by simp; omega) w hT
    · exact numNext_apart r x _ _ hr hx rfl ha rfl htop (by simp; omega) w hT

set_option maxRecDepth 100000 in
theorem numNext_lifted (os : Os) (started : os.Started) (H : Type) (enc : TypeId × Value → H) :
    ReturnsInHanded {} Tryd.checked os 12 .any (fun w args => (Rows.numNextSpec.pre enc Tryd.prog Tryd.f12 [] false w args ∧ laidMetH Tryd.prog laid3 w) ∧ sizedMet enc Tryd.prog Tryd.f12 (OpenSpec.ofChange Rows.numNextSpec) false w args)
      (Rows.numNextSpec.post enc Tryd.prog Tryd.f12 false true false false) := by
  refine returnsInHanded_of_change_and (C := Tryd.checked) (X := fun w _ => laidMetH Tryd.prog laid3 w) (fun _ _ _ hh h => h.of_heap hh) own started (by kernel_rfl) Tryd.func12
    (ChangeSpec.witness_shaped (enc := enc) (C := Tryd.checked) (os := os) (X := fun w _ => laidMetH Tryd.prog laid3 w) false (World.doorLaid Tryd.prog 400 os) #[.int .u64 0, .float .f64 0] 8 rfl (World.shaped_of_RefB (by kernel_rfl) (by kernel_rfl)) (by kernel_rfl) (by kernel_rfl) (by kernel_rfl) (door_met os _)) ?_
  intro W base args ds gs before hval0 hW _ _ hL _
  have hval : ∀ (j : Nat) t v, Tryd.f12.params[j]? = some t → args[j]? = some v → Value.okWide Tryd.prog W .any base t v := hval0
  have hW' := hW
  obtain ⟨p, q, hA0, hV, rfl, hfz, hnd⟩ := hW
  have hA : DataW.TrodAll enc Tryd.prog W 0 (fun _ => true) true Tryd.f12.params.toList args.toList ds p := hA0
  rw [Tryd.params12] at hA hval
  obtain ⟨v0, v1, d0, d1, p0, p1, rfl, rfl, rfl, h0, h1⟩ := trodAll_two hA
  obtain ⟨a0, rfl, rfl, rfl, wf0⟩ := open_int Tryd.underlying22 (hval 0 22 v0 rfl rfl) h0
  obtain ⟨n1, rfl, rfl, rfl, wf1⟩ := open_float Tryd.underlying23 (hval 1 23 v1 rfl rfl) h1
  obtain ⟨rfl, rfl⟩ := trodVars_none hV
  clear hA0 hval0
  simp only [List.append_nil] at hW'
  have hT := tabs_of_laid hL
  have hwf0 := wf0
  simp [Lit.wf, IntKind.min, IntKind.max, IntKind.signed, IntKind.bits] at hwf0
  obtain ⟨n0, rfl⟩ : ∃ n : Nat, a0 = n := ⟨a0.toNat, by omega⟩
  have hwf1 := wf1
  simp [Lit.wf] at hwf1
  refine (numNext_walk n0 n1 (by omega) (by omega)  W hT).mono fun e W' ⟨he, hw⟩ => ?_
  subst he
  exact ⟨_, rfl, post_of_below (pa := []) (pv := []) hW' (fun _ _ _ => trodAll_mk1 (shut_bool Tryd.underlying4 _)) (fun sp _ => trodAll_mk2 (shut_int Tryd.underlying22 wf0) (shut_float Tryd.underlying23 wf1)) (fun _ _ => rfl) rfl hw (ok_one (by kernel_rfl) rfl (okWide_bool_mk Tryd.underlying4 _))⟩

theorem numNext_holds : Rows.NumNextSaid :=
  OpenClaim.holds_of_wide 12 Tryd.f12 rfl rfl rfl rfl rfl rfl rfl ⟨rfl, rfl, rfl, rfl, rfl⟩ rfl rfl rfl rfl rfl (by kernel_rfl) Tryd.func12 (by kernel_rfl)
    (of_decide_eq_true (by kernel_rfl)) (by unfold Func.isWrapper; first | (rw [if_pos (by decide +kernel)]; kernel_rfl) | (rw [if_neg (by decide +kernel)]; exact ⟨rfl, rfl⟩))
    (fun os started H enc _ => numNext_lifted os started H enc)
/-- THE TIED CARD. -/
theorem numNext_card : Rows.NumNextCardSaid :=
  Claim7.holds_tied_plain_at .later [] [.data, .data, .data] true (true, "263a68124a9ec9e14e3c232618efbe301a45d4cac9ae9d43003c9ae83addfa09") false
    numNext_holds (fun _ h => by cases h) (by kernel_rfl) (fun _ h => by cases h) numNext_row_tie rfl ⟨rfl, rfl⟩ (by kernel_rfl) rfl
    (fun f fn hf hfn => by
      obtain rfl : f = 12 := Option.some.inj ((show Tryd.prog.funcNamed "headrace/racelaw1.NumNext" = some 12 by kernel_rfl).symm.trans hf) |>.symm
      obtain rfl : fn = Tryd.f12 := (Option.some.inj (Tryd.func12.symm.trans hfn)).symm
      exact ⟨by kernel_rfl, fun j t ht => by
        rw [Tryd.params12] at ht
        have hm : t ∈ [22, 23] := by simpa using Array.mem_of_getElem? ht
        have hall : ([22, 23].all fun u => !Tryd.prog.wantsStandIn u) = true := by kernel_rfl
        exact (show Tryd.prog.wantsStandIn t = false by simpa using List.all_eq_true.1 hall t hm)⟩)
    (by kernel_rfl)
#print axioms numNext_card
end Go.Proofs.YtjgbccadjgelbaaDoor
