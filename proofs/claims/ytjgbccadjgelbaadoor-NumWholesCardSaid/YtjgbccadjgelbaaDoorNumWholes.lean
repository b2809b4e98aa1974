/- For any float, num.Whole tells whether it is a whole number from -2^53 to 2^53, and which, as the document says: racelaw1.NumWholes answers true and leaves its argument as it was. Conditions: none beyond the row's own (the listed tables of Go's library, tied to the program's text). -/
import Derived.Test.YtjgbccadjgelbaaDoorRows
import Derived.Test.YtjgbccadjgelbaaDoorCards
import Derived.Test.YtjgbccadjgelbaaDoorTie
import Derived.Test.YtjgbccadjgelbaaDoorE
import Derived.Test.YtjgbccadjgelbaaDoorF
import Derived.Test.YtjgbccadjgelbaaDoorG
import Derived.Test.YtjgbccadjgelbaaDoorY
import Derived.Test.YtjgbccadjgelbaaDoorZ
import Derived.Test.YtjgbccadjgelbaaDoorHelp
import Derived.Test.YtjgbccadjgelbaaDoorInt
import Derived.SevenTiedAt
namespace Go.Proofs.YtjgbccadjgelbaaDoor
open Go.ChangeShapes Go.WideShapes Go.ChangeAt Go.RowKit
open Ieee in
theorem flt_of {x : Nat} {neg : Bool} {r : Nat} (e : x = double.word neg r) (hr : r ≤ w53) : floatToIntVal .f64 x .i64 = some (signed neg (quoN r) 0) := by
  have hI : r < infR := by have := w53_lt; omega
  have hq := quo_le hr
  unfold floatToIntVal
  have hd : (FloatKind.f64.decode x).toInt .zero = some (signed neg (quoN r) 0) := by
    show (double.read x).toInt .zero = _
    unfold Datum.toInt
    rw [e, integral_word neg hI]
  rw [hd]
  have hb : -9007199254740992 ≤ signed neg (quoN r) 0 ∧ signed neg (quoN r) 0 ≤ 9007199254740992 := by
    cases neg
    · rw [signed_pos]; omega
    · rw [signed_neg]; omega
  have h1 : IntKind.i64.min = -9223372036854775808 := by decide
  have h2 : IntKind.i64.max = 9223372036854775807 := by decide
  have : IntKind.i64.min ≤ signed neg (quoN r) 0 ∧ signed neg (quoN r) 0 ≤ IntKind.i64.max := by rw [h1, h2]; omega
  simp only [this, and_self, if_true]
open Ieee in
theorem int_back (neg : Bool) (q : Nat) : floatOfInt .f64 (signed neg q 0) = if q = 0 then 0 else double.write (.number neg q 0) := by
  unfold floatOfInt FloatKind.nearest
  cases neg
  · rw [signed_pos, Nat.pow_zero, Nat.mul_one]
    have h1 : decide (((q : Nat) : Int) < 0) = false := by simp
    rw [h1, Int.natAbs_natCast]
    by_cases h : q = 0
    · rw [if_pos h, h]; exact write_zero false 0
    · rw [if_neg h]; rfl
  · rw [signed_neg, Nat.pow_zero, Nat.mul_one]
    by_cases h : q = 0
    · rw [if_pos h, h]; exact write_zero false 0
    · have h1 : decide (-((q : Nat) : Int) < 0) = true := by simp; omega
      rw [h1, if_neg h, Int.natAbs_neg, Int.natAbs_natCast]; rfl
set_option maxRecDepth 100000 in
theorem numWholes_core (x : Nat) (v : Int) (ok : Bool) (HA : Hid (∀ w, Calls Tryd.prog 40 #[.float .f64 x] w fun e w' => e = .returned (.tuple #[.int .i64 v, .bool ok]) ∧ Drew w w')) (HB : Hid (∀ w, Calls Tryd.prog 41 #[.float .f64 x] w fun e w' => e = .returned (.tuple #[.int .i64 v, .bool ok]) ∧ w = w')) (w : World) (hT : Tabs w) :
    Calls Tryd.prog 6 #[.float .f64 x] w fun e w' => e = .returned (.bool true) ∧ Below w.heap.size w w' := by
  have HT := Lib.hid hT; clear hT
  go_enter Tryd.func6, Tryd.ntmps6
  go_wp2_with (first
    | (go_at_call 15; refine (first_any _ HT.out).mono ?_; rintro e w1 ⟨rfl, hb1⟩; have HT1 := Lib.hid (HT.out.below hb1); have HB1 := Lib.hid hb1; clear hb1 HT)
    | (go_at_call 40; refine (HA.out _).mono ?_; rintro e w' ⟨rfl, n, rfl⟩)
    | (go_at_call 41; refine (HB.out _).mono ?_; rintro e w' ⟨rfl, rfl⟩)
    | (go_at_call 15; refine (first_any _ (tabs_drewN HT1.out _)).mono ?_; rintro e w2 ⟨rfl, hb2⟩; have HB2 := Lib.hid hb2; clear hb2))
  all_goals go_ret
  all_goals exact ⟨by first | rfl | (refine ret_b ?_; simp; done), HB1.out.trans ((below_drewN (Below.refl _ _) _).trans (HB2.out.mono HB1.out.size))⟩
open Ieee in
theorem numWholes_walk (x : Nat) (hx : x < 18446744073709551616) (w : World) (hT : Tabs w) :
    Calls Tryd.prog 6 #[.float .f64 x] w fun e w' => e = .returned (.bool true) ∧ Below w.heap.size w w' := by
  rcases kinds hx with hn | ⟨hn, neg, e⟩ | ⟨hn, neg, r, hr, e⟩
  · have h1 : (FloatKind.f64.format.order x 14069245235905429504 == some .gt || FloatKind.f64.format.order x 14069245235905429504 == some .eq) = false := by
      rw [show FloatKind.f64.format.order x 14069245235905429504 = none from nan_order' hn]; rfl
    exact numWholes_core x 0 false (fun w => whole_nan x hx hn w) (fun w => rwhole_low x h1 w) w hT
  · cases neg
    · have hb : (FloatKind.f64.format.order (x % 9223372036854775808) 4845873199050653696 == some .gt) = true := by rw [e]; decide +kernel
      have h1 : (FloatKind.f64.format.order x 14069245235905429504 == some .gt || FloatKind.f64.format.order x 14069245235905429504 == some .eq) = true := by rw [e]; decide +kernel
      have h2 : (FloatKind.f64.format.order x 4845873199050653696 == some .lt || FloatKind.f64.format.order x 4845873199050653696 == some .eq) = false := by rw [e]; decide +kernel
      exact numWholes_core x 0 false (fun w => whole_big x hx hb w) (fun w => rwhole_high x h1 h2 w) w hT
    · have hb : (FloatKind.f64.format.order (x % 9223372036854775808) 4845873199050653696 == some .gt) = true := by rw [e]; decide +kernel
      have h1 : (FloatKind.f64.format.order x 14069245235905429504 == some .gt || FloatKind.f64.format.order x 14069245235905429504 == some .eq) = false := by rw [e]; decide +kernel
      exact numWholes_core x 0 false (fun w => whole_big x hx hb w) (fun w => rwhole_low x h1 w) w hT
  · have hm : x % 9223372036854775808 = r := by rw [e]; exact word_lo hr
    have hw := w53_lt
    have hw0 : w53 ≠ 0 := by decide
    have c1 : (14069245235905429504 : Nat) = double.word true w53 := by decide
    by_cases hb : r ≤ w53
    · have h : (FloatKind.f64.format.order (x % 9223372036854775808) 4845873199050653696 == some .gt) = false := by rw [hm]; exact order_gt_f (q := w53) hr hw (by omega)
      have h1 : (FloatKind.f64.format.order x 14069245235905429504 == some .gt || FloatKind.f64.format.order x 14069245235905429504 == some .eq) = true := by
        rw [c1, e]
        cases neg
        · rw [show FloatKind.f64.format.order (double.word false r) (double.word true w53) = _ from order_pn hr hw, if_neg (by omega)]; rfl
        · rw [show FloatKind.f64.format.order (double.word true r) (double.word true w53) = _ from order_word true hr hw]
          by_cases h3 : r = w53
          · rw [if_pos h3]; rfl
          · rw [if_neg h3, if_neg (by simp; omega)]; rfl
      have h2 : (FloatKind.f64.format.order x 4845873199050653696 == some .lt || FloatKind.f64.format.order x 4845873199050653696 == some .eq) = true := by
        rw [e]
        cases neg
        · rw [word_false, show FloatKind.f64.format.order r 4845873199050653696 = _ from order_pos (q := w53) hr hw]
          by_cases h3 : r < w53
          · rw [if_pos h3]; rfl
          · rw [if_neg h3, if_neg (by omega)]; rfl
        · rw [show FloatKind.f64.format.order (double.word true r) 4845873199050653696 = _ from order_np (q := w53) hr hw, if_neg (by omega)]; rfl
      have hrd := read_word neg hr
      rw [← e] at hrd
      have hint : (double.read x).integral .zero = .number neg (quoN r) 0 := by rw [e]; exact integral_word neg hr
      have hv := flt_of e hb
      have hback := int_back neg (quoN r)
      by_cases hwh : whole r
      · have ht := trunc_whole neg hr hwh
        have ht2 : double.write ((double.read x).integral .zero) = x := by rw [hint, ht, e]
        have ho : (FloatKind.f64.format.order x x != some .eq) = false := by
          have := order_word_eq neg hr
          rw [← e] at this; exact this
        have h3 : (FloatKind.f64.format.order (floatOfInt .f64 (signed neg (quoN r) 0)) x != some .eq) = false := by
          rw [hback]
          by_cases hq : quoN r = 0
          · rw [if_pos hq]
            have hr0 : r = 0 := by
              unfold whole at hwh
              rw [hq, Nat.zero_mul] at hwh
              by_cases h : r = 0
              · exact h
              · exact absurd hwh (by have := val_pos h (expN r); omega)
            rw [e, hr0]
            cases neg <;> decide +kernel
          · rw [if_neg hq, ht, ← e]; exact ho
        exact numWholes_core x _ true (fun w => whole_yes x x _ _ _ _ hx h hrd ht2 ho hv w) (fun w => rwhole_yes x _ h1 h2 hv h3 w) w hT
      · obtain ⟨t, t1, t2, ht⟩ := trunc_part neg hb hwh
        have ht2 : double.write ((double.read x).integral .zero) = double.word neg t := by rw [hint, ht]
        have ho : (FloatKind.f64.format.order (double.word neg t) x != some .eq) = true := by
          have := order_word_ne neg t1 hr t2
          rw [← e] at this; exact this
        have h3 : (FloatKind.f64.format.order (floatOfInt .f64 (signed neg (quoN r) 0)) x != some .eq) = true := by
          rw [hback]
          by_cases hq : quoN r = 0
          · rw [if_pos hq]
            have hr0 : r ≠ 0 := fun h => hwh (by unfold whole; rw [hq, h, val_zero, Nat.zero_mul])
            rw [e]
            cases neg
            · rw [show FloatKind.f64.format.order 0 (double.word false r) = _ from order_word (r := 0) false (by decide) hr, if_neg (by omega)]
              split <;> rfl
            · rw [show FloatKind.f64.format.order 0 (double.word true r) = _ from order_pn (r := 0) (by decide) hr, if_neg (by omega)]; rfl
          · rw [if_neg hq, ht]; exact ho
        exact numWholes_core x 0 false (fun w => whole_part x _ _ _ _ hx h hrd ht2 ho w) (fun w => rwhole_part x _ h1 h2 hv h3 w) w hT
    · have h : (FloatKind.f64.format.order (x % 9223372036854775808) 4845873199050653696 == some .gt) = true := by rw [hm]; exact order_gt_t (q := w53) hr hw (by omega)
      cases neg
      · have h1 : (FloatKind.f64.format.order x 14069245235905429504 == some .gt || FloatKind.f64.format.order x 14069245235905429504 == some .eq) = true := by
          rw [c1, e, show FloatKind.f64.format.order (double.word false r) (double.word true w53) = _ from order_pn hr hw, if_neg (by omega)]; rfl
        have h2 : (FloatKind.f64.format.order x 4845873199050653696 == some .lt || FloatKind.f64.format.order x 4845873199050653696 == some .eq) = false := by
          rw [e, word_false, show FloatKind.f64.format.order r 4845873199050653696 = _ from order_pos (q := w53) hr hw, if_neg (by omega), if_pos (by omega)]; rfl
        exact numWholes_core x 0 false (fun w => whole_big x hx h w) (fun w => rwhole_high x h1 h2 w) w hT
      · have h1 : (FloatKind.f64.format.order x 14069245235905429504 == some .gt || FloatKind.f64.format.order x 14069245235905429504 == some .eq) = false := by
          rw [c1, e, show FloatKind.f64.format.order (double.word true r) (double.word true w53) = _ from order_word true hr hw, if_neg (by omega), if_pos (by simp; omega)]; rfl
        exact numWholes_core x 0 false (fun w => whole_big x hx h w) (fun w => rwhole_low x h1 w) w hT

set_option maxRecDepth 100000 in
theorem numWholes_lifted (os : Os) (started : os.Started) (H : Type) (enc : TypeId × Value → H) :
    ReturnsInHanded {} Tryd.checked os 6 .any (fun w args => (Rows.numWholesSpec.pre enc Tryd.prog Tryd.f6 [] false w args ∧ laidMetH Tryd.prog laid3 w) ∧ sizedMet enc Tryd.prog Tryd.f6 (OpenSpec.ofChange Rows.numWholesSpec) false w args)
      (Rows.numWholesSpec.post enc Tryd.prog Tryd.f6 false true false false) := by
  refine returnsInHanded_of_change_and (C := Tryd.checked) (X := fun w _ => laidMetH Tryd.prog laid3 w) (fun _ _ _ hh h => h.of_heap hh) own started (by kernel_rfl) Tryd.func6
    (ChangeSpec.witness_shaped (enc := enc) (C := Tryd.checked) (os := os) (X := fun w _ => laidMetH Tryd.prog laid3 w) false (World.doorLaid Tryd.prog 400 os) #[.float .f64 0] 8 rfl (World.shaped_of_RefB (by kernel_rfl) (by kernel_rfl)) (by kernel_rfl) (by kernel_rfl) (by kernel_rfl) (door_met os _)) ?_
  intro W base args ds gs before hval0 hW _ _ hL _
  have hval : ∀ (j : Nat) t v, Tryd.f6.params[j]? = some t → args[j]? = some v → Value.okWide Tryd.prog W .any base t v := hval0
  have hW' := hW
  obtain ⟨p, q, hA0, hV, rfl, hfz, hnd⟩ := hW
  have hA : DataW.TrodAll enc Tryd.prog W 0 (fun _ => true) true Tryd.f6.params.toList args.toList ds p := hA0
  rw [Tryd.params6] at hA hval
  obtain ⟨v0, d0, rfl, rfl, h0⟩ := trodAll_one hA
  obtain ⟨n0, rfl, rfl, rfl, wf0⟩ := open_float Tryd.underlying23 (hval 0 23 v0 rfl rfl) h0
  obtain ⟨rfl, rfl⟩ := trodVars_none hV
  clear hA0 hval0
  simp only [List.append_nil] at hW'
  have hT := tabs_of_laid hL
  have hwf0 := wf0
  simp [Lit.wf] at hwf0
  refine (numWholes_walk n0 (by omega)  W hT).mono fun e W' ⟨he, hw⟩ => ?_
  subst he
  exact ⟨_, rfl, post_of_below (pa := []) (pv := []) hW' (fun _ _ _ => trodAll_mk1 (shut_bool Tryd.underlying4 _)) (fun sp _ => trodAll_mk1 (shut_float Tryd.underlying23 wf0)) (fun _ _ => rfl) rfl hw (ok_one (by kernel_rfl) rfl (okWide_bool_mk Tryd.underlying4 _))⟩

theorem numWholes_holds : Rows.NumWholesSaid :=
  OpenClaim.holds_of_wide 6 Tryd.f6 rfl rfl rfl rfl rfl rfl rfl ⟨rfl, rfl, rfl, rfl, rfl⟩ rfl rfl rfl rfl rfl (by kernel_rfl) Tryd.func6 (by kernel_rfl)
    (of_decide_eq_true (by kernel_rfl)) (by unfold Func.isWrapper; first | (rw [if_pos (by decide +kernel)]; kernel_rfl) | (rw [if_neg (by decide +kernel)]; exact ⟨rfl, rfl⟩))
    (fun os started H enc _ => numWholes_lifted os started H enc)
/-- THE TIED CARD. -/
theorem numWholes_card : Rows.NumWholesCardSaid :=
  Claim7.holds_tied_plain_at .later [] [.data, .data, .data] true (true, "263a68124a9ec9e14e3c232618efbe301a45d4cac9ae9d43003c9ae83addfa09") false
    numWholes_holds (fun _ h => by cases h) (by kernel_rfl) (fun _ h => by cases h) numWholes_row_tie rfl ⟨rfl, rfl⟩ (by kernel_rfl) rfl
    (fun f fn hf hfn => by
      obtain rfl : f = 6 := Option.some.inj ((show Tryd.prog.funcNamed "headrace/racelaw1.NumWholes" = some 6 by kernel_rfl).symm.trans hf) |>.symm
      obtain rfl : fn = Tryd.f6 := (Option.some.inj (Tryd.func6.symm.trans hfn)).symm
      exact ⟨by kernel_rfl, fun j t ht => by
        rw [Tryd.params6] at ht
        have hm : t ∈ [23] := by simpa using Array.mem_of_getElem? ht
        have hall : ([23].all fun u => !Tryd.prog.wantsStandIn u) = true := by kernel_rfl
        exact (show Tryd.prog.wantsStandIn t = false by simpa using List.all_eq_true.1 hall t hm)⟩)
    (by kernel_rfl)
#print axioms numWholes_card
end Go.Proofs.YtjgbccadjgelbaaDoor
