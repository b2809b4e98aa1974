/- For any float and any text, what is printed is read, what is read is printed just so, and ranks lead back: racelaw1.NumBack answers true and leaves its arguments as they were. Conditions: none beyond the row's own (the listed tables of Go's library, tied to the program's text). -/
import Derived.Test.YtjgbccadjgelbaaDoorRows
import Derived.Test.YtjgbccadjgelbaaDoorCards
import Derived.Test.YtjgbccadjgelbaaDoorTie
import Derived.Test.YtjgbccadjgelbaaDoorE
import Derived.Test.YtjgbccadjgelbaaDoorF
import Derived.Test.YtjgbccadjgelbaaDoorG
import Derived.Test.YtjgbccadjgelbaaDoorY
import Derived.Test.YtjgbccadjgelbaaDoorZ
import Derived.Test.YtjgbccadjgelbaaDoorHelp
import Derived.Test.YtjgbccadjgelbaaDoorTurn
import Derived.ShutString
import Derived.Test.YtjgbccadjgelbaaDoorSaid
import Derived.SevenTiedAt
namespace Go.Proofs.YtjgbccadjgelbaaDoor
open Go.ChangeShapes Go.WideShapes Go.ChangeAt Go.RowKit
set_option maxRecDepth 100000 in
set_option maxHeartbeats 1600000 in
theorem numBack_long (x cx _z : Nat) (s : ByteArray) (hx : x < 18446744073709551616) (HCX : Hid (canon x = cx)) (HCC : Hid (canon (canon x) = cx)) (HCCX : Hid (canon cx = cx)) (_HC0 : Hid (canon 0 = 0)) (HBK : Hid (backN (rankN x) = cx)) (HRL : Hid (rankN x < 18446744073709551616))
    (hs : decide ((s.size : Int) > 2000) = true) (_hs2 : 2000 < s.size) (w : World) (hT : Tabs w) :
    Calls Tryd.prog 10 #[.float .f64 x, .string s] w fun e w' => e = .returned (.bool true) ∧ Below w.heap.size w w' := by
  have HT := Lib.hid hT; clear hT
  have HX := Lib.hid hx; clear hx
  go_enter Tryd.func10, Tryd.ntmps10
  go_wp2_with (first
    | (go_at_call 15; refine (first_any _ HT.out).mono ?_; rintro e w1 ⟨rfl, hb1⟩; have HT1 := Lib.hid (HT.out.below hb1); have HB1 := Lib.hid hb1; clear hb1 HT)
    | (go_at_call 42; ((with_reducible refine (print_any x HX.out _ HT1.out).mono ?_)); rintro e w2 ⟨rfl, hb2⟩; have HT2 := Lib.hid (HT1.out.below hb2); have HB2 := Lib.hid (HB1.out.trans (hb2.mono HB1.out.size)); clear hb2 HT1 HB1)
    | (go_at_call 44; ((with_reducible refine (parse_back x HX.out _).mono ?_)); rintro e w3 ⟨rfl, hb3⟩; have HT3 := Lib.hid (HT2.out.below hb3); have HB3 := Lib.hid (HB2.out.trans (hb3.mono HB2.out.size)); clear hb3 HT2 HB2)
    | (go_at_call 21; first
        | ((with_reducible refine (bits_is x _ HCX.out _).mono ?_); rintro e w' ⟨rfl, rfl⟩)
        | ((with_reducible refine (bits_is (canon x) _ HCC.out _).mono ?_); rintro e w' ⟨rfl, rfl⟩)
        | ((with_reducible refine (bits_is cx _ HCCX.out _).mono ?_); rintro e w' ⟨rfl, rfl⟩)
        | ((with_reducible refine (bits_is 0 _ HC0.out _).mono ?_); rintro e w' ⟨rfl, rfl⟩))
    | (go_at_call 25; ((with_reducible refine (rank_any x _ HX.out).mono ?_)); rintro e w' ⟨rfl, rfl⟩)
    | (go_at_call 27; ((with_reducible refine (back_is (rankN x) _ HBK.out HRL.out _).mono ?_)); rintro e w' ⟨rfl, rfl⟩)
    | (go_at_call 15; refine (first_any _ HT3.out).mono ?_; rintro e w4 ⟨rfl, hb4⟩; have HB4 := Lib.hid (HB3.out.trans (hb4.mono HB3.out.size)); clear hb4 HB3))
  go_ret
  exact ⟨by first | rfl | (refine ret_b ?_; simp; done), HB4.out⟩
set_option maxRecDepth 100000 in
set_option maxHeartbeats 1600000 in
theorem numBack_ok (x cx z : Nat) (s : ByteArray) (hx : x < 18446744073709551616) (HCX : Hid (canon x = cx)) (HCC : Hid (canon (canon x) = cx)) (HCCX : Hid (canon cx = cx)) (_HC0 : Hid (canon 0 = 0)) (HBK : Hid (backN (rankN x) = cx)) (HRL : Hid (rankN x < 18446744073709551616))
    (hs : decide ((s.size : Int) > 2000) = false) (_hs2 : ¬ 2000 < s.size) (HSZ : Hid (s.size ≤ 1000000)) (HP : Hid (parseN s.data.toList = (z, 0))) (HTX : Hid (textN z = s.data.toList)) (HZ : Hid (z < 18446744073709551616)) (w : World) (hT : Tabs w) :
    Calls Tryd.prog 10 #[.float .f64 x, .string s] w fun e w' => e = .returned (.bool true) ∧ Below w.heap.size w w' := by
  have HT := Lib.hid hT; clear hT
  have HX := Lib.hid hx; clear hx
  go_enter Tryd.func10, Tryd.ntmps10
  go_wp2_with (first
    | (go_at_call 15; refine (first_any _ HT.out).mono ?_; rintro e w1 ⟨rfl, hb1⟩; have HT1 := Lib.hid (HT.out.below hb1); have HB1 := Lib.hid hb1; clear hb1 HT)
    | (go_at_call 42; ((with_reducible refine (print_any x HX.out _ HT1.out).mono ?_)); rintro e w2 ⟨rfl, hb2⟩; have HT2 := Lib.hid (HT1.out.below hb2); have HB2 := Lib.hid (HB1.out.trans (hb2.mono HB1.out.size)); clear hb2 HT1 HB1)
    | (go_at_call 44; ((with_reducible refine (parse_back x HX.out _).mono ?_)); rintro e w3 ⟨rfl, hb3⟩; have HT3 := Lib.hid (HT2.out.below hb3); have HB3 := Lib.hid (HB2.out.trans (hb3.mono HB2.out.size)); clear hb3 HT2 HB2)
    | (go_at_call 21; first
        | ((with_reducible refine (bits_is x _ HCX.out _).mono ?_); rintro e w' ⟨rfl, rfl⟩)
        | ((with_reducible refine (bits_is (canon x) _ HCC.out _).mono ?_); rintro e w' ⟨rfl, rfl⟩)
        | ((with_reducible refine (bits_is cx _ HCCX.out _).mono ?_); rintro e w' ⟨rfl, rfl⟩)
        | ((with_reducible refine (bits_is 0 _ HC0.out _).mono ?_); rintro e w' ⟨rfl, rfl⟩))
    | (go_at_call 25; ((with_reducible refine (rank_any x _ HX.out).mono ?_)); rintro e w' ⟨rfl, rfl⟩)
    | (go_at_call 27; ((with_reducible refine (back_is (rankN x) _ HBK.out HRL.out _).mono ?_)); rintro e w' ⟨rfl, rfl⟩)
    | (go_at_call 44; ((with_reducible refine (parse_is s _ _ HP.out HSZ.out _).mono ?_)); rintro e w4 ⟨rfl, hb4⟩; have HT4 := Lib.hid (HT3.out.below hb4); have HB4 := Lib.hid (HB3.out.trans (hb4.mono HB3.out.size)); clear hb4 HB3 HT3)
    | (go_at_call 15; refine (first_any _ HT4.out).mono ?_; rintro e w5 ⟨rfl, hb5⟩; have HT5 := Lib.hid (HT4.out.below hb5); have HB5 := Lib.hid (HB4.out.trans (hb5.mono HB4.out.size)); clear hb5 HB4 HT4)
    | (go_at_call 42; ((with_reducible refine (print_is z s HTX.out HZ.out _ HT5.out).mono ?_)); rintro e w6 ⟨rfl, hb6⟩; have HB6 := Lib.hid (HB5.out.trans (hb6.mono HB5.out.size)); clear hb6 HB5))
  go_ret
  exact ⟨by first | rfl | (refine ret_b ?_; simp; done), HB6.out⟩
set_option maxRecDepth 100000 in
set_option maxHeartbeats 1600000 in
theorem numBack_form (x cx _z : Nat) (s : ByteArray) (hx : x < 18446744073709551616) (HCX : Hid (canon x = cx)) (HCC : Hid (canon (canon x) = cx)) (HCCX : Hid (canon cx = cx)) (HC0 : Hid (canon 0 = 0)) (HBK : Hid (backN (rankN x) = cx)) (HRL : Hid (rankN x < 18446744073709551616))
    (hs : decide ((s.size : Int) > 2000) = false) (_hs2 : ¬ 2000 < s.size) (HSZ : Hid (s.size ≤ 1000000)) (HP : Hid (parseN s.data.toList = (0, 4))) (w : World) (hT : Tabs w) :
    Calls Tryd.prog 10 #[.float .f64 x, .string s] w fun e w' => e = .returned (.bool true) ∧ Below w.heap.size w w' := by
  have HT := Lib.hid hT; clear hT
  have HX := Lib.hid hx; clear hx
  go_enter Tryd.func10, Tryd.ntmps10
  go_wp2_with (first
    | (go_at_call 15; refine (first_any _ HT.out).mono ?_; rintro e w1 ⟨rfl, hb1⟩; have HT1 := Lib.hid (HT.out.below hb1); have HB1 := Lib.hid hb1; clear hb1 HT)
    | (go_at_call 42; ((with_reducible refine (print_any x HX.out _ HT1.out).mono ?_)); rintro e w2 ⟨rfl, hb2⟩; have HT2 := Lib.hid (HT1.out.below hb2); have HB2 := Lib.hid (HB1.out.trans (hb2.mono HB1.out.size)); clear hb2 HT1 HB1)
    | (go_at_call 44; ((with_reducible refine (parse_back x HX.out _).mono ?_)); rintro e w3 ⟨rfl, hb3⟩; have HT3 := Lib.hid (HT2.out.below hb3); have HB3 := Lib.hid (HB2.out.trans (hb3.mono HB2.out.size)); clear hb3 HT2 HB2)
    | (go_at_call 21; first
        | ((with_reducible refine (bits_is x _ HCX.out _).mono ?_); rintro e w' ⟨rfl, rfl⟩)
        | ((with_reducible refine (bits_is (canon x) _ HCC.out _).mono ?_); rintro e w' ⟨rfl, rfl⟩)
        | ((with_reducible refine (bits_is cx _ HCCX.out _).mono ?_); rintro e w' ⟨rfl, rfl⟩)
        | ((with_reducible refine (bits_is 0 _ HC0.out _).mono ?_); rintro e w' ⟨rfl, rfl⟩))
    | (go_at_call 25; ((with_reducible refine (rank_any x _ HX.out).mono ?_)); rintro e w' ⟨rfl, rfl⟩)
    | (go_at_call 27; ((with_reducible refine (back_is (rankN x) _ HBK.out HRL.out _).mono ?_)); rintro e w' ⟨rfl, rfl⟩)
    | (go_at_call 44; ((with_reducible refine (parse_is s _ _ HP.out HSZ.out _).mono ?_)); rintro e w4 ⟨rfl, hb4⟩; have HT4 := Lib.hid (HT3.out.below hb4); have HB4 := Lib.hid (HB3.out.trans (hb4.mono HB3.out.size)); clear hb4 HB3 HT3)
    | (go_at_call 15; refine (first_any _ HT4.out).mono ?_; rintro e w5 ⟨rfl, hb5⟩; have HT5 := Lib.hid (HT4.out.below hb5); have HB5 := Lib.hid (HB4.out.trans (hb5.mono HB4.out.size)); clear hb5 HB4 HT4))
  go_ret
  exact ⟨by first | rfl | (refine ret_b ?_; simp; done), HB5.out⟩
set_option maxRecDepth 100000 in
set_option maxHeartbeats 1600000 in
theorem numBack_range (x cx _z : Nat) (s : ByteArray) (hx : x < 18446744073709551616) (HCX : Hid (canon x = cx)) (HCC : Hid (canon (canon x) = cx)) (HCCX : Hid (canon cx = cx)) (HC0 : Hid (canon 0 = 0)) (HBK : Hid (backN (rankN x) = cx)) (HRL : Hid (rankN x < 18446744073709551616))
    (hs : decide ((s.size : Int) > 2000) = false) (_hs2 : ¬ 2000 < s.size) (HSZ : Hid (s.size ≤ 1000000)) (HP : Hid (parseN s.data.toList = (0, 1))) (w : World) (hT : Tabs w) :
    Calls Tryd.prog 10 #[.float .f64 x, .string s] w fun e w' => e = .returned (.bool true) ∧ Below w.heap.size w w' := by
  have HT := Lib.hid hT; clear hT
  have HX := Lib.hid hx; clear hx
  go_enter Tryd.func10, Tryd.ntmps10
  go_wp2_with (first
    | (go_at_call 15; refine (first_any _ HT.out).mono ?_; rintro e w1 ⟨rfl, hb1⟩; have HT1 := Lib.hid (HT.out.below hb1); have HB1 := Lib.hid hb1; clear hb1 HT)
    | (go_at_call 42; ((with_reducible refine (print_any x HX.out _ HT1.out).mono ?_)); rintro e w2 ⟨rfl, hb2⟩; have HT2 := Lib.hid (HT1.out.below hb2); have HB2 := Lib.hid (HB1.out.trans (hb2.mono HB1.out.size)); clear hb2 HT1 HB1)
    | (go_at_call 44; ((with_reducible refine (parse_back x HX.out _).mono ?_)); rintro e w3 ⟨rfl, hb3⟩; have HT3 := Lib.hid (HT2.out.below hb3); have HB3 := Lib.hid (HB2.out.trans (hb3.mono HB2.out.size)); clear hb3 HT2 HB2)
    | (go_at_call 21; first
        | ((with_reducible refine (bits_is x _ HCX.out _).mono ?_); rintro e w' ⟨rfl, rfl⟩)
        | ((with_reducible refine (bits_is (canon x) _ HCC.out _).mono ?_); rintro e w' ⟨rfl, rfl⟩)
        | ((with_reducible refine (bits_is cx _ HCCX.out _).mono ?_); rintro e w' ⟨rfl, rfl⟩)
        | ((with_reducible refine (bits_is 0 _ HC0.out _).mono ?_); rintro e w' ⟨rfl, rfl⟩))
    | (go_at_call 25; ((with_reducible refine (rank_any x _ HX.out).mono ?_)); rintro e w' ⟨rfl, rfl⟩)
    | (go_at_call 27; ((with_reducible refine (back_is (rankN x) _ HBK.out HRL.out _).mono ?_)); rintro e w' ⟨rfl, rfl⟩)
    | (go_at_call 44; ((with_reducible refine (parse_is s _ _ HP.out HSZ.out _).mono ?_)); rintro e w4 ⟨rfl, hb4⟩; have HT4 := Lib.hid (HT3.out.below hb4); have HB4 := Lib.hid (HB3.out.trans (hb4.mono HB3.out.size)); clear hb4 HB3 HT3)
    | (go_at_call 15; refine (first_any _ HT4.out).mono ?_; rintro e w5 ⟨rfl, hb5⟩; have HT5 := Lib.hid (HT4.out.below hb5); have HB5 := Lib.hid (HB4.out.trans (hb5.mono HB4.out.size)); clear hb5 HB4 HT4))
  go_ret
  exact ⟨by first | rfl | (refine ret_b ?_; simp; done), HB5.out⟩

theorem numBack_walk (x : Nat) (s : ByteArray) (hx : x < 18446744073709551616) (_hs : s.size ≤ 9223372036854775807) (w : World) (hT : Tabs w) :
    Calls Tryd.prog 10 #[.float .f64 x, .string s] w fun e w' => e = .returned (.bool true) ∧ Below w.heap.size w w' := by
  have hcc := canon_canon x
  have hc3 : canon (canon x) = canon x := hcc
  by_cases hl : 2000 < s.size
  · exact numBack_long x _ 0 s hx rfl hc3 hcc (show canon 0 = 0 by decide) (canon_back hx) (rankN_lt hx) (by simp; omega) hl w hT
  · have hd : decide ((s.size : Int) > 2000) = false := by simp; omega
    have hsz : s.size ≤ 1000000 := by omega
    rcases text_parse s.data.toList with ⟨e, ht, hz⟩ | ⟨e, hz⟩ | ⟨e, hz⟩
    · exact numBack_ok x _ (parseN s.data.toList).1 s hx rfl hc3 hcc (show canon 0 = 0 by decide) (canon_back hx) (rankN_lt hx) hd hl hsz (Prod.ext rfl e) ht hz w hT
    · exact numBack_range x _ 0 s hx rfl hc3 hcc (show canon 0 = 0 by decide) (canon_back hx) (rankN_lt hx) hd hl hsz (Prod.ext hz e) w hT
    · exact numBack_form x _ 0 s hx rfl hc3 hcc (show canon 0 = 0 by decide) (canon_back hx) (rankN_lt hx) hd hl hsz (Prod.ext hz e) w hT

set_option maxRecDepth 100000 in
theorem numBack_lifted (os : Os) (started : os.Started) (H : Type) (enc : TypeId × Value → H) :
    ReturnsInHanded {} Tryd.checked os 10 .any (fun w args => (Rows.numBackSpec.pre enc Tryd.prog Tryd.f10 [] false w args ∧ laidMetH Tryd.prog laid3 w) ∧ sizedMet enc Tryd.prog Tryd.f10 (OpenSpec.ofChange Rows.numBackSpec) false w args)
      (Rows.numBackSpec.post enc Tryd.prog Tryd.f10 false true false false) := by
  refine returnsInHanded_of_change_and (C := Tryd.checked) (X := fun w _ => laidMetH Tryd.prog laid3 w) (fun _ _ _ hh h => h.of_heap hh) own started (by kernel_rfl) Tryd.func10
    (ChangeSpec.witness_shaped (enc := enc) (C := Tryd.checked) (os := os) (X := fun w _ => laidMetH Tryd.prog laid3 w) false (World.doorLaid Tryd.prog 400 os) #[.float .f64 0, .string ⟨#[]⟩] 8 rfl (World.shaped_of_RefB (by kernel_rfl) (by kernel_rfl)) (by kernel_rfl) (by kernel_rfl) (by kernel_rfl) (door_met os _)) ?_
  intro W base args ds gs before hval0 hW _ _ hL _
  have hval : ∀ (j : Nat) t v, Tryd.f10.params[j]? = some t → args[j]? = some v → Value.okWide Tryd.prog W .any base t v := hval0
  have hW' := hW
  obtain ⟨p, q, hA0, hV, rfl, hfz, hnd⟩ := hW
  have hA : DataW.TrodAll enc Tryd.prog W 0 (fun _ => true) true Tryd.f10.params.toList args.toList ds p := hA0
  rw [Tryd.params10] at hA hval
  obtain ⟨v0, v1, d0, d1, p0, p1, rfl, rfl, rfl, h0, h1⟩ := trodAll_two hA
  obtain ⟨n0, rfl, rfl, rfl, wf0⟩ := open_float Tryd.underlying23 (hval 0 23 v0 rfl rfl) h0
  obtain ⟨s1, rfl, rfl, rfl, wf1⟩ := ChangeMaps.open_string Tryd.underlying9 (hval 1 9 v1 rfl rfl) h1
  obtain ⟨rfl, rfl⟩ := trodVars_none hV
  clear hA0 hval0
  simp only [List.append_nil] at hW'
  have hT := tabs_of_laid hL
  have hwf0 := wf0
  simp [Lit.wf] at hwf0
  have hwf1 := wf1
  refine (numBack_walk n0 s1 (by omega) hwf1 W hT).mono fun e W' ⟨he, hw⟩ => ?_
  subst he
  exact ⟨_, rfl, post_of_below (pa := []) (pv := []) hW' (fun _ _ _ => trodAll_mk1 (shut_bool Tryd.underlying4 _)) (fun sp _ => trodAll_mk2 (shut_float Tryd.underlying23 wf0) (ChangeMaps.shut_string Tryd.underlying9 wf1)) (fun _ _ => rfl) rfl hw (ok_one (by kernel_rfl) rfl (okWide_bool_mk Tryd.underlying4 _))⟩

theorem numBack_holds : Rows.NumBackSaid :=
  OpenClaim.holds_of_wide 10 Tryd.f10 rfl rfl rfl rfl rfl rfl rfl ⟨rfl, rfl, rfl, rfl, rfl⟩ rfl rfl rfl rfl rfl (by kernel_rfl) Tryd.func10 (by kernel_rfl)
    (of_decide_eq_true (by kernel_rfl)) (by unfold Func.isWrapper; first | (rw [if_pos (by decide +kernel)]; kernel_rfl) | (rw [if_neg (by decide +kernel)]; exact ⟨rfl, rfl⟩))
    (fun os started H enc _ => numBack_lifted os started H enc)
/-- THE TIED CARD. -/
theorem numBack_card : Rows.NumBackCardSaid :=
  Claim7.holds_tied_plain_at .later [] [.data, .data, .data] true (true, "263a68124a9ec9e14e3c232618efbe301a45d4cac9ae9d43003c9ae83addfa09") false
    numBack_holds (fun _ h => by cases h) (by kernel_rfl) (fun _ h => by cases h) numBack_row_tie rfl ⟨rfl, rfl⟩ (by kernel_rfl) rfl
    (fun f fn hf hfn => by
      obtain rfl : f = 10 := Option.some.inj ((show Tryd.prog.funcNamed "headrace/racelaw1.NumBack" = some 10 by kernel_rfl).symm.trans hf) |>.symm
      obtain rfl : fn = Tryd.f10 := (Option.some.inj (Tryd.func10.symm.trans hfn)).symm
      exact ⟨by kernel_rfl, fun j t ht => by
        rw [Tryd.params10] at ht
        have hm : t ∈ [23, 9] := by simpa using Array.mem_of_getElem? ht
        have hall : ([23, 9].all fun u => !Tryd.prog.wantsStandIn u) = true := by kernel_rfl
        exact (show Tryd.prog.wantsStandIn t = false by simpa using List.all_eq_true.1 hall t hm)⟩)
    (by kernel_rfl)
#print axioms numBack_card
end Go.Proofs.YtjgbccadjgelbaaDoor
