/- For any text of at most 2000 bytes, num.Parse answers as the document says: racelaw1.NumParses answers true and leaves its argument as it was. Conditions: none beyond the row's own (the listed tables of Go's library, tied to the program's text). -/
import Derived.Test.YtjgbccadjgelbaaDoorRows
import Derived.Test.YtjgbccadjgelbaaDoorCards
import Derived.Test.YtjgbccadjgelbaaDoorTie
import Derived.Test.YtjgbccadjgelbaaDoorE
import Derived.Test.YtjgbccadjgelbaaDoorF
import Derived.Test.YtjgbccadjgelbaaDoorG
import Derived.Test.YtjgbccadjgelbaaDoorY
import Derived.Test.YtjgbccadjgelbaaDoorZ
import Derived.Test.YtjgbccadjgelbaaDoorHelp
import Derived.Test.YtjgbccadjgelbaaDoorTurn
import Derived.ShutString
import Derived.Test.YtjgbccadjgelbaaDoorSaid
import Derived.Test.YtjgbccadjgelbaaDoorRparse
import Derived.SevenTiedAt
namespace Go.Proofs.YtjgbccadjgelbaaDoor
open Go.ChangeShapes Go.WideShapes Go.ChangeAt Go.RowKit
theorem ext_pre (s : ByteArray) (h : 0 < s.size) (hb : s[0] = 45) : (s.extract 1 s.size).data.toList = Lib.trimPrefix s.data.toList [45] ∧ Lib.hasPrefix s.data.toList [45] = true := by
  have e := head_eq s h
  rw [hb] at e
  obtain ⟨p1, p2⟩ := pre_true (s.data.toList.drop 1)
  rw [← e] at p1 p2
  exact ⟨by rw [Lib.extract_to_end, p2], p1⟩
/-- raceref1.Parse, any text of at most 2000 bytes. -/
theorem rparse_any (s : ByteArray) (hs : s.size ≤ 2000) (w : World) :
    Calls Tryd.prog 45 #[.string s] w fun e w' => e = .returned (.tuple #[.float .f64 (parseN s.data.toList).1, .int .i64 (parseN s.data.toList).2]) ∧ Below w.heap.size w w' := by
  cases n1 : (s.data.toList == [110, 97, 110])
  case true =>
    have e : s.data.toList = [110, 97, 110] := by simpa using n1
    rw [e, of_list e]
    refine (rparse_nan w).mono ?_; rintro e w' ⟨he, rfl⟩; exact ⟨he, Below.refl _ _⟩
  cases n2 : (s.data.toList == [105, 110, 102])
  case true =>
    have e : s.data.toList = [105, 110, 102] := by simpa using n2
    rw [e, of_list e]
    refine (rparse_inf w).mono ?_; rintro e w' ⟨he, rfl⟩; exact ⟨he, Below.refl _ _⟩
  cases n3 : (s.data.toList == [45, 105, 110, 102])
  case true =>
    have e : s.data.toList = [45, 105, 110, 102] := by simpa using n3
    rw [e, of_list e]
    refine (rparse_minf w).mono ?_; rintro e w' ⟨he, rfl⟩; exact ⟨he, Below.refl _ _⟩
  cases n4 : (s.data.toList == [48])
  case true =>
    have e : s.data.toList = [48] := by simpa using n4
    rw [e, of_list e]
    refine (rparse_zero w).mono ?_; rintro e w' ⟨he, rfl⟩; exact ⟨he, Below.refl _ _⟩
  cases n5 : (s.data.toList == [45, 48])
  case true =>
    have e : s.data.toList = [45, 48] := by simpa using n5
    rw [e, of_list e]
    refine (rparse_mzero w).mono ?_; rintro e w' ⟨he, rfl⟩; exact ⟨he, Below.refl _ _⟩
  have hpl : parseN s.data.toList = coreN s.data.toList := by
    unfold parseN; rw [n1, n2, n3, n4, n5]; rfl
  rw [← toList_data] at n1 n2 n3 n4 n5
  by_cases h0 : s.size = 0
  · have e : s.data.toList = [] := by rw [Lib.size_eq] at h0; exact List.length_eq_zero_iff.1 h0
    rw [hpl, e, of_list e]
    refine (rparse_empty w).mono ?_; rintro e w' ⟨he, rfl⟩; exact ⟨he, Below.refl _ _⟩
  have hs0 : 0 < s.size := by omega
  by_cases hb : s[0] = 45
  · obtain ⟨e1, e2⟩ := ext_pre s hs0 hb
    exact rparse_m s _ rfl hs hs0 (byte_t 45 45 rfl hb) rfl e1.symm e2 n1 n2 n3 n4 n5 hpl w
  · have hnp := pre_false (l := s.data.toList) (fun u hu => hb (by rw [idx_get s 0 hs0, hu]; rfl))
    exact rparse_p s rfl hs hs0 (byte_f 45 45 rfl hb) hnp.2 hnp.1 n1 n2 n3 n4 n5 hpl w
theorem rparse_is (s : ByteArray) (z : Nat) (f : Int) (h : parseN s.data.toList = (z, f)) (hs : s.size ≤ 2000) (w : World) :
    Calls Tryd.prog 45 #[.string s] w fun e w' => e = .returned (.tuple #[.float .f64 z, .int .i64 f]) ∧ Below w.heap.size w w' := by
  have := rparse_any s hs w
  rw [h] at this
  exact this
set_option maxRecDepth 100000 in
theorem numParses_long (s : ByteArray) (_hs : 2000 < s.size) (_hd : decide ((s.size : Int) > 2000) = true) (w : World) (hT : Tabs w) :
    Calls Tryd.prog 8 #[.string s] w fun e w' => e = .returned (.bool true) ∧ Below w.heap.size w w' := by
  have HT := Lib.hid hT; clear hT
  go_enter Tryd.func8, Tryd.ntmps8
  go_wp2_with (first
    | (go_at_call 15; refine (first_any _ HT.out).mono ?_; rintro e w1 ⟨rfl, hb1⟩; have HT1 := Lib.hid (HT.out.below hb1); have HB1 := Lib.hid hb1; clear hb1 HT)
    | (go_at_call 15; ((with_reducible refine (first_any _ HT1.out).mono ?_)); rintro e w2 ⟨rfl, hb2⟩; have HT2 := Lib.hid (HT1.out.below hb2); have HB2 := Lib.hid (HB1.out.trans (hb2.mono HB1.out.size)); clear hb2 HB1 HT1))
  go_ret
  exact ⟨rfl, HB2.out⟩
set_option maxRecDepth 100000 in
theorem numParses_short (s : ByteArray) (z : Nat) (f : Int) (_hs : ¬ 2000 < s.size) (_hd : decide ((s.size : Int) > 2000) = false) (HS : Hid (s.size ≤ 1000000)) (HS2 : Hid (s.size ≤ 2000)) (HP : Hid (parseN s.data.toList = (z, f))) (w : World) (hT : Tabs w) :
    Calls Tryd.prog 8 #[.string s] w fun e w' => e = .returned (.bool true) ∧ Below w.heap.size w w' := by
  have HT := Lib.hid hT; clear hT
  go_enter Tryd.func8, Tryd.ntmps8
  go_wp2_with (first
    | (go_at_call 15; refine (first_any _ HT.out).mono ?_; rintro e w1 ⟨rfl, hb1⟩; have HT1 := Lib.hid (HT.out.below hb1); have HB1 := Lib.hid hb1; clear hb1 HT)
    | (go_at_call 44; ((with_reducible refine (parse_is s z f HP.out HS.out _).mono ?_)); rintro e w2 ⟨rfl, hb2⟩; have HT2 := Lib.hid (HT1.out.below hb2); have HB2 := Lib.hid (HB1.out.trans (hb2.mono HB1.out.size)); clear hb2 HB1 HT1)
    | (go_at_call 45; ((with_reducible refine (rparse_is s z f HP.out HS2.out _).mono ?_)); rintro e w3 ⟨rfl, hb3⟩; have HT3 := Lib.hid (HT2.out.below hb3); have HB3 := Lib.hid (HB2.out.trans (hb3.mono HB2.out.size)); clear hb3 HB2 HT2)
    | (go_at_call 15; ((with_reducible refine (first_any _ HT3.out).mono ?_)); rintro e w4 ⟨rfl, hb4⟩; have HT4 := Lib.hid (HT3.out.below hb4); have HB4 := Lib.hid (HB3.out.trans (hb4.mono HB3.out.size)); clear hb4 HB3 HT3)
    | (go_at_call 17; ((with_reducible refine (same_yes _ _).mono ?_)); rintro e w' ⟨rfl, rfl⟩))
  go_ret
  exact ⟨by first | rfl | (refine ret_b ?_; simp; done), HB4.out⟩
theorem numParses_walk (s : ByteArray) (_hs : s.size ≤ 9223372036854775807) (w : World) (hT : Tabs w) :
    Calls Tryd.prog 8 #[.string s] w fun e w' => e = .returned (.bool true) ∧ Below w.heap.size w w' := by
  by_cases hl : 2000 < s.size
  · exact numParses_long s hl (by simp; omega) w hT
  · exact numParses_short s _ _ hl (by simp; omega) (show s.size ≤ 1000000 by omega) (show s.size ≤ 2000 by omega) rfl w hT

set_option maxRecDepth 100000 in
theorem numParses_lifted (os : Os) (started : os.Started) (H : Type) (enc : TypeId × Value → H) :
    ReturnsInHanded {} Tryd.checked os 8 .any (fun w args => (Rows.numParsesSpec.pre enc Tryd.prog Tryd.f8 [] false w args ∧ laidMetH Tryd.prog laid3 w) ∧ sizedMet enc Tryd.prog Tryd.f8 (OpenSpec.ofChange Rows.numParsesSpec) false w args)
      (Rows.numParsesSpec.post enc Tryd.prog Tryd.f8 false true false false) := by
  refine returnsInHanded_of_change_and (C := Tryd.checked) (X := fun w _ => laidMetH Tryd.prog laid3 w) (fun _ _ _ hh h => h.of_heap hh) own started (by kernel_rfl) Tryd.func8
    (ChangeSpec.witness_shaped (enc := enc) (C := Tryd.checked) (os := os) (X := fun w _ => laidMetH Tryd.prog laid3 w) false (World.doorLaid Tryd.prog 400 os) #[.string ⟨#[]⟩] 8 rfl (World.shaped_of_RefB (by kernel_rfl) (by kernel_rfl)) (by kernel_rfl) (by kernel_rfl) (by kernel_rfl) (door_met os _)) ?_
  intro W base args ds gs before hval0 hW _ _ hL _
  have hval : ∀ (j : Nat) t v, Tryd.f8.params[j]? = some t → args[j]? = some v → Value.okWide Tryd.prog W .any base t v := hval0
  have hW' := hW
  obtain ⟨p, q, hA0, hV, rfl, hfz, hnd⟩ := hW
  have hA : DataW.TrodAll enc Tryd.prog W 0 (fun _ => true) true Tryd.f8.params.toList args.toList ds p := hA0
  rw [Tryd.params8] at hA hval
  obtain ⟨v0, d0, rfl, rfl, h0⟩ := trodAll_one hA
  obtain ⟨s0, rfl, rfl, rfl, wf0⟩ := ChangeMaps.open_string Tryd.underlying9 (hval 0 9 v0 rfl rfl) h0
  obtain ⟨rfl, rfl⟩ := trodVars_none hV
  clear hA0 hval0
  simp only [List.append_nil] at hW'
  have hT := tabs_of_laid hL
  have hwf0 := wf0
  refine (numParses_walk s0  hwf0 W hT).mono fun e W' ⟨he, hw⟩ => ?_
  subst he
  exact ⟨_, rfl, post_of_below (pa := []) (pv := []) hW' (fun _ _ _ => trodAll_mk1 (shut_bool Tryd.underlying4 _)) (fun sp _ => trodAll_mk1 (ChangeMaps.shut_string Tryd.underlying9 wf0)) (fun _ _ => rfl) rfl hw (ok_one (by kernel_rfl) rfl (okWide_bool_mk Tryd.underlying4 _))⟩

theorem numParses_holds : Rows.NumParsesSaid :=
  OpenClaim.holds_of_wide 8 Tryd.f8 rfl rfl rfl rfl rfl rfl rfl ⟨rfl, rfl, rfl, rfl, rfl⟩ rfl rfl rfl rfl rfl (by kernel_rfl) Tryd.func8 (by kernel_rfl)
    (of_decide_eq_true (by kernel_rfl)) (by unfold Func.isWrapper; first | (rw [if_pos (by decide +kernel)]; kernel_rfl) | (rw [if_neg (by decide +kernel)]; exact ⟨rfl, rfl⟩))
    (fun os started H enc _ => numParses_lifted os started H enc)
/-- THE TIED CARD. -/
theorem numParses_card : Rows.NumParsesCardSaid :=
  Claim7.holds_tied_plain_at .later [] [.data, .data, .data] true (true, "263a68124a9ec9e14e3c232618efbe301a45d4cac9ae9d43003c9ae83addfa09") false
    numParses_holds (fun _ h => by cases h) (by kernel_rfl) (fun _ h => by cases h) numParses_row_tie rfl ⟨rfl, rfl⟩ (by kernel_rfl) rfl
    (fun f fn hf hfn => by
      obtain rfl : f = 8 := Option.some.inj ((show Tryd.prog.funcNamed "headrace/racelaw1.NumParses" = some 8 by kernel_rfl).symm.trans hf) |>.symm
      obtain rfl : fn = Tryd.f8 := (Option.some.inj (Tryd.func8.symm.trans hfn)).symm
      exact ⟨by kernel_rfl, fun j t ht => by
        rw [Tryd.params8] at ht
        have hm : t ∈ [9] := by simpa using Array.mem_of_getElem? ht
        have hall : ([9].all fun u => !Tryd.prog.wantsStandIn u) = true := by kernel_rfl
        exact (show Tryd.prog.wantsStandIn t = false by simpa using List.all_eq_true.1 hall t hm)⟩)
    (by kernel_rfl)
#print axioms numParses_card
end Go.Proofs.YtjgbccadjgelbaaDoor
