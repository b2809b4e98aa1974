/- A value that may be comes back of its bytes and of its text, what is read is printed just so: racelaw3.DatumBack answers true and leaves its arguments as they were. Conditions: the library's tables hold what their initialisers lay. -/
import Derived.Test.YtjkfcmadoeifgaaGreatDoorBq
import Derived.Test.YtjkfcmadoeifgaaGreatDoorFj
import Derived.Test.YtjkfcmadoeifgaaGreatDoorAg
import Derived.Test.YtjkfcmadoeifgaaGreatDoorCm
import Derived.Deep.RegionHeld
import Derived.Test.YtjkfcmadoeifgaaGreatDoorCards
import Derived.Test.YtjkfcmadoeifgaaGreatDoorTie
namespace Go.Proofs.YtjkfcmadoeifgaaGreatDoor
open Go.ChangeShapes Go.WideShapes Go.ChangeAt Go.RowKit
theorem comp_refl {v : DV} (hm : mayV v = true) : (compV v v == 0) = true := by
  have hb : ∀ l : List UInt8, Lib.compareBytes l l = 0 := by
    intro l
    induction l with
    | nil => rfl
    | cons a t ih =>
      have : ¬ a < a := UInt8.lt_irrefl a
      rw [Lib.compareBytes, if_neg this, if_neg this]; exact ih
  have hc : ∀ n : Nat, cmpN n n = 0 := fun n => by simp [cmpN]
  unfold compV
  rw [if_pos ⟨hm, hm⟩, if_neg (by simp)]
  split
  · rw [hc]; rfl
  split
  · rw [hb]; rfl
  · rfl
set_option maxRecDepth 100000 in
theorem back_first1 (w : World) (ak : Int) (ax : Nat) (asx : List UInt8) (s : ByteArray) (hT : Tabs w) (h1 : 2000 < asx.length) :
    Calls Tryz.prog 5 #[vagg ⟨ak, ax, asx⟩, .string s] w fun e w' => e = .returned (.bool true) ∧ Below w.heap.size w w' := by
  have HW := Lib.hid (below1 w (vobj ⟨ak, ax, asx⟩))
  have HA := Lib.hid (at_new w ⟨ak, ax, asx⟩)
  have HT := Lib.hid hT
  have HS := fun w => Lib.hid (small_any ⟨ak, ax, asx⟩ w)
  rw [decide_eq_false (by simp only; omega)] at HS
  clear hT h1
  go_enter Tryz.func5, Tryz.ntmps5
  go_wp2_with (first
    | (go_at_call 6; ((with_reducible refine (first_ex _ (HT.out.below HW.out)).mono ?_); rintro e wz ⟨rfl, hb⟩; have HA := Lib.hid (HA.out.below hb HA.out.lt); have A0 := HA.out.c0; have A1 := HA.out.c1; have A2 := HA.out.c2; have az := HA.out.lt; dsimp only at A0 A1 A2; have HW := Lib.hid (HW.out.trans (hb.mono HW.out.size)); clear hb))
    | (go_at_call 7; ((with_reducible refine ((HS _).out).mono ?_); rintro e wz ⟨rfl, hb⟩; have HA := Lib.hid (HA.out.below hb HA.out.lt); have A0 := HA.out.c0; have A1 := HA.out.c1; have A2 := HA.out.c2; have az := HA.out.lt; dsimp only at A0 A1 A2; have HW := Lib.hid (HW.out.trans (hb.mono HW.out.size)); clear hb)))
  go_ret
  exact ⟨rfl, HW.out⟩
set_option maxRecDepth 100000 in
theorem back_first2 (w : World) (ak : Int) (ax : Nat) (asx : List UInt8) (s : ByteArray) (hT : Tabs w) (h1 : asx.length ≤ 2000) (h2 : 2000 < s.size) :
    Calls Tryz.prog 5 #[vagg ⟨ak, ax, asx⟩, .string s] w fun e w' => e = .returned (.bool true) ∧ Below w.heap.size w w' := by
  have HW := Lib.hid (below1 w (vobj ⟨ak, ax, asx⟩))
  have HA := Lib.hid (at_new w ⟨ak, ax, asx⟩)
  have HT := Lib.hid hT
  have HS := fun w => Lib.hid (small_any ⟨ak, ax, asx⟩ w)
  rw [decide_eq_true (by simp only; omega)] at HS
  have hc : (2000 : Int) < (s.size : Int) := by omega
  clear hT h1 h2
  go_enter Tryz.func5, Tryz.ntmps5
  go_wp2_with (first
    | (go_at_call 6; ((with_reducible refine (first_ex _ (HT.out.below HW.out)).mono ?_); rintro e wz ⟨rfl, hb⟩; have HA := Lib.hid (HA.out.below hb HA.out.lt); have A0 := HA.out.c0; have A1 := HA.out.c1; have A2 := HA.out.c2; have az := HA.out.lt; dsimp only at A0 A1 A2; have HW := Lib.hid (HW.out.trans (hb.mono HW.out.size)); clear hb))
    | (go_at_call 7; ((with_reducible refine ((HS _).out).mono ?_); rintro e wz ⟨rfl, hb⟩; have HA := Lib.hid (HA.out.below hb HA.out.lt); have A0 := HA.out.c0; have A1 := HA.out.c1; have A2 := HA.out.c2; have az := HA.out.lt; dsimp only at A0 A1 A2; have HW := Lib.hid (HW.out.trans (hb.mono HW.out.size)); clear hb)))
  go_ret
  exact ⟨rfl, HW.out⟩
set_option maxRecDepth 100000 in
set_option maxHeartbeats 8000000 in
theorem back_yy (w : World) (ak : Int) (ax : Nat) (asx : List UInt8) (s : List UInt8) (hT : Tabs w) (h1 : asx.length ≤ 2000) (h2 : s.length ≤ 2000) (hx : ax < 18446744073709551616) (hwf : (⟨ak, ax, asx⟩ : DV).wf) (hf : (dparseV s).2 = 0) (hm : mayV ⟨ak, ax, asx⟩ = true) :
    Calls Tryz.prog 5 #[vagg ⟨ak, ax, asx⟩, .string ⟨s.toArray⟩] w fun e w' => e = .returned (.bool true) ∧ Below w.heap.size w w' := by
  have HW := Lib.hid (below1 w (vobj ⟨ak, ax, asx⟩))
  have HA := Lib.hid (at_new w ⟨ak, ax, asx⟩)
  have HT := Lib.hid hT
  have HS := fun w => Lib.hid (small_any ⟨ak, ax, asx⟩ w)
  rw [decide_eq_true (by simp only; omega)] at HS
  have hst := run_stf
  have hsz : (⟨s.toArray⟩ : ByteArray).size = s.length := rfl
  have hc : ¬ (2000 : Int) < (s.length : Int) := by omega
  have hql : (quoteV s).length ≤ 10000 := by have := q1s_len s; unfold quoteV; rw [List.length_cons, List.length_append, List.length_cons, List.length_nil]; omega
  have HQ := fun w => Lib.hid (quote_any ⟨s.toArray⟩ (by rw [hsz]; omega) w)
  have HU := fun w => Lib.hid (unquote_any ⟨(quoteV s).toArray⟩ (show (quoteV s).length ≤ _ by omega) w)
  rw [show (⟨(quoteV s).toArray⟩ : ByteArray).data.toList = quoteV s from rfl, unq_quote] at HU
  rw [show (⟨s.toArray⟩ : ByteArray).data.toList = s from rfl] at HQ
  have HP1 := fun w => Lib.hid (dparse_any ⟨s.toArray⟩ (by rw [hsz]; exact h2) w)
  rw [show (⟨s.toArray⟩ : ByteArray).data.toList = s from rfl] at HP1
  have HM := fun w => Lib.hid (may_any ⟨ak, ax, asx⟩ w)
  rw [hm] at HM
  obtain ⟨hpx, hpb⟩ := print_parse hf
  obtain ⟨D, hD⟩ : ∃ D, dparseV s = D := ⟨_, rfl⟩
  obtain ⟨⟨xk, xx, xs⟩, f⟩ := D
  rw [hD] at HP1 hf hpx hpb
  simp only at hf hpx hpb
  subst hf
  have HPX := fun w hT => Lib.hid (vprint_any ⟨xk, xx, xs⟩ hpb w hT)
  rw [hpx] at HPX
  clear hpx hpb
  have HGP := Lib.hid (get_put hm hx)
  have HPV := fun w hT => Lib.hid (vprint_any ⟨ak, ax, asx⟩ hx w hT)
  have hpl : (printV ⟨ak, ax, asx⟩).length ≤ 2000 := by
    have hs64 := (may_shape hm).2
    have hq := q1s_len asx
    simp only at hs64
    unfold printV
    rw [if_pos hm]
    simp only
    split
    · exact Nat.le_trans (textN_len hx) (by decide)
    split
    · unfold quoteV; rw [List.length_cons, List.length_append, List.length_cons, List.length_nil]; omega
    · decide
  have HP2 := fun w => Lib.hid (dparse_any ⟨(printV ⟨ak, ax, asx⟩).toArray⟩ hpl w)
  rw [show (⟨(printV ⟨ak, ax, asx⟩).toArray⟩ : ByteArray).data.toList = printV ⟨ak, ax, asx⟩ from rfl, parse_print hm hx] at HP2
  have HV := fun w => Lib.hid (value_any ⟨ak, ax, asx⟩ ⟨ak, ax, asx⟩ w)
  rw [sameV_self] at HV
  have HSM := fun w => Lib.hid (vsame_any ⟨ak, ax, asx⟩ ⟨ak, ax, asx⟩ hwf hwf w)
  rw [show sameB ⟨ak, ax, asx⟩ ⟨ak, ax, asx⟩ = true by unfold sameB; rw [hm, comp_refl hm]; rfl] at HSM
  have HPL := Lib.hid (put_len ⟨ak, ax, asx⟩)
  have HHX := Lib.hid hx
  have HEP := Lib.hid (end_put (putV ⟨ak, ax, asx⟩))
  generalize printV ⟨ak, ax, asx⟩ = pv at *
  clear hT h1 h2 hm hD hx hwf hpl
  go_enter Tryz.func5, Tryz.ntmps5
  go_wp2_with (first
    | (go_at_call 6; ((with_reducible refine (first_ex _ (HT.out.below HW.out)).mono ?_); rintro e wz ⟨rfl, hb⟩; have t0 := HZ; have HZ := Lib.hid (HZ.out.below hb HZ.out.lt); have z0 := HZ.out.c0; have z1 := HZ.out.c1; have z2 := HZ.out.c2; have zz := HZ.out.lt; dsimp only at z0 z1 z2; have HA := Lib.hid (HA.out.below hb HA.out.lt); have A0 := HA.out.c0; have A1 := HA.out.c1; have A2 := HA.out.c2; have az := HA.out.lt; dsimp only at A0 A1 A2; have HW := Lib.hid (HW.out.trans (hb.mono HW.out.size)); clear hb))
    | (go_at_call 6; ((with_reducible refine (first_ex _ (HT.out.below HW.out)).mono ?_); rintro e wz ⟨rfl, hb⟩; have HA := Lib.hid (HA.out.below hb HA.out.lt); have A0 := HA.out.c0; have A1 := HA.out.c1; have A2 := HA.out.c2; have az := HA.out.lt; dsimp only at A0 A1 A2; have HW := Lib.hid (HW.out.trans (hb.mono HW.out.size)); clear hb))
    | (go_at_call 7; ((with_reducible refine ((HS _).out).mono ?_); rintro e wz ⟨rfl, hb⟩; have HA := Lib.hid (HA.out.below hb HA.out.lt); have A0 := HA.out.c0; have A1 := HA.out.c1; have A2 := HA.out.c2; have az := HA.out.lt; dsimp only at A0 A1 A2; have HW := Lib.hid (HW.out.trans (hb.mono HW.out.size)); clear hb))
    | (go_at_call 26; ((with_reducible refine ((HQ _).out).mono ?_); rintro e wz ⟨rfl, hb⟩; have HA := Lib.hid (HA.out.below hb HA.out.lt); have A0 := HA.out.c0; have A1 := HA.out.c1; have A2 := HA.out.c2; have az := HA.out.lt; dsimp only at A0 A1 A2; have HW := Lib.hid (HW.out.trans (hb.mono HW.out.size)); clear hb))
    | (go_at_call 25; ((with_reducible refine ((HU _).out).mono ?_); rintro e wz ⟨rfl, hb⟩; have HA := Lib.hid (HA.out.below hb HA.out.lt); have A0 := HA.out.c0; have A1 := HA.out.c1; have A2 := HA.out.c2; have az := HA.out.lt; dsimp only at A0 A1 A2; have HW := Lib.hid (HW.out.trans (hb.mono HW.out.size)); clear hb))
    | (go_at_call 27; ((with_reducible refine ((HP1 _).out).mono ?_); rintro e wz ⟨rfl, hb⟩; have hb := hb.alloc hb.size (vobj ⟨xk, xx, xs⟩); have HX := Lib.hid (at_new wz ⟨xk, xx, xs⟩); have x0 := HX.out.c0; have x1 := HX.out.c1; have x2 := HX.out.c2; have xz := HX.out.lt; dsimp only at x0 x1 x2; have HA := Lib.hid (HA.out.below hb HA.out.lt); have A0 := HA.out.c0; have A1 := HA.out.c1; have A2 := HA.out.c2; have az := HA.out.lt; dsimp only at A0 A1 A2; have HW := Lib.hid (HW.out.trans (hb.mono HW.out.size)); clear hb))
    | (go_at_call 28; ((with_reducible refine ((HPX _ (HT.out.below HW.out)).out).mono ?_); rintro e wz ⟨rfl, hb⟩; have HA := Lib.hid (HA.out.below hb HA.out.lt); have A0 := HA.out.c0; have A1 := HA.out.c1; have A2 := HA.out.c2; have az := HA.out.lt; dsimp only at A0 A1 A2; have HW := Lib.hid (HW.out.trans (hb.mono HW.out.size)); clear hb))
    | (go_at_call 29; ((with_reducible refine ((HM _).out).mono ?_); rintro e wz ⟨rfl, hb⟩; have HA := Lib.hid (HA.out.below hb HA.out.lt); have A0 := HA.out.c0; have A1 := HA.out.c1; have A2 := HA.out.c2; have az := HA.out.lt; dsimp only at A0 A1 A2; have HW := Lib.hid (HW.out.trans (hb.mono HW.out.size)); clear hb))
    | (go_at_call 27; ((with_reducible refine ((HP2 _).out).mono ?_); rintro e wz ⟨rfl, hb⟩; have hb := hb.alloc hb.size (vobj ⟨ak, ax, asx⟩); have HY := Lib.hid (at_new wz ⟨ak, ax, asx⟩); have y0 := HY.out.c0; have y1 := HY.out.c1; have y2 := HY.out.c2; have yz := HY.out.lt; dsimp only at y0 y1 y2; have HA := Lib.hid (HA.out.below hb HA.out.lt); have A0 := HA.out.c0; have A1 := HA.out.c1; have A2 := HA.out.c2; have az := HA.out.lt; dsimp only at A0 A1 A2; have HW := Lib.hid (HW.out.trans (hb.mono HW.out.size)); clear hb))
    | (go_at_call 28; ((with_reducible refine ((HPV _ (HT.out.below HW.out)).out).mono ?_); rintro e wz ⟨rfl, hb⟩; have HA := Lib.hid (HA.out.below hb HA.out.lt); have A0 := HA.out.c0; have A1 := HA.out.c1; have A2 := HA.out.c2; have az := HA.out.lt; dsimp only at A0 A1 A2; have HW := Lib.hid (HW.out.trans (hb.mono HW.out.size)); clear hb))
    | (go_at_call 14; ((refine (HV _).out.mono ?_); rintro e wz ⟨rfl, hb⟩; have t0 := HZ; have HZ := Lib.hid (HZ.out.below hb HZ.out.lt); have z0 := HZ.out.c0; have z1 := HZ.out.c1; have z2 := HZ.out.c2; have zz := HZ.out.lt; dsimp only at z0 z1 z2; have HA := Lib.hid (HA.out.below hb HA.out.lt); have A0 := HA.out.c0; have A1 := HA.out.c1; have A2 := HA.out.c2; have az := HA.out.lt; dsimp only at A0 A1 A2; have HW := Lib.hid (HW.out.trans (hb.mono HW.out.size)); clear hb))
    | (go_at_call 14; ((refine (HV _).out.mono ?_); rintro e wz ⟨rfl, hb⟩; have HWr := Lib.hid (HWr.out.fr (Fr.of_below hb (fun _ _ h => h)) (by have := HWr.out.lt; omega) (fun k e => by cases e)); have HA := Lib.hid (HA.out.below hb HA.out.lt); have A0 := HA.out.c0; have A1 := HA.out.c1; have A2 := HA.out.c2; have az := HA.out.lt; dsimp only at A0 A1 A2; have HW := Lib.hid (HW.out.trans (hb.mono HW.out.size)); clear hb))
    | (go_at_call 12; ((refine (HSM _).out.mono ?_); rintro e wz ⟨rfl, hb⟩; have HA := Lib.hid (HA.out.below hb HA.out.lt); have A0 := HA.out.c0; have A1 := HA.out.c1; have A2 := HA.out.c2; have az := HA.out.lt; dsimp only at A0 A1 A2; have HW := Lib.hid (HW.out.trans (hb.mono HW.out.size)); clear hb))
    | (go_at_call 15; have HAL := Lib.hid HA.out.lt; ((with_reducible refine (newWriter_any _).mono ?_); rintro e wz ⟨p, rfl, hp, hwr, hf⟩; have hb := hf.below (fun _ h => h.elim) (Nat.le_refl _); have HWr := Lib.hid hwr; have hAp := Nat.lt_of_lt_of_le HAL.out hp; have HY := Lib.hid (HY.out.below hb HY.out.lt); have y0 := HY.out.c0; have y1 := HY.out.c1; have y2 := HY.out.c2; have yz := HY.out.lt; dsimp only at y0 y1 y2; have HA := Lib.hid (HA.out.below hb HA.out.lt); have A0 := HA.out.c0; have A1 := HA.out.c1; have A2 := HA.out.c2; have az := HA.out.lt; dsimp only at A0 A1 A2; have HW := Lib.hid (HW.out.trans (hb.mono HW.out.size)); clear hb))
    | (go_at_call 17; ((refine (dput_any (WrX.new HWr.out (Fr.refl _ _) (Nat.le_refl _)) ⟨ak, ax, asx⟩ HHX.out (Nat.zero_le _)).mono ?_); rintro e wz ⟨rfl, hx3, hf⟩; rw [List.nil_append] at hx3; have HX3 := Lib.hid hx3; have hal := HA.out.lt; have hws := HW.out.size; have HA := Lib.hid (HA.out.fr hf (by omega)); have HW := Lib.hid (HW.out.trans (hf.below (fun i hi => by omega) hws)); have A0 := HA.out.c0; have A1 := HA.out.c1; have A2 := HA.out.c2; have az := HA.out.lt; dsimp only at A0 A1 A2; clear hx3 hf))
    | (go_at_call 23; ((with_reducible refine (HX3.out.bytes (Nat.le_trans HPL.out (by decide))).mono ?_); rintro e wz ⟨vb1, rfl, ho, hf⟩; have hb := hf.below (fun _ h => h.elim) (Nat.le_refl _); have HOA := Lib.hid (own_has ho); have HA := Lib.hid (HA.out.below hb HA.out.lt); have A0 := HA.out.c0; have A1 := HA.out.c1; have A2 := HA.out.c2; have az := HA.out.lt; dsimp only at A0 A1 A2; have HW := Lib.hid (HW.out.trans (hb.mono HW.out.size)); clear hb))
    | (go_at_call 16; have HAL := Lib.hid HA.out.lt; ((with_reducible refine (newReader_any HOA.out (Nat.le_trans HPL.out (by decide))).mono ?_); rintro e wz ⟨r, vr, rfl, hr, hrd, hf⟩; have hb := hf.below (fun _ h => h.elim) (Nat.le_refl _); have HR := Lib.hid hrd; have hAr := Nat.lt_of_lt_of_le HAL.out hr; have HA := Lib.hid (HA.out.below hb HA.out.lt); have A0 := HA.out.c0; have A1 := HA.out.c1; have A2 := HA.out.c2; have az := HA.out.lt; dsimp only at A0 A1 A2; have HW := Lib.hid (HW.out.trans (hb.mono HW.out.size)); clear hb))
    | (go_at_call 18; ((with_reducible refine (dget_is HR.out (fun k hk => Nat.lt_trans hk.2 HR.out.lt) HGP.out).mono ?_); rintro e w4 ⟨rfl, hrd, hf⟩; have hr4 := Lib.hid hrd.lt; have hws := HW.out.size; have HR := Lib.hid (hrd.fr (Fr.alloc (Fr.refl (fun _ => False) w4) (vobj ⟨ak, ax, asx⟩)) id (fun _ _ => id)); have HA := Lib.hid ((HA.out.fr hf (by omega)).below (below1 w4 (vobj ⟨ak, ax, asx⟩)) (HA.out.fr hf (by omega)).lt); have HZ := Lib.hid (at_new w4 ⟨ak, ax, asx⟩); have z0 := HZ.out.c0; have z1 := HZ.out.c1; have z2 := HZ.out.c2; have zz := HZ.out.lt; dsimp only at z0 z1 z2; have hw4 := HW.out.trans (hf.below (fun i hi => by omega) hws); have HW := Lib.hid (hw4.alloc hw4.size (vobj ⟨ak, ax, asx⟩)); have A0 := HA.out.c0; have A1 := HA.out.c1; have A2 := HA.out.c2; have az := HA.out.lt; dsimp only at A0 A1 A2; clear hrd hf hw4))
    | (go_at_call 20; ((with_reducible refine (end_is HR.out (fun _ => rfl) HEP.out).mono ?_); rintro e wz ⟨rfl, hrd, hf⟩; have hws := HW.out.size; have hz4 := hr4.out; have HA := Lib.hid (HA.out.fr hf (by omega)); have HZ := Lib.hid (HZ.out.fr hf (by omega)); have z0 := HZ.out.c0; have z1 := HZ.out.c1; have z2 := HZ.out.c2; have zz := HZ.out.lt; dsimp only at z0 z1 z2; have HW := Lib.hid (HW.out.trans (hf.below (fun i hi => by omega) hws)); have A0 := HA.out.c0; have A1 := HA.out.c1; have A2 := HA.out.c2; have az := HA.out.lt; dsimp only at A0 A1 A2; clear hrd hf)))
  go_ret
  exact ⟨rfl, HW.out⟩
set_option maxRecDepth 100000 in
set_option maxHeartbeats 8000000 in
theorem back_yn (w : World) (ak : Int) (ax : Nat) (asx : List UInt8) (s : List UInt8) (hT : Tabs w) (h1 : asx.length ≤ 2000) (h2 : s.length ≤ 2000) (_hx : ax < 18446744073709551616) (hwf : (⟨ak, ax, asx⟩ : DV).wf) (hf : (dparseV s).2 = 0) (hm : mayV ⟨ak, ax, asx⟩ = false) :
    Calls Tryz.prog 5 #[vagg ⟨ak, ax, asx⟩, .string ⟨s.toArray⟩] w fun e w' => e = .returned (.bool true) ∧ Below w.heap.size w w' := by
  have HW := Lib.hid (below1 w (vobj ⟨ak, ax, asx⟩))
  have HA := Lib.hid (at_new w ⟨ak, ax, asx⟩)
  have HT := Lib.hid hT
  have HS := fun w => Lib.hid (small_any ⟨ak, ax, asx⟩ w)
  rw [decide_eq_true (by simp only; omega)] at HS
  have hst := run_stf
  have hsz : (⟨s.toArray⟩ : ByteArray).size = s.length := rfl
  have hc : ¬ (2000 : Int) < (s.length : Int) := by omega
  have hql : (quoteV s).length ≤ 10000 := by have := q1s_len s; unfold quoteV; rw [List.length_cons, List.length_append, List.length_cons, List.length_nil]; omega
  have HQ := fun w => Lib.hid (quote_any ⟨s.toArray⟩ (by rw [hsz]; omega) w)
  have HU := fun w => Lib.hid (unquote_any ⟨(quoteV s).toArray⟩ (show (quoteV s).length ≤ _ by omega) w)
  rw [show (⟨(quoteV s).toArray⟩ : ByteArray).data.toList = quoteV s from rfl, unq_quote] at HU
  rw [show (⟨s.toArray⟩ : ByteArray).data.toList = s from rfl] at HQ
  have HP1 := fun w => Lib.hid (dparse_any ⟨s.toArray⟩ (by rw [hsz]; exact h2) w)
  rw [show (⟨s.toArray⟩ : ByteArray).data.toList = s from rfl] at HP1
  have HM := fun w => Lib.hid (may_any ⟨ak, ax, asx⟩ w)
  rw [hm] at HM
  obtain ⟨hpx, hpb⟩ := print_parse hf
  obtain ⟨D, hD⟩ : ∃ D, dparseV s = D := ⟨_, rfl⟩
  obtain ⟨⟨xk, xx, xs⟩, f⟩ := D
  rw [hD] at HP1 hf hpx hpb
  simp only at hf hpx hpb
  subst hf
  have HPX := fun w hT => Lib.hid (vprint_any ⟨xk, xx, xs⟩ hpb w hT)
  rw [hpx] at HPX
  clear hpx hpb
  have HSM := fun w => Lib.hid (vsame_any ⟨ak, ax, asx⟩ ⟨ak, ax, asx⟩ hwf hwf w)
  rw [show sameB ⟨ak, ax, asx⟩ ⟨ak, ax, asx⟩ = false by unfold sameB; rw [hm]; rfl] at HSM
  clear hT h1 h2 hm hD
  go_enter Tryz.func5, Tryz.ntmps5
  go_wp2_with (first
    | (go_at_call 6; ((with_reducible refine (first_ex _ (HT.out.below HW.out)).mono ?_); rintro e wz ⟨rfl, hb⟩; have HA := Lib.hid (HA.out.below hb HA.out.lt); have A0 := HA.out.c0; have A1 := HA.out.c1; have A2 := HA.out.c2; have az := HA.out.lt; dsimp only at A0 A1 A2; have HW := Lib.hid (HW.out.trans (hb.mono HW.out.size)); clear hb))
    | (go_at_call 7; ((with_reducible refine ((HS _).out).mono ?_); rintro e wz ⟨rfl, hb⟩; have HA := Lib.hid (HA.out.below hb HA.out.lt); have A0 := HA.out.c0; have A1 := HA.out.c1; have A2 := HA.out.c2; have az := HA.out.lt; dsimp only at A0 A1 A2; have HW := Lib.hid (HW.out.trans (hb.mono HW.out.size)); clear hb))
    | (go_at_call 26; ((with_reducible refine ((HQ _).out).mono ?_); rintro e wz ⟨rfl, hb⟩; have HA := Lib.hid (HA.out.below hb HA.out.lt); have A0 := HA.out.c0; have A1 := HA.out.c1; have A2 := HA.out.c2; have az := HA.out.lt; dsimp only at A0 A1 A2; have HW := Lib.hid (HW.out.trans (hb.mono HW.out.size)); clear hb))
    | (go_at_call 25; ((with_reducible refine ((HU _).out).mono ?_); rintro e wz ⟨rfl, hb⟩; have HA := Lib.hid (HA.out.below hb HA.out.lt); have A0 := HA.out.c0; have A1 := HA.out.c1; have A2 := HA.out.c2; have az := HA.out.lt; dsimp only at A0 A1 A2; have HW := Lib.hid (HW.out.trans (hb.mono HW.out.size)); clear hb))
    | (go_at_call 27; ((with_reducible refine ((HP1 _).out).mono ?_); rintro e wz ⟨rfl, hb⟩; have hb := hb.alloc hb.size (vobj ⟨xk, xx, xs⟩); have HX := Lib.hid (at_new wz ⟨xk, xx, xs⟩); have x0 := HX.out.c0; have x1 := HX.out.c1; have x2 := HX.out.c2; have xz := HX.out.lt; dsimp only at x0 x1 x2; have HA := Lib.hid (HA.out.below hb HA.out.lt); have A0 := HA.out.c0; have A1 := HA.out.c1; have A2 := HA.out.c2; have az := HA.out.lt; dsimp only at A0 A1 A2; have HW := Lib.hid (HW.out.trans (hb.mono HW.out.size)); clear hb))
    | (go_at_call 28; ((with_reducible refine ((HPX _ (HT.out.below HW.out)).out).mono ?_); rintro e wz ⟨rfl, hb⟩; have HA := Lib.hid (HA.out.below hb HA.out.lt); have A0 := HA.out.c0; have A1 := HA.out.c1; have A2 := HA.out.c2; have az := HA.out.lt; dsimp only at A0 A1 A2; have HW := Lib.hid (HW.out.trans (hb.mono HW.out.size)); clear hb))
    | (go_at_call 29; ((with_reducible refine ((HM _).out).mono ?_); rintro e wz ⟨rfl, hb⟩; have HA := Lib.hid (HA.out.below hb HA.out.lt); have A0 := HA.out.c0; have A1 := HA.out.c1; have A2 := HA.out.c2; have az := HA.out.lt; dsimp only at A0 A1 A2; have HW := Lib.hid (HW.out.trans (hb.mono HW.out.size)); clear hb))
    | (go_at_call 12; ((with_reducible refine ((HSM _).out).mono ?_); rintro e wz ⟨rfl, hb⟩; have HA := Lib.hid (HA.out.below hb HA.out.lt); have A0 := HA.out.c0; have A1 := HA.out.c1; have A2 := HA.out.c2; have az := HA.out.lt; dsimp only at A0 A1 A2; have HW := Lib.hid (HW.out.trans (hb.mono HW.out.size)); clear hb)))
  go_ret
  exact ⟨rfl, HW.out⟩
set_option maxRecDepth 100000 in
set_option maxHeartbeats 8000000 in
theorem back_ny (w : World) (ak : Int) (ax : Nat) (asx : List UInt8) (s : List UInt8) (hT : Tabs w) (h1 : asx.length ≤ 2000) (h2 : s.length ≤ 2000) (hx : ax < 18446744073709551616) (hwf : (⟨ak, ax, asx⟩ : DV).wf) (hf : (dparseV s).2 ≠ 0) (hm : mayV ⟨ak, ax, asx⟩ = true) :
    Calls Tryz.prog 5 #[vagg ⟨ak, ax, asx⟩, .string ⟨s.toArray⟩] w fun e w' => e = .returned (.bool true) ∧ Below w.heap.size w w' := by
  have HW := Lib.hid (below1 w (vobj ⟨ak, ax, asx⟩))
  have HA := Lib.hid (at_new w ⟨ak, ax, asx⟩)
  have HT := Lib.hid hT
  have HS := fun w => Lib.hid (small_any ⟨ak, ax, asx⟩ w)
  rw [decide_eq_true (by simp only; omega)] at HS
  have hst := run_stf
  have hsz : (⟨s.toArray⟩ : ByteArray).size = s.length := rfl
  have hc : ¬ (2000 : Int) < (s.length : Int) := by omega
  have hql : (quoteV s).length ≤ 10000 := by have := q1s_len s; unfold quoteV; rw [List.length_cons, List.length_append, List.length_cons, List.length_nil]; omega
  have HQ := fun w => Lib.hid (quote_any ⟨s.toArray⟩ (by rw [hsz]; omega) w)
  have HU := fun w => Lib.hid (unquote_any ⟨(quoteV s).toArray⟩ (show (quoteV s).length ≤ _ by omega) w)
  rw [show (⟨(quoteV s).toArray⟩ : ByteArray).data.toList = quoteV s from rfl, unq_quote] at HU
  rw [show (⟨s.toArray⟩ : ByteArray).data.toList = s from rfl] at HQ
  have HP1 := fun w => Lib.hid (dparse_any ⟨s.toArray⟩ (by rw [hsz]; exact h2) w)
  rw [show (⟨s.toArray⟩ : ByteArray).data.toList = s from rfl] at HP1
  have HM := fun w => Lib.hid (may_any ⟨ak, ax, asx⟩ w)
  rw [hm] at HM
  obtain ⟨D, hD⟩ : ∃ D, dparseV s = D := ⟨_, rfl⟩
  obtain ⟨⟨xk, xx, xs⟩, f⟩ := D
  rw [hD] at HP1 hf
  simp only at hf
  have hfe : (f == 0) = false := beq_eq_false_iff_ne.2 hf
  have HGP := Lib.hid (get_put hm hx)
  have HPV := fun w hT => Lib.hid (vprint_any ⟨ak, ax, asx⟩ hx w hT)
  have hpl : (printV ⟨ak, ax, asx⟩).length ≤ 2000 := by
    have hs64 := (may_shape hm).2
    have hq := q1s_len asx
    simp only at hs64
    unfold printV
    rw [if_pos hm]
    simp only
    split
    · exact Nat.le_trans (textN_len hx) (by decide)
    split
    · unfold quoteV; rw [List.length_cons, List.length_append, List.length_cons, List.length_nil]; omega
    · decide
  have HP2 := fun w => Lib.hid (dparse_any ⟨(printV ⟨ak, ax, asx⟩).toArray⟩ hpl w)
  rw [show (⟨(printV ⟨ak, ax, asx⟩).toArray⟩ : ByteArray).data.toList = printV ⟨ak, ax, asx⟩ from rfl, parse_print hm hx] at HP2
  have HV := fun w => Lib.hid (value_any ⟨ak, ax, asx⟩ ⟨ak, ax, asx⟩ w)
  rw [sameV_self] at HV
  have HSM := fun w => Lib.hid (vsame_any ⟨ak, ax, asx⟩ ⟨ak, ax, asx⟩ hwf hwf w)
  rw [show sameB ⟨ak, ax, asx⟩ ⟨ak, ax, asx⟩ = true by unfold sameB; rw [hm, comp_refl hm]; rfl] at HSM
  have HPL := Lib.hid (put_len ⟨ak, ax, asx⟩)
  have HHX := Lib.hid hx
  have HEP := Lib.hid (end_put (putV ⟨ak, ax, asx⟩))
  generalize printV ⟨ak, ax, asx⟩ = pv at *
  clear hT h1 h2 hm hD hx hwf hpl
  go_enter Tryz.func5, Tryz.ntmps5
  go_wp2_with (first
    | (go_at_call 6; ((with_reducible refine (first_ex _ (HT.out.below HW.out)).mono ?_); rintro e wz ⟨rfl, hb⟩; have t0 := HZ; have HZ := Lib.hid (HZ.out.below hb HZ.out.lt); have z0 := HZ.out.c0; have z1 := HZ.out.c1; have z2 := HZ.out.c2; have zz := HZ.out.lt; dsimp only at z0 z1 z2; have HA := Lib.hid (HA.out.below hb HA.out.lt); have A0 := HA.out.c0; have A1 := HA.out.c1; have A2 := HA.out.c2; have az := HA.out.lt; dsimp only at A0 A1 A2; have HW := Lib.hid (HW.out.trans (hb.mono HW.out.size)); clear hb))
    | (go_at_call 6; ((with_reducible refine (first_ex _ (HT.out.below HW.out)).mono ?_); rintro e wz ⟨rfl, hb⟩; have HA := Lib.hid (HA.out.below hb HA.out.lt); have A0 := HA.out.c0; have A1 := HA.out.c1; have A2 := HA.out.c2; have az := HA.out.lt; dsimp only at A0 A1 A2; have HW := Lib.hid (HW.out.trans (hb.mono HW.out.size)); clear hb))
    | (go_at_call 7; ((with_reducible refine ((HS _).out).mono ?_); rintro e wz ⟨rfl, hb⟩; have HA := Lib.hid (HA.out.below hb HA.out.lt); have A0 := HA.out.c0; have A1 := HA.out.c1; have A2 := HA.out.c2; have az := HA.out.lt; dsimp only at A0 A1 A2; have HW := Lib.hid (HW.out.trans (hb.mono HW.out.size)); clear hb))
    | (go_at_call 26; ((with_reducible refine ((HQ _).out).mono ?_); rintro e wz ⟨rfl, hb⟩; have HA := Lib.hid (HA.out.below hb HA.out.lt); have A0 := HA.out.c0; have A1 := HA.out.c1; have A2 := HA.out.c2; have az := HA.out.lt; dsimp only at A0 A1 A2; have HW := Lib.hid (HW.out.trans (hb.mono HW.out.size)); clear hb))
    | (go_at_call 25; ((with_reducible refine ((HU _).out).mono ?_); rintro e wz ⟨rfl, hb⟩; have HA := Lib.hid (HA.out.below hb HA.out.lt); have A0 := HA.out.c0; have A1 := HA.out.c1; have A2 := HA.out.c2; have az := HA.out.lt; dsimp only at A0 A1 A2; have HW := Lib.hid (HW.out.trans (hb.mono HW.out.size)); clear hb))
    | (go_at_call 27; ((with_reducible refine ((HP1 _).out).mono ?_); rintro e wz ⟨rfl, hb⟩; have hb := hb.alloc hb.size (vobj ⟨xk, xx, xs⟩); have HX := Lib.hid (at_new wz ⟨xk, xx, xs⟩); have x0 := HX.out.c0; have x1 := HX.out.c1; have x2 := HX.out.c2; have xz := HX.out.lt; dsimp only at x0 x1 x2; have HA := Lib.hid (HA.out.below hb HA.out.lt); have A0 := HA.out.c0; have A1 := HA.out.c1; have A2 := HA.out.c2; have az := HA.out.lt; dsimp only at A0 A1 A2; have HW := Lib.hid (HW.out.trans (hb.mono HW.out.size)); clear hb))
    | (go_at_call 29; ((with_reducible refine ((HM _).out).mono ?_); rintro e wz ⟨rfl, hb⟩; have HA := Lib.hid (HA.out.below hb HA.out.lt); have A0 := HA.out.c0; have A1 := HA.out.c1; have A2 := HA.out.c2; have az := HA.out.lt; dsimp only at A0 A1 A2; have HW := Lib.hid (HW.out.trans (hb.mono HW.out.size)); clear hb))
    | (go_at_call 27; ((with_reducible refine ((HP2 _).out).mono ?_); rintro e wz ⟨rfl, hb⟩; have hb := hb.alloc hb.size (vobj ⟨ak, ax, asx⟩); have HY := Lib.hid (at_new wz ⟨ak, ax, asx⟩); have y0 := HY.out.c0; have y1 := HY.out.c1; have y2 := HY.out.c2; have yz := HY.out.lt; dsimp only at y0 y1 y2; have HA := Lib.hid (HA.out.below hb HA.out.lt); have A0 := HA.out.c0; have A1 := HA.out.c1; have A2 := HA.out.c2; have az := HA.out.lt; dsimp only at A0 A1 A2; have HW := Lib.hid (HW.out.trans (hb.mono HW.out.size)); clear hb))
    | (go_at_call 28; ((with_reducible refine ((HPV _ (HT.out.below HW.out)).out).mono ?_); rintro e wz ⟨rfl, hb⟩; have HA := Lib.hid (HA.out.below hb HA.out.lt); have A0 := HA.out.c0; have A1 := HA.out.c1; have A2 := HA.out.c2; have az := HA.out.lt; dsimp only at A0 A1 A2; have HW := Lib.hid (HW.out.trans (hb.mono HW.out.size)); clear hb))
    | (go_at_call 14; ((refine (HV _).out.mono ?_); rintro e wz ⟨rfl, hb⟩; have t0 := HZ; have HZ := Lib.hid (HZ.out.below hb HZ.out.lt); have z0 := HZ.out.c0; have z1 := HZ.out.c1; have z2 := HZ.out.c2; have zz := HZ.out.lt; dsimp only at z0 z1 z2; have HA := Lib.hid (HA.out.below hb HA.out.lt); have A0 := HA.out.c0; have A1 := HA.out.c1; have A2 := HA.out.c2; have az := HA.out.lt; dsimp only at A0 A1 A2; have HW := Lib.hid (HW.out.trans (hb.mono HW.out.size)); clear hb))
    | (go_at_call 14; ((refine (HV _).out.mono ?_); rintro e wz ⟨rfl, hb⟩; have HWr := Lib.hid (HWr.out.fr (Fr.of_below hb (fun _ _ h => h)) (by have := HWr.out.lt; omega) (fun k e => by cases e)); have HA := Lib.hid (HA.out.below hb HA.out.lt); have A0 := HA.out.c0; have A1 := HA.out.c1; have A2 := HA.out.c2; have az := HA.out.lt; dsimp only at A0 A1 A2; have HW := Lib.hid (HW.out.trans (hb.mono HW.out.size)); clear hb))
    | (go_at_call 12; ((refine (HSM _).out.mono ?_); rintro e wz ⟨rfl, hb⟩; have HA := Lib.hid (HA.out.below hb HA.out.lt); have A0 := HA.out.c0; have A1 := HA.out.c1; have A2 := HA.out.c2; have az := HA.out.lt; dsimp only at A0 A1 A2; have HW := Lib.hid (HW.out.trans (hb.mono HW.out.size)); clear hb))
    | (go_at_call 15; have HAL := Lib.hid HA.out.lt; ((with_reducible refine (newWriter_any _).mono ?_); rintro e wz ⟨p, rfl, hp, hwr, hf⟩; have hb := hf.below (fun _ h => h.elim) (Nat.le_refl _); have HWr := Lib.hid hwr; have hAp := Nat.lt_of_lt_of_le HAL.out hp; have HY := Lib.hid (HY.out.below hb HY.out.lt); have y0 := HY.out.c0; have y1 := HY.out.c1; have y2 := HY.out.c2; have yz := HY.out.lt; dsimp only at y0 y1 y2; have HA := Lib.hid (HA.out.below hb HA.out.lt); have A0 := HA.out.c0; have A1 := HA.out.c1; have A2 := HA.out.c2; have az := HA.out.lt; dsimp only at A0 A1 A2; have HW := Lib.hid (HW.out.trans (hb.mono HW.out.size)); clear hb))
    | (go_at_call 17; ((refine (dput_any (WrX.new HWr.out (Fr.refl _ _) (Nat.le_refl _)) ⟨ak, ax, asx⟩ HHX.out (Nat.zero_le _)).mono ?_); rintro e wz ⟨rfl, hx3, hf⟩; rw [List.nil_append] at hx3; have HX3 := Lib.hid hx3; have hal := HA.out.lt; have hws := HW.out.size; have HA := Lib.hid (HA.out.fr hf (by omega)); have HW := Lib.hid (HW.out.trans (hf.below (fun i hi => by omega) hws)); have A0 := HA.out.c0; have A1 := HA.out.c1; have A2 := HA.out.c2; have az := HA.out.lt; dsimp only at A0 A1 A2; clear hx3 hf))
    | (go_at_call 23; ((with_reducible refine (HX3.out.bytes (Nat.le_trans HPL.out (by decide))).mono ?_); rintro e wz ⟨vb1, rfl, ho, hf⟩; have hb := hf.below (fun _ h => h.elim) (Nat.le_refl _); have HOA := Lib.hid (own_has ho); have HA := Lib.hid (HA.out.below hb HA.out.lt); have A0 := HA.out.c0; have A1 := HA.out.c1; have A2 := HA.out.c2; have az := HA.out.lt; dsimp only at A0 A1 A2; have HW := Lib.hid (HW.out.trans (hb.mono HW.out.size)); clear hb))
    | (go_at_call 16; have HAL := Lib.hid HA.out.lt; ((with_reducible refine (newReader_any HOA.out (Nat.le_trans HPL.out (by decide))).mono ?_); rintro e wz ⟨r, vr, rfl, hr, hrd, hf⟩; have hb := hf.below (fun _ h => h.elim) (Nat.le_refl _); have HR := Lib.hid hrd; have hAr := Nat.lt_of_lt_of_le HAL.out hr; have HA := Lib.hid (HA.out.below hb HA.out.lt); have A0 := HA.out.c0; have A1 := HA.out.c1; have A2 := HA.out.c2; have az := HA.out.lt; dsimp only at A0 A1 A2; have HW := Lib.hid (HW.out.trans (hb.mono HW.out.size)); clear hb))
    | (go_at_call 18; ((with_reducible refine (dget_is HR.out (fun k hk => Nat.lt_trans hk.2 HR.out.lt) HGP.out).mono ?_); rintro e w4 ⟨rfl, hrd, hf⟩; have hr4 := Lib.hid hrd.lt; have hws := HW.out.size; have HR := Lib.hid (hrd.fr (Fr.alloc (Fr.refl (fun _ => False) w4) (vobj ⟨ak, ax, asx⟩)) id (fun _ _ => id)); have HA := Lib.hid ((HA.out.fr hf (by omega)).below (below1 w4 (vobj ⟨ak, ax, asx⟩)) (HA.out.fr hf (by omega)).lt); have HZ := Lib.hid (at_new w4 ⟨ak, ax, asx⟩); have z0 := HZ.out.c0; have z1 := HZ.out.c1; have z2 := HZ.out.c2; have zz := HZ.out.lt; dsimp only at z0 z1 z2; have hw4 := HW.out.trans (hf.below (fun i hi => by omega) hws); have HW := Lib.hid (hw4.alloc hw4.size (vobj ⟨ak, ax, asx⟩)); have A0 := HA.out.c0; have A1 := HA.out.c1; have A2 := HA.out.c2; have az := HA.out.lt; dsimp only at A0 A1 A2; clear hrd hf hw4))
    | (go_at_call 20; ((with_reducible refine (end_is HR.out (fun _ => rfl) HEP.out).mono ?_); rintro e wz ⟨rfl, hrd, hf⟩; have hws := HW.out.size; have hz4 := hr4.out; have HA := Lib.hid (HA.out.fr hf (by omega)); have HZ := Lib.hid (HZ.out.fr hf (by omega)); have z0 := HZ.out.c0; have z1 := HZ.out.c1; have z2 := HZ.out.c2; have zz := HZ.out.lt; dsimp only at z0 z1 z2; have HW := Lib.hid (HW.out.trans (hf.below (fun i hi => by omega) hws)); have A0 := HA.out.c0; have A1 := HA.out.c1; have A2 := HA.out.c2; have az := HA.out.lt; dsimp only at A0 A1 A2; clear hrd hf)))
  go_ret
  exact ⟨rfl, HW.out⟩
set_option maxRecDepth 100000 in
set_option maxHeartbeats 8000000 in
theorem back_nn (w : World) (ak : Int) (ax : Nat) (asx : List UInt8) (s : List UInt8) (hT : Tabs w) (h1 : asx.length ≤ 2000) (h2 : s.length ≤ 2000) (_hx : ax < 18446744073709551616) (hwf : (⟨ak, ax, asx⟩ : DV).wf) (hf : (dparseV s).2 ≠ 0) (hm : mayV ⟨ak, ax, asx⟩ = false) :
    Calls Tryz.prog 5 #[vagg ⟨ak, ax, asx⟩, .string ⟨s.toArray⟩] w fun e w' => e = .returned (.bool true) ∧ Below w.heap.size w w' := by
  have HW := Lib.hid (below1 w (vobj ⟨ak, ax, asx⟩))
  have HA := Lib.hid (at_new w ⟨ak, ax, asx⟩)
  have HT := Lib.hid hT
  have HS := fun w => Lib.hid (small_any ⟨ak, ax, asx⟩ w)
  rw [decide_eq_true (by simp only; omega)] at HS
  have hst := run_stf
  have hsz : (⟨s.toArray⟩ : ByteArray).size = s.length := rfl
  have hc : ¬ (2000 : Int) < (s.length : Int) := by omega
  have hql : (quoteV s).length ≤ 10000 := by have := q1s_len s; unfold quoteV; rw [List.length_cons, List.length_append, List.length_cons, List.length_nil]; omega
  have HQ := fun w => Lib.hid (quote_any ⟨s.toArray⟩ (by rw [hsz]; omega) w)
  have HU := fun w => Lib.hid (unquote_any ⟨(quoteV s).toArray⟩ (show (quoteV s).length ≤ _ by omega) w)
  rw [show (⟨(quoteV s).toArray⟩ : ByteArray).data.toList = quoteV s from rfl, unq_quote] at HU
  rw [show (⟨s.toArray⟩ : ByteArray).data.toList = s from rfl] at HQ
  have HP1 := fun w => Lib.hid (dparse_any ⟨s.toArray⟩ (by rw [hsz]; exact h2) w)
  rw [show (⟨s.toArray⟩ : ByteArray).data.toList = s from rfl] at HP1
  have HM := fun w => Lib.hid (may_any ⟨ak, ax, asx⟩ w)
  rw [hm] at HM
  obtain ⟨D, hD⟩ : ∃ D, dparseV s = D := ⟨_, rfl⟩
  obtain ⟨⟨xk, xx, xs⟩, f⟩ := D
  rw [hD] at HP1 hf
  simp only at hf
  have hfe : (f == 0) = false := beq_eq_false_iff_ne.2 hf
  have HSM := fun w => Lib.hid (vsame_any ⟨ak, ax, asx⟩ ⟨ak, ax, asx⟩ hwf hwf w)
  rw [show sameB ⟨ak, ax, asx⟩ ⟨ak, ax, asx⟩ = false by unfold sameB; rw [hm]; rfl] at HSM
  clear hT h1 h2 hm hD
  go_enter Tryz.func5, Tryz.ntmps5
  go_wp2_with (first
    | (go_at_call 6; ((with_reducible refine (first_ex _ (HT.out.below HW.out)).mono ?_); rintro e wz ⟨rfl, hb⟩; have HA := Lib.hid (HA.out.below hb HA.out.lt); have A0 := HA.out.c0; have A1 := HA.out.c1; have A2 := HA.out.c2; have az := HA.out.lt; dsimp only at A0 A1 A2; have HW := Lib.hid (HW.out.trans (hb.mono HW.out.size)); clear hb))
    | (go_at_call 7; ((with_reducible refine ((HS _).out).mono ?_); rintro e wz ⟨rfl, hb⟩; have HA := Lib.hid (HA.out.below hb HA.out.lt); have A0 := HA.out.c0; have A1 := HA.out.c1; have A2 := HA.out.c2; have az := HA.out.lt; dsimp only at A0 A1 A2; have HW := Lib.hid (HW.out.trans (hb.mono HW.out.size)); clear hb))
    | (go_at_call 26; ((with_reducible refine ((HQ _).out).mono ?_); rintro e wz ⟨rfl, hb⟩; have HA := Lib.hid (HA.out.below hb HA.out.lt); have A0 := HA.out.c0; have A1 := HA.out.c1; have A2 := HA.out.c2; have az := HA.out.lt; dsimp only at A0 A1 A2; have HW := Lib.hid (HW.out.trans (hb.mono HW.out.size)); clear hb))
    | (go_at_call 25; ((with_reducible refine ((HU _).out).mono ?_); rintro e wz ⟨rfl, hb⟩; have HA := Lib.hid (HA.out.below hb HA.out.lt); have A0 := HA.out.c0; have A1 := HA.out.c1; have A2 := HA.out.c2; have az := HA.out.lt; dsimp only at A0 A1 A2; have HW := Lib.hid (HW.out.trans (hb.mono HW.out.size)); clear hb))
    | (go_at_call 27; ((with_reducible refine ((HP1 _).out).mono ?_); rintro e wz ⟨rfl, hb⟩; have hb := hb.alloc hb.size (vobj ⟨xk, xx, xs⟩); have HX := Lib.hid (at_new wz ⟨xk, xx, xs⟩); have x0 := HX.out.c0; have x1 := HX.out.c1; have x2 := HX.out.c2; have xz := HX.out.lt; dsimp only at x0 x1 x2; have HA := Lib.hid (HA.out.below hb HA.out.lt); have A0 := HA.out.c0; have A1 := HA.out.c1; have A2 := HA.out.c2; have az := HA.out.lt; dsimp only at A0 A1 A2; have HW := Lib.hid (HW.out.trans (hb.mono HW.out.size)); clear hb))
    | (go_at_call 29; ((with_reducible refine ((HM _).out).mono ?_); rintro e wz ⟨rfl, hb⟩; have HA := Lib.hid (HA.out.below hb HA.out.lt); have A0 := HA.out.c0; have A1 := HA.out.c1; have A2 := HA.out.c2; have az := HA.out.lt; dsimp only at A0 A1 A2; have HW := Lib.hid (HW.out.trans (hb.mono HW.out.size)); clear hb))
    | (go_at_call 12; ((with_reducible refine ((HSM _).out).mono ?_); rintro e wz ⟨rfl, hb⟩; have HA := Lib.hid (HA.out.below hb HA.out.lt); have A0 := HA.out.c0; have A1 := HA.out.c1; have A2 := HA.out.c2; have az := HA.out.lt; dsimp only at A0 A1 A2; have HW := Lib.hid (HW.out.trans (hb.mono HW.out.size)); clear hb)))
  go_ret
  exact ⟨rfl, HW.out⟩
theorem datumBack_walk (w : World) (v : DV) (uv : v.wf) (s : List UInt8) (_ : s.length ≤ 9223372036854775807) (hT : Tabs w) :
    Calls Tryz.prog 5 #[vagg v, .string ⟨s.toArray⟩] w fun e w' => e = .returned (.bool true) ∧ Below w.heap.size w w' := by
  obtain ⟨ak, ax, asx⟩ := v
  rcases Nat.lt_or_ge 2000 asx.length with h1 | h1
  · exact back_first1 w ak ax asx _ hT h1
  rcases Nat.lt_or_ge 2000 s.length with h2 | h2
  · exact back_first2 w ak ax asx _ hT h1 h2
  by_cases hf : (dparseV s).2 = 0 <;> cases hm : mayV ⟨ak, ax, asx⟩
  · exact back_yn w ak ax asx s hT h1 h2 uv.2.1 uv hf hm
  · exact back_yy w ak ax asx s hT h1 h2 uv.2.1 uv hf hm
  · exact back_nn w ak ax asx s hT h1 h2 uv.2.1 uv hf hm
  · exact back_ny w ak ax asx s hT h1 h2 uv.2.1 uv hf hm

set_option maxRecDepth 100000 in
theorem datumBack_lifted (os : Os) (started : os.Started) (H : Type) (enc : TypeId × Value → H) :
    ReturnsInHanded {} Tryz.checked os 5 .any (fun w args => (Rows.datumBackSpec.pre enc Tryz.prog Tryz.f5 [] false w args ∧ laidMetH Tryz.prog laid3 w) ∧ sizedMet enc Tryz.prog Tryz.f5 (OpenSpec.ofChange Rows.datumBackSpec) false w args)
      (Rows.datumBackSpec.post enc Tryz.prog Tryz.f5 false true false false) := by
  refine returnsInHanded_of_change_and (C := Tryz.checked) (X := fun w _ => laidMetH Tryz.prog laid3 w) (fun _ _ _ hh h => h.of_heap hh) own started (by kernel_rfl) Tryz.func5
    (ChangeSpec.witness_shaped (enc := enc) (C := Tryz.checked) (os := os) (X := fun w _ => laidMetH Tryz.prog laid3 w) false (World.doorLaid Tryz.prog 400 os) #[.agg #[.int .i64 0, .float .f64 0, .string ⟨#[]⟩], .string ⟨#[]⟩] 8 rfl (World.shaped_of_RefB (by kernel_rfl) (by kernel_rfl)) (by kernel_rfl) (by kernel_rfl) (by kernel_rfl) (door_met os _)) ?_
  intro W base args ds gs before hval0 hW _ _ hL _
  have hval : ∀ (j : Nat) t v, Tryz.f5.params[j]? = some t → args[j]? = some v → Value.okWide Tryz.prog W .any base t v := hval0
  have hW' := hW
  obtain ⟨p, q, hA0, hV, rfl, hfz, hnd⟩ := hW
  have hA : DataW.TrodAll enc Tryz.prog W 0 (fun _ => true) true Tryz.f5.params.toList args.toList ds p := hA0
  rw [Tryz.params5] at hA hval
  obtain ⟨v0, v1, d0, d1, p0, p1, rfl, rfl, rfl, h0, h1⟩ := trodAll_two hA
  obtain ⟨rfl, rfl⟩ := trodVars_none hV
  clear hA0 hval0
  simp only [List.append_nil] at hW'
  have hlt : ∀ x ∈ p0 ++ p1, x.block < W.heap.size := fun x hx => hW'.lt x (by simpa using hx)
  have hT := tabs_of_laid hL
  have k0 := h0
  obtain ⟨x0, rfl, rfl, u0⟩ := open_val (hval 0 24 v0 rfl rfl) h0
  have k1 := h1
  obtain ⟨s1, rfl, rfl, rfl, wf1⟩ := ChangeMaps.open_string Tryz.underlying9 (hval 1 9 v1 rfl rfl) h1
  have hwf1 : s1.data.toList.length ≤ 9223372036854775807 := by
    have e : s1.data.toList.length = s1.size := by rw [Array.length_toList]; rfl
    rw [e]; unfold maxLen at wf1; omega
  refine Calls.mono (?walk : Calls _ _ _ _ fun e w' => e = .returned (.bool true) ∧ Below W.heap.size W w') fun e W' ⟨he, hw⟩ => ?_
  case walk =>
    rw [← bytes_self s1]
    exact datumBack_walk W x0 u0 s1.data.toList hwf1 hT
  subst he
  exact ⟨_, rfl, post_of_below (pa := [] ++ []) (pv := []) hW' (fun _ _ _ => trodAll_mk1 (shut_bool Tryz.underlying4 _)) (fun sp hsp => trodAll_mk2 (WideElems.Trod_stays laidOut3 (by kernel_rfl) (of_decide_eq_true (by kernel_rfl)) k0 (fun x hx => hw.same (hlt x (by first | (simp [hx]; done) | exact nomatch hx))) (fun x hx => hsp x (by first | (simp [hx]; done) | exact nomatch hx))) (WideElems.Trod_stays laidOut3 (by kernel_rfl) (of_decide_eq_true (by kernel_rfl)) k1 (fun x hx => hw.same (hlt x (by first | (simp [hx]; done) | exact nomatch hx))) (fun x hx => hsp x (by first | (simp [hx]; done) | exact nomatch hx)))) (fun _ _ => rfl) (by simp) hw (ok_one (by kernel_rfl) rfl (okWide_bool_mk Tryz.underlying4 _))⟩
theorem datumBack_holds : Rows.DatumBackSaid :=
  OpenClaim.holds_of_wide 5 Tryz.f5 rfl rfl rfl rfl rfl rfl rfl ⟨rfl, rfl, rfl, rfl, rfl⟩ rfl rfl rfl rfl rfl (by kernel_rfl) Tryz.func5 (by kernel_rfl)
    (of_decide_eq_true (by kernel_rfl)) (by unfold Func.isWrapper; first | (rw [if_pos (by decide +kernel)]; kernel_rfl) | (rw [if_neg (by decide +kernel)]; exact ⟨rfl, rfl⟩))
    (fun os started H enc _ => datumBack_lifted os started H enc)
/-- THE TIED CARD. -/
theorem datumBack_card : Rows.DatumBackCardSaid :=
  Claim7.holds_tied_plain_at .later [] [.data, .data, .data] true (true, "ad566913e74d85a7beddde3228583cfa7c9eda3ab28821132b9a3e8e5ad2af56") false
    datumBack_holds (fun _ h => by cases h) (by kernel_rfl) (fun _ h => by cases h) datumBack_row_tie rfl ⟨rfl, rfl⟩ (by kernel_rfl) rfl
    (fun f fn hf hfn => by
      obtain rfl : f = 5 := Option.some.inj ((show Tryz.prog.funcNamed "headrace/racelaw3.DatumBack" = some 5 by kernel_rfl).symm.trans hf) |>.symm
      obtain rfl : fn = Tryz.f5 := (Option.some.inj (Tryz.func5.symm.trans hfn)).symm
      exact ⟨by kernel_rfl, fun j t ht => by
        rw [Tryz.params5] at ht
        have hm : t ∈ [24, 9] := by simpa using Array.mem_of_getElem? ht
        have hall : ([24, 9].all fun u => !Tryz.prog.wantsStandIn u) = true := by kernel_rfl
        exact (show Tryz.prog.wantsStandIn t = false by simpa using List.all_eq_true.1 hall t hm)⟩)
    (by kernel_rfl)
#print axioms datumBack_card
end Go.Proofs.YtjkfcmadoeifgaaGreatDoor
