/- datum.parseText, Parse of a quoted text, Print of a number; what the chapter's examples fix. Conditions: the library's tables hold what their initialisers lay. -/
import Derived.Test.YtbgccaconhmbaaaGreatDoorJUq
import Derived.Test.YtbgccaconhmbaaaGreatDoorJS
namespace Go.Proofs.YtbgccaconhmbaaaGreatDoor
open Go.RowKit
def ptV (l : List UInt8) : DV × Int := match unqV l with | none => (DV.none, 4) | some t => if 64 < t.length then (DV.none, 2) else (⟨2, 0, t⟩, 0)
theorem parseText_any (s : ByteArray) (hs : s.size ≤ 140737488355328) (w : World) :
    Calls Tryz.prog 129 #[.string s] w fun e w' => e = .returned (.tuple #[vagg (ptV s.data.toList).1, .int .i64 (ptV s.data.toList).2]) ∧ Below w.heap.size w w' := by
  have hst := run_stf
  have HU := fun w => Lib.hid (unquote_any s hs w)
  have H1 := Lib.hid (below1 w (vobj DV.none))
  have HT := Lib.hid (at_new w DV.none)
  unfold ptV
  cases hu : unqV s.data.toList with
  | none =>
    rw [hu] at HU
    clear hu hs
    go_enter Tryz.func129, Tryz.ntmps129
    go_wp2_with (first
      | (go_at_call 128; ((with_reducible refine (HU _).out.mono ?_); rintro e w1 ⟨rfl, hb⟩; have hz := HT.out.below hb HT.out.lt; have d3 := hz.c0; have d4 := hz.c1; have d5 := hz.c2; have g0 := hz.f0; have g1 := hz.f1; have g2 := hz.f2; have HZ := Lib.hid hz; have HB1 := Lib.hid (H1.out.trans (hb.mono H1.out.size)); clear hb hz)))
    exact bodyPost_ret (res_pair rfl _ rfl (HZ.out.setAll DV.none)) rfl ⟨rfl, below_set3 HB1.out (Nat.le_refl _) _ _ _⟩
  | some t =>
    rw [hu] at HU
    clear hu hs
    simp only [unqS, unqE] at HU
    simp only
    by_cases h64 : 64 < t.length
    · have h64' : (64 : Int) < (t.length : Int) := by omega
      rw [if_pos h64]
      go_enter Tryz.func129, Tryz.ntmps129
      go_wp2_with (first
        | (go_at_call 128; ((with_reducible refine (HU _).out.mono ?_); rintro e w1 ⟨rfl, hb⟩; have hz := HT.out.below hb HT.out.lt; have d3 := hz.c0; have d4 := hz.c1; have d5 := hz.c2; have g0 := hz.f0; have g1 := hz.f1; have g2 := hz.f2; have HZ := Lib.hid hz; have HB1 := Lib.hid (H1.out.trans (hb.mono H1.out.size)); clear hb hz)))
      exact bodyPost_ret (res_pair rfl _ rfl (HZ.out.setAll DV.none)) rfl ⟨rfl, below_set3 HB1.out (Nat.le_refl _) _ _ _⟩
    · have h64' : ¬ (64 : Int) < (t.length : Int) := by omega
      rw [if_neg h64]
      have hw : wordsV t = ⟨2, 0, t⟩ := by unfold wordsV; rw [if_neg h64]
      have HW := fun w => Lib.hid (words_any t w)
      rw [hw] at HW
      go_enter Tryz.func129, Tryz.ntmps129
      go_wp2_with (first
        | (go_at_call 128; ((with_reducible refine (HU _).out.mono ?_); rintro e w1 ⟨rfl, hb⟩; have HZ0 := Lib.hid (HT.out.below hb HT.out.lt); have HB0 := Lib.hid (H1.out.trans (hb.mono H1.out.size)); clear hb))
        | (go_at_call 167; refine (HW _).out.mono ?_; rintro e w2 ⟨rfl, hb⟩; have hz := HZ0.out.below hb HZ0.out.lt; have d3 := hz.c0; have d4 := hz.c1; have d5 := hz.c2; have g0 := hz.f0; have g1 := hz.f1; have g2 := hz.f2; have HZ := Lib.hid hz; have HB1 := Lib.hid (HB0.out.trans (hb.mono HB0.out.size)); clear hb hz))
      exact bodyPost_ret (res_pair rfl _ rfl (HZ.out.setAll ⟨2, 0, t⟩)) rfl ⟨rfl, below_set3 HB1.out (Nat.le_refl _) _ _ _⟩
theorem parse_quoted (s : ByteArray) (hs : s.size ≤ 140737488355328) (hq : Lib.hasPrefix s.data.toList [34] = true) (w : World) :
    Calls Tryz.prog 96 #[.string s] w fun e w' => e = .returned (.tuple #[vagg (ptV s.data.toList).1, .int .i64 (ptV s.data.toList).2]) ∧ Below w.heap.size w w' := by
  have hst := run_stf
  have HP := fun w => Lib.hid (Tryz.strings_HasPrefix s ⟨#[34]⟩ w)
  rw [show (⟨#[34]⟩ : ByteArray).data.toList = [34] from rfl, hq] at HP
  have HU := fun w => Lib.hid (parseText_any s hs w)
  have H1 := Lib.hid (below1 w (vobj DV.none))
  have HT := Lib.hid (at_new w DV.none)
  clear hq hs
  generalize ptV s.data.toList = R at *
  obtain ⟨⟨k, x, l⟩, n⟩ := R
  go_enter Tryz.func96, Tryz.ntmps96
  go_wp2_with (first
    | (go_at_call 126; refine (HP _).out.mono ?_; rintro e w1 ⟨rfl, hww⟩; obtain rfl := hww.symm)
    | (go_at_call 129; ((with_reducible refine (HU _).out.mono ?_); rintro e w1 ⟨rfl, hb⟩; have hz := HT.out.below hb HT.out.lt; have d3 := hz.c0; have d4 := hz.c1; have d5 := hz.c2; have g0 := hz.f0; have g1 := hz.f1; have g2 := hz.f2; have HZ := Lib.hid hz; have HB1 := Lib.hid (H1.out.trans (hb.mono H1.out.size)); clear hb hz)))
  exact bodyPost_ret (res_pair rfl _ rfl (HZ.out.setAll ⟨k, x, l⟩)) rfl ⟨rfl, below_set3 HB1.out (Nat.le_refl _) _ _ _⟩
theorem print_number (x : Nat) (hx : x < 18446744073709551616) (hc : canon x = x) (w : World) (hT : Tabs w) :
    Calls Tryz.prog 101 #[vagg ⟨1, x, []⟩] w fun e w' => e = .returned (.string ⟨(textN x).toArray⟩) ∧ Below w.heap.size w w' := by
  have hm : mayV ⟨1, x, []⟩ = true := by
    have e : mayV ⟨1, x, []⟩ = (x == canon x && ([] : List UInt8) == []) := rfl
    rw [e, hc]; simp
  have HM := fun w => Lib.hid (may_any ⟨1, x, []⟩ w)
  rw [hm] at HM
  have H1 := Lib.hid (below1 w (vobj ⟨1, x, []⟩))
  have HA := Lib.hid (at_new w ⟨1, x, []⟩)
  have HTB := Lib.hid hT
  have HX := Lib.hid hx
  clear hx hc hm hT
  go_enter Tryz.func101, Tryz.ntmps101
  go_wp2_with (first
    | (go_at_call 69; ((with_reducible refine (HM _).out.mono ?_); rintro e w1 ⟨rfl, hb⟩; have hz := HA.out.below hb HA.out.lt; have d3 := hz.c0; have d4 := hz.c1; have HB1 := Lib.hid (H1.out.trans (hb.mono H1.out.size)); clear hb hz))
    | (go_at_call 137; refine (print_any _ HX.out _ (HTB.out.below HB1.out)).mono ?_; rintro e w2 ⟨rfl, hb⟩; have HB2 := Lib.hid (HB1.out.trans (hb.mono HB1.out.size)); clear hb))
  go_ret
  exact ⟨rfl, HB2.out⟩
theorem ex_text : textN 4611686018427387904 = [49, 112, 49] := by
  have hc : clsN 4611686018427387904 = 7 := by decide +kernel
  rw [textN_pos (.inr hc)]
  have ho : oddN (4611686018427387904 % 9223372036854775808) = 1 := by decide +kernel
  have hp : powN (4611686018427387904 % 9223372036854775808) = 1 := by decide +kernel
  unfold numT digT powT
  rw [ho, hp, show (1 : Int) = ((1 : Nat) : Int) from rfl, Lib.itoa_nonneg, Lib.decDigits_one (by decide)]
  rfl
theorem ex_parse : ptV [34, 97, 34] = (⟨2, 0, [97]⟩, 0) := by decide +kernel
theorem ex_plus : plusV DV.none ⟨1, 4611686018427387904, []⟩ = (⟨1, 4611686018427387904, []⟩, 0) := by decide +kernel
end Go.Proofs.YtbgccaconhmbaaaGreatDoor
