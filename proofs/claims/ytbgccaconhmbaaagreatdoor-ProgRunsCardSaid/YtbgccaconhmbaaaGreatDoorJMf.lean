/- number, isTrue; what a machine gives up with; need, test, compare, reckon. Conditions: bits below 2^64 where values are compared or reckoned. A machine's reckon, at each function. Conditions: bits below 2^64. A machine's reckon at a text. Conditions: none. A machine does a step. Conditions: values below 2^64, keys as Go has them. A machine writes a value, or None. Conditions: keys as Go has them. raceref9.truth, raceref3.Number, raceref9.bit. Conditions: bits below 2^64. -/
import Derived.Test.YtbgccaconhmbaaaGreatDoorJMc
import Derived.Test.YtbgccaconhmbaaaGreatDoorJA
import Derived.WalkLawsBesides
import Derived.Deep.RegionHeld
import Derived.Deep.RegionHeld3
import Derived.Test.YtbgccaconhmbaaaGreatDoorJD
namespace Go.Proofs.YtbgccaconhmbaaaGreatDoor
open Go.ChangeShapes Go.WideShapes Go.ChangeAt Go.RowKit Go.Deep
section
open Ieee
theorem neq_zero (b : Nat) : (double.order b 0 != some .eq) = !(b % 9223372036854775808 == 0) := by
  by_cases hf : b % 9223372036854775808 < infR
  · obtain ⟨mag, up, hr, hz⟩ := read_fin hf
    generalize (b / 9223372036854775808 % 2 == 1) = sg at hr
    unfold Format.order
    rw [hr, read_zero]
    simp only [Datum.order]
    have e : min (-1074 + (up : Int)) (-1074) = -1074 := by omega
    have e2 : (-1074 + (up : Int) - -1074).toNat = up := by omega
    have e3 : ((-1074 : Int) - -1074).toNat = 0 := by omega
    rw [e, e2, e3, signed_pos]
    by_cases h0 : b % 9223372036854775808 = 0
    · have hm := hz.2 h0
      subst hm
      have e4 : signed sg 0 up = 0 := by cases sg <;> simp [signed]
      rw [e4, h0]
      rfl
    · have hm : mag ≠ 0 := fun e => h0 (hz.1 e)
      have hp : 0 < mag * 2 ^ up := Nat.mul_pos (by omega) (Nat.two_pow_pos _)
      have hb : (b % 9223372036854775808 == 0) = false := by rw [beq_eq_false_iff_ne]; exact h0
      rw [hb]
      have hc : compare (signed sg mag up) ((0 * 2 ^ 0 : Nat) : Int) ≠ .eq := by
        rw [Ne, Int.compare_eq_eq]
        cases sg
        · rw [signed_pos]; omega
        · rw [signed_neg]; omega
      cases hcc : compare (signed sg mag up) ((0 * 2 ^ 0 : Nat) : Int)
      · rfl
      · exact absurd hcc hc
      · rfl
  · have hb : (b % 9223372036854775808 == 0) = false := by rw [beq_eq_false_iff_ne]; unfold infR at hf; omega
    rw [hb]
    unfold Format.order
    rw [read_zero, read_eq b]
    have h1 : ¬ b % 9223372036854775808 < 4503599627370496 := by unfold infR at hf; omega
    rw [if_neg h1, if_neg hf]
    by_cases h2 : b % 9223372036854775808 = infR
    · rw [if_pos h2]
      cases (b / 9223372036854775808 % 2 == 1) <;> rfl
    · rw [if_neg h2]
      rfl
end
/-- A fault that goes up. -/
abbrev flt (e : Int) : List PanicEntry := [{ v := .iface 76 (.agg #[.int .i64 e]), recovered := false }]
theorem number_text (v : DV) (h : v.k = 2) (w : World) : Calls Tryz.prog 114 #[vagg v] w fun e w' => e = .panicked (flt 23) ∧ Below w.heap.size w w' := by
  obtain ⟨k, x, s⟩ := v
  simp only at h
  subst h
  go_enter Tryz.func114, Tryz.ntmps114
  go_wp2
  exact ⟨rfl, rfl, below1 _ _⟩
theorem number_num (v : DV) (h : v.k ≠ 2) (w : World) : Calls Tryz.prog 114 #[vagg v] w fun e w' => e = .returned (.float .f64 v.x) ∧ Below w.heap.size w w' := by
  obtain ⟨k, x, s⟩ := v
  simp only at h
  have hb : (k == 2) = false := by rw [beq_eq_false_iff_ne]; exact h
  clear h
  go_enter Tryz.func114, Tryz.ntmps114
  go_wp2
  go_ret
  exact ⟨rfl, below1 _ _⟩
theorem isTrue_any (v : DV) (w : World) : Calls Tryz.prog 118 #[vagg v] w fun e w' => e = .returned (.bool (truthV v)) ∧ Below w.heap.size w w' := by
  obtain ⟨k, x, s⟩ := v
  by_cases h1 : k = 1
  · subst h1
    have e : truthV ⟨1, x, s⟩ = (!(x % 9223372036854775808 == 0) && !nanB x) := rfl
    rw [e, ← neq_zero]
    clear e
    have hy := isNaN_yes x
    have hn := isNaN_no x
    cases hq : (Ieee.double.order x 0 != some .eq)
    · have hq' : (FloatKind.f64.format.order x 0 != some .eq) = false := hq
      clear hy hn hq
      go_enter Tryz.func118, Tryz.ntmps118
      go_wp2_with (fail)
      go_ret
      exact ⟨rfl, below1 _ _⟩
    · have hq' : (FloatKind.f64.format.order x 0 != some .eq) = true := hq
      have HX := Lib.hid (at_new w ⟨1, x, s⟩)
      have q1 := HX.out.c1
      clear hq
      cases hb : nanB x
      · have HN := fun w => Lib.hid (hn w hb)
        clear hy hn hb
        go_enter Tryz.func118, Tryz.ntmps118
        go_wp2_with (go_at_call 152; ((with_reducible refine (HN _).out.mono ?_); rintro e w' ⟨rfl, rfl⟩))
        go_ret
        exact ⟨rfl, below1 _ _⟩
      · have HN := fun w => Lib.hid (hy w hb)
        clear hy hn hb
        go_enter Tryz.func118, Tryz.ntmps118
        go_wp2_with (go_at_call 152; ((with_reducible refine (HN _).out.mono ?_); rintro e w' ⟨rfl, rfl⟩))
        go_ret
        exact ⟨rfl, below1 _ _⟩
  have b1 : (k == 1) = false := by rw [beq_eq_false_iff_ne]; exact h1
  by_cases h2 : k = 2
  · subst h2
    have e : truthV ⟨2, x, s⟩ = !(s == []) := rfl
    rw [e]
    clear e h1
    cases hs : s == []
    · have hs' : (s != []) = true := by simp [bne, hs]
      go_enter Tryz.func118, Tryz.ntmps118
      go_wp2
      go_ret
      exact ⟨rfl, below1 _ _⟩
    · obtain rfl : s = [] := by simpa using hs
      go_enter Tryz.func118, Tryz.ntmps118
      go_wp2
      go_ret
      exact ⟨rfl, below1 _ _⟩
  have b2 : (k == 2) = false := by rw [beq_eq_false_iff_ne]; exact h2
  have e : truthV ⟨k, x, s⟩ = false := by unfold truthV; rw [if_neg h1, if_neg h2]
  rw [e]
  clear h1 h2 e
  go_enter Tryz.func118, Tryz.ntmps118
  go_wp2
  go_ret
  exact ⟨rfl, below1 _ _⟩
section
variable {C : Nat → Prop} {b : Nat} {w : World} {st : List DV} {wr : Ent DV} {sn : Mm}
theorem need_any (h : Mch C w b st wr sn) (h1 : 1 ≤ st.length) (hl : st.length ≤ 1000000) :
    Calls Tryz.prog 85 #[.pointer (some ⟨b, 0, none⟩)] w fun e w' => (e = if truthV (pop1 st) = true then .returned (.tuple #[]) else .panicked (flt 22)) ∧ Did C w b (rest1 st) wr sn w' := by
  have HP := Lib.hid (pop_any h h1 hl)
  have HT := fun w => Lib.hid (isTrue_any (pop1 st) w)
  generalize pop1 st = x at *
  clear h h1 hl
  cases ht : truthV x
  · rw [ht] at HT
    rw [if_neg (by decide)]
    clear ht
    obtain ⟨k, u, s⟩ := x
    go_enter Tryz.func85, Tryz.ntmps85
    go_wp2_with (first
      | (go_at_call 75; ((with_reducible refine HP.out.mono ?_); rintro e w1 ⟨rfl, hd⟩; have HD := Lib.hid hd; clear hd))
      | (go_at_call 118; ((with_reducible refine (HT _).out.mono ?_); rintro e w2 ⟨rfl, h2⟩; have HD := Lib.hid (HD.out.below h2); clear h2)))
    exact ⟨rfl, rfl, HD.out⟩
  · rw [ht] at HT
    rw [if_pos rfl]
    clear ht
    obtain ⟨k, u, s⟩ := x
    go_enter Tryz.func85, Tryz.ntmps85
    go_wp2_with (first
      | (go_at_call 75; ((with_reducible refine HP.out.mono ?_); rintro e w1 ⟨rfl, hd⟩; have HD := Lib.hid hd; clear hd))
      | (go_at_call 118; ((with_reducible refine (HT _).out.mono ?_); rintro e w2 ⟨rfl, h2⟩; have HD := Lib.hid (HD.out.below h2); clear h2)))
    go_end0
    exact ⟨rfl, HD.out⟩
theorem test_any (h : Mch C w b st wr sn) (f : Bool) (hl : st.length ≤ 1000000) :
    Calls Tryz.prog 83 #[.pointer (some ⟨b, 0, none⟩), .bool f] w fun e w' => e = .returned (.tuple #[]) ∧ Did C w b (st ++ [bitV f]) wr sn w' := by
  have HP := fun w' hb => Lib.hid (push_any (h.below (w' := w') hb) (bitV f) hl)
  have HL := Lib.hid hl
  clear h hl
  cases f
  all_goals
    go_enter Tryz.func83, Tryz.ntmps83
    go_wp2_with (first
      | (go_at_call 113; ((refine (number_any _ _).mono ?_); rintro e w1 ⟨rfl, h2⟩; have HB := Lib.hid h2; have HP := Lib.hid (HP _ h2).out; clear h2))
      | (go_at_call 73; ((refine HP.out.mono ?_); rintro e w2 ⟨rfl, hd⟩; have HD := Lib.hid hd; clear hd)))
    go_end0
    exact ⟨rfl, HD.out.way (Way.of_below HB.out)⟩
theorem mcompare_any (h : Mch C w b st wr sn) (h2 : 2 ≤ st.length) (hl : st.length ≤ 1000000) (w1 : (pop1 st).wf) (w2 : (pop2 st).wf) :
    Calls Tryz.prog 84 #[.pointer (some ⟨b, 0, none⟩)] w fun e w' => e = .returned (.int .i64 (compV (pop2 st) (pop1 st))) ∧ Did C w b (rest2 st) wr sn w' := by
  have hst := run_stf
  have HP := Lib.hid (pair_any h h2 hl)
  have HC := fun w => Lib.hid (vcompare_any _ _ w2 w1 w)
  generalize pop1 st = x at *
  generalize pop2 st = y at *
  clear h h2 hl w1 w2
  generalize compV y x = c at *
  obtain ⟨k, u, s⟩ := x
  obtain ⟨k', u', s'⟩ := y
  go_enter Tryz.func84, Tryz.ntmps84
  go_wp2_with (first
    | (go_at_call 86; ((with_reducible refine HP.out.mono ?_); rintro e w1 ⟨rfl, hd⟩; have HD := Lib.hid (hd.below (below2 w1 (vobj ⟨k', u', s'⟩) (vobj ⟨k, u, s⟩))); have A0 := Lib.hid (at_two w1 ⟨k', u', s'⟩ ⟨k, u, s⟩); have q0 := A0.out.1.c0; have q1 := A0.out.1.c1; have q2 := A0.out.1.c2; have r0 := A0.out.2.c0; have r1 := A0.out.2.c1; have r2 := A0.out.2.c2; clear hd))
    | (go_at_call 117; ((with_reducible refine (HC _).out.mono ?_); rintro e w2 ⟨rfl, hb⟩; have HD := Lib.hid (HD.out.below hb); clear hb)))
  go_ret
  exact ⟨rfl, HD.out⟩
end
end Go.Proofs.YtbgccaconhmbaaaGreatDoor
namespace Go.Proofs.YtbgccaconhmbaaaGreatDoor
open Go.ChangeShapes Go.WideShapes Go.ChangeAt Go.RowKit Go.Deep
section
variable {C : Nat → Prop} {b : Nat} {w : World} {st : List DV} {wr : Ent DV} {sn : Mm}
set_option maxRecDepth 100000 in
set_option maxHeartbeats 4000000 in
theorem reckon5_ok (h : Mch C w b st wr sn) (h2 : 2 ≤ st.length) (hl : st.length ≤ 1000000) (k1 : (pop1 st).k ≠ 2) (k2 : (pop2 st).k ≠ 2) (_ : (pop1 st).x < 18446744073709551616) (_ : (pop2 st).x < 18446744073709551616) :
    Calls Tryz.prog 76 #[.pointer (some ⟨b, 0, none⟩), .func (.func 77) #[] #[]] w fun e w' => e = .returned (.tuple #[]) ∧ Did C w b (rest2 st ++ [⟨1, canon (ariN 5 (pop2 st).x (pop1 st).x), []⟩]) wr sn w' := by
  have hst := run_stf
  have HP := Lib.hid (pair_any h h2 hl)
  have hr := rest2_length h2
  have HL : Hid ((rest2 st).length ≤ 1000000) := Lib.hid (by omega)
  have HN1 := fun w => Lib.hid (number_num _ k1 w)
  have HN2 := fun w => Lib.hid (number_num _ k2 w)
  have HR : Hid (ariN 5 (pop2 st).x (pop1 st).x = ariN 5 (pop2 st).x (pop1 st).x) := Lib.hid rfl
  have HF : Hid (∀ w, Calls Tryz.prog 77 #[.float .f64 (pop2 st).x, .float .f64 (pop1 st).x] w fun e w' => e = .returned (.float .f64 (ariN 5 (pop2 st).x (pop1 st).x)) ∧ Below w.heap.size w w') := Lib.hid fun w => (add_any _ _ w).mono fun e w' ⟨h, n, hw⟩ => ⟨h, hw ▸ drewB' w n⟩
  have HLT := Lib.hid h.lt
  clear h h2 hl k1 k2 HR hr
  generalize ariN 5 (pop2 st).x (pop1 st).x = r at *
  generalize pop1 st = x at *
  generalize pop2 st = y at *
  generalize rest2 st = st2 at *
  obtain ⟨k, u, s⟩ := x
  obtain ⟨k', u', s'⟩ := y
  simp only at HF HN1 HN2
  go_enter Tryz.func76, Tryz.ntmps76
  go_wp2_with (go_at_call 86; ((with_reducible refine HP.out.mono ?_); rintro e w1 ⟨rfl, C1, hm, hw⟩; have HM := Lib.hid ((hm.below (below2 w1 (vobj ⟨k', u', s'⟩) (vobj ⟨k, u, s⟩))).below (Below.refl _ _).drew); have HWY := Lib.hid ((hw.below (below2 w1 (vobj ⟨k', u', s'⟩) (vobj ⟨k, u, s⟩))).below (Below.refl _ _).drew); have A0 := Lib.hid (at_two w1 ⟨k', u', s'⟩ ⟨k, u, s⟩); have HA := Lib.hid A0.out.1.drew; have HB := Lib.hid A0.out.2.drew; have HS := Lib.hid hw.tn.size; have NA := Lib.hid (show ¬ C1 w1.heap.size from fun e => absurd (hm.lt _ e) (Nat.lt_irrefl _)); have NB := Lib.hid (show ¬ C1 (w1.heap.size + 1) from fun e => absurd (hm.lt _ e) (by omega)); clear hm hw A0))
  go_region_held (fun w' => w'.cell? ⟨w1.heap.size, 0, none⟩ = some (.int .i64 k') ∧ w'.cell? ⟨w1.heap.size, 1, none⟩ = some (.float .f64 u') ∧ w'.cell? ⟨w1.heap.size, 2, none⟩ = some (.string ⟨s'.toArray⟩) ∧ w'.cell? ⟨w1.heap.size + 1, 0, none⟩ = some (.int .i64 k) ∧ w'.cell? ⟨w1.heap.size + 1, 1, none⟩ = some (.float .f64 u) ∧ w'.cell? ⟨w1.heap.size + 1, 2, none⟩ = some (.string ⟨s.toArray⟩)) (exact ⟨HA.out.c0, HA.out.c1, HA.out.c2, HB.out.c0, HB.out.c1, HB.out.c2⟩) (first
    | (go_at_call 114; first
      | (with_reducible refine (HN2 _).out.mono ?_; rintro e w6 ⟨rfl, hb⟩; have HA := Lib.hid (HA.out.below hb HA.out.lt); have HB := Lib.hid (HB.out.below hb HB.out.lt); have HM := Lib.hid (HM.out.below hb); have HWY := Lib.hid (HWY.out.below hb); clear hb)
      | (with_reducible refine (HN1 _).out.mono ?_; rintro e w6 ⟨rfl, hb⟩; have HA := Lib.hid (HA.out.below hb HA.out.lt); have HB := Lib.hid (HB.out.below hb HB.out.lt); have HM := Lib.hid (HM.out.below hb); have HWY := Lib.hid (HWY.out.below hb); clear hb))
    | (go_at_call 77; with_reducible refine (HF.out _).mono ?_; rintro e w6 ⟨rfl, hb⟩; have HA := Lib.hid (HA.out.below hb HA.out.lt); have HB := Lib.hid (HB.out.below hb HB.out.lt); have HM := Lib.hid (HM.out.below hb); have HWY := Lib.hid (HWY.out.below hb); clear hb)
    | (go_at_call 113; refine (number_any _ _).mono ?_; rintro e w6 ⟨rfl, hb⟩; have HA := Lib.hid (HA.out.below hb HA.out.lt); have HB := Lib.hid (HB.out.below hb HB.out.lt); have HM := Lib.hid (HM.out.below hb); have HWY := Lib.hid (HWY.out.below hb); clear hb)
    | (go_at_call 73; refine (push_any HM.out ⟨1, canon r, []⟩ HL.out).mono ?_; rintro e w6 ⟨rfl, C2, hm, hw⟩; have HA := Lib.hid (hw.at_dv HA.out NA.out); have HB := Lib.hid (hw.at_dv HB.out NB.out); have HM := Lib.hid hm; have HWY := Lib.hid (HWY.out.trans hw); clear hm hw))
  all_goals go_wp2
  all_goals go_end0
  all_goals exact ⟨rfl, _, HM.out, HWY.out⟩
set_option maxRecDepth 100000 in
set_option maxHeartbeats 4000000 in
theorem reckon6_ok (h : Mch C w b st wr sn) (h2 : 2 ≤ st.length) (hl : st.length ≤ 1000000) (k1 : (pop1 st).k ≠ 2) (k2 : (pop2 st).k ≠ 2) (_ : (pop1 st).x < 18446744073709551616) (_ : (pop2 st).x < 18446744073709551616) :
    Calls Tryz.prog 76 #[.pointer (some ⟨b, 0, none⟩), .func (.func 78) #[] #[]] w fun e w' => e = .returned (.tuple #[]) ∧ Did C w b (rest2 st ++ [⟨1, canon (ariN 6 (pop2 st).x (pop1 st).x), []⟩]) wr sn w' := by
  have hst := run_stf
  have HP := Lib.hid (pair_any h h2 hl)
  have hr := rest2_length h2
  have HL : Hid ((rest2 st).length ≤ 1000000) := Lib.hid (by omega)
  have HN1 := fun w => Lib.hid (number_num _ k1 w)
  have HN2 := fun w => Lib.hid (number_num _ k2 w)
  have HR : Hid (ariN 6 (pop2 st).x (pop1 st).x = ariN 6 (pop2 st).x (pop1 st).x) := Lib.hid rfl
  have HF : Hid (∀ w, Calls Tryz.prog 78 #[.float .f64 (pop2 st).x, .float .f64 (pop1 st).x] w fun e w' => e = .returned (.float .f64 (ariN 6 (pop2 st).x (pop1 st).x)) ∧ Below w.heap.size w w') := Lib.hid fun w => (sub_any _ _ w).mono fun e w' ⟨h, n, hw⟩ => ⟨h, hw ▸ drewB' w n⟩
  have HLT := Lib.hid h.lt
  clear h h2 hl k1 k2 HR hr
  generalize ariN 6 (pop2 st).x (pop1 st).x = r at *
  generalize pop1 st = x at *
  generalize pop2 st = y at *
  generalize rest2 st = st2 at *
  obtain ⟨k, u, s⟩ := x
  obtain ⟨k', u', s'⟩ := y
  simp only at HF HN1 HN2
  go_enter Tryz.func76, Tryz.ntmps76
  go_wp2_with (go_at_call 86; ((with_reducible refine HP.out.mono ?_); rintro e w1 ⟨rfl, C1, hm, hw⟩; have HM := Lib.hid ((hm.below (below2 w1 (vobj ⟨k', u', s'⟩) (vobj ⟨k, u, s⟩))).below (Below.refl _ _).drew); have HWY := Lib.hid ((hw.below (below2 w1 (vobj ⟨k', u', s'⟩) (vobj ⟨k, u, s⟩))).below (Below.refl _ _).drew); have A0 := Lib.hid (at_two w1 ⟨k', u', s'⟩ ⟨k, u, s⟩); have HA := Lib.hid A0.out.1.drew; have HB := Lib.hid A0.out.2.drew; have HS := Lib.hid hw.tn.size; have NA := Lib.hid (show ¬ C1 w1.heap.size from fun e => absurd (hm.lt _ e) (Nat.lt_irrefl _)); have NB := Lib.hid (show ¬ C1 (w1.heap.size + 1) from fun e => absurd (hm.lt _ e) (by omega)); clear hm hw A0))
  go_region_held (fun w' => w'.cell? ⟨w1.heap.size, 0, none⟩ = some (.int .i64 k') ∧ w'.cell? ⟨w1.heap.size, 1, none⟩ = some (.float .f64 u') ∧ w'.cell? ⟨w1.heap.size, 2, none⟩ = some (.string ⟨s'.toArray⟩) ∧ w'.cell? ⟨w1.heap.size + 1, 0, none⟩ = some (.int .i64 k) ∧ w'.cell? ⟨w1.heap.size + 1, 1, none⟩ = some (.float .f64 u) ∧ w'.cell? ⟨w1.heap.size + 1, 2, none⟩ = some (.string ⟨s.toArray⟩)) (exact ⟨HA.out.c0, HA.out.c1, HA.out.c2, HB.out.c0, HB.out.c1, HB.out.c2⟩) (first
    | (go_at_call 114; first
      | (with_reducible refine (HN2 _).out.mono ?_; rintro e w6 ⟨rfl, hb⟩; have HA := Lib.hid (HA.out.below hb HA.out.lt); have HB := Lib.hid (HB.out.below hb HB.out.lt); have HM := Lib.hid (HM.out.below hb); have HWY := Lib.hid (HWY.out.below hb); clear hb)
      | (with_reducible refine (HN1 _).out.mono ?_; rintro e w6 ⟨rfl, hb⟩; have HA := Lib.hid (HA.out.below hb HA.out.lt); have HB := Lib.hid (HB.out.below hb HB.out.lt); have HM := Lib.hid (HM.out.below hb); have HWY := Lib.hid (HWY.out.below hb); clear hb))
    | (go_at_call 78; with_reducible refine (HF.out _).mono ?_; rintro e w6 ⟨rfl, hb⟩; have HA := Lib.hid (HA.out.below hb HA.out.lt); have HB := Lib.hid (HB.out.below hb HB.out.lt); have HM := Lib.hid (HM.out.below hb); have HWY := Lib.hid (HWY.out.below hb); clear hb)
    | (go_at_call 113; refine (number_any _ _).mono ?_; rintro e w6 ⟨rfl, hb⟩; have HA := Lib.hid (HA.out.below hb HA.out.lt); have HB := Lib.hid (HB.out.below hb HB.out.lt); have HM := Lib.hid (HM.out.below hb); have HWY := Lib.hid (HWY.out.below hb); clear hb)
    | (go_at_call 73; refine (push_any HM.out ⟨1, canon r, []⟩ HL.out).mono ?_; rintro e w6 ⟨rfl, C2, hm, hw⟩; have HA := Lib.hid (hw.at_dv HA.out NA.out); have HB := Lib.hid (hw.at_dv HB.out NB.out); have HM := Lib.hid hm; have HWY := Lib.hid (HWY.out.trans hw); clear hm hw))
  all_goals go_wp2
  all_goals go_end0
  all_goals exact ⟨rfl, _, HM.out, HWY.out⟩
set_option maxRecDepth 100000 in
set_option maxHeartbeats 4000000 in
theorem reckon7_ok (h : Mch C w b st wr sn) (h2 : 2 ≤ st.length) (hl : st.length ≤ 1000000) (k1 : (pop1 st).k ≠ 2) (k2 : (pop2 st).k ≠ 2) (_ : (pop1 st).x < 18446744073709551616) (_ : (pop2 st).x < 18446744073709551616) :
    Calls Tryz.prog 76 #[.pointer (some ⟨b, 0, none⟩), .func (.func 79) #[] #[]] w fun e w' => e = .returned (.tuple #[]) ∧ Did C w b (rest2 st ++ [⟨1, canon (ariN 7 (pop2 st).x (pop1 st).x), []⟩]) wr sn w' := by
  have hst := run_stf
  have HP := Lib.hid (pair_any h h2 hl)
  have hr := rest2_length h2
  have HL : Hid ((rest2 st).length ≤ 1000000) := Lib.hid (by omega)
  have HN1 := fun w => Lib.hid (number_num _ k1 w)
  have HN2 := fun w => Lib.hid (number_num _ k2 w)
  have HR : Hid (ariN 7 (pop2 st).x (pop1 st).x = ariN 7 (pop2 st).x (pop1 st).x) := Lib.hid rfl
  have HF : Hid (∀ w, Calls Tryz.prog 79 #[.float .f64 (pop2 st).x, .float .f64 (pop1 st).x] w fun e w' => e = .returned (.float .f64 (ariN 7 (pop2 st).x (pop1 st).x)) ∧ Below w.heap.size w w') := Lib.hid fun w => (mul_any _ _ w).mono fun e w' ⟨h, n, hw⟩ => ⟨h, hw ▸ drewB' w n⟩
  have HLT := Lib.hid h.lt
  clear h h2 hl k1 k2 HR hr
  generalize ariN 7 (pop2 st).x (pop1 st).x = r at *
  generalize pop1 st = x at *
  generalize pop2 st = y at *
  generalize rest2 st = st2 at *
  obtain ⟨k, u, s⟩ := x
  obtain ⟨k', u', s'⟩ := y
  simp only at HF HN1 HN2
  go_enter Tryz.func76, Tryz.ntmps76
  go_wp2_with (go_at_call 86; ((with_reducible refine HP.out.mono ?_); rintro e w1 ⟨rfl, C1, hm, hw⟩; have HM := Lib.hid ((hm.below (below2 w1 (vobj ⟨k', u', s'⟩) (vobj ⟨k, u, s⟩))).below (Below.refl _ _).drew); have HWY := Lib.hid ((hw.below (below2 w1 (vobj ⟨k', u', s'⟩) (vobj ⟨k, u, s⟩))).below (Below.refl _ _).drew); have A0 := Lib.hid (at_two w1 ⟨k', u', s'⟩ ⟨k, u, s⟩); have HA := Lib.hid A0.out.1.drew; have HB := Lib.hid A0.out.2.drew; have HS := Lib.hid hw.tn.size; have NA := Lib.hid (show ¬ C1 w1.heap.size from fun e => absurd (hm.lt _ e) (Nat.lt_irrefl _)); have NB := Lib.hid (show ¬ C1 (w1.heap.size + 1) from fun e => absurd (hm.lt _ e) (by omega)); clear hm hw A0))
  go_region_held (fun w' => w'.cell? ⟨w1.heap.size, 0, none⟩ = some (.int .i64 k') ∧ w'.cell? ⟨w1.heap.size, 1, none⟩ = some (.float .f64 u') ∧ w'.cell? ⟨w1.heap.size, 2, none⟩ = some (.string ⟨s'.toArray⟩) ∧ w'.cell? ⟨w1.heap.size + 1, 0, none⟩ = some (.int .i64 k) ∧ w'.cell? ⟨w1.heap.size + 1, 1, none⟩ = some (.float .f64 u) ∧ w'.cell? ⟨w1.heap.size + 1, 2, none⟩ = some (.string ⟨s.toArray⟩)) (exact ⟨HA.out.c0, HA.out.c1, HA.out.c2, HB.out.c0, HB.out.c1, HB.out.c2⟩) (first
    | (go_at_call 114; first
      | (with_reducible refine (HN2 _).out.mono ?_; rintro e w6 ⟨rfl, hb⟩; have HA := Lib.hid (HA.out.below hb HA.out.lt); have HB := Lib.hid (HB.out.below hb HB.out.lt); have HM := Lib.hid (HM.out.below hb); have HWY := Lib.hid (HWY.out.below hb); clear hb)
      | (with_reducible refine (HN1 _).out.mono ?_; rintro e w6 ⟨rfl, hb⟩; have HA := Lib.hid (HA.out.below hb HA.out.lt); have HB := Lib.hid (HB.out.below hb HB.out.lt); have HM := Lib.hid (HM.out.below hb); have HWY := Lib.hid (HWY.out.below hb); clear hb))
    | (go_at_call 79; with_reducible refine (HF.out _).mono ?_; rintro e w6 ⟨rfl, hb⟩; have HA := Lib.hid (HA.out.below hb HA.out.lt); have HB := Lib.hid (HB.out.below hb HB.out.lt); have HM := Lib.hid (HM.out.below hb); have HWY := Lib.hid (HWY.out.below hb); clear hb)
    | (go_at_call 113; refine (number_any _ _).mono ?_; rintro e w6 ⟨rfl, hb⟩; have HA := Lib.hid (HA.out.below hb HA.out.lt); have HB := Lib.hid (HB.out.below hb HB.out.lt); have HM := Lib.hid (HM.out.below hb); have HWY := Lib.hid (HWY.out.below hb); clear hb)
    | (go_at_call 73; refine (push_any HM.out ⟨1, canon r, []⟩ HL.out).mono ?_; rintro e w6 ⟨rfl, C2, hm, hw⟩; have HA := Lib.hid (hw.at_dv HA.out NA.out); have HB := Lib.hid (hw.at_dv HB.out NB.out); have HM := Lib.hid hm; have HWY := Lib.hid (HWY.out.trans hw); clear hm hw))
  all_goals go_wp2
  all_goals go_end0
  all_goals exact ⟨rfl, _, HM.out, HWY.out⟩
set_option maxRecDepth 100000 in
set_option maxHeartbeats 4000000 in
theorem reckon8_ok (h : Mch C w b st wr sn) (h2 : 2 ≤ st.length) (hl : st.length ≤ 1000000) (k1 : (pop1 st).k ≠ 2) (k2 : (pop2 st).k ≠ 2) (_ : (pop1 st).x < 18446744073709551616) (_ : (pop2 st).x < 18446744073709551616) :
    Calls Tryz.prog 76 #[.pointer (some ⟨b, 0, none⟩), .func (.func 80) #[] #[]] w fun e w' => e = .returned (.tuple #[]) ∧ Did C w b (rest2 st ++ [⟨1, canon (ariN 8 (pop2 st).x (pop1 st).x), []⟩]) wr sn w' := by
  have hst := run_stf
  have HP := Lib.hid (pair_any h h2 hl)
  have hr := rest2_length h2
  have HL : Hid ((rest2 st).length ≤ 1000000) := Lib.hid (by omega)
  have HN1 := fun w => Lib.hid (number_num _ k1 w)
  have HN2 := fun w => Lib.hid (number_num _ k2 w)
  have HR : Hid (ariN 8 (pop2 st).x (pop1 st).x = ariN 8 (pop2 st).x (pop1 st).x) := Lib.hid rfl
  have HF : Hid (∀ w, Calls Tryz.prog 80 #[.float .f64 (pop2 st).x, .float .f64 (pop1 st).x] w fun e w' => e = .returned (.float .f64 (ariN 8 (pop2 st).x (pop1 st).x)) ∧ Below w.heap.size w w') := Lib.hid fun w => (div_any _ _ w).mono fun e w' ⟨h, n, hw⟩ => ⟨h, hw ▸ drewB' w n⟩
  have HLT := Lib.hid h.lt
  clear h h2 hl k1 k2 HR hr
  generalize ariN 8 (pop2 st).x (pop1 st).x = r at *
  generalize pop1 st = x at *
  generalize pop2 st = y at *
  generalize rest2 st = st2 at *
  obtain ⟨k, u, s⟩ := x
  obtain ⟨k', u', s'⟩ := y
  simp only at HF HN1 HN2
  go_enter Tryz.func76, Tryz.ntmps76
  go_wp2_with (go_at_call 86; ((with_reducible refine HP.out.mono ?_); rintro e w1 ⟨rfl, C1, hm, hw⟩; have HM := Lib.hid ((hm.below (below2 w1 (vobj ⟨k', u', s'⟩) (vobj ⟨k, u, s⟩))).below (Below.refl _ _).drew); have HWY := Lib.hid ((hw.below (below2 w1 (vobj ⟨k', u', s'⟩) (vobj ⟨k, u, s⟩))).below (Below.refl _ _).drew); have A0 := Lib.hid (at_two w1 ⟨k', u', s'⟩ ⟨k, u, s⟩); have HA := Lib.hid A0.out.1.drew; have HB := Lib.hid A0.out.2.drew; have HS := Lib.hid hw.tn.size; have NA := Lib.hid (show ¬ C1 w1.heap.size from fun e => absurd (hm.lt _ e) (Nat.lt_irrefl _)); have NB := Lib.hid (show ¬ C1 (w1.heap.size + 1) from fun e => absurd (hm.lt _ e) (by omega)); clear hm hw A0))
  go_region_held (fun w' => w'.cell? ⟨w1.heap.size, 0, none⟩ = some (.int .i64 k') ∧ w'.cell? ⟨w1.heap.size, 1, none⟩ = some (.float .f64 u') ∧ w'.cell? ⟨w1.heap.size, 2, none⟩ = some (.string ⟨s'.toArray⟩) ∧ w'.cell? ⟨w1.heap.size + 1, 0, none⟩ = some (.int .i64 k) ∧ w'.cell? ⟨w1.heap.size + 1, 1, none⟩ = some (.float .f64 u) ∧ w'.cell? ⟨w1.heap.size + 1, 2, none⟩ = some (.string ⟨s.toArray⟩)) (exact ⟨HA.out.c0, HA.out.c1, HA.out.c2, HB.out.c0, HB.out.c1, HB.out.c2⟩) (first
    | (go_at_call 114; first
      | (with_reducible refine (HN2 _).out.mono ?_; rintro e w6 ⟨rfl, hb⟩; have HA := Lib.hid (HA.out.below hb HA.out.lt); have HB := Lib.hid (HB.out.below hb HB.out.lt); have HM := Lib.hid (HM.out.below hb); have HWY := Lib.hid (HWY.out.below hb); clear hb)
      | (with_reducible refine (HN1 _).out.mono ?_; rintro e w6 ⟨rfl, hb⟩; have HA := Lib.hid (HA.out.below hb HA.out.lt); have HB := Lib.hid (HB.out.below hb HB.out.lt); have HM := Lib.hid (HM.out.below hb); have HWY := Lib.hid (HWY.out.below hb); clear hb))
    | (go_at_call 80; with_reducible refine (HF.out _).mono ?_; rintro e w6 ⟨rfl, hb⟩; have HA := Lib.hid (HA.out.below hb HA.out.lt); have HB := Lib.hid (HB.out.below hb HB.out.lt); have HM := Lib.hid (HM.out.below hb); have HWY := Lib.hid (HWY.out.below hb); clear hb)
    | (go_at_call 113; refine (number_any _ _).mono ?_; rintro e w6 ⟨rfl, hb⟩; have HA := Lib.hid (HA.out.below hb HA.out.lt); have HB := Lib.hid (HB.out.below hb HB.out.lt); have HM := Lib.hid (HM.out.below hb); have HWY := Lib.hid (HWY.out.below hb); clear hb)
    | (go_at_call 73; refine (push_any HM.out ⟨1, canon r, []⟩ HL.out).mono ?_; rintro e w6 ⟨rfl, C2, hm, hw⟩; have HA := Lib.hid (hw.at_dv HA.out NA.out); have HB := Lib.hid (hw.at_dv HB.out NB.out); have HM := Lib.hid hm; have HWY := Lib.hid (HWY.out.trans hw); clear hm hw))
  all_goals go_wp2
  all_goals go_end0
  all_goals exact ⟨rfl, _, HM.out, HWY.out⟩
set_option maxRecDepth 100000 in
set_option maxHeartbeats 4000000 in
theorem reckon9_ok (h : Mch C w b st wr sn) (h2 : 2 ≤ st.length) (hl : st.length ≤ 1000000) (k1 : (pop1 st).k ≠ 2) (k2 : (pop2 st).k ≠ 2) (u1 : (pop1 st).x < 18446744073709551616) (u2 : (pop2 st).x < 18446744073709551616) :
    Calls Tryz.prog 76 #[.pointer (some ⟨b, 0, none⟩), .func (.func 81) #[] #[]] w fun e w' => e = .returned (.tuple #[]) ∧ Did C w b (rest2 st ++ [⟨1, canon (ariN 9 (pop2 st).x (pop1 st).x), []⟩]) wr sn w' := by
  have hst := run_stf
  have HP := Lib.hid (pair_any h h2 hl)
  have hr := rest2_length h2
  have HL : Hid ((rest2 st).length ≤ 1000000) := Lib.hid (by omega)
  have HN1 := fun w => Lib.hid (number_num _ k1 w)
  have HN2 := fun w => Lib.hid (number_num _ k2 w)
  have HR : Hid (ariN 9 (pop2 st).x (pop1 st).x = ariN 9 (pop2 st).x (pop1 st).x) := Lib.hid rfl
  have HF : Hid (∀ w, Calls Tryz.prog 81 #[.float .f64 (pop2 st).x, .float .f64 (pop1 st).x] w fun e w' => e = .returned (.float .f64 (ariN 9 (pop2 st).x (pop1 st).x)) ∧ Below w.heap.size w w') := Lib.hid fun w => (least_any _ _ w u2 u1).mono fun e w' ⟨h, hw⟩ => ⟨h, hw ▸ Below.refl _ _⟩
  have HLT := Lib.hid h.lt
  clear h h2 hl k1 k2 u1 u2 HR hr
  generalize ariN 9 (pop2 st).x (pop1 st).x = r at *
  generalize pop1 st = x at *
  generalize pop2 st = y at *
  generalize rest2 st = st2 at *
  obtain ⟨k, u, s⟩ := x
  obtain ⟨k', u', s'⟩ := y
  simp only at HF HN1 HN2
  go_enter Tryz.func76, Tryz.ntmps76
  go_wp2_with (go_at_call 86; ((with_reducible refine HP.out.mono ?_); rintro e w1 ⟨rfl, C1, hm, hw⟩; have HM := Lib.hid ((hm.below (below2 w1 (vobj ⟨k', u', s'⟩) (vobj ⟨k, u, s⟩))).below (Below.refl _ _).drew); have HWY := Lib.hid ((hw.below (below2 w1 (vobj ⟨k', u', s'⟩) (vobj ⟨k, u, s⟩))).below (Below.refl _ _).drew); have A0 := Lib.hid (at_two w1 ⟨k', u', s'⟩ ⟨k, u, s⟩); have HA := Lib.hid A0.out.1.drew; have HB := Lib.hid A0.out.2.drew; have HS := Lib.hid hw.tn.size; have NA := Lib.hid (show ¬ C1 w1.heap.size from fun e => absurd (hm.lt _ e) (Nat.lt_irrefl _)); have NB := Lib.hid (show ¬ C1 (w1.heap.size + 1) from fun e => absurd (hm.lt _ e) (by omega)); clear hm hw A0))
  go_region_held (fun w' => w'.cell? ⟨w1.heap.size, 0, none⟩ = some (.int .i64 k') ∧ w'.cell? ⟨w1.heap.size, 1, none⟩ = some (.float .f64 u') ∧ w'.cell? ⟨w1.heap.size, 2, none⟩ = some (.string ⟨s'.toArray⟩) ∧ w'.cell? ⟨w1.heap.size + 1, 0, none⟩ = some (.int .i64 k) ∧ w'.cell? ⟨w1.heap.size + 1, 1, none⟩ = some (.float .f64 u) ∧ w'.cell? ⟨w1.heap.size + 1, 2, none⟩ = some (.string ⟨s.toArray⟩)) (exact ⟨HA.out.c0, HA.out.c1, HA.out.c2, HB.out.c0, HB.out.c1, HB.out.c2⟩) (first
    | (go_at_call 114; first
      | (with_reducible refine (HN2 _).out.mono ?_; rintro e w6 ⟨rfl, hb⟩; have HA := Lib.hid (HA.out.below hb HA.out.lt); have HB := Lib.hid (HB.out.below hb HB.out.lt); have HM := Lib.hid (HM.out.below hb); have HWY := Lib.hid (HWY.out.below hb); clear hb)
      | (with_reducible refine (HN1 _).out.mono ?_; rintro e w6 ⟨rfl, hb⟩; have HA := Lib.hid (HA.out.below hb HA.out.lt); have HB := Lib.hid (HB.out.below hb HB.out.lt); have HM := Lib.hid (HM.out.below hb); have HWY := Lib.hid (HWY.out.below hb); clear hb))
    | (go_at_call 81; with_reducible refine (HF.out _).mono ?_; rintro e w6 ⟨rfl, hb⟩; have HA := Lib.hid (HA.out.below hb HA.out.lt); have HB := Lib.hid (HB.out.below hb HB.out.lt); have HM := Lib.hid (HM.out.below hb); have HWY := Lib.hid (HWY.out.below hb); clear hb)
    | (go_at_call 113; refine (number_any _ _).mono ?_; rintro e w6 ⟨rfl, hb⟩; have HA := Lib.hid (HA.out.below hb HA.out.lt); have HB := Lib.hid (HB.out.below hb HB.out.lt); have HM := Lib.hid (HM.out.below hb); have HWY := Lib.hid (HWY.out.below hb); clear hb)
    | (go_at_call 73; refine (push_any HM.out ⟨1, canon r, []⟩ HL.out).mono ?_; rintro e w6 ⟨rfl, C2, hm, hw⟩; have HA := Lib.hid (hw.at_dv HA.out NA.out); have HB := Lib.hid (hw.at_dv HB.out NB.out); have HM := Lib.hid hm; have HWY := Lib.hid (HWY.out.trans hw); clear hm hw))
  all_goals go_wp2
  all_goals go_end0
  all_goals exact ⟨rfl, _, HM.out, HWY.out⟩
set_option maxRecDepth 100000 in
set_option maxHeartbeats 4000000 in
theorem reckon10_ok (h : Mch C w b st wr sn) (h2 : 2 ≤ st.length) (hl : st.length ≤ 1000000) (k1 : (pop1 st).k ≠ 2) (k2 : (pop2 st).k ≠ 2) (u1 : (pop1 st).x < 18446744073709551616) (u2 : (pop2 st).x < 18446744073709551616) :
    Calls Tryz.prog 76 #[.pointer (some ⟨b, 0, none⟩), .func (.func 82) #[] #[]] w fun e w' => e = .returned (.tuple #[]) ∧ Did C w b (rest2 st ++ [⟨1, canon (ariN 10 (pop2 st).x (pop1 st).x), []⟩]) wr sn w' := by
  have hst := run_stf
  have HP := Lib.hid (pair_any h h2 hl)
  have hr := rest2_length h2
  have HL : Hid ((rest2 st).length ≤ 1000000) := Lib.hid (by omega)
  have HN1 := fun w => Lib.hid (number_num _ k1 w)
  have HN2 := fun w => Lib.hid (number_num _ k2 w)
  have HR : Hid (ariN 10 (pop2 st).x (pop1 st).x = ariN 10 (pop2 st).x (pop1 st).x) := Lib.hid rfl
  have HF : Hid (∀ w, Calls Tryz.prog 82 #[.float .f64 (pop2 st).x, .float .f64 (pop1 st).x] w fun e w' => e = .returned (.float .f64 (ariN 10 (pop2 st).x (pop1 st).x)) ∧ Below w.heap.size w w') := Lib.hid fun w => (most_any _ _ w u2 u1).mono fun e w' ⟨h, hw⟩ => ⟨h, hw ▸ Below.refl _ _⟩
  have HLT := Lib.hid h.lt
  clear h h2 hl k1 k2 u1 u2 HR hr
  generalize ariN 10 (pop2 st).x (pop1 st).x = r at *
  generalize pop1 st = x at *
  generalize pop2 st = y at *
  generalize rest2 st = st2 at *
  obtain ⟨k, u, s⟩ := x
  obtain ⟨k', u', s'⟩ := y
  simp only at HF HN1 HN2
  go_enter Tryz.func76, Tryz.ntmps76
  go_wp2_with (go_at_call 86; ((with_reducible refine HP.out.mono ?_); rintro e w1 ⟨rfl, C1, hm, hw⟩; have HM := Lib.hid ((hm.below (below2 w1 (vobj ⟨k', u', s'⟩) (vobj ⟨k, u, s⟩))).below (Below.refl _ _).drew); have HWY := Lib.hid ((hw.below (below2 w1 (vobj ⟨k', u', s'⟩) (vobj ⟨k, u, s⟩))).below (Below.refl _ _).drew); have A0 := Lib.hid (at_two w1 ⟨k', u', s'⟩ ⟨k, u, s⟩); have HA := Lib.hid A0.out.1.drew; have HB := Lib.hid A0.out.2.drew; have HS := Lib.hid hw.tn.size; have NA := Lib.hid (show ¬ C1 w1.heap.size from fun e => absurd (hm.lt _ e) (Nat.lt_irrefl _)); have NB := Lib.hid (show ¬ C1 (w1.heap.size + 1) from fun e => absurd (hm.lt _ e) (by omega)); clear hm hw A0))
  go_region_held (fun w' => w'.cell? ⟨w1.heap.size, 0, none⟩ = some (.int .i64 k') ∧ w'.cell? ⟨w1.heap.size, 1, none⟩ = some (.float .f64 u') ∧ w'.cell? ⟨w1.heap.size, 2, none⟩ = some (.string ⟨s'.toArray⟩) ∧ w'.cell? ⟨w1.heap.size + 1, 0, none⟩ = some (.int .i64 k) ∧ w'.cell? ⟨w1.heap.size + 1, 1, none⟩ = some (.float .f64 u) ∧ w'.cell? ⟨w1.heap.size + 1, 2, none⟩ = some (.string ⟨s.toArray⟩)) (exact ⟨HA.out.c0, HA.out.c1, HA.out.c2, HB.out.c0, HB.out.c1, HB.out.c2⟩) (first
    | (go_at_call 114; first
      | (with_reducible refine (HN2 _).out.mono ?_; rintro e w6 ⟨rfl, hb⟩; have HA := Lib.hid (HA.out.below hb HA.out.lt); have HB := Lib.hid (HB.out.below hb HB.out.lt); have HM := Lib.hid (HM.out.below hb); have HWY := Lib.hid (HWY.out.below hb); clear hb)
      | (with_reducible refine (HN1 _).out.mono ?_; rintro e w6 ⟨rfl, hb⟩; have HA := Lib.hid (HA.out.below hb HA.out.lt); have HB := Lib.hid (HB.out.below hb HB.out.lt); have HM := Lib.hid (HM.out.below hb); have HWY := Lib.hid (HWY.out.below hb); clear hb))
    | (go_at_call 82; with_reducible refine (HF.out _).mono ?_; rintro e w6 ⟨rfl, hb⟩; have HA := Lib.hid (HA.out.below hb HA.out.lt); have HB := Lib.hid (HB.out.below hb HB.out.lt); have HM := Lib.hid (HM.out.below hb); have HWY := Lib.hid (HWY.out.below hb); clear hb)
    | (go_at_call 113; refine (number_any _ _).mono ?_; rintro e w6 ⟨rfl, hb⟩; have HA := Lib.hid (HA.out.below hb HA.out.lt); have HB := Lib.hid (HB.out.below hb HB.out.lt); have HM := Lib.hid (HM.out.below hb); have HWY := Lib.hid (HWY.out.below hb); clear hb)
    | (go_at_call 73; refine (push_any HM.out ⟨1, canon r, []⟩ HL.out).mono ?_; rintro e w6 ⟨rfl, C2, hm, hw⟩; have HA := Lib.hid (hw.at_dv HA.out NA.out); have HB := Lib.hid (hw.at_dv HB.out NB.out); have HM := Lib.hid hm; have HWY := Lib.hid (HWY.out.trans hw); clear hm hw))
  all_goals go_wp2
  all_goals go_end0
  all_goals exact ⟨rfl, _, HM.out, HWY.out⟩
end
end Go.Proofs.YtbgccaconhmbaaaGreatDoor
namespace Go.Proofs.YtbgccaconhmbaaaGreatDoor
open Go.ChangeShapes Go.WideShapes Go.ChangeAt Go.RowKit Go.Deep
section
variable {C : Nat → Prop} {b : Nat} {w : World} {st : List DV} {wr : Ent DV} {sn : Mm}
set_option maxRecDepth 100000 in
set_option maxHeartbeats 4000000 in
theorem reckon_text (h : Mch C w b st wr sn) (h2 : 2 ≤ st.length) (hl : st.length ≤ 1000000) (fv : Fn) (hk : (pop2 st).k = 2 ∨ (pop1 st).k = 2) :
    Calls Tryz.prog 76 #[.pointer (some ⟨b, 0, none⟩), .func fv #[] #[]] w fun e w' => e = .panicked (flt 23) ∧ Did C w b (rest2 st) wr sn w' := by
  have hst := run_stf
  have HP := Lib.hid (pair_any h h2 hl)
  have HLT := Lib.hid h.lt
  clear h h2 hl
  have HN0 := fun k w => Lib.hid (number_text (pop2 st) k w)
  have HN1 := fun k w => Lib.hid (number_num (pop2 st) k w)
  have HN2 := fun k w => Lib.hid (number_text (pop1 st) k w)
  generalize pop1 st = x at *
  generalize pop2 st = y at *
  generalize rest2 st = st2 at *
  by_cases hy : y.k = 2
  · have HN0 := fun w => Lib.hid (HN0 hy w).out
    clear HN1 HN2 hk hy
    obtain ⟨k, u, s⟩ := x
    obtain ⟨k', u', s'⟩ := y
    go_enter Tryz.func76, Tryz.ntmps76
    go_wp2_with (go_at_call 86; ((with_reducible refine HP.out.mono ?_); rintro e w1 ⟨rfl, hd⟩; have HD := Lib.hid ((hd.below (below2 w1 (vobj ⟨k', u', s'⟩) (vobj ⟨k, u, s⟩))).below (Below.refl _ _).drew); have A0 := Lib.hid (at_two w1 ⟨k', u', s'⟩ ⟨k, u, s⟩); have HA := Lib.hid A0.out.1.drew; have HB := Lib.hid A0.out.2.drew; clear hd A0))
    refine wp_region_held (S := (fun w' => w'.cell? ⟨w1.heap.size, 0, none⟩ = some (.int .i64 k') ∧ w'.cell? ⟨w1.heap.size, 1, none⟩ = some (.float .f64 u') ∧ w'.cell? ⟨w1.heap.size, 2, none⟩ = some (.string ⟨s'.toArray⟩) ∧ w'.cell? ⟨w1.heap.size + 1, 0, none⟩ = some (.int .i64 k) ∧ w'.cell? ⟨w1.heap.size + 1, 1, none⟩ = some (.float .f64 u) ∧ w'.cell? ⟨w1.heap.size + 1, 2, none⟩ = some (.string ⟨s.toArray⟩))) (by kernel_rfl) ?_
    change wpAnyH _ _ _ _ _ _ _ _ (World.drew _)
    refine wpAnyH_take (i := 0) (v := ?va_0) rfl (by kernel_rfl) (by kernel_rfl) (by kernel_rfl) (fun _ _ _ h => h) (Or.inl ⟨by rfl, ?ya_0⟩) ⟨HA.out.c0, HA.out.c1, HA.out.c2, HB.out.c0, HB.out.c1, HB.out.c2⟩ ?ra_0
    case ya_0 => (intro W hSw; (try dsimp only at hSw); obtain ⟨a0, a1, a2, b0, b1, b2⟩ := hSw; first | (go_simp; done) | (go_simp; with_reducible rfl))
    try go_simp
    refine wpAnyH_take (i := 1) (v := ?va_1) rfl (by kernel_rfl) (by kernel_rfl) (by kernel_rfl) (fun _ _ _ h => h) (Or.inl ⟨by rfl, ?ya_1⟩) ⟨HA.out.c0, HA.out.c1, HA.out.c2, HB.out.c0, HB.out.c1, HB.out.c2⟩ ?ra_1
    case ya_1 => (intro W hSw; (try dsimp only at hSw); obtain ⟨a0, a1, a2, b0, b1, b2⟩ := hSw; first | (go_simp; done) | (go_simp; with_reducible rfl))
    try go_simp
    refine wpAnyH_take (i := 2) (v := ?va_2) rfl (by kernel_rfl) (by kernel_rfl) (by kernel_rfl) (fun _ _ _ h => h) (Or.inl ⟨by rfl, ?ya_2⟩) ⟨HA.out.c0, HA.out.c1, HA.out.c2, HB.out.c0, HB.out.c1, HB.out.c2⟩ ?ra_2
    case ya_2 => (intro W hSw; (try dsimp only at hSw); obtain ⟨a0, a1, a2, b0, b1, b2⟩ := hSw; first | (go_simp; done) | (go_simp; with_reducible rfl))
    try go_simp
    refine wpAnyH_take (i := 4) (v := ?va_4) rfl (by kernel_rfl) (by kernel_rfl) (by kernel_rfl) (fun _ _ _ h => h) (Or.inl ⟨by rfl, ?ya_4⟩) ⟨HA.out.c0, HA.out.c1, HA.out.c2, HB.out.c0, HB.out.c1, HB.out.c2⟩ ?ra_4
    case ya_4 => (intro W hSw; (try dsimp only at hSw); obtain ⟨a0, a1, a2, b0, b1, b2⟩ := hSw; first | (go_simp; done) | (go_simp; with_reducible rfl))
    try go_simp
    refine wpAnyH_ready (rs := [3]) (by kernel_rfl) (by simp) ?_
    refine AllReadyH.cons rfl (fun K hK => ?_) AllReadyH.nil
    go_simp
    clear hK
    (go_wp2_with (first | (go_at_call 114; with_reducible refine (HN0 _).out.mono ?_; rintro e w6 ⟨rfl, hb⟩; have HA := Lib.hid (HA.out.below hb HA.out.lt); have HB := Lib.hid (HB.out.below hb HB.out.lt); have HD := Lib.hid (HD.out.below hb); clear hb)))
    exact ⟨rfl, rfl, HD.out⟩
  · have HN1 := fun w => Lib.hid (HN1 hy w).out
    have HN2 := fun w => Lib.hid (HN2 (hk.resolve_left hy) w).out
    clear HN0 hk hy
    obtain ⟨k, u, s⟩ := x
    obtain ⟨k', u', s'⟩ := y
    go_enter Tryz.func76, Tryz.ntmps76
    go_wp2_with (go_at_call 86; ((with_reducible refine HP.out.mono ?_); rintro e w1 ⟨rfl, hd⟩; have HD := Lib.hid ((hd.below (below2 w1 (vobj ⟨k', u', s'⟩) (vobj ⟨k, u, s⟩))).below (Below.refl _ _).drew); have A0 := Lib.hid (at_two w1 ⟨k', u', s'⟩ ⟨k, u, s⟩); have HA := Lib.hid A0.out.1.drew; have HB := Lib.hid A0.out.2.drew; clear hd A0))
    refine wp_region_held (S := (fun w' => w'.cell? ⟨w1.heap.size, 0, none⟩ = some (.int .i64 k') ∧ w'.cell? ⟨w1.heap.size, 1, none⟩ = some (.float .f64 u') ∧ w'.cell? ⟨w1.heap.size, 2, none⟩ = some (.string ⟨s'.toArray⟩) ∧ w'.cell? ⟨w1.heap.size + 1, 0, none⟩ = some (.int .i64 k) ∧ w'.cell? ⟨w1.heap.size + 1, 1, none⟩ = some (.float .f64 u) ∧ w'.cell? ⟨w1.heap.size + 1, 2, none⟩ = some (.string ⟨s.toArray⟩))) (by kernel_rfl) ?_
    change wpAnyH _ _ _ _ _ _ _ _ (World.drew _)
    refine wpAnyH_take (i := 0) (v := ?vb_0) rfl (by kernel_rfl) (by kernel_rfl) (by kernel_rfl) (fun _ _ _ h => h) (Or.inl ⟨by rfl, ?yb_0⟩) ⟨HA.out.c0, HA.out.c1, HA.out.c2, HB.out.c0, HB.out.c1, HB.out.c2⟩ ?rb_0
    case yb_0 => (intro W hSw; (try dsimp only at hSw); obtain ⟨a0, a1, a2, b0, b1, b2⟩ := hSw; first | (go_simp; done) | (go_simp; with_reducible rfl))
    try go_simp
    refine wpAnyH_take (i := 1) (v := ?vb_1) rfl (by kernel_rfl) (by kernel_rfl) (by kernel_rfl) (fun _ _ _ h => h) (Or.inl ⟨by rfl, ?yb_1⟩) ⟨HA.out.c0, HA.out.c1, HA.out.c2, HB.out.c0, HB.out.c1, HB.out.c2⟩ ?rb_1
    case yb_1 => (intro W hSw; (try dsimp only at hSw); obtain ⟨a0, a1, a2, b0, b1, b2⟩ := hSw; first | (go_simp; done) | (go_simp; with_reducible rfl))
    try go_simp
    refine wpAnyH_take (i := 2) (v := ?vb_2) rfl (by kernel_rfl) (by kernel_rfl) (by kernel_rfl) (fun _ _ _ h => h) (Or.inl ⟨by rfl, ?yb_2⟩) ⟨HA.out.c0, HA.out.c1, HA.out.c2, HB.out.c0, HB.out.c1, HB.out.c2⟩ ?rb_2
    case yb_2 => (intro W hSw; (try dsimp only at hSw); obtain ⟨a0, a1, a2, b0, b1, b2⟩ := hSw; first | (go_simp; done) | (go_simp; with_reducible rfl))
    try go_simp
    refine wpAnyH_take (i := 4) (v := ?vb_4) rfl (by kernel_rfl) (by kernel_rfl) (by kernel_rfl) (fun _ _ _ h => h) (Or.inl ⟨by rfl, ?yb_4⟩) ⟨HA.out.c0, HA.out.c1, HA.out.c2, HB.out.c0, HB.out.c1, HB.out.c2⟩ ?rb_4
    case yb_4 => (intro W hSw; (try dsimp only at hSw); obtain ⟨a0, a1, a2, b0, b1, b2⟩ := hSw; first | (go_simp; done) | (go_simp; with_reducible rfl))
    try go_simp
    refine wpAnyH_ready (rs := [3]) (by kernel_rfl) (by simp) ?_
    refine AllReadyH.cons rfl (fun K hK => ?_) AllReadyH.nil
    go_simp
    (go_wp2_with (first | (go_at_call 114; with_reducible refine (HN1 _).out.mono ?_; rintro e w6 ⟨rfl, hb⟩; have HA := Lib.hid (HA.out.below hb HA.out.lt); have HB := Lib.hid (HB.out.below hb HB.out.lt); have HD := Lib.hid (HD.out.below hb); clear hb)))
    refine hK.out _ _ ⟨HA.out.c0, HA.out.c1, HA.out.c2, HB.out.c0, HB.out.c1, HB.out.c2⟩ (fun _ => ?_)
    clear hK K
    try go_simp
    refine wpAnyH_ready (rs := [5]) (by kernel_rfl) (by simp) ?_
    refine AllReadyH.cons rfl (fun K hK => ?_) AllReadyH.nil
    go_simp
    clear hK
    (go_wp2_with (first | (go_at_call 114; with_reducible refine (HN2 _).out.mono ?_; rintro e w6 ⟨rfl, hb⟩; have HA := Lib.hid (HA.out.below hb HA.out.lt); have HB := Lib.hid (HB.out.below hb HB.out.lt); have HD := Lib.hid (HD.out.below hb); clear hb)))
    exact ⟨rfl, rfl, HD.out⟩
end
end Go.Proofs.YtbgccaconhmbaaaGreatDoor
namespace Go.Proofs.YtbgccaconhmbaaaGreatDoor
open Go.ChangeShapes Go.WideShapes Go.ChangeAt Go.RowKit Go.Deep
/-- What a step makes of a machine, or what it gives up with. -/
def Doing (C : Nat → Prop) (w : World) (b : Nat) (z : Mm) (r : Out) (e : Ending) (w' : World) : Prop :=
  match r with
  | .go st wr => e = .returned (.tuple #[]) ∧ Did C w b st wr z w'
  | .no x => e = .panicked (flt x) ∧ ∃ C', Way C w C' w'
section
variable {C : Nat → Prop} {b : Nat} {w : World} {st : List DV} {wr : Ent DV} {z : Mm}
theorem OBox.tn {S : Nat → Prop} {w w' : World} {p : Nat} {r : OpV} (h : OBox w p r) (ht : Tn S w w') (hp : ¬ S p) : OBox w' p r :=
  ⟨Nat.lt_of_lt_of_le h.lt ht.size, ht.cell h.c0 hp, ht.cell h.c1 hp, ht.cell h.c2 hp, ht.cell h.c3 hp, ht.cell h.c4 hp⟩
theorem mem_last {st : List DV} (h : 1 ≤ st.length) : pop1 st ∈ st := by
  unfold pop1
  rw [List.getD_eq_getElem?_getD, List.getElem?_eq_getElem (by omega)]
  exact List.getElem_mem _
theorem mem_last2 {st : List DV} (h : 2 ≤ st.length) : pop2 st ∈ st := by
  unfold pop2
  rw [List.getD_eq_getElem?_getD, List.getElem?_eq_getElem (by omega)]
  exact List.getElem_mem _
set_option maxRecDepth 100000 in
set_option maxHeartbeats 4000000 in
theorem do1 (h : Mch C w b st wr z) (key : Nm) (v : DV) (hk : key.length ≤ maxLen) (hd : 0 ≤ st.length) (hl : st.length ≤ 1000000) (hw : ∀ u ∈ st, u.wf) (hm : wr.length < maxLen) :
    Calls Tryz.prog 47 #[.pointer (some ⟨b, 0, none⟩), oagg ⟨1, key, v⟩] w (Doing C w b z (stepV (fun k => (get z.sn k).getD DV.none) st wr ⟨1, key, v⟩)) := by
  have _hU : True := (fun _ _ _ => trivial) hd hm hw
  have hst := run_stf
  have HK := Lib.hid hk
  have HL := Lib.hid hl
  have HB := Lib.hid (below1 w (oobj ⟨1, key, v⟩))
  have HQ := Lib.hid (obox_new w ⟨1, key, v⟩)
  have HM := Lib.hid (h.below HB.out)
  have HLT := Lib.hid h.lt
  obtain ⟨vk, vx, vs⟩ := v
  have q0 := HQ.out.c0; have q1 := HQ.out.c1; have q2 := HQ.out.c2; have q3 := HQ.out.c3; have q4 := HQ.out.c4
  show Calls _ _ _ _ fun e w' => e = .returned (.tuple #[]) ∧ Did C w b (st ++ [(get wr key).getD ((get z.sn key).getD DV.none)]) (wr) z w'
  have HG := Lib.hid (mget_any HM.out key HK.out)
  have HP := fun w' hb => Lib.hid (push_any (HM.out.below (w' := w') hb) ((get wr key).getD ((get z.sn key).getD DV.none)) HL.out)
  clear h hk hd hl hw hm HQ
  generalize (get wr key).getD ((get z.sn key).getD DV.none) = x at *
  obtain ⟨k, u, s⟩ := x
  go_enter Tryz.func47, Tryz.ntmps47
  go_wp2_with (first
    | (go_at_call 74; ((with_reducible refine HG.out.mono ?_); rintro e w1 ⟨rfl, hb⟩; have HB1 := Lib.hid hb; have HP := Lib.hid (HP _ hb).out; clear hb))
    | (go_at_call 73; ((with_reducible refine HP.out.mono ?_); rintro e w2 ⟨rfl, hd⟩; have HD := Lib.hid (hd.way (Way.of_below HB1.out)); clear hd)))
  go_end0
  exact ⟨rfl, HD.out.way (Way.of_below HB.out)⟩
set_option maxRecDepth 100000 in
set_option maxHeartbeats 4000000 in
theorem do4 (h : Mch C w b st wr z) (key : Nm) (v : DV) (hk : key.length ≤ maxLen) (hd : 0 ≤ st.length) (hl : st.length ≤ 1000000) (hw : ∀ u ∈ st, u.wf) (hm : wr.length < maxLen) :
    Calls Tryz.prog 47 #[.pointer (some ⟨b, 0, none⟩), oagg ⟨4, key, v⟩] w (Doing C w b z (stepV (fun k => (get z.sn k).getD DV.none) st wr ⟨4, key, v⟩)) := by
  have _hU : True := (fun _ _ _ => trivial) hd hm hw
  have hst := run_stf
  have HK := Lib.hid hk
  have HL := Lib.hid hl
  have HB := Lib.hid (below1 w (oobj ⟨4, key, v⟩))
  have HQ := Lib.hid (obox_new w ⟨4, key, v⟩)
  have HM := Lib.hid (h.below HB.out)
  have HLT := Lib.hid h.lt
  obtain ⟨vk, vx, vs⟩ := v
  have q0 := HQ.out.c0; have q1 := HQ.out.c1; have q2 := HQ.out.c2; have q3 := HQ.out.c3; have q4 := HQ.out.c4
  show Calls _ _ _ _ fun e w' => e = .returned (.tuple #[]) ∧ Did C w b (st ++ [⟨vk, vx, vs⟩]) (wr) z w'
  have HP := Lib.hid (push_any HM.out ⟨vk, vx, vs⟩ HL.out)
  clear h hk hd hl hw hm HQ
  go_enter Tryz.func47, Tryz.ntmps47
  go_wp2_with (go_at_call 73; ((with_reducible refine HP.out.mono ?_); rintro e w2 ⟨rfl, hd⟩; have HD := Lib.hid hd; clear hd))
  go_end0
  exact ⟨rfl, HD.out.way (Way.of_below HB.out)⟩
set_option maxRecDepth 100000 in
set_option maxHeartbeats 4000000 in
theorem do5_ok (h : Mch C w b st wr z) (key : Nm) (v : DV) (hk : key.length ≤ maxLen) (hd : 2 ≤ st.length) (hl : st.length ≤ 1000000) (hw : ∀ u ∈ st, u.wf) (hm : wr.length < maxLen) (hn : ¬ ((pop2 st).k = 2 ∨ (pop1 st).k = 2)) :
    Calls Tryz.prog 47 #[.pointer (some ⟨b, 0, none⟩), oagg ⟨5, key, v⟩] w (Doing C w b z (stepV (fun k => (get z.sn k).getD DV.none) st wr ⟨5, key, v⟩)) := by
  have _hU : True := (fun _ _ _ => trivial) hd hm hw
  have hst := run_stf
  have HK := Lib.hid hk
  have HL := Lib.hid hl
  have HB := Lib.hid (below1 w (oobj ⟨5, key, v⟩))
  have HQ := Lib.hid (obox_new w ⟨5, key, v⟩)
  have HM := Lib.hid (h.below HB.out)
  have HLT := Lib.hid h.lt
  obtain ⟨vk, vx, vs⟩ := v
  have q0 := HQ.out.c0; have q1 := HQ.out.c1; have q2 := HQ.out.c2; have q3 := HQ.out.c3; have q4 := HQ.out.c4
  have e : stepV (fun k => (get z.sn k).getD DV.none) st wr ⟨5, key, ⟨vk, vx, vs⟩⟩ = .go (rest2 st ++ [⟨1, canon (ariN 5 (pop2 st).x (pop1 st).x), []⟩]) wr := by unfold stepV; exact if_neg hn
  rw [e]
  clear e
  show Calls _ _ _ _ fun e w' => e = .returned (.tuple #[]) ∧ Did C w b (rest2 st ++ [⟨1, canon (ariN 5 (pop2 st).x (pop1 st).x), []⟩]) (wr) z w'
  have HP := Lib.hid (reckon5_ok HM.out hd hl (fun e => hn (.inr e)) (fun e => hn (.inl e)) (hw _ (mem_last (by omega))).2.1 (hw _ (mem_last2 hd)).2.1)
  clear h hk hd hl hw hm HQ hn
  go_enter Tryz.func47, Tryz.ntmps47
  go_wp2_with (go_at_call 76; ((with_reducible refine HP.out.mono ?_); rintro e w2 ⟨rfl, hd⟩; have HD := Lib.hid hd; clear hd))
  go_end0
  exact ⟨rfl, HD.out.way (Way.of_below HB.out)⟩
set_option maxRecDepth 100000 in
set_option maxHeartbeats 4000000 in
theorem do5_text (h : Mch C w b st wr z) (key : Nm) (v : DV) (hk : key.length ≤ maxLen) (hd : 2 ≤ st.length) (hl : st.length ≤ 1000000) (hw : ∀ u ∈ st, u.wf) (hm : wr.length < maxLen) (hn : (pop2 st).k = 2 ∨ (pop1 st).k = 2) :
    Calls Tryz.prog 47 #[.pointer (some ⟨b, 0, none⟩), oagg ⟨5, key, v⟩] w (Doing C w b z (stepV (fun k => (get z.sn k).getD DV.none) st wr ⟨5, key, v⟩)) := by
  have _hU : True := (fun _ _ _ => trivial) hd hm hw
  have hst := run_stf
  have HK := Lib.hid hk
  have HL := Lib.hid hl
  have HB := Lib.hid (below1 w (oobj ⟨5, key, v⟩))
  have HQ := Lib.hid (obox_new w ⟨5, key, v⟩)
  have HM := Lib.hid (h.below HB.out)
  have HLT := Lib.hid h.lt
  obtain ⟨vk, vx, vs⟩ := v
  have q0 := HQ.out.c0; have q1 := HQ.out.c1; have q2 := HQ.out.c2; have q3 := HQ.out.c3; have q4 := HQ.out.c4
  have e : stepV (fun k => (get z.sn k).getD DV.none) st wr ⟨5, key, ⟨vk, vx, vs⟩⟩ = .no 23 := by unfold stepV; exact if_pos hn
  rw [e]
  clear e
  show Calls _ _ _ _ fun e w' => e = .panicked (flt 23) ∧ ∃ C', Way C w C' w'
  have HP := Lib.hid (reckon_text HM.out hd hl (.func 77) hn)
  clear h hk hd hl hw hm HQ hn
  go_enter Tryz.func47, Tryz.ntmps47
  go_wp2_with (go_at_call 76; ((with_reducible refine HP.out.mono ?_); rintro e w2 ⟨rfl, C', hm, hw⟩; have HD := Lib.hid ((Way.of_below (C := C) HB.out).trans hw); clear hm hw))
  exact ⟨rfl, rfl, _, HD.out⟩
set_option maxRecDepth 100000 in
set_option maxHeartbeats 4000000 in
theorem do6_ok (h : Mch C w b st wr z) (key : Nm) (v : DV) (hk : key.length ≤ maxLen) (hd : 2 ≤ st.length) (hl : st.length ≤ 1000000) (hw : ∀ u ∈ st, u.wf) (hm : wr.length < maxLen) (hn : ¬ ((pop2 st).k = 2 ∨ (pop1 st).k = 2)) :
    Calls Tryz.prog 47 #[.pointer (some ⟨b, 0, none⟩), oagg ⟨6, key, v⟩] w (Doing C w b z (stepV (fun k => (get z.sn k).getD DV.none) st wr ⟨6, key, v⟩)) := by
  have _hU : True := (fun _ _ _ => trivial) hd hm hw
  have hst := run_stf
  have HK := Lib.hid hk
  have HL := Lib.hid hl
  have HB := Lib.hid (below1 w (oobj ⟨6, key, v⟩))
  have HQ := Lib.hid (obox_new w ⟨6, key, v⟩)
  have HM := Lib.hid (h.below HB.out)
  have HLT := Lib.hid h.lt
  obtain ⟨vk, vx, vs⟩ := v
  have q0 := HQ.out.c0; have q1 := HQ.out.c1; have q2 := HQ.out.c2; have q3 := HQ.out.c3; have q4 := HQ.out.c4
  have e : stepV (fun k => (get z.sn k).getD DV.none) st wr ⟨6, key, ⟨vk, vx, vs⟩⟩ = .go (rest2 st ++ [⟨1, canon (ariN 6 (pop2 st).x (pop1 st).x), []⟩]) wr := by unfold stepV; exact if_neg hn
  rw [e]
  clear e
  show Calls _ _ _ _ fun e w' => e = .returned (.tuple #[]) ∧ Did C w b (rest2 st ++ [⟨1, canon (ariN 6 (pop2 st).x (pop1 st).x), []⟩]) (wr) z w'
  have HP := Lib.hid (reckon6_ok HM.out hd hl (fun e => hn (.inr e)) (fun e => hn (.inl e)) (hw _ (mem_last (by omega))).2.1 (hw _ (mem_last2 hd)).2.1)
  clear h hk hd hl hw hm HQ hn
  go_enter Tryz.func47, Tryz.ntmps47
  go_wp2_with (go_at_call 76; ((with_reducible refine HP.out.mono ?_); rintro e w2 ⟨rfl, hd⟩; have HD := Lib.hid hd; clear hd))
  go_end0
  exact ⟨rfl, HD.out.way (Way.of_below HB.out)⟩
set_option maxRecDepth 100000 in
set_option maxHeartbeats 4000000 in
theorem do6_text (h : Mch C w b st wr z) (key : Nm) (v : DV) (hk : key.length ≤ maxLen) (hd : 2 ≤ st.length) (hl : st.length ≤ 1000000) (hw : ∀ u ∈ st, u.wf) (hm : wr.length < maxLen) (hn : (pop2 st).k = 2 ∨ (pop1 st).k = 2) :
    Calls Tryz.prog 47 #[.pointer (some ⟨b, 0, none⟩), oagg ⟨6, key, v⟩] w (Doing C w b z (stepV (fun k => (get z.sn k).getD DV.none) st wr ⟨6, key, v⟩)) := by
  have _hU : True := (fun _ _ _ => trivial) hd hm hw
  have hst := run_stf
  have HK := Lib.hid hk
  have HL := Lib.hid hl
  have HB := Lib.hid (below1 w (oobj ⟨6, key, v⟩))
  have HQ := Lib.hid (obox_new w ⟨6, key, v⟩)
  have HM := Lib.hid (h.below HB.out)
  have HLT := Lib.hid h.lt
  obtain ⟨vk, vx, vs⟩ := v
  have q0 := HQ.out.c0; have q1 := HQ.out.c1; have q2 := HQ.out.c2; have q3 := HQ.out.c3; have q4 := HQ.out.c4
  have e : stepV (fun k => (get z.sn k).getD DV.none) st wr ⟨6, key, ⟨vk, vx, vs⟩⟩ = .no 23 := by unfold stepV; exact if_pos hn
  rw [e]
  clear e
  show Calls _ _ _ _ fun e w' => e = .panicked (flt 23) ∧ ∃ C', Way C w C' w'
  have HP := Lib.hid (reckon_text HM.out hd hl (.func 78) hn)
  clear h hk hd hl hw hm HQ hn
  go_enter Tryz.func47, Tryz.ntmps47
  go_wp2_with (go_at_call 76; ((with_reducible refine HP.out.mono ?_); rintro e w2 ⟨rfl, C', hm, hw⟩; have HD := Lib.hid ((Way.of_below (C := C) HB.out).trans hw); clear hm hw))
  exact ⟨rfl, rfl, _, HD.out⟩
set_option maxRecDepth 100000 in
set_option maxHeartbeats 4000000 in
theorem do7_ok (h : Mch C w b st wr z) (key : Nm) (v : DV) (hk : key.length ≤ maxLen) (hd : 2 ≤ st.length) (hl : st.length ≤ 1000000) (hw : ∀ u ∈ st, u.wf) (hm : wr.length < maxLen) (hn : ¬ ((pop2 st).k = 2 ∨ (pop1 st).k = 2)) :
    Calls Tryz.prog 47 #[.pointer (some ⟨b, 0, none⟩), oagg ⟨7, key, v⟩] w (Doing C w b z (stepV (fun k => (get z.sn k).getD DV.none) st wr ⟨7, key, v⟩)) := by
  have _hU : True := (fun _ _ _ => trivial) hd hm hw
  have hst := run_stf
  have HK := Lib.hid hk
  have HL := Lib.hid hl
  have HB := Lib.hid (below1 w (oobj ⟨7, key, v⟩))
  have HQ := Lib.hid (obox_new w ⟨7, key, v⟩)
  have HM := Lib.hid (h.below HB.out)
  have HLT := Lib.hid h.lt
  obtain ⟨vk, vx, vs⟩ := v
  have q0 := HQ.out.c0; have q1 := HQ.out.c1; have q2 := HQ.out.c2; have q3 := HQ.out.c3; have q4 := HQ.out.c4
  have e : stepV (fun k => (get z.sn k).getD DV.none) st wr ⟨7, key, ⟨vk, vx, vs⟩⟩ = .go (rest2 st ++ [⟨1, canon (ariN 7 (pop2 st).x (pop1 st).x), []⟩]) wr := by unfold stepV; exact if_neg hn
  rw [e]
  clear e
  show Calls _ _ _ _ fun e w' => e = .returned (.tuple #[]) ∧ Did C w b (rest2 st ++ [⟨1, canon (ariN 7 (pop2 st).x (pop1 st).x), []⟩]) (wr) z w'
  have HP := Lib.hid (reckon7_ok HM.out hd hl (fun e => hn (.inr e)) (fun e => hn (.inl e)) (hw _ (mem_last (by omega))).2.1 (hw _ (mem_last2 hd)).2.1)
  clear h hk hd hl hw hm HQ hn
  go_enter Tryz.func47, Tryz.ntmps47
  go_wp2_with (go_at_call 76; ((with_reducible refine HP.out.mono ?_); rintro e w2 ⟨rfl, hd⟩; have HD := Lib.hid hd; clear hd))
  go_end0
  exact ⟨rfl, HD.out.way (Way.of_below HB.out)⟩
set_option maxRecDepth 100000 in
set_option maxHeartbeats 4000000 in
theorem do7_text (h : Mch C w b st wr z) (key : Nm) (v : DV) (hk : key.length ≤ maxLen) (hd : 2 ≤ st.length) (hl : st.length ≤ 1000000) (hw : ∀ u ∈ st, u.wf) (hm : wr.length < maxLen) (hn : (pop2 st).k = 2 ∨ (pop1 st).k = 2) :
    Calls Tryz.prog 47 #[.pointer (some ⟨b, 0, none⟩), oagg ⟨7, key, v⟩] w (Doing C w b z (stepV (fun k => (get z.sn k).getD DV.none) st wr ⟨7, key, v⟩)) := by
  have _hU : True := (fun _ _ _ => trivial) hd hm hw
  have hst := run_stf
  have HK := Lib.hid hk
  have HL := Lib.hid hl
  have HB := Lib.hid (below1 w (oobj ⟨7, key, v⟩))
  have HQ := Lib.hid (obox_new w ⟨7, key, v⟩)
  have HM := Lib.hid (h.below HB.out)
  have HLT := Lib.hid h.lt
  obtain ⟨vk, vx, vs⟩ := v
  have q0 := HQ.out.c0; have q1 := HQ.out.c1; have q2 := HQ.out.c2; have q3 := HQ.out.c3; have q4 := HQ.out.c4
  have e : stepV (fun k => (get z.sn k).getD DV.none) st wr ⟨7, key, ⟨vk, vx, vs⟩⟩ = .no 23 := by unfold stepV; exact if_pos hn
  rw [e]
  clear e
  show Calls _ _ _ _ fun e w' => e = .panicked (flt 23) ∧ ∃ C', Way C w C' w'
  have HP := Lib.hid (reckon_text HM.out hd hl (.func 79) hn)
  clear h hk hd hl hw hm HQ hn
  go_enter Tryz.func47, Tryz.ntmps47
  go_wp2_with (go_at_call 76; ((with_reducible refine HP.out.mono ?_); rintro e w2 ⟨rfl, C', hm, hw⟩; have HD := Lib.hid ((Way.of_below (C := C) HB.out).trans hw); clear hm hw))
  exact ⟨rfl, rfl, _, HD.out⟩
set_option maxRecDepth 100000 in
set_option maxHeartbeats 4000000 in
theorem do8_ok (h : Mch C w b st wr z) (key : Nm) (v : DV) (hk : key.length ≤ maxLen) (hd : 2 ≤ st.length) (hl : st.length ≤ 1000000) (hw : ∀ u ∈ st, u.wf) (hm : wr.length < maxLen) (hn : ¬ ((pop2 st).k = 2 ∨ (pop1 st).k = 2)) :
    Calls Tryz.prog 47 #[.pointer (some ⟨b, 0, none⟩), oagg ⟨8, key, v⟩] w (Doing C w b z (stepV (fun k => (get z.sn k).getD DV.none) st wr ⟨8, key, v⟩)) := by
  have _hU : True := (fun _ _ _ => trivial) hd hm hw
  have hst := run_stf
  have HK := Lib.hid hk
  have HL := Lib.hid hl
  have HB := Lib.hid (below1 w (oobj ⟨8, key, v⟩))
  have HQ := Lib.hid (obox_new w ⟨8, key, v⟩)
  have HM := Lib.hid (h.below HB.out)
  have HLT := Lib.hid h.lt
  obtain ⟨vk, vx, vs⟩ := v
  have q0 := HQ.out.c0; have q1 := HQ.out.c1; have q2 := HQ.out.c2; have q3 := HQ.out.c3; have q4 := HQ.out.c4
  have e : stepV (fun k => (get z.sn k).getD DV.none) st wr ⟨8, key, ⟨vk, vx, vs⟩⟩ = .go (rest2 st ++ [⟨1, canon (ariN 8 (pop2 st).x (pop1 st).x), []⟩]) wr := by unfold stepV; exact if_neg hn
  rw [e]
  clear e
  show Calls _ _ _ _ fun e w' => e = .returned (.tuple #[]) ∧ Did C w b (rest2 st ++ [⟨1, canon (ariN 8 (pop2 st).x (pop1 st).x), []⟩]) (wr) z w'
  have HP := Lib.hid (reckon8_ok HM.out hd hl (fun e => hn (.inr e)) (fun e => hn (.inl e)) (hw _ (mem_last (by omega))).2.1 (hw _ (mem_last2 hd)).2.1)
  clear h hk hd hl hw hm HQ hn
  go_enter Tryz.func47, Tryz.ntmps47
  go_wp2_with (go_at_call 76; ((with_reducible refine HP.out.mono ?_); rintro e w2 ⟨rfl, hd⟩; have HD := Lib.hid hd; clear hd))
  go_end0
  exact ⟨rfl, HD.out.way (Way.of_below HB.out)⟩
set_option maxRecDepth 100000 in
set_option maxHeartbeats 4000000 in
theorem do8_text (h : Mch C w b st wr z) (key : Nm) (v : DV) (hk : key.length ≤ maxLen) (hd : 2 ≤ st.length) (hl : st.length ≤ 1000000) (hw : ∀ u ∈ st, u.wf) (hm : wr.length < maxLen) (hn : (pop2 st).k = 2 ∨ (pop1 st).k = 2) :
    Calls Tryz.prog 47 #[.pointer (some ⟨b, 0, none⟩), oagg ⟨8, key, v⟩] w (Doing C w b z (stepV (fun k => (get z.sn k).getD DV.none) st wr ⟨8, key, v⟩)) := by
  have _hU : True := (fun _ _ _ => trivial) hd hm hw
  have hst := run_stf
  have HK := Lib.hid hk
  have HL := Lib.hid hl
  have HB := Lib.hid (below1 w (oobj ⟨8, key, v⟩))
  have HQ := Lib.hid (obox_new w ⟨8, key, v⟩)
  have HM := Lib.hid (h.below HB.out)
  have HLT := Lib.hid h.lt
  obtain ⟨vk, vx, vs⟩ := v
  have q0 := HQ.out.c0; have q1 := HQ.out.c1; have q2 := HQ.out.c2; have q3 := HQ.out.c3; have q4 := HQ.out.c4
  have e : stepV (fun k => (get z.sn k).getD DV.none) st wr ⟨8, key, ⟨vk, vx, vs⟩⟩ = .no 23 := by unfold stepV; exact if_pos hn
  rw [e]
  clear e
  show Calls _ _ _ _ fun e w' => e = .panicked (flt 23) ∧ ∃ C', Way C w C' w'
  have HP := Lib.hid (reckon_text HM.out hd hl (.func 80) hn)
  clear h hk hd hl hw hm HQ hn
  go_enter Tryz.func47, Tryz.ntmps47
  go_wp2_with (go_at_call 76; ((with_reducible refine HP.out.mono ?_); rintro e w2 ⟨rfl, C', hm, hw⟩; have HD := Lib.hid ((Way.of_below (C := C) HB.out).trans hw); clear hm hw))
  exact ⟨rfl, rfl, _, HD.out⟩
set_option maxRecDepth 100000 in
set_option maxHeartbeats 4000000 in
theorem do9_ok (h : Mch C w b st wr z) (key : Nm) (v : DV) (hk : key.length ≤ maxLen) (hd : 2 ≤ st.length) (hl : st.length ≤ 1000000) (hw : ∀ u ∈ st, u.wf) (hm : wr.length < maxLen) (hn : ¬ ((pop2 st).k = 2 ∨ (pop1 st).k = 2)) :
    Calls Tryz.prog 47 #[.pointer (some ⟨b, 0, none⟩), oagg ⟨9, key, v⟩] w (Doing C w b z (stepV (fun k => (get z.sn k).getD DV.none) st wr ⟨9, key, v⟩)) := by
  have _hU : True := (fun _ _ _ => trivial) hd hm hw
  have hst := run_stf
  have HK := Lib.hid hk
  have HL := Lib.hid hl
  have HB := Lib.hid (below1 w (oobj ⟨9, key, v⟩))
  have HQ := Lib.hid (obox_new w ⟨9, key, v⟩)
  have HM := Lib.hid (h.below HB.out)
  have HLT := Lib.hid h.lt
  obtain ⟨vk, vx, vs⟩ := v
  have q0 := HQ.out.c0; have q1 := HQ.out.c1; have q2 := HQ.out.c2; have q3 := HQ.out.c3; have q4 := HQ.out.c4
  have e : stepV (fun k => (get z.sn k).getD DV.none) st wr ⟨9, key, ⟨vk, vx, vs⟩⟩ = .go (rest2 st ++ [⟨1, canon (ariN 9 (pop2 st).x (pop1 st).x), []⟩]) wr := by unfold stepV; exact if_neg hn
  rw [e]
  clear e
  show Calls _ _ _ _ fun e w' => e = .returned (.tuple #[]) ∧ Did C w b (rest2 st ++ [⟨1, canon (ariN 9 (pop2 st).x (pop1 st).x), []⟩]) (wr) z w'
  have HP := Lib.hid (reckon9_ok HM.out hd hl (fun e => hn (.inr e)) (fun e => hn (.inl e)) (hw _ (mem_last (by omega))).2.1 (hw _ (mem_last2 hd)).2.1)
  clear h hk hd hl hw hm HQ hn
  go_enter Tryz.func47, Tryz.ntmps47
  go_wp2_with (go_at_call 76; ((with_reducible refine HP.out.mono ?_); rintro e w2 ⟨rfl, hd⟩; have HD := Lib.hid hd; clear hd))
  go_end0
  exact ⟨rfl, HD.out.way (Way.of_below HB.out)⟩
set_option maxRecDepth 100000 in
set_option maxHeartbeats 4000000 in
theorem do9_text (h : Mch C w b st wr z) (key : Nm) (v : DV) (hk : key.length ≤ maxLen) (hd : 2 ≤ st.length) (hl : st.length ≤ 1000000) (hw : ∀ u ∈ st, u.wf) (hm : wr.length < maxLen) (hn : (pop2 st).k = 2 ∨ (pop1 st).k = 2) :
    Calls Tryz.prog 47 #[.pointer (some ⟨b, 0, none⟩), oagg ⟨9, key, v⟩] w (Doing C w b z (stepV (fun k => (get z.sn k).getD DV.none) st wr ⟨9, key, v⟩)) := by
  have _hU : True := (fun _ _ _ => trivial) hd hm hw
  have hst := run_stf
  have HK := Lib.hid hk
  have HL := Lib.hid hl
  have HB := Lib.hid (below1 w (oobj ⟨9, key, v⟩))
  have HQ := Lib.hid (obox_new w ⟨9, key, v⟩)
  have HM := Lib.hid (h.below HB.out)
  have HLT := Lib.hid h.lt
  obtain ⟨vk, vx, vs⟩ := v
  have q0 := HQ.out.c0; have q1 := HQ.out.c1; have q2 := HQ.out.c2; have q3 := HQ.out.c3; have q4 := HQ.out.c4
  have e : stepV (fun k => (get z.sn k).getD DV.none) st wr ⟨9, key, ⟨vk, vx, vs⟩⟩ = .no 23 := by unfold stepV; exact if_pos hn
  rw [e]
  clear e
  show Calls _ _ _ _ fun e w' => e = .panicked (flt 23) ∧ ∃ C', Way C w C' w'
  have HP := Lib.hid (reckon_text HM.out hd hl (.func 81) hn)
  clear h hk hd hl hw hm HQ hn
  go_enter Tryz.func47, Tryz.ntmps47
  go_wp2_with (go_at_call 76; ((with_reducible refine HP.out.mono ?_); rintro e w2 ⟨rfl, C', hm, hw⟩; have HD := Lib.hid ((Way.of_below (C := C) HB.out).trans hw); clear hm hw))
  exact ⟨rfl, rfl, _, HD.out⟩
set_option maxRecDepth 100000 in
set_option maxHeartbeats 4000000 in
theorem do10_ok (h : Mch C w b st wr z) (key : Nm) (v : DV) (hk : key.length ≤ maxLen) (hd : 2 ≤ st.length) (hl : st.length ≤ 1000000) (hw : ∀ u ∈ st, u.wf) (hm : wr.length < maxLen) (hn : ¬ ((pop2 st).k = 2 ∨ (pop1 st).k = 2)) :
    Calls Tryz.prog 47 #[.pointer (some ⟨b, 0, none⟩), oagg ⟨10, key, v⟩] w (Doing C w b z (stepV (fun k => (get z.sn k).getD DV.none) st wr ⟨10, key, v⟩)) := by
  have _hU : True := (fun _ _ _ => trivial) hd hm hw
  have hst := run_stf
  have HK := Lib.hid hk
  have HL := Lib.hid hl
  have HB := Lib.hid (below1 w (oobj ⟨10, key, v⟩))
  have HQ := Lib.hid (obox_new w ⟨10, key, v⟩)
  have HM := Lib.hid (h.below HB.out)
  have HLT := Lib.hid h.lt
  obtain ⟨vk, vx, vs⟩ := v
  have q0 := HQ.out.c0; have q1 := HQ.out.c1; have q2 := HQ.out.c2; have q3 := HQ.out.c3; have q4 := HQ.out.c4
  have e : stepV (fun k => (get z.sn k).getD DV.none) st wr ⟨10, key, ⟨vk, vx, vs⟩⟩ = .go (rest2 st ++ [⟨1, canon (ariN 10 (pop2 st).x (pop1 st).x), []⟩]) wr := by unfold stepV; exact if_neg hn
  rw [e]
  clear e
  show Calls _ _ _ _ fun e w' => e = .returned (.tuple #[]) ∧ Did C w b (rest2 st ++ [⟨1, canon (ariN 10 (pop2 st).x (pop1 st).x), []⟩]) (wr) z w'
  have HP := Lib.hid (reckon10_ok HM.out hd hl (fun e => hn (.inr e)) (fun e => hn (.inl e)) (hw _ (mem_last (by omega))).2.1 (hw _ (mem_last2 hd)).2.1)
  clear h hk hd hl hw hm HQ hn
  go_enter Tryz.func47, Tryz.ntmps47
  go_wp2_with (go_at_call 76; ((with_reducible refine HP.out.mono ?_); rintro e w2 ⟨rfl, hd⟩; have HD := Lib.hid hd; clear hd))
  go_end0
  exact ⟨rfl, HD.out.way (Way.of_below HB.out)⟩
set_option maxRecDepth 100000 in
set_option maxHeartbeats 4000000 in
theorem do10_text (h : Mch C w b st wr z) (key : Nm) (v : DV) (hk : key.length ≤ maxLen) (hd : 2 ≤ st.length) (hl : st.length ≤ 1000000) (hw : ∀ u ∈ st, u.wf) (hm : wr.length < maxLen) (hn : (pop2 st).k = 2 ∨ (pop1 st).k = 2) :
    Calls Tryz.prog 47 #[.pointer (some ⟨b, 0, none⟩), oagg ⟨10, key, v⟩] w (Doing C w b z (stepV (fun k => (get z.sn k).getD DV.none) st wr ⟨10, key, v⟩)) := by
  have _hU : True := (fun _ _ _ => trivial) hd hm hw
  have hst := run_stf
  have HK := Lib.hid hk
  have HL := Lib.hid hl
  have HB := Lib.hid (below1 w (oobj ⟨10, key, v⟩))
  have HQ := Lib.hid (obox_new w ⟨10, key, v⟩)
  have HM := Lib.hid (h.below HB.out)
  have HLT := Lib.hid h.lt
  obtain ⟨vk, vx, vs⟩ := v
  have q0 := HQ.out.c0; have q1 := HQ.out.c1; have q2 := HQ.out.c2; have q3 := HQ.out.c3; have q4 := HQ.out.c4
  have e : stepV (fun k => (get z.sn k).getD DV.none) st wr ⟨10, key, ⟨vk, vx, vs⟩⟩ = .no 23 := by unfold stepV; exact if_pos hn
  rw [e]
  clear e
  show Calls _ _ _ _ fun e w' => e = .panicked (flt 23) ∧ ∃ C', Way C w C' w'
  have HP := Lib.hid (reckon_text HM.out hd hl (.func 82) hn)
  clear h hk hd hl hw hm HQ hn
  go_enter Tryz.func47, Tryz.ntmps47
  go_wp2_with (go_at_call 76; ((with_reducible refine HP.out.mono ?_); rintro e w2 ⟨rfl, C', hm, hw⟩; have HD := Lib.hid ((Way.of_below (C := C) HB.out).trans hw); clear hm hw))
  exact ⟨rfl, rfl, _, HD.out⟩
set_option maxRecDepth 100000 in
set_option maxHeartbeats 4000000 in
theorem do11 (h : Mch C w b st wr z) (key : Nm) (v : DV) (hk : key.length ≤ maxLen) (hd : 2 ≤ st.length) (hl : st.length ≤ 1000000) (hw : ∀ u ∈ st, u.wf) (hm : wr.length < maxLen) :
    Calls Tryz.prog 47 #[.pointer (some ⟨b, 0, none⟩), oagg ⟨11, key, v⟩] w (Doing C w b z (stepV (fun k => (get z.sn k).getD DV.none) st wr ⟨11, key, v⟩)) := by
  have _hU : True := (fun _ _ _ => trivial) hd hm hw
  have hst := run_stf
  have HK := Lib.hid hk
  have HL := Lib.hid hl
  have HB := Lib.hid (below1 w (oobj ⟨11, key, v⟩))
  have HQ := Lib.hid (obox_new w ⟨11, key, v⟩)
  have HM := Lib.hid (h.below HB.out)
  have HLT := Lib.hid h.lt
  obtain ⟨vk, vx, vs⟩ := v
  have q0 := HQ.out.c0; have q1 := HQ.out.c1; have q2 := HQ.out.c2; have q3 := HQ.out.c3; have q4 := HQ.out.c4
  show Calls _ _ _ _ fun e w' => e = .returned (.tuple #[]) ∧ Did C w b (rest2 st ++ [bitV (decide (compV (pop2 st) (pop1 st) < 0))]) (wr) z w'
  have HC := Lib.hid (mcompare_any HM.out hd hl (hw _ (mem_last (by omega))) (hw _ (mem_last2 hd)))
  have hr := rest2_length hd
  have HR : Hid ((rest2 st).length ≤ 1000000) := Lib.hid (by omega)
  clear h hk hd hl hw hm HQ hr
  generalize compV (pop2 st) (pop1 st) = cv at *
  generalize rest2 st = st2 at *
  go_enter Tryz.func47, Tryz.ntmps47
  go_wp2_with (first
    | (go_at_call 84; ((with_reducible refine HC.out.mono ?_); rintro e w1 ⟨rfl, C1, hm, hw⟩; have HM1 := Lib.hid hm; have HW1 := Lib.hid hw; clear hm hw))
    | (go_at_call 83; ((refine (test_any HM1.out _ HR.out).mono ?_); rintro e w2 ⟨rfl, hd⟩; have HD := Lib.hid (hd.way HW1.out); clear hd)))
  go_end0
  exact ⟨rfl, HD.out.way (Way.of_below HB.out)⟩
set_option maxRecDepth 100000 in
set_option maxHeartbeats 4000000 in
theorem do12 (h : Mch C w b st wr z) (key : Nm) (v : DV) (hk : key.length ≤ maxLen) (hd : 2 ≤ st.length) (hl : st.length ≤ 1000000) (hw : ∀ u ∈ st, u.wf) (hm : wr.length < maxLen) :
    Calls Tryz.prog 47 #[.pointer (some ⟨b, 0, none⟩), oagg ⟨12, key, v⟩] w (Doing C w b z (stepV (fun k => (get z.sn k).getD DV.none) st wr ⟨12, key, v⟩)) := by
  have _hU : True := (fun _ _ _ => trivial) hd hm hw
  have hst := run_stf
  have HK := Lib.hid hk
  have HL := Lib.hid hl
  have HB := Lib.hid (below1 w (oobj ⟨12, key, v⟩))
  have HQ := Lib.hid (obox_new w ⟨12, key, v⟩)
  have HM := Lib.hid (h.below HB.out)
  have HLT := Lib.hid h.lt
  obtain ⟨vk, vx, vs⟩ := v
  have q0 := HQ.out.c0; have q1 := HQ.out.c1; have q2 := HQ.out.c2; have q3 := HQ.out.c3; have q4 := HQ.out.c4
  show Calls _ _ _ _ fun e w' => e = .returned (.tuple #[]) ∧ Did C w b (rest2 st ++ [bitV (compV (pop2 st) (pop1 st) == 0)]) (wr) z w'
  have HC := Lib.hid (mcompare_any HM.out hd hl (hw _ (mem_last (by omega))) (hw _ (mem_last2 hd)))
  have hr := rest2_length hd
  have HR : Hid ((rest2 st).length ≤ 1000000) := Lib.hid (by omega)
  clear h hk hd hl hw hm HQ hr
  generalize compV (pop2 st) (pop1 st) = cv at *
  generalize rest2 st = st2 at *
  go_enter Tryz.func47, Tryz.ntmps47
  go_wp2_with (first
    | (go_at_call 84; ((with_reducible refine HC.out.mono ?_); rintro e w1 ⟨rfl, C1, hm, hw⟩; have HM1 := Lib.hid hm; have HW1 := Lib.hid hw; clear hm hw))
    | (go_at_call 83; ((refine (test_any HM1.out _ HR.out).mono ?_); rintro e w2 ⟨rfl, hd⟩; have HD := Lib.hid (hd.way HW1.out); clear hd)))
  go_end0
  exact ⟨rfl, HD.out.way (Way.of_below HB.out)⟩
set_option maxRecDepth 100000 in
set_option maxHeartbeats 4000000 in
theorem do13_ok (h : Mch C w b st wr z) (key : Nm) (v : DV) (hk : key.length ≤ maxLen) (hd : 1 ≤ st.length) (hl : st.length ≤ 1000000) (hw : ∀ u ∈ st, u.wf) (hm : wr.length < maxLen) (ht : truthV (pop1 st) = true) :
    Calls Tryz.prog 47 #[.pointer (some ⟨b, 0, none⟩), oagg ⟨13, key, v⟩] w (Doing C w b z (stepV (fun k => (get z.sn k).getD DV.none) st wr ⟨13, key, v⟩)) := by
  have _hU : True := (fun _ _ _ => trivial) hd hm hw
  have hst := run_stf
  have HK := Lib.hid hk
  have HL := Lib.hid hl
  have HB := Lib.hid (below1 w (oobj ⟨13, key, v⟩))
  have HQ := Lib.hid (obox_new w ⟨13, key, v⟩)
  have HM := Lib.hid (h.below HB.out)
  have HLT := Lib.hid h.lt
  obtain ⟨vk, vx, vs⟩ := v
  have q0 := HQ.out.c0; have q1 := HQ.out.c1; have q2 := HQ.out.c2; have q3 := HQ.out.c3; have q4 := HQ.out.c4
  have e : stepV (fun k => (get z.sn k).getD DV.none) st wr ⟨13, key, ⟨vk, vx, vs⟩⟩ = .go (rest1 st) wr := by unfold stepV; exact if_pos ht
  rw [e]
  clear e
  show Calls _ _ _ _ fun e w' => e = .returned (.tuple #[]) ∧ Did C w b (rest1 st) (wr) z w'
  have HP := Lib.hid (need_any HM.out hd hl)
  rw [if_pos ht] at HP
  clear h hk hd hl hw hm HQ ht
  go_enter Tryz.func47, Tryz.ntmps47
  go_wp2_with (go_at_call 85; ((with_reducible refine HP.out.mono ?_); rintro e w2 ⟨rfl, hd⟩; have HD := Lib.hid hd; clear hd))
  go_end0
  exact ⟨rfl, HD.out.way (Way.of_below HB.out)⟩
set_option maxRecDepth 100000 in
set_option maxHeartbeats 4000000 in
theorem do13_no (h : Mch C w b st wr z) (key : Nm) (v : DV) (hk : key.length ≤ maxLen) (hd : 1 ≤ st.length) (hl : st.length ≤ 1000000) (hw : ∀ u ∈ st, u.wf) (hm : wr.length < maxLen) (ht : ¬ truthV (pop1 st) = true) :
    Calls Tryz.prog 47 #[.pointer (some ⟨b, 0, none⟩), oagg ⟨13, key, v⟩] w (Doing C w b z (stepV (fun k => (get z.sn k).getD DV.none) st wr ⟨13, key, v⟩)) := by
  have _hU : True := (fun _ _ _ => trivial) hd hm hw
  have hst := run_stf
  have HK := Lib.hid hk
  have HL := Lib.hid hl
  have HB := Lib.hid (below1 w (oobj ⟨13, key, v⟩))
  have HQ := Lib.hid (obox_new w ⟨13, key, v⟩)
  have HM := Lib.hid (h.below HB.out)
  have HLT := Lib.hid h.lt
  obtain ⟨vk, vx, vs⟩ := v
  have q0 := HQ.out.c0; have q1 := HQ.out.c1; have q2 := HQ.out.c2; have q3 := HQ.out.c3; have q4 := HQ.out.c4
  have e : stepV (fun k => (get z.sn k).getD DV.none) st wr ⟨13, key, ⟨vk, vx, vs⟩⟩ = .no 22 := by unfold stepV; exact if_neg ht
  rw [e]
  clear e
  show Calls _ _ _ _ fun e w' => e = .panicked (flt 22) ∧ ∃ C', Way C w C' w'
  have HP := Lib.hid (need_any HM.out hd hl)
  rw [if_neg ht] at HP
  clear h hk hd hl hw hm HQ ht
  go_enter Tryz.func47, Tryz.ntmps47
  go_wp2_with (go_at_call 85; ((with_reducible refine HP.out.mono ?_); rintro e w2 ⟨rfl, C', hm, hw⟩; have HD := Lib.hid ((Way.of_below (C := C) HB.out).trans hw); clear hm hw))
  exact ⟨rfl, rfl, _, HD.out⟩
set_option maxRecDepth 100000 in
set_option maxHeartbeats 4000000 in
theorem do14 (h : Mch C w b st wr z) (key : Nm) (v : DV) (hk : key.length ≤ maxLen) (hd : 1 ≤ st.length) (hl : st.length ≤ 1000000) (hw : ∀ u ∈ st, u.wf) (hm : wr.length < maxLen) :
    Calls Tryz.prog 47 #[.pointer (some ⟨b, 0, none⟩), oagg ⟨14, key, v⟩] w (Doing C w b z (stepV (fun k => (get z.sn k).getD DV.none) st wr ⟨14, key, v⟩)) := by
  have _hU : True := (fun _ _ _ => trivial) hd hm hw
  have hst := run_stf
  have HK := Lib.hid hk
  have HL := Lib.hid hl
  have HB := Lib.hid (below1 w (oobj ⟨14, key, v⟩))
  have HQ := Lib.hid (obox_new w ⟨14, key, v⟩)
  have HM := Lib.hid (h.below HB.out)
  have HLT := Lib.hid h.lt
  obtain ⟨vk, vx, vs⟩ := v
  have q0 := HQ.out.c0; have q1 := HQ.out.c1; have q2 := HQ.out.c2; have q3 := HQ.out.c3; have q4 := HQ.out.c4
  show Calls _ _ _ _ fun e w' => e = .returned (.tuple #[]) ∧ Did C w b (rest1 st ++ [pop1 st, pop1 st]) (wr) z w'
  have HP := Lib.hid (pop_any HM.out hd hl)
  have hr := rest1_length hd
  have HR : Hid ((rest1 st).length + 1 ≤ 1000000) := Lib.hid (by omega)
  clear h hk hd hl hw hm HQ hr
  generalize pop1 st = x at *
  generalize rest1 st = st1 at *
  obtain ⟨k, u, s⟩ := x
  go_enter Tryz.func47, Tryz.ntmps47
  go_wp2_with (first
    | (go_at_call 75; ((with_reducible refine HP.out.mono ?_); rintro e w1 ⟨rfl, C1, hm, hw⟩; have HX := Lib.hid (at_new w1 ⟨k, u, s⟩); have HM1 := Lib.hid (hm.below (below1 w1 (vobj ⟨k, u, s⟩))); have HW1 := Lib.hid (hw.below (below1 w1 (vobj ⟨k, u, s⟩))); have NX := Lib.hid (show ¬ C1 w1.heap.size from fun e => absurd (hm.lt _ e) (Nat.lt_irrefl _)); have HP2 := Lib.hid (push_any HM1.out ⟨k, u, s⟩ (Nat.le_of_succ_le HR.out)); have tok := True.intro; clear hm hw))
    | (go_at_call 73; have _t := tok; ((with_reducible refine HP2.out.mono ?_); rintro e w2 ⟨rfl, C2, hm, hw⟩; have HX2 := Lib.hid (hw.at_dv HX.out NX.out); have p0 := HX2.out.c0; have p1 := HX2.out.c1; have p2 := HX2.out.c2; have HM2 := Lib.hid hm; have HW2 := Lib.hid (HW1.out.trans hw); have HP3 := Lib.hid (push_any HM2.out ⟨k, u, s⟩ (by rw [List.length_append]; exact HR.out)); clear hm hw tok _t HP2))
    | (go_at_call 73; ((with_reducible refine HP3.out.mono ?_); rintro e w3 ⟨rfl, hd⟩; have HD := Lib.hid (hd.way HW2.out); clear hd)))
  go_end0
  have HD' := HD.out
  rw [List.append_assoc] at HD'
  exact ⟨rfl, HD'.way (Way.of_below HB.out)⟩
set_option maxRecDepth 100000 in
set_option maxHeartbeats 4000000 in
theorem do15 (h : Mch C w b st wr z) (key : Nm) (v : DV) (hk : key.length ≤ maxLen) (hd : 2 ≤ st.length) (hl : st.length ≤ 1000000) (hw : ∀ u ∈ st, u.wf) (hm : wr.length < maxLen) :
    Calls Tryz.prog 47 #[.pointer (some ⟨b, 0, none⟩), oagg ⟨15, key, v⟩] w (Doing C w b z (stepV (fun k => (get z.sn k).getD DV.none) st wr ⟨15, key, v⟩)) := by
  have _hU : True := (fun _ _ _ => trivial) hd hm hw
  have hst := run_stf
  have HK := Lib.hid hk
  have HL := Lib.hid hl
  have HB := Lib.hid (below1 w (oobj ⟨15, key, v⟩))
  have HQ := Lib.hid (obox_new w ⟨15, key, v⟩)
  have HM := Lib.hid (h.below HB.out)
  have HLT := Lib.hid h.lt
  obtain ⟨vk, vx, vs⟩ := v
  have q0 := HQ.out.c0; have q1 := HQ.out.c1; have q2 := HQ.out.c2; have q3 := HQ.out.c3; have q4 := HQ.out.c4
  show Calls _ _ _ _ fun e w' => e = .returned (.tuple #[]) ∧ Did C w b (rest2 st ++ [pop1 st, pop2 st]) (wr) z w'
  have HP := Lib.hid (pair_any HM.out hd hl)
  have hr := rest2_length hd
  have HR : Hid ((rest2 st).length + 1 ≤ 1000000) := Lib.hid (by omega)
  clear h hk hd hl hw hm HQ hr
  generalize pop1 st = x at *
  generalize pop2 st = y at *
  generalize rest2 st = st1 at *
  obtain ⟨k, u, s⟩ := x
  obtain ⟨k', u', s'⟩ := y
  go_enter Tryz.func47, Tryz.ntmps47
  go_wp2_with (first
    | (go_at_call 86; ((with_reducible refine HP.out.mono ?_); rintro e w1 ⟨rfl, C1, hm, hw⟩; have A0 := Lib.hid (at_two w1 ⟨k', u', s'⟩ ⟨k, u, s⟩); have HM1 := Lib.hid (hm.below (below2 w1 (vobj ⟨k', u', s'⟩) (vobj ⟨k, u, s⟩))); have HW1 := Lib.hid (hw.below (below2 w1 (vobj ⟨k', u', s'⟩) (vobj ⟨k, u, s⟩))); have NX := Lib.hid (show ¬ C1 w1.heap.size from fun e => absurd (hm.lt _ e) (Nat.lt_irrefl _)); have r0 := A0.out.2.c0; have r1 := A0.out.2.c1; have r2 := A0.out.2.c2; have HP2 := Lib.hid (push_any HM1.out ⟨k, u, s⟩ (Nat.le_of_succ_le HR.out)); have tok := True.intro; clear hm hw))
    | (go_at_call 73; have _t := tok; ((with_reducible refine HP2.out.mono ?_); rintro e w2 ⟨rfl, C2, hm, hw⟩; have HX2 := Lib.hid (hw.at_dv A0.out.1 NX.out); have p0 := HX2.out.c0; have p1 := HX2.out.c1; have p2 := HX2.out.c2; have HM2 := Lib.hid hm; have HW2 := Lib.hid (HW1.out.trans hw); have HP3 := Lib.hid (push_any HM2.out ⟨k', u', s'⟩ (by rw [List.length_append]; exact HR.out)); clear hm hw tok _t HP2))
    | (go_at_call 73; ((with_reducible refine HP3.out.mono ?_); rintro e w3 ⟨rfl, hd⟩; have HD := Lib.hid (hd.way HW2.out); clear hd)))
  go_end0
  have HD' := HD.out
  rw [List.append_assoc] at HD'
  exact ⟨rfl, HD'.way (Way.of_below HB.out)⟩
end
end Go.Proofs.YtbgccaconhmbaaaGreatDoor
namespace Go.Proofs.YtbgccaconhmbaaaGreatDoor
open Go.ChangeShapes Go.WideShapes Go.ChangeAt Go.RowKit Go.Deep
section
variable {C : Nat → Prop} {b : Nat} {w : World} {st : List DV} {wr : Ent DV} {z : Mm}
theorem write_way {v : Value} {w1 w2 : World} {st' : List DV} (h : MB C w1 b st' wr z.sn v z.ms z.mw) {key : Nm} {x : DV} (hm : MAt w2 z.mw (put wr key x)) (hg : w1.grownBy w2 (some z.mw)) :
    Did C w1 b st' (put wr key x) z w2 ∧ w2.cell? ⟨b, 2, none⟩ = some (.map (some z.mw)) := by
  have hd := h.write hg hm
  refine ⟨hd, ?_⟩
  obtain ⟨C', ⟨v', hm'⟩, _⟩ := hd
  exact hm'.c2
theorem Did.tn {w' : World} (h : Did C w b st wr z w') : Tn C w w' := let ⟨_, _, hw⟩ := h; hw.tn
set_option maxRecDepth 100000 in
set_option maxHeartbeats 4000000 in
theorem do2 (h : Mch C w b st wr z) (key : Nm) (v : DV) (hk : key.length ≤ maxLen) (hd : 1 ≤ st.length) (hl : st.length ≤ 1000000) (hw : ∀ u ∈ st, u.wf) (hm : wr.length < maxLen) :
    Calls Tryz.prog 47 #[.pointer (some ⟨b, 0, none⟩), oagg ⟨2, key, v⟩] w (Doing C w b z (stepV (fun k => (get z.sn k).getD DV.none) st wr ⟨2, key, v⟩)) := by
  have _hU : True := (fun _ _ _ => trivial) hd hm hw
  have hst := run_stf
  have HK := Lib.hid hk
  have HL := Lib.hid hl
  have HB := Lib.hid (below1 w (oobj ⟨2, key, v⟩))
  have HQ := Lib.hid (obox_new w ⟨2, key, v⟩)
  have HM := Lib.hid (h.below HB.out)
  have HLT := Lib.hid h.lt
  obtain ⟨vk, vx, vs⟩ := v
  have q0 := HQ.out.c0; have q1 := HQ.out.c1; have q2 := HQ.out.c2; have q3 := HQ.out.c3; have q4 := HQ.out.c4
  show Calls _ _ _ _ fun e w' => e = .returned (.tuple #[]) ∧ Did C w b (rest1 st) (put wr key (pop1 st)) z w'
  have HLN := Lib.hid hm
  have NQ := Lib.hid (show ¬ C w.heap.size from fun e => absurd (HLT.out _ e) (Nat.lt_irrefl _))
  have HM := Lib.hid (HM.out.below (Below.refl _ _).drew)
  have HB := Lib.hid HB.out.drew
  have HQ := Lib.hid (HQ.out.below (Below.refl _ _).drew HQ.out.lt)
  have HP := Lib.hid (pop_any HM.out hd hl)
  have c2 : Hid (((w.alloc (oobj ⟨2, key, ⟨vk, vx, vs⟩⟩)).drew).cell? ⟨b, 2, none⟩ = some (.map (some z.mw))) := Lib.hid (let ⟨_, h⟩ := HM.out; h.c2)
  clear h hk hd hl hw hm
  generalize pop1 st = x at *
  generalize rest1 st = st1 at *
  obtain ⟨k, u, s⟩ := x
  go_enter Tryz.func47, Tryz.ntmps47
  go_wp2_with (fail)
  refine wp_region_held (S := (fun w' => w'.cell? ⟨b, 2, none⟩ = some (.map (some z.mw)) ∧ w'.cell? ⟨w.heap.size, 1, none⟩ = some (.string ⟨key.toArray⟩))) (by kernel_rfl) ?_
  change wpAnyH _ _ _ _ _ _ _ _ (World.drew _)
  refine wpAnyH_take (i := 0) (v := ?va_0) rfl (by kernel_rfl) (by kernel_rfl) (by kernel_rfl) (fun _ _ _ h => h) (Or.inl ⟨by rfl, ?ya_0⟩) ⟨c2.out, HQ.out.c1⟩ ?ra_0
  case ya_0 => (intro W hSw; (try dsimp only at hSw); obtain ⟨a0, a1⟩ := hSw; first | (go_simp; done) | (go_simp; with_reducible rfl))
  try go_simp
  refine wpAnyH_take (i := 1) (v := ?va_1) rfl (by kernel_rfl) (by kernel_rfl) (by kernel_rfl) (fun _ _ _ h => h) (Or.inl ⟨by rfl, ?ya_1⟩) ⟨c2.out, HQ.out.c1⟩ ?ra_1
  case ya_1 => (intro W hSw; (try dsimp only at hSw); obtain ⟨a0, a1⟩ := hSw; first | (go_simp; done) | (go_simp; with_reducible rfl))
  try go_simp
  refine wpAnyH_take (i := 2) (v := ?va_2) rfl (by kernel_rfl) (by kernel_rfl) (by kernel_rfl) (fun _ _ _ h => h) (Or.inl ⟨by rfl, ?ya_2⟩) ⟨c2.out, HQ.out.c1⟩ ?ra_2
  case ya_2 => (intro W hSw; (try dsimp only at hSw); obtain ⟨a0, a1⟩ := hSw; first | (go_simp; done) | (go_simp; with_reducible rfl))
  try go_simp
  refine wpAnyH_take (i := 3) (v := ?va_3) rfl (by kernel_rfl) (by kernel_rfl) (by kernel_rfl) (fun _ _ _ h => h) (Or.inl ⟨by rfl, ?ya_3⟩) ⟨c2.out, HQ.out.c1⟩ ?ra_3
  case ya_3 => (intro W hSw; (try dsimp only at hSw); obtain ⟨a0, a1⟩ := hSw; first | (go_simp; done) | (go_simp; with_reducible rfl))
  try go_simp
  refine wpAnyH_take (i := 4) (v := ?va_4) rfl (by kernel_rfl) (by kernel_rfl) (by kernel_rfl) (fun _ _ _ h => h) (Or.inl ⟨by rfl, ?ya_4⟩) ⟨c2.out, HQ.out.c1⟩ ?ra_4
  case ya_4 => (intro W hSw; (try dsimp only at hSw); obtain ⟨a0, a1⟩ := hSw; first | (go_simp; done) | (go_simp; with_reducible rfl))
  try go_simp
  refine wpAnyH_take (i := 5) (v := ?va_5) rfl (by kernel_rfl) (by kernel_rfl) (by kernel_rfl) (fun _ _ _ h => h) (Or.inl ⟨by rfl, ?ya_5⟩) ⟨c2.out, HQ.out.c1⟩ ?ra_5
  case ya_5 => (intro W hSw; (try dsimp only at hSw); obtain ⟨a0, a1⟩ := hSw; first | (go_simp; done) | (go_simp; with_reducible rfl))
  try go_simp
  refine wpAnyH_take (i := 6) (v := ?va_6) rfl (by kernel_rfl) (by kernel_rfl) (by kernel_rfl) (fun _ _ _ h => h) (Or.inl ⟨by rfl, ?ya_6⟩) ⟨c2.out, HQ.out.c1⟩ ?ra_6
  case ya_6 => (intro W hSw; (try dsimp only at hSw); obtain ⟨a0, a1⟩ := hSw; first | (go_simp; done) | (go_simp; with_reducible rfl))
  try go_simp
  refine wpAnyH_ready (rs := [7]) (by kernel_rfl) (by simp) ?_
  refine AllReadyH.cons rfl (fun K hK => ?_) AllReadyH.nil
  go_simp
  (go_wp2_with (first | (go_at_call 75; (with_reducible refine HP.out.mono ?_); rintro e w1 ⟨rfl, C1, hm1, hw⟩; obtain ⟨v1, hmb⟩ := hm1; have HQ1 := Lib.hid (HQ.out.tn hw.tn NQ.out); have N1 := Lib.hid (hw.not HQ.out.lt NQ.out); obtain ⟨w2, hrun, hmt, hg⟩ := hmb.wrm.store HK.out HLN.out ⟨k, u, s⟩; have W2 := Lib.hid (write_way hmb hmt hg); have HD := Lib.hid (W2.out.1.way hw); have HQ2 := Lib.hid (HQ1.out.tn W2.out.1.tn N1.out); have m1 := Lib.hid hmb.c2; have m2 := Lib.hid W2.out.2; clear hmb hw hmt hg)))
  refine hK.out _ _ ⟨m1.out, HQ1.out.c1⟩ (fun _ => ?_)
  clear hK K
  try go_simp
  refine wpAnyH_ready (rs := [8]) (by kernel_rfl) (by simp) ?_
  refine AllReadyH.cons rfl (fun K hK => ?_) AllReadyH.nil
  go_simp
  refine hK.out _ _ ⟨m2.out, HQ2.out.c1⟩ (fun _ => ?_)
  clear hK K
  try go_simp
  refine wpAnyH_done (by kernel_rfl) ?_ _
  try go_wp2
  go_end0
  exact ⟨rfl, HD.out.way (Way.of_below HB.out)⟩
set_option maxRecDepth 100000 in
set_option maxHeartbeats 4000000 in
theorem do3 (h : Mch C w b st wr z) (key : Nm) (v : DV) (hk : key.length ≤ maxLen) (hd : 0 ≤ st.length) (hl : st.length ≤ 1000000) (hw : ∀ u ∈ st, u.wf) (hm : wr.length < maxLen) :
    Calls Tryz.prog 47 #[.pointer (some ⟨b, 0, none⟩), oagg ⟨3, key, v⟩] w (Doing C w b z (stepV (fun k => (get z.sn k).getD DV.none) st wr ⟨3, key, v⟩)) := by
  have _hU : True := (fun _ _ _ => trivial) hd hm hw
  have hst := run_stf
  have HK := Lib.hid hk
  have HL := Lib.hid hl
  have HB := Lib.hid (below1 w (oobj ⟨3, key, v⟩))
  have HQ := Lib.hid (obox_new w ⟨3, key, v⟩)
  have HM := Lib.hid (h.below HB.out)
  have HLT := Lib.hid h.lt
  obtain ⟨vk, vx, vs⟩ := v
  have q0 := HQ.out.c0; have q1 := HQ.out.c1; have q2 := HQ.out.c2; have q3 := HQ.out.c3; have q4 := HQ.out.c4
  show Calls _ _ _ _ fun e w' => e = .returned (.tuple #[]) ∧ Did C w b (st) (put wr key DV.none) z w'
  have HLN := Lib.hid hm
  have NQ := Lib.hid (show ¬ C w.heap.size from fun e => absurd (HLT.out _ e) (Nat.lt_irrefl _))
  have HM := Lib.hid (HM.out.below (Below.refl _ _).drew)
  have HB := Lib.hid HB.out.drew
  have HQ := Lib.hid (HQ.out.below (Below.refl _ _).drew HQ.out.lt)
  obtain ⟨v1, hmb⟩ := HM.out
  have c2 := Lib.hid hmb.c2
  obtain ⟨w2, hrun, hmt, hg⟩ := hmb.wrm.store HK.out HLN.out ⟨0, 0, []⟩
  have W2 := Lib.hid (write_way hmb hmt hg)
  have HD := Lib.hid W2.out.1
  have HQ2 := Lib.hid (HQ.out.tn W2.out.1.tn NQ.out)
  have m2 := Lib.hid W2.out.2
  clear hmb hmt hg
  clear h hk hd hl hw hm
  go_enter Tryz.func47, Tryz.ntmps47
  go_wp2_with (fail)
  refine wp_region_held (S := (fun w' => w'.cell? ⟨b, 2, none⟩ = some (.map (some z.mw)) ∧ w'.cell? ⟨w.heap.size, 1, none⟩ = some (.string ⟨key.toArray⟩))) (by kernel_rfl) ?_
  change wpAnyH _ _ _ _ _ _ _ _ (World.drew _)
  refine wpAnyH_take (i := 0) (v := ?va_0) rfl (by kernel_rfl) (by kernel_rfl) (by kernel_rfl) (fun _ _ _ h => h) (Or.inl ⟨by rfl, ?ya_0⟩) ⟨c2.out, HQ.out.c1⟩ ?ra_0
  case ya_0 => (intro W hSw; (try dsimp only at hSw); obtain ⟨a0, a1⟩ := hSw; first | (go_simp; done) | (go_simp; with_reducible rfl))
  try go_simp
  refine wpAnyH_take (i := 1) (v := ?va_1) rfl (by kernel_rfl) (by kernel_rfl) (by kernel_rfl) (fun _ _ _ h => h) (Or.inl ⟨by rfl, ?ya_1⟩) ⟨c2.out, HQ.out.c1⟩ ?ra_1
  case ya_1 => (intro W hSw; (try dsimp only at hSw); obtain ⟨a0, a1⟩ := hSw; first | (go_simp; done) | (go_simp; with_reducible rfl))
  try go_simp
  refine wpAnyH_take (i := 2) (v := ?va_2) rfl (by kernel_rfl) (by kernel_rfl) (by kernel_rfl) (fun _ _ _ h => h) (Or.inl ⟨by rfl, ?ya_2⟩) ⟨c2.out, HQ.out.c1⟩ ?ra_2
  case ya_2 => (intro W hSw; (try dsimp only at hSw); obtain ⟨a0, a1⟩ := hSw; first | (go_simp; done) | (go_simp; with_reducible rfl))
  try go_simp
  refine wpAnyH_take (i := 3) (v := ?va_3) rfl (by kernel_rfl) (by kernel_rfl) (by kernel_rfl) (fun _ _ _ h => h) (Or.inl ⟨by rfl, ?ya_3⟩) ⟨c2.out, HQ.out.c1⟩ ?ra_3
  case ya_3 => (intro W hSw; (try dsimp only at hSw); obtain ⟨a0, a1⟩ := hSw; first | (go_simp; done) | (go_simp; with_reducible rfl))
  try go_simp
  refine wpAnyH_take (i := 4) (v := ?va_4) rfl (by kernel_rfl) (by kernel_rfl) (by kernel_rfl) (fun _ _ _ h => h) (Or.inl ⟨by rfl, ?ya_4⟩) ⟨c2.out, HQ.out.c1⟩ ?ra_4
  case ya_4 => (intro W hSw; (try dsimp only at hSw); obtain ⟨a0, a1⟩ := hSw; first | (go_simp; done) | (go_simp; with_reducible rfl))
  try go_simp
  refine wpAnyH_take (i := 5) (v := ?va_5) rfl (by kernel_rfl) (by kernel_rfl) (by kernel_rfl) (fun _ _ _ h => h) (Or.inl ⟨by rfl, ?ya_5⟩) ⟨c2.out, HQ.out.c1⟩ ?ra_5
  case ya_5 => (intro W hSw; (try dsimp only at hSw); obtain ⟨a0, a1⟩ := hSw; first | (go_simp; done) | (go_simp; with_reducible rfl))
  try go_simp
  refine wpAnyH_take (i := 6) (v := ?va_6) rfl (by kernel_rfl) (by kernel_rfl) (by kernel_rfl) (fun _ _ _ h => h) (Or.inl ⟨by rfl, ?ya_6⟩) ⟨c2.out, HQ.out.c1⟩ ?ra_6
  case ya_6 => (intro W hSw; (try dsimp only at hSw); obtain ⟨a0, a1⟩ := hSw; first | (go_simp; done) | (go_simp; with_reducible rfl))
  try go_simp
  refine wpAnyH_ready (rs := [7]) (by kernel_rfl) (by simp) ?_
  refine AllReadyH.cons rfl (fun K hK => ?_) AllReadyH.nil
  go_simp
  refine hK.out _ _ ⟨m2.out, HQ2.out.c1⟩ (fun _ => ?_)
  clear hK K
  try go_simp
  refine wpAnyH_done (by kernel_rfl) ?_ _
  try go_wp2
  go_end0
  exact ⟨rfl, HD.out.way (Way.of_below HB.out)⟩
end
end Go.Proofs.YtbgccaconhmbaaaGreatDoor
namespace Go.Proofs.YtbgccaconhmbaaaGreatDoor
open Go.RowKit
theorem dist_zero {m : Nat} : distN m = 0 ↔ m = 0 := by
  unfold distN
  by_cases h : m = 0
  · simp [h]
  · by_cases h1 : m < 4503599627370496 <;> by_cases h2 : m < infR <;> simp [h, h1, h2]
theorem cls_truth (x : Nat) : (!(x % 9223372036854775808 == 0) && !nanB x) = (!(clsN x == 0) && !(clsN x == 4) && !(clsN x == 5)) := by
  have hd := distN_le (x % 9223372036854775808)
  have hz := @dist_zero (x % 9223372036854775808)
  cases hn : nanB x
  · by_cases hs : x < 9223372036854775808
    · rw [clsN_pos hn hs]
      generalize distN (x % 9223372036854775808) = d at *
      by_cases h : x % 9223372036854775808 = 0
      · obtain rfl := hz.2 h
        simp [h]
      · have : d ≠ 0 := fun e => h (hz.1 e)
        have h1 : (x % 9223372036854775808 == 0) = false := beq_eq_false_iff_ne.2 h
        have h2 : (5 + d == 0) = false := beq_eq_false_iff_ne.2 (by omega)
        have h3 : (5 + d == 4) = false := beq_eq_false_iff_ne.2 (by omega)
        have h4 : (5 + d == 5) = false := beq_eq_false_iff_ne.2 (by omega)
        rw [h1, h2, h3, h4]; rfl
    · rw [clsN_neg hn hs]
      generalize distN (x % 9223372036854775808) = d at *
      by_cases h : x % 9223372036854775808 = 0
      · obtain rfl := hz.2 h
        simp [h]
      · have : d ≠ 0 := fun e => h (hz.1 e)
        have h1 : (x % 9223372036854775808 == 0) = false := beq_eq_false_iff_ne.2 h
        have h2 : (4 - d == 0) = false := beq_eq_false_iff_ne.2 (by omega)
        have h3 : (4 - d == 4) = false := beq_eq_false_iff_ne.2 (by omega)
        have h4 : (4 - d == 5) = false := beq_eq_false_iff_ne.2 (by omega)
        rw [h1, h2, h3, h4]; rfl
  · have e : clsN x = 0 := by simp [clsN, hn]
    rw [e]; simp
set_option maxRecDepth 100000 in
set_option maxHeartbeats 4000000 in
theorem rtruth_any (v : DV) (hx : v.x < 18446744073709551616) (w : World) : Calls Tryz.prog 50 #[vagg v] w fun e w' => e = .returned (.bool (truthV v)) ∧ Below w.heap.size w w' := by
  obtain ⟨k, x, s⟩ := v
  have HC := fun w => Lib.hid (rclass_any x w hx)
  have ht := cls_truth x
  clear hx
  by_cases h2 : k = 2
  · subst h2
    have e : truthV ⟨2, x, s⟩ = !(s == []) := rfl
    rw [e]
    clear e ht HC
    cases hs : s == []
    · have hs' : (s != []) = true := by simp [bne, hs]
      go_enter Tryz.func50, Tryz.ntmps50
      go_wp2
      go_ret
      exact ⟨rfl, below1 _ _⟩
    · obtain rfl : s = [] := by simpa using hs
      go_enter Tryz.func50, Tryz.ntmps50
      go_wp2
      go_ret
      exact ⟨rfl, below1 _ _⟩
  have b2 : (k == 2) = false := beq_eq_false_iff_ne.2 h2
  generalize clsN x = c at *
  by_cases h1 : k = 1
  · subst h1
    have e : truthV ⟨1, x, s⟩ = (!(x % 9223372036854775808 == 0) && !nanB x) := rfl
    rw [e, ht]
    clear e ht h2
    by_cases c0 : c = 0
    · subst c0
      go_enter Tryz.func50, Tryz.ntmps50
      go_wp2_with (go_at_call 87; refine (HC _).out.mono ?_; rintro e w' ⟨rfl, rfl⟩)
      go_ret
      exact ⟨rfl, below1 _ _⟩
    by_cases c4 : c = 4
    · subst c4
      go_enter Tryz.func50, Tryz.ntmps50
      go_wp2_with (go_at_call 87; refine (HC _).out.mono ?_; rintro e w' ⟨rfl, rfl⟩)
      go_ret
      exact ⟨rfl, below1 _ _⟩
    by_cases c5 : c = 5
    · subst c5
      go_enter Tryz.func50, Tryz.ntmps50
      go_wp2_with (go_at_call 87; refine (HC _).out.mono ?_; rintro e w' ⟨rfl, rfl⟩)
      go_ret
      exact ⟨rfl, below1 _ _⟩
    have d0 : (c == 0) = false := beq_eq_false_iff_ne.2 c0
    have d4 : (c == 4) = false := beq_eq_false_iff_ne.2 c4
    have d5 : (c == 5) = false := beq_eq_false_iff_ne.2 c5
    rw [d0, d4, d5]
    have i0 : ((c : Int) == 0) = false := beq_eq_false_iff_ne.2 (by omega)
    have i4 : ((c : Int) == 4) = false := beq_eq_false_iff_ne.2 (by omega)
    have i5 : ((c : Int) == 5) = false := beq_eq_false_iff_ne.2 (by omega)
    have j0 : ((c : Int) != 0) = true := by simp [bne, i0]
    have j4 : ((c : Int) != 4) = true := by simp [bne, i4]
    have j5 : ((c : Int) != 5) = true := by simp [bne, i5]
    clear c0 c4 c5 d0 d4 d5
    go_enter Tryz.func50, Tryz.ntmps50
    go_wp2_with (go_at_call 87; refine (HC _).out.mono ?_; rintro e w' ⟨rfl, rfl⟩)
    go_ret
    exact ⟨rfl, below1 _ _⟩
  have b1 : (k == 1) = false := beq_eq_false_iff_ne.2 h1
  have e : truthV ⟨k, x, s⟩ = false := by unfold truthV; rw [if_neg h1, if_neg h2]
  rw [e]
  clear h1 h2 e ht
  go_enter Tryz.func50, Tryz.ntmps50
  go_wp2_with (go_at_call 87; refine (HC _).out.mono ?_; rintro e w' ⟨rfl, rfl⟩)
  go_ret
  exact ⟨rfl, below1 _ _⟩
end Go.Proofs.YtbgccaconhmbaaaGreatDoor
