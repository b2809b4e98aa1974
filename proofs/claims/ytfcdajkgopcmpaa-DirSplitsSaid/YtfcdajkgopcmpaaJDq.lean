/- DirAgain's walk. Conditions: none of its own. -/
import Derived.Test.YtfcdajkgopcmpaaJDt
import Derived.Test.YtfcdajkgopcmpaaJSm
namespace Go.Proofs.Ytfcdajkgopcmpaa
open Go.ChangeShapes Go.WideShapes Go.ChangeAt Go.RowKit Go.Deep
theorem even_wf {n : Nat} (h0 : 0 < n) (h : n ≤ 12) : ∀ r ∈ evenV n, r.wf := by
  intro r hr
  obtain ⟨i, hi, rfl⟩ := List.mem_map.1 hr
  have hi := List.mem_range.1 hi
  have a := (part_spec h0 h (by omega : i ≤ n)).2
  have b := (part_spec h0 h (by omega : i + 1 ≤ n)).2
  unfold oneB at a b
  unfold RV.wf
  simp only
  omega
theorem rev_take {l : List RV} {i : Nat} (h : i < l.length) : l.reverse.take (i + 1) = l.reverse.take i ++ [l[l.length - 1 - i]] := by
  rw [List.take_succ_eq_append_getElem (by simpa using h), List.getElem_reverse]
/-- No two of the first ones have one number and one epoch. -/
def Unl (l : List RV) (i : Nat) : Prop := ∀ p q (hp : p < l.length) (hq : q < l.length), p < q → q < i → ¬ (l[p].i = l[q].i ∧ l[p].e = l[q].e)
theorem unl_all {l : List RV} (h : Unl l l.length) : ∀ r ∈ l, ∀ q ∈ l, r.i = q.i → r.e = q.e → r = q := by
  intro r hr q hq hi he
  obtain ⟨a, ha, rfl⟩ := List.mem_iff_getElem.1 hr
  obtain ⟨b, hb, rfl⟩ := List.mem_iff_getElem.1 hq
  rcases Nat.lt_trichotomy a b with h1 | h1 | h1
  · exact absurd ⟨hi, he⟩ (h a b ha hb h1 hb)
  · subst h1; rfl
  · exact absurd ⟨hi.symm, he.symm⟩ (h b a hb ha h1 ha)
/-- Two directories of the program, apart from each other. -/
structure AB (B : Nat) (w0 w : World) (a b : Nat) (La Lb : List RV) (C1 C2 : Nat → Prop) : Prop where
  ha : DKm C1 w a La
  hb : DKm C2 w b Lb
  dis : ∀ k, C1 k → ¬ C2 k
  b1 : ∀ k, C1 k → B ≤ k
  b2 : ∀ k, C2 k → B ≤ k
  lo : Below B w0 w
  bw : B ≤ w.heap.size
section
variable {B a b : Nat} {w0 w w' : World} {La Lb L' : List RV} {C1 C2 C' : Nat → Prop}
theorem AB.below (h : AB B w0 w a b La Lb C1 C2) (hb : Below w.heap.size w w') : AB B w0 w' a b La Lb C1 C2 :=
  ⟨h.ha.below hb, h.hb.below hb, h.dis, h.b1, h.b2, h.lo.trans (hb.mono h.bw), Nat.le_trans h.bw hb.size⟩
theorem AB.stepa (h : AB B w0 w a b La Lb C1 C2) (hk : DKm C' w' a L') (hw : Way C1 w C' w') : AB B w0 w' a b L' Lb C' C2 := by
  refine ⟨hk, h.hb.tn hw.tn (fun k h2 h1 => h.dis k h1 h2), fun k h1 h2 => ?_, fun k h1 => ?_, h.b2, h.lo.trans (hw.tn.below h.bw h.b1), Nat.le_trans h.bw hw.tn.size⟩
  · rcases hw.new k h1 with h3 | h3
    · exact h.dis k h3 h2
    · have := h.hb.lt k h2; omega
  · rcases hw.new k h1 with h3 | h3
    · exact h.b1 k h3
    · have := h.bw; omega
theorem AB.stepb (h : AB B w0 w a b La Lb C1 C2) (hk : DKm C' w' b L') (hw : Way C2 w C' w') : AB B w0 w' a b La L' C1 C' := by
  refine ⟨h.ha.tn hw.tn (fun k h1 h2 => h.dis k h1 h2), hk, fun k h1 h2 => ?_, h.b1, fun k h2 => ?_, h.lo.trans (hw.tn.below h.bw h.b2), Nat.le_trans h.bw hw.tn.size⟩
  · rcases hw.new k h2 with h3 | h3
    · exact h.dis k h1 h3
    · have := h.ha.lt k h1; omega
  · rcases hw.new k h2 with h3 | h3
    · exact h.b2 k h3
    · have := h.bw; omega
end
theorem HasR.low {B : Nat} {w w' : World} {v : Value} {l : List RV} (h : HasR (· < B) w v l) (hb : Below B w w') : HasR (· < B) w' v l := by
  obtain ⟨ao, cap, hv, h1, h2, h3, h4⟩ := h
  refine ⟨ao, cap, hv, h1, h2, h3, ?_⟩
  rcases h4 with h4 | ⟨b, o, h4, h5, h6, h7⟩
  · exact .inl h4
  · exact .inr ⟨b, o, h4, h5, Nat.lt_of_lt_of_le h6 hb.size, fun i hi => (h7 i hi).below hb h5⟩
section
variable {w : World}
set_option maxRecDepth 100000 in
set_option maxHeartbeats 40000000 in
/-- racelaw14.DirAgain answers true. -/
theorem again_any (N : Int) {v : Value} {l : List RV} (hv : HasR (· < w.heap.size) w v l) (hw : ∀ r ∈ l, r.wf) :
    Calls Try.prog 6 #[.int .i64 N, v] w fun e w' => e = .returned (.bool true) ∧ Below w.heap.size w w' := by
  have hst := run_stf
  have HF := fun w => Lib.hid (first14_any w)
  obtain ⟨ao, cap, rfl, hcp, hcm⟩ := hasR_len hv
  obtain ⟨m, hm⟩ : ∃ m, l.length = m := ⟨_, rfl⟩
  have HM := Lib.hid hm
  have HV := Lib.hid hv
  have HW := Lib.hid hw
  rw [hm] at HV hcp ⊢
  clear hv hw hm
  by_cases hn : N < 1 ∨ 12 < N
  · have HE := fun w => Lib.hid (reven_bad N hn w)
    clear hn
    go_enter Try.func6, Try.ntmps6
    go_wp2_with (first
      | (go_at_call 21; refine (HE _).out.mono ?_; rintro e w2 ⟨rfl, rfl⟩)
      | (go_at_call 7; first
        | (refine (HF w1).out.mono ?_; rintro e w3 ⟨rfl, hb⟩; have HB3 := Lib.hid (HB1.out.trans (hb.mono HB1.out.size)); clear hb)
        | (refine (HF _).out.mono ?_; rintro e w1 ⟨rfl, hb⟩; have HB1 := Lib.hid hb; clear hb))
      | fail)
    go_ret
    exact ⟨rfl, HB3.out⟩
  · obtain ⟨n, rfl⟩ : ∃ n : Nat, N = n := ⟨N.toNat, by omega⟩
    have h0 : 0 < n := by omega
    have h12 : n ≤ 12 := by omega
    have HE := fun w => Lib.hid (reven_any n h0 h12 w)
    clear hn
    by_cases hl : m ≤ 100
    · have HCH : Hid (checkV (evenV n) = 0) := Lib.hid (even_check n (by omega) (by omega))
      have HNW := fun w' P v (h : HasR P w' v (evenV n)) => Lib.hid (dnew_yes h (even_wf h0 h12) HCH.out)
      have HL0 : Hid ((newL (evenV n)).length ≤ 12) := Lib.hid (by rw [length_new, even_length]; exact h12)
      obtain ⟨L0, hL0⟩ : ∃ L0, newL (evenV n) = L0 := ⟨_, rfl⟩
      simp only [hL0] at HNW HL0
      clear hL0
      have HK1 : Hid ((learnL L0 l).2 ≤ m) := Lib.hid (by rw [← HM.out]; exact learn_le l L0)
      have HN1 : Hid ((learnL L0 l).1.length ≤ 112) := Lib.hid (by have := learn_len l L0; have := HL0.out; have := HM.out; omega)
      have HLA := fun w' C a (h : DKm C w' a L0) (hv : HasR (· < w.heap.size) w' (.slice ao m cap) l) (hb : ∀ k, C k → w.heap.size ≤ k) => Lib.hid (dlearn_any h hv (fun k h1 h2 => by have := hb k h2; omega) HW.out (by have := HL0.out; have := HM.out; omega))
      have HAG := Lib.hid (learn_again L0 l)
      have HTU : Hid (Rise L0 → Unl l m → (learnL L0 l.reverse).1 = (learnL L0 l).1) := Lib.hid (fun hr hu => (learn_turned hr (fun r => List.mem_reverse.symm) (unl_all (by rw [HM.out]; exact hu))).symm)
      have HLR : Hid ((learnL L0 l.reverse).1.length ≤ 112) := Lib.hid (by have := learn_len l.reverse L0; rw [List.length_reverse] at this; have := HL0.out; have := HM.out; omega)
      generalize hp : learnL L0 l = p1 at *
      obtain ⟨L1, K1⟩ := p1
      simp only at HK1 HN1 HLA HAG HTU
      clear hp
      have HLB := fun w' C a (h : DKm C w' a L1) (hv : HasR (· < w.heap.size) w' (.slice ao m cap) l) (hb : ∀ k, C k → w.heap.size ≤ k) => Lib.hid (dlearn_any h hv (fun k h1 h2 => by have := hb k h2; omega) HW.out (by have := HN1.out; have := HM.out; omega))
      simp only [HAG.out] at HLB
      have hk1 : decide (m < K1) = false := by have := HK1.out; simp; omega
      have hk0 : decide ((K1 : Int) < 0) = false := by simp
      have hl2 : decide ((100 : Int) < (m : Int)) = false := by simp; omega
      go_enter Try.func6, Try.ntmps6
      go_wp2_with (first
        | (go_at_call 21; refine (HE _).out.mono ?_; rintro e w2 ⟨ev, rfl, ho, hb⟩; have HB2 := Lib.hid (HB1.out.trans (hb.mono HB1.out.size)); have HEV := Lib.hid (own_ranges (l := evenV n) (by rw [even_length]; exact ho)); clear hb ho)
        | (go_at_call 9; first
          | (refine (HNW w3 _ _ HEV3.out).out.mono ?_; rintro e w4 ⟨b, C2, rfl, hd, hc, hb⟩; have HAB := Lib.hid (show AB w.heap.size w w4 a b L0 L0 C1 C2 from ⟨HD3.out.below hb, hd, fun k h1 h2 => by have := HD3.out.lt k h1; have := hc k h2; omega, fun k h1 => Nat.le_trans HB2.out.size (HC3.out k h1), fun k h1 => Nat.le_trans HB3.out.size (hc k h1), HB3.out.trans (hb.mono HB3.out.size), Nat.le_trans HB3.out.size hb.size⟩); clear hd hc hb)
          | (refine (HNW _ _ _ HEV.out).out.mono ?_; rintro e w3 ⟨a, C1, rfl, hd, hc, hb⟩; have HD3 := Lib.hid hd; have HC3 := Lib.hid hc; have HB3 := Lib.hid (HB2.out.trans (hb.mono HB2.out.size)); have HEV3 := Lib.hid (HEV.out.below hb); clear hd hc hb))
        | (go_at_call 19; first
          | (refine (HLB _ _ _ HAB.out.ha (HV.out.low HAB.out.lo) HAB.out.b1).out.mono ?_; rintro e w6 ⟨rfl, C4, hd, hwy⟩; have hab := HAB.out.stepa hd hwy; have HAB := Lib.hid hab; clear hd hwy hab)
          | (refine (HLA _ _ _ HAB.out.ha (HV.out.low HAB.out.lo) HAB.out.b1).out.mono ?_; rintro e w5 ⟨rfl, C3, hd, hwy⟩; have hab := HAB.out.stepa hd hwy; have HAB := Lib.hid hab; clear hd hwy hab))
        | (go_at_call 7; refine (HF _).out.mono ?_; rintro e w1 ⟨rfl, hb⟩; have HB1 := Lib.hid hb; clear hb)
        | fail)
      clear HE HNW HLA HLB HEV HEV3 HD3 HC3 HB3 HB2 HB1
      have HLC := fun w' C b' v' Q (h : DKm C w' b' L0) (hv : HasR Q w' v' l.reverse) (hb : ∀ k, Q k → ¬ C k) => Lib.hid (dlearn_any h hv hb (fun r hr => HW.out r (List.mem_reverse.1 hr)) (by rw [List.length_reverse]; have := HL0.out; have := HM.out; omega))
      go_loopw [12, 13] (fun vt vi wr => ∃ i : Nat, vi = .int .i64 i ∧ i ≤ m ∧ Hid (Unl l i) ∧ Hid (wr.ownsRow w6.heap.size 37 4 vt i (cellsR (l.reverse.take i))) ∧ Hid (Below w6.heap.size w6 wr)) (fun _ vi _ => m - (RowKit.intOf vi).toNat)
      case atStart => exact ⟨0, rfl, Nat.zero_le _, Lib.hid (fun p q hp hq h1 h2 => absurd h2 (Nat.not_lt_zero _)), Lib.hid (World.ownsRow_nil _ _ _ _), Lib.hid (Below.refl _ _)⟩
      case round =>
        obtain ⟨i, rfl, hi, HU, HO, HBW⟩ := hrel
        have HLO := Lib.hid (HAB.out.lo.trans (HBW.out.mono HAB.out.bw))
        by_cases hlt : i < m
        · have hil : i < l.length := by rw [HM.out]; exact hlt
          have hrl : l.length - 1 - i < l.length := by omega
          obtain ⟨b0, o, rfl, _, hbl, hri⟩ := hasR_at HV.out hil
          obtain ⟨b9, o9, e9, _, _, hrr⟩ := hasR_at HV.out hrl
          injection e9 with e9
          injection e9 with e91 e92
          subst e91 e92
          have HCL : ∀ p (hp : p < l.length) (wz : World), Below w.heap.size w wz → Hid (RAt wz b0 (o + p * 4) l[p]) := fun p hp wz hb => Lib.hid (by
            obtain ⟨b8, o8, e8, _, _, hr8⟩ := hasR_at HV.out hp
            injection e8 with e8
            injection e8 with e81 e82
            subst e81 e82
            exact hr8.below hb hbl)
          have HRT := Lib.hid (rev_take hil)
          have hqr := (HCL _ hrl wr HLO.out).out
          obtain ⟨q, hq⟩ : ∃ q : Nat, m - 1 - i = q := ⟨_, rfl⟩
          have e9 : l.length - 1 - i = q := by rw [HM.out]; exact hq
          simp only [e9] at hqr HRT
          have hql : q < l.length := by omega
          generalize l[q] = x at *
          have d0 := hqr.c0; have d1 := hqr.c1; have d2 := hqr.c2; have d3 := hqr.c3
          have hs1 : IntKind.i64.wrap ((m : Int) - 1) = (m : Int) - 1 := by rw [IntKind.wrap_i64]; omega
          have hs2 : IntKind.i64.wrap ((m : Int) - 1 - (i : Int)) = (q : Int) := by rw [IntKind.wrap_i64]; omega
          have hlt2 : (i : Int) < (m : Int) := by omega
          have hqm : (q : Int) < (m : Int) := by omega
          have HQ9 := Lib.hid e9
          have HSZ := Lib.hid HBW.out.size
          clear hrr hri hqr hql e9 hq hrl
          go_wp2_with (first
            | (at_builtin; refine wpList_append_ranges (wanted_none rfl _) (.tmp 77) (.tmp 86) rfl rfl (HO.out.alloc _) (by have := HSZ.out; simp; omega) rfl (has_lit wr x) (by omega) ?_; intro v2 w9 ho hg; have HO9 := Lib.hid ho; have HB9 := Lib.hid ((HBW.out.alloc HBW.out.size (robj x)).grown hg (HBW.out.alloc HBW.out.size _).size (fun y hy => (HO.out.lt y hy).1)); clear ho hg)
            | fail)
          have HLO9 := Lib.hid (HAB.out.lo.trans (HB9.out.mono HAB.out.bw))
          have HS9 := Lib.hid (Nat.le_trans HAB.out.bw HB9.out.size)
          clear d0 d1 d2 d3 hs1 hs2 hqm HQ9 HSZ HLO HO
          have HIL := Lib.hid hil
          obtain ⟨y, hy⟩ : ∃ y, l[i] = y := ⟨_, rfl⟩
          have HYE := Lib.hid hy
          have HYC : ∀ (wz : World), Below w.heap.size w wz → Hid (RAt wz b0 (o + i * 4) y) := fun wz hb => by rw [← hy]; exact HCL i hil wz hb
          clear hy hil
          go_loopw [14] (fun vj wz => ∃ j : Nat, vj = .int .i64 j ∧ j ≤ i ∧ Hid (∀ p (hp : p < l.length), p < j → ¬ (l[p].i = y.i ∧ l[p].e = y.e)) ∧ Hid (Below w9.heap.size w9 wz)) (fun vj _ => i - (RowKit.intOf vj).toNat)
          case atStart => exact ⟨0, rfl, Nat.zero_le _, Lib.hid (fun p hp h => absurd h (Nat.not_lt_zero _)), Lib.hid (Below.refl _ _)⟩
          case round =>
            obtain ⟨j, rfl, hj, HJ, HBZ⟩ := hrel
            have HLZ := Lib.hid (HLO9.out.trans (HBZ.out.mono HS9.out))
            by_cases hjn : j < i
            · have hjl : j < l.length := Nat.lt_trans hjn HIL.out
              have hjn2 : (j : Int) < (i : Int) := by omega
              have hjm2 : (j : Int) < (m : Int) := by omega
              have hrj := (HCL j hjl wr HLZ.out).out
              have hry := (HYC wr HLZ.out).out
              have HJN : Hid (¬ (l[j].i = y.i ∧ l[j].e = y.e) → ∀ p (hp : p < l.length), p < j + 1 → ¬ (l[p].i = y.i ∧ l[p].e = y.e)) := Lib.hid (fun hn p hp h => by
                rcases Nat.lt_or_ge p j with h1 | h1
                · exact HJ.out p hp h1
                · obtain rfl : p = j := by omega
                  exact hn)
              have d0 := hrj.c0; have d1 := hrj.c1
              have y0 := hry.c0; have y1 := hry.c1
              clear hrj hry HJ
              generalize l[j].i = xi at *
              generalize l[j].e = xe at *
              clear hjl
              by_cases h1 : xi = y.i
              · subst h1
                by_cases h2 : xe = y.e
                · subst h2
                  clear HJN
                  go_wp2
                  go_quiet (fail)
                  have hbq := below_drewN wr nq
                  have HLZ := Lib.hid (HLZ.out.trans (hbq.mono HLZ.out.size))
                  clear hbq
                  generalize wr.drewN nq = wz at *
                  go_wp2_with (first
                    | (go_at_call 7; refine (HF _).out.mono ?_; rintro e w10 ⟨rfl, hb⟩; have HB10 := Lib.hid (HLZ.out.trans (hb.mono HLZ.out.size)); clear hb)
                    | fail)
                  go_ret
                  exact ⟨rfl, HB10.out⟩
                · have h2' : (xe == y.e) = false := by simpa using h2
                  have HJ2 := Lib.hid (HJN.out (fun e => h2 e.2))
                  clear HJN
                  generalize y.e = ye at *
                  go_wp2
                  go_quiet (fail)
                  have hbq := below_drewN wr nq
                  have HBZ := Lib.hid (HBZ.out.trans (hbq.mono HBZ.out.size))
                  clear hbq
                  generalize wr.drewN nq = wz at *
                  go_wp2
                  go_roundw
                  case rel => exact ⟨j + 1, by go_num, by omega, HJ2, HBZ⟩
                  case measure => simp [RowKit.intOf]; omega
              · have h1' : (xi == y.i) = false := by simpa using h1
                have HJ2 := Lib.hid (HJN.out (fun e => h1 e.1))
                clear HJN
                go_wp2
                go_quiet (fail)
                have hbq := below_drewN wr nq
                have HBZ := Lib.hid (HBZ.out.trans (hbq.mono HBZ.out.size))
                clear hbq
                generalize wr.drewN nq = wz at *
                go_wp2
                go_roundw
                case rel => exact ⟨j + 1, by go_num, by omega, HJ2, HBZ⟩
                case measure => simp [RowKit.intOf]; omega
            · obtain rfl : j = i := by omega
              have HU2 : Hid (Unl l (j + 1)) := Lib.hid (fun p q hp hq h1 h2 => by
                rcases Nat.lt_or_ge q j with h3 | h3
                · exact HU.out p q hp hq h1 h3
                · obtain rfl : q = j := by omega
                  intro h
                  exact HJ.out p hp h1 ⟨h.1.trans (congrArg (·.i) HYE.out), h.2.trans (congrArg (·.e) HYE.out)⟩)
              have HOZ := Lib.hid (own_below HO9.out HBZ.out)
              go_wp2
              go_roundw
              case rel =>
                first
                  | exact ⟨j + 1, by go_num, by omega, HU2, by rw [HRT.out]; exact HOZ, Lib.hid (HB9.out.trans (HBZ.out.mono HB9.out.size))⟩
                  | (repeat (apply Exists.intro)
                     exact ⟨⟨j + 1, by go_num, by omega, HU2, by rw [HRT.out]; exact HOZ, Lib.hid (HB9.out.trans (HBZ.out.mono HB9.out.size))⟩, rfl⟩)
              case measure => simp [RowKit.intOf]; omega
        · obtain rfl : i = m := by omega
          have e : l.reverse.take i = l.reverse := List.take_of_length_le (by rw [List.length_reverse, HM.out]; exact Nat.le_refl _)
          have hor := HO.out
          rw [e] at hor
          have hlr : l.reverse.length = i := by rw [List.length_reverse]; exact HM.out
          have HHR := Lib.hid (own_ranges (l := l.reverse) (show wr.ownsRow w6.heap.size 37 4 u12 l.reverse.length (cellsR l.reverse) by rw [hlr]; exact hor))
          have HRI := Lib.hid (HTU.out HAB.out.hb.rise HU.out)
          have HAW := Lib.hid (HAB.out.below HBW.out)
          have HLT2 := HAB.out.hb.lt
          clear e hor hlr
          obtain ⟨to, tc, e12⟩ := own_slice HO.out
          subst e12
          have HBC : ∀ q, w6.heap.size ≤ q → ¬ C2 q := fun q h1 h2 => by have := HLT2 q h2; omega
          have HLZ := Lib.hid (HLC wr C2 b _ _ HAW.out.hb HHR.out HBC)
          go_wp2_with (first
            | (go_at_call 19; refine HLZ.out.out.mono ?_; rintro e w10 ⟨rfl, C9, hd, hwy⟩; rw [HRI.out] at hd; have hab := HAW.out.stepb hd hwy; have HAW := Lib.hid hab; clear hd hwy hab)
            | (go_at_call 7; refine (HF _).out.mono ?_; rintro e w11 ⟨rfl, hb⟩; have hab := HAW.out.below hb; have HAW := Lib.hid hab; clear hb hab)
            | (go_at_call 18; first
              | (have hx0 := HL11; refine (dlist_any HAW.out.hb).mono ?_; rintro e w13 ⟨lo2, lc2, rfl, ho, hb⟩; have HL12 := Lib.hid (own_ranges ho); have HL11 := Lib.hid (HL11.out.below hb); have hab := HAW.out.below hb; have HAW := Lib.hid hab; clear ho hb hab)
              | (refine (dlist_any HAW.out.ha).mono ?_; rintro e w12 ⟨lo1, lc1, rfl, ho, hb⟩; have HL11 := Lib.hid (own_ranges ho); have hab := HAW.out.below hb; have HAW := Lib.hid hab; clear ho hb hab))
            | (go_at_call 11; refine (ranges_same HL11.out HL12.out (by have := HN1.out; omega)).mono ?_; rintro e w14 ⟨rfl, hb⟩; have hab := HAW.out.below hb; have HAW := Lib.hid hab; clear hb hab)
            | fail)
          go_ret
          exact ⟨rfl, HAW.out.lo⟩
    · have hl2 : (m : Int) > 100 := by omega
      go_enter Try.func6, Try.ntmps6
      go_wp2_with (first
        | (go_at_call 21; refine (HE _).out.mono ?_; rintro e w2 ⟨ev, rfl, ho, hb⟩; have HB2 := Lib.hid (HB1.out.trans (hb.mono HB1.out.size)); clear hb ho)
        | (go_at_call 7; first
          | (refine (HF w2).out.mono ?_; rintro e w3 ⟨rfl, hb⟩; have HB3 := Lib.hid (HB2.out.trans (hb.mono HB2.out.size)); clear hb)
          | (refine (HF _).out.mono ?_; rintro e w1 ⟨rfl, hb⟩; have HB1 := Lib.hid hb; clear hb))
        | fail)
      go_ret
      exact ⟨rfl, HB3.out⟩
end
end Go.Proofs.Ytfcdajkgopcmpaa
