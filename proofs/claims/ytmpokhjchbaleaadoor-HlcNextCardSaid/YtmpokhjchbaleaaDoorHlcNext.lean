/- Nothing stands between a stamp and the one ahead of it; the order goes through; a text leads back: racelaw8.HlcNext answers true and leaves its arguments as they were. Conditions: the library's table and errors are what their initialisers lay. -/
import Derived.Test.YtmpokhjchbaleaaDoorK
import Derived.Test.YtmpokhjchbaleaaDoorP
import Derived.Deep.Cut
namespace Go.Proofs.YtmpokhjchbaleaaDoor
open Go.ChangeShapes Go.WideShapes Go.ChangeAt Go.RowKit
theorem eq_ite (a1 a2 a3 b1 b2 b3 : Int) (W : World) : (if a1 = b1 then if a2 = b2 then if a3 = b3 then Result.ok true W else Result.ok false W else Result.ok false W else Result.ok false W) = Result.ok (decide ((⟨a1, a2, a3⟩ : St) = ⟨b1, b2, b3⟩)) W := by
  by_cases h1 : a1 = b1
  · by_cases h2 : a2 = b2
    · by_cases h3 : a3 = b3
      · simp [h1, h2, h3]
      · simp [h1, h2, h3]
    · simp [h1, h2]
  · simp [h1]
set_option maxRecDepth 100000 in
set_option maxHeartbeats 20000000 in
theorem next_A1e (w : World) (a b : St) (ua : a.wf) (hT : Tabs w) (hma : mayS a = false) (hx : laterS a b = a) (hab : a = b) : Calls Tryd.prog 7 #[sagg a, sagg b] w fun e w' => e = .returned (.bool true) ∧ Below w.heap.size w w' := by
  have HT := Lib.hid hT
  have HA := Lib.hid (at_two w a b).1
  have HD := Lib.hid (at_two w a b).2
  have HB := Lib.hid (below2 w (sobj a) (sobj b))
  have hok : (priorS a).2 = false := by rw [prior_ok, hma]; rfl
  have hlen : (printS a).length ≤ 1000000 := by
    have h1 := decV_le a.w ua.1.1 ua.1.2
    have h2 := decV_le a.l ua.2.1.1 ua.2.1.2
    have h3 := decV_le a.n ua.2.2.1 ua.2.2.2
    unfold printS
    simp only [List.length_append, List.length_cons, List.length_nil]
    omega
  have hli := later_is a b
  have hcn := cmpS_neg a b
  have hcz := cmpS_zero a b
  have hcl := cmpS_le b a
  have hpr : parseS (printS a) = (St.zero, 4) := by
    rcases parse_is (printS a) with ⟨h1, h2, _⟩ | ⟨h1, _⟩
    · rw [print_inj h2, hma] at h1; cases h1
    · exact h1
  have HP1 := fun w => Lib.hid (prior_any a w)
  have HMa := fun w => Lib.hid (may_any a w)
  have HMb := fun w => Lib.hid (may_any b w)
  have HMp := fun w => Lib.hid (may_any (priorS a).1 w)
  have HCpa := fun w => Lib.hid (compare_any (priorS a).1 a w)
  have HCpb := fun w => Lib.hid (compare_any (priorS a).1 b w)
  have HCba := fun w => Lib.hid (compare_any b a w)
  have HCab := fun w => Lib.hid (compare_any a b w)
  have HX := fun w h => Lib.hid (print_any a ua w h)
  have HR := fun w h => Lib.hid (parse_any w h (printS a) hlen)
  have HL := fun w => Lib.hid (later_any a b w)
  have HCxa := fun w => Lib.hid (compare_any (laterS a b) a w)
  have HCxb := fun w => Lib.hid (compare_any (laterS a b) b w)
  have EAB := fun w => eq_ite a.w a.l a.n b.w b.l b.n w
  have EXa := fun w => eq_ite (laterS a b).w (laterS a b).l (laterS a b).n a.w a.l a.n w
  have EXb := fun w => eq_ite (laterS a b).w (laterS a b).l (laterS a b).n b.w b.l b.n w
  rw [hpr] at HR
  rw [hma] at HMa
  rw [hok] at HP1
  have d4 : decide ((0 : Int) ≤ cmpS (laterS a b) a) = true := decide_eq_true hli.2.1
  have d5 : decide ((0 : Int) ≤ cmpS (laterS a b) b) = true := decide_eq_true hli.2.2
  have d6 : (cmpS a b == -cmpS b a) = true := by rw [← hcn]; exact beq_self_eq_true _
  have d7 : (cmpS a b == 0) = decide (a = b) := by
    by_cases h : a = b
    · rw [decide_eq_true h, hcz.2 h]; rfl
    · rw [decide_eq_false h]; simpa using fun e => h (hcz.1 e)
  have d8 : IntKind.i64.wrap (-cmpS b a) = -cmpS b a := by rw [wrap_in (by omega)]
  rw [decide_eq_true (show ((⟨(laterS a b).w, (laterS a b).l, (laterS a b).n⟩ : St) = ⟨a.w, a.l, a.n⟩) from hx)] at EXa
  rw [decide_eq_true (show ((⟨a.w, a.l, a.n⟩ : St) = ⟨b.w, b.l, b.n⟩) from hab)] at EAB
  rw [decide_eq_true hab] at d7
  generalize cmpS (priorS a).1 a = cpa at *
  generalize cmpS (priorS a).1 b = cpb at *
  generalize cmpS (laterS a b) a = cxa at *
  generalize cmpS (laterS a b) b = cxb at *
  generalize cmpS a b = cab at *
  generalize cmpS b a = cba at *
  clear hab hli hcn hcz hcl hpr hlen hok hma hT ua hx
  generalize laterS a b = X at *
  generalize (priorS a).1 = P at *
  generalize printS a = T at *
  obtain ⟨p1, p2, p3⟩ := P
  obtain ⟨x1, x2, x3⟩ := X
  obtain ⟨a1, a2, a3⟩ := a
  obtain ⟨b1, b2, b3⟩ := b
  go_enter Tryd.func7, Tryd.ntmps7
  go_upto_region 4 with (first
    | (go_at_call 10; (with_reducible refine (first_any _ (HT.out.below HB.out).pow).mono ?_); rintro e w1 ⟨rfl, hb⟩; have HA := Lib.hid (HA.out.below hb HA.out.lt); have HD := Lib.hid (HD.out.below hb HD.out.lt); have HB := Lib.hid (HB.out.trans (hb.mono HB.out.size)); clear hb; have ha0 := HA.out.c0; have ha1 := HA.out.c1; have ha2 := HA.out.c2; have ha3 := HA.out.lt; have hd0 := HD.out.c0; have hd1 := HD.out.c1; have hd2 := HD.out.c2; have hd3 := HD.out.lt)
    | (go_at_call 11; (with_reducible refine ((HP1 _).out).mono ?_); rintro e w2 ⟨rfl, hb⟩; have HA := Lib.hid ((HA.out.below hb HA.out.lt).alloc (sobj ⟨p1, p2, p3⟩)); have HD := Lib.hid ((HD.out.below hb HD.out.lt).alloc (sobj ⟨p1, p2, p3⟩)); have HP := Lib.hid (at_new w2 ⟨p1, p2, p3⟩); have HB := Lib.hid ((HB.out.trans (hb.mono HB.out.size)).alloc (Nat.le_trans HB.out.size hb.size) (sobj ⟨p1, p2, p3⟩)); clear hb; have ha0 := HA.out.c0; have ha1 := HA.out.c1; have ha2 := HA.out.c2; have ha3 := HA.out.lt; have hd0 := HD.out.c0; have hd1 := HD.out.c1; have hd2 := HD.out.c2; have hd3 := HD.out.lt; have hp0 := HP.out.c0; have hp1 := HP.out.c1; have hp2 := HP.out.c2; have hp3 := HP.out.lt))
  go_upto_region 11 with (first
    | (go_at_call 13; (with_reducible refine ((HMa _).out).mono ?_); rintro e w3 ⟨rfl, hb⟩; have HA := Lib.hid (HA.out.below hb HA.out.lt); have HD := Lib.hid (HD.out.below hb HD.out.lt); have HP := Lib.hid (HP.out.below hb HP.out.lt); have HB := Lib.hid (HB.out.trans (hb.mono HB.out.size)); clear hb; have ha0 := HA.out.c0; have ha1 := HA.out.c1; have ha2 := HA.out.c2; have ha3 := HA.out.lt; have hd0 := HD.out.c0; have hd1 := HD.out.c1; have hd2 := HD.out.c2; have hd3 := HD.out.lt; have hp0 := HP.out.c0; have hp1 := HP.out.c1; have hp2 := HP.out.c2; have hp3 := HP.out.lt)
    | (go_at_call 13; (with_reducible refine ((HMb _).out).mono ?_); rintro e w3 ⟨rfl, hb⟩; have HA := Lib.hid (HA.out.below hb HA.out.lt); have HD := Lib.hid (HD.out.below hb HD.out.lt); have HP := Lib.hid (HP.out.below hb HP.out.lt); have HB := Lib.hid (HB.out.trans (hb.mono HB.out.size)); clear hb; have ha0 := HA.out.c0; have ha1 := HA.out.c1; have ha2 := HA.out.c2; have ha3 := HA.out.lt; have hd0 := HD.out.c0; have hd1 := HD.out.c1; have hd2 := HD.out.c2; have hd3 := HD.out.lt; have hp0 := HP.out.c0; have hp1 := HP.out.c1; have hp2 := HP.out.c2; have hp3 := HP.out.lt)
    | (go_at_call 13; (with_reducible refine ((HMp _).out).mono ?_); rintro e w3 ⟨rfl, hb⟩; have HA := Lib.hid (HA.out.below hb HA.out.lt); have HD := Lib.hid (HD.out.below hb HD.out.lt); have HP := Lib.hid (HP.out.below hb HP.out.lt); have HB := Lib.hid (HB.out.trans (hb.mono HB.out.size)); clear hb; have ha0 := HA.out.c0; have ha1 := HA.out.c1; have ha2 := HA.out.c2; have ha3 := HA.out.lt; have hd0 := HD.out.c0; have hd1 := HD.out.c1; have hd2 := HD.out.c2; have hd3 := HD.out.lt; have hp0 := HP.out.c0; have hp1 := HP.out.c1; have hp2 := HP.out.c2; have hp3 := HP.out.lt)
    | (go_at_call 15; (with_reducible refine ((HCpa _).out).mono ?_); rintro e w3 ⟨rfl, hb⟩; have HA := Lib.hid (HA.out.below hb HA.out.lt); have HD := Lib.hid (HD.out.below hb HD.out.lt); have HP := Lib.hid (HP.out.below hb HP.out.lt); have HB := Lib.hid (HB.out.trans (hb.mono HB.out.size)); clear hb; have ha0 := HA.out.c0; have ha1 := HA.out.c1; have ha2 := HA.out.c2; have ha3 := HA.out.lt; have hd0 := HD.out.c0; have hd1 := HD.out.c1; have hd2 := HD.out.c2; have hd3 := HD.out.lt; have hp0 := HP.out.c0; have hp1 := HP.out.c1; have hp2 := HP.out.c2; have hp3 := HP.out.lt)
    | (go_at_call 15; (with_reducible refine ((HCpb _).out).mono ?_); rintro e w3 ⟨rfl, hb⟩; have HA := Lib.hid (HA.out.below hb HA.out.lt); have HD := Lib.hid (HD.out.below hb HD.out.lt); have HP := Lib.hid (HP.out.below hb HP.out.lt); have HB := Lib.hid (HB.out.trans (hb.mono HB.out.size)); clear hb; have ha0 := HA.out.c0; have ha1 := HA.out.c1; have ha2 := HA.out.c2; have ha3 := HA.out.lt; have hd0 := HD.out.c0; have hd1 := HD.out.c1; have hd2 := HD.out.c2; have hd3 := HD.out.lt; have hp0 := HP.out.c0; have hp1 := HP.out.c1; have hp2 := HP.out.c2; have hp3 := HP.out.lt)
    | (go_at_call 15; (with_reducible refine ((HCba _).out).mono ?_); rintro e w3 ⟨rfl, hb⟩; have HA := Lib.hid (HA.out.below hb HA.out.lt); have HD := Lib.hid (HD.out.below hb HD.out.lt); have HP := Lib.hid (HP.out.below hb HP.out.lt); have HB := Lib.hid (HB.out.trans (hb.mono HB.out.size)); clear hb; have ha0 := HA.out.c0; have ha1 := HA.out.c1; have ha2 := HA.out.c2; have ha3 := HA.out.lt; have hd0 := HD.out.c0; have hd1 := HD.out.c1; have hd2 := HD.out.c2; have hd3 := HD.out.lt; have hp0 := HP.out.c0; have hp1 := HP.out.c1; have hp2 := HP.out.c2; have hp3 := HP.out.lt)
    | (go_at_call 19; (with_reducible refine ((HX _ (HT.out.below HB.out).pow).out).mono ?_); rintro e w4 ⟨rfl, hb⟩; have HA := Lib.hid (HA.out.below hb HA.out.lt); have HD := Lib.hid (HD.out.below hb HD.out.lt); have HP := Lib.hid (HP.out.below hb HP.out.lt); have HB := Lib.hid (HB.out.trans (hb.mono HB.out.size)); clear hb; have ha0 := HA.out.c0; have ha1 := HA.out.c1; have ha2 := HA.out.c2; have ha3 := HA.out.lt; have hd0 := HD.out.c0; have hd1 := HD.out.c1; have hd2 := HD.out.c2; have hd3 := HD.out.lt; have hp0 := HP.out.c0; have hp1 := HP.out.c1; have hp2 := HP.out.c2; have hp3 := HP.out.lt)
    | (go_at_call 21; (with_reducible refine ((HR _ (HT.out.below HB.out)).out).mono ?_); rintro e w5 ⟨rfl, hb⟩; have HA := Lib.hid ((HA.out.below hb HA.out.lt).alloc (sobj ⟨0, 0, 0⟩)); have HD := Lib.hid ((HD.out.below hb HD.out.lt).alloc (sobj ⟨0, 0, 0⟩)); have HP := Lib.hid ((HP.out.below hb HP.out.lt).alloc (sobj ⟨0, 0, 0⟩)); have HQ := Lib.hid (at_new w5 ⟨0, 0, 0⟩); have HB := Lib.hid ((HB.out.trans (hb.mono HB.out.size)).alloc (Nat.le_trans HB.out.size hb.size) (sobj ⟨0, 0, 0⟩)); clear hb; have ha0 := HA.out.c0; have ha1 := HA.out.c1; have ha2 := HA.out.c2; have ha3 := HA.out.lt; have hd0 := HD.out.c0; have hd1 := HD.out.c1; have hd2 := HD.out.c2; have hd3 := HD.out.lt; have hp0 := HP.out.c0; have hp1 := HP.out.c1; have hp2 := HP.out.c2; have hp3 := HP.out.lt; have hq0 := HQ.out.c0; have hq1 := HQ.out.c1; have hq2 := HQ.out.c2; have hq3 := HQ.out.lt))
  go_upto_region 12 with (first
    | (go_at_call 13; (with_reducible refine ((HMa _).out).mono ?_); rintro e w6 ⟨rfl, hb⟩; have HA := Lib.hid (HA.out.below hb HA.out.lt); have HD := Lib.hid (HD.out.below hb HD.out.lt); have HP := Lib.hid (HP.out.below hb HP.out.lt); have HQ := Lib.hid (HQ.out.below hb HQ.out.lt); have HB := Lib.hid (HB.out.trans (hb.mono HB.out.size)); clear hb; have ha0 := HA.out.c0; have ha1 := HA.out.c1; have ha2 := HA.out.c2; have ha3 := HA.out.lt; have hd0 := HD.out.c0; have hd1 := HD.out.c1; have hd2 := HD.out.c2; have hd3 := HD.out.lt; have hp0 := HP.out.c0; have hp1 := HP.out.c1; have hp2 := HP.out.c2; have hp3 := HP.out.lt; have hq0 := HQ.out.c0; have hq1 := HQ.out.c1; have hq2 := HQ.out.c2; have hq3 := HQ.out.lt))
  have HA := Lib.hid (HA.out.below (Below.refl _ _).drew HA.out.lt)
  have HD := Lib.hid (HD.out.below (Below.refl _ _).drew HD.out.lt)
  have HP := Lib.hid (HP.out.below (Below.refl _ _).drew HP.out.lt)
  have HQ := Lib.hid (HQ.out.below (Below.refl _ _).drew HQ.out.lt)
  have HB := Lib.hid HB.out.drew
  go_region_held (fun w' => w'.cell? ⟨w.heap.size, 0, none⟩ = some (.int .i64 a1) ∧ w'.cell? ⟨w.heap.size, 1, none⟩ = some (.int .i64 a2) ∧ w'.cell? ⟨w.heap.size, 2, none⟩ = some (.int .i64 a3) ∧ w'.cell? ⟨w.heap.size + 1, 0, none⟩ = some (.int .i64 b1) ∧ w'.cell? ⟨w.heap.size + 1, 1, none⟩ = some (.int .i64 b2) ∧ w'.cell? ⟨w.heap.size + 1, 2, none⟩ = some (.int .i64 b3)) (exact ⟨HA.out.c0, HA.out.c1, HA.out.c2, HD.out.c0, HD.out.c1, HD.out.c2⟩) (first
    | (go_at_call 15; (with_reducible refine ((HCab _).out).mono ?_); rintro e w7 ⟨rfl, hb⟩; have HA := Lib.hid (HA.out.below hb HA.out.lt); have HD := Lib.hid (HD.out.below hb HD.out.lt); have HP := Lib.hid (HP.out.below hb HP.out.lt); have HQ := Lib.hid (HQ.out.below hb HQ.out.lt); have HB := Lib.hid (HB.out.trans (hb.mono HB.out.size)); clear hb)
    | (go_at_call 15; (with_reducible refine ((HCba _).out).mono ?_); rintro e w7 ⟨rfl, hb⟩; have HA := Lib.hid (HA.out.below hb HA.out.lt); have HD := Lib.hid (HD.out.below hb HD.out.lt); have HP := Lib.hid (HP.out.below hb HP.out.lt); have HQ := Lib.hid (HQ.out.below hb HQ.out.lt); have HB := Lib.hid (HB.out.trans (hb.mono HB.out.size)); clear hb))
  go_upto_region 14 with (first
    | (go_at_call 17; (with_reducible refine ((HL _).out).mono ?_); rintro e w8 ⟨rfl, hb⟩; have HA := Lib.hid ((HA.out.below hb HA.out.lt).alloc (sobj ⟨x1, x2, x3⟩)); have HD := Lib.hid ((HD.out.below hb HD.out.lt).alloc (sobj ⟨x1, x2, x3⟩)); have HX2 := Lib.hid (at_new w8 ⟨x1, x2, x3⟩); have HB := Lib.hid ((HB.out.trans (hb.mono HB.out.size)).alloc (Nat.le_trans HB.out.size hb.size) (sobj ⟨x1, x2, x3⟩)); clear hb; have ha0 := HA.out.c0; have ha1 := HA.out.c1; have ha2 := HA.out.c2; have ha3 := HA.out.lt; have hd0 := HD.out.c0; have hd1 := HD.out.c1; have hd2 := HD.out.c2; have hd3 := HD.out.lt; have hx20 := HX2.out.c0; have hx21 := HX2.out.c1; have hx22 := HX2.out.c2; have hx23 := HX2.out.lt))
  go_wp2_with (first
    | (go_at_call 10; (with_reducible refine (first_any _ (HT.out.below HB.out).pow).mono ?_); rintro e w9 ⟨rfl, hb⟩; have HA := Lib.hid (HA.out.below hb HA.out.lt); have HD := Lib.hid (HD.out.below hb HD.out.lt); have HX2 := Lib.hid (HX2.out.below hb HX2.out.lt); have HB := Lib.hid (HB.out.trans (hb.mono HB.out.size)); clear hb; have ha0 := HA.out.c0; have ha1 := HA.out.c1; have ha2 := HA.out.c2; have ha3 := HA.out.lt; have hd0 := HD.out.c0; have hd1 := HD.out.c1; have hd2 := HD.out.c2; have hd3 := HD.out.lt; have hx20 := HX2.out.c0; have hx21 := HX2.out.c1; have hx22 := HX2.out.c2; have hx23 := HX2.out.lt)
    | (go_at_call 15; (with_reducible refine ((HCxa _).out).mono ?_); rintro e w9 ⟨rfl, hb⟩; have HA := Lib.hid (HA.out.below hb HA.out.lt); have HD := Lib.hid (HD.out.below hb HD.out.lt); have HX2 := Lib.hid (HX2.out.below hb HX2.out.lt); have HB := Lib.hid (HB.out.trans (hb.mono HB.out.size)); clear hb; have ha0 := HA.out.c0; have ha1 := HA.out.c1; have ha2 := HA.out.c2; have ha3 := HA.out.lt; have hd0 := HD.out.c0; have hd1 := HD.out.c1; have hd2 := HD.out.c2; have hd3 := HD.out.lt; have hx20 := HX2.out.c0; have hx21 := HX2.out.c1; have hx22 := HX2.out.c2; have hx23 := HX2.out.lt)
    | (go_at_call 15; (with_reducible refine ((HCxb _).out).mono ?_); rintro e w9 ⟨rfl, hb⟩; have HA := Lib.hid (HA.out.below hb HA.out.lt); have HD := Lib.hid (HD.out.below hb HD.out.lt); have HX2 := Lib.hid (HX2.out.below hb HX2.out.lt); have HB := Lib.hid (HB.out.trans (hb.mono HB.out.size)); clear hb; have ha0 := HA.out.c0; have ha1 := HA.out.c1; have ha2 := HA.out.c2; have ha3 := HA.out.lt; have hd0 := HD.out.c0; have hd1 := HD.out.c1; have hd2 := HD.out.c2; have hd3 := HD.out.lt; have hx20 := HX2.out.c0; have hx21 := HX2.out.c1; have hx22 := HX2.out.c2; have hx23 := HX2.out.lt))
  go_ret
  exact ⟨rfl, HB.out⟩
set_option maxRecDepth 100000 in
set_option maxHeartbeats 20000000 in
theorem next_A1n (w : World) (a b : St) (ua : a.wf) (hT : Tabs w) (hma : mayS a = false) (hx : laterS a b = a) (hab : a ≠ b) : Calls Tryd.prog 7 #[sagg a, sagg b] w fun e w' => e = .returned (.bool true) ∧ Below w.heap.size w w' := by
  have HT := Lib.hid hT
  have HA := Lib.hid (at_two w a b).1
  have HD := Lib.hid (at_two w a b).2
  have HB := Lib.hid (below2 w (sobj a) (sobj b))
  have hok : (priorS a).2 = false := by rw [prior_ok, hma]; rfl
  have hlen : (printS a).length ≤ 1000000 := by
    have h1 := decV_le a.w ua.1.1 ua.1.2
    have h2 := decV_le a.l ua.2.1.1 ua.2.1.2
    have h3 := decV_le a.n ua.2.2.1 ua.2.2.2
    unfold printS
    simp only [List.length_append, List.length_cons, List.length_nil]
    omega
  have hli := later_is a b
  have hcn := cmpS_neg a b
  have hcz := cmpS_zero a b
  have hcl := cmpS_le b a
  have hpr : parseS (printS a) = (St.zero, 4) := by
    rcases parse_is (printS a) with ⟨h1, h2, _⟩ | ⟨h1, _⟩
    · rw [print_inj h2, hma] at h1; cases h1
    · exact h1
  have HP1 := fun w => Lib.hid (prior_any a w)
  have HMa := fun w => Lib.hid (may_any a w)
  have HMb := fun w => Lib.hid (may_any b w)
  have HMp := fun w => Lib.hid (may_any (priorS a).1 w)
  have HCpa := fun w => Lib.hid (compare_any (priorS a).1 a w)
  have HCpb := fun w => Lib.hid (compare_any (priorS a).1 b w)
  have HCba := fun w => Lib.hid (compare_any b a w)
  have HCab := fun w => Lib.hid (compare_any a b w)
  have HX := fun w h => Lib.hid (print_any a ua w h)
  have HR := fun w h => Lib.hid (parse_any w h (printS a) hlen)
  have HL := fun w => Lib.hid (later_any a b w)
  have HCxa := fun w => Lib.hid (compare_any (laterS a b) a w)
  have HCxb := fun w => Lib.hid (compare_any (laterS a b) b w)
  have EAB := fun w => eq_ite a.w a.l a.n b.w b.l b.n w
  have EXa := fun w => eq_ite (laterS a b).w (laterS a b).l (laterS a b).n a.w a.l a.n w
  have EXb := fun w => eq_ite (laterS a b).w (laterS a b).l (laterS a b).n b.w b.l b.n w
  rw [hpr] at HR
  rw [hma] at HMa
  rw [hok] at HP1
  have d4 : decide ((0 : Int) ≤ cmpS (laterS a b) a) = true := decide_eq_true hli.2.1
  have d5 : decide ((0 : Int) ≤ cmpS (laterS a b) b) = true := decide_eq_true hli.2.2
  have d6 : (cmpS a b == -cmpS b a) = true := by rw [← hcn]; exact beq_self_eq_true _
  have d7 : (cmpS a b == 0) = decide (a = b) := by
    by_cases h : a = b
    · rw [decide_eq_true h, hcz.2 h]; rfl
    · rw [decide_eq_false h]; simpa using fun e => h (hcz.1 e)
  have d8 : IntKind.i64.wrap (-cmpS b a) = -cmpS b a := by rw [wrap_in (by omega)]
  rw [decide_eq_true (show ((⟨(laterS a b).w, (laterS a b).l, (laterS a b).n⟩ : St) = ⟨a.w, a.l, a.n⟩) from hx)] at EXa
  rw [decide_eq_false (show ¬ ((⟨a.w, a.l, a.n⟩ : St) = ⟨b.w, b.l, b.n⟩) from hab)] at EAB
  rw [decide_eq_false hab] at d7
  generalize cmpS (priorS a).1 a = cpa at *
  generalize cmpS (priorS a).1 b = cpb at *
  generalize cmpS (laterS a b) a = cxa at *
  generalize cmpS (laterS a b) b = cxb at *
  generalize cmpS a b = cab at *
  generalize cmpS b a = cba at *
  clear hab hli hcn hcz hcl hpr hlen hok hma hT ua hx
  generalize laterS a b = X at *
  generalize (priorS a).1 = P at *
  generalize printS a = T at *
  obtain ⟨p1, p2, p3⟩ := P
  obtain ⟨x1, x2, x3⟩ := X
  obtain ⟨a1, a2, a3⟩ := a
  obtain ⟨b1, b2, b3⟩ := b
  go_enter Tryd.func7, Tryd.ntmps7
  go_upto_region 4 with (first
    | (go_at_call 10; (with_reducible refine (first_any _ (HT.out.below HB.out).pow).mono ?_); rintro e w1 ⟨rfl, hb⟩; have HA := Lib.hid (HA.out.below hb HA.out.lt); have HD := Lib.hid (HD.out.below hb HD.out.lt); have HB := Lib.hid (HB.out.trans (hb.mono HB.out.size)); clear hb; have ha0 := HA.out.c0; have ha1 := HA.out.c1; have ha2 := HA.out.c2; have ha3 := HA.out.lt; have hd0 := HD.out.c0; have hd1 := HD.out.c1; have hd2 := HD.out.c2; have hd3 := HD.out.lt)
    | (go_at_call 11; (with_reducible refine ((HP1 _).out).mono ?_); rintro e w2 ⟨rfl, hb⟩; have HA := Lib.hid ((HA.out.below hb HA.out.lt).alloc (sobj ⟨p1, p2, p3⟩)); have HD := Lib.hid ((HD.out.below hb HD.out.lt).alloc (sobj ⟨p1, p2, p3⟩)); have HP := Lib.hid (at_new w2 ⟨p1, p2, p3⟩); have HB := Lib.hid ((HB.out.trans (hb.mono HB.out.size)).alloc (Nat.le_trans HB.out.size hb.size) (sobj ⟨p1, p2, p3⟩)); clear hb; have ha0 := HA.out.c0; have ha1 := HA.out.c1; have ha2 := HA.out.c2; have ha3 := HA.out.lt; have hd0 := HD.out.c0; have hd1 := HD.out.c1; have hd2 := HD.out.c2; have hd3 := HD.out.lt; have hp0 := HP.out.c0; have hp1 := HP.out.c1; have hp2 := HP.out.c2; have hp3 := HP.out.lt))
  go_upto_region 11 with (first
    | (go_at_call 13; (with_reducible refine ((HMa _).out).mono ?_); rintro e w3 ⟨rfl, hb⟩; have HA := Lib.hid (HA.out.below hb HA.out.lt); have HD := Lib.hid (HD.out.below hb HD.out.lt); have HP := Lib.hid (HP.out.below hb HP.out.lt); have HB := Lib.hid (HB.out.trans (hb.mono HB.out.size)); clear hb; have ha0 := HA.out.c0; have ha1 := HA.out.c1; have ha2 := HA.out.c2; have ha3 := HA.out.lt; have hd0 := HD.out.c0; have hd1 := HD.out.c1; have hd2 := HD.out.c2; have hd3 := HD.out.lt; have hp0 := HP.out.c0; have hp1 := HP.out.c1; have hp2 := HP.out.c2; have hp3 := HP.out.lt)
    | (go_at_call 13; (with_reducible refine ((HMb _).out).mono ?_); rintro e w3 ⟨rfl, hb⟩; have HA := Lib.hid (HA.out.below hb HA.out.lt); have HD := Lib.hid (HD.out.below hb HD.out.lt); have HP := Lib.hid (HP.out.below hb HP.out.lt); have HB := Lib.hid (HB.out.trans (hb.mono HB.out.size)); clear hb; have ha0 := HA.out.c0; have ha1 := HA.out.c1; have ha2 := HA.out.c2; have ha3 := HA.out.lt; have hd0 := HD.out.c0; have hd1 := HD.out.c1; have hd2 := HD.out.c2; have hd3 := HD.out.lt; have hp0 := HP.out.c0; have hp1 := HP.out.c1; have hp2 := HP.out.c2; have hp3 := HP.out.lt)
    | (go_at_call 13; (with_reducible refine ((HMp _).out).mono ?_); rintro e w3 ⟨rfl, hb⟩; have HA := Lib.hid (HA.out.below hb HA.out.lt); have HD := Lib.hid (HD.out.below hb HD.out.lt); have HP := Lib.hid (HP.out.below hb HP.out.lt); have HB := Lib.hid (HB.out.trans (hb.mono HB.out.size)); clear hb; have ha0 := HA.out.c0; have ha1 := HA.out.c1; have ha2 := HA.out.c2; have ha3 := HA.out.lt; have hd0 := HD.out.c0; have hd1 := HD.out.c1; have hd2 := HD.out.c2; have hd3 := HD.out.lt; have hp0 := HP.out.c0; have hp1 := HP.out.c1; have hp2 := HP.out.c2; have hp3 := HP.out.lt)
    | (go_at_call 15; (with_reducible refine ((HCpa _).out).mono ?_); rintro e w3 ⟨rfl, hb⟩; have HA := Lib.hid (HA.out.below hb HA.out.lt); have HD := Lib.hid (HD.out.below hb HD.out.lt); have HP := Lib.hid (HP.out.below hb HP.out.lt); have HB := Lib.hid (HB.out.trans (hb.mono HB.out.size)); clear hb; have ha0 := HA.out.c0; have ha1 := HA.out.c1; have ha2 := HA.out.c2; have ha3 := HA.out.lt; have hd0 := HD.out.c0; have hd1 := HD.out.c1; have hd2 := HD.out.c2; have hd3 := HD.out.lt; have hp0 := HP.out.c0; have hp1 := HP.out.c1; have hp2 := HP.out.c2; have hp3 := HP.out.lt)
    | (go_at_call 15; (with_reducible refine ((HCpb _).out).mono ?_); rintro e w3 ⟨rfl, hb⟩; have HA := Lib.hid (HA.out.below hb HA.out.lt); have HD := Lib.hid (HD.out.below hb HD.out.lt); have HP := Lib.hid (HP.out.below hb HP.out.lt); have HB := Lib.hid (HB.out.trans (hb.mono HB.out.size)); clear hb; have ha0 := HA.out.c0; have ha1 := HA.out.c1; have ha2 := HA.out.c2; have ha3 := HA.out.lt; have hd0 := HD.out.c0; have hd1 := HD.out.c1; have hd2 := HD.out.c2; have hd3 := HD.out.lt; have hp0 := HP.out.c0; have hp1 := HP.out.c1; have hp2 := HP.out.c2; have hp3 := HP.out.lt)
    | (go_at_call 15; (with_reducible refine ((HCba _).out).mono ?_); rintro e w3 ⟨rfl, hb⟩; have HA := Lib.hid (HA.out.below hb HA.out.lt); have HD := Lib.hid (HD.out.below hb HD.out.lt); have HP := Lib.hid (HP.out.below hb HP.out.lt); have HB := Lib.hid (HB.out.trans (hb.mono HB.out.size)); clear hb; have ha0 := HA.out.c0; have ha1 := HA.out.c1; have ha2 := HA.out.c2; have ha3 := HA.out.lt; have hd0 := HD.out.c0; have hd1 := HD.out.c1; have hd2 := HD.out.c2; have hd3 := HD.out.lt; have hp0 := HP.out.c0; have hp1 := HP.out.c1; have hp2 := HP.out.c2; have hp3 := HP.out.lt)
    | (go_at_call 19; (with_reducible refine ((HX _ (HT.out.below HB.out).pow).out).mono ?_); rintro e w4 ⟨rfl, hb⟩; have HA := Lib.hid (HA.out.below hb HA.out.lt); have HD := Lib.hid (HD.out.below hb HD.out.lt); have HP := Lib.hid (HP.out.below hb HP.out.lt); have HB := Lib.hid (HB.out.trans (hb.mono HB.out.size)); clear hb; have ha0 := HA.out.c0; have ha1 := HA.out.c1; have ha2 := HA.out.c2; have ha3 := HA.out.lt; have hd0 := HD.out.c0; have hd1 := HD.out.c1; have hd2 := HD.out.c2; have hd3 := HD.out.lt; have hp0 := HP.out.c0; have hp1 := HP.out.c1; have hp2 := HP.out.c2; have hp3 := HP.out.lt)
    | (go_at_call 21; (with_reducible refine ((HR _ (HT.out.below HB.out)).out).mono ?_); rintro e w5 ⟨rfl, hb⟩; have HA := Lib.hid ((HA.out.below hb HA.out.lt).alloc (sobj ⟨0, 0, 0⟩)); have HD := Lib.hid ((HD.out.below hb HD.out.lt).alloc (sobj ⟨0, 0, 0⟩)); have HP := Lib.hid ((HP.out.below hb HP.out.lt).alloc (sobj ⟨0, 0, 0⟩)); have HQ := Lib.hid (at_new w5 ⟨0, 0, 0⟩); have HB := Lib.hid ((HB.out.trans (hb.mono HB.out.size)).alloc (Nat.le_trans HB.out.size hb.size) (sobj ⟨0, 0, 0⟩)); clear hb; have ha0 := HA.out.c0; have ha1 := HA.out.c1; have ha2 := HA.out.c2; have ha3 := HA.out.lt; have hd0 := HD.out.c0; have hd1 := HD.out.c1; have hd2 := HD.out.c2; have hd3 := HD.out.lt; have hp0 := HP.out.c0; have hp1 := HP.out.c1; have hp2 := HP.out.c2; have hp3 := HP.out.lt; have hq0 := HQ.out.c0; have hq1 := HQ.out.c1; have hq2 := HQ.out.c2; have hq3 := HQ.out.lt))
  go_upto_region 12 with (first
    | (go_at_call 13; (with_reducible refine ((HMa _).out).mono ?_); rintro e w6 ⟨rfl, hb⟩; have HA := Lib.hid (HA.out.below hb HA.out.lt); have HD := Lib.hid (HD.out.below hb HD.out.lt); have HP := Lib.hid (HP.out.below hb HP.out.lt); have HQ := Lib.hid (HQ.out.below hb HQ.out.lt); have HB := Lib.hid (HB.out.trans (hb.mono HB.out.size)); clear hb; have ha0 := HA.out.c0; have ha1 := HA.out.c1; have ha2 := HA.out.c2; have ha3 := HA.out.lt; have hd0 := HD.out.c0; have hd1 := HD.out.c1; have hd2 := HD.out.c2; have hd3 := HD.out.lt; have hp0 := HP.out.c0; have hp1 := HP.out.c1; have hp2 := HP.out.c2; have hp3 := HP.out.lt; have hq0 := HQ.out.c0; have hq1 := HQ.out.c1; have hq2 := HQ.out.c2; have hq3 := HQ.out.lt))
  have HA := Lib.hid (HA.out.below (Below.refl _ _).drew HA.out.lt)
  have HD := Lib.hid (HD.out.below (Below.refl _ _).drew HD.out.lt)
  have HP := Lib.hid (HP.out.below (Below.refl _ _).drew HP.out.lt)
  have HQ := Lib.hid (HQ.out.below (Below.refl _ _).drew HQ.out.lt)
  have HB := Lib.hid HB.out.drew
  go_region_held (fun w' => w'.cell? ⟨w.heap.size, 0, none⟩ = some (.int .i64 a1) ∧ w'.cell? ⟨w.heap.size, 1, none⟩ = some (.int .i64 a2) ∧ w'.cell? ⟨w.heap.size, 2, none⟩ = some (.int .i64 a3) ∧ w'.cell? ⟨w.heap.size + 1, 0, none⟩ = some (.int .i64 b1) ∧ w'.cell? ⟨w.heap.size + 1, 1, none⟩ = some (.int .i64 b2) ∧ w'.cell? ⟨w.heap.size + 1, 2, none⟩ = some (.int .i64 b3)) (exact ⟨HA.out.c0, HA.out.c1, HA.out.c2, HD.out.c0, HD.out.c1, HD.out.c2⟩) (first
    | (go_at_call 15; (with_reducible refine ((HCab _).out).mono ?_); rintro e w7 ⟨rfl, hb⟩; have HA := Lib.hid (HA.out.below hb HA.out.lt); have HD := Lib.hid (HD.out.below hb HD.out.lt); have HP := Lib.hid (HP.out.below hb HP.out.lt); have HQ := Lib.hid (HQ.out.below hb HQ.out.lt); have HB := Lib.hid (HB.out.trans (hb.mono HB.out.size)); clear hb)
    | (go_at_call 15; (with_reducible refine ((HCba _).out).mono ?_); rintro e w7 ⟨rfl, hb⟩; have HA := Lib.hid (HA.out.below hb HA.out.lt); have HD := Lib.hid (HD.out.below hb HD.out.lt); have HP := Lib.hid (HP.out.below hb HP.out.lt); have HQ := Lib.hid (HQ.out.below hb HQ.out.lt); have HB := Lib.hid (HB.out.trans (hb.mono HB.out.size)); clear hb))
  go_upto_region 14 with (first
    | (go_at_call 17; (with_reducible refine ((HL _).out).mono ?_); rintro e w8 ⟨rfl, hb⟩; have HA := Lib.hid ((HA.out.below hb HA.out.lt).alloc (sobj ⟨x1, x2, x3⟩)); have HD := Lib.hid ((HD.out.below hb HD.out.lt).alloc (sobj ⟨x1, x2, x3⟩)); have HX2 := Lib.hid (at_new w8 ⟨x1, x2, x3⟩); have HB := Lib.hid ((HB.out.trans (hb.mono HB.out.size)).alloc (Nat.le_trans HB.out.size hb.size) (sobj ⟨x1, x2, x3⟩)); clear hb; have ha0 := HA.out.c0; have ha1 := HA.out.c1; have ha2 := HA.out.c2; have ha3 := HA.out.lt; have hd0 := HD.out.c0; have hd1 := HD.out.c1; have hd2 := HD.out.c2; have hd3 := HD.out.lt; have hx20 := HX2.out.c0; have hx21 := HX2.out.c1; have hx22 := HX2.out.c2; have hx23 := HX2.out.lt))
  go_wp2_with (first
    | (go_at_call 10; (with_reducible refine (first_any _ (HT.out.below HB.out).pow).mono ?_); rintro e w9 ⟨rfl, hb⟩; have HA := Lib.hid (HA.out.below hb HA.out.lt); have HD := Lib.hid (HD.out.below hb HD.out.lt); have HX2 := Lib.hid (HX2.out.below hb HX2.out.lt); have HB := Lib.hid (HB.out.trans (hb.mono HB.out.size)); clear hb; have ha0 := HA.out.c0; have ha1 := HA.out.c1; have ha2 := HA.out.c2; have ha3 := HA.out.lt; have hd0 := HD.out.c0; have hd1 := HD.out.c1; have hd2 := HD.out.c2; have hd3 := HD.out.lt; have hx20 := HX2.out.c0; have hx21 := HX2.out.c1; have hx22 := HX2.out.c2; have hx23 := HX2.out.lt)
    | (go_at_call 15; (with_reducible refine ((HCxa _).out).mono ?_); rintro e w9 ⟨rfl, hb⟩; have HA := Lib.hid (HA.out.below hb HA.out.lt); have HD := Lib.hid (HD.out.below hb HD.out.lt); have HX2 := Lib.hid (HX2.out.below hb HX2.out.lt); have HB := Lib.hid (HB.out.trans (hb.mono HB.out.size)); clear hb; have ha0 := HA.out.c0; have ha1 := HA.out.c1; have ha2 := HA.out.c2; have ha3 := HA.out.lt; have hd0 := HD.out.c0; have hd1 := HD.out.c1; have hd2 := HD.out.c2; have hd3 := HD.out.lt; have hx20 := HX2.out.c0; have hx21 := HX2.out.c1; have hx22 := HX2.out.c2; have hx23 := HX2.out.lt)
    | (go_at_call 15; (with_reducible refine ((HCxb _).out).mono ?_); rintro e w9 ⟨rfl, hb⟩; have HA := Lib.hid (HA.out.below hb HA.out.lt); have HD := Lib.hid (HD.out.below hb HD.out.lt); have HX2 := Lib.hid (HX2.out.below hb HX2.out.lt); have HB := Lib.hid (HB.out.trans (hb.mono HB.out.size)); clear hb; have ha0 := HA.out.c0; have ha1 := HA.out.c1; have ha2 := HA.out.c2; have ha3 := HA.out.lt; have hd0 := HD.out.c0; have hd1 := HD.out.c1; have hd2 := HD.out.c2; have hd3 := HD.out.lt; have hx20 := HX2.out.c0; have hx21 := HX2.out.c1; have hx22 := HX2.out.c2; have hx23 := HX2.out.lt))
  go_ret
  exact ⟨rfl, HB.out⟩
set_option maxRecDepth 100000 in
set_option maxHeartbeats 20000000 in
theorem next_A2 (w : World) (a b : St) (ua : a.wf) (hT : Tabs w) (hma : mayS a = false) (hx : laterS a b ≠ a) (hab : a ≠ b) : Calls Tryd.prog 7 #[sagg a, sagg b] w fun e w' => e = .returned (.bool true) ∧ Below w.heap.size w w' := by
  have HT := Lib.hid hT
  have HA := Lib.hid (at_two w a b).1
  have HD := Lib.hid (at_two w a b).2
  have HB := Lib.hid (below2 w (sobj a) (sobj b))
  have hok : (priorS a).2 = false := by rw [prior_ok, hma]; rfl
  have hlen : (printS a).length ≤ 1000000 := by
    have h1 := decV_le a.w ua.1.1 ua.1.2
    have h2 := decV_le a.l ua.2.1.1 ua.2.1.2
    have h3 := decV_le a.n ua.2.2.1 ua.2.2.2
    unfold printS
    simp only [List.length_append, List.length_cons, List.length_nil]
    omega
  have hli := later_is a b
  have hcn := cmpS_neg a b
  have hcz := cmpS_zero a b
  have hcl := cmpS_le b a
  have hpr : parseS (printS a) = (St.zero, 4) := by
    rcases parse_is (printS a) with ⟨h1, h2, _⟩ | ⟨h1, _⟩
    · rw [print_inj h2, hma] at h1; cases h1
    · exact h1
  have HP1 := fun w => Lib.hid (prior_any a w)
  have HMa := fun w => Lib.hid (may_any a w)
  have HMb := fun w => Lib.hid (may_any b w)
  have HMp := fun w => Lib.hid (may_any (priorS a).1 w)
  have HCpa := fun w => Lib.hid (compare_any (priorS a).1 a w)
  have HCpb := fun w => Lib.hid (compare_any (priorS a).1 b w)
  have HCba := fun w => Lib.hid (compare_any b a w)
  have HCab := fun w => Lib.hid (compare_any a b w)
  have HX := fun w h => Lib.hid (print_any a ua w h)
  have HR := fun w h => Lib.hid (parse_any w h (printS a) hlen)
  have HL := fun w => Lib.hid (later_any a b w)
  have HCxa := fun w => Lib.hid (compare_any (laterS a b) a w)
  have HCxb := fun w => Lib.hid (compare_any (laterS a b) b w)
  have EAB := fun w => eq_ite a.w a.l a.n b.w b.l b.n w
  have EXa := fun w => eq_ite (laterS a b).w (laterS a b).l (laterS a b).n a.w a.l a.n w
  have EXb := fun w => eq_ite (laterS a b).w (laterS a b).l (laterS a b).n b.w b.l b.n w
  rw [hpr] at HR
  rw [hma] at HMa
  rw [hok] at HP1
  have d4 : decide ((0 : Int) ≤ cmpS (laterS a b) a) = true := decide_eq_true hli.2.1
  have d5 : decide ((0 : Int) ≤ cmpS (laterS a b) b) = true := decide_eq_true hli.2.2
  have d6 : (cmpS a b == -cmpS b a) = true := by rw [← hcn]; exact beq_self_eq_true _
  have d7 : (cmpS a b == 0) = decide (a = b) := by
    by_cases h : a = b
    · rw [decide_eq_true h, hcz.2 h]; rfl
    · rw [decide_eq_false h]; simpa using fun e => h (hcz.1 e)
  have d8 : IntKind.i64.wrap (-cmpS b a) = -cmpS b a := by rw [wrap_in (by omega)]
  rw [decide_eq_false (show ¬ ((⟨(laterS a b).w, (laterS a b).l, (laterS a b).n⟩ : St) = ⟨a.w, a.l, a.n⟩) from hx)] at EXa
  rw [decide_eq_true (show ((⟨(laterS a b).w, (laterS a b).l, (laterS a b).n⟩ : St) = ⟨b.w, b.l, b.n⟩) from hli.1.resolve_left hx)] at EXb
  rw [decide_eq_false (show ¬ ((⟨a.w, a.l, a.n⟩ : St) = ⟨b.w, b.l, b.n⟩) from hab)] at EAB
  rw [decide_eq_false hab] at d7
  generalize cmpS (priorS a).1 a = cpa at *
  generalize cmpS (priorS a).1 b = cpb at *
  generalize cmpS (laterS a b) a = cxa at *
  generalize cmpS (laterS a b) b = cxb at *
  generalize cmpS a b = cab at *
  generalize cmpS b a = cba at *
  clear hab hli hcn hcz hcl hpr hlen hok hma hT ua hx
  generalize laterS a b = X at *
  generalize (priorS a).1 = P at *
  generalize printS a = T at *
  obtain ⟨p1, p2, p3⟩ := P
  obtain ⟨x1, x2, x3⟩ := X
  obtain ⟨a1, a2, a3⟩ := a
  obtain ⟨b1, b2, b3⟩ := b
  go_enter Tryd.func7, Tryd.ntmps7
  go_upto_region 4 with (first
    | (go_at_call 10; (with_reducible refine (first_any _ (HT.out.below HB.out).pow).mono ?_); rintro e w1 ⟨rfl, hb⟩; have HA := Lib.hid (HA.out.below hb HA.out.lt); have HD := Lib.hid (HD.out.below hb HD.out.lt); have HB := Lib.hid (HB.out.trans (hb.mono HB.out.size)); clear hb; have ha0 := HA.out.c0; have ha1 := HA.out.c1; have ha2 := HA.out.c2; have ha3 := HA.out.lt; have hd0 := HD.out.c0; have hd1 := HD.out.c1; have hd2 := HD.out.c2; have hd3 := HD.out.lt)
    | (go_at_call 11; (with_reducible refine ((HP1 _).out).mono ?_); rintro e w2 ⟨rfl, hb⟩; have HA := Lib.hid ((HA.out.below hb HA.out.lt).alloc (sobj ⟨p1, p2, p3⟩)); have HD := Lib.hid ((HD.out.below hb HD.out.lt).alloc (sobj ⟨p1, p2, p3⟩)); have HP := Lib.hid (at_new w2 ⟨p1, p2, p3⟩); have HB := Lib.hid ((HB.out.trans (hb.mono HB.out.size)).alloc (Nat.le_trans HB.out.size hb.size) (sobj ⟨p1, p2, p3⟩)); clear hb; have ha0 := HA.out.c0; have ha1 := HA.out.c1; have ha2 := HA.out.c2; have ha3 := HA.out.lt; have hd0 := HD.out.c0; have hd1 := HD.out.c1; have hd2 := HD.out.c2; have hd3 := HD.out.lt; have hp0 := HP.out.c0; have hp1 := HP.out.c1; have hp2 := HP.out.c2; have hp3 := HP.out.lt))
  go_upto_region 11 with (first
    | (go_at_call 13; (with_reducible refine ((HMa _).out).mono ?_); rintro e w3 ⟨rfl, hb⟩; have HA := Lib.hid (HA.out.below hb HA.out.lt); have HD := Lib.hid (HD.out.below hb HD.out.lt); have HP := Lib.hid (HP.out.below hb HP.out.lt); have HB := Lib.hid (HB.out.trans (hb.mono HB.out.size)); clear hb; have ha0 := HA.out.c0; have ha1 := HA.out.c1; have ha2 := HA.out.c2; have ha3 := HA.out.lt; have hd0 := HD.out.c0; have hd1 := HD.out.c1; have hd2 := HD.out.c2; have hd3 := HD.out.lt; have hp0 := HP.out.c0; have hp1 := HP.out.c1; have hp2 := HP.out.c2; have hp3 := HP.out.lt)
    | (go_at_call 13; (with_reducible refine ((HMb _).out).mono ?_); rintro e w3 ⟨rfl, hb⟩; have HA := Lib.hid (HA.out.below hb HA.out.lt); have HD := Lib.hid (HD.out.below hb HD.out.lt); have HP := Lib.hid (HP.out.below hb HP.out.lt); have HB := Lib.hid (HB.out.trans (hb.mono HB.out.size)); clear hb; have ha0 := HA.out.c0; have ha1 := HA.out.c1; have ha2 := HA.out.c2; have ha3 := HA.out.lt; have hd0 := HD.out.c0; have hd1 := HD.out.c1; have hd2 := HD.out.c2; have hd3 := HD.out.lt; have hp0 := HP.out.c0; have hp1 := HP.out.c1; have hp2 := HP.out.c2; have hp3 := HP.out.lt)
    | (go_at_call 13; (with_reducible refine ((HMp _).out).mono ?_); rintro e w3 ⟨rfl, hb⟩; have HA := Lib.hid (HA.out.below hb HA.out.lt); have HD := Lib.hid (HD.out.below hb HD.out.lt); have HP := Lib.hid (HP.out.below hb HP.out.lt); have HB := Lib.hid (HB.out.trans (hb.mono HB.out.size)); clear hb; have ha0 := HA.out.c0; have ha1 := HA.out.c1; have ha2 := HA.out.c2; have ha3 := HA.out.lt; have hd0 := HD.out.c0; have hd1 := HD.out.c1; have hd2 := HD.out.c2; have hd3 := HD.out.lt; have hp0 := HP.out.c0; have hp1 := HP.out.c1; have hp2 := HP.out.c2; have hp3 := HP.out.lt)
    | (go_at_call 15; (with_reducible refine ((HCpa _).out).mono ?_); rintro e w3 ⟨rfl, hb⟩; have HA := Lib.hid (HA.out.below hb HA.out.lt); have HD := Lib.hid (HD.out.below hb HD.out.lt); have HP := Lib.hid (HP.out.below hb HP.out.lt); have HB := Lib.hid (HB.out.trans (hb.mono HB.out.size)); clear hb; have ha0 := HA.out.c0; have ha1 := HA.out.c1; have ha2 := HA.out.c2; have ha3 := HA.out.lt; have hd0 := HD.out.c0; have hd1 := HD.out.c1; have hd2 := HD.out.c2; have hd3 := HD.out.lt; have hp0 := HP.out.c0; have hp1 := HP.out.c1; have hp2 := HP.out.c2; have hp3 := HP.out.lt)
    | (go_at_call 15; (with_reducible refine ((HCpb _).out).mono ?_); rintro e w3 ⟨rfl, hb⟩; have HA := Lib.hid (HA.out.below hb HA.out.lt); have HD := Lib.hid (HD.out.below hb HD.out.lt); have HP := Lib.hid (HP.out.below hb HP.out.lt); have HB := Lib.hid (HB.out.trans (hb.mono HB.out.size)); clear hb; have ha0 := HA.out.c0; have ha1 := HA.out.c1; have ha2 := HA.out.c2; have ha3 := HA.out.lt; have hd0 := HD.out.c0; have hd1 := HD.out.c1; have hd2 := HD.out.c2; have hd3 := HD.out.lt; have hp0 := HP.out.c0; have hp1 := HP.out.c1; have hp2 := HP.out.c2; have hp3 := HP.out.lt)
    | (go_at_call 15; (with_reducible refine ((HCba _).out).mono ?_); rintro e w3 ⟨rfl, hb⟩; have HA := Lib.hid (HA.out.below hb HA.out.lt); have HD := Lib.hid (HD.out.below hb HD.out.lt); have HP := Lib.hid (HP.out.below hb HP.out.lt); have HB := Lib.hid (HB.out.trans (hb.mono HB.out.size)); clear hb; have ha0 := HA.out.c0; have ha1 := HA.out.c1; have ha2 := HA.out.c2; have ha3 := HA.out.lt; have hd0 := HD.out.c0; have hd1 := HD.out.c1; have hd2 := HD.out.c2; have hd3 := HD.out.lt; have hp0 := HP.out.c0; have hp1 := HP.out.c1; have hp2 := HP.out.c2; have hp3 := HP.out.lt)
    | (go_at_call 19; (with_reducible refine ((HX _ (HT.out.below HB.out).pow).out).mono ?_); rintro e w4 ⟨rfl, hb⟩; have HA := Lib.hid (HA.out.below hb HA.out.lt); have HD := Lib.hid (HD.out.below hb HD.out.lt); have HP := Lib.hid (HP.out.below hb HP.out.lt); have HB := Lib.hid (HB.out.trans (hb.mono HB.out.size)); clear hb; have ha0 := HA.out.c0; have ha1 := HA.out.c1; have ha2 := HA.out.c2; have ha3 := HA.out.lt; have hd0 := HD.out.c0; have hd1 := HD.out.c1; have hd2 := HD.out.c2; have hd3 := HD.out.lt; have hp0 := HP.out.c0; have hp1 := HP.out.c1; have hp2 := HP.out.c2; have hp3 := HP.out.lt)
    | (go_at_call 21; (with_reducible refine ((HR _ (HT.out.below HB.out)).out).mono ?_); rintro e w5 ⟨rfl, hb⟩; have HA := Lib.hid ((HA.out.below hb HA.out.lt).alloc (sobj ⟨0, 0, 0⟩)); have HD := Lib.hid ((HD.out.below hb HD.out.lt).alloc (sobj ⟨0, 0, 0⟩)); have HP := Lib.hid ((HP.out.below hb HP.out.lt).alloc (sobj ⟨0, 0, 0⟩)); have HQ := Lib.hid (at_new w5 ⟨0, 0, 0⟩); have HB := Lib.hid ((HB.out.trans (hb.mono HB.out.size)).alloc (Nat.le_trans HB.out.size hb.size) (sobj ⟨0, 0, 0⟩)); clear hb; have ha0 := HA.out.c0; have ha1 := HA.out.c1; have ha2 := HA.out.c2; have ha3 := HA.out.lt; have hd0 := HD.out.c0; have hd1 := HD.out.c1; have hd2 := HD.out.c2; have hd3 := HD.out.lt; have hp0 := HP.out.c0; have hp1 := HP.out.c1; have hp2 := HP.out.c2; have hp3 := HP.out.lt; have hq0 := HQ.out.c0; have hq1 := HQ.out.c1; have hq2 := HQ.out.c2; have hq3 := HQ.out.lt))
  go_upto_region 12 with (first
    | (go_at_call 13; (with_reducible refine ((HMa _).out).mono ?_); rintro e w6 ⟨rfl, hb⟩; have HA := Lib.hid (HA.out.below hb HA.out.lt); have HD := Lib.hid (HD.out.below hb HD.out.lt); have HP := Lib.hid (HP.out.below hb HP.out.lt); have HQ := Lib.hid (HQ.out.below hb HQ.out.lt); have HB := Lib.hid (HB.out.trans (hb.mono HB.out.size)); clear hb; have ha0 := HA.out.c0; have ha1 := HA.out.c1; have ha2 := HA.out.c2; have ha3 := HA.out.lt; have hd0 := HD.out.c0; have hd1 := HD.out.c1; have hd2 := HD.out.c2; have hd3 := HD.out.lt; have hp0 := HP.out.c0; have hp1 := HP.out.c1; have hp2 := HP.out.c2; have hp3 := HP.out.lt; have hq0 := HQ.out.c0; have hq1 := HQ.out.c1; have hq2 := HQ.out.c2; have hq3 := HQ.out.lt))
  have HA := Lib.hid (HA.out.below (Below.refl _ _).drew HA.out.lt)
  have HD := Lib.hid (HD.out.below (Below.refl _ _).drew HD.out.lt)
  have HP := Lib.hid (HP.out.below (Below.refl _ _).drew HP.out.lt)
  have HQ := Lib.hid (HQ.out.below (Below.refl _ _).drew HQ.out.lt)
  have HB := Lib.hid HB.out.drew
  go_region_held (fun w' => w'.cell? ⟨w.heap.size, 0, none⟩ = some (.int .i64 a1) ∧ w'.cell? ⟨w.heap.size, 1, none⟩ = some (.int .i64 a2) ∧ w'.cell? ⟨w.heap.size, 2, none⟩ = some (.int .i64 a3) ∧ w'.cell? ⟨w.heap.size + 1, 0, none⟩ = some (.int .i64 b1) ∧ w'.cell? ⟨w.heap.size + 1, 1, none⟩ = some (.int .i64 b2) ∧ w'.cell? ⟨w.heap.size + 1, 2, none⟩ = some (.int .i64 b3)) (exact ⟨HA.out.c0, HA.out.c1, HA.out.c2, HD.out.c0, HD.out.c1, HD.out.c2⟩) (first
    | (go_at_call 15; (with_reducible refine ((HCab _).out).mono ?_); rintro e w7 ⟨rfl, hb⟩; have HA := Lib.hid (HA.out.below hb HA.out.lt); have HD := Lib.hid (HD.out.below hb HD.out.lt); have HP := Lib.hid (HP.out.below hb HP.out.lt); have HQ := Lib.hid (HQ.out.below hb HQ.out.lt); have HB := Lib.hid (HB.out.trans (hb.mono HB.out.size)); clear hb)
    | (go_at_call 15; (with_reducible refine ((HCba _).out).mono ?_); rintro e w7 ⟨rfl, hb⟩; have HA := Lib.hid (HA.out.below hb HA.out.lt); have HD := Lib.hid (HD.out.below hb HD.out.lt); have HP := Lib.hid (HP.out.below hb HP.out.lt); have HQ := Lib.hid (HQ.out.below hb HQ.out.lt); have HB := Lib.hid (HB.out.trans (hb.mono HB.out.size)); clear hb))
  go_upto_region 14 with (first
    | (go_at_call 17; (with_reducible refine ((HL _).out).mono ?_); rintro e w8 ⟨rfl, hb⟩; have HA := Lib.hid ((HA.out.below hb HA.out.lt).alloc (sobj ⟨x1, x2, x3⟩)); have HD := Lib.hid ((HD.out.below hb HD.out.lt).alloc (sobj ⟨x1, x2, x3⟩)); have HX2 := Lib.hid (at_new w8 ⟨x1, x2, x3⟩); have HB := Lib.hid ((HB.out.trans (hb.mono HB.out.size)).alloc (Nat.le_trans HB.out.size hb.size) (sobj ⟨x1, x2, x3⟩)); clear hb; have ha0 := HA.out.c0; have ha1 := HA.out.c1; have ha2 := HA.out.c2; have ha3 := HA.out.lt; have hd0 := HD.out.c0; have hd1 := HD.out.c1; have hd2 := HD.out.c2; have hd3 := HD.out.lt; have hx20 := HX2.out.c0; have hx21 := HX2.out.c1; have hx22 := HX2.out.c2; have hx23 := HX2.out.lt))
  go_wp2_with (first
    | (go_at_call 10; (with_reducible refine (first_any _ (HT.out.below HB.out).pow).mono ?_); rintro e w9 ⟨rfl, hb⟩; have HA := Lib.hid (HA.out.below hb HA.out.lt); have HD := Lib.hid (HD.out.below hb HD.out.lt); have HX2 := Lib.hid (HX2.out.below hb HX2.out.lt); have HB := Lib.hid (HB.out.trans (hb.mono HB.out.size)); clear hb; have ha0 := HA.out.c0; have ha1 := HA.out.c1; have ha2 := HA.out.c2; have ha3 := HA.out.lt; have hd0 := HD.out.c0; have hd1 := HD.out.c1; have hd2 := HD.out.c2; have hd3 := HD.out.lt; have hx20 := HX2.out.c0; have hx21 := HX2.out.c1; have hx22 := HX2.out.c2; have hx23 := HX2.out.lt)
    | (go_at_call 15; (with_reducible refine ((HCxa _).out).mono ?_); rintro e w9 ⟨rfl, hb⟩; have HA := Lib.hid (HA.out.below hb HA.out.lt); have HD := Lib.hid (HD.out.below hb HD.out.lt); have HX2 := Lib.hid (HX2.out.below hb HX2.out.lt); have HB := Lib.hid (HB.out.trans (hb.mono HB.out.size)); clear hb; have ha0 := HA.out.c0; have ha1 := HA.out.c1; have ha2 := HA.out.c2; have ha3 := HA.out.lt; have hd0 := HD.out.c0; have hd1 := HD.out.c1; have hd2 := HD.out.c2; have hd3 := HD.out.lt; have hx20 := HX2.out.c0; have hx21 := HX2.out.c1; have hx22 := HX2.out.c2; have hx23 := HX2.out.lt)
    | (go_at_call 15; (with_reducible refine ((HCxb _).out).mono ?_); rintro e w9 ⟨rfl, hb⟩; have HA := Lib.hid (HA.out.below hb HA.out.lt); have HD := Lib.hid (HD.out.below hb HD.out.lt); have HX2 := Lib.hid (HX2.out.below hb HX2.out.lt); have HB := Lib.hid (HB.out.trans (hb.mono HB.out.size)); clear hb; have ha0 := HA.out.c0; have ha1 := HA.out.c1; have ha2 := HA.out.c2; have ha3 := HA.out.lt; have hd0 := HD.out.c0; have hd1 := HD.out.c1; have hd2 := HD.out.c2; have hd3 := HD.out.lt; have hx20 := HX2.out.c0; have hx21 := HX2.out.c1; have hx22 := HX2.out.c2; have hx23 := HX2.out.lt))
  go_ret
  exact ⟨rfl, HB.out⟩
set_option maxRecDepth 100000 in
set_option maxHeartbeats 20000000 in
theorem next_B1e (w : World) (a b : St) (ua : a.wf) (hT : Tabs w) (hz : a = St.zero) (hx : laterS a b = a) (hab : a = b) : Calls Tryd.prog 7 #[sagg a, sagg b] w fun e w' => e = .returned (.bool true) ∧ Below w.heap.size w w' := by
  have HT := Lib.hid hT
  have HA := Lib.hid (at_two w a b).1
  have HD := Lib.hid (at_two w a b).2
  have HB := Lib.hid (below2 w (sobj a) (sobj b))
  have hma : mayS a = true := by rw [hz]; decide +kernel
  have hok : (priorS a).2 = false := by rw [prior_ok, hma]; rw [decide_eq_true hz]; rfl
  have hlen : (printS a).length ≤ 1000000 := by
    have h1 := decV_le a.w ua.1.1 ua.1.2
    have h2 := decV_le a.l ua.2.1.1 ua.2.1.2
    have h3 := decV_le a.n ua.2.2.1 ua.2.2.2
    unfold printS
    simp only [List.length_append, List.length_cons, List.length_nil]
    omega
  have hli := later_is a b
  have hcn := cmpS_neg a b
  have hcz := cmpS_zero a b
  have hcl := cmpS_le b a
  have hpr : parseS (printS a) = (a, 0) := (parse_is (printS a)).one (.inl ⟨hma, rfl, rfl⟩)
  have HP1 := fun w => Lib.hid (prior_any a w)
  have HMa := fun w => Lib.hid (may_any a w)
  have HMb := fun w => Lib.hid (may_any b w)
  have HMp := fun w => Lib.hid (may_any (priorS a).1 w)
  have HCpa := fun w => Lib.hid (compare_any (priorS a).1 a w)
  have HCpb := fun w => Lib.hid (compare_any (priorS a).1 b w)
  have HCba := fun w => Lib.hid (compare_any b a w)
  have HCab := fun w => Lib.hid (compare_any a b w)
  have HX := fun w h => Lib.hid (print_any a ua w h)
  have HR := fun w h => Lib.hid (parse_any w h (printS a) hlen)
  have HL := fun w => Lib.hid (later_any a b w)
  have HCxa := fun w => Lib.hid (compare_any (laterS a b) a w)
  have HCxb := fun w => Lib.hid (compare_any (laterS a b) b w)
  have EAB := fun w => eq_ite a.w a.l a.n b.w b.l b.n w
  have EXa := fun w => eq_ite (laterS a b).w (laterS a b).l (laterS a b).n a.w a.l a.n w
  have EXb := fun w => eq_ite (laterS a b).w (laterS a b).l (laterS a b).n b.w b.l b.n w
  rw [hpr] at HR
  rw [hma] at HMa
  rw [hok] at HP1
  have EZ := fun w => eq_ite a.w a.l a.n 0 0 0 w
  rw [decide_eq_true (show ((⟨a.w, a.l, a.n⟩ : St) = ⟨0, 0, 0⟩) from hz)] at EZ
  have d4 : decide ((0 : Int) ≤ cmpS (laterS a b) a) = true := decide_eq_true hli.2.1
  have d5 : decide ((0 : Int) ≤ cmpS (laterS a b) b) = true := decide_eq_true hli.2.2
  have d6 : (cmpS a b == -cmpS b a) = true := by rw [← hcn]; exact beq_self_eq_true _
  have d7 : (cmpS a b == 0) = decide (a = b) := by
    by_cases h : a = b
    · rw [decide_eq_true h, hcz.2 h]; rfl
    · rw [decide_eq_false h]; simpa using fun e => h (hcz.1 e)
  have d8 : IntKind.i64.wrap (-cmpS b a) = -cmpS b a := by rw [wrap_in (by omega)]
  rw [decide_eq_true (show ((⟨(laterS a b).w, (laterS a b).l, (laterS a b).n⟩ : St) = ⟨a.w, a.l, a.n⟩) from hx)] at EXa
  rw [decide_eq_true (show ((⟨a.w, a.l, a.n⟩ : St) = ⟨b.w, b.l, b.n⟩) from hab)] at EAB
  rw [decide_eq_true hab] at d7
  generalize cmpS (priorS a).1 a = cpa at *
  generalize cmpS (priorS a).1 b = cpb at *
  generalize cmpS (laterS a b) a = cxa at *
  generalize cmpS (laterS a b) b = cxb at *
  generalize cmpS a b = cab at *
  generalize cmpS b a = cba at *
  clear hab hli hcn hcz hcl hpr hlen hok hma hT ua hx hz
  generalize laterS a b = X at *
  generalize (priorS a).1 = P at *
  generalize printS a = T at *
  obtain ⟨p1, p2, p3⟩ := P
  obtain ⟨x1, x2, x3⟩ := X
  obtain ⟨a1, a2, a3⟩ := a
  obtain ⟨b1, b2, b3⟩ := b
  go_enter Tryd.func7, Tryd.ntmps7
  go_upto_region 4 with (first
    | (go_at_call 10; (with_reducible refine (first_any _ (HT.out.below HB.out).pow).mono ?_); rintro e w1 ⟨rfl, hb⟩; have HA := Lib.hid (HA.out.below hb HA.out.lt); have HD := Lib.hid (HD.out.below hb HD.out.lt); have HB := Lib.hid (HB.out.trans (hb.mono HB.out.size)); clear hb; have ha0 := HA.out.c0; have ha1 := HA.out.c1; have ha2 := HA.out.c2; have ha3 := HA.out.lt; have hd0 := HD.out.c0; have hd1 := HD.out.c1; have hd2 := HD.out.c2; have hd3 := HD.out.lt)
    | (go_at_call 11; (with_reducible refine ((HP1 _).out).mono ?_); rintro e w2 ⟨rfl, hb⟩; have HA := Lib.hid ((HA.out.below hb HA.out.lt).alloc (sobj ⟨p1, p2, p3⟩)); have HD := Lib.hid ((HD.out.below hb HD.out.lt).alloc (sobj ⟨p1, p2, p3⟩)); have HP := Lib.hid (at_new w2 ⟨p1, p2, p3⟩); have HB := Lib.hid ((HB.out.trans (hb.mono HB.out.size)).alloc (Nat.le_trans HB.out.size hb.size) (sobj ⟨p1, p2, p3⟩)); clear hb; have ha0 := HA.out.c0; have ha1 := HA.out.c1; have ha2 := HA.out.c2; have ha3 := HA.out.lt; have hd0 := HD.out.c0; have hd1 := HD.out.c1; have hd2 := HD.out.c2; have hd3 := HD.out.lt; have hp0 := HP.out.c0; have hp1 := HP.out.c1; have hp2 := HP.out.c2; have hp3 := HP.out.lt))
  go_upto_region 11 with (first
    | (go_at_call 13; (with_reducible refine ((HMa _).out).mono ?_); rintro e w3 ⟨rfl, hb⟩; have HA := Lib.hid (HA.out.below hb HA.out.lt); have HD := Lib.hid (HD.out.below hb HD.out.lt); have HP := Lib.hid (HP.out.below hb HP.out.lt); have HB := Lib.hid (HB.out.trans (hb.mono HB.out.size)); clear hb; have ha0 := HA.out.c0; have ha1 := HA.out.c1; have ha2 := HA.out.c2; have ha3 := HA.out.lt; have hd0 := HD.out.c0; have hd1 := HD.out.c1; have hd2 := HD.out.c2; have hd3 := HD.out.lt; have hp0 := HP.out.c0; have hp1 := HP.out.c1; have hp2 := HP.out.c2; have hp3 := HP.out.lt)
    | (go_at_call 13; (with_reducible refine ((HMb _).out).mono ?_); rintro e w3 ⟨rfl, hb⟩; have HA := Lib.hid (HA.out.below hb HA.out.lt); have HD := Lib.hid (HD.out.below hb HD.out.lt); have HP := Lib.hid (HP.out.below hb HP.out.lt); have HB := Lib.hid (HB.out.trans (hb.mono HB.out.size)); clear hb; have ha0 := HA.out.c0; have ha1 := HA.out.c1; have ha2 := HA.out.c2; have ha3 := HA.out.lt; have hd0 := HD.out.c0; have hd1 := HD.out.c1; have hd2 := HD.out.c2; have hd3 := HD.out.lt; have hp0 := HP.out.c0; have hp1 := HP.out.c1; have hp2 := HP.out.c2; have hp3 := HP.out.lt)
    | (go_at_call 13; (with_reducible refine ((HMp _).out).mono ?_); rintro e w3 ⟨rfl, hb⟩; have HA := Lib.hid (HA.out.below hb HA.out.lt); have HD := Lib.hid (HD.out.below hb HD.out.lt); have HP := Lib.hid (HP.out.below hb HP.out.lt); have HB := Lib.hid (HB.out.trans (hb.mono HB.out.size)); clear hb; have ha0 := HA.out.c0; have ha1 := HA.out.c1; have ha2 := HA.out.c2; have ha3 := HA.out.lt; have hd0 := HD.out.c0; have hd1 := HD.out.c1; have hd2 := HD.out.c2; have hd3 := HD.out.lt; have hp0 := HP.out.c0; have hp1 := HP.out.c1; have hp2 := HP.out.c2; have hp3 := HP.out.lt)
    | (go_at_call 15; (with_reducible refine ((HCpa _).out).mono ?_); rintro e w3 ⟨rfl, hb⟩; have HA := Lib.hid (HA.out.below hb HA.out.lt); have HD := Lib.hid (HD.out.below hb HD.out.lt); have HP := Lib.hid (HP.out.below hb HP.out.lt); have HB := Lib.hid (HB.out.trans (hb.mono HB.out.size)); clear hb; have ha0 := HA.out.c0; have ha1 := HA.out.c1; have ha2 := HA.out.c2; have ha3 := HA.out.lt; have hd0 := HD.out.c0; have hd1 := HD.out.c1; have hd2 := HD.out.c2; have hd3 := HD.out.lt; have hp0 := HP.out.c0; have hp1 := HP.out.c1; have hp2 := HP.out.c2; have hp3 := HP.out.lt)
    | (go_at_call 15; (with_reducible refine ((HCpb _).out).mono ?_); rintro e w3 ⟨rfl, hb⟩; have HA := Lib.hid (HA.out.below hb HA.out.lt); have HD := Lib.hid (HD.out.below hb HD.out.lt); have HP := Lib.hid (HP.out.below hb HP.out.lt); have HB := Lib.hid (HB.out.trans (hb.mono HB.out.size)); clear hb; have ha0 := HA.out.c0; have ha1 := HA.out.c1; have ha2 := HA.out.c2; have ha3 := HA.out.lt; have hd0 := HD.out.c0; have hd1 := HD.out.c1; have hd2 := HD.out.c2; have hd3 := HD.out.lt; have hp0 := HP.out.c0; have hp1 := HP.out.c1; have hp2 := HP.out.c2; have hp3 := HP.out.lt)
    | (go_at_call 15; (with_reducible refine ((HCba _).out).mono ?_); rintro e w3 ⟨rfl, hb⟩; have HA := Lib.hid (HA.out.below hb HA.out.lt); have HD := Lib.hid (HD.out.below hb HD.out.lt); have HP := Lib.hid (HP.out.below hb HP.out.lt); have HB := Lib.hid (HB.out.trans (hb.mono HB.out.size)); clear hb; have ha0 := HA.out.c0; have ha1 := HA.out.c1; have ha2 := HA.out.c2; have ha3 := HA.out.lt; have hd0 := HD.out.c0; have hd1 := HD.out.c1; have hd2 := HD.out.c2; have hd3 := HD.out.lt; have hp0 := HP.out.c0; have hp1 := HP.out.c1; have hp2 := HP.out.c2; have hp3 := HP.out.lt)
    | (go_at_call 19; (with_reducible refine ((HX _ (HT.out.below HB.out).pow).out).mono ?_); rintro e w4 ⟨rfl, hb⟩; have HA := Lib.hid (HA.out.below hb HA.out.lt); have HD := Lib.hid (HD.out.below hb HD.out.lt); have HP := Lib.hid (HP.out.below hb HP.out.lt); have HB := Lib.hid (HB.out.trans (hb.mono HB.out.size)); clear hb; have ha0 := HA.out.c0; have ha1 := HA.out.c1; have ha2 := HA.out.c2; have ha3 := HA.out.lt; have hd0 := HD.out.c0; have hd1 := HD.out.c1; have hd2 := HD.out.c2; have hd3 := HD.out.lt; have hp0 := HP.out.c0; have hp1 := HP.out.c1; have hp2 := HP.out.c2; have hp3 := HP.out.lt)
    | (go_at_call 21; (with_reducible refine ((HR _ (HT.out.below HB.out)).out).mono ?_); rintro e w5 ⟨rfl, hb⟩; have HA := Lib.hid ((HA.out.below hb HA.out.lt).alloc (sobj ⟨a1, a2, a3⟩)); have HD := Lib.hid ((HD.out.below hb HD.out.lt).alloc (sobj ⟨a1, a2, a3⟩)); have HP := Lib.hid ((HP.out.below hb HP.out.lt).alloc (sobj ⟨a1, a2, a3⟩)); have HQ := Lib.hid (at_new w5 ⟨a1, a2, a3⟩); have HB := Lib.hid ((HB.out.trans (hb.mono HB.out.size)).alloc (Nat.le_trans HB.out.size hb.size) (sobj ⟨a1, a2, a3⟩)); clear hb; have ha0 := HA.out.c0; have ha1 := HA.out.c1; have ha2 := HA.out.c2; have ha3 := HA.out.lt; have hd0 := HD.out.c0; have hd1 := HD.out.c1; have hd2 := HD.out.c2; have hd3 := HD.out.lt; have hp0 := HP.out.c0; have hp1 := HP.out.c1; have hp2 := HP.out.c2; have hp3 := HP.out.lt; have hq0 := HQ.out.c0; have hq1 := HQ.out.c1; have hq2 := HQ.out.c2; have hq3 := HQ.out.lt))
  go_upto_region 12 with (first
    | (go_at_call 13; (with_reducible refine ((HMa _).out).mono ?_); rintro e w6 ⟨rfl, hb⟩; have HA := Lib.hid (HA.out.below hb HA.out.lt); have HD := Lib.hid (HD.out.below hb HD.out.lt); have HP := Lib.hid (HP.out.below hb HP.out.lt); have HQ := Lib.hid (HQ.out.below hb HQ.out.lt); have HB := Lib.hid (HB.out.trans (hb.mono HB.out.size)); clear hb; have ha0 := HA.out.c0; have ha1 := HA.out.c1; have ha2 := HA.out.c2; have ha3 := HA.out.lt; have hd0 := HD.out.c0; have hd1 := HD.out.c1; have hd2 := HD.out.c2; have hd3 := HD.out.lt; have hp0 := HP.out.c0; have hp1 := HP.out.c1; have hp2 := HP.out.c2; have hp3 := HP.out.lt; have hq0 := HQ.out.c0; have hq1 := HQ.out.c1; have hq2 := HQ.out.c2; have hq3 := HQ.out.lt))
  have HA := Lib.hid (HA.out.below (Below.refl _ _).drew HA.out.lt)
  have HD := Lib.hid (HD.out.below (Below.refl _ _).drew HD.out.lt)
  have HP := Lib.hid (HP.out.below (Below.refl _ _).drew HP.out.lt)
  have HQ := Lib.hid (HQ.out.below (Below.refl _ _).drew HQ.out.lt)
  have HB := Lib.hid HB.out.drew
  go_region_held (fun w' => w'.cell? ⟨w.heap.size, 0, none⟩ = some (.int .i64 a1) ∧ w'.cell? ⟨w.heap.size, 1, none⟩ = some (.int .i64 a2) ∧ w'.cell? ⟨w.heap.size, 2, none⟩ = some (.int .i64 a3) ∧ w'.cell? ⟨w.heap.size + 1, 0, none⟩ = some (.int .i64 b1) ∧ w'.cell? ⟨w.heap.size + 1, 1, none⟩ = some (.int .i64 b2) ∧ w'.cell? ⟨w.heap.size + 1, 2, none⟩ = some (.int .i64 b3)) (exact ⟨HA.out.c0, HA.out.c1, HA.out.c2, HD.out.c0, HD.out.c1, HD.out.c2⟩) (first
    | (go_at_call 15; (with_reducible refine ((HCab _).out).mono ?_); rintro e w7 ⟨rfl, hb⟩; have HA := Lib.hid (HA.out.below hb HA.out.lt); have HD := Lib.hid (HD.out.below hb HD.out.lt); have HP := Lib.hid (HP.out.below hb HP.out.lt); have HQ := Lib.hid (HQ.out.below hb HQ.out.lt); have HB := Lib.hid (HB.out.trans (hb.mono HB.out.size)); clear hb)
    | (go_at_call 15; (with_reducible refine ((HCba _).out).mono ?_); rintro e w7 ⟨rfl, hb⟩; have HA := Lib.hid (HA.out.below hb HA.out.lt); have HD := Lib.hid (HD.out.below hb HD.out.lt); have HP := Lib.hid (HP.out.below hb HP.out.lt); have HQ := Lib.hid (HQ.out.below hb HQ.out.lt); have HB := Lib.hid (HB.out.trans (hb.mono HB.out.size)); clear hb))
  go_upto_region 14 with (first
    | (go_at_call 17; (with_reducible refine ((HL _).out).mono ?_); rintro e w8 ⟨rfl, hb⟩; have HA := Lib.hid ((HA.out.below hb HA.out.lt).alloc (sobj ⟨x1, x2, x3⟩)); have HD := Lib.hid ((HD.out.below hb HD.out.lt).alloc (sobj ⟨x1, x2, x3⟩)); have HX2 := Lib.hid (at_new w8 ⟨x1, x2, x3⟩); have HB := Lib.hid ((HB.out.trans (hb.mono HB.out.size)).alloc (Nat.le_trans HB.out.size hb.size) (sobj ⟨x1, x2, x3⟩)); clear hb; have ha0 := HA.out.c0; have ha1 := HA.out.c1; have ha2 := HA.out.c2; have ha3 := HA.out.lt; have hd0 := HD.out.c0; have hd1 := HD.out.c1; have hd2 := HD.out.c2; have hd3 := HD.out.lt; have hx20 := HX2.out.c0; have hx21 := HX2.out.c1; have hx22 := HX2.out.c2; have hx23 := HX2.out.lt))
  go_wp2_with (first
    | (go_at_call 10; (with_reducible refine (first_any _ (HT.out.below HB.out).pow).mono ?_); rintro e w9 ⟨rfl, hb⟩; have HA := Lib.hid (HA.out.below hb HA.out.lt); have HD := Lib.hid (HD.out.below hb HD.out.lt); have HX2 := Lib.hid (HX2.out.below hb HX2.out.lt); have HB := Lib.hid (HB.out.trans (hb.mono HB.out.size)); clear hb; have ha0 := HA.out.c0; have ha1 := HA.out.c1; have ha2 := HA.out.c2; have ha3 := HA.out.lt; have hd0 := HD.out.c0; have hd1 := HD.out.c1; have hd2 := HD.out.c2; have hd3 := HD.out.lt; have hx20 := HX2.out.c0; have hx21 := HX2.out.c1; have hx22 := HX2.out.c2; have hx23 := HX2.out.lt)
    | (go_at_call 15; (with_reducible refine ((HCxa _).out).mono ?_); rintro e w9 ⟨rfl, hb⟩; have HA := Lib.hid (HA.out.below hb HA.out.lt); have HD := Lib.hid (HD.out.below hb HD.out.lt); have HX2 := Lib.hid (HX2.out.below hb HX2.out.lt); have HB := Lib.hid (HB.out.trans (hb.mono HB.out.size)); clear hb; have ha0 := HA.out.c0; have ha1 := HA.out.c1; have ha2 := HA.out.c2; have ha3 := HA.out.lt; have hd0 := HD.out.c0; have hd1 := HD.out.c1; have hd2 := HD.out.c2; have hd3 := HD.out.lt; have hx20 := HX2.out.c0; have hx21 := HX2.out.c1; have hx22 := HX2.out.c2; have hx23 := HX2.out.lt)
    | (go_at_call 15; (with_reducible refine ((HCxb _).out).mono ?_); rintro e w9 ⟨rfl, hb⟩; have HA := Lib.hid (HA.out.below hb HA.out.lt); have HD := Lib.hid (HD.out.below hb HD.out.lt); have HX2 := Lib.hid (HX2.out.below hb HX2.out.lt); have HB := Lib.hid (HB.out.trans (hb.mono HB.out.size)); clear hb; have ha0 := HA.out.c0; have ha1 := HA.out.c1; have ha2 := HA.out.c2; have ha3 := HA.out.lt; have hd0 := HD.out.c0; have hd1 := HD.out.c1; have hd2 := HD.out.c2; have hd3 := HD.out.lt; have hx20 := HX2.out.c0; have hx21 := HX2.out.c1; have hx22 := HX2.out.c2; have hx23 := HX2.out.lt))
  go_ret
  exact ⟨rfl, HB.out⟩
set_option maxRecDepth 100000 in
set_option maxHeartbeats 20000000 in
theorem next_B1n (w : World) (a b : St) (ua : a.wf) (hT : Tabs w) (hz : a = St.zero) (hx : laterS a b = a) (hab : a ≠ b) : Calls Tryd.prog 7 #[sagg a, sagg b] w fun e w' => e = .returned (.bool true) ∧ Below w.heap.size w w' := by
  have HT := Lib.hid hT
  have HA := Lib.hid (at_two w a b).1
  have HD := Lib.hid (at_two w a b).2
  have HB := Lib.hid (below2 w (sobj a) (sobj b))
  have hma : mayS a = true := by rw [hz]; decide +kernel
  have hok : (priorS a).2 = false := by rw [prior_ok, hma]; rw [decide_eq_true hz]; rfl
  have hlen : (printS a).length ≤ 1000000 := by
    have h1 := decV_le a.w ua.1.1 ua.1.2
    have h2 := decV_le a.l ua.2.1.1 ua.2.1.2
    have h3 := decV_le a.n ua.2.2.1 ua.2.2.2
    unfold printS
    simp only [List.length_append, List.length_cons, List.length_nil]
    omega
  have hli := later_is a b
  have hcn := cmpS_neg a b
  have hcz := cmpS_zero a b
  have hcl := cmpS_le b a
  have hpr : parseS (printS a) = (a, 0) := (parse_is (printS a)).one (.inl ⟨hma, rfl, rfl⟩)
  have HP1 := fun w => Lib.hid (prior_any a w)
  have HMa := fun w => Lib.hid (may_any a w)
  have HMb := fun w => Lib.hid (may_any b w)
  have HMp := fun w => Lib.hid (may_any (priorS a).1 w)
  have HCpa := fun w => Lib.hid (compare_any (priorS a).1 a w)
  have HCpb := fun w => Lib.hid (compare_any (priorS a).1 b w)
  have HCba := fun w => Lib.hid (compare_any b a w)
  have HCab := fun w => Lib.hid (compare_any a b w)
  have HX := fun w h => Lib.hid (print_any a ua w h)
  have HR := fun w h => Lib.hid (parse_any w h (printS a) hlen)
  have HL := fun w => Lib.hid (later_any a b w)
  have HCxa := fun w => Lib.hid (compare_any (laterS a b) a w)
  have HCxb := fun w => Lib.hid (compare_any (laterS a b) b w)
  have EAB := fun w => eq_ite a.w a.l a.n b.w b.l b.n w
  have EXa := fun w => eq_ite (laterS a b).w (laterS a b).l (laterS a b).n a.w a.l a.n w
  have EXb := fun w => eq_ite (laterS a b).w (laterS a b).l (laterS a b).n b.w b.l b.n w
  rw [hpr] at HR
  rw [hma] at HMa
  rw [hok] at HP1
  have EZ := fun w => eq_ite a.w a.l a.n 0 0 0 w
  rw [decide_eq_true (show ((⟨a.w, a.l, a.n⟩ : St) = ⟨0, 0, 0⟩) from hz)] at EZ
  have d4 : decide ((0 : Int) ≤ cmpS (laterS a b) a) = true := decide_eq_true hli.2.1
  have d5 : decide ((0 : Int) ≤ cmpS (laterS a b) b) = true := decide_eq_true hli.2.2
  have d6 : (cmpS a b == -cmpS b a) = true := by rw [← hcn]; exact beq_self_eq_true _
  have d7 : (cmpS a b == 0) = decide (a = b) := by
    by_cases h : a = b
    · rw [decide_eq_true h, hcz.2 h]; rfl
    · rw [decide_eq_false h]; simpa using fun e => h (hcz.1 e)
  have d8 : IntKind.i64.wrap (-cmpS b a) = -cmpS b a := by rw [wrap_in (by omega)]
  rw [decide_eq_true (show ((⟨(laterS a b).w, (laterS a b).l, (laterS a b).n⟩ : St) = ⟨a.w, a.l, a.n⟩) from hx)] at EXa
  rw [decide_eq_false (show ¬ ((⟨a.w, a.l, a.n⟩ : St) = ⟨b.w, b.l, b.n⟩) from hab)] at EAB
  rw [decide_eq_false hab] at d7
  generalize cmpS (priorS a).1 a = cpa at *
  generalize cmpS (priorS a).1 b = cpb at *
  generalize cmpS (laterS a b) a = cxa at *
  generalize cmpS (laterS a b) b = cxb at *
  generalize cmpS a b = cab at *
  generalize cmpS b a = cba at *
  clear hab hli hcn hcz hcl hpr hlen hok hma hT ua hx hz
  generalize laterS a b = X at *
  generalize (priorS a).1 = P at *
  generalize printS a = T at *
  obtain ⟨p1, p2, p3⟩ := P
  obtain ⟨x1, x2, x3⟩ := X
  obtain ⟨a1, a2, a3⟩ := a
  obtain ⟨b1, b2, b3⟩ := b
  go_enter Tryd.func7, Tryd.ntmps7
  go_upto_region 4 with (first
    | (go_at_call 10; (with_reducible refine (first_any _ (HT.out.below HB.out).pow).mono ?_); rintro e w1 ⟨rfl, hb⟩; have HA := Lib.hid (HA.out.below hb HA.out.lt); have HD := Lib.hid (HD.out.below hb HD.out.lt); have HB := Lib.hid (HB.out.trans (hb.mono HB.out.size)); clear hb; have ha0 := HA.out.c0; have ha1 := HA.out.c1; have ha2 := HA.out.c2; have ha3 := HA.out.lt; have hd0 := HD.out.c0; have hd1 := HD.out.c1; have hd2 := HD.out.c2; have hd3 := HD.out.lt)
    | (go_at_call 11; (with_reducible refine ((HP1 _).out).mono ?_); rintro e w2 ⟨rfl, hb⟩; have HA := Lib.hid ((HA.out.below hb HA.out.lt).alloc (sobj ⟨p1, p2, p3⟩)); have HD := Lib.hid ((HD.out.below hb HD.out.lt).alloc (sobj ⟨p1, p2, p3⟩)); have HP := Lib.hid (at_new w2 ⟨p1, p2, p3⟩); have HB := Lib.hid ((HB.out.trans (hb.mono HB.out.size)).alloc (Nat.le_trans HB.out.size hb.size) (sobj ⟨p1, p2, p3⟩)); clear hb; have ha0 := HA.out.c0; have ha1 := HA.out.c1; have ha2 := HA.out.c2; have ha3 := HA.out.lt; have hd0 := HD.out.c0; have hd1 := HD.out.c1; have hd2 := HD.out.c2; have hd3 := HD.out.lt; have hp0 := HP.out.c0; have hp1 := HP.out.c1; have hp2 := HP.out.c2; have hp3 := HP.out.lt))
  go_upto_region 11 with (first
    | (go_at_call 13; (with_reducible refine ((HMa _).out).mono ?_); rintro e w3 ⟨rfl, hb⟩; have HA := Lib.hid (HA.out.below hb HA.out.lt); have HD := Lib.hid (HD.out.below hb HD.out.lt); have HP := Lib.hid (HP.out.below hb HP.out.lt); have HB := Lib.hid (HB.out.trans (hb.mono HB.out.size)); clear hb; have ha0 := HA.out.c0; have ha1 := HA.out.c1; have ha2 := HA.out.c2; have ha3 := HA.out.lt; have hd0 := HD.out.c0; have hd1 := HD.out.c1; have hd2 := HD.out.c2; have hd3 := HD.out.lt; have hp0 := HP.out.c0; have hp1 := HP.out.c1; have hp2 := HP.out.c2; have hp3 := HP.out.lt)
    | (go_at_call 13; (with_reducible refine ((HMb _).out).mono ?_); rintro e w3 ⟨rfl, hb⟩; have HA := Lib.hid (HA.out.below hb HA.out.lt); have HD := Lib.hid (HD.out.below hb HD.out.lt); have HP := Lib.hid (HP.out.below hb HP.out.lt); have HB := Lib.hid (HB.out.trans (hb.mono HB.out.size)); clear hb; have ha0 := HA.out.c0; have ha1 := HA.out.c1; have ha2 := HA.out.c2; have ha3 := HA.out.lt; have hd0 := HD.out.c0; have hd1 := HD.out.c1; have hd2 := HD.out.c2; have hd3 := HD.out.lt; have hp0 := HP.out.c0; have hp1 := HP.out.c1; have hp2 := HP.out.c2; have hp3 := HP.out.lt)
    | (go_at_call 13; (with_reducible refine ((HMp _).out).mono ?_); rintro e w3 ⟨rfl, hb⟩; have HA := Lib.hid (HA.out.below hb HA.out.lt); have HD := Lib.hid (HD.out.below hb HD.out.lt); have HP := Lib.hid (HP.out.below hb HP.out.lt); have HB := Lib.hid (HB.out.trans (hb.mono HB.out.size)); clear hb; have ha0 := HA.out.c0; have ha1 := HA.out.c1; have ha2 := HA.out.c2; have ha3 := HA.out.lt; have hd0 := HD.out.c0; have hd1 := HD.out.c1; have hd2 := HD.out.c2; have hd3 := HD.out.lt; have hp0 := HP.out.c0; have hp1 := HP.out.c1; have hp2 := HP.out.c2; have hp3 := HP.out.lt)
    | (go_at_call 15; (with_reducible refine ((HCpa _).out).mono ?_); rintro e w3 ⟨rfl, hb⟩; have HA := Lib.hid (HA.out.below hb HA.out.lt); have HD := Lib.hid (HD.out.below hb HD.out.lt); have HP := Lib.hid (HP.out.below hb HP.out.lt); have HB := Lib.hid (HB.out.trans (hb.mono HB.out.size)); clear hb; have ha0 := HA.out.c0; have ha1 := HA.out.c1; have ha2 := HA.out.c2; have ha3 := HA.out.lt; have hd0 := HD.out.c0; have hd1 := HD.out.c1; have hd2 := HD.out.c2; have hd3 := HD.out.lt; have hp0 := HP.out.c0; have hp1 := HP.out.c1; have hp2 := HP.out.c2; have hp3 := HP.out.lt)
    | (go_at_call 15; (with_reducible refine ((HCpb _).out).mono ?_); rintro e w3 ⟨rfl, hb⟩; have HA := Lib.hid (HA.out.below hb HA.out.lt); have HD := Lib.hid (HD.out.below hb HD.out.lt); have HP := Lib.hid (HP.out.below hb HP.out.lt); have HB := Lib.hid (HB.out.trans (hb.mono HB.out.size)); clear hb; have ha0 := HA.out.c0; have ha1 := HA.out.c1; have ha2 := HA.out.c2; have ha3 := HA.out.lt; have hd0 := HD.out.c0; have hd1 := HD.out.c1; have hd2 := HD.out.c2; have hd3 := HD.out.lt; have hp0 := HP.out.c0; have hp1 := HP.out.c1; have hp2 := HP.out.c2; have hp3 := HP.out.lt)
    | (go_at_call 15; (with_reducible refine ((HCba _).out).mono ?_); rintro e w3 ⟨rfl, hb⟩; have HA := Lib.hid (HA.out.below hb HA.out.lt); have HD := Lib.hid (HD.out.below hb HD.out.lt); have HP := Lib.hid (HP.out.below hb HP.out.lt); have HB := Lib.hid (HB.out.trans (hb.mono HB.out.size)); clear hb; have ha0 := HA.out.c0; have ha1 := HA.out.c1; have ha2 := HA.out.c2; have ha3 := HA.out.lt; have hd0 := HD.out.c0; have hd1 := HD.out.c1; have hd2 := HD.out.c2; have hd3 := HD.out.lt; have hp0 := HP.out.c0; have hp1 := HP.out.c1; have hp2 := HP.out.c2; have hp3 := HP.out.lt)
    | (go_at_call 19; (with_reducible refine ((HX _ (HT.out.below HB.out).pow).out).mono ?_); rintro e w4 ⟨rfl, hb⟩; have HA := Lib.hid (HA.out.below hb HA.out.lt); have HD := Lib.hid (HD.out.below hb HD.out.lt); have HP := Lib.hid (HP.out.below hb HP.out.lt); have HB := Lib.hid (HB.out.trans (hb.mono HB.out.size)); clear hb; have ha0 := HA.out.c0; have ha1 := HA.out.c1; have ha2 := HA.out.c2; have ha3 := HA.out.lt; have hd0 := HD.out.c0; have hd1 := HD.out.c1; have hd2 := HD.out.c2; have hd3 := HD.out.lt; have hp0 := HP.out.c0; have hp1 := HP.out.c1; have hp2 := HP.out.c2; have hp3 := HP.out.lt)
    | (go_at_call 21; (with_reducible refine ((HR _ (HT.out.below HB.out)).out).mono ?_); rintro e w5 ⟨rfl, hb⟩; have HA := Lib.hid ((HA.out.below hb HA.out.lt).alloc (sobj ⟨a1, a2, a3⟩)); have HD := Lib.hid ((HD.out.below hb HD.out.lt).alloc (sobj ⟨a1, a2, a3⟩)); have HP := Lib.hid ((HP.out.below hb HP.out.lt).alloc (sobj ⟨a1, a2, a3⟩)); have HQ := Lib.hid (at_new w5 ⟨a1, a2, a3⟩); have HB := Lib.hid ((HB.out.trans (hb.mono HB.out.size)).alloc (Nat.le_trans HB.out.size hb.size) (sobj ⟨a1, a2, a3⟩)); clear hb; have ha0 := HA.out.c0; have ha1 := HA.out.c1; have ha2 := HA.out.c2; have ha3 := HA.out.lt; have hd0 := HD.out.c0; have hd1 := HD.out.c1; have hd2 := HD.out.c2; have hd3 := HD.out.lt; have hp0 := HP.out.c0; have hp1 := HP.out.c1; have hp2 := HP.out.c2; have hp3 := HP.out.lt; have hq0 := HQ.out.c0; have hq1 := HQ.out.c1; have hq2 := HQ.out.c2; have hq3 := HQ.out.lt))
  go_upto_region 12 with (first
    | (go_at_call 13; (with_reducible refine ((HMa _).out).mono ?_); rintro e w6 ⟨rfl, hb⟩; have HA := Lib.hid (HA.out.below hb HA.out.lt); have HD := Lib.hid (HD.out.below hb HD.out.lt); have HP := Lib.hid (HP.out.below hb HP.out.lt); have HQ := Lib.hid (HQ.out.below hb HQ.out.lt); have HB := Lib.hid (HB.out.trans (hb.mono HB.out.size)); clear hb; have ha0 := HA.out.c0; have ha1 := HA.out.c1; have ha2 := HA.out.c2; have ha3 := HA.out.lt; have hd0 := HD.out.c0; have hd1 := HD.out.c1; have hd2 := HD.out.c2; have hd3 := HD.out.lt; have hp0 := HP.out.c0; have hp1 := HP.out.c1; have hp2 := HP.out.c2; have hp3 := HP.out.lt; have hq0 := HQ.out.c0; have hq1 := HQ.out.c1; have hq2 := HQ.out.c2; have hq3 := HQ.out.lt))
  have HA := Lib.hid (HA.out.below (Below.refl _ _).drew HA.out.lt)
  have HD := Lib.hid (HD.out.below (Below.refl _ _).drew HD.out.lt)
  have HP := Lib.hid (HP.out.below (Below.refl _ _).drew HP.out.lt)
  have HQ := Lib.hid (HQ.out.below (Below.refl _ _).drew HQ.out.lt)
  have HB := Lib.hid HB.out.drew
  go_region_held (fun w' => w'.cell? ⟨w.heap.size, 0, none⟩ = some (.int .i64 a1) ∧ w'.cell? ⟨w.heap.size, 1, none⟩ = some (.int .i64 a2) ∧ w'.cell? ⟨w.heap.size, 2, none⟩ = some (.int .i64 a3) ∧ w'.cell? ⟨w.heap.size + 1, 0, none⟩ = some (.int .i64 b1) ∧ w'.cell? ⟨w.heap.size + 1, 1, none⟩ = some (.int .i64 b2) ∧ w'.cell? ⟨w.heap.size + 1, 2, none⟩ = some (.int .i64 b3)) (exact ⟨HA.out.c0, HA.out.c1, HA.out.c2, HD.out.c0, HD.out.c1, HD.out.c2⟩) (first
    | (go_at_call 15; (with_reducible refine ((HCab _).out).mono ?_); rintro e w7 ⟨rfl, hb⟩; have HA := Lib.hid (HA.out.below hb HA.out.lt); have HD := Lib.hid (HD.out.below hb HD.out.lt); have HP := Lib.hid (HP.out.below hb HP.out.lt); have HQ := Lib.hid (HQ.out.below hb HQ.out.lt); have HB := Lib.hid (HB.out.trans (hb.mono HB.out.size)); clear hb)
    | (go_at_call 15; (with_reducible refine ((HCba _).out).mono ?_); rintro e w7 ⟨rfl, hb⟩; have HA := Lib.hid (HA.out.below hb HA.out.lt); have HD := Lib.hid (HD.out.below hb HD.out.lt); have HP := Lib.hid (HP.out.below hb HP.out.lt); have HQ := Lib.hid (HQ.out.below hb HQ.out.lt); have HB := Lib.hid (HB.out.trans (hb.mono HB.out.size)); clear hb))
  go_upto_region 14 with (first
    | (go_at_call 17; (with_reducible refine ((HL _).out).mono ?_); rintro e w8 ⟨rfl, hb⟩; have HA := Lib.hid ((HA.out.below hb HA.out.lt).alloc (sobj ⟨x1, x2, x3⟩)); have HD := Lib.hid ((HD.out.below hb HD.out.lt).alloc (sobj ⟨x1, x2, x3⟩)); have HX2 := Lib.hid (at_new w8 ⟨x1, x2, x3⟩); have HB := Lib.hid ((HB.out.trans (hb.mono HB.out.size)).alloc (Nat.le_trans HB.out.size hb.size) (sobj ⟨x1, x2, x3⟩)); clear hb; have ha0 := HA.out.c0; have ha1 := HA.out.c1; have ha2 := HA.out.c2; have ha3 := HA.out.lt; have hd0 := HD.out.c0; have hd1 := HD.out.c1; have hd2 := HD.out.c2; have hd3 := HD.out.lt; have hx20 := HX2.out.c0; have hx21 := HX2.out.c1; have hx22 := HX2.out.c2; have hx23 := HX2.out.lt))
  go_wp2_with (first
    | (go_at_call 10; (with_reducible refine (first_any _ (HT.out.below HB.out).pow).mono ?_); rintro e w9 ⟨rfl, hb⟩; have HA := Lib.hid (HA.out.below hb HA.out.lt); have HD := Lib.hid (HD.out.below hb HD.out.lt); have HX2 := Lib.hid (HX2.out.below hb HX2.out.lt); have HB := Lib.hid (HB.out.trans (hb.mono HB.out.size)); clear hb; have ha0 := HA.out.c0; have ha1 := HA.out.c1; have ha2 := HA.out.c2; have ha3 := HA.out.lt; have hd0 := HD.out.c0; have hd1 := HD.out.c1; have hd2 := HD.out.c2; have hd3 := HD.out.lt; have hx20 := HX2.out.c0; have hx21 := HX2.out.c1; have hx22 := HX2.out.c2; have hx23 := HX2.out.lt)
    | (go_at_call 15; (with_reducible refine ((HCxa _).out).mono ?_); rintro e w9 ⟨rfl, hb⟩; have HA := Lib.hid (HA.out.below hb HA.out.lt); have HD := Lib.hid (HD.out.below hb HD.out.lt); have HX2 := Lib.hid (HX2.out.below hb HX2.out.lt); have HB := Lib.hid (HB.out.trans (hb.mono HB.out.size)); clear hb; have ha0 := HA.out.c0; have ha1 := HA.out.c1; have ha2 := HA.out.c2; have ha3 := HA.out.lt; have hd0 := HD.out.c0; have hd1 := HD.out.c1; have hd2 := HD.out.c2; have hd3 := HD.out.lt; have hx20 := HX2.out.c0; have hx21 := HX2.out.c1; have hx22 := HX2.out.c2; have hx23 := HX2.out.lt)
    | (go_at_call 15; (with_reducible refine ((HCxb _).out).mono ?_); rintro e w9 ⟨rfl, hb⟩; have HA := Lib.hid (HA.out.below hb HA.out.lt); have HD := Lib.hid (HD.out.below hb HD.out.lt); have HX2 := Lib.hid (HX2.out.below hb HX2.out.lt); have HB := Lib.hid (HB.out.trans (hb.mono HB.out.size)); clear hb; have ha0 := HA.out.c0; have ha1 := HA.out.c1; have ha2 := HA.out.c2; have ha3 := HA.out.lt; have hd0 := HD.out.c0; have hd1 := HD.out.c1; have hd2 := HD.out.c2; have hd3 := HD.out.lt; have hx20 := HX2.out.c0; have hx21 := HX2.out.c1; have hx22 := HX2.out.c2; have hx23 := HX2.out.lt))
  go_ret
  exact ⟨rfl, HB.out⟩
set_option maxRecDepth 100000 in
set_option maxHeartbeats 20000000 in
theorem next_B2 (w : World) (a b : St) (ua : a.wf) (hT : Tabs w) (hz : a = St.zero) (hx : laterS a b ≠ a) (hab : a ≠ b) : Calls Tryd.prog 7 #[sagg a, sagg b] w fun e w' => e = .returned (.bool true) ∧ Below w.heap.size w w' := by
  have HT := Lib.hid hT
  have HA := Lib.hid (at_two w a b).1
  have HD := Lib.hid (at_two w a b).2
  have HB := Lib.hid (below2 w (sobj a) (sobj b))
  have hma : mayS a = true := by rw [hz]; decide +kernel
  have hok : (priorS a).2 = false := by rw [prior_ok, hma]; rw [decide_eq_true hz]; rfl
  have hlen : (printS a).length ≤ 1000000 := by
    have h1 := decV_le a.w ua.1.1 ua.1.2
    have h2 := decV_le a.l ua.2.1.1 ua.2.1.2
    have h3 := decV_le a.n ua.2.2.1 ua.2.2.2
    unfold printS
    simp only [List.length_append, List.length_cons, List.length_nil]
    omega
  have hli := later_is a b
  have hcn := cmpS_neg a b
  have hcz := cmpS_zero a b
  have hcl := cmpS_le b a
  have hpr : parseS (printS a) = (a, 0) := (parse_is (printS a)).one (.inl ⟨hma, rfl, rfl⟩)
  have HP1 := fun w => Lib.hid (prior_any a w)
  have HMa := fun w => Lib.hid (may_any a w)
  have HMb := fun w => Lib.hid (may_any b w)
  have HMp := fun w => Lib.hid (may_any (priorS a).1 w)
  have HCpa := fun w => Lib.hid (compare_any (priorS a).1 a w)
  have HCpb := fun w => Lib.hid (compare_any (priorS a).1 b w)
  have HCba := fun w => Lib.hid (compare_any b a w)
  have HCab := fun w => Lib.hid (compare_any a b w)
  have HX := fun w h => Lib.hid (print_any a ua w h)
  have HR := fun w h => Lib.hid (parse_any w h (printS a) hlen)
  have HL := fun w => Lib.hid (later_any a b w)
  have HCxa := fun w => Lib.hid (compare_any (laterS a b) a w)
  have HCxb := fun w => Lib.hid (compare_any (laterS a b) b w)
  have EAB := fun w => eq_ite a.w a.l a.n b.w b.l b.n w
  have EXa := fun w => eq_ite (laterS a b).w (laterS a b).l (laterS a b).n a.w a.l a.n w
  have EXb := fun w => eq_ite (laterS a b).w (laterS a b).l (laterS a b).n b.w b.l b.n w
  rw [hpr] at HR
  rw [hma] at HMa
  rw [hok] at HP1
  have EZ := fun w => eq_ite a.w a.l a.n 0 0 0 w
  rw [decide_eq_true (show ((⟨a.w, a.l, a.n⟩ : St) = ⟨0, 0, 0⟩) from hz)] at EZ
  have d4 : decide ((0 : Int) ≤ cmpS (laterS a b) a) = true := decide_eq_true hli.2.1
  have d5 : decide ((0 : Int) ≤ cmpS (laterS a b) b) = true := decide_eq_true hli.2.2
  have d6 : (cmpS a b == -cmpS b a) = true := by rw [← hcn]; exact beq_self_eq_true _
  have d7 : (cmpS a b == 0) = decide (a = b) := by
    by_cases h : a = b
    · rw [decide_eq_true h, hcz.2 h]; rfl
    · rw [decide_eq_false h]; simpa using fun e => h (hcz.1 e)
  have d8 : IntKind.i64.wrap (-cmpS b a) = -cmpS b a := by rw [wrap_in (by omega)]
  rw [decide_eq_false (show ¬ ((⟨(laterS a b).w, (laterS a b).l, (laterS a b).n⟩ : St) = ⟨a.w, a.l, a.n⟩) from hx)] at EXa
  rw [decide_eq_true (show ((⟨(laterS a b).w, (laterS a b).l, (laterS a b).n⟩ : St) = ⟨b.w, b.l, b.n⟩) from hli.1.resolve_left hx)] at EXb
  rw [decide_eq_false (show ¬ ((⟨a.w, a.l, a.n⟩ : St) = ⟨b.w, b.l, b.n⟩) from hab)] at EAB
  rw [decide_eq_false hab] at d7
  generalize cmpS (priorS a).1 a = cpa at *
  generalize cmpS (priorS a).1 b = cpb at *
  generalize cmpS (laterS a b) a = cxa at *
  generalize cmpS (laterS a b) b = cxb at *
  generalize cmpS a b = cab at *
  generalize cmpS b a = cba at *
  clear hab hli hcn hcz hcl hpr hlen hok hma hT ua hx hz
  generalize laterS a b = X at *
  generalize (priorS a).1 = P at *
  generalize printS a = T at *
  obtain ⟨p1, p2, p3⟩ := P
  obtain ⟨x1, x2, x3⟩ := X
  obtain ⟨a1, a2, a3⟩ := a
  obtain ⟨b1, b2, b3⟩ := b
  go_enter Tryd.func7, Tryd.ntmps7
  go_upto_region 4 with (first
    | (go_at_call 10; (with_reducible refine (first_any _ (HT.out.below HB.out).pow).mono ?_); rintro e w1 ⟨rfl, hb⟩; have HA := Lib.hid (HA.out.below hb HA.out.lt); have HD := Lib.hid (HD.out.below hb HD.out.lt); have HB := Lib.hid (HB.out.trans (hb.mono HB.out.size)); clear hb; have ha0 := HA.out.c0; have ha1 := HA.out.c1; have ha2 := HA.out.c2; have ha3 := HA.out.lt; have hd0 := HD.out.c0; have hd1 := HD.out.c1; have hd2 := HD.out.c2; have hd3 := HD.out.lt)
    | (go_at_call 11; (with_reducible refine ((HP1 _).out).mono ?_); rintro e w2 ⟨rfl, hb⟩; have HA := Lib.hid ((HA.out.below hb HA.out.lt).alloc (sobj ⟨p1, p2, p3⟩)); have HD := Lib.hid ((HD.out.below hb HD.out.lt).alloc (sobj ⟨p1, p2, p3⟩)); have HP := Lib.hid (at_new w2 ⟨p1, p2, p3⟩); have HB := Lib.hid ((HB.out.trans (hb.mono HB.out.size)).alloc (Nat.le_trans HB.out.size hb.size) (sobj ⟨p1, p2, p3⟩)); clear hb; have ha0 := HA.out.c0; have ha1 := HA.out.c1; have ha2 := HA.out.c2; have ha3 := HA.out.lt; have hd0 := HD.out.c0; have hd1 := HD.out.c1; have hd2 := HD.out.c2; have hd3 := HD.out.lt; have hp0 := HP.out.c0; have hp1 := HP.out.c1; have hp2 := HP.out.c2; have hp3 := HP.out.lt))
  go_upto_region 11 with (first
    | (go_at_call 13; (with_reducible refine ((HMa _).out).mono ?_); rintro e w3 ⟨rfl, hb⟩; have HA := Lib.hid (HA.out.below hb HA.out.lt); have HD := Lib.hid (HD.out.below hb HD.out.lt); have HP := Lib.hid (HP.out.below hb HP.out.lt); have HB := Lib.hid (HB.out.trans (hb.mono HB.out.size)); clear hb; have ha0 := HA.out.c0; have ha1 := HA.out.c1; have ha2 := HA.out.c2; have ha3 := HA.out.lt; have hd0 := HD.out.c0; have hd1 := HD.out.c1; have hd2 := HD.out.c2; have hd3 := HD.out.lt; have hp0 := HP.out.c0; have hp1 := HP.out.c1; have hp2 := HP.out.c2; have hp3 := HP.out.lt)
    | (go_at_call 13; (with_reducible refine ((HMb _).out).mono ?_); rintro e w3 ⟨rfl, hb⟩; have HA := Lib.hid (HA.out.below hb HA.out.lt); have HD := Lib.hid (HD.out.below hb HD.out.lt); have HP := Lib.hid (HP.out.below hb HP.out.lt); have HB := Lib.hid (HB.out.trans (hb.mono HB.out.size)); clear hb; have ha0 := HA.out.c0; have ha1 := HA.out.c1; have ha2 := HA.out.c2; have ha3 := HA.out.lt; have hd0 := HD.out.c0; have hd1 := HD.out.c1; have hd2 := HD.out.c2; have hd3 := HD.out.lt; have hp0 := HP.out.c0; have hp1 := HP.out.c1; have hp2 := HP.out.c2; have hp3 := HP.out.lt)
    | (go_at_call 13; (with_reducible refine ((HMp _).out).mono ?_); rintro e w3 ⟨rfl, hb⟩; have HA := Lib.hid (HA.out.below hb HA.out.lt); have HD := Lib.hid (HD.out.below hb HD.out.lt); have HP := Lib.hid (HP.out.below hb HP.out.lt); have HB := Lib.hid (HB.out.trans (hb.mono HB.out.size)); clear hb; have ha0 := HA.out.c0; have ha1 := HA.out.c1; have ha2 := HA.out.c2; have ha3 := HA.out.lt; have hd0 := HD.out.c0; have hd1 := HD.out.c1; have hd2 := HD.out.c2; have hd3 := HD.out.lt; have hp0 := HP.out.c0; have hp1 := HP.out.c1; have hp2 := HP.out.c2; have hp3 := HP.out.lt)
    | (go_at_call 15; (with_reducible refine ((HCpa _).out).mono ?_); rintro e w3 ⟨rfl, hb⟩; have HA := Lib.hid (HA.out.below hb HA.out.lt); have HD := Lib.hid (HD.out.below hb HD.out.lt); have HP := Lib.hid (HP.out.below hb HP.out.lt); have HB := Lib.hid (HB.out.trans (hb.mono HB.out.size)); clear hb; have ha0 := HA.out.c0; have ha1 := HA.out.c1; have ha2 := HA.out.c2; have ha3 := HA.out.lt; have hd0 := HD.out.c0; have hd1 := HD.out.c1; have hd2 := HD.out.c2; have hd3 := HD.out.lt; have hp0 := HP.out.c0; have hp1 := HP.out.c1; have hp2 := HP.out.c2; have hp3 := HP.out.lt)
    | (go_at_call 15; (with_reducible refine ((HCpb _).out).mono ?_); rintro e w3 ⟨rfl, hb⟩; have HA := Lib.hid (HA.out.below hb HA.out.lt); have HD := Lib.hid (HD.out.below hb HD.out.lt); have HP := Lib.hid (HP.out.below hb HP.out.lt); have HB := Lib.hid (HB.out.trans (hb.mono HB.out.size)); clear hb; have ha0 := HA.out.c0; have ha1 := HA.out.c1; have ha2 := HA.out.c2; have ha3 := HA.out.lt; have hd0 := HD.out.c0; have hd1 := HD.out.c1; have hd2 := HD.out.c2; have hd3 := HD.out.lt; have hp0 := HP.out.c0; have hp1 := HP.out.c1; have hp2 := HP.out.c2; have hp3 := HP.out.lt)
    | (go_at_call 15; (with_reducible refine ((HCba _).out).mono ?_); rintro e w3 ⟨rfl, hb⟩; have HA := Lib.hid (HA.out.below hb HA.out.lt); have HD := Lib.hid (HD.out.below hb HD.out.lt); have HP := Lib.hid (HP.out.below hb HP.out.lt); have HB := Lib.hid (HB.out.trans (hb.mono HB.out.size)); clear hb; have ha0 := HA.out.c0; have ha1 := HA.out.c1; have ha2 := HA.out.c2; have ha3 := HA.out.lt; have hd0 := HD.out.c0; have hd1 := HD.out.c1; have hd2 := HD.out.c2; have hd3 := HD.out.lt; have hp0 := HP.out.c0; have hp1 := HP.out.c1; have hp2 := HP.out.c2; have hp3 := HP.out.lt)
    | (go_at_call 19; (with_reducible refine ((HX _ (HT.out.below HB.out).pow).out).mono ?_); rintro e w4 ⟨rfl, hb⟩; have HA := Lib.hid (HA.out.below hb HA.out.lt); have HD := Lib.hid (HD.out.below hb HD.out.lt); have HP := Lib.hid (HP.out.below hb HP.out.lt); have HB := Lib.hid (HB.out.trans (hb.mono HB.out.size)); clear hb; have ha0 := HA.out.c0; have ha1 := HA.out.c1; have ha2 := HA.out.c2; have ha3 := HA.out.lt; have hd0 := HD.out.c0; have hd1 := HD.out.c1; have hd2 := HD.out.c2; have hd3 := HD.out.lt; have hp0 := HP.out.c0; have hp1 := HP.out.c1; have hp2 := HP.out.c2; have hp3 := HP.out.lt)
    | (go_at_call 21; (with_reducible refine ((HR _ (HT.out.below HB.out)).out).mono ?_); rintro e w5 ⟨rfl, hb⟩; have HA := Lib.hid ((HA.out.below hb HA.out.lt).alloc (sobj ⟨a1, a2, a3⟩)); have HD := Lib.hid ((HD.out.below hb HD.out.lt).alloc (sobj ⟨a1, a2, a3⟩)); have HP := Lib.hid ((HP.out.below hb HP.out.lt).alloc (sobj ⟨a1, a2, a3⟩)); have HQ := Lib.hid (at_new w5 ⟨a1, a2, a3⟩); have HB := Lib.hid ((HB.out.trans (hb.mono HB.out.size)).alloc (Nat.le_trans HB.out.size hb.size) (sobj ⟨a1, a2, a3⟩)); clear hb; have ha0 := HA.out.c0; have ha1 := HA.out.c1; have ha2 := HA.out.c2; have ha3 := HA.out.lt; have hd0 := HD.out.c0; have hd1 := HD.out.c1; have hd2 := HD.out.c2; have hd3 := HD.out.lt; have hp0 := HP.out.c0; have hp1 := HP.out.c1; have hp2 := HP.out.c2; have hp3 := HP.out.lt; have hq0 := HQ.out.c0; have hq1 := HQ.out.c1; have hq2 := HQ.out.c2; have hq3 := HQ.out.lt))
  go_upto_region 12 with (first
    | (go_at_call 13; (with_reducible refine ((HMa _).out).mono ?_); rintro e w6 ⟨rfl, hb⟩; have HA := Lib.hid (HA.out.below hb HA.out.lt); have HD := Lib.hid (HD.out.below hb HD.out.lt); have HP := Lib.hid (HP.out.below hb HP.out.lt); have HQ := Lib.hid (HQ.out.below hb HQ.out.lt); have HB := Lib.hid (HB.out.trans (hb.mono HB.out.size)); clear hb; have ha0 := HA.out.c0; have ha1 := HA.out.c1; have ha2 := HA.out.c2; have ha3 := HA.out.lt; have hd0 := HD.out.c0; have hd1 := HD.out.c1; have hd2 := HD.out.c2; have hd3 := HD.out.lt; have hp0 := HP.out.c0; have hp1 := HP.out.c1; have hp2 := HP.out.c2; have hp3 := HP.out.lt; have hq0 := HQ.out.c0; have hq1 := HQ.out.c1; have hq2 := HQ.out.c2; have hq3 := HQ.out.lt))
  have HA := Lib.hid (HA.out.below (Below.refl _ _).drew HA.out.lt)
  have HD := Lib.hid (HD.out.below (Below.refl _ _).drew HD.out.lt)
  have HP := Lib.hid (HP.out.below (Below.refl _ _).drew HP.out.lt)
  have HQ := Lib.hid (HQ.out.below (Below.refl _ _).drew HQ.out.lt)
  have HB := Lib.hid HB.out.drew
  go_region_held (fun w' => w'.cell? ⟨w.heap.size, 0, none⟩ = some (.int .i64 a1) ∧ w'.cell? ⟨w.heap.size, 1, none⟩ = some (.int .i64 a2) ∧ w'.cell? ⟨w.heap.size, 2, none⟩ = some (.int .i64 a3) ∧ w'.cell? ⟨w.heap.size + 1, 0, none⟩ = some (.int .i64 b1) ∧ w'.cell? ⟨w.heap.size + 1, 1, none⟩ = some (.int .i64 b2) ∧ w'.cell? ⟨w.heap.size + 1, 2, none⟩ = some (.int .i64 b3)) (exact ⟨HA.out.c0, HA.out.c1, HA.out.c2, HD.out.c0, HD.out.c1, HD.out.c2⟩) (first
    | (go_at_call 15; (with_reducible refine ((HCab _).out).mono ?_); rintro e w7 ⟨rfl, hb⟩; have HA := Lib.hid (HA.out.below hb HA.out.lt); have HD := Lib.hid (HD.out.below hb HD.out.lt); have HP := Lib.hid (HP.out.below hb HP.out.lt); have HQ := Lib.hid (HQ.out.below hb HQ.out.lt); have HB := Lib.hid (HB.out.trans (hb.mono HB.out.size)); clear hb)
    | (go_at_call 15; (with_reducible refine ((HCba _).out).mono ?_); rintro e w7 ⟨rfl, hb⟩; have HA := Lib.hid (HA.out.below hb HA.out.lt); have HD := Lib.hid (HD.out.below hb HD.out.lt); have HP := Lib.hid (HP.out.below hb HP.out.lt); have HQ := Lib.hid (HQ.out.below hb HQ.out.lt); have HB := Lib.hid (HB.out.trans (hb.mono HB.out.size)); clear hb))
  go_upto_region 14 with (first
    | (go_at_call 17; (with_reducible refine ((HL _).out).mono ?_); rintro e w8 ⟨rfl, hb⟩; have HA := Lib.hid ((HA.out.below hb HA.out.lt).alloc (sobj ⟨x1, x2, x3⟩)); have HD := Lib.hid ((HD.out.below hb HD.out.lt).alloc (sobj ⟨x1, x2, x3⟩)); have HX2 := Lib.hid (at_new w8 ⟨x1, x2, x3⟩); have HB := Lib.hid ((HB.out.trans (hb.mono HB.out.size)).alloc (Nat.le_trans HB.out.size hb.size) (sobj ⟨x1, x2, x3⟩)); clear hb; have ha0 := HA.out.c0; have ha1 := HA.out.c1; have ha2 := HA.out.c2; have ha3 := HA.out.lt; have hd0 := HD.out.c0; have hd1 := HD.out.c1; have hd2 := HD.out.c2; have hd3 := HD.out.lt; have hx20 := HX2.out.c0; have hx21 := HX2.out.c1; have hx22 := HX2.out.c2; have hx23 := HX2.out.lt))
  go_wp2_with (first
    | (go_at_call 10; (with_reducible refine (first_any _ (HT.out.below HB.out).pow).mono ?_); rintro e w9 ⟨rfl, hb⟩; have HA := Lib.hid (HA.out.below hb HA.out.lt); have HD := Lib.hid (HD.out.below hb HD.out.lt); have HX2 := Lib.hid (HX2.out.below hb HX2.out.lt); have HB := Lib.hid (HB.out.trans (hb.mono HB.out.size)); clear hb; have ha0 := HA.out.c0; have ha1 := HA.out.c1; have ha2 := HA.out.c2; have ha3 := HA.out.lt; have hd0 := HD.out.c0; have hd1 := HD.out.c1; have hd2 := HD.out.c2; have hd3 := HD.out.lt; have hx20 := HX2.out.c0; have hx21 := HX2.out.c1; have hx22 := HX2.out.c2; have hx23 := HX2.out.lt)
    | (go_at_call 15; (with_reducible refine ((HCxa _).out).mono ?_); rintro e w9 ⟨rfl, hb⟩; have HA := Lib.hid (HA.out.below hb HA.out.lt); have HD := Lib.hid (HD.out.below hb HD.out.lt); have HX2 := Lib.hid (HX2.out.below hb HX2.out.lt); have HB := Lib.hid (HB.out.trans (hb.mono HB.out.size)); clear hb; have ha0 := HA.out.c0; have ha1 := HA.out.c1; have ha2 := HA.out.c2; have ha3 := HA.out.lt; have hd0 := HD.out.c0; have hd1 := HD.out.c1; have hd2 := HD.out.c2; have hd3 := HD.out.lt; have hx20 := HX2.out.c0; have hx21 := HX2.out.c1; have hx22 := HX2.out.c2; have hx23 := HX2.out.lt)
    | (go_at_call 15; (with_reducible refine ((HCxb _).out).mono ?_); rintro e w9 ⟨rfl, hb⟩; have HA := Lib.hid (HA.out.below hb HA.out.lt); have HD := Lib.hid (HD.out.below hb HD.out.lt); have HX2 := Lib.hid (HX2.out.below hb HX2.out.lt); have HB := Lib.hid (HB.out.trans (hb.mono HB.out.size)); clear hb; have ha0 := HA.out.c0; have ha1 := HA.out.c1; have ha2 := HA.out.c2; have ha3 := HA.out.lt; have hd0 := HD.out.c0; have hd1 := HD.out.c1; have hd2 := HD.out.c2; have hd3 := HD.out.lt; have hx20 := HX2.out.c0; have hx21 := HX2.out.c1; have hx22 := HX2.out.c2; have hx23 := HX2.out.lt))
  go_ret
  exact ⟨rfl, HB.out⟩
set_option maxRecDepth 100000 in
set_option maxHeartbeats 20000000 in
theorem next_C11e (w : World) (a b : St) (ua : a.wf) (hT : Tabs w) (hma : mayS a = true) (hz : a ≠ St.zero) (hmb : mayS b = false) (hx : laterS a b = a) (hab : a = b) : Calls Tryd.prog 7 #[sagg a, sagg b] w fun e w' => e = .returned (.bool true) ∧ Below w.heap.size w w' := by
  have HT := Lib.hid hT
  have HA := Lib.hid (at_two w a b).1
  have HD := Lib.hid (at_two w a b).2
  have HB := Lib.hid (below2 w (sobj a) (sobj b))
  have hok : (priorS a).2 = true := by rw [prior_ok, hma]; rw [decide_eq_false hz]; rfl
  have hpl := prior_lt hok
  have hlen : (printS a).length ≤ 1000000 := by
    have h1 := decV_le a.w ua.1.1 ua.1.2
    have h2 := decV_le a.l ua.2.1.1 ua.2.1.2
    have h3 := decV_le a.n ua.2.2.1 ua.2.2.2
    unfold printS
    simp only [List.length_append, List.length_cons, List.length_nil]
    omega
  have hli := later_is a b
  have hcn := cmpS_neg a b
  have hcz := cmpS_zero a b
  have hcl := cmpS_le b a
  have hpr : parseS (printS a) = (a, 0) := (parse_is (printS a)).one (.inl ⟨hma, rfl, rfl⟩)
  have HP1 := fun w => Lib.hid (prior_any a w)
  have HMa := fun w => Lib.hid (may_any a w)
  have HMb := fun w => Lib.hid (may_any b w)
  have HMp := fun w => Lib.hid (may_any (priorS a).1 w)
  have HCpa := fun w => Lib.hid (compare_any (priorS a).1 a w)
  have HCpb := fun w => Lib.hid (compare_any (priorS a).1 b w)
  have HCba := fun w => Lib.hid (compare_any b a w)
  have HCab := fun w => Lib.hid (compare_any a b w)
  have HX := fun w h => Lib.hid (print_any a ua w h)
  have HR := fun w h => Lib.hid (parse_any w h (printS a) hlen)
  have HL := fun w => Lib.hid (later_any a b w)
  have HCxa := fun w => Lib.hid (compare_any (laterS a b) a w)
  have HCxb := fun w => Lib.hid (compare_any (laterS a b) b w)
  have EAB := fun w => eq_ite a.w a.l a.n b.w b.l b.n w
  have EXa := fun w => eq_ite (laterS a b).w (laterS a b).l (laterS a b).n a.w a.l a.n w
  have EXb := fun w => eq_ite (laterS a b).w (laterS a b).l (laterS a b).n b.w b.l b.n w
  rw [hpr] at HR
  rw [hma] at HMa
  rw [hok] at HP1
  have EZ := fun w => eq_ite a.w a.l a.n 0 0 0 w
  rw [decide_eq_false (show ¬ ((⟨a.w, a.l, a.n⟩ : St) = ⟨0, 0, 0⟩) from hz)] at EZ
  rw [hpl.2] at HMp
  rw [hmb] at HMb
  have d1 : decide ((0 : Int) ≤ cmpS (priorS a).1 a) = false := decide_eq_false (by have := hpl.1; omega)
  have d4 : decide ((0 : Int) ≤ cmpS (laterS a b) a) = true := decide_eq_true hli.2.1
  have d5 : decide ((0 : Int) ≤ cmpS (laterS a b) b) = true := decide_eq_true hli.2.2
  have d6 : (cmpS a b == -cmpS b a) = true := by rw [← hcn]; exact beq_self_eq_true _
  have d7 : (cmpS a b == 0) = decide (a = b) := by
    by_cases h : a = b
    · rw [decide_eq_true h, hcz.2 h]; rfl
    · rw [decide_eq_false h]; simpa using fun e => h (hcz.1 e)
  have d8 : IntKind.i64.wrap (-cmpS b a) = -cmpS b a := by rw [wrap_in (by omega)]
  rw [decide_eq_true (show ((⟨(laterS a b).w, (laterS a b).l, (laterS a b).n⟩ : St) = ⟨a.w, a.l, a.n⟩) from hx)] at EXa
  rw [decide_eq_true (show ((⟨a.w, a.l, a.n⟩ : St) = ⟨b.w, b.l, b.n⟩) from hab)] at EAB
  rw [decide_eq_true hab] at d7
  generalize cmpS (priorS a).1 a = cpa at *
  generalize cmpS (priorS a).1 b = cpb at *
  generalize cmpS (laterS a b) a = cxa at *
  generalize cmpS (laterS a b) b = cxb at *
  generalize cmpS a b = cab at *
  generalize cmpS b a = cba at *
  clear hab hli hcn hcz hcl hpr hlen hok hma hT ua hx hpl hmb hz
  generalize laterS a b = X at *
  generalize (priorS a).1 = P at *
  generalize printS a = T at *
  obtain ⟨p1, p2, p3⟩ := P
  obtain ⟨x1, x2, x3⟩ := X
  obtain ⟨a1, a2, a3⟩ := a
  obtain ⟨b1, b2, b3⟩ := b
  go_enter Tryd.func7, Tryd.ntmps7
  go_upto_region 4 with (first
    | (go_at_call 10; (with_reducible refine (first_any _ (HT.out.below HB.out).pow).mono ?_); rintro e w1 ⟨rfl, hb⟩; have HA := Lib.hid (HA.out.below hb HA.out.lt); have HD := Lib.hid (HD.out.below hb HD.out.lt); have HB := Lib.hid (HB.out.trans (hb.mono HB.out.size)); clear hb; have ha0 := HA.out.c0; have ha1 := HA.out.c1; have ha2 := HA.out.c2; have ha3 := HA.out.lt; have hd0 := HD.out.c0; have hd1 := HD.out.c1; have hd2 := HD.out.c2; have hd3 := HD.out.lt)
    | (go_at_call 11; (with_reducible refine ((HP1 _).out).mono ?_); rintro e w2 ⟨rfl, hb⟩; have HA := Lib.hid ((HA.out.below hb HA.out.lt).alloc (sobj ⟨p1, p2, p3⟩)); have HD := Lib.hid ((HD.out.below hb HD.out.lt).alloc (sobj ⟨p1, p2, p3⟩)); have HP := Lib.hid (at_new w2 ⟨p1, p2, p3⟩); have HB := Lib.hid ((HB.out.trans (hb.mono HB.out.size)).alloc (Nat.le_trans HB.out.size hb.size) (sobj ⟨p1, p2, p3⟩)); clear hb; have ha0 := HA.out.c0; have ha1 := HA.out.c1; have ha2 := HA.out.c2; have ha3 := HA.out.lt; have hd0 := HD.out.c0; have hd1 := HD.out.c1; have hd2 := HD.out.c2; have hd3 := HD.out.lt; have hp0 := HP.out.c0; have hp1 := HP.out.c1; have hp2 := HP.out.c2; have hp3 := HP.out.lt))
  go_upto_region 11 with (first
    | (go_at_call 13; (with_reducible refine ((HMa _).out).mono ?_); rintro e w3 ⟨rfl, hb⟩; have HA := Lib.hid (HA.out.below hb HA.out.lt); have HD := Lib.hid (HD.out.below hb HD.out.lt); have HP := Lib.hid (HP.out.below hb HP.out.lt); have HB := Lib.hid (HB.out.trans (hb.mono HB.out.size)); clear hb; have ha0 := HA.out.c0; have ha1 := HA.out.c1; have ha2 := HA.out.c2; have ha3 := HA.out.lt; have hd0 := HD.out.c0; have hd1 := HD.out.c1; have hd2 := HD.out.c2; have hd3 := HD.out.lt; have hp0 := HP.out.c0; have hp1 := HP.out.c1; have hp2 := HP.out.c2; have hp3 := HP.out.lt)
    | (go_at_call 13; (with_reducible refine ((HMb _).out).mono ?_); rintro e w3 ⟨rfl, hb⟩; have HA := Lib.hid (HA.out.below hb HA.out.lt); have HD := Lib.hid (HD.out.below hb HD.out.lt); have HP := Lib.hid (HP.out.below hb HP.out.lt); have HB := Lib.hid (HB.out.trans (hb.mono HB.out.size)); clear hb; have ha0 := HA.out.c0; have ha1 := HA.out.c1; have ha2 := HA.out.c2; have ha3 := HA.out.lt; have hd0 := HD.out.c0; have hd1 := HD.out.c1; have hd2 := HD.out.c2; have hd3 := HD.out.lt; have hp0 := HP.out.c0; have hp1 := HP.out.c1; have hp2 := HP.out.c2; have hp3 := HP.out.lt)
    | (go_at_call 13; (with_reducible refine ((HMp _).out).mono ?_); rintro e w3 ⟨rfl, hb⟩; have HA := Lib.hid (HA.out.below hb HA.out.lt); have HD := Lib.hid (HD.out.below hb HD.out.lt); have HP := Lib.hid (HP.out.below hb HP.out.lt); have HB := Lib.hid (HB.out.trans (hb.mono HB.out.size)); clear hb; have ha0 := HA.out.c0; have ha1 := HA.out.c1; have ha2 := HA.out.c2; have ha3 := HA.out.lt; have hd0 := HD.out.c0; have hd1 := HD.out.c1; have hd2 := HD.out.c2; have hd3 := HD.out.lt; have hp0 := HP.out.c0; have hp1 := HP.out.c1; have hp2 := HP.out.c2; have hp3 := HP.out.lt)
    | (go_at_call 15; (with_reducible refine ((HCpa _).out).mono ?_); rintro e w3 ⟨rfl, hb⟩; have HA := Lib.hid (HA.out.below hb HA.out.lt); have HD := Lib.hid (HD.out.below hb HD.out.lt); have HP := Lib.hid (HP.out.below hb HP.out.lt); have HB := Lib.hid (HB.out.trans (hb.mono HB.out.size)); clear hb; have ha0 := HA.out.c0; have ha1 := HA.out.c1; have ha2 := HA.out.c2; have ha3 := HA.out.lt; have hd0 := HD.out.c0; have hd1 := HD.out.c1; have hd2 := HD.out.c2; have hd3 := HD.out.lt; have hp0 := HP.out.c0; have hp1 := HP.out.c1; have hp2 := HP.out.c2; have hp3 := HP.out.lt)
    | (go_at_call 15; (with_reducible refine ((HCpb _).out).mono ?_); rintro e w3 ⟨rfl, hb⟩; have HA := Lib.hid (HA.out.below hb HA.out.lt); have HD := Lib.hid (HD.out.below hb HD.out.lt); have HP := Lib.hid (HP.out.below hb HP.out.lt); have HB := Lib.hid (HB.out.trans (hb.mono HB.out.size)); clear hb; have ha0 := HA.out.c0; have ha1 := HA.out.c1; have ha2 := HA.out.c2; have ha3 := HA.out.lt; have hd0 := HD.out.c0; have hd1 := HD.out.c1; have hd2 := HD.out.c2; have hd3 := HD.out.lt; have hp0 := HP.out.c0; have hp1 := HP.out.c1; have hp2 := HP.out.c2; have hp3 := HP.out.lt)
    | (go_at_call 15; (with_reducible refine ((HCba _).out).mono ?_); rintro e w3 ⟨rfl, hb⟩; have HA := Lib.hid (HA.out.below hb HA.out.lt); have HD := Lib.hid (HD.out.below hb HD.out.lt); have HP := Lib.hid (HP.out.below hb HP.out.lt); have HB := Lib.hid (HB.out.trans (hb.mono HB.out.size)); clear hb; have ha0 := HA.out.c0; have ha1 := HA.out.c1; have ha2 := HA.out.c2; have ha3 := HA.out.lt; have hd0 := HD.out.c0; have hd1 := HD.out.c1; have hd2 := HD.out.c2; have hd3 := HD.out.lt; have hp0 := HP.out.c0; have hp1 := HP.out.c1; have hp2 := HP.out.c2; have hp3 := HP.out.lt)
    | (go_at_call 19; (with_reducible refine ((HX _ (HT.out.below HB.out).pow).out).mono ?_); rintro e w4 ⟨rfl, hb⟩; have HA := Lib.hid (HA.out.below hb HA.out.lt); have HD := Lib.hid (HD.out.below hb HD.out.lt); have HP := Lib.hid (HP.out.below hb HP.out.lt); have HB := Lib.hid (HB.out.trans (hb.mono HB.out.size)); clear hb; have ha0 := HA.out.c0; have ha1 := HA.out.c1; have ha2 := HA.out.c2; have ha3 := HA.out.lt; have hd0 := HD.out.c0; have hd1 := HD.out.c1; have hd2 := HD.out.c2; have hd3 := HD.out.lt; have hp0 := HP.out.c0; have hp1 := HP.out.c1; have hp2 := HP.out.c2; have hp3 := HP.out.lt)
    | (go_at_call 21; (with_reducible refine ((HR _ (HT.out.below HB.out)).out).mono ?_); rintro e w5 ⟨rfl, hb⟩; have HA := Lib.hid ((HA.out.below hb HA.out.lt).alloc (sobj ⟨a1, a2, a3⟩)); have HD := Lib.hid ((HD.out.below hb HD.out.lt).alloc (sobj ⟨a1, a2, a3⟩)); have HP := Lib.hid ((HP.out.below hb HP.out.lt).alloc (sobj ⟨a1, a2, a3⟩)); have HQ := Lib.hid (at_new w5 ⟨a1, a2, a3⟩); have HB := Lib.hid ((HB.out.trans (hb.mono HB.out.size)).alloc (Nat.le_trans HB.out.size hb.size) (sobj ⟨a1, a2, a3⟩)); clear hb; have ha0 := HA.out.c0; have ha1 := HA.out.c1; have ha2 := HA.out.c2; have ha3 := HA.out.lt; have hd0 := HD.out.c0; have hd1 := HD.out.c1; have hd2 := HD.out.c2; have hd3 := HD.out.lt; have hp0 := HP.out.c0; have hp1 := HP.out.c1; have hp2 := HP.out.c2; have hp3 := HP.out.lt; have hq0 := HQ.out.c0; have hq1 := HQ.out.c1; have hq2 := HQ.out.c2; have hq3 := HQ.out.lt))
  go_upto_region 12 with (first
    | (go_at_call 13; (with_reducible refine ((HMa _).out).mono ?_); rintro e w6 ⟨rfl, hb⟩; have HA := Lib.hid (HA.out.below hb HA.out.lt); have HD := Lib.hid (HD.out.below hb HD.out.lt); have HP := Lib.hid (HP.out.below hb HP.out.lt); have HQ := Lib.hid (HQ.out.below hb HQ.out.lt); have HB := Lib.hid (HB.out.trans (hb.mono HB.out.size)); clear hb; have ha0 := HA.out.c0; have ha1 := HA.out.c1; have ha2 := HA.out.c2; have ha3 := HA.out.lt; have hd0 := HD.out.c0; have hd1 := HD.out.c1; have hd2 := HD.out.c2; have hd3 := HD.out.lt; have hp0 := HP.out.c0; have hp1 := HP.out.c1; have hp2 := HP.out.c2; have hp3 := HP.out.lt; have hq0 := HQ.out.c0; have hq1 := HQ.out.c1; have hq2 := HQ.out.c2; have hq3 := HQ.out.lt))
  have HA := Lib.hid (HA.out.below (Below.refl _ _).drew HA.out.lt)
  have HD := Lib.hid (HD.out.below (Below.refl _ _).drew HD.out.lt)
  have HP := Lib.hid (HP.out.below (Below.refl _ _).drew HP.out.lt)
  have HQ := Lib.hid (HQ.out.below (Below.refl _ _).drew HQ.out.lt)
  have HB := Lib.hid HB.out.drew
  go_region_held (fun w' => w'.cell? ⟨w.heap.size, 0, none⟩ = some (.int .i64 a1) ∧ w'.cell? ⟨w.heap.size, 1, none⟩ = some (.int .i64 a2) ∧ w'.cell? ⟨w.heap.size, 2, none⟩ = some (.int .i64 a3) ∧ w'.cell? ⟨w.heap.size + 1, 0, none⟩ = some (.int .i64 b1) ∧ w'.cell? ⟨w.heap.size + 1, 1, none⟩ = some (.int .i64 b2) ∧ w'.cell? ⟨w.heap.size + 1, 2, none⟩ = some (.int .i64 b3)) (exact ⟨HA.out.c0, HA.out.c1, HA.out.c2, HD.out.c0, HD.out.c1, HD.out.c2⟩) (first
    | (go_at_call 15; (with_reducible refine ((HCab _).out).mono ?_); rintro e w7 ⟨rfl, hb⟩; have HA := Lib.hid (HA.out.below hb HA.out.lt); have HD := Lib.hid (HD.out.below hb HD.out.lt); have HP := Lib.hid (HP.out.below hb HP.out.lt); have HQ := Lib.hid (HQ.out.below hb HQ.out.lt); have HB := Lib.hid (HB.out.trans (hb.mono HB.out.size)); clear hb)
    | (go_at_call 15; (with_reducible refine ((HCba _).out).mono ?_); rintro e w7 ⟨rfl, hb⟩; have HA := Lib.hid (HA.out.below hb HA.out.lt); have HD := Lib.hid (HD.out.below hb HD.out.lt); have HP := Lib.hid (HP.out.below hb HP.out.lt); have HQ := Lib.hid (HQ.out.below hb HQ.out.lt); have HB := Lib.hid (HB.out.trans (hb.mono HB.out.size)); clear hb))
  go_upto_region 14 with (first
    | (go_at_call 17; (with_reducible refine ((HL _).out).mono ?_); rintro e w8 ⟨rfl, hb⟩; have HA := Lib.hid ((HA.out.below hb HA.out.lt).alloc (sobj ⟨x1, x2, x3⟩)); have HD := Lib.hid ((HD.out.below hb HD.out.lt).alloc (sobj ⟨x1, x2, x3⟩)); have HX2 := Lib.hid (at_new w8 ⟨x1, x2, x3⟩); have HB := Lib.hid ((HB.out.trans (hb.mono HB.out.size)).alloc (Nat.le_trans HB.out.size hb.size) (sobj ⟨x1, x2, x3⟩)); clear hb; have ha0 := HA.out.c0; have ha1 := HA.out.c1; have ha2 := HA.out.c2; have ha3 := HA.out.lt; have hd0 := HD.out.c0; have hd1 := HD.out.c1; have hd2 := HD.out.c2; have hd3 := HD.out.lt; have hx20 := HX2.out.c0; have hx21 := HX2.out.c1; have hx22 := HX2.out.c2; have hx23 := HX2.out.lt))
  go_wp2_with (first
    | (go_at_call 10; (with_reducible refine (first_any _ (HT.out.below HB.out).pow).mono ?_); rintro e w9 ⟨rfl, hb⟩; have HA := Lib.hid (HA.out.below hb HA.out.lt); have HD := Lib.hid (HD.out.below hb HD.out.lt); have HX2 := Lib.hid (HX2.out.below hb HX2.out.lt); have HB := Lib.hid (HB.out.trans (hb.mono HB.out.size)); clear hb; have ha0 := HA.out.c0; have ha1 := HA.out.c1; have ha2 := HA.out.c2; have ha3 := HA.out.lt; have hd0 := HD.out.c0; have hd1 := HD.out.c1; have hd2 := HD.out.c2; have hd3 := HD.out.lt; have hx20 := HX2.out.c0; have hx21 := HX2.out.c1; have hx22 := HX2.out.c2; have hx23 := HX2.out.lt)
    | (go_at_call 15; (with_reducible refine ((HCxa _).out).mono ?_); rintro e w9 ⟨rfl, hb⟩; have HA := Lib.hid (HA.out.below hb HA.out.lt); have HD := Lib.hid (HD.out.below hb HD.out.lt); have HX2 := Lib.hid (HX2.out.below hb HX2.out.lt); have HB := Lib.hid (HB.out.trans (hb.mono HB.out.size)); clear hb; have ha0 := HA.out.c0; have ha1 := HA.out.c1; have ha2 := HA.out.c2; have ha3 := HA.out.lt; have hd0 := HD.out.c0; have hd1 := HD.out.c1; have hd2 := HD.out.c2; have hd3 := HD.out.lt; have hx20 := HX2.out.c0; have hx21 := HX2.out.c1; have hx22 := HX2.out.c2; have hx23 := HX2.out.lt)
    | (go_at_call 15; (with_reducible refine ((HCxb _).out).mono ?_); rintro e w9 ⟨rfl, hb⟩; have HA := Lib.hid (HA.out.below hb HA.out.lt); have HD := Lib.hid (HD.out.below hb HD.out.lt); have HX2 := Lib.hid (HX2.out.below hb HX2.out.lt); have HB := Lib.hid (HB.out.trans (hb.mono HB.out.size)); clear hb; have ha0 := HA.out.c0; have ha1 := HA.out.c1; have ha2 := HA.out.c2; have ha3 := HA.out.lt; have hd0 := HD.out.c0; have hd1 := HD.out.c1; have hd2 := HD.out.c2; have hd3 := HD.out.lt; have hx20 := HX2.out.c0; have hx21 := HX2.out.c1; have hx22 := HX2.out.c2; have hx23 := HX2.out.lt))
  go_ret
  exact ⟨rfl, HB.out⟩
set_option maxRecDepth 100000 in
set_option maxHeartbeats 20000000 in
theorem next_C11n (w : World) (a b : St) (ua : a.wf) (hT : Tabs w) (hma : mayS a = true) (hz : a ≠ St.zero) (hmb : mayS b = false) (hx : laterS a b = a) (hab : a ≠ b) : Calls Tryd.prog 7 #[sagg a, sagg b] w fun e w' => e = .returned (.bool true) ∧ Below w.heap.size w w' := by
  have HT := Lib.hid hT
  have HA := Lib.hid (at_two w a b).1
  have HD := Lib.hid (at_two w a b).2
  have HB := Lib.hid (below2 w (sobj a) (sobj b))
  have hok : (priorS a).2 = true := by rw [prior_ok, hma]; rw [decide_eq_false hz]; rfl
  have hpl := prior_lt hok
  have hlen : (printS a).length ≤ 1000000 := by
    have h1 := decV_le a.w ua.1.1 ua.1.2
    have h2 := decV_le a.l ua.2.1.1 ua.2.1.2
    have h3 := decV_le a.n ua.2.2.1 ua.2.2.2
    unfold printS
    simp only [List.length_append, List.length_cons, List.length_nil]
    omega
  have hli := later_is a b
  have hcn := cmpS_neg a b
  have hcz := cmpS_zero a b
  have hcl := cmpS_le b a
  have hpr : parseS (printS a) = (a, 0) := (parse_is (printS a)).one (.inl ⟨hma, rfl, rfl⟩)
  have HP1 := fun w => Lib.hid (prior_any a w)
  have HMa := fun w => Lib.hid (may_any a w)
  have HMb := fun w => Lib.hid (may_any b w)
  have HMp := fun w => Lib.hid (may_any (priorS a).1 w)
  have HCpa := fun w => Lib.hid (compare_any (priorS a).1 a w)
  have HCpb := fun w => Lib.hid (compare_any (priorS a).1 b w)
  have HCba := fun w => Lib.hid (compare_any b a w)
  have HCab := fun w => Lib.hid (compare_any a b w)
  have HX := fun w h => Lib.hid (print_any a ua w h)
  have HR := fun w h => Lib.hid (parse_any w h (printS a) hlen)
  have HL := fun w => Lib.hid (later_any a b w)
  have HCxa := fun w => Lib.hid (compare_any (laterS a b) a w)
  have HCxb := fun w => Lib.hid (compare_any (laterS a b) b w)
  have EAB := fun w => eq_ite a.w a.l a.n b.w b.l b.n w
  have EXa := fun w => eq_ite (laterS a b).w (laterS a b).l (laterS a b).n a.w a.l a.n w
  have EXb := fun w => eq_ite (laterS a b).w (laterS a b).l (laterS a b).n b.w b.l b.n w
  rw [hpr] at HR
  rw [hma] at HMa
  rw [hok] at HP1
  have EZ := fun w => eq_ite a.w a.l a.n 0 0 0 w
  rw [decide_eq_false (show ¬ ((⟨a.w, a.l, a.n⟩ : St) = ⟨0, 0, 0⟩) from hz)] at EZ
  rw [hpl.2] at HMp
  rw [hmb] at HMb
  have d1 : decide ((0 : Int) ≤ cmpS (priorS a).1 a) = false := decide_eq_false (by have := hpl.1; omega)
  have d4 : decide ((0 : Int) ≤ cmpS (laterS a b) a) = true := decide_eq_true hli.2.1
  have d5 : decide ((0 : Int) ≤ cmpS (laterS a b) b) = true := decide_eq_true hli.2.2
  have d6 : (cmpS a b == -cmpS b a) = true := by rw [← hcn]; exact beq_self_eq_true _
  have d7 : (cmpS a b == 0) = decide (a = b) := by
    by_cases h : a = b
    · rw [decide_eq_true h, hcz.2 h]; rfl
    · rw [decide_eq_false h]; simpa using fun e => h (hcz.1 e)
  have d8 : IntKind.i64.wrap (-cmpS b a) = -cmpS b a := by rw [wrap_in (by omega)]
  rw [decide_eq_true (show ((⟨(laterS a b).w, (laterS a b).l, (laterS a b).n⟩ : St) = ⟨a.w, a.l, a.n⟩) from hx)] at EXa
  rw [decide_eq_false (show ¬ ((⟨a.w, a.l, a.n⟩ : St) = ⟨b.w, b.l, b.n⟩) from hab)] at EAB
  rw [decide_eq_false hab] at d7
  generalize cmpS (priorS a).1 a = cpa at *
  generalize cmpS (priorS a).1 b = cpb at *
  generalize cmpS (laterS a b) a = cxa at *
  generalize cmpS (laterS a b) b = cxb at *
  generalize cmpS a b = cab at *
  generalize cmpS b a = cba at *
  clear hab hli hcn hcz hcl hpr hlen hok hma hT ua hx hpl hmb hz
  generalize laterS a b = X at *
  generalize (priorS a).1 = P at *
  generalize printS a = T at *
  obtain ⟨p1, p2, p3⟩ := P
  obtain ⟨x1, x2, x3⟩ := X
  obtain ⟨a1, a2, a3⟩ := a
  obtain ⟨b1, b2, b3⟩ := b
  go_enter Tryd.func7, Tryd.ntmps7
  go_upto_region 4 with (first
    | (go_at_call 10; (with_reducible refine (first_any _ (HT.out.below HB.out).pow).mono ?_); rintro e w1 ⟨rfl, hb⟩; have HA := Lib.hid (HA.out.below hb HA.out.lt); have HD := Lib.hid (HD.out.below hb HD.out.lt); have HB := Lib.hid (HB.out.trans (hb.mono HB.out.size)); clear hb; have ha0 := HA.out.c0; have ha1 := HA.out.c1; have ha2 := HA.out.c2; have ha3 := HA.out.lt; have hd0 := HD.out.c0; have hd1 := HD.out.c1; have hd2 := HD.out.c2; have hd3 := HD.out.lt)
    | (go_at_call 11; (with_reducible refine ((HP1 _).out).mono ?_); rintro e w2 ⟨rfl, hb⟩; have HA := Lib.hid ((HA.out.below hb HA.out.lt).alloc (sobj ⟨p1, p2, p3⟩)); have HD := Lib.hid ((HD.out.below hb HD.out.lt).alloc (sobj ⟨p1, p2, p3⟩)); have HP := Lib.hid (at_new w2 ⟨p1, p2, p3⟩); have HB := Lib.hid ((HB.out.trans (hb.mono HB.out.size)).alloc (Nat.le_trans HB.out.size hb.size) (sobj ⟨p1, p2, p3⟩)); clear hb; have ha0 := HA.out.c0; have ha1 := HA.out.c1; have ha2 := HA.out.c2; have ha3 := HA.out.lt; have hd0 := HD.out.c0; have hd1 := HD.out.c1; have hd2 := HD.out.c2; have hd3 := HD.out.lt; have hp0 := HP.out.c0; have hp1 := HP.out.c1; have hp2 := HP.out.c2; have hp3 := HP.out.lt))
  go_upto_region 11 with (first
    | (go_at_call 13; (with_reducible refine ((HMa _).out).mono ?_); rintro e w3 ⟨rfl, hb⟩; have HA := Lib.hid (HA.out.below hb HA.out.lt); have HD := Lib.hid (HD.out.below hb HD.out.lt); have HP := Lib.hid (HP.out.below hb HP.out.lt); have HB := Lib.hid (HB.out.trans (hb.mono HB.out.size)); clear hb; have ha0 := HA.out.c0; have ha1 := HA.out.c1; have ha2 := HA.out.c2; have ha3 := HA.out.lt; have hd0 := HD.out.c0; have hd1 := HD.out.c1; have hd2 := HD.out.c2; have hd3 := HD.out.lt; have hp0 := HP.out.c0; have hp1 := HP.out.c1; have hp2 := HP.out.c2; have hp3 := HP.out.lt)
    | (go_at_call 13; (with_reducible refine ((HMb _).out).mono ?_); rintro e w3 ⟨rfl, hb⟩; have HA := Lib.hid (HA.out.below hb HA.out.lt); have HD := Lib.hid (HD.out.below hb HD.out.lt); have HP := Lib.hid (HP.out.below hb HP.out.lt); have HB := Lib.hid (HB.out.trans (hb.mono HB.out.size)); clear hb; have ha0 := HA.out.c0; have ha1 := HA.out.c1; have ha2 := HA.out.c2; have ha3 := HA.out.lt; have hd0 := HD.out.c0; have hd1 := HD.out.c1; have hd2 := HD.out.c2; have hd3 := HD.out.lt; have hp0 := HP.out.c0; have hp1 := HP.out.c1; have hp2 := HP.out.c2; have hp3 := HP.out.lt)
    | (go_at_call 13; (with_reducible refine ((HMp _).out).mono ?_); rintro e w3 ⟨rfl, hb⟩; have HA := Lib.hid (HA.out.below hb HA.out.lt); have HD := Lib.hid (HD.out.below hb HD.out.lt); have HP := Lib.hid (HP.out.below hb HP.out.lt); have HB := Lib.hid (HB.out.trans (hb.mono HB.out.size)); clear hb; have ha0 := HA.out.c0; have ha1 := HA.out.c1; have ha2 := HA.out.c2; have ha3 := HA.out.lt; have hd0 := HD.out.c0; have hd1 := HD.out.c1; have hd2 := HD.out.c2; have hd3 := HD.out.lt; have hp0 := HP.out.c0; have hp1 := HP.out.c1; have hp2 := HP.out.c2; have hp3 := HP.out.lt)
    | (go_at_call 15; (with_reducible refine ((HCpa _).out).mono ?_); rintro e w3 ⟨rfl, hb⟩; have HA := Lib.hid (HA.out.below hb HA.out.lt); have HD := Lib.hid (HD.out.below hb HD.out.lt); have HP := Lib.hid (HP.out.below hb HP.out.lt); have HB := Lib.hid (HB.out.trans (hb.mono HB.out.size)); clear hb; have ha0 := HA.out.c0; have ha1 := HA.out.c1; have ha2 := HA.out.c2; have ha3 := HA.out.lt; have hd0 := HD.out.c0; have hd1 := HD.out.c1; have hd2 := HD.out.c2; have hd3 := HD.out.lt; have hp0 := HP.out.c0; have hp1 := HP.out.c1; have hp2 := HP.out.c2; have hp3 := HP.out.lt)
    | (go_at_call 15; (with_reducible refine ((HCpb _).out).mono ?_); rintro e w3 ⟨rfl, hb⟩; have HA := Lib.hid (HA.out.below hb HA.out.lt); have HD := Lib.hid (HD.out.below hb HD.out.lt); have HP := Lib.hid (HP.out.below hb HP.out.lt); have HB := Lib.hid (HB.out.trans (hb.mono HB.out.size)); clear hb; have ha0 := HA.out.c0; have ha1 := HA.out.c1; have ha2 := HA.out.c2; have ha3 := HA.out.lt; have hd0 := HD.out.c0; have hd1 := HD.out.c1; have hd2 := HD.out.c2; have hd3 := HD.out.lt; have hp0 := HP.out.c0; have hp1 := HP.out.c1; have hp2 := HP.out.c2; have hp3 := HP.out.lt)
    | (go_at_call 15; (with_reducible refine ((HCba _).out).mono ?_); rintro e w3 ⟨rfl, hb⟩; have HA := Lib.hid (HA.out.below hb HA.out.lt); have HD := Lib.hid (HD.out.below hb HD.out.lt); have HP := Lib.hid (HP.out.below hb HP.out.lt); have HB := Lib.hid (HB.out.trans (hb.mono HB.out.size)); clear hb; have ha0 := HA.out.c0; have ha1 := HA.out.c1; have ha2 := HA.out.c2; have ha3 := HA.out.lt; have hd0 := HD.out.c0; have hd1 := HD.out.c1; have hd2 := HD.out.c2; have hd3 := HD.out.lt; have hp0 := HP.out.c0; have hp1 := HP.out.c1; have hp2 := HP.out.c2; have hp3 := HP.out.lt)
    | (go_at_call 19; (with_reducible refine ((HX _ (HT.out.below HB.out).pow).out).mono ?_); rintro e w4 ⟨rfl, hb⟩; have HA := Lib.hid (HA.out.below hb HA.out.lt); have HD := Lib.hid (HD.out.below hb HD.out.lt); have HP := Lib.hid (HP.out.below hb HP.out.lt); have HB := Lib.hid (HB.out.trans (hb.mono HB.out.size)); clear hb; have ha0 := HA.out.c0; have ha1 := HA.out.c1; have ha2 := HA.out.c2; have ha3 := HA.out.lt; have hd0 := HD.out.c0; have hd1 := HD.out.c1; have hd2 := HD.out.c2; have hd3 := HD.out.lt; have hp0 := HP.out.c0; have hp1 := HP.out.c1; have hp2 := HP.out.c2; have hp3 := HP.out.lt)
    | (go_at_call 21; (with_reducible refine ((HR _ (HT.out.below HB.out)).out).mono ?_); rintro e w5 ⟨rfl, hb⟩; have HA := Lib.hid ((HA.out.below hb HA.out.lt).alloc (sobj ⟨a1, a2, a3⟩)); have HD := Lib.hid ((HD.out.below hb HD.out.lt).alloc (sobj ⟨a1, a2, a3⟩)); have HP := Lib.hid ((HP.out.below hb HP.out.lt).alloc (sobj ⟨a1, a2, a3⟩)); have HQ := Lib.hid (at_new w5 ⟨a1, a2, a3⟩); have HB := Lib.hid ((HB.out.trans (hb.mono HB.out.size)).alloc (Nat.le_trans HB.out.size hb.size) (sobj ⟨a1, a2, a3⟩)); clear hb; have ha0 := HA.out.c0; have ha1 := HA.out.c1; have ha2 := HA.out.c2; have ha3 := HA.out.lt; have hd0 := HD.out.c0; have hd1 := HD.out.c1; have hd2 := HD.out.c2; have hd3 := HD.out.lt; have hp0 := HP.out.c0; have hp1 := HP.out.c1; have hp2 := HP.out.c2; have hp3 := HP.out.lt; have hq0 := HQ.out.c0; have hq1 := HQ.out.c1; have hq2 := HQ.out.c2; have hq3 := HQ.out.lt))
  go_upto_region 12 with (first
    | (go_at_call 13; (with_reducible refine ((HMa _).out).mono ?_); rintro e w6 ⟨rfl, hb⟩; have HA := Lib.hid (HA.out.below hb HA.out.lt); have HD := Lib.hid (HD.out.below hb HD.out.lt); have HP := Lib.hid (HP.out.below hb HP.out.lt); have HQ := Lib.hid (HQ.out.below hb HQ.out.lt); have HB := Lib.hid (HB.out.trans (hb.mono HB.out.size)); clear hb; have ha0 := HA.out.c0; have ha1 := HA.out.c1; have ha2 := HA.out.c2; have ha3 := HA.out.lt; have hd0 := HD.out.c0; have hd1 := HD.out.c1; have hd2 := HD.out.c2; have hd3 := HD.out.lt; have hp0 := HP.out.c0; have hp1 := HP.out.c1; have hp2 := HP.out.c2; have hp3 := HP.out.lt; have hq0 := HQ.out.c0; have hq1 := HQ.out.c1; have hq2 := HQ.out.c2; have hq3 := HQ.out.lt))
  have HA := Lib.hid (HA.out.below (Below.refl _ _).drew HA.out.lt)
  have HD := Lib.hid (HD.out.below (Below.refl _ _).drew HD.out.lt)
  have HP := Lib.hid (HP.out.below (Below.refl _ _).drew HP.out.lt)
  have HQ := Lib.hid (HQ.out.below (Below.refl _ _).drew HQ.out.lt)
  have HB := Lib.hid HB.out.drew
  go_region_held (fun w' => w'.cell? ⟨w.heap.size, 0, none⟩ = some (.int .i64 a1) ∧ w'.cell? ⟨w.heap.size, 1, none⟩ = some (.int .i64 a2) ∧ w'.cell? ⟨w.heap.size, 2, none⟩ = some (.int .i64 a3) ∧ w'.cell? ⟨w.heap.size + 1, 0, none⟩ = some (.int .i64 b1) ∧ w'.cell? ⟨w.heap.size + 1, 1, none⟩ = some (.int .i64 b2) ∧ w'.cell? ⟨w.heap.size + 1, 2, none⟩ = some (.int .i64 b3)) (exact ⟨HA.out.c0, HA.out.c1, HA.out.c2, HD.out.c0, HD.out.c1, HD.out.c2⟩) (first
    | (go_at_call 15; (with_reducible refine ((HCab _).out).mono ?_); rintro e w7 ⟨rfl, hb⟩; have HA := Lib.hid (HA.out.below hb HA.out.lt); have HD := Lib.hid (HD.out.below hb HD.out.lt); have HP := Lib.hid (HP.out.below hb HP.out.lt); have HQ := Lib.hid (HQ.out.below hb HQ.out.lt); have HB := Lib.hid (HB.out.trans (hb.mono HB.out.size)); clear hb)
    | (go_at_call 15; (with_reducible refine ((HCba _).out).mono ?_); rintro e w7 ⟨rfl, hb⟩; have HA := Lib.hid (HA.out.below hb HA.out.lt); have HD := Lib.hid (HD.out.below hb HD.out.lt); have HP := Lib.hid (HP.out.below hb HP.out.lt); have HQ := Lib.hid (HQ.out.below hb HQ.out.lt); have HB := Lib.hid (HB.out.trans (hb.mono HB.out.size)); clear hb))
  go_upto_region 14 with (first
    | (go_at_call 17; (with_reducible refine ((HL _).out).mono ?_); rintro e w8 ⟨rfl, hb⟩; have HA := Lib.hid ((HA.out.below hb HA.out.lt).alloc (sobj ⟨x1, x2, x3⟩)); have HD := Lib.hid ((HD.out.below hb HD.out.lt).alloc (sobj ⟨x1, x2, x3⟩)); have HX2 := Lib.hid (at_new w8 ⟨x1, x2, x3⟩); have HB := Lib.hid ((HB.out.trans (hb.mono HB.out.size)).alloc (Nat.le_trans HB.out.size hb.size) (sobj ⟨x1, x2, x3⟩)); clear hb; have ha0 := HA.out.c0; have ha1 := HA.out.c1; have ha2 := HA.out.c2; have ha3 := HA.out.lt; have hd0 := HD.out.c0; have hd1 := HD.out.c1; have hd2 := HD.out.c2; have hd3 := HD.out.lt; have hx20 := HX2.out.c0; have hx21 := HX2.out.c1; have hx22 := HX2.out.c2; have hx23 := HX2.out.lt))
  go_wp2_with (first
    | (go_at_call 10; (with_reducible refine (first_any _ (HT.out.below HB.out).pow).mono ?_); rintro e w9 ⟨rfl, hb⟩; have HA := Lib.hid (HA.out.below hb HA.out.lt); have HD := Lib.hid (HD.out.below hb HD.out.lt); have HX2 := Lib.hid (HX2.out.below hb HX2.out.lt); have HB := Lib.hid (HB.out.trans (hb.mono HB.out.size)); clear hb; have ha0 := HA.out.c0; have ha1 := HA.out.c1; have ha2 := HA.out.c2; have ha3 := HA.out.lt; have hd0 := HD.out.c0; have hd1 := HD.out.c1; have hd2 := HD.out.c2; have hd3 := HD.out.lt; have hx20 := HX2.out.c0; have hx21 := HX2.out.c1; have hx22 := HX2.out.c2; have hx23 := HX2.out.lt)
    | (go_at_call 15; (with_reducible refine ((HCxa _).out).mono ?_); rintro e w9 ⟨rfl, hb⟩; have HA := Lib.hid (HA.out.below hb HA.out.lt); have HD := Lib.hid (HD.out.below hb HD.out.lt); have HX2 := Lib.hid (HX2.out.below hb HX2.out.lt); have HB := Lib.hid (HB.out.trans (hb.mono HB.out.size)); clear hb; have ha0 := HA.out.c0; have ha1 := HA.out.c1; have ha2 := HA.out.c2; have ha3 := HA.out.lt; have hd0 := HD.out.c0; have hd1 := HD.out.c1; have hd2 := HD.out.c2; have hd3 := HD.out.lt; have hx20 := HX2.out.c0; have hx21 := HX2.out.c1; have hx22 := HX2.out.c2; have hx23 := HX2.out.lt)
    | (go_at_call 15; (with_reducible refine ((HCxb _).out).mono ?_); rintro e w9 ⟨rfl, hb⟩; have HA := Lib.hid (HA.out.below hb HA.out.lt); have HD := Lib.hid (HD.out.below hb HD.out.lt); have HX2 := Lib.hid (HX2.out.below hb HX2.out.lt); have HB := Lib.hid (HB.out.trans (hb.mono HB.out.size)); clear hb; have ha0 := HA.out.c0; have ha1 := HA.out.c1; have ha2 := HA.out.c2; have ha3 := HA.out.lt; have hd0 := HD.out.c0; have hd1 := HD.out.c1; have hd2 := HD.out.c2; have hd3 := HD.out.lt; have hx20 := HX2.out.c0; have hx21 := HX2.out.c1; have hx22 := HX2.out.c2; have hx23 := HX2.out.lt))
  go_ret
  exact ⟨rfl, HB.out⟩
set_option maxRecDepth 100000 in
set_option maxHeartbeats 20000000 in
theorem next_C12 (w : World) (a b : St) (ua : a.wf) (hT : Tabs w) (hma : mayS a = true) (hz : a ≠ St.zero) (hmb : mayS b = false) (hx : laterS a b ≠ a) (hab : a ≠ b) : Calls Tryd.prog 7 #[sagg a, sagg b] w fun e w' => e = .returned (.bool true) ∧ Below w.heap.size w w' := by
  have HT := Lib.hid hT
  have HA := Lib.hid (at_two w a b).1
  have HD := Lib.hid (at_two w a b).2
  have HB := Lib.hid (below2 w (sobj a) (sobj b))
  have hok : (priorS a).2 = true := by rw [prior_ok, hma]; rw [decide_eq_false hz]; rfl
  have hpl := prior_lt hok
  have hlen : (printS a).length ≤ 1000000 := by
    have h1 := decV_le a.w ua.1.1 ua.1.2
    have h2 := decV_le a.l ua.2.1.1 ua.2.1.2
    have h3 := decV_le a.n ua.2.2.1 ua.2.2.2
    unfold printS
    simp only [List.length_append, List.length_cons, List.length_nil]
    omega
  have hli := later_is a b
  have hcn := cmpS_neg a b
  have hcz := cmpS_zero a b
  have hcl := cmpS_le b a
  have hpr : parseS (printS a) = (a, 0) := (parse_is (printS a)).one (.inl ⟨hma, rfl, rfl⟩)
  have HP1 := fun w => Lib.hid (prior_any a w)
  have HMa := fun w => Lib.hid (may_any a w)
  have HMb := fun w => Lib.hid (may_any b w)
  have HMp := fun w => Lib.hid (may_any (priorS a).1 w)
  have HCpa := fun w => Lib.hid (compare_any (priorS a).1 a w)
  have HCpb := fun w => Lib.hid (compare_any (priorS a).1 b w)
  have HCba := fun w => Lib.hid (compare_any b a w)
  have HCab := fun w => Lib.hid (compare_any a b w)
  have HX := fun w h => Lib.hid (print_any a ua w h)
  have HR := fun w h => Lib.hid (parse_any w h (printS a) hlen)
  have HL := fun w => Lib.hid (later_any a b w)
  have HCxa := fun w => Lib.hid (compare_any (laterS a b) a w)
  have HCxb := fun w => Lib.hid (compare_any (laterS a b) b w)
  have EAB := fun w => eq_ite a.w a.l a.n b.w b.l b.n w
  have EXa := fun w => eq_ite (laterS a b).w (laterS a b).l (laterS a b).n a.w a.l a.n w
  have EXb := fun w => eq_ite (laterS a b).w (laterS a b).l (laterS a b).n b.w b.l b.n w
  rw [hpr] at HR
  rw [hma] at HMa
  rw [hok] at HP1
  have EZ := fun w => eq_ite a.w a.l a.n 0 0 0 w
  rw [decide_eq_false (show ¬ ((⟨a.w, a.l, a.n⟩ : St) = ⟨0, 0, 0⟩) from hz)] at EZ
  rw [hpl.2] at HMp
  rw [hmb] at HMb
  have d1 : decide ((0 : Int) ≤ cmpS (priorS a).1 a) = false := decide_eq_false (by have := hpl.1; omega)
  have d4 : decide ((0 : Int) ≤ cmpS (laterS a b) a) = true := decide_eq_true hli.2.1
  have d5 : decide ((0 : Int) ≤ cmpS (laterS a b) b) = true := decide_eq_true hli.2.2
  have d6 : (cmpS a b == -cmpS b a) = true := by rw [← hcn]; exact beq_self_eq_true _
  have d7 : (cmpS a b == 0) = decide (a = b) := by
    by_cases h : a = b
    · rw [decide_eq_true h, hcz.2 h]; rfl
    · rw [decide_eq_false h]; simpa using fun e => h (hcz.1 e)
  have d8 : IntKind.i64.wrap (-cmpS b a) = -cmpS b a := by rw [wrap_in (by omega)]
  rw [decide_eq_false (show ¬ ((⟨(laterS a b).w, (laterS a b).l, (laterS a b).n⟩ : St) = ⟨a.w, a.l, a.n⟩) from hx)] at EXa
  rw [decide_eq_true (show ((⟨(laterS a b).w, (laterS a b).l, (laterS a b).n⟩ : St) = ⟨b.w, b.l, b.n⟩) from hli.1.resolve_left hx)] at EXb
  rw [decide_eq_false (show ¬ ((⟨a.w, a.l, a.n⟩ : St) = ⟨b.w, b.l, b.n⟩) from hab)] at EAB
  rw [decide_eq_false hab] at d7
  generalize cmpS (priorS a).1 a = cpa at *
  generalize cmpS (priorS a).1 b = cpb at *
  generalize cmpS (laterS a b) a = cxa at *
  generalize cmpS (laterS a b) b = cxb at *
  generalize cmpS a b = cab at *
  generalize cmpS b a = cba at *
  clear hab hli hcn hcz hcl hpr hlen hok hma hT ua hx hpl hmb hz
  generalize laterS a b = X at *
  generalize (priorS a).1 = P at *
  generalize printS a = T at *
  obtain ⟨p1, p2, p3⟩ := P
  obtain ⟨x1, x2, x3⟩ := X
  obtain ⟨a1, a2, a3⟩ := a
  obtain ⟨b1, b2, b3⟩ := b
  go_enter Tryd.func7, Tryd.ntmps7
  go_upto_region 4 with (first
    | (go_at_call 10; (with_reducible refine (first_any _ (HT.out.below HB.out).pow).mono ?_); rintro e w1 ⟨rfl, hb⟩; have HA := Lib.hid (HA.out.below hb HA.out.lt); have HD := Lib.hid (HD.out.below hb HD.out.lt); have HB := Lib.hid (HB.out.trans (hb.mono HB.out.size)); clear hb; have ha0 := HA.out.c0; have ha1 := HA.out.c1; have ha2 := HA.out.c2; have ha3 := HA.out.lt; have hd0 := HD.out.c0; have hd1 := HD.out.c1; have hd2 := HD.out.c2; have hd3 := HD.out.lt)
    | (go_at_call 11; (with_reducible refine ((HP1 _).out).mono ?_); rintro e w2 ⟨rfl, hb⟩; have HA := Lib.hid ((HA.out.below hb HA.out.lt).alloc (sobj ⟨p1, p2, p3⟩)); have HD := Lib.hid ((HD.out.below hb HD.out.lt).alloc (sobj ⟨p1, p2, p3⟩)); have HP := Lib.hid (at_new w2 ⟨p1, p2, p3⟩); have HB := Lib.hid ((HB.out.trans (hb.mono HB.out.size)).alloc (Nat.le_trans HB.out.size hb.size) (sobj ⟨p1, p2, p3⟩)); clear hb; have ha0 := HA.out.c0; have ha1 := HA.out.c1; have ha2 := HA.out.c2; have ha3 := HA.out.lt; have hd0 := HD.out.c0; have hd1 := HD.out.c1; have hd2 := HD.out.c2; have hd3 := HD.out.lt; have hp0 := HP.out.c0; have hp1 := HP.out.c1; have hp2 := HP.out.c2; have hp3 := HP.out.lt))
  go_upto_region 11 with (first
    | (go_at_call 13; (with_reducible refine ((HMa _).out).mono ?_); rintro e w3 ⟨rfl, hb⟩; have HA := Lib.hid (HA.out.below hb HA.out.lt); have HD := Lib.hid (HD.out.below hb HD.out.lt); have HP := Lib.hid (HP.out.below hb HP.out.lt); have HB := Lib.hid (HB.out.trans (hb.mono HB.out.size)); clear hb; have ha0 := HA.out.c0; have ha1 := HA.out.c1; have ha2 := HA.out.c2; have ha3 := HA.out.lt; have hd0 := HD.out.c0; have hd1 := HD.out.c1; have hd2 := HD.out.c2; have hd3 := HD.out.lt; have hp0 := HP.out.c0; have hp1 := HP.out.c1; have hp2 := HP.out.c2; have hp3 := HP.out.lt)
    | (go_at_call 13; (with_reducible refine ((HMb _).out).mono ?_); rintro e w3 ⟨rfl, hb⟩; have HA := Lib.hid (HA.out.below hb HA.out.lt); have HD := Lib.hid (HD.out.below hb HD.out.lt); have HP := Lib.hid (HP.out.below hb HP.out.lt); have HB := Lib.hid (HB.out.trans (hb.mono HB.out.size)); clear hb; have ha0 := HA.out.c0; have ha1 := HA.out.c1; have ha2 := HA.out.c2; have ha3 := HA.out.lt; have hd0 := HD.out.c0; have hd1 := HD.out.c1; have hd2 := HD.out.c2; have hd3 := HD.out.lt; have hp0 := HP.out.c0; have hp1 := HP.out.c1; have hp2 := HP.out.c2; have hp3 := HP.out.lt)
    | (go_at_call 13; (with_reducible refine ((HMp _).out).mono ?_); rintro e w3 ⟨rfl, hb⟩; have HA := Lib.hid (HA.out.below hb HA.out.lt); have HD := Lib.hid (HD.out.below hb HD.out.lt); have HP := Lib.hid (HP.out.below hb HP.out.lt); have HB := Lib.hid (HB.out.trans (hb.mono HB.out.size)); clear hb; have ha0 := HA.out.c0; have ha1 := HA.out.c1; have ha2 := HA.out.c2; have ha3 := HA.out.lt; have hd0 := HD.out.c0; have hd1 := HD.out.c1; have hd2 := HD.out.c2; have hd3 := HD.out.lt; have hp0 := HP.out.c0; have hp1 := HP.out.c1; have hp2 := HP.out.c2; have hp3 := HP.out.lt)
    | (go_at_call 15; (with_reducible refine ((HCpa _).out).mono ?_); rintro e w3 ⟨rfl, hb⟩; have HA := Lib.hid (HA.out.below hb HA.out.lt); have HD := Lib.hid (HD.out.below hb HD.out.lt); have HP := Lib.hid (HP.out.below hb HP.out.lt); have HB := Lib.hid (HB.out.trans (hb.mono HB.out.size)); clear hb; have ha0 := HA.out.c0; have ha1 := HA.out.c1; have ha2 := HA.out.c2; have ha3 := HA.out.lt; have hd0 := HD.out.c0; have hd1 := HD.out.c1; have hd2 := HD.out.c2; have hd3 := HD.out.lt; have hp0 := HP.out.c0; have hp1 := HP.out.c1; have hp2 := HP.out.c2; have hp3 := HP.out.lt)
    | (go_at_call 15; (with_reducible refine ((HCpb _).out).mono ?_); rintro e w3 ⟨rfl, hb⟩; have HA := Lib.hid (HA.out.below hb HA.out.lt); have HD := Lib.hid (HD.out.below hb HD.out.lt); have HP := Lib.hid (HP.out.below hb HP.out.lt); have HB := Lib.hid (HB.out.trans (hb.mono HB.out.size)); clear hb; have ha0 := HA.out.c0; have ha1 := HA.out.c1; have ha2 := HA.out.c2; have ha3 := HA.out.lt; have hd0 := HD.out.c0; have hd1 := HD.out.c1; have hd2 := HD.out.c2; have hd3 := HD.out.lt; have hp0 := HP.out.c0; have hp1 := HP.out.c1; have hp2 := HP.out.c2; have hp3 := HP.out.lt)
    | (go_at_call 15; (with_reducible refine ((HCba _).out).mono ?_); rintro e w3 ⟨rfl, hb⟩; have HA := Lib.hid (HA.out.below hb HA.out.lt); have HD := Lib.hid (HD.out.below hb HD.out.lt); have HP := Lib.hid (HP.out.below hb HP.out.lt); have HB := Lib.hid (HB.out.trans (hb.mono HB.out.size)); clear hb; have ha0 := HA.out.c0; have ha1 := HA.out.c1; have ha2 := HA.out.c2; have ha3 := HA.out.lt; have hd0 := HD.out.c0; have hd1 := HD.out.c1; have hd2 := HD.out.c2; have hd3 := HD.out.lt; have hp0 := HP.out.c0; have hp1 := HP.out.c1; have hp2 := HP.out.c2; have hp3 := HP.out.lt)
    | (go_at_call 19; (with_reducible refine ((HX _ (HT.out.below HB.out).pow).out).mono ?_); rintro e w4 ⟨rfl, hb⟩; have HA := Lib.hid (HA.out.below hb HA.out.lt); have HD := Lib.hid (HD.out.below hb HD.out.lt); have HP := Lib.hid (HP.out.below hb HP.out.lt); have HB := Lib.hid (HB.out.trans (hb.mono HB.out.size)); clear hb; have ha0 := HA.out.c0; have ha1 := HA.out.c1; have ha2 := HA.out.c2; have ha3 := HA.out.lt; have hd0 := HD.out.c0; have hd1 := HD.out.c1; have hd2 := HD.out.c2; have hd3 := HD.out.lt; have hp0 := HP.out.c0; have hp1 := HP.out.c1; have hp2 := HP.out.c2; have hp3 := HP.out.lt)
    | (go_at_call 21; (with_reducible refine ((HR _ (HT.out.below HB.out)).out).mono ?_); rintro e w5 ⟨rfl, hb⟩; have HA := Lib.hid ((HA.out.below hb HA.out.lt).alloc (sobj ⟨a1, a2, a3⟩)); have HD := Lib.hid ((HD.out.below hb HD.out.lt).alloc (sobj ⟨a1, a2, a3⟩)); have HP := Lib.hid ((HP.out.below hb HP.out.lt).alloc (sobj ⟨a1, a2, a3⟩)); have HQ := Lib.hid (at_new w5 ⟨a1, a2, a3⟩); have HB := Lib.hid ((HB.out.trans (hb.mono HB.out.size)).alloc (Nat.le_trans HB.out.size hb.size) (sobj ⟨a1, a2, a3⟩)); clear hb; have ha0 := HA.out.c0; have ha1 := HA.out.c1; have ha2 := HA.out.c2; have ha3 := HA.out.lt; have hd0 := HD.out.c0; have hd1 := HD.out.c1; have hd2 := HD.out.c2; have hd3 := HD.out.lt; have hp0 := HP.out.c0; have hp1 := HP.out.c1; have hp2 := HP.out.c2; have hp3 := HP.out.lt; have hq0 := HQ.out.c0; have hq1 := HQ.out.c1; have hq2 := HQ.out.c2; have hq3 := HQ.out.lt))
  go_upto_region 12 with (first
    | (go_at_call 13; (with_reducible refine ((HMa _).out).mono ?_); rintro e w6 ⟨rfl, hb⟩; have HA := Lib.hid (HA.out.below hb HA.out.lt); have HD := Lib.hid (HD.out.below hb HD.out.lt); have HP := Lib.hid (HP.out.below hb HP.out.lt); have HQ := Lib.hid (HQ.out.below hb HQ.out.lt); have HB := Lib.hid (HB.out.trans (hb.mono HB.out.size)); clear hb; have ha0 := HA.out.c0; have ha1 := HA.out.c1; have ha2 := HA.out.c2; have ha3 := HA.out.lt; have hd0 := HD.out.c0; have hd1 := HD.out.c1; have hd2 := HD.out.c2; have hd3 := HD.out.lt; have hp0 := HP.out.c0; have hp1 := HP.out.c1; have hp2 := HP.out.c2; have hp3 := HP.out.lt; have hq0 := HQ.out.c0; have hq1 := HQ.out.c1; have hq2 := HQ.out.c2; have hq3 := HQ.out.lt))
  have HA := Lib.hid (HA.out.below (Below.refl _ _).drew HA.out.lt)
  have HD := Lib.hid (HD.out.below (Below.refl _ _).drew HD.out.lt)
  have HP := Lib.hid (HP.out.below (Below.refl _ _).drew HP.out.lt)
  have HQ := Lib.hid (HQ.out.below (Below.refl _ _).drew HQ.out.lt)
  have HB := Lib.hid HB.out.drew
  go_region_held (fun w' => w'.cell? ⟨w.heap.size, 0, none⟩ = some (.int .i64 a1) ∧ w'.cell? ⟨w.heap.size, 1, none⟩ = some (.int .i64 a2) ∧ w'.cell? ⟨w.heap.size, 2, none⟩ = some (.int .i64 a3) ∧ w'.cell? ⟨w.heap.size + 1, 0, none⟩ = some (.int .i64 b1) ∧ w'.cell? ⟨w.heap.size + 1, 1, none⟩ = some (.int .i64 b2) ∧ w'.cell? ⟨w.heap.size + 1, 2, none⟩ = some (.int .i64 b3)) (exact ⟨HA.out.c0, HA.out.c1, HA.out.c2, HD.out.c0, HD.out.c1, HD.out.c2⟩) (first
    | (go_at_call 15; (with_reducible refine ((HCab _).out).mono ?_); rintro e w7 ⟨rfl, hb⟩; have HA := Lib.hid (HA.out.below hb HA.out.lt); have HD := Lib.hid (HD.out.below hb HD.out.lt); have HP := Lib.hid (HP.out.below hb HP.out.lt); have HQ := Lib.hid (HQ.out.below hb HQ.out.lt); have HB := Lib.hid (HB.out.trans (hb.mono HB.out.size)); clear hb)
    | (go_at_call 15; (with_reducible refine ((HCba _).out).mono ?_); rintro e w7 ⟨rfl, hb⟩; have HA := Lib.hid (HA.out.below hb HA.out.lt); have HD := Lib.hid (HD.out.below hb HD.out.lt); have HP := Lib.hid (HP.out.below hb HP.out.lt); have HQ := Lib.hid (HQ.out.below hb HQ.out.lt); have HB := Lib.hid (HB.out.trans (hb.mono HB.out.size)); clear hb))
  go_upto_region 14 with (first
    | (go_at_call 17; (with_reducible refine ((HL _).out).mono ?_); rintro e w8 ⟨rfl, hb⟩; have HA := Lib.hid ((HA.out.below hb HA.out.lt).alloc (sobj ⟨x1, x2, x3⟩)); have HD := Lib.hid ((HD.out.below hb HD.out.lt).alloc (sobj ⟨x1, x2, x3⟩)); have HX2 := Lib.hid (at_new w8 ⟨x1, x2, x3⟩); have HB := Lib.hid ((HB.out.trans (hb.mono HB.out.size)).alloc (Nat.le_trans HB.out.size hb.size) (sobj ⟨x1, x2, x3⟩)); clear hb; have ha0 := HA.out.c0; have ha1 := HA.out.c1; have ha2 := HA.out.c2; have ha3 := HA.out.lt; have hd0 := HD.out.c0; have hd1 := HD.out.c1; have hd2 := HD.out.c2; have hd3 := HD.out.lt; have hx20 := HX2.out.c0; have hx21 := HX2.out.c1; have hx22 := HX2.out.c2; have hx23 := HX2.out.lt))
  go_wp2_with (first
    | (go_at_call 10; (with_reducible refine (first_any _ (HT.out.below HB.out).pow).mono ?_); rintro e w9 ⟨rfl, hb⟩; have HA := Lib.hid (HA.out.below hb HA.out.lt); have HD := Lib.hid (HD.out.below hb HD.out.lt); have HX2 := Lib.hid (HX2.out.below hb HX2.out.lt); have HB := Lib.hid (HB.out.trans (hb.mono HB.out.size)); clear hb; have ha0 := HA.out.c0; have ha1 := HA.out.c1; have ha2 := HA.out.c2; have ha3 := HA.out.lt; have hd0 := HD.out.c0; have hd1 := HD.out.c1; have hd2 := HD.out.c2; have hd3 := HD.out.lt; have hx20 := HX2.out.c0; have hx21 := HX2.out.c1; have hx22 := HX2.out.c2; have hx23 := HX2.out.lt)
    | (go_at_call 15; (with_reducible refine ((HCxa _).out).mono ?_); rintro e w9 ⟨rfl, hb⟩; have HA := Lib.hid (HA.out.below hb HA.out.lt); have HD := Lib.hid (HD.out.below hb HD.out.lt); have HX2 := Lib.hid (HX2.out.below hb HX2.out.lt); have HB := Lib.hid (HB.out.trans (hb.mono HB.out.size)); clear hb; have ha0 := HA.out.c0; have ha1 := HA.out.c1; have ha2 := HA.out.c2; have ha3 := HA.out.lt; have hd0 := HD.out.c0; have hd1 := HD.out.c1; have hd2 := HD.out.c2; have hd3 := HD.out.lt; have hx20 := HX2.out.c0; have hx21 := HX2.out.c1; have hx22 := HX2.out.c2; have hx23 := HX2.out.lt)
    | (go_at_call 15; (with_reducible refine ((HCxb _).out).mono ?_); rintro e w9 ⟨rfl, hb⟩; have HA := Lib.hid (HA.out.below hb HA.out.lt); have HD := Lib.hid (HD.out.below hb HD.out.lt); have HX2 := Lib.hid (HX2.out.below hb HX2.out.lt); have HB := Lib.hid (HB.out.trans (hb.mono HB.out.size)); clear hb; have ha0 := HA.out.c0; have ha1 := HA.out.c1; have ha2 := HA.out.c2; have ha3 := HA.out.lt; have hd0 := HD.out.c0; have hd1 := HD.out.c1; have hd2 := HD.out.c2; have hd3 := HD.out.lt; have hx20 := HX2.out.c0; have hx21 := HX2.out.c1; have hx22 := HX2.out.c2; have hx23 := HX2.out.lt))
  go_ret
  exact ⟨rfl, HB.out⟩
set_option maxRecDepth 100000 in
set_option maxHeartbeats 20000000 in
theorem next_C21e (w : World) (a b : St) (ua : a.wf) (hT : Tabs w) (hma : mayS a = true) (hz : a ≠ St.zero) (hmb : mayS b = true) (hpb : ¬ cmpS (priorS a).1 b < 0) (hx : laterS a b = a) (hab : a = b) : Calls Tryd.prog 7 #[sagg a, sagg b] w fun e w' => e = .returned (.bool true) ∧ Below w.heap.size w w' := by
  have HT := Lib.hid hT
  have HA := Lib.hid (at_two w a b).1
  have HD := Lib.hid (at_two w a b).2
  have HB := Lib.hid (below2 w (sobj a) (sobj b))
  have hok : (priorS a).2 = true := by rw [prior_ok, hma]; rw [decide_eq_false hz]; rfl
  have hpl := prior_lt hok
  have hlen : (printS a).length ≤ 1000000 := by
    have h1 := decV_le a.w ua.1.1 ua.1.2
    have h2 := decV_le a.l ua.2.1.1 ua.2.1.2
    have h3 := decV_le a.n ua.2.2.1 ua.2.2.2
    unfold printS
    simp only [List.length_append, List.length_cons, List.length_nil]
    omega
  have hli := later_is a b
  have hcn := cmpS_neg a b
  have hcz := cmpS_zero a b
  have hcl := cmpS_le b a
  have hpr : parseS (printS a) = (a, 0) := (parse_is (printS a)).one (.inl ⟨hma, rfl, rfl⟩)
  have HP1 := fun w => Lib.hid (prior_any a w)
  have HMa := fun w => Lib.hid (may_any a w)
  have HMb := fun w => Lib.hid (may_any b w)
  have HMp := fun w => Lib.hid (may_any (priorS a).1 w)
  have HCpa := fun w => Lib.hid (compare_any (priorS a).1 a w)
  have HCpb := fun w => Lib.hid (compare_any (priorS a).1 b w)
  have HCba := fun w => Lib.hid (compare_any b a w)
  have HCab := fun w => Lib.hid (compare_any a b w)
  have HX := fun w h => Lib.hid (print_any a ua w h)
  have HR := fun w h => Lib.hid (parse_any w h (printS a) hlen)
  have HL := fun w => Lib.hid (later_any a b w)
  have HCxa := fun w => Lib.hid (compare_any (laterS a b) a w)
  have HCxb := fun w => Lib.hid (compare_any (laterS a b) b w)
  have EAB := fun w => eq_ite a.w a.l a.n b.w b.l b.n w
  have EXa := fun w => eq_ite (laterS a b).w (laterS a b).l (laterS a b).n a.w a.l a.n w
  have EXb := fun w => eq_ite (laterS a b).w (laterS a b).l (laterS a b).n b.w b.l b.n w
  rw [hpr] at HR
  rw [hma] at HMa
  rw [hok] at HP1
  have EZ := fun w => eq_ite a.w a.l a.n 0 0 0 w
  rw [decide_eq_false (show ¬ ((⟨a.w, a.l, a.n⟩ : St) = ⟨0, 0, 0⟩) from hz)] at EZ
  rw [hpl.2] at HMp
  rw [hmb] at HMb
  have d1 : decide ((0 : Int) ≤ cmpS (priorS a).1 a) = false := decide_eq_false (by have := hpl.1; omega)
  have d2 : decide (cmpS (priorS a).1 b < 0) = false := decide_eq_false hpb
  have d4 : decide ((0 : Int) ≤ cmpS (laterS a b) a) = true := decide_eq_true hli.2.1
  have d5 : decide ((0 : Int) ≤ cmpS (laterS a b) b) = true := decide_eq_true hli.2.2
  have d6 : (cmpS a b == -cmpS b a) = true := by rw [← hcn]; exact beq_self_eq_true _
  have d7 : (cmpS a b == 0) = decide (a = b) := by
    by_cases h : a = b
    · rw [decide_eq_true h, hcz.2 h]; rfl
    · rw [decide_eq_false h]; simpa using fun e => h (hcz.1 e)
  have d8 : IntKind.i64.wrap (-cmpS b a) = -cmpS b a := by rw [wrap_in (by omega)]
  rw [decide_eq_true (show ((⟨(laterS a b).w, (laterS a b).l, (laterS a b).n⟩ : St) = ⟨a.w, a.l, a.n⟩) from hx)] at EXa
  rw [decide_eq_true (show ((⟨a.w, a.l, a.n⟩ : St) = ⟨b.w, b.l, b.n⟩) from hab)] at EAB
  rw [decide_eq_true hab] at d7
  generalize cmpS (priorS a).1 a = cpa at *
  generalize cmpS (priorS a).1 b = cpb at *
  generalize cmpS (laterS a b) a = cxa at *
  generalize cmpS (laterS a b) b = cxb at *
  generalize cmpS a b = cab at *
  generalize cmpS b a = cba at *
  clear hab hli hcn hcz hcl hpr hlen hok hma hT ua hx hpl hmb hpb hz
  generalize laterS a b = X at *
  generalize (priorS a).1 = P at *
  generalize printS a = T at *
  obtain ⟨p1, p2, p3⟩ := P
  obtain ⟨x1, x2, x3⟩ := X
  obtain ⟨a1, a2, a3⟩ := a
  obtain ⟨b1, b2, b3⟩ := b
  go_enter Tryd.func7, Tryd.ntmps7
  go_upto_region 4 with (first
    | (go_at_call 10; (with_reducible refine (first_any _ (HT.out.below HB.out).pow).mono ?_); rintro e w1 ⟨rfl, hb⟩; have HA := Lib.hid (HA.out.below hb HA.out.lt); have HD := Lib.hid (HD.out.below hb HD.out.lt); have HB := Lib.hid (HB.out.trans (hb.mono HB.out.size)); clear hb; have ha0 := HA.out.c0; have ha1 := HA.out.c1; have ha2 := HA.out.c2; have ha3 := HA.out.lt; have hd0 := HD.out.c0; have hd1 := HD.out.c1; have hd2 := HD.out.c2; have hd3 := HD.out.lt)
    | (go_at_call 11; (with_reducible refine ((HP1 _).out).mono ?_); rintro e w2 ⟨rfl, hb⟩; have HA := Lib.hid ((HA.out.below hb HA.out.lt).alloc (sobj ⟨p1, p2, p3⟩)); have HD := Lib.hid ((HD.out.below hb HD.out.lt).alloc (sobj ⟨p1, p2, p3⟩)); have HP := Lib.hid (at_new w2 ⟨p1, p2, p3⟩); have HB := Lib.hid ((HB.out.trans (hb.mono HB.out.size)).alloc (Nat.le_trans HB.out.size hb.size) (sobj ⟨p1, p2, p3⟩)); clear hb; have ha0 := HA.out.c0; have ha1 := HA.out.c1; have ha2 := HA.out.c2; have ha3 := HA.out.lt; have hd0 := HD.out.c0; have hd1 := HD.out.c1; have hd2 := HD.out.c2; have hd3 := HD.out.lt; have hp0 := HP.out.c0; have hp1 := HP.out.c1; have hp2 := HP.out.c2; have hp3 := HP.out.lt))
  go_upto_region 11 with (first
    | (go_at_call 13; (with_reducible refine ((HMa _).out).mono ?_); rintro e w3 ⟨rfl, hb⟩; have HA := Lib.hid (HA.out.below hb HA.out.lt); have HD := Lib.hid (HD.out.below hb HD.out.lt); have HP := Lib.hid (HP.out.below hb HP.out.lt); have HB := Lib.hid (HB.out.trans (hb.mono HB.out.size)); clear hb; have ha0 := HA.out.c0; have ha1 := HA.out.c1; have ha2 := HA.out.c2; have ha3 := HA.out.lt; have hd0 := HD.out.c0; have hd1 := HD.out.c1; have hd2 := HD.out.c2; have hd3 := HD.out.lt; have hp0 := HP.out.c0; have hp1 := HP.out.c1; have hp2 := HP.out.c2; have hp3 := HP.out.lt)
    | (go_at_call 13; (with_reducible refine ((HMb _).out).mono ?_); rintro e w3 ⟨rfl, hb⟩; have HA := Lib.hid (HA.out.below hb HA.out.lt); have HD := Lib.hid (HD.out.below hb HD.out.lt); have HP := Lib.hid (HP.out.below hb HP.out.lt); have HB := Lib.hid (HB.out.trans (hb.mono HB.out.size)); clear hb; have ha0 := HA.out.c0; have ha1 := HA.out.c1; have ha2 := HA.out.c2; have ha3 := HA.out.lt; have hd0 := HD.out.c0; have hd1 := HD.out.c1; have hd2 := HD.out.c2; have hd3 := HD.out.lt; have hp0 := HP.out.c0; have hp1 := HP.out.c1; have hp2 := HP.out.c2; have hp3 := HP.out.lt)
    | (go_at_call 13; (with_reducible refine ((HMp _).out).mono ?_); rintro e w3 ⟨rfl, hb⟩; have HA := Lib.hid (HA.out.below hb HA.out.lt); have HD := Lib.hid (HD.out.below hb HD.out.lt); have HP := Lib.hid (HP.out.below hb HP.out.lt); have HB := Lib.hid (HB.out.trans (hb.mono HB.out.size)); clear hb; have ha0 := HA.out.c0; have ha1 := HA.out.c1; have ha2 := HA.out.c2; have ha3 := HA.out.lt; have hd0 := HD.out.c0; have hd1 := HD.out.c1; have hd2 := HD.out.c2; have hd3 := HD.out.lt; have hp0 := HP.out.c0; have hp1 := HP.out.c1; have hp2 := HP.out.c2; have hp3 := HP.out.lt)
    | (go_at_call 15; (with_reducible refine ((HCpa _).out).mono ?_); rintro e w3 ⟨rfl, hb⟩; have HA := Lib.hid (HA.out.below hb HA.out.lt); have HD := Lib.hid (HD.out.below hb HD.out.lt); have HP := Lib.hid (HP.out.below hb HP.out.lt); have HB := Lib.hid (HB.out.trans (hb.mono HB.out.size)); clear hb; have ha0 := HA.out.c0; have ha1 := HA.out.c1; have ha2 := HA.out.c2; have ha3 := HA.out.lt; have hd0 := HD.out.c0; have hd1 := HD.out.c1; have hd2 := HD.out.c2; have hd3 := HD.out.lt; have hp0 := HP.out.c0; have hp1 := HP.out.c1; have hp2 := HP.out.c2; have hp3 := HP.out.lt)
    | (go_at_call 15; (with_reducible refine ((HCpb _).out).mono ?_); rintro e w3 ⟨rfl, hb⟩; have HA := Lib.hid (HA.out.below hb HA.out.lt); have HD := Lib.hid (HD.out.below hb HD.out.lt); have HP := Lib.hid (HP.out.below hb HP.out.lt); have HB := Lib.hid (HB.out.trans (hb.mono HB.out.size)); clear hb; have ha0 := HA.out.c0; have ha1 := HA.out.c1; have ha2 := HA.out.c2; have ha3 := HA.out.lt; have hd0 := HD.out.c0; have hd1 := HD.out.c1; have hd2 := HD.out.c2; have hd3 := HD.out.lt; have hp0 := HP.out.c0; have hp1 := HP.out.c1; have hp2 := HP.out.c2; have hp3 := HP.out.lt)
    | (go_at_call 15; (with_reducible refine ((HCba _).out).mono ?_); rintro e w3 ⟨rfl, hb⟩; have HA := Lib.hid (HA.out.below hb HA.out.lt); have HD := Lib.hid (HD.out.below hb HD.out.lt); have HP := Lib.hid (HP.out.below hb HP.out.lt); have HB := Lib.hid (HB.out.trans (hb.mono HB.out.size)); clear hb; have ha0 := HA.out.c0; have ha1 := HA.out.c1; have ha2 := HA.out.c2; have ha3 := HA.out.lt; have hd0 := HD.out.c0; have hd1 := HD.out.c1; have hd2 := HD.out.c2; have hd3 := HD.out.lt; have hp0 := HP.out.c0; have hp1 := HP.out.c1; have hp2 := HP.out.c2; have hp3 := HP.out.lt)
    | (go_at_call 19; (with_reducible refine ((HX _ (HT.out.below HB.out).pow).out).mono ?_); rintro e w4 ⟨rfl, hb⟩; have HA := Lib.hid (HA.out.below hb HA.out.lt); have HD := Lib.hid (HD.out.below hb HD.out.lt); have HP := Lib.hid (HP.out.below hb HP.out.lt); have HB := Lib.hid (HB.out.trans (hb.mono HB.out.size)); clear hb; have ha0 := HA.out.c0; have ha1 := HA.out.c1; have ha2 := HA.out.c2; have ha3 := HA.out.lt; have hd0 := HD.out.c0; have hd1 := HD.out.c1; have hd2 := HD.out.c2; have hd3 := HD.out.lt; have hp0 := HP.out.c0; have hp1 := HP.out.c1; have hp2 := HP.out.c2; have hp3 := HP.out.lt)
    | (go_at_call 21; (with_reducible refine ((HR _ (HT.out.below HB.out)).out).mono ?_); rintro e w5 ⟨rfl, hb⟩; have HA := Lib.hid ((HA.out.below hb HA.out.lt).alloc (sobj ⟨a1, a2, a3⟩)); have HD := Lib.hid ((HD.out.below hb HD.out.lt).alloc (sobj ⟨a1, a2, a3⟩)); have HP := Lib.hid ((HP.out.below hb HP.out.lt).alloc (sobj ⟨a1, a2, a3⟩)); have HQ := Lib.hid (at_new w5 ⟨a1, a2, a3⟩); have HB := Lib.hid ((HB.out.trans (hb.mono HB.out.size)).alloc (Nat.le_trans HB.out.size hb.size) (sobj ⟨a1, a2, a3⟩)); clear hb; have ha0 := HA.out.c0; have ha1 := HA.out.c1; have ha2 := HA.out.c2; have ha3 := HA.out.lt; have hd0 := HD.out.c0; have hd1 := HD.out.c1; have hd2 := HD.out.c2; have hd3 := HD.out.lt; have hp0 := HP.out.c0; have hp1 := HP.out.c1; have hp2 := HP.out.c2; have hp3 := HP.out.lt; have hq0 := HQ.out.c0; have hq1 := HQ.out.c1; have hq2 := HQ.out.c2; have hq3 := HQ.out.lt))
  go_upto_region 12 with (first
    | (go_at_call 13; (with_reducible refine ((HMa _).out).mono ?_); rintro e w6 ⟨rfl, hb⟩; have HA := Lib.hid (HA.out.below hb HA.out.lt); have HD := Lib.hid (HD.out.below hb HD.out.lt); have HP := Lib.hid (HP.out.below hb HP.out.lt); have HQ := Lib.hid (HQ.out.below hb HQ.out.lt); have HB := Lib.hid (HB.out.trans (hb.mono HB.out.size)); clear hb; have ha0 := HA.out.c0; have ha1 := HA.out.c1; have ha2 := HA.out.c2; have ha3 := HA.out.lt; have hd0 := HD.out.c0; have hd1 := HD.out.c1; have hd2 := HD.out.c2; have hd3 := HD.out.lt; have hp0 := HP.out.c0; have hp1 := HP.out.c1; have hp2 := HP.out.c2; have hp3 := HP.out.lt; have hq0 := HQ.out.c0; have hq1 := HQ.out.c1; have hq2 := HQ.out.c2; have hq3 := HQ.out.lt))
  have HA := Lib.hid (HA.out.below (Below.refl _ _).drew HA.out.lt)
  have HD := Lib.hid (HD.out.below (Below.refl _ _).drew HD.out.lt)
  have HP := Lib.hid (HP.out.below (Below.refl _ _).drew HP.out.lt)
  have HQ := Lib.hid (HQ.out.below (Below.refl _ _).drew HQ.out.lt)
  have HB := Lib.hid HB.out.drew
  go_region_held (fun w' => w'.cell? ⟨w.heap.size, 0, none⟩ = some (.int .i64 a1) ∧ w'.cell? ⟨w.heap.size, 1, none⟩ = some (.int .i64 a2) ∧ w'.cell? ⟨w.heap.size, 2, none⟩ = some (.int .i64 a3) ∧ w'.cell? ⟨w.heap.size + 1, 0, none⟩ = some (.int .i64 b1) ∧ w'.cell? ⟨w.heap.size + 1, 1, none⟩ = some (.int .i64 b2) ∧ w'.cell? ⟨w.heap.size + 1, 2, none⟩ = some (.int .i64 b3)) (exact ⟨HA.out.c0, HA.out.c1, HA.out.c2, HD.out.c0, HD.out.c1, HD.out.c2⟩) (first
    | (go_at_call 15; (with_reducible refine ((HCab _).out).mono ?_); rintro e w7 ⟨rfl, hb⟩; have HA := Lib.hid (HA.out.below hb HA.out.lt); have HD := Lib.hid (HD.out.below hb HD.out.lt); have HP := Lib.hid (HP.out.below hb HP.out.lt); have HQ := Lib.hid (HQ.out.below hb HQ.out.lt); have HB := Lib.hid (HB.out.trans (hb.mono HB.out.size)); clear hb)
    | (go_at_call 15; (with_reducible refine ((HCba _).out).mono ?_); rintro e w7 ⟨rfl, hb⟩; have HA := Lib.hid (HA.out.below hb HA.out.lt); have HD := Lib.hid (HD.out.below hb HD.out.lt); have HP := Lib.hid (HP.out.below hb HP.out.lt); have HQ := Lib.hid (HQ.out.below hb HQ.out.lt); have HB := Lib.hid (HB.out.trans (hb.mono HB.out.size)); clear hb))
  go_upto_region 14 with (first
    | (go_at_call 17; (with_reducible refine ((HL _).out).mono ?_); rintro e w8 ⟨rfl, hb⟩; have HA := Lib.hid ((HA.out.below hb HA.out.lt).alloc (sobj ⟨x1, x2, x3⟩)); have HD := Lib.hid ((HD.out.below hb HD.out.lt).alloc (sobj ⟨x1, x2, x3⟩)); have HX2 := Lib.hid (at_new w8 ⟨x1, x2, x3⟩); have HB := Lib.hid ((HB.out.trans (hb.mono HB.out.size)).alloc (Nat.le_trans HB.out.size hb.size) (sobj ⟨x1, x2, x3⟩)); clear hb; have ha0 := HA.out.c0; have ha1 := HA.out.c1; have ha2 := HA.out.c2; have ha3 := HA.out.lt; have hd0 := HD.out.c0; have hd1 := HD.out.c1; have hd2 := HD.out.c2; have hd3 := HD.out.lt; have hx20 := HX2.out.c0; have hx21 := HX2.out.c1; have hx22 := HX2.out.c2; have hx23 := HX2.out.lt))
  go_wp2_with (first
    | (go_at_call 10; (with_reducible refine (first_any _ (HT.out.below HB.out).pow).mono ?_); rintro e w9 ⟨rfl, hb⟩; have HA := Lib.hid (HA.out.below hb HA.out.lt); have HD := Lib.hid (HD.out.below hb HD.out.lt); have HX2 := Lib.hid (HX2.out.below hb HX2.out.lt); have HB := Lib.hid (HB.out.trans (hb.mono HB.out.size)); clear hb; have ha0 := HA.out.c0; have ha1 := HA.out.c1; have ha2 := HA.out.c2; have ha3 := HA.out.lt; have hd0 := HD.out.c0; have hd1 := HD.out.c1; have hd2 := HD.out.c2; have hd3 := HD.out.lt; have hx20 := HX2.out.c0; have hx21 := HX2.out.c1; have hx22 := HX2.out.c2; have hx23 := HX2.out.lt)
    | (go_at_call 15; (with_reducible refine ((HCxa _).out).mono ?_); rintro e w9 ⟨rfl, hb⟩; have HA := Lib.hid (HA.out.below hb HA.out.lt); have HD := Lib.hid (HD.out.below hb HD.out.lt); have HX2 := Lib.hid (HX2.out.below hb HX2.out.lt); have HB := Lib.hid (HB.out.trans (hb.mono HB.out.size)); clear hb; have ha0 := HA.out.c0; have ha1 := HA.out.c1; have ha2 := HA.out.c2; have ha3 := HA.out.lt; have hd0 := HD.out.c0; have hd1 := HD.out.c1; have hd2 := HD.out.c2; have hd3 := HD.out.lt; have hx20 := HX2.out.c0; have hx21 := HX2.out.c1; have hx22 := HX2.out.c2; have hx23 := HX2.out.lt)
    | (go_at_call 15; (with_reducible refine ((HCxb _).out).mono ?_); rintro e w9 ⟨rfl, hb⟩; have HA := Lib.hid (HA.out.below hb HA.out.lt); have HD := Lib.hid (HD.out.below hb HD.out.lt); have HX2 := Lib.hid (HX2.out.below hb HX2.out.lt); have HB := Lib.hid (HB.out.trans (hb.mono HB.out.size)); clear hb; have ha0 := HA.out.c0; have ha1 := HA.out.c1; have ha2 := HA.out.c2; have ha3 := HA.out.lt; have hd0 := HD.out.c0; have hd1 := HD.out.c1; have hd2 := HD.out.c2; have hd3 := HD.out.lt; have hx20 := HX2.out.c0; have hx21 := HX2.out.c1; have hx22 := HX2.out.c2; have hx23 := HX2.out.lt))
  go_ret
  exact ⟨rfl, HB.out⟩
set_option maxRecDepth 100000 in
set_option maxHeartbeats 20000000 in
theorem next_C21n (w : World) (a b : St) (ua : a.wf) (hT : Tabs w) (hma : mayS a = true) (hz : a ≠ St.zero) (hmb : mayS b = true) (hpb : ¬ cmpS (priorS a).1 b < 0) (hx : laterS a b = a) (hab : a ≠ b) : Calls Tryd.prog 7 #[sagg a, sagg b] w fun e w' => e = .returned (.bool true) ∧ Below w.heap.size w w' := by
  have HT := Lib.hid hT
  have HA := Lib.hid (at_two w a b).1
  have HD := Lib.hid (at_two w a b).2
  have HB := Lib.hid (below2 w (sobj a) (sobj b))
  have hok : (priorS a).2 = true := by rw [prior_ok, hma]; rw [decide_eq_false hz]; rfl
  have hpl := prior_lt hok
  have hlen : (printS a).length ≤ 1000000 := by
    have h1 := decV_le a.w ua.1.1 ua.1.2
    have h2 := decV_le a.l ua.2.1.1 ua.2.1.2
    have h3 := decV_le a.n ua.2.2.1 ua.2.2.2
    unfold printS
    simp only [List.length_append, List.length_cons, List.length_nil]
    omega
  have hli := later_is a b
  have hcn := cmpS_neg a b
  have hcz := cmpS_zero a b
  have hcl := cmpS_le b a
  have hpr : parseS (printS a) = (a, 0) := (parse_is (printS a)).one (.inl ⟨hma, rfl, rfl⟩)
  have HP1 := fun w => Lib.hid (prior_any a w)
  have HMa := fun w => Lib.hid (may_any a w)
  have HMb := fun w => Lib.hid (may_any b w)
  have HMp := fun w => Lib.hid (may_any (priorS a).1 w)
  have HCpa := fun w => Lib.hid (compare_any (priorS a).1 a w)
  have HCpb := fun w => Lib.hid (compare_any (priorS a).1 b w)
  have HCba := fun w => Lib.hid (compare_any b a w)
  have HCab := fun w => Lib.hid (compare_any a b w)
  have HX := fun w h => Lib.hid (print_any a ua w h)
  have HR := fun w h => Lib.hid (parse_any w h (printS a) hlen)
  have HL := fun w => Lib.hid (later_any a b w)
  have HCxa := fun w => Lib.hid (compare_any (laterS a b) a w)
  have HCxb := fun w => Lib.hid (compare_any (laterS a b) b w)
  have EAB := fun w => eq_ite a.w a.l a.n b.w b.l b.n w
  have EXa := fun w => eq_ite (laterS a b).w (laterS a b).l (laterS a b).n a.w a.l a.n w
  have EXb := fun w => eq_ite (laterS a b).w (laterS a b).l (laterS a b).n b.w b.l b.n w
  rw [hpr] at HR
  rw [hma] at HMa
  rw [hok] at HP1
  have EZ := fun w => eq_ite a.w a.l a.n 0 0 0 w
  rw [decide_eq_false (show ¬ ((⟨a.w, a.l, a.n⟩ : St) = ⟨0, 0, 0⟩) from hz)] at EZ
  rw [hpl.2] at HMp
  rw [hmb] at HMb
  have d1 : decide ((0 : Int) ≤ cmpS (priorS a).1 a) = false := decide_eq_false (by have := hpl.1; omega)
  have d2 : decide (cmpS (priorS a).1 b < 0) = false := decide_eq_false hpb
  have d4 : decide ((0 : Int) ≤ cmpS (laterS a b) a) = true := decide_eq_true hli.2.1
  have d5 : decide ((0 : Int) ≤ cmpS (laterS a b) b) = true := decide_eq_true hli.2.2
  have d6 : (cmpS a b == -cmpS b a) = true := by rw [← hcn]; exact beq_self_eq_true _
  have d7 : (cmpS a b == 0) = decide (a = b) := by
    by_cases h : a = b
    · rw [decide_eq_true h, hcz.2 h]; rfl
    · rw [decide_eq_false h]; simpa using fun e => h (hcz.1 e)
  have d8 : IntKind.i64.wrap (-cmpS b a) = -cmpS b a := by rw [wrap_in (by omega)]
  rw [decide_eq_true (show ((⟨(laterS a b).w, (laterS a b).l, (laterS a b).n⟩ : St) = ⟨a.w, a.l, a.n⟩) from hx)] at EXa
  rw [decide_eq_false (show ¬ ((⟨a.w, a.l, a.n⟩ : St) = ⟨b.w, b.l, b.n⟩) from hab)] at EAB
  rw [decide_eq_false hab] at d7
  generalize cmpS (priorS a).1 a = cpa at *
  generalize cmpS (priorS a).1 b = cpb at *
  generalize cmpS (laterS a b) a = cxa at *
  generalize cmpS (laterS a b) b = cxb at *
  generalize cmpS a b = cab at *
  generalize cmpS b a = cba at *
  clear hab hli hcn hcz hcl hpr hlen hok hma hT ua hx hpl hmb hpb hz
  generalize laterS a b = X at *
  generalize (priorS a).1 = P at *
  generalize printS a = T at *
  obtain ⟨p1, p2, p3⟩ := P
  obtain ⟨x1, x2, x3⟩ := X
  obtain ⟨a1, a2, a3⟩ := a
  obtain ⟨b1, b2, b3⟩ := b
  go_enter Tryd.func7, Tryd.ntmps7
  go_upto_region 4 with (first
    | (go_at_call 10; (with_reducible refine (first_any _ (HT.out.below HB.out).pow).mono ?_); rintro e w1 ⟨rfl, hb⟩; have HA := Lib.hid (HA.out.below hb HA.out.lt); have HD := Lib.hid (HD.out.below hb HD.out.lt); have HB := Lib.hid (HB.out.trans (hb.mono HB.out.size)); clear hb; have ha0 := HA.out.c0; have ha1 := HA.out.c1; have ha2 := HA.out.c2; have ha3 := HA.out.lt; have hd0 := HD.out.c0; have hd1 := HD.out.c1; have hd2 := HD.out.c2; have hd3 := HD.out.lt)
    | (go_at_call 11; (with_reducible refine ((HP1 _).out).mono ?_); rintro e w2 ⟨rfl, hb⟩; have HA := Lib.hid ((HA.out.below hb HA.out.lt).alloc (sobj ⟨p1, p2, p3⟩)); have HD := Lib.hid ((HD.out.below hb HD.out.lt).alloc (sobj ⟨p1, p2, p3⟩)); have HP := Lib.hid (at_new w2 ⟨p1, p2, p3⟩); have HB := Lib.hid ((HB.out.trans (hb.mono HB.out.size)).alloc (Nat.le_trans HB.out.size hb.size) (sobj ⟨p1, p2, p3⟩)); clear hb; have ha0 := HA.out.c0; have ha1 := HA.out.c1; have ha2 := HA.out.c2; have ha3 := HA.out.lt; have hd0 := HD.out.c0; have hd1 := HD.out.c1; have hd2 := HD.out.c2; have hd3 := HD.out.lt; have hp0 := HP.out.c0; have hp1 := HP.out.c1; have hp2 := HP.out.c2; have hp3 := HP.out.lt))
  go_upto_region 11 with (first
    | (go_at_call 13; (with_reducible refine ((HMa _).out).mono ?_); rintro e w3 ⟨rfl, hb⟩; have HA := Lib.hid (HA.out.below hb HA.out.lt); have HD := Lib.hid (HD.out.below hb HD.out.lt); have HP := Lib.hid (HP.out.below hb HP.out.lt); have HB := Lib.hid (HB.out.trans (hb.mono HB.out.size)); clear hb; have ha0 := HA.out.c0; have ha1 := HA.out.c1; have ha2 := HA.out.c2; have ha3 := HA.out.lt; have hd0 := HD.out.c0; have hd1 := HD.out.c1; have hd2 := HD.out.c2; have hd3 := HD.out.lt; have hp0 := HP.out.c0; have hp1 := HP.out.c1; have hp2 := HP.out.c2; have hp3 := HP.out.lt)
    | (go_at_call 13; (with_reducible refine ((HMb _).out).mono ?_); rintro e w3 ⟨rfl, hb⟩; have HA := Lib.hid (HA.out.below hb HA.out.lt); have HD := Lib.hid (HD.out.below hb HD.out.lt); have HP := Lib.hid (HP.out.below hb HP.out.lt); have HB := Lib.hid (HB.out.trans (hb.mono HB.out.size)); clear hb; have ha0 := HA.out.c0; have ha1 := HA.out.c1; have ha2 := HA.out.c2; have ha3 := HA.out.lt; have hd0 := HD.out.c0; have hd1 := HD.out.c1; have hd2 := HD.out.c2; have hd3 := HD.out.lt; have hp0 := HP.out.c0; have hp1 := HP.out.c1; have hp2 := HP.out.c2; have hp3 := HP.out.lt)
    | (go_at_call 13; (with_reducible refine ((HMp _).out).mono ?_); rintro e w3 ⟨rfl, hb⟩; have HA := Lib.hid (HA.out.below hb HA.out.lt); have HD := Lib.hid (HD.out.below hb HD.out.lt); have HP := Lib.hid (HP.out.below hb HP.out.lt); have HB := Lib.hid (HB.out.trans (hb.mono HB.out.size)); clear hb; have ha0 := HA.out.c0; have ha1 := HA.out.c1; have ha2 := HA.out.c2; have ha3 := HA.out.lt; have hd0 := HD.out.c0; have hd1 := HD.out.c1; have hd2 := HD.out.c2; have hd3 := HD.out.lt; have hp0 := HP.out.c0; have hp1 := HP.out.c1; have hp2 := HP.out.c2; have hp3 := HP.out.lt)
    | (go_at_call 15; (with_reducible refine ((HCpa _).out).mono ?_); rintro e w3 ⟨rfl, hb⟩; have HA := Lib.hid (HA.out.below hb HA.out.lt); have HD := Lib.hid (HD.out.below hb HD.out.lt); have HP := Lib.hid (HP.out.below hb HP.out.lt); have HB := Lib.hid (HB.out.trans (hb.mono HB.out.size)); clear hb; have ha0 := HA.out.c0; have ha1 := HA.out.c1; have ha2 := HA.out.c2; have ha3 := HA.out.lt; have hd0 := HD.out.c0; have hd1 := HD.out.c1; have hd2 := HD.out.c2; have hd3 := HD.out.lt; have hp0 := HP.out.c0; have hp1 := HP.out.c1; have hp2 := HP.out.c2; have hp3 := HP.out.lt)
    | (go_at_call 15; (with_reducible refine ((HCpb _).out).mono ?_); rintro e w3 ⟨rfl, hb⟩; have HA := Lib.hid (HA.out.below hb HA.out.lt); have HD := Lib.hid (HD.out.below hb HD.out.lt); have HP := Lib.hid (HP.out.below hb HP.out.lt); have HB := Lib.hid (HB.out.trans (hb.mono HB.out.size)); clear hb; have ha0 := HA.out.c0; have ha1 := HA.out.c1; have ha2 := HA.out.c2; have ha3 := HA.out.lt; have hd0 := HD.out.c0; have hd1 := HD.out.c1; have hd2 := HD.out.c2; have hd3 := HD.out.lt; have hp0 := HP.out.c0; have hp1 := HP.out.c1; have hp2 := HP.out.c2; have hp3 := HP.out.lt)
    | (go_at_call 15; (with_reducible refine ((HCba _).out).mono ?_); rintro e w3 ⟨rfl, hb⟩; have HA := Lib.hid (HA.out.below hb HA.out.lt); have HD := Lib.hid (HD.out.below hb HD.out.lt); have HP := Lib.hid (HP.out.below hb HP.out.lt); have HB := Lib.hid (HB.out.trans (hb.mono HB.out.size)); clear hb; have ha0 := HA.out.c0; have ha1 := HA.out.c1; have ha2 := HA.out.c2; have ha3 := HA.out.lt; have hd0 := HD.out.c0; have hd1 := HD.out.c1; have hd2 := HD.out.c2; have hd3 := HD.out.lt; have hp0 := HP.out.c0; have hp1 := HP.out.c1; have hp2 := HP.out.c2; have hp3 := HP.out.lt)
    | (go_at_call 19; (with_reducible refine ((HX _ (HT.out.below HB.out).pow).out).mono ?_); rintro e w4 ⟨rfl, hb⟩; have HA := Lib.hid (HA.out.below hb HA.out.lt); have HD := Lib.hid (HD.out.below hb HD.out.lt); have HP := Lib.hid (HP.out.below hb HP.out.lt); have HB := Lib.hid (HB.out.trans (hb.mono HB.out.size)); clear hb; have ha0 := HA.out.c0; have ha1 := HA.out.c1; have ha2 := HA.out.c2; have ha3 := HA.out.lt; have hd0 := HD.out.c0; have hd1 := HD.out.c1; have hd2 := HD.out.c2; have hd3 := HD.out.lt; have hp0 := HP.out.c0; have hp1 := HP.out.c1; have hp2 := HP.out.c2; have hp3 := HP.out.lt)
    | (go_at_call 21; (with_reducible refine ((HR _ (HT.out.below HB.out)).out).mono ?_); rintro e w5 ⟨rfl, hb⟩; have HA := Lib.hid ((HA.out.below hb HA.out.lt).alloc (sobj ⟨a1, a2, a3⟩)); have HD := Lib.hid ((HD.out.below hb HD.out.lt).alloc (sobj ⟨a1, a2, a3⟩)); have HP := Lib.hid ((HP.out.below hb HP.out.lt).alloc (sobj ⟨a1, a2, a3⟩)); have HQ := Lib.hid (at_new w5 ⟨a1, a2, a3⟩); have HB := Lib.hid ((HB.out.trans (hb.mono HB.out.size)).alloc (Nat.le_trans HB.out.size hb.size) (sobj ⟨a1, a2, a3⟩)); clear hb; have ha0 := HA.out.c0; have ha1 := HA.out.c1; have ha2 := HA.out.c2; have ha3 := HA.out.lt; have hd0 := HD.out.c0; have hd1 := HD.out.c1; have hd2 := HD.out.c2; have hd3 := HD.out.lt; have hp0 := HP.out.c0; have hp1 := HP.out.c1; have hp2 := HP.out.c2; have hp3 := HP.out.lt; have hq0 := HQ.out.c0; have hq1 := HQ.out.c1; have hq2 := HQ.out.c2; have hq3 := HQ.out.lt))
  go_upto_region 12 with (first
    | (go_at_call 13; (with_reducible refine ((HMa _).out).mono ?_); rintro e w6 ⟨rfl, hb⟩; have HA := Lib.hid (HA.out.below hb HA.out.lt); have HD := Lib.hid (HD.out.below hb HD.out.lt); have HP := Lib.hid (HP.out.below hb HP.out.lt); have HQ := Lib.hid (HQ.out.below hb HQ.out.lt); have HB := Lib.hid (HB.out.trans (hb.mono HB.out.size)); clear hb; have ha0 := HA.out.c0; have ha1 := HA.out.c1; have ha2 := HA.out.c2; have ha3 := HA.out.lt; have hd0 := HD.out.c0; have hd1 := HD.out.c1; have hd2 := HD.out.c2; have hd3 := HD.out.lt; have hp0 := HP.out.c0; have hp1 := HP.out.c1; have hp2 := HP.out.c2; have hp3 := HP.out.lt; have hq0 := HQ.out.c0; have hq1 := HQ.out.c1; have hq2 := HQ.out.c2; have hq3 := HQ.out.lt))
  have HA := Lib.hid (HA.out.below (Below.refl _ _).drew HA.out.lt)
  have HD := Lib.hid (HD.out.below (Below.refl _ _).drew HD.out.lt)
  have HP := Lib.hid (HP.out.below (Below.refl _ _).drew HP.out.lt)
  have HQ := Lib.hid (HQ.out.below (Below.refl _ _).drew HQ.out.lt)
  have HB := Lib.hid HB.out.drew
  go_region_held (fun w' => w'.cell? ⟨w.heap.size, 0, none⟩ = some (.int .i64 a1) ∧ w'.cell? ⟨w.heap.size, 1, none⟩ = some (.int .i64 a2) ∧ w'.cell? ⟨w.heap.size, 2, none⟩ = some (.int .i64 a3) ∧ w'.cell? ⟨w.heap.size + 1, 0, none⟩ = some (.int .i64 b1) ∧ w'.cell? ⟨w.heap.size + 1, 1, none⟩ = some (.int .i64 b2) ∧ w'.cell? ⟨w.heap.size + 1, 2, none⟩ = some (.int .i64 b3)) (exact ⟨HA.out.c0, HA.out.c1, HA.out.c2, HD.out.c0, HD.out.c1, HD.out.c2⟩) (first
    | (go_at_call 15; (with_reducible refine ((HCab _).out).mono ?_); rintro e w7 ⟨rfl, hb⟩; have HA := Lib.hid (HA.out.below hb HA.out.lt); have HD := Lib.hid (HD.out.below hb HD.out.lt); have HP := Lib.hid (HP.out.below hb HP.out.lt); have HQ := Lib.hid (HQ.out.below hb HQ.out.lt); have HB := Lib.hid (HB.out.trans (hb.mono HB.out.size)); clear hb)
    | (go_at_call 15; (with_reducible refine ((HCba _).out).mono ?_); rintro e w7 ⟨rfl, hb⟩; have HA := Lib.hid (HA.out.below hb HA.out.lt); have HD := Lib.hid (HD.out.below hb HD.out.lt); have HP := Lib.hid (HP.out.below hb HP.out.lt); have HQ := Lib.hid (HQ.out.below hb HQ.out.lt); have HB := Lib.hid (HB.out.trans (hb.mono HB.out.size)); clear hb))
  go_upto_region 14 with (first
    | (go_at_call 17; (with_reducible refine ((HL _).out).mono ?_); rintro e w8 ⟨rfl, hb⟩; have HA := Lib.hid ((HA.out.below hb HA.out.lt).alloc (sobj ⟨x1, x2, x3⟩)); have HD := Lib.hid ((HD.out.below hb HD.out.lt).alloc (sobj ⟨x1, x2, x3⟩)); have HX2 := Lib.hid (at_new w8 ⟨x1, x2, x3⟩); have HB := Lib.hid ((HB.out.trans (hb.mono HB.out.size)).alloc (Nat.le_trans HB.out.size hb.size) (sobj ⟨x1, x2, x3⟩)); clear hb; have ha0 := HA.out.c0; have ha1 := HA.out.c1; have ha2 := HA.out.c2; have ha3 := HA.out.lt; have hd0 := HD.out.c0; have hd1 := HD.out.c1; have hd2 := HD.out.c2; have hd3 := HD.out.lt; have hx20 := HX2.out.c0; have hx21 := HX2.out.c1; have hx22 := HX2.out.c2; have hx23 := HX2.out.lt))
  go_wp2_with (first
    | (go_at_call 10; (with_reducible refine (first_any _ (HT.out.below HB.out).pow).mono ?_); rintro e w9 ⟨rfl, hb⟩; have HA := Lib.hid (HA.out.below hb HA.out.lt); have HD := Lib.hid (HD.out.below hb HD.out.lt); have HX2 := Lib.hid (HX2.out.below hb HX2.out.lt); have HB := Lib.hid (HB.out.trans (hb.mono HB.out.size)); clear hb; have ha0 := HA.out.c0; have ha1 := HA.out.c1; have ha2 := HA.out.c2; have ha3 := HA.out.lt; have hd0 := HD.out.c0; have hd1 := HD.out.c1; have hd2 := HD.out.c2; have hd3 := HD.out.lt; have hx20 := HX2.out.c0; have hx21 := HX2.out.c1; have hx22 := HX2.out.c2; have hx23 := HX2.out.lt)
    | (go_at_call 15; (with_reducible refine ((HCxa _).out).mono ?_); rintro e w9 ⟨rfl, hb⟩; have HA := Lib.hid (HA.out.below hb HA.out.lt); have HD := Lib.hid (HD.out.below hb HD.out.lt); have HX2 := Lib.hid (HX2.out.below hb HX2.out.lt); have HB := Lib.hid (HB.out.trans (hb.mono HB.out.size)); clear hb; have ha0 := HA.out.c0; have ha1 := HA.out.c1; have ha2 := HA.out.c2; have ha3 := HA.out.lt; have hd0 := HD.out.c0; have hd1 := HD.out.c1; have hd2 := HD.out.c2; have hd3 := HD.out.lt; have hx20 := HX2.out.c0; have hx21 := HX2.out.c1; have hx22 := HX2.out.c2; have hx23 := HX2.out.lt)
    | (go_at_call 15; (with_reducible refine ((HCxb _).out).mono ?_); rintro e w9 ⟨rfl, hb⟩; have HA := Lib.hid (HA.out.below hb HA.out.lt); have HD := Lib.hid (HD.out.below hb HD.out.lt); have HX2 := Lib.hid (HX2.out.below hb HX2.out.lt); have HB := Lib.hid (HB.out.trans (hb.mono HB.out.size)); clear hb; have ha0 := HA.out.c0; have ha1 := HA.out.c1; have ha2 := HA.out.c2; have ha3 := HA.out.lt; have hd0 := HD.out.c0; have hd1 := HD.out.c1; have hd2 := HD.out.c2; have hd3 := HD.out.lt; have hx20 := HX2.out.c0; have hx21 := HX2.out.c1; have hx22 := HX2.out.c2; have hx23 := HX2.out.lt))
  go_ret
  exact ⟨rfl, HB.out⟩
set_option maxRecDepth 100000 in
set_option maxHeartbeats 20000000 in
theorem next_C22 (w : World) (a b : St) (ua : a.wf) (hT : Tabs w) (hma : mayS a = true) (hz : a ≠ St.zero) (hmb : mayS b = true) (hpb : ¬ cmpS (priorS a).1 b < 0) (hx : laterS a b ≠ a) (hab : a ≠ b) : Calls Tryd.prog 7 #[sagg a, sagg b] w fun e w' => e = .returned (.bool true) ∧ Below w.heap.size w w' := by
  have HT := Lib.hid hT
  have HA := Lib.hid (at_two w a b).1
  have HD := Lib.hid (at_two w a b).2
  have HB := Lib.hid (below2 w (sobj a) (sobj b))
  have hok : (priorS a).2 = true := by rw [prior_ok, hma]; rw [decide_eq_false hz]; rfl
  have hpl := prior_lt hok
  have hlen : (printS a).length ≤ 1000000 := by
    have h1 := decV_le a.w ua.1.1 ua.1.2
    have h2 := decV_le a.l ua.2.1.1 ua.2.1.2
    have h3 := decV_le a.n ua.2.2.1 ua.2.2.2
    unfold printS
    simp only [List.length_append, List.length_cons, List.length_nil]
    omega
  have hli := later_is a b
  have hcn := cmpS_neg a b
  have hcz := cmpS_zero a b
  have hcl := cmpS_le b a
  have hpr : parseS (printS a) = (a, 0) := (parse_is (printS a)).one (.inl ⟨hma, rfl, rfl⟩)
  have HP1 := fun w => Lib.hid (prior_any a w)
  have HMa := fun w => Lib.hid (may_any a w)
  have HMb := fun w => Lib.hid (may_any b w)
  have HMp := fun w => Lib.hid (may_any (priorS a).1 w)
  have HCpa := fun w => Lib.hid (compare_any (priorS a).1 a w)
  have HCpb := fun w => Lib.hid (compare_any (priorS a).1 b w)
  have HCba := fun w => Lib.hid (compare_any b a w)
  have HCab := fun w => Lib.hid (compare_any a b w)
  have HX := fun w h => Lib.hid (print_any a ua w h)
  have HR := fun w h => Lib.hid (parse_any w h (printS a) hlen)
  have HL := fun w => Lib.hid (later_any a b w)
  have HCxa := fun w => Lib.hid (compare_any (laterS a b) a w)
  have HCxb := fun w => Lib.hid (compare_any (laterS a b) b w)
  have EAB := fun w => eq_ite a.w a.l a.n b.w b.l b.n w
  have EXa := fun w => eq_ite (laterS a b).w (laterS a b).l (laterS a b).n a.w a.l a.n w
  have EXb := fun w => eq_ite (laterS a b).w (laterS a b).l (laterS a b).n b.w b.l b.n w
  rw [hpr] at HR
  rw [hma] at HMa
  rw [hok] at HP1
  have EZ := fun w => eq_ite a.w a.l a.n 0 0 0 w
  rw [decide_eq_false (show ¬ ((⟨a.w, a.l, a.n⟩ : St) = ⟨0, 0, 0⟩) from hz)] at EZ
  rw [hpl.2] at HMp
  rw [hmb] at HMb
  have d1 : decide ((0 : Int) ≤ cmpS (priorS a).1 a) = false := decide_eq_false (by have := hpl.1; omega)
  have d2 : decide (cmpS (priorS a).1 b < 0) = false := decide_eq_false hpb
  have d4 : decide ((0 : Int) ≤ cmpS (laterS a b) a) = true := decide_eq_true hli.2.1
  have d5 : decide ((0 : Int) ≤ cmpS (laterS a b) b) = true := decide_eq_true hli.2.2
  have d6 : (cmpS a b == -cmpS b a) = true := by rw [← hcn]; exact beq_self_eq_true _
  have d7 : (cmpS a b == 0) = decide (a = b) := by
    by_cases h : a = b
    · rw [decide_eq_true h, hcz.2 h]; rfl
    · rw [decide_eq_false h]; simpa using fun e => h (hcz.1 e)
  have d8 : IntKind.i64.wrap (-cmpS b a) = -cmpS b a := by rw [wrap_in (by omega)]
  rw [decide_eq_false (show ¬ ((⟨(laterS a b).w, (laterS a b).l, (laterS a b).n⟩ : St) = ⟨a.w, a.l, a.n⟩) from hx)] at EXa
  rw [decide_eq_true (show ((⟨(laterS a b).w, (laterS a b).l, (laterS a b).n⟩ : St) = ⟨b.w, b.l, b.n⟩) from hli.1.resolve_left hx)] at EXb
  rw [decide_eq_false (show ¬ ((⟨a.w, a.l, a.n⟩ : St) = ⟨b.w, b.l, b.n⟩) from hab)] at EAB
  rw [decide_eq_false hab] at d7
  generalize cmpS (priorS a).1 a = cpa at *
  generalize cmpS (priorS a).1 b = cpb at *
  generalize cmpS (laterS a b) a = cxa at *
  generalize cmpS (laterS a b) b = cxb at *
  generalize cmpS a b = cab at *
  generalize cmpS b a = cba at *
  clear hab hli hcn hcz hcl hpr hlen hok hma hT ua hx hpl hmb hpb hz
  generalize laterS a b = X at *
  generalize (priorS a).1 = P at *
  generalize printS a = T at *
  obtain ⟨p1, p2, p3⟩ := P
  obtain ⟨x1, x2, x3⟩ := X
  obtain ⟨a1, a2, a3⟩ := a
  obtain ⟨b1, b2, b3⟩ := b
  go_enter Tryd.func7, Tryd.ntmps7
  go_upto_region 4 with (first
    | (go_at_call 10; (with_reducible refine (first_any _ (HT.out.below HB.out).pow).mono ?_); rintro e w1 ⟨rfl, hb⟩; have HA := Lib.hid (HA.out.below hb HA.out.lt); have HD := Lib.hid (HD.out.below hb HD.out.lt); have HB := Lib.hid (HB.out.trans (hb.mono HB.out.size)); clear hb; have ha0 := HA.out.c0; have ha1 := HA.out.c1; have ha2 := HA.out.c2; have ha3 := HA.out.lt; have hd0 := HD.out.c0; have hd1 := HD.out.c1; have hd2 := HD.out.c2; have hd3 := HD.out.lt)
    | (go_at_call 11; (with_reducible refine ((HP1 _).out).mono ?_); rintro e w2 ⟨rfl, hb⟩; have HA := Lib.hid ((HA.out.below hb HA.out.lt).alloc (sobj ⟨p1, p2, p3⟩)); have HD := Lib.hid ((HD.out.below hb HD.out.lt).alloc (sobj ⟨p1, p2, p3⟩)); have HP := Lib.hid (at_new w2 ⟨p1, p2, p3⟩); have HB := Lib.hid ((HB.out.trans (hb.mono HB.out.size)).alloc (Nat.le_trans HB.out.size hb.size) (sobj ⟨p1, p2, p3⟩)); clear hb; have ha0 := HA.out.c0; have ha1 := HA.out.c1; have ha2 := HA.out.c2; have ha3 := HA.out.lt; have hd0 := HD.out.c0; have hd1 := HD.out.c1; have hd2 := HD.out.c2; have hd3 := HD.out.lt; have hp0 := HP.out.c0; have hp1 := HP.out.c1; have hp2 := HP.out.c2; have hp3 := HP.out.lt))
  go_upto_region 11 with (first
    | (go_at_call 13; (with_reducible refine ((HMa _).out).mono ?_); rintro e w3 ⟨rfl, hb⟩; have HA := Lib.hid (HA.out.below hb HA.out.lt); have HD := Lib.hid (HD.out.below hb HD.out.lt); have HP := Lib.hid (HP.out.below hb HP.out.lt); have HB := Lib.hid (HB.out.trans (hb.mono HB.out.size)); clear hb; have ha0 := HA.out.c0; have ha1 := HA.out.c1; have ha2 := HA.out.c2; have ha3 := HA.out.lt; have hd0 := HD.out.c0; have hd1 := HD.out.c1; have hd2 := HD.out.c2; have hd3 := HD.out.lt; have hp0 := HP.out.c0; have hp1 := HP.out.c1; have hp2 := HP.out.c2; have hp3 := HP.out.lt)
    | (go_at_call 13; (with_reducible refine ((HMb _).out).mono ?_); rintro e w3 ⟨rfl, hb⟩; have HA := Lib.hid (HA.out.below hb HA.out.lt); have HD := Lib.hid (HD.out.below hb HD.out.lt); have HP := Lib.hid (HP.out.below hb HP.out.lt); have HB := Lib.hid (HB.out.trans (hb.mono HB.out.size)); clear hb; have ha0 := HA.out.c0; have ha1 := HA.out.c1; have ha2 := HA.out.c2; have ha3 := HA.out.lt; have hd0 := HD.out.c0; have hd1 := HD.out.c1; have hd2 := HD.out.c2; have hd3 := HD.out.lt; have hp0 := HP.out.c0; have hp1 := HP.out.c1; have hp2 := HP.out.c2; have hp3 := HP.out.lt)
    | (go_at_call 13; (with_reducible refine ((HMp _).out).mono ?_); rintro e w3 ⟨rfl, hb⟩; have HA := Lib.hid (HA.out.below hb HA.out.lt); have HD := Lib.hid (HD.out.below hb HD.out.lt); have HP := Lib.hid (HP.out.below hb HP.out.lt); have HB := Lib.hid (HB.out.trans (hb.mono HB.out.size)); clear hb; have ha0 := HA.out.c0; have ha1 := HA.out.c1; have ha2 := HA.out.c2; have ha3 := HA.out.lt; have hd0 := HD.out.c0; have hd1 := HD.out.c1; have hd2 := HD.out.c2; have hd3 := HD.out.lt; have hp0 := HP.out.c0; have hp1 := HP.out.c1; have hp2 := HP.out.c2; have hp3 := HP.out.lt)
    | (go_at_call 15; (with_reducible refine ((HCpa _).out).mono ?_); rintro e w3 ⟨rfl, hb⟩; have HA := Lib.hid (HA.out.below hb HA.out.lt); have HD := Lib.hid (HD.out.below hb HD.out.lt); have HP := Lib.hid (HP.out.below hb HP.out.lt); have HB := Lib.hid (HB.out.trans (hb.mono HB.out.size)); clear hb; have ha0 := HA.out.c0; have ha1 := HA.out.c1; have ha2 := HA.out.c2; have ha3 := HA.out.lt; have hd0 := HD.out.c0; have hd1 := HD.out.c1; have hd2 := HD.out.c2; have hd3 := HD.out.lt; have hp0 := HP.out.c0; have hp1 := HP.out.c1; have hp2 := HP.out.c2; have hp3 := HP.out.lt)
    | (go_at_call 15; (with_reducible refine ((HCpb _).out).mono ?_); rintro e w3 ⟨rfl, hb⟩; have HA := Lib.hid (HA.out.below hb HA.out.lt); have HD := Lib.hid (HD.out.below hb HD.out.lt); have HP := Lib.hid (HP.out.below hb HP.out.lt); have HB := Lib.hid (HB.out.trans (hb.mono HB.out.size)); clear hb; have ha0 := HA.out.c0; have ha1 := HA.out.c1; have ha2 := HA.out.c2; have ha3 := HA.out.lt; have hd0 := HD.out.c0; have hd1 := HD.out.c1; have hd2 := HD.out.c2; have hd3 := HD.out.lt; have hp0 := HP.out.c0; have hp1 := HP.out.c1; have hp2 := HP.out.c2; have hp3 := HP.out.lt)
    | (go_at_call 15; (with_reducible refine ((HCba _).out).mono ?_); rintro e w3 ⟨rfl, hb⟩; have HA := Lib.hid (HA.out.below hb HA.out.lt); have HD := Lib.hid (HD.out.below hb HD.out.lt); have HP := Lib.hid (HP.out.below hb HP.out.lt); have HB := Lib.hid (HB.out.trans (hb.mono HB.out.size)); clear hb; have ha0 := HA.out.c0; have ha1 := HA.out.c1; have ha2 := HA.out.c2; have ha3 := HA.out.lt; have hd0 := HD.out.c0; have hd1 := HD.out.c1; have hd2 := HD.out.c2; have hd3 := HD.out.lt; have hp0 := HP.out.c0; have hp1 := HP.out.c1; have hp2 := HP.out.c2; have hp3 := HP.out.lt)
    | (go_at_call 19; (with_reducible refine ((HX _ (HT.out.below HB.out).pow).out).mono ?_); rintro e w4 ⟨rfl, hb⟩; have HA := Lib.hid (HA.out.below hb HA.out.lt); have HD := Lib.hid (HD.out.below hb HD.out.lt); have HP := Lib.hid (HP.out.below hb HP.out.lt); have HB := Lib.hid (HB.out.trans (hb.mono HB.out.size)); clear hb; have ha0 := HA.out.c0; have ha1 := HA.out.c1; have ha2 := HA.out.c2; have ha3 := HA.out.lt; have hd0 := HD.out.c0; have hd1 := HD.out.c1; have hd2 := HD.out.c2; have hd3 := HD.out.lt; have hp0 := HP.out.c0; have hp1 := HP.out.c1; have hp2 := HP.out.c2; have hp3 := HP.out.lt)
    | (go_at_call 21; (with_reducible refine ((HR _ (HT.out.below HB.out)).out).mono ?_); rintro e w5 ⟨rfl, hb⟩; have HA := Lib.hid ((HA.out.below hb HA.out.lt).alloc (sobj ⟨a1, a2, a3⟩)); have HD := Lib.hid ((HD.out.below hb HD.out.lt).alloc (sobj ⟨a1, a2, a3⟩)); have HP := Lib.hid ((HP.out.below hb HP.out.lt).alloc (sobj ⟨a1, a2, a3⟩)); have HQ := Lib.hid (at_new w5 ⟨a1, a2, a3⟩); have HB := Lib.hid ((HB.out.trans (hb.mono HB.out.size)).alloc (Nat.le_trans HB.out.size hb.size) (sobj ⟨a1, a2, a3⟩)); clear hb; have ha0 := HA.out.c0; have ha1 := HA.out.c1; have ha2 := HA.out.c2; have ha3 := HA.out.lt; have hd0 := HD.out.c0; have hd1 := HD.out.c1; have hd2 := HD.out.c2; have hd3 := HD.out.lt; have hp0 := HP.out.c0; have hp1 := HP.out.c1; have hp2 := HP.out.c2; have hp3 := HP.out.lt; have hq0 := HQ.out.c0; have hq1 := HQ.out.c1; have hq2 := HQ.out.c2; have hq3 := HQ.out.lt))
  go_upto_region 12 with (first
    | (go_at_call 13; (with_reducible refine ((HMa _).out).mono ?_); rintro e w6 ⟨rfl, hb⟩; have HA := Lib.hid (HA.out.below hb HA.out.lt); have HD := Lib.hid (HD.out.below hb HD.out.lt); have HP := Lib.hid (HP.out.below hb HP.out.lt); have HQ := Lib.hid (HQ.out.below hb HQ.out.lt); have HB := Lib.hid (HB.out.trans (hb.mono HB.out.size)); clear hb; have ha0 := HA.out.c0; have ha1 := HA.out.c1; have ha2 := HA.out.c2; have ha3 := HA.out.lt; have hd0 := HD.out.c0; have hd1 := HD.out.c1; have hd2 := HD.out.c2; have hd3 := HD.out.lt; have hp0 := HP.out.c0; have hp1 := HP.out.c1; have hp2 := HP.out.c2; have hp3 := HP.out.lt; have hq0 := HQ.out.c0; have hq1 := HQ.out.c1; have hq2 := HQ.out.c2; have hq3 := HQ.out.lt))
  have HA := Lib.hid (HA.out.below (Below.refl _ _).drew HA.out.lt)
  have HD := Lib.hid (HD.out.below (Below.refl _ _).drew HD.out.lt)
  have HP := Lib.hid (HP.out.below (Below.refl _ _).drew HP.out.lt)
  have HQ := Lib.hid (HQ.out.below (Below.refl _ _).drew HQ.out.lt)
  have HB := Lib.hid HB.out.drew
  go_region_held (fun w' => w'.cell? ⟨w.heap.size, 0, none⟩ = some (.int .i64 a1) ∧ w'.cell? ⟨w.heap.size, 1, none⟩ = some (.int .i64 a2) ∧ w'.cell? ⟨w.heap.size, 2, none⟩ = some (.int .i64 a3) ∧ w'.cell? ⟨w.heap.size + 1, 0, none⟩ = some (.int .i64 b1) ∧ w'.cell? ⟨w.heap.size + 1, 1, none⟩ = some (.int .i64 b2) ∧ w'.cell? ⟨w.heap.size + 1, 2, none⟩ = some (.int .i64 b3)) (exact ⟨HA.out.c0, HA.out.c1, HA.out.c2, HD.out.c0, HD.out.c1, HD.out.c2⟩) (first
    | (go_at_call 15; (with_reducible refine ((HCab _).out).mono ?_); rintro e w7 ⟨rfl, hb⟩; have HA := Lib.hid (HA.out.below hb HA.out.lt); have HD := Lib.hid (HD.out.below hb HD.out.lt); have HP := Lib.hid (HP.out.below hb HP.out.lt); have HQ := Lib.hid (HQ.out.below hb HQ.out.lt); have HB := Lib.hid (HB.out.trans (hb.mono HB.out.size)); clear hb)
    | (go_at_call 15; (with_reducible refine ((HCba _).out).mono ?_); rintro e w7 ⟨rfl, hb⟩; have HA := Lib.hid (HA.out.below hb HA.out.lt); have HD := Lib.hid (HD.out.below hb HD.out.lt); have HP := Lib.hid (HP.out.below hb HP.out.lt); have HQ := Lib.hid (HQ.out.below hb HQ.out.lt); have HB := Lib.hid (HB.out.trans (hb.mono HB.out.size)); clear hb))
  go_upto_region 14 with (first
    | (go_at_call 17; (with_reducible refine ((HL _).out).mono ?_); rintro e w8 ⟨rfl, hb⟩; have HA := Lib.hid ((HA.out.below hb HA.out.lt).alloc (sobj ⟨x1, x2, x3⟩)); have HD := Lib.hid ((HD.out.below hb HD.out.lt).alloc (sobj ⟨x1, x2, x3⟩)); have HX2 := Lib.hid (at_new w8 ⟨x1, x2, x3⟩); have HB := Lib.hid ((HB.out.trans (hb.mono HB.out.size)).alloc (Nat.le_trans HB.out.size hb.size) (sobj ⟨x1, x2, x3⟩)); clear hb; have ha0 := HA.out.c0; have ha1 := HA.out.c1; have ha2 := HA.out.c2; have ha3 := HA.out.lt; have hd0 := HD.out.c0; have hd1 := HD.out.c1; have hd2 := HD.out.c2; have hd3 := HD.out.lt; have hx20 := HX2.out.c0; have hx21 := HX2.out.c1; have hx22 := HX2.out.c2; have hx23 := HX2.out.lt))
  go_wp2_with (first
    | (go_at_call 10; (with_reducible refine (first_any _ (HT.out.below HB.out).pow).mono ?_); rintro e w9 ⟨rfl, hb⟩; have HA := Lib.hid (HA.out.below hb HA.out.lt); have HD := Lib.hid (HD.out.below hb HD.out.lt); have HX2 := Lib.hid (HX2.out.below hb HX2.out.lt); have HB := Lib.hid (HB.out.trans (hb.mono HB.out.size)); clear hb; have ha0 := HA.out.c0; have ha1 := HA.out.c1; have ha2 := HA.out.c2; have ha3 := HA.out.lt; have hd0 := HD.out.c0; have hd1 := HD.out.c1; have hd2 := HD.out.c2; have hd3 := HD.out.lt; have hx20 := HX2.out.c0; have hx21 := HX2.out.c1; have hx22 := HX2.out.c2; have hx23 := HX2.out.lt)
    | (go_at_call 15; (with_reducible refine ((HCxa _).out).mono ?_); rintro e w9 ⟨rfl, hb⟩; have HA := Lib.hid (HA.out.below hb HA.out.lt); have HD := Lib.hid (HD.out.below hb HD.out.lt); have HX2 := Lib.hid (HX2.out.below hb HX2.out.lt); have HB := Lib.hid (HB.out.trans (hb.mono HB.out.size)); clear hb; have ha0 := HA.out.c0; have ha1 := HA.out.c1; have ha2 := HA.out.c2; have ha3 := HA.out.lt; have hd0 := HD.out.c0; have hd1 := HD.out.c1; have hd2 := HD.out.c2; have hd3 := HD.out.lt; have hx20 := HX2.out.c0; have hx21 := HX2.out.c1; have hx22 := HX2.out.c2; have hx23 := HX2.out.lt)
    | (go_at_call 15; (with_reducible refine ((HCxb _).out).mono ?_); rintro e w9 ⟨rfl, hb⟩; have HA := Lib.hid (HA.out.below hb HA.out.lt); have HD := Lib.hid (HD.out.below hb HD.out.lt); have HX2 := Lib.hid (HX2.out.below hb HX2.out.lt); have HB := Lib.hid (HB.out.trans (hb.mono HB.out.size)); clear hb; have ha0 := HA.out.c0; have ha1 := HA.out.c1; have ha2 := HA.out.c2; have ha3 := HA.out.lt; have hd0 := HD.out.c0; have hd1 := HD.out.c1; have hd2 := HD.out.c2; have hd3 := HD.out.lt; have hx20 := HX2.out.c0; have hx21 := HX2.out.c1; have hx22 := HX2.out.c2; have hx23 := HX2.out.lt))
  go_ret
  exact ⟨rfl, HB.out⟩
set_option maxRecDepth 100000 in
set_option maxHeartbeats 20000000 in
theorem next_C31e (w : World) (a b : St) (ua : a.wf) (hT : Tabs w) (hma : mayS a = true) (hz : a ≠ St.zero) (hmb : mayS b = true) (hpb : cmpS (priorS a).1 b < 0) (hx : laterS a b = a) (hab : a = b) : Calls Tryd.prog 7 #[sagg a, sagg b] w fun e w' => e = .returned (.bool true) ∧ Below w.heap.size w w' := by
  have HT := Lib.hid hT
  have HA := Lib.hid (at_two w a b).1
  have HD := Lib.hid (at_two w a b).2
  have HB := Lib.hid (below2 w (sobj a) (sobj b))
  have hok : (priorS a).2 = true := by rw [prior_ok, hma]; rw [decide_eq_false hz]; rfl
  have hpl := prior_lt hok
  have hnx := prior_next hok hmb hpb
  have hlen : (printS a).length ≤ 1000000 := by
    have h1 := decV_le a.w ua.1.1 ua.1.2
    have h2 := decV_le a.l ua.2.1.1 ua.2.1.2
    have h3 := decV_le a.n ua.2.2.1 ua.2.2.2
    unfold printS
    simp only [List.length_append, List.length_cons, List.length_nil]
    omega
  have hli := later_is a b
  have hcn := cmpS_neg a b
  have hcz := cmpS_zero a b
  have hcl := cmpS_le b a
  have hpr : parseS (printS a) = (a, 0) := (parse_is (printS a)).one (.inl ⟨hma, rfl, rfl⟩)
  have HP1 := fun w => Lib.hid (prior_any a w)
  have HMa := fun w => Lib.hid (may_any a w)
  have HMb := fun w => Lib.hid (may_any b w)
  have HMp := fun w => Lib.hid (may_any (priorS a).1 w)
  have HCpa := fun w => Lib.hid (compare_any (priorS a).1 a w)
  have HCpb := fun w => Lib.hid (compare_any (priorS a).1 b w)
  have HCba := fun w => Lib.hid (compare_any b a w)
  have HCab := fun w => Lib.hid (compare_any a b w)
  have HX := fun w h => Lib.hid (print_any a ua w h)
  have HR := fun w h => Lib.hid (parse_any w h (printS a) hlen)
  have HL := fun w => Lib.hid (later_any a b w)
  have HCxa := fun w => Lib.hid (compare_any (laterS a b) a w)
  have HCxb := fun w => Lib.hid (compare_any (laterS a b) b w)
  have EAB := fun w => eq_ite a.w a.l a.n b.w b.l b.n w
  have EXa := fun w => eq_ite (laterS a b).w (laterS a b).l (laterS a b).n a.w a.l a.n w
  have EXb := fun w => eq_ite (laterS a b).w (laterS a b).l (laterS a b).n b.w b.l b.n w
  rw [hpr] at HR
  rw [hma] at HMa
  rw [hok] at HP1
  have EZ := fun w => eq_ite a.w a.l a.n 0 0 0 w
  rw [decide_eq_false (show ¬ ((⟨a.w, a.l, a.n⟩ : St) = ⟨0, 0, 0⟩) from hz)] at EZ
  rw [hpl.2] at HMp
  rw [hmb] at HMb
  have d1 : decide ((0 : Int) ≤ cmpS (priorS a).1 a) = false := decide_eq_false (by have := hpl.1; omega)
  have d2 : decide (cmpS (priorS a).1 b < 0) = true := decide_eq_true hpb
  have d3 : decide (cmpS b a < 0) = false := decide_eq_false hnx
  have d4 : decide ((0 : Int) ≤ cmpS (laterS a b) a) = true := decide_eq_true hli.2.1
  have d5 : decide ((0 : Int) ≤ cmpS (laterS a b) b) = true := decide_eq_true hli.2.2
  have d6 : (cmpS a b == -cmpS b a) = true := by rw [← hcn]; exact beq_self_eq_true _
  have d7 : (cmpS a b == 0) = decide (a = b) := by
    by_cases h : a = b
    · rw [decide_eq_true h, hcz.2 h]; rfl
    · rw [decide_eq_false h]; simpa using fun e => h (hcz.1 e)
  have d8 : IntKind.i64.wrap (-cmpS b a) = -cmpS b a := by rw [wrap_in (by omega)]
  rw [decide_eq_true (show ((⟨(laterS a b).w, (laterS a b).l, (laterS a b).n⟩ : St) = ⟨a.w, a.l, a.n⟩) from hx)] at EXa
  rw [decide_eq_true (show ((⟨a.w, a.l, a.n⟩ : St) = ⟨b.w, b.l, b.n⟩) from hab)] at EAB
  rw [decide_eq_true hab] at d7
  generalize cmpS (priorS a).1 a = cpa at *
  generalize cmpS (priorS a).1 b = cpb at *
  generalize cmpS (laterS a b) a = cxa at *
  generalize cmpS (laterS a b) b = cxb at *
  generalize cmpS a b = cab at *
  generalize cmpS b a = cba at *
  clear hab hli hcn hcz hcl hpr hlen hok hma hT ua hx hpl hmb hnx hpb hz
  generalize laterS a b = X at *
  generalize (priorS a).1 = P at *
  generalize printS a = T at *
  obtain ⟨p1, p2, p3⟩ := P
  obtain ⟨x1, x2, x3⟩ := X
  obtain ⟨a1, a2, a3⟩ := a
  obtain ⟨b1, b2, b3⟩ := b
  go_enter Tryd.func7, Tryd.ntmps7
  go_upto_region 4 with (first
    | (go_at_call 10; (with_reducible refine (first_any _ (HT.out.below HB.out).pow).mono ?_); rintro e w1 ⟨rfl, hb⟩; have HA := Lib.hid (HA.out.below hb HA.out.lt); have HD := Lib.hid (HD.out.below hb HD.out.lt); have HB := Lib.hid (HB.out.trans (hb.mono HB.out.size)); clear hb; have ha0 := HA.out.c0; have ha1 := HA.out.c1; have ha2 := HA.out.c2; have ha3 := HA.out.lt; have hd0 := HD.out.c0; have hd1 := HD.out.c1; have hd2 := HD.out.c2; have hd3 := HD.out.lt)
    | (go_at_call 11; (with_reducible refine ((HP1 _).out).mono ?_); rintro e w2 ⟨rfl, hb⟩; have HA := Lib.hid ((HA.out.below hb HA.out.lt).alloc (sobj ⟨p1, p2, p3⟩)); have HD := Lib.hid ((HD.out.below hb HD.out.lt).alloc (sobj ⟨p1, p2, p3⟩)); have HP := Lib.hid (at_new w2 ⟨p1, p2, p3⟩); have HB := Lib.hid ((HB.out.trans (hb.mono HB.out.size)).alloc (Nat.le_trans HB.out.size hb.size) (sobj ⟨p1, p2, p3⟩)); clear hb; have ha0 := HA.out.c0; have ha1 := HA.out.c1; have ha2 := HA.out.c2; have ha3 := HA.out.lt; have hd0 := HD.out.c0; have hd1 := HD.out.c1; have hd2 := HD.out.c2; have hd3 := HD.out.lt; have hp0 := HP.out.c0; have hp1 := HP.out.c1; have hp2 := HP.out.c2; have hp3 := HP.out.lt))
  go_upto_region 11 with (first
    | (go_at_call 13; (with_reducible refine ((HMa _).out).mono ?_); rintro e w3 ⟨rfl, hb⟩; have HA := Lib.hid (HA.out.below hb HA.out.lt); have HD := Lib.hid (HD.out.below hb HD.out.lt); have HP := Lib.hid (HP.out.below hb HP.out.lt); have HB := Lib.hid (HB.out.trans (hb.mono HB.out.size)); clear hb; have ha0 := HA.out.c0; have ha1 := HA.out.c1; have ha2 := HA.out.c2; have ha3 := HA.out.lt; have hd0 := HD.out.c0; have hd1 := HD.out.c1; have hd2 := HD.out.c2; have hd3 := HD.out.lt; have hp0 := HP.out.c0; have hp1 := HP.out.c1; have hp2 := HP.out.c2; have hp3 := HP.out.lt)
    | (go_at_call 13; (with_reducible refine ((HMb _).out).mono ?_); rintro e w3 ⟨rfl, hb⟩; have HA := Lib.hid (HA.out.below hb HA.out.lt); have HD := Lib.hid (HD.out.below hb HD.out.lt); have HP := Lib.hid (HP.out.below hb HP.out.lt); have HB := Lib.hid (HB.out.trans (hb.mono HB.out.size)); clear hb; have ha0 := HA.out.c0; have ha1 := HA.out.c1; have ha2 := HA.out.c2; have ha3 := HA.out.lt; have hd0 := HD.out.c0; have hd1 := HD.out.c1; have hd2 := HD.out.c2; have hd3 := HD.out.lt; have hp0 := HP.out.c0; have hp1 := HP.out.c1; have hp2 := HP.out.c2; have hp3 := HP.out.lt)
    | (go_at_call 13; (with_reducible refine ((HMp _).out).mono ?_); rintro e w3 ⟨rfl, hb⟩; have HA := Lib.hid (HA.out.below hb HA.out.lt); have HD := Lib.hid (HD.out.below hb HD.out.lt); have HP := Lib.hid (HP.out.below hb HP.out.lt); have HB := Lib.hid (HB.out.trans (hb.mono HB.out.size)); clear hb; have ha0 := HA.out.c0; have ha1 := HA.out.c1; have ha2 := HA.out.c2; have ha3 := HA.out.lt; have hd0 := HD.out.c0; have hd1 := HD.out.c1; have hd2 := HD.out.c2; have hd3 := HD.out.lt; have hp0 := HP.out.c0; have hp1 := HP.out.c1; have hp2 := HP.out.c2; have hp3 := HP.out.lt)
    | (go_at_call 15; (with_reducible refine ((HCpa _).out).mono ?_); rintro e w3 ⟨rfl, hb⟩; have HA := Lib.hid (HA.out.below hb HA.out.lt); have HD := Lib.hid (HD.out.below hb HD.out.lt); have HP := Lib.hid (HP.out.below hb HP.out.lt); have HB := Lib.hid (HB.out.trans (hb.mono HB.out.size)); clear hb; have ha0 := HA.out.c0; have ha1 := HA.out.c1; have ha2 := HA.out.c2; have ha3 := HA.out.lt; have hd0 := HD.out.c0; have hd1 := HD.out.c1; have hd2 := HD.out.c2; have hd3 := HD.out.lt; have hp0 := HP.out.c0; have hp1 := HP.out.c1; have hp2 := HP.out.c2; have hp3 := HP.out.lt)
    | (go_at_call 15; (with_reducible refine ((HCpb _).out).mono ?_); rintro e w3 ⟨rfl, hb⟩; have HA := Lib.hid (HA.out.below hb HA.out.lt); have HD := Lib.hid (HD.out.below hb HD.out.lt); have HP := Lib.hid (HP.out.below hb HP.out.lt); have HB := Lib.hid (HB.out.trans (hb.mono HB.out.size)); clear hb; have ha0 := HA.out.c0; have ha1 := HA.out.c1; have ha2 := HA.out.c2; have ha3 := HA.out.lt; have hd0 := HD.out.c0; have hd1 := HD.out.c1; have hd2 := HD.out.c2; have hd3 := HD.out.lt; have hp0 := HP.out.c0; have hp1 := HP.out.c1; have hp2 := HP.out.c2; have hp3 := HP.out.lt)
    | (go_at_call 15; (with_reducible refine ((HCba _).out).mono ?_); rintro e w3 ⟨rfl, hb⟩; have HA := Lib.hid (HA.out.below hb HA.out.lt); have HD := Lib.hid (HD.out.below hb HD.out.lt); have HP := Lib.hid (HP.out.below hb HP.out.lt); have HB := Lib.hid (HB.out.trans (hb.mono HB.out.size)); clear hb; have ha0 := HA.out.c0; have ha1 := HA.out.c1; have ha2 := HA.out.c2; have ha3 := HA.out.lt; have hd0 := HD.out.c0; have hd1 := HD.out.c1; have hd2 := HD.out.c2; have hd3 := HD.out.lt; have hp0 := HP.out.c0; have hp1 := HP.out.c1; have hp2 := HP.out.c2; have hp3 := HP.out.lt)
    | (go_at_call 19; (with_reducible refine ((HX _ (HT.out.below HB.out).pow).out).mono ?_); rintro e w4 ⟨rfl, hb⟩; have HA := Lib.hid (HA.out.below hb HA.out.lt); have HD := Lib.hid (HD.out.below hb HD.out.lt); have HP := Lib.hid (HP.out.below hb HP.out.lt); have HB := Lib.hid (HB.out.trans (hb.mono HB.out.size)); clear hb; have ha0 := HA.out.c0; have ha1 := HA.out.c1; have ha2 := HA.out.c2; have ha3 := HA.out.lt; have hd0 := HD.out.c0; have hd1 := HD.out.c1; have hd2 := HD.out.c2; have hd3 := HD.out.lt; have hp0 := HP.out.c0; have hp1 := HP.out.c1; have hp2 := HP.out.c2; have hp3 := HP.out.lt)
    | (go_at_call 21; (with_reducible refine ((HR _ (HT.out.below HB.out)).out).mono ?_); rintro e w5 ⟨rfl, hb⟩; have HA := Lib.hid ((HA.out.below hb HA.out.lt).alloc (sobj ⟨a1, a2, a3⟩)); have HD := Lib.hid ((HD.out.below hb HD.out.lt).alloc (sobj ⟨a1, a2, a3⟩)); have HP := Lib.hid ((HP.out.below hb HP.out.lt).alloc (sobj ⟨a1, a2, a3⟩)); have HQ := Lib.hid (at_new w5 ⟨a1, a2, a3⟩); have HB := Lib.hid ((HB.out.trans (hb.mono HB.out.size)).alloc (Nat.le_trans HB.out.size hb.size) (sobj ⟨a1, a2, a3⟩)); clear hb; have ha0 := HA.out.c0; have ha1 := HA.out.c1; have ha2 := HA.out.c2; have ha3 := HA.out.lt; have hd0 := HD.out.c0; have hd1 := HD.out.c1; have hd2 := HD.out.c2; have hd3 := HD.out.lt; have hp0 := HP.out.c0; have hp1 := HP.out.c1; have hp2 := HP.out.c2; have hp3 := HP.out.lt; have hq0 := HQ.out.c0; have hq1 := HQ.out.c1; have hq2 := HQ.out.c2; have hq3 := HQ.out.lt))
  go_upto_region 12 with (first
    | (go_at_call 13; (with_reducible refine ((HMa _).out).mono ?_); rintro e w6 ⟨rfl, hb⟩; have HA := Lib.hid (HA.out.below hb HA.out.lt); have HD := Lib.hid (HD.out.below hb HD.out.lt); have HP := Lib.hid (HP.out.below hb HP.out.lt); have HQ := Lib.hid (HQ.out.below hb HQ.out.lt); have HB := Lib.hid (HB.out.trans (hb.mono HB.out.size)); clear hb; have ha0 := HA.out.c0; have ha1 := HA.out.c1; have ha2 := HA.out.c2; have ha3 := HA.out.lt; have hd0 := HD.out.c0; have hd1 := HD.out.c1; have hd2 := HD.out.c2; have hd3 := HD.out.lt; have hp0 := HP.out.c0; have hp1 := HP.out.c1; have hp2 := HP.out.c2; have hp3 := HP.out.lt; have hq0 := HQ.out.c0; have hq1 := HQ.out.c1; have hq2 := HQ.out.c2; have hq3 := HQ.out.lt))
  have HA := Lib.hid (HA.out.below (Below.refl _ _).drew HA.out.lt)
  have HD := Lib.hid (HD.out.below (Below.refl _ _).drew HD.out.lt)
  have HP := Lib.hid (HP.out.below (Below.refl _ _).drew HP.out.lt)
  have HQ := Lib.hid (HQ.out.below (Below.refl _ _).drew HQ.out.lt)
  have HB := Lib.hid HB.out.drew
  go_region_held (fun w' => w'.cell? ⟨w.heap.size, 0, none⟩ = some (.int .i64 a1) ∧ w'.cell? ⟨w.heap.size, 1, none⟩ = some (.int .i64 a2) ∧ w'.cell? ⟨w.heap.size, 2, none⟩ = some (.int .i64 a3) ∧ w'.cell? ⟨w.heap.size + 1, 0, none⟩ = some (.int .i64 b1) ∧ w'.cell? ⟨w.heap.size + 1, 1, none⟩ = some (.int .i64 b2) ∧ w'.cell? ⟨w.heap.size + 1, 2, none⟩ = some (.int .i64 b3)) (exact ⟨HA.out.c0, HA.out.c1, HA.out.c2, HD.out.c0, HD.out.c1, HD.out.c2⟩) (first
    | (go_at_call 15; (with_reducible refine ((HCab _).out).mono ?_); rintro e w7 ⟨rfl, hb⟩; have HA := Lib.hid (HA.out.below hb HA.out.lt); have HD := Lib.hid (HD.out.below hb HD.out.lt); have HP := Lib.hid (HP.out.below hb HP.out.lt); have HQ := Lib.hid (HQ.out.below hb HQ.out.lt); have HB := Lib.hid (HB.out.trans (hb.mono HB.out.size)); clear hb)
    | (go_at_call 15; (with_reducible refine ((HCba _).out).mono ?_); rintro e w7 ⟨rfl, hb⟩; have HA := Lib.hid (HA.out.below hb HA.out.lt); have HD := Lib.hid (HD.out.below hb HD.out.lt); have HP := Lib.hid (HP.out.below hb HP.out.lt); have HQ := Lib.hid (HQ.out.below hb HQ.out.lt); have HB := Lib.hid (HB.out.trans (hb.mono HB.out.size)); clear hb))
  go_upto_region 14 with (first
    | (go_at_call 17; (with_reducible refine ((HL _).out).mono ?_); rintro e w8 ⟨rfl, hb⟩; have HA := Lib.hid ((HA.out.below hb HA.out.lt).alloc (sobj ⟨x1, x2, x3⟩)); have HD := Lib.hid ((HD.out.below hb HD.out.lt).alloc (sobj ⟨x1, x2, x3⟩)); have HX2 := Lib.hid (at_new w8 ⟨x1, x2, x3⟩); have HB := Lib.hid ((HB.out.trans (hb.mono HB.out.size)).alloc (Nat.le_trans HB.out.size hb.size) (sobj ⟨x1, x2, x3⟩)); clear hb; have ha0 := HA.out.c0; have ha1 := HA.out.c1; have ha2 := HA.out.c2; have ha3 := HA.out.lt; have hd0 := HD.out.c0; have hd1 := HD.out.c1; have hd2 := HD.out.c2; have hd3 := HD.out.lt; have hx20 := HX2.out.c0; have hx21 := HX2.out.c1; have hx22 := HX2.out.c2; have hx23 := HX2.out.lt))
  go_wp2_with (first
    | (go_at_call 10; (with_reducible refine (first_any _ (HT.out.below HB.out).pow).mono ?_); rintro e w9 ⟨rfl, hb⟩; have HA := Lib.hid (HA.out.below hb HA.out.lt); have HD := Lib.hid (HD.out.below hb HD.out.lt); have HX2 := Lib.hid (HX2.out.below hb HX2.out.lt); have HB := Lib.hid (HB.out.trans (hb.mono HB.out.size)); clear hb; have ha0 := HA.out.c0; have ha1 := HA.out.c1; have ha2 := HA.out.c2; have ha3 := HA.out.lt; have hd0 := HD.out.c0; have hd1 := HD.out.c1; have hd2 := HD.out.c2; have hd3 := HD.out.lt; have hx20 := HX2.out.c0; have hx21 := HX2.out.c1; have hx22 := HX2.out.c2; have hx23 := HX2.out.lt)
    | (go_at_call 15; (with_reducible refine ((HCxa _).out).mono ?_); rintro e w9 ⟨rfl, hb⟩; have HA := Lib.hid (HA.out.below hb HA.out.lt); have HD := Lib.hid (HD.out.below hb HD.out.lt); have HX2 := Lib.hid (HX2.out.below hb HX2.out.lt); have HB := Lib.hid (HB.out.trans (hb.mono HB.out.size)); clear hb; have ha0 := HA.out.c0; have ha1 := HA.out.c1; have ha2 := HA.out.c2; have ha3 := HA.out.lt; have hd0 := HD.out.c0; have hd1 := HD.out.c1; have hd2 := HD.out.c2; have hd3 := HD.out.lt; have hx20 := HX2.out.c0; have hx21 := HX2.out.c1; have hx22 := HX2.out.c2; have hx23 := HX2.out.lt)
    | (go_at_call 15; (with_reducible refine ((HCxb _).out).mono ?_); rintro e w9 ⟨rfl, hb⟩; have HA := Lib.hid (HA.out.below hb HA.out.lt); have HD := Lib.hid (HD.out.below hb HD.out.lt); have HX2 := Lib.hid (HX2.out.below hb HX2.out.lt); have HB := Lib.hid (HB.out.trans (hb.mono HB.out.size)); clear hb; have ha0 := HA.out.c0; have ha1 := HA.out.c1; have ha2 := HA.out.c2; have ha3 := HA.out.lt; have hd0 := HD.out.c0; have hd1 := HD.out.c1; have hd2 := HD.out.c2; have hd3 := HD.out.lt; have hx20 := HX2.out.c0; have hx21 := HX2.out.c1; have hx22 := HX2.out.c2; have hx23 := HX2.out.lt))
  go_ret
  exact ⟨rfl, HB.out⟩
set_option maxRecDepth 100000 in
set_option maxHeartbeats 20000000 in
theorem next_C31n (w : World) (a b : St) (ua : a.wf) (hT : Tabs w) (hma : mayS a = true) (hz : a ≠ St.zero) (hmb : mayS b = true) (hpb : cmpS (priorS a).1 b < 0) (hx : laterS a b = a) (hab : a ≠ b) : Calls Tryd.prog 7 #[sagg a, sagg b] w fun e w' => e = .returned (.bool true) ∧ Below w.heap.size w w' := by
  have HT := Lib.hid hT
  have HA := Lib.hid (at_two w a b).1
  have HD := Lib.hid (at_two w a b).2
  have HB := Lib.hid (below2 w (sobj a) (sobj b))
  have hok : (priorS a).2 = true := by rw [prior_ok, hma]; rw [decide_eq_false hz]; rfl
  have hpl := prior_lt hok
  have hnx := prior_next hok hmb hpb
  have hlen : (printS a).length ≤ 1000000 := by
    have h1 := decV_le a.w ua.1.1 ua.1.2
    have h2 := decV_le a.l ua.2.1.1 ua.2.1.2
    have h3 := decV_le a.n ua.2.2.1 ua.2.2.2
    unfold printS
    simp only [List.length_append, List.length_cons, List.length_nil]
    omega
  have hli := later_is a b
  have hcn := cmpS_neg a b
  have hcz := cmpS_zero a b
  have hcl := cmpS_le b a
  have hpr : parseS (printS a) = (a, 0) := (parse_is (printS a)).one (.inl ⟨hma, rfl, rfl⟩)
  have HP1 := fun w => Lib.hid (prior_any a w)
  have HMa := fun w => Lib.hid (may_any a w)
  have HMb := fun w => Lib.hid (may_any b w)
  have HMp := fun w => Lib.hid (may_any (priorS a).1 w)
  have HCpa := fun w => Lib.hid (compare_any (priorS a).1 a w)
  have HCpb := fun w => Lib.hid (compare_any (priorS a).1 b w)
  have HCba := fun w => Lib.hid (compare_any b a w)
  have HCab := fun w => Lib.hid (compare_any a b w)
  have HX := fun w h => Lib.hid (print_any a ua w h)
  have HR := fun w h => Lib.hid (parse_any w h (printS a) hlen)
  have HL := fun w => Lib.hid (later_any a b w)
  have HCxa := fun w => Lib.hid (compare_any (laterS a b) a w)
  have HCxb := fun w => Lib.hid (compare_any (laterS a b) b w)
  have EAB := fun w => eq_ite a.w a.l a.n b.w b.l b.n w
  have EXa := fun w => eq_ite (laterS a b).w (laterS a b).l (laterS a b).n a.w a.l a.n w
  have EXb := fun w => eq_ite (laterS a b).w (laterS a b).l (laterS a b).n b.w b.l b.n w
  rw [hpr] at HR
  rw [hma] at HMa
  rw [hok] at HP1
  have EZ := fun w => eq_ite a.w a.l a.n 0 0 0 w
  rw [decide_eq_false (show ¬ ((⟨a.w, a.l, a.n⟩ : St) = ⟨0, 0, 0⟩) from hz)] at EZ
  rw [hpl.2] at HMp
  rw [hmb] at HMb
  have d1 : decide ((0 : Int) ≤ cmpS (priorS a).1 a) = false := decide_eq_false (by have := hpl.1; omega)
  have d2 : decide (cmpS (priorS a).1 b < 0) = true := decide_eq_true hpb
  have d3 : decide (cmpS b a < 0) = false := decide_eq_false hnx
  have d4 : decide ((0 : Int) ≤ cmpS (laterS a b) a) = true := decide_eq_true hli.2.1
  have d5 : decide ((0 : Int) ≤ cmpS (laterS a b) b) = true := decide_eq_true hli.2.2
  have d6 : (cmpS a b == -cmpS b a) = true := by rw [← hcn]; exact beq_self_eq_true _
  have d7 : (cmpS a b == 0) = decide (a = b) := by
    by_cases h : a = b
    · rw [decide_eq_true h, hcz.2 h]; rfl
    · rw [decide_eq_false h]; simpa using fun e => h (hcz.1 e)
  have d8 : IntKind.i64.wrap (-cmpS b a) = -cmpS b a := by rw [wrap_in (by omega)]
  rw [decide_eq_true (show ((⟨(laterS a b).w, (laterS a b).l, (laterS a b).n⟩ : St) = ⟨a.w, a.l, a.n⟩) from hx)] at EXa
  rw [decide_eq_false (show ¬ ((⟨a.w, a.l, a.n⟩ : St) = ⟨b.w, b.l, b.n⟩) from hab)] at EAB
  rw [decide_eq_false hab] at d7
  generalize cmpS (priorS a).1 a = cpa at *
  generalize cmpS (priorS a).1 b = cpb at *
  generalize cmpS (laterS a b) a = cxa at *
  generalize cmpS (laterS a b) b = cxb at *
  generalize cmpS a b = cab at *
  generalize cmpS b a = cba at *
  clear hab hli hcn hcz hcl hpr hlen hok hma hT ua hx hpl hmb hnx hpb hz
  generalize laterS a b = X at *
  generalize (priorS a).1 = P at *
  generalize printS a = T at *
  obtain ⟨p1, p2, p3⟩ := P
  obtain ⟨x1, x2, x3⟩ := X
  obtain ⟨a1, a2, a3⟩ := a
  obtain ⟨b1, b2, b3⟩ := b
  go_enter Tryd.func7, Tryd.ntmps7
  go_upto_region 4 with (first
    | (go_at_call 10; (with_reducible refine (first_any _ (HT.out.below HB.out).pow).mono ?_); rintro e w1 ⟨rfl, hb⟩; have HA := Lib.hid (HA.out.below hb HA.out.lt); have HD := Lib.hid (HD.out.below hb HD.out.lt); have HB := Lib.hid (HB.out.trans (hb.mono HB.out.size)); clear hb; have ha0 := HA.out.c0; have ha1 := HA.out.c1; have ha2 := HA.out.c2; have ha3 := HA.out.lt; have hd0 := HD.out.c0; have hd1 := HD.out.c1; have hd2 := HD.out.c2; have hd3 := HD.out.lt)
    | (go_at_call 11; (with_reducible refine ((HP1 _).out).mono ?_); rintro e w2 ⟨rfl, hb⟩; have HA := Lib.hid ((HA.out.below hb HA.out.lt).alloc (sobj ⟨p1, p2, p3⟩)); have HD := Lib.hid ((HD.out.below hb HD.out.lt).alloc (sobj ⟨p1, p2, p3⟩)); have HP := Lib.hid (at_new w2 ⟨p1, p2, p3⟩); have HB := Lib.hid ((HB.out.trans (hb.mono HB.out.size)).alloc (Nat.le_trans HB.out.size hb.size) (sobj ⟨p1, p2, p3⟩)); clear hb; have ha0 := HA.out.c0; have ha1 := HA.out.c1; have ha2 := HA.out.c2; have ha3 := HA.out.lt; have hd0 := HD.out.c0; have hd1 := HD.out.c1; have hd2 := HD.out.c2; have hd3 := HD.out.lt; have hp0 := HP.out.c0; have hp1 := HP.out.c1; have hp2 := HP.out.c2; have hp3 := HP.out.lt))
  go_upto_region 11 with (first
    | (go_at_call 13; (with_reducible refine ((HMa _).out).mono ?_); rintro e w3 ⟨rfl, hb⟩; have HA := Lib.hid (HA.out.below hb HA.out.lt); have HD := Lib.hid (HD.out.below hb HD.out.lt); have HP := Lib.hid (HP.out.below hb HP.out.lt); have HB := Lib.hid (HB.out.trans (hb.mono HB.out.size)); clear hb; have ha0 := HA.out.c0; have ha1 := HA.out.c1; have ha2 := HA.out.c2; have ha3 := HA.out.lt; have hd0 := HD.out.c0; have hd1 := HD.out.c1; have hd2 := HD.out.c2; have hd3 := HD.out.lt; have hp0 := HP.out.c0; have hp1 := HP.out.c1; have hp2 := HP.out.c2; have hp3 := HP.out.lt)
    | (go_at_call 13; (with_reducible refine ((HMb _).out).mono ?_); rintro e w3 ⟨rfl, hb⟩; have HA := Lib.hid (HA.out.below hb HA.out.lt); have HD := Lib.hid (HD.out.below hb HD.out.lt); have HP := Lib.hid (HP.out.below hb HP.out.lt); have HB := Lib.hid (HB.out.trans (hb.mono HB.out.size)); clear hb; have ha0 := HA.out.c0; have ha1 := HA.out.c1; have ha2 := HA.out.c2; have ha3 := HA.out.lt; have hd0 := HD.out.c0; have hd1 := HD.out.c1; have hd2 := HD.out.c2; have hd3 := HD.out.lt; have hp0 := HP.out.c0; have hp1 := HP.out.c1; have hp2 := HP.out.c2; have hp3 := HP.out.lt)
    | (go_at_call 13; (with_reducible refine ((HMp _).out).mono ?_); rintro e w3 ⟨rfl, hb⟩; have HA := Lib.hid (HA.out.below hb HA.out.lt); have HD := Lib.hid (HD.out.below hb HD.out.lt); have HP := Lib.hid (HP.out.below hb HP.out.lt); have HB := Lib.hid (HB.out.trans (hb.mono HB.out.size)); clear hb; have ha0 := HA.out.c0; have ha1 := HA.out.c1; have ha2 := HA.out.c2; have ha3 := HA.out.lt; have hd0 := HD.out.c0; have hd1 := HD.out.c1; have hd2 := HD.out.c2; have hd3 := HD.out.lt; have hp0 := HP.out.c0; have hp1 := HP.out.c1; have hp2 := HP.out.c2; have hp3 := HP.out.lt)
    | (go_at_call 15; (with_reducible refine ((HCpa _).out).mono ?_); rintro e w3 ⟨rfl, hb⟩; have HA := Lib.hid (HA.out.below hb HA.out.lt); have HD := Lib.hid (HD.out.below hb HD.out.lt); have HP := Lib.hid (HP.out.below hb HP.out.lt); have HB := Lib.hid (HB.out.trans (hb.mono HB.out.size)); clear hb; have ha0 := HA.out.c0; have ha1 := HA.out.c1; have ha2 := HA.out.c2; have ha3 := HA.out.lt; have hd0 := HD.out.c0; have hd1 := HD.out.c1; have hd2 := HD.out.c2; have hd3 := HD.out.lt; have hp0 := HP.out.c0; have hp1 := HP.out.c1; have hp2 := HP.out.c2; have hp3 := HP.out.lt)
    | (go_at_call 15; (with_reducible refine ((HCpb _).out).mono ?_); rintro e w3 ⟨rfl, hb⟩; have HA := Lib.hid (HA.out.below hb HA.out.lt); have HD := Lib.hid (HD.out.below hb HD.out.lt); have HP := Lib.hid (HP.out.below hb HP.out.lt); have HB := Lib.hid (HB.out.trans (hb.mono HB.out.size)); clear hb; have ha0 := HA.out.c0; have ha1 := HA.out.c1; have ha2 := HA.out.c2; have ha3 := HA.out.lt; have hd0 := HD.out.c0; have hd1 := HD.out.c1; have hd2 := HD.out.c2; have hd3 := HD.out.lt; have hp0 := HP.out.c0; have hp1 := HP.out.c1; have hp2 := HP.out.c2; have hp3 := HP.out.lt)
    | (go_at_call 15; (with_reducible refine ((HCba _).out).mono ?_); rintro e w3 ⟨rfl, hb⟩; have HA := Lib.hid (HA.out.below hb HA.out.lt); have HD := Lib.hid (HD.out.below hb HD.out.lt); have HP := Lib.hid (HP.out.below hb HP.out.lt); have HB := Lib.hid (HB.out.trans (hb.mono HB.out.size)); clear hb; have ha0 := HA.out.c0; have ha1 := HA.out.c1; have ha2 := HA.out.c2; have ha3 := HA.out.lt; have hd0 := HD.out.c0; have hd1 := HD.out.c1; have hd2 := HD.out.c2; have hd3 := HD.out.lt; have hp0 := HP.out.c0; have hp1 := HP.out.c1; have hp2 := HP.out.c2; have hp3 := HP.out.lt)
    | (go_at_call 19; (with_reducible refine ((HX _ (HT.out.below HB.out).pow).out).mono ?_); rintro e w4 ⟨rfl, hb⟩; have HA := Lib.hid (HA.out.below hb HA.out.lt); have HD := Lib.hid (HD.out.below hb HD.out.lt); have HP := Lib.hid (HP.out.below hb HP.out.lt); have HB := Lib.hid (HB.out.trans (hb.mono HB.out.size)); clear hb; have ha0 := HA.out.c0; have ha1 := HA.out.c1; have ha2 := HA.out.c2; have ha3 := HA.out.lt; have hd0 := HD.out.c0; have hd1 := HD.out.c1; have hd2 := HD.out.c2; have hd3 := HD.out.lt; have hp0 := HP.out.c0; have hp1 := HP.out.c1; have hp2 := HP.out.c2; have hp3 := HP.out.lt)
    | (go_at_call 21; (with_reducible refine ((HR _ (HT.out.below HB.out)).out).mono ?_); rintro e w5 ⟨rfl, hb⟩; have HA := Lib.hid ((HA.out.below hb HA.out.lt).alloc (sobj ⟨a1, a2, a3⟩)); have HD := Lib.hid ((HD.out.below hb HD.out.lt).alloc (sobj ⟨a1, a2, a3⟩)); have HP := Lib.hid ((HP.out.below hb HP.out.lt).alloc (sobj ⟨a1, a2, a3⟩)); have HQ := Lib.hid (at_new w5 ⟨a1, a2, a3⟩); have HB := Lib.hid ((HB.out.trans (hb.mono HB.out.size)).alloc (Nat.le_trans HB.out.size hb.size) (sobj ⟨a1, a2, a3⟩)); clear hb; have ha0 := HA.out.c0; have ha1 := HA.out.c1; have ha2 := HA.out.c2; have ha3 := HA.out.lt; have hd0 := HD.out.c0; have hd1 := HD.out.c1; have hd2 := HD.out.c2; have hd3 := HD.out.lt; have hp0 := HP.out.c0; have hp1 := HP.out.c1; have hp2 := HP.out.c2; have hp3 := HP.out.lt; have hq0 := HQ.out.c0; have hq1 := HQ.out.c1; have hq2 := HQ.out.c2; have hq3 := HQ.out.lt))
  go_upto_region 12 with (first
    | (go_at_call 13; (with_reducible refine ((HMa _).out).mono ?_); rintro e w6 ⟨rfl, hb⟩; have HA := Lib.hid (HA.out.below hb HA.out.lt); have HD := Lib.hid (HD.out.below hb HD.out.lt); have HP := Lib.hid (HP.out.below hb HP.out.lt); have HQ := Lib.hid (HQ.out.below hb HQ.out.lt); have HB := Lib.hid (HB.out.trans (hb.mono HB.out.size)); clear hb; have ha0 := HA.out.c0; have ha1 := HA.out.c1; have ha2 := HA.out.c2; have ha3 := HA.out.lt; have hd0 := HD.out.c0; have hd1 := HD.out.c1; have hd2 := HD.out.c2; have hd3 := HD.out.lt; have hp0 := HP.out.c0; have hp1 := HP.out.c1; have hp2 := HP.out.c2; have hp3 := HP.out.lt; have hq0 := HQ.out.c0; have hq1 := HQ.out.c1; have hq2 := HQ.out.c2; have hq3 := HQ.out.lt))
  have HA := Lib.hid (HA.out.below (Below.refl _ _).drew HA.out.lt)
  have HD := Lib.hid (HD.out.below (Below.refl _ _).drew HD.out.lt)
  have HP := Lib.hid (HP.out.below (Below.refl _ _).drew HP.out.lt)
  have HQ := Lib.hid (HQ.out.below (Below.refl _ _).drew HQ.out.lt)
  have HB := Lib.hid HB.out.drew
  go_region_held (fun w' => w'.cell? ⟨w.heap.size, 0, none⟩ = some (.int .i64 a1) ∧ w'.cell? ⟨w.heap.size, 1, none⟩ = some (.int .i64 a2) ∧ w'.cell? ⟨w.heap.size, 2, none⟩ = some (.int .i64 a3) ∧ w'.cell? ⟨w.heap.size + 1, 0, none⟩ = some (.int .i64 b1) ∧ w'.cell? ⟨w.heap.size + 1, 1, none⟩ = some (.int .i64 b2) ∧ w'.cell? ⟨w.heap.size + 1, 2, none⟩ = some (.int .i64 b3)) (exact ⟨HA.out.c0, HA.out.c1, HA.out.c2, HD.out.c0, HD.out.c1, HD.out.c2⟩) (first
    | (go_at_call 15; (with_reducible refine ((HCab _).out).mono ?_); rintro e w7 ⟨rfl, hb⟩; have HA := Lib.hid (HA.out.below hb HA.out.lt); have HD := Lib.hid (HD.out.below hb HD.out.lt); have HP := Lib.hid (HP.out.below hb HP.out.lt); have HQ := Lib.hid (HQ.out.below hb HQ.out.lt); have HB := Lib.hid (HB.out.trans (hb.mono HB.out.size)); clear hb)
    | (go_at_call 15; (with_reducible refine ((HCba _).out).mono ?_); rintro e w7 ⟨rfl, hb⟩; have HA := Lib.hid (HA.out.below hb HA.out.lt); have HD := Lib.hid (HD.out.below hb HD.out.lt); have HP := Lib.hid (HP.out.below hb HP.out.lt); have HQ := Lib.hid (HQ.out.below hb HQ.out.lt); have HB := Lib.hid (HB.out.trans (hb.mono HB.out.size)); clear hb))
  go_upto_region 14 with (first
    | (go_at_call 17; (with_reducible refine ((HL _).out).mono ?_); rintro e w8 ⟨rfl, hb⟩; have HA := Lib.hid ((HA.out.below hb HA.out.lt).alloc (sobj ⟨x1, x2, x3⟩)); have HD := Lib.hid ((HD.out.below hb HD.out.lt).alloc (sobj ⟨x1, x2, x3⟩)); have HX2 := Lib.hid (at_new w8 ⟨x1, x2, x3⟩); have HB := Lib.hid ((HB.out.trans (hb.mono HB.out.size)).alloc (Nat.le_trans HB.out.size hb.size) (sobj ⟨x1, x2, x3⟩)); clear hb; have ha0 := HA.out.c0; have ha1 := HA.out.c1; have ha2 := HA.out.c2; have ha3 := HA.out.lt; have hd0 := HD.out.c0; have hd1 := HD.out.c1; have hd2 := HD.out.c2; have hd3 := HD.out.lt; have hx20 := HX2.out.c0; have hx21 := HX2.out.c1; have hx22 := HX2.out.c2; have hx23 := HX2.out.lt))
  go_wp2_with (first
    | (go_at_call 10; (with_reducible refine (first_any _ (HT.out.below HB.out).pow).mono ?_); rintro e w9 ⟨rfl, hb⟩; have HA := Lib.hid (HA.out.below hb HA.out.lt); have HD := Lib.hid (HD.out.below hb HD.out.lt); have HX2 := Lib.hid (HX2.out.below hb HX2.out.lt); have HB := Lib.hid (HB.out.trans (hb.mono HB.out.size)); clear hb; have ha0 := HA.out.c0; have ha1 := HA.out.c1; have ha2 := HA.out.c2; have ha3 := HA.out.lt; have hd0 := HD.out.c0; have hd1 := HD.out.c1; have hd2 := HD.out.c2; have hd3 := HD.out.lt; have hx20 := HX2.out.c0; have hx21 := HX2.out.c1; have hx22 := HX2.out.c2; have hx23 := HX2.out.lt)
    | (go_at_call 15; (with_reducible refine ((HCxa _).out).mono ?_); rintro e w9 ⟨rfl, hb⟩; have HA := Lib.hid (HA.out.below hb HA.out.lt); have HD := Lib.hid (HD.out.below hb HD.out.lt); have HX2 := Lib.hid (HX2.out.below hb HX2.out.lt); have HB := Lib.hid (HB.out.trans (hb.mono HB.out.size)); clear hb; have ha0 := HA.out.c0; have ha1 := HA.out.c1; have ha2 := HA.out.c2; have ha3 := HA.out.lt; have hd0 := HD.out.c0; have hd1 := HD.out.c1; have hd2 := HD.out.c2; have hd3 := HD.out.lt; have hx20 := HX2.out.c0; have hx21 := HX2.out.c1; have hx22 := HX2.out.c2; have hx23 := HX2.out.lt)
    | (go_at_call 15; (with_reducible refine ((HCxb _).out).mono ?_); rintro e w9 ⟨rfl, hb⟩; have HA := Lib.hid (HA.out.below hb HA.out.lt); have HD := Lib.hid (HD.out.below hb HD.out.lt); have HX2 := Lib.hid (HX2.out.below hb HX2.out.lt); have HB := Lib.hid (HB.out.trans (hb.mono HB.out.size)); clear hb; have ha0 := HA.out.c0; have ha1 := HA.out.c1; have ha2 := HA.out.c2; have ha3 := HA.out.lt; have hd0 := HD.out.c0; have hd1 := HD.out.c1; have hd2 := HD.out.c2; have hd3 := HD.out.lt; have hx20 := HX2.out.c0; have hx21 := HX2.out.c1; have hx22 := HX2.out.c2; have hx23 := HX2.out.lt))
  go_ret
  exact ⟨rfl, HB.out⟩
set_option maxRecDepth 100000 in
set_option maxHeartbeats 20000000 in
theorem next_C32 (w : World) (a b : St) (ua : a.wf) (hT : Tabs w) (hma : mayS a = true) (hz : a ≠ St.zero) (hmb : mayS b = true) (hpb : cmpS (priorS a).1 b < 0) (hx : laterS a b ≠ a) (hab : a ≠ b) : Calls Tryd.prog 7 #[sagg a, sagg b] w fun e w' => e = .returned (.bool true) ∧ Below w.heap.size w w' := by
  have HT := Lib.hid hT
  have HA := Lib.hid (at_two w a b).1
  have HD := Lib.hid (at_two w a b).2
  have HB := Lib.hid (below2 w (sobj a) (sobj b))
  have hok : (priorS a).2 = true := by rw [prior_ok, hma]; rw [decide_eq_false hz]; rfl
  have hpl := prior_lt hok
  have hnx := prior_next hok hmb hpb
  have hlen : (printS a).length ≤ 1000000 := by
    have h1 := decV_le a.w ua.1.1 ua.1.2
    have h2 := decV_le a.l ua.2.1.1 ua.2.1.2
    have h3 := decV_le a.n ua.2.2.1 ua.2.2.2
    unfold printS
    simp only [List.length_append, List.length_cons, List.length_nil]
    omega
  have hli := later_is a b
  have hcn := cmpS_neg a b
  have hcz := cmpS_zero a b
  have hcl := cmpS_le b a
  have hpr : parseS (printS a) = (a, 0) := (parse_is (printS a)).one (.inl ⟨hma, rfl, rfl⟩)
  have HP1 := fun w => Lib.hid (prior_any a w)
  have HMa := fun w => Lib.hid (may_any a w)
  have HMb := fun w => Lib.hid (may_any b w)
  have HMp := fun w => Lib.hid (may_any (priorS a).1 w)
  have HCpa := fun w => Lib.hid (compare_any (priorS a).1 a w)
  have HCpb := fun w => Lib.hid (compare_any (priorS a).1 b w)
  have HCba := fun w => Lib.hid (compare_any b a w)
  have HCab := fun w => Lib.hid (compare_any a b w)
  have HX := fun w h => Lib.hid (print_any a ua w h)
  have HR := fun w h => Lib.hid (parse_any w h (printS a) hlen)
  have HL := fun w => Lib.hid (later_any a b w)
  have HCxa := fun w => Lib.hid (compare_any (laterS a b) a w)
  have HCxb := fun w => Lib.hid (compare_any (laterS a b) b w)
  have EAB := fun w => eq_ite a.w a.l a.n b.w b.l b.n w
  have EXa := fun w => eq_ite (laterS a b).w (laterS a b).l (laterS a b).n a.w a.l a.n w
  have EXb := fun w => eq_ite (laterS a b).w (laterS a b).l (laterS a b).n b.w b.l b.n w
  rw [hpr] at HR
  rw [hma] at HMa
  rw [hok] at HP1
  have EZ := fun w => eq_ite a.w a.l a.n 0 0 0 w
  rw [decide_eq_false (show ¬ ((⟨a.w, a.l, a.n⟩ : St) = ⟨0, 0, 0⟩) from hz)] at EZ
  rw [hpl.2] at HMp
  rw [hmb] at HMb
  have d1 : decide ((0 : Int) ≤ cmpS (priorS a).1 a) = false := decide_eq_false (by have := hpl.1; omega)
  have d2 : decide (cmpS (priorS a).1 b < 0) = true := decide_eq_true hpb
  have d3 : decide (cmpS b a < 0) = false := decide_eq_false hnx
  have d4 : decide ((0 : Int) ≤ cmpS (laterS a b) a) = true := decide_eq_true hli.2.1
  have d5 : decide ((0 : Int) ≤ cmpS (laterS a b) b) = true := decide_eq_true hli.2.2
  have d6 : (cmpS a b == -cmpS b a) = true := by rw [← hcn]; exact beq_self_eq_true _
  have d7 : (cmpS a b == 0) = decide (a = b) := by
    by_cases h : a = b
    · rw [decide_eq_true h, hcz.2 h]; rfl
    · rw [decide_eq_false h]; simpa using fun e => h (hcz.1 e)
  have d8 : IntKind.i64.wrap (-cmpS b a) = -cmpS b a := by rw [wrap_in (by omega)]
  rw [decide_eq_false (show ¬ ((⟨(laterS a b).w, (laterS a b).l, (laterS a b).n⟩ : St) = ⟨a.w, a.l, a.n⟩) from hx)] at EXa
  rw [decide_eq_true (show ((⟨(laterS a b).w, (laterS a b).l, (laterS a b).n⟩ : St) = ⟨b.w, b.l, b.n⟩) from hli.1.resolve_left hx)] at EXb
  rw [decide_eq_false (show ¬ ((⟨a.w, a.l, a.n⟩ : St) = ⟨b.w, b.l, b.n⟩) from hab)] at EAB
  rw [decide_eq_false hab] at d7
  generalize cmpS (priorS a).1 a = cpa at *
  generalize cmpS (priorS a).1 b = cpb at *
  generalize cmpS (laterS a b) a = cxa at *
  generalize cmpS (laterS a b) b = cxb at *
  generalize cmpS a b = cab at *
  generalize cmpS b a = cba at *
  clear hab hli hcn hcz hcl hpr hlen hok hma hT ua hx hpl hmb hnx hpb hz
  generalize laterS a b = X at *
  generalize (priorS a).1 = P at *
  generalize printS a = T at *
  obtain ⟨p1, p2, p3⟩ := P
  obtain ⟨x1, x2, x3⟩ := X
  obtain ⟨a1, a2, a3⟩ := a
  obtain ⟨b1, b2, b3⟩ := b
  go_enter Tryd.func7, Tryd.ntmps7
  go_upto_region 4 with (first
    | (go_at_call 10; (with_reducible refine (first_any _ (HT.out.below HB.out).pow).mono ?_); rintro e w1 ⟨rfl, hb⟩; have HA := Lib.hid (HA.out.below hb HA.out.lt); have HD := Lib.hid (HD.out.below hb HD.out.lt); have HB := Lib.hid (HB.out.trans (hb.mono HB.out.size)); clear hb; have ha0 := HA.out.c0; have ha1 := HA.out.c1; have ha2 := HA.out.c2; have ha3 := HA.out.lt; have hd0 := HD.out.c0; have hd1 := HD.out.c1; have hd2 := HD.out.c2; have hd3 := HD.out.lt)
    | (go_at_call 11; (with_reducible refine ((HP1 _).out).mono ?_); rintro e w2 ⟨rfl, hb⟩; have HA := Lib.hid ((HA.out.below hb HA.out.lt).alloc (sobj ⟨p1, p2, p3⟩)); have HD := Lib.hid ((HD.out.below hb HD.out.lt).alloc (sobj ⟨p1, p2, p3⟩)); have HP := Lib.hid (at_new w2 ⟨p1, p2, p3⟩); have HB := Lib.hid ((HB.out.trans (hb.mono HB.out.size)).alloc (Nat.le_trans HB.out.size hb.size) (sobj ⟨p1, p2, p3⟩)); clear hb; have ha0 := HA.out.c0; have ha1 := HA.out.c1; have ha2 := HA.out.c2; have ha3 := HA.out.lt; have hd0 := HD.out.c0; have hd1 := HD.out.c1; have hd2 := HD.out.c2; have hd3 := HD.out.lt; have hp0 := HP.out.c0; have hp1 := HP.out.c1; have hp2 := HP.out.c2; have hp3 := HP.out.lt))
  go_upto_region 11 with (first
    | (go_at_call 13; (with_reducible refine ((HMa _).out).mono ?_); rintro e w3 ⟨rfl, hb⟩; have HA := Lib.hid (HA.out.below hb HA.out.lt); have HD := Lib.hid (HD.out.below hb HD.out.lt); have HP := Lib.hid (HP.out.below hb HP.out.lt); have HB := Lib.hid (HB.out.trans (hb.mono HB.out.size)); clear hb; have ha0 := HA.out.c0; have ha1 := HA.out.c1; have ha2 := HA.out.c2; have ha3 := HA.out.lt; have hd0 := HD.out.c0; have hd1 := HD.out.c1; have hd2 := HD.out.c2; have hd3 := HD.out.lt; have hp0 := HP.out.c0; have hp1 := HP.out.c1; have hp2 := HP.out.c2; have hp3 := HP.out.lt)
    | (go_at_call 13; (with_reducible refine ((HMb _).out).mono ?_); rintro e w3 ⟨rfl, hb⟩; have HA := Lib.hid (HA.out.below hb HA.out.lt); have HD := Lib.hid (HD.out.below hb HD.out.lt); have HP := Lib.hid (HP.out.below hb HP.out.lt); have HB := Lib.hid (HB.out.trans (hb.mono HB.out.size)); clear hb; have ha0 := HA.out.c0; have ha1 := HA.out.c1; have ha2 := HA.out.c2; have ha3 := HA.out.lt; have hd0 := HD.out.c0; have hd1 := HD.out.c1; have hd2 := HD.out.c2; have hd3 := HD.out.lt; have hp0 := HP.out.c0; have hp1 := HP.out.c1; have hp2 := HP.out.c2; have hp3 := HP.out.lt)
    | (go_at_call 13; (with_reducible refine ((HMp _).out).mono ?_); rintro e w3 ⟨rfl, hb⟩; have HA := Lib.hid (HA.out.below hb HA.out.lt); have HD := Lib.hid (HD.out.below hb HD.out.lt); have HP := Lib.hid (HP.out.below hb HP.out.lt); have HB := Lib.hid (HB.out.trans (hb.mono HB.out.size)); clear hb; have ha0 := HA.out.c0; have ha1 := HA.out.c1; have ha2 := HA.out.c2; have ha3 := HA.out.lt; have hd0 := HD.out.c0; have hd1 := HD.out.c1; have hd2 := HD.out.c2; have hd3 := HD.out.lt; have hp0 := HP.out.c0; have hp1 := HP.out.c1; have hp2 := HP.out.c2; have hp3 := HP.out.lt)
    | (go_at_call 15; (with_reducible refine ((HCpa _).out).mono ?_); rintro e w3 ⟨rfl, hb⟩; have HA := Lib.hid (HA.out.below hb HA.out.lt); have HD := Lib.hid (HD.out.below hb HD.out.lt); have HP := Lib.hid (HP.out.below hb HP.out.lt); have HB := Lib.hid (HB.out.trans (hb.mono HB.out.size)); clear hb; have ha0 := HA.out.c0; have ha1 := HA.out.c1; have ha2 := HA.out.c2; have ha3 := HA.out.lt; have hd0 := HD.out.c0; have hd1 := HD.out.c1; have hd2 := HD.out.c2; have hd3 := HD.out.lt; have hp0 := HP.out.c0; have hp1 := HP.out.c1; have hp2 := HP.out.c2; have hp3 := HP.out.lt)
    | (go_at_call 15; (with_reducible refine ((HCpb _).out).mono ?_); rintro e w3 ⟨rfl, hb⟩; have HA := Lib.hid (HA.out.below hb HA.out.lt); have HD := Lib.hid (HD.out.below hb HD.out.lt); have HP := Lib.hid (HP.out.below hb HP.out.lt); have HB := Lib.hid (HB.out.trans (hb.mono HB.out.size)); clear hb; have ha0 := HA.out.c0; have ha1 := HA.out.c1; have ha2 := HA.out.c2; have ha3 := HA.out.lt; have hd0 := HD.out.c0; have hd1 := HD.out.c1; have hd2 := HD.out.c2; have hd3 := HD.out.lt; have hp0 := HP.out.c0; have hp1 := HP.out.c1; have hp2 := HP.out.c2; have hp3 := HP.out.lt)
    | (go_at_call 15; (with_reducible refine ((HCba _).out).mono ?_); rintro e w3 ⟨rfl, hb⟩; have HA := Lib.hid (HA.out.below hb HA.out.lt); have HD := Lib.hid (HD.out.below hb HD.out.lt); have HP := Lib.hid (HP.out.below hb HP.out.lt); have HB := Lib.hid (HB.out.trans (hb.mono HB.out.size)); clear hb; have ha0 := HA.out.c0; have ha1 := HA.out.c1; have ha2 := HA.out.c2; have ha3 := HA.out.lt; have hd0 := HD.out.c0; have hd1 := HD.out.c1; have hd2 := HD.out.c2; have hd3 := HD.out.lt; have hp0 := HP.out.c0; have hp1 := HP.out.c1; have hp2 := HP.out.c2; have hp3 := HP.out.lt)
    | (go_at_call 19; (with_reducible refine ((HX _ (HT.out.below HB.out).pow).out).mono ?_); rintro e w4 ⟨rfl, hb⟩; have HA := Lib.hid (HA.out.below hb HA.out.lt); have HD := Lib.hid (HD.out.below hb HD.out.lt); have HP := Lib.hid (HP.out.below hb HP.out.lt); have HB := Lib.hid (HB.out.trans (hb.mono HB.out.size)); clear hb; have ha0 := HA.out.c0; have ha1 := HA.out.c1; have ha2 := HA.out.c2; have ha3 := HA.out.lt; have hd0 := HD.out.c0; have hd1 := HD.out.c1; have hd2 := HD.out.c2; have hd3 := HD.out.lt; have hp0 := HP.out.c0; have hp1 := HP.out.c1; have hp2 := HP.out.c2; have hp3 := HP.out.lt)
    | (go_at_call 21; (with_reducible refine ((HR _ (HT.out.below HB.out)).out).mono ?_); rintro e w5 ⟨rfl, hb⟩; have HA := Lib.hid ((HA.out.below hb HA.out.lt).alloc (sobj ⟨a1, a2, a3⟩)); have HD := Lib.hid ((HD.out.below hb HD.out.lt).alloc (sobj ⟨a1, a2, a3⟩)); have HP := Lib.hid ((HP.out.below hb HP.out.lt).alloc (sobj ⟨a1, a2, a3⟩)); have HQ := Lib.hid (at_new w5 ⟨a1, a2, a3⟩); have HB := Lib.hid ((HB.out.trans (hb.mono HB.out.size)).alloc (Nat.le_trans HB.out.size hb.size) (sobj ⟨a1, a2, a3⟩)); clear hb; have ha0 := HA.out.c0; have ha1 := HA.out.c1; have ha2 := HA.out.c2; have ha3 := HA.out.lt; have hd0 := HD.out.c0; have hd1 := HD.out.c1; have hd2 := HD.out.c2; have hd3 := HD.out.lt; have hp0 := HP.out.c0; have hp1 := HP.out.c1; have hp2 := HP.out.c2; have hp3 := HP.out.lt; have hq0 := HQ.out.c0; have hq1 := HQ.out.c1; have hq2 := HQ.out.c2; have hq3 := HQ.out.lt))
  go_upto_region 12 with (first
    | (go_at_call 13; (with_reducible refine ((HMa _).out).mono ?_); rintro e w6 ⟨rfl, hb⟩; have HA := Lib.hid (HA.out.below hb HA.out.lt); have HD := Lib.hid (HD.out.below hb HD.out.lt); have HP := Lib.hid (HP.out.below hb HP.out.lt); have HQ := Lib.hid (HQ.out.below hb HQ.out.lt); have HB := Lib.hid (HB.out.trans (hb.mono HB.out.size)); clear hb; have ha0 := HA.out.c0; have ha1 := HA.out.c1; have ha2 := HA.out.c2; have ha3 := HA.out.lt; have hd0 := HD.out.c0; have hd1 := HD.out.c1; have hd2 := HD.out.c2; have hd3 := HD.out.lt; have hp0 := HP.out.c0; have hp1 := HP.out.c1; have hp2 := HP.out.c2; have hp3 := HP.out.lt; have hq0 := HQ.out.c0; have hq1 := HQ.out.c1; have hq2 := HQ.out.c2; have hq3 := HQ.out.lt))
  have HA := Lib.hid (HA.out.below (Below.refl _ _).drew HA.out.lt)
  have HD := Lib.hid (HD.out.below (Below.refl _ _).drew HD.out.lt)
  have HP := Lib.hid (HP.out.below (Below.refl _ _).drew HP.out.lt)
  have HQ := Lib.hid (HQ.out.below (Below.refl _ _).drew HQ.out.lt)
  have HB := Lib.hid HB.out.drew
  go_region_held (fun w' => w'.cell? ⟨w.heap.size, 0, none⟩ = some (.int .i64 a1) ∧ w'.cell? ⟨w.heap.size, 1, none⟩ = some (.int .i64 a2) ∧ w'.cell? ⟨w.heap.size, 2, none⟩ = some (.int .i64 a3) ∧ w'.cell? ⟨w.heap.size + 1, 0, none⟩ = some (.int .i64 b1) ∧ w'.cell? ⟨w.heap.size + 1, 1, none⟩ = some (.int .i64 b2) ∧ w'.cell? ⟨w.heap.size + 1, 2, none⟩ = some (.int .i64 b3)) (exact ⟨HA.out.c0, HA.out.c1, HA.out.c2, HD.out.c0, HD.out.c1, HD.out.c2⟩) (first
    | (go_at_call 15; (with_reducible refine ((HCab _).out).mono ?_); rintro e w7 ⟨rfl, hb⟩; have HA := Lib.hid (HA.out.below hb HA.out.lt); have HD := Lib.hid (HD.out.below hb HD.out.lt); have HP := Lib.hid (HP.out.below hb HP.out.lt); have HQ := Lib.hid (HQ.out.below hb HQ.out.lt); have HB := Lib.hid (HB.out.trans (hb.mono HB.out.size)); clear hb)
    | (go_at_call 15; (with_reducible refine ((HCba _).out).mono ?_); rintro e w7 ⟨rfl, hb⟩; have HA := Lib.hid (HA.out.below hb HA.out.lt); have HD := Lib.hid (HD.out.below hb HD.out.lt); have HP := Lib.hid (HP.out.below hb HP.out.lt); have HQ := Lib.hid (HQ.out.below hb HQ.out.lt); have HB := Lib.hid (HB.out.trans (hb.mono HB.out.size)); clear hb))
  go_upto_region 14 with (first
    | (go_at_call 17; (with_reducible refine ((HL _).out).mono ?_); rintro e w8 ⟨rfl, hb⟩; have HA := Lib.hid ((HA.out.below hb HA.out.lt).alloc (sobj ⟨x1, x2, x3⟩)); have HD := Lib.hid ((HD.out.below hb HD.out.lt).alloc (sobj ⟨x1, x2, x3⟩)); have HX2 := Lib.hid (at_new w8 ⟨x1, x2, x3⟩); have HB := Lib.hid ((HB.out.trans (hb.mono HB.out.size)).alloc (Nat.le_trans HB.out.size hb.size) (sobj ⟨x1, x2, x3⟩)); clear hb; have ha0 := HA.out.c0; have ha1 := HA.out.c1; have ha2 := HA.out.c2; have ha3 := HA.out.lt; have hd0 := HD.out.c0; have hd1 := HD.out.c1; have hd2 := HD.out.c2; have hd3 := HD.out.lt; have hx20 := HX2.out.c0; have hx21 := HX2.out.c1; have hx22 := HX2.out.c2; have hx23 := HX2.out.lt))
  go_wp2_with (first
    | (go_at_call 10; (with_reducible refine (first_any _ (HT.out.below HB.out).pow).mono ?_); rintro e w9 ⟨rfl, hb⟩; have HA := Lib.hid (HA.out.below hb HA.out.lt); have HD := Lib.hid (HD.out.below hb HD.out.lt); have HX2 := Lib.hid (HX2.out.below hb HX2.out.lt); have HB := Lib.hid (HB.out.trans (hb.mono HB.out.size)); clear hb; have ha0 := HA.out.c0; have ha1 := HA.out.c1; have ha2 := HA.out.c2; have ha3 := HA.out.lt; have hd0 := HD.out.c0; have hd1 := HD.out.c1; have hd2 := HD.out.c2; have hd3 := HD.out.lt; have hx20 := HX2.out.c0; have hx21 := HX2.out.c1; have hx22 := HX2.out.c2; have hx23 := HX2.out.lt)
    | (go_at_call 15; (with_reducible refine ((HCxa _).out).mono ?_); rintro e w9 ⟨rfl, hb⟩; have HA := Lib.hid (HA.out.below hb HA.out.lt); have HD := Lib.hid (HD.out.below hb HD.out.lt); have HX2 := Lib.hid (HX2.out.below hb HX2.out.lt); have HB := Lib.hid (HB.out.trans (hb.mono HB.out.size)); clear hb; have ha0 := HA.out.c0; have ha1 := HA.out.c1; have ha2 := HA.out.c2; have ha3 := HA.out.lt; have hd0 := HD.out.c0; have hd1 := HD.out.c1; have hd2 := HD.out.c2; have hd3 := HD.out.lt; have hx20 := HX2.out.c0; have hx21 := HX2.out.c1; have hx22 := HX2.out.c2; have hx23 := HX2.out.lt)
    | (go_at_call 15; (with_reducible refine ((HCxb _).out).mono ?_); rintro e w9 ⟨rfl, hb⟩; have HA := Lib.hid (HA.out.below hb HA.out.lt); have HD := Lib.hid (HD.out.below hb HD.out.lt); have HX2 := Lib.hid (HX2.out.below hb HX2.out.lt); have HB := Lib.hid (HB.out.trans (hb.mono HB.out.size)); clear hb; have ha0 := HA.out.c0; have ha1 := HA.out.c1; have ha2 := HA.out.c2; have ha3 := HA.out.lt; have hd0 := HD.out.c0; have hd1 := HD.out.c1; have hd2 := HD.out.c2; have hd3 := HD.out.lt; have hx20 := HX2.out.c0; have hx21 := HX2.out.c1; have hx22 := HX2.out.c2; have hx23 := HX2.out.lt))
  go_ret
  exact ⟨rfl, HB.out⟩
theorem hlcNext_walk (W : World) (a : St) (ua : a.wf) (b : St) (_ : b.wf) (hT : Tabs W) : Calls Tryd.prog 7 #[sagg a, sagg b] W fun e w' => e = .returned (.bool true) ∧ Below W.heap.size W w' := by
  cases hma : mayS a
  · by_cases hab : a = b
    · have hx : laterS a b = a := by rcases (later_is a b).1 with h | h; exact h; exact h.trans hab.symm
      exact next_A1e W a b ua hT hma hx hab
    by_cases hx : laterS a b = a
    · exact next_A1n W a b ua hT hma hx hab
    · exact next_A2 W a b ua hT hma hx hab
  by_cases hz : a = St.zero
  · by_cases hab : a = b
    · have hx : laterS a b = a := by rcases (later_is a b).1 with h | h; exact h; exact h.trans hab.symm
      exact next_B1e W a b ua hT hz hx hab
    by_cases hx : laterS a b = a
    · exact next_B1n W a b ua hT hz hx hab
    · exact next_B2 W a b ua hT hz hx hab
  cases hmb : mayS b
  · by_cases hab : a = b
    · have hx : laterS a b = a := by rcases (later_is a b).1 with h | h; exact h; exact h.trans hab.symm
      exact next_C11e W a b ua hT hma hz hmb hx hab
    by_cases hx : laterS a b = a
    · exact next_C11n W a b ua hT hma hz hmb hx hab
    · exact next_C12 W a b ua hT hma hz hmb hx hab
  by_cases hpb : cmpS (priorS a).1 b < 0
  · by_cases hab : a = b
    · have hx : laterS a b = a := by rcases (later_is a b).1 with h | h; exact h; exact h.trans hab.symm
      exact next_C31e W a b ua hT hma hz hmb hpb hx hab
    by_cases hx : laterS a b = a
    · exact next_C31n W a b ua hT hma hz hmb hpb hx hab
    · exact next_C32 W a b ua hT hma hz hmb hpb hx hab
  by_cases hab : a = b
  · have hx : laterS a b = a := by rcases (later_is a b).1 with h | h; exact h; exact h.trans hab.symm
    exact next_C21e W a b ua hT hma hz hmb hpb hx hab
  by_cases hx : laterS a b = a
  · exact next_C21n W a b ua hT hma hz hmb hpb hx hab
  · exact next_C22 W a b ua hT hma hz hmb hpb hx hab

set_option maxRecDepth 100000 in
theorem hlcNext_lifted (os : Os) (started : os.Started) (H : Type) (enc : TypeId × Value → H) :
    ReturnsInHanded {} Tryd.checked os 7 .any (fun w args => (Rows.hlcNextSpec.pre enc Tryd.prog Tryd.f7 [] false w args ∧ laidMetH Tryd.prog laid5 w) ∧ sizedMet enc Tryd.prog Tryd.f7 (OpenSpec.ofChange Rows.hlcNextSpec) false w args)
      (Rows.hlcNextSpec.post enc Tryd.prog Tryd.f7 false true false false) := by
  refine returnsInHanded_of_change_and (C := Tryd.checked) (X := fun w _ => laidMetH Tryd.prog laid5 w) (fun _ _ _ hh h => h.of_heap hh) own started (by kernel_rfl) Tryd.func7
    (ChangeSpec.witness_shaped (enc := enc) (C := Tryd.checked) (os := os) (X := fun w _ => laidMetH Tryd.prog laid5 w) false (World.doorLaid Tryd.prog 400 os) #[.agg #[.int .i64 0, .int .i64 0, .int .i64 0], .agg #[.int .i64 0, .int .i64 0, .int .i64 0]] 8 rfl (World.shaped_of_RefB (by kernel_rfl) (by kernel_rfl)) (by kernel_rfl) (by kernel_rfl) (by kernel_rfl) (door_met5 os _)) ?_
  intro W base args ds gs before hval0 hW _ _ hL _
  have hval : ∀ (j : Nat) t v, Tryd.f7.params[j]? = some t → args[j]? = some v → Value.okWide Tryd.prog W .any base t v := hval0
  have hW' := hW
  obtain ⟨p, q, hA0, hV, rfl, hfz, hnd⟩ := hW
  have hA : DataW.TrodAll enc Tryd.prog W 0 (fun _ => true) true Tryd.f7.params.toList args.toList ds p := hA0
  rw [Tryd.params7] at hA hval
  obtain ⟨v0, v1, d0, d1, p0, p1, rfl, rfl, rfl, h0, h1⟩ := trodAll_two hA
  obtain ⟨rfl, rfl⟩ := trodVars_none hV
  clear hA0 hval0
  simp only [List.append_nil] at hW'
  have hlt : ∀ x ∈ p0 ++ p1, x.block < W.heap.size := fun x hx => hW'.lt x (by simpa using hx)
  have hT := tabs_of_laid hL
  have k0 := h0
  obtain ⟨x0, rfl, rfl, u0⟩ := open_stamp (hval 0 23 v0 rfl rfl) h0
  have k1 := h1
  obtain ⟨x1, rfl, rfl, u1⟩ := open_stamp (hval 1 23 v1 rfl rfl) h1
  refine Calls.mono (?walk : Calls _ _ _ _ fun e w' => e = .returned (.bool true) ∧ Below W.heap.size W w') fun e W' ⟨he, hw⟩ => ?_
  case walk =>
    exact hlcNext_walk W x0 u0 x1 u1 hT
  subst he
  exact ⟨_, rfl, post_of_below (pa := [] ++ []) (pv := []) hW' (fun _ _ _ => trodAll_mk1 (shut_bool Tryd.underlying4 _)) (fun sp hsp => trodAll_mk2 (WideElems.Trod_stays laidOutP (by kernel_rfl) (of_decide_eq_true (by kernel_rfl)) k0 (fun x hx => hw.same (hlt x (nomatch hx))) (fun x hx => hsp x (nomatch hx))) (WideElems.Trod_stays laidOutP (by kernel_rfl) (of_decide_eq_true (by kernel_rfl)) k1 (fun x hx => hw.same (hlt x (nomatch hx))) (fun x hx => hsp x (nomatch hx)))) (fun _ _ => rfl) (by simp) hw (ok_one (by kernel_rfl) rfl (okWide_bool_mk Tryd.underlying4 _))⟩
theorem hlcNext_holds : Rows.HlcNextSaid :=
  OpenClaim.holds_of_wide 7 Tryd.f7 rfl rfl rfl rfl rfl rfl rfl ⟨rfl, rfl, rfl, rfl, rfl⟩ rfl rfl rfl rfl rfl (by kernel_rfl) Tryd.func7 (by kernel_rfl)
    (of_decide_eq_true (by kernel_rfl)) (by unfold Func.isWrapper; first | (rw [if_pos (by decide +kernel)]; kernel_rfl) | (rw [if_neg (by decide +kernel)]; exact ⟨rfl, rfl⟩))
    (fun os started H enc _ => hlcNext_lifted os started H enc)
/-- THE TIED CARD. -/
theorem hlcNext_card : Rows.HlcNextCardSaid :=
  Claim7.holds_tied_plain_at .later [] [.data, .data, .data, .sentinel, .sentinel] true (true, "55d94c96041e578d324afd5bc41b6edf1ded3878fc07ea6770ba733d434b73f6") true
    hlcNext_holds (fun _ h => by cases h) (by kernel_rfl) (fun _ h => by cases h) hlcNext_row_tie rfl ⟨rfl, rfl⟩ (by kernel_rfl) rfl
    (fun f fn hf hfn => by
      obtain rfl : f = 7 := Option.some.inj ((show Tryd.prog.funcNamed "headrace/racelaw8.HlcNext" = some 7 by kernel_rfl).symm.trans hf) |>.symm
      obtain rfl : fn = Tryd.f7 := (Option.some.inj (Tryd.func7.symm.trans hfn)).symm
      exact ⟨by kernel_rfl, fun j t ht => by
        rw [Tryd.params7] at ht
        have hm : t ∈ [23, 23] := by simpa using Array.mem_of_getElem? ht
        have hall : ([23, 23].all fun u => !Tryd.prog.wantsStandIn u) = true := by kernel_rfl
        exact (show Tryd.prog.wantsStandIn t = false by simpa using List.all_eq_true.1 hall t hm)⟩)
    (by kernel_rfl)
#print axioms hlcNext_card
end Go.Proofs.YtmpokhjchbaleaaDoor
