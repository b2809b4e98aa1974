/- Stamps that are observed in whatever order leave one clock: racelaw8.HlcOrders answers true and leaves its arguments as they were. Conditions: the library's table holds what its initialiser lays. -/
import Derived.Test.YtmpokhjchbaleaaDoorG
import Derived.Deep.Cut
namespace Go.Proofs.YtmpokhjchbaleaaDoor
open Go.ChangeShapes Go.WideShapes Go.ChangeAt Go.RowKit
set_option maxRecDepth 100000 in
set_option maxHeartbeats 8000000 in
theorem orders_none (w : World) (n : Int) (f : St) (v : Value) (hT : Pow w) (r : Int) (hn : newS n f = (none, r)) (hr : r ≠ 0) : Calls Tryd.prog 9 #[.int .i64 n, sagg f, v] w fun e w' => e = .returned (.bool true) ∧ Below w.heap.size w w' := by
  have HT := Lib.hid hT
  have HN := fun w => Lib.hid (new_any w n f)
  rw [hn] at HN
  have HA := Lib.hid (at_new w f)
  have HW := Lib.hid (below1 w (sobj f))
  have hr' : (r != 0) = true := by simpa using hr
  have hrr : (r == r) = true := beq_self_eq_true _
  clear hT hn hr
  obtain ⟨f1, f2, f3⟩ := f
  go_enter Tryd.func9, Tryd.ntmps9
  go_wp2_with (first
    | (go_at_call 10; (with_reducible refine (first_any _ (HT.out.below HW.out)).mono ?_); rintro e w1 ⟨rfl, hb⟩; have HA := Lib.hid (HA.out.below hb HA.out.lt); have HW := Lib.hid (HW.out.trans (hb.mono HW.out.size)); have a0 := HA.out.c0; have a1 := HA.out.c1; have a2 := HA.out.c2; clear hb)
    | (go_at_call 23; (with_reducible refine (HN _).out.mono ?_); rintro e w2 ⟨⟨v, rfl, rfl⟩, hb⟩; have HA := Lib.hid (HA.out.below hb HA.out.lt); have HW := Lib.hid (HW.out.trans (hb.mono HW.out.size)); have a0 := HA.out.c0; have a1 := HA.out.c1; have a2 := HA.out.c2; clear hb))
  go_ret
  exact ⟨rfl, HW.out⟩
set_option maxRecDepth 100000 in
set_option maxHeartbeats 8000000 in
theorem orders_some (w : World) (n : Int) (f : St) (ao : Option Addr) (cap : Nat) (l : List Do) (hl : SO w.heap.size w ao l.length cap l) (hT : Pow w) (s : St) (hn : newS n f = (some s, 0)) (hs : mayS s = true) :
    Calls Tryd.prog 9 #[.int .i64 n, sagg f, .slice ao l.length cap] w fun e w' => e = .returned (.bool true) ∧ Below w.heap.size w w' := by
  have HT := Lib.hid hT
  have HN := fun w => Lib.hid (new_any w n f)
  rw [hn] at HN
  have HA := Lib.hid (at_new w f)
  have HW := Lib.hid (below1 w (sobj f))
  have HS := Lib.hid hs
  have HL := Lib.hid hl
  have hlt := hl.lt
  clear hT hn hs hl
  obtain ⟨f1, f2, f3⟩ := f
  by_cases hm : 2000 < l.length
  · have hm' : decide ((2000 : Int) < (l.length : Int)) = true := decide_eq_true (by omega)
    clear hm
    go_enter Tryd.func9, Tryd.ntmps9
    go_wp2_with (first
      | (go_at_call 10; (with_reducible refine (first_any _ (HT.out.below HW.out)).mono ?_); rintro e w1 ⟨rfl, hb⟩; have HA := Lib.hid (HA.out.below hb HA.out.lt); have HW := Lib.hid (HW.out.trans (hb.mono HW.out.size)); have a0 := HA.out.c0; have a1 := HA.out.c1; have a2 := HA.out.c2; clear hb)
      | (go_at_call 23; (with_reducible refine (HN _).out.mono ?_); rintro e w2 ⟨⟨v, rfl, k, rfl, hk, ha⟩, hb⟩; have HA := Lib.hid (HA.out.below hb HA.out.lt); have HW := Lib.hid (HW.out.trans (hb.mono HW.out.size)); have a0 := HA.out.c0; have a1 := HA.out.c1; have a2 := HA.out.c2; clear hb ha hk))
    go_ret
    exact ⟨rfl, HW.out⟩
  have hm' : decide ((2000 : Int) < (l.length : Int)) = false := decide_eq_false (by omega)
  have hm2 : l.length ≤ 2000 := by omega
  have HM := Lib.hid hm2
  clear hm hm2 hlt
  go_enter Tryd.func9, Tryd.ntmps9
  go_upto_region 4 with (first
    | (go_at_call 10; (with_reducible refine (first_any _ (HT.out.below HW.out)).mono ?_); rintro e w1 ⟨rfl, hb⟩; have HA := Lib.hid (HA.out.below hb HA.out.lt); have HW := Lib.hid (HW.out.trans (hb.mono HW.out.size)); have a0 := HA.out.c0; have a1 := HA.out.c1; have a2 := HA.out.c2; clear hb)
    | (go_at_call 23; (with_reducible refine (HN _).out.mono ?_); rintro e w2 ⟨⟨v, rfl, k, rfl, hk, ha⟩, hb⟩; have HA := Lib.hid (HA.out.below hb HA.out.lt); have HK := Lib.hid ha; have HKk := Lib.hid (Nat.le_trans HW.out.size hk); have HW := Lib.hid (HW.out.trans (hb.mono HW.out.size)); have a0 := HA.out.c0; have a1 := HA.out.c1; have a2 := HA.out.c2; clear hb ha hk))
  go_upto_region 7 with (first
    | (go_at_call 23; (with_reducible refine (HN _).out.mono ?_); rintro e w3 ⟨⟨v, rfl, j, rfl, hj, hb2⟩, hb⟩; have HJ := Lib.hid hb2; have HKJ := Lib.hid (Nat.lt_of_lt_of_le HK.out.lt hj); have HK := Lib.hid (HK.out.below hb HK.out.lt); have HW := Lib.hid (HW.out.trans (hb.mono HW.out.size)); clear hb hb2 hj))
  go_wp2
  go_loopw [11] (fun vi wr => ∃ i : Nat, vi = .int .i64 (i : Int) ∧ i ≤ l.length ∧ Hid (Below w.heap.size w wr) ∧ Hid (At wr k (obsL s (l.take i))) ∧ Hid (At wr j (obsL s (l.reverse.take i)))) (fun vi _ => l.length - (RowKit.intOf vi).toNat)
  case atStart => exact ⟨0, rfl, Nat.zero_le _, HW, HK, HJ⟩
  case round =>
    obtain ⟨i, rfl, hi, HB, H1, H2⟩ := hrel
    have HI := Lib.hid hi
    clear a0 a1 a2
    by_cases hlt : i < l.length
    · obtain ⟨m, hm1⟩ : ∃ m, m = l.length - 1 := ⟨_, rfl⟩
      obtain ⟨q, hq1⟩ : ∃ q, q = m - i := ⟨_, rfl⟩
      have hq : q < l.length := by omega
      have hw1 : IntKind.i64.wrap ((l.length : Int) - 1) = (m : Int) := by rw [wrap_in (by have := HM.out; omega)]; omega
      have hw2 : IntKind.i64.wrap ((m : Int) - (i : Int)) = (q : Int) := by rw [wrap_in (by have := HM.out; omega)]; omega
      have hw3 : IntKind.i64.wrap ((i : Int) + 1) = ((i + 1 : Nat) : Int) := by rw [wrap_in (by have := HM.out; omega)]; omega
      have HE1 := Lib.hid (obsL_take s l i hlt)
      have HE2 := Lib.hid (obsL_take s l.reverse i (by rw [List.length_reverse]; exact hlt))
      have HQ : Hid (l.reverse[i]'(by rw [List.length_reverse]; exact hlt) = l[q]) := by
        show _ = _
        rw [List.getElem_reverse]
        congr 1
        omega
      obtain ⟨b, o, rfl, hb, ho, hx1⟩ := (HL.out.below HB.out).at_ hlt
      obtain ⟨b', o', ha', hb', ho', hx2⟩ := (HL.out.below HB.out).at_ hq
      injection ha' with ha'
      injection ha' with hb1 hb2 _
      subst hb1 hb2
      clear hx1 hx2 hb'
      rw [HQ.out] at HE2
      have hi1 : (i : Int) < (l.length : Int) := by omega
      have hi2 : (q : Int) < (l.length : Int) := by omega
      have HO' := Lib.hid ho'
      have c0 := ho.c2; have c1 := ho.c3; have c2 := ho.c4
      clear hm1 hq1 ho ho' hi HQ
      have HLT := Lib.hid hlt
      generalize l[i] = x at *
      generalize l[q] = y at *
      clear hlt hq
      obtain ⟨x1, x2, ⟨x3, x4, x5⟩⟩ := x
      obtain ⟨y1, y2, ⟨y3, y4, y5⟩⟩ := y
      simp only at c0 c1 c2
      go_wp2_with (first
        | (go_at_call 29; (with_reducible refine (observe_any _ k _ H1.out ⟨x3, x4, x5⟩).mono ?_); rintro e w4 ⟨rfl, ht, h1⟩; have H1 := Lib.hid h1; have H2 := Lib.hid (H2.out.tn ht (fun e => absurd e (Nat.ne_of_gt HKJ.out))); have HB4 := Lib.hid (HB.out.trans (ht.below (B := w.heap.size) HB.out.size (fun z e => e ▸ HKk.out))); have d0 := ht.cell (p := ⟨b, o + q * 5 + 2, none⟩) HO'.out.c2 (fun e => absurd (show b = k from e) (Nat.ne_of_lt (Nat.lt_of_lt_of_le hb HKk.out))); have d1 := ht.cell (p := ⟨b, o + q * 5 + 2 + 1, none⟩) HO'.out.c3 (fun e => absurd (show b = k from e) (Nat.ne_of_lt (Nat.lt_of_lt_of_le hb HKk.out))); have d2 := ht.cell (p := ⟨b, o + q * 5 + 2 + 2, none⟩) HO'.out.c4 (fun e => absurd (show b = k from e) (Nat.ne_of_lt (Nat.lt_of_lt_of_le hb HKk.out))); clear ht h1)
        | (go_at_call 29; (with_reducible refine (observe_any _ j _ H2.out ⟨y3, y4, y5⟩).mono ?_); rintro e w5 ⟨rfl, ht, h2⟩; have H2 := Lib.hid h2; have H1 := Lib.hid (H1.out.tn ht (fun e => absurd e (Nat.ne_of_lt HKJ.out))); have HB5 := Lib.hid (HB4.out.trans (ht.below (B := w.heap.size) HB4.out.size (fun z e => e ▸ Nat.le_of_lt (Nat.lt_of_le_of_lt HKk.out HKJ.out)))); clear ht h2))
      have hlt := HLT.out
      exact ⟨⟨i + 1, congrArg (Value.int .i64) (by omega), hlt, HB5, Lib.hid (by rw [HE1.out]; exact H1.out), Lib.hid (by rw [HE2.out]; exact H2.out)⟩, by simp [RowKit.intOf]; omega⟩
    · obtain rfl : i = l.length := by omega
      have hF1 : obsL s (l.take l.length) = obsL s l := by rw [List.take_length]
      have hF2 : obsL s (l.reverse.take l.length) = obsL s l := by rw [show l.length = l.reverse.length from List.length_reverse.symm, List.take_length, obsL_rev]
      rw [hF1] at H1
      rw [hF2] at H2
      have HFM := Lib.hid (obsL_may HS.out l)
      clear hF1 hF2 hlt hi
      generalize obsL s l = F at *
      have HN1 := fun w h => Lib.hid (now_any w k F h HFM.out 0)
      have HN2 := fun w h => Lib.hid (now_any w j F h HFM.out 0)
      generalize nowS F 0 = G at *
      generalize peekS F 0 = X at *
      obtain ⟨⟨x1, x2, x3⟩, x4⟩ := X
      obtain ⟨g1, g2, g3⟩ := G
      simp only at HN1 HN2
      have q1 := q_self ⟨x1, x2, x3⟩
      have q2 := q_self ⟨g1, g2, g3⟩
      have q3 : (x4 == x4) = true := beq_self_eq_true _
      go_wp2_with (first
        | (go_at_call 25; (with_reducible refine (HN1 _ H1.out).out.mono ?_); rintro e w4 ⟨rfl, ht, h1⟩; have HJL := Lib.hid (Nat.lt_of_lt_of_le H2.out.lt ht.size); have H1 := Lib.hid (h1.alloc (sobj ⟨x1, x2, x3⟩)); have H2 := Lib.hid ((H2.out.tn ht (fun e => absurd e (Nat.ne_of_gt HKJ.out))).alloc (sobj ⟨x1, x2, x3⟩)); have HB4 := Lib.hid ((HB.out.trans (ht.below (B := w.heap.size) HB.out.size (fun z e => e ▸ HKk.out))).alloc (Nat.le_trans HB.out.size ht.size) (sobj ⟨x1, x2, x3⟩)); have HX := Lib.hid (at_new w4 ⟨x1, x2, x3⟩); clear ht h1)
        | (go_at_call 25; (with_reducible refine (HN2 _ H2.out).out.mono ?_); rintro e w5 ⟨rfl, ht, h2⟩; have H2 := Lib.hid (h2.alloc (sobj ⟨x1, x2, x3⟩)); have H1 := Lib.hid ((H1.out.tn ht (fun e => absurd e (Nat.ne_of_lt HKJ.out))).alloc (sobj ⟨x1, x2, x3⟩)); have HB5 := Lib.hid ((HB4.out.trans (ht.below (B := w.heap.size) HB4.out.size (fun z e => e ▸ Nat.le_of_lt (Nat.lt_of_le_of_lt HKk.out HKJ.out)))).alloc (Nat.le_trans HB4.out.size ht.size) (sobj ⟨x1, x2, x3⟩)); have HX := Lib.hid ((HX.out.tn ht (fun e => absurd e (Nat.ne_of_gt HJL.out))).alloc (sobj ⟨x1, x2, x3⟩)); have HY := Lib.hid (at_new w5 ⟨x1, x2, x3⟩); clear ht h2)
        | (go_at_call 10; (with_reducible refine (first_any _ (HT.out.below HB5.out)).mono ?_); rintro e w6 ⟨rfl, hb⟩; have HX := Lib.hid (HX.out.below hb HX.out.lt); have HY := Lib.hid (HY.out.below hb HY.out.lt); have H1 := Lib.hid (H1.out.below hb H1.out.lt); have H2 := Lib.hid (H2.out.below hb H2.out.lt); have HB6 := Lib.hid (HB5.out.trans (hb.mono HB5.out.size)); clear hb)
        | (go_at_call 31; (with_reducible refine (last_any _ k _ H1.out).mono ?_); rintro e w7 ⟨rfl, hb⟩; have HX := Lib.hid (HX.out.below hb HX.out.lt); have HY := Lib.hid (HY.out.below hb HY.out.lt); have H2 := Lib.hid (H2.out.below hb H2.out.lt); have HB7 := Lib.hid (HB6.out.trans (hb.mono HB6.out.size)); clear hb)
        | (go_at_call 31; (with_reducible refine (last_any _ j _ H2.out).mono ?_); rintro e w8 ⟨rfl, hb⟩; have HX := Lib.hid (HX.out.below hb HX.out.lt); have HY := Lib.hid (HY.out.below hb HY.out.lt); have HB8 := Lib.hid (HB7.out.trans (hb.mono HB7.out.size)); have a0 := HX.out.c0; have a1 := HX.out.c1; have a2 := HX.out.c2; have b0 := HY.out.c0; have b1 := HY.out.c1; have b2 := HY.out.c2; clear hb))
      go_ret
      exact ⟨rfl, HB8.out⟩
theorem hlcOrders_walk (W : World) (n : Int) (_ : -9223372036854775808 ≤ n) (_ : n ≤ 9223372036854775807) (f : St) (_ : f.wf) (ao : Option Addr) (cap : Nat) (l : List Do) (hl : SO W.heap.size W ao l.length cap l) (hT : Pow W) :
    Calls Tryd.prog 9 #[.int .i64 n, sagg f, .slice ao l.length cap] W fun e w' => e = .returned (.bool true) ∧ Below W.heap.size W w' := by
  rcases newS_cases n f with ⟨r, h1, h2⟩ | ⟨s, h1, h2, _⟩
  · exact orders_none W n f _ hT r h1 h2
  · exact orders_some W n f ao cap l hl hT s h1 h2

set_option maxRecDepth 100000 in
theorem hlcOrders_lifted (os : Os) (started : os.Started) (H : Type) (enc : TypeId × Value → H) :
    ReturnsInHanded {} Tryd.checked os 9 .any (fun w args => (Rows.hlcOrdersSpec.pre enc Tryd.prog Tryd.f9 [] false w args ∧ laidMetH Tryd.prog laid3 w) ∧ sizedMet enc Tryd.prog Tryd.f9 (OpenSpec.ofChange Rows.hlcOrdersSpec) false w args)
      (Rows.hlcOrdersSpec.post enc Tryd.prog Tryd.f9 false true false false) := by
  refine returnsInHanded_of_change_and (C := Tryd.checked) (X := fun w _ => laidMetH Tryd.prog laid3 w) (fun _ _ _ hh h => h.of_heap hh) own started (by kernel_rfl) Tryd.func9
    (ChangeSpec.witness_shaped (enc := enc) (C := Tryd.checked) (os := os) (X := fun w _ => laidMetH Tryd.prog laid3 w) false (World.doorLaid Tryd.prog 400 os) #[.int .i64 0, .agg #[.int .i64 0, .int .i64 0, .int .i64 0], .slice none 0 0] 8 rfl (World.shaped_of_RefB (by kernel_rfl) (by kernel_rfl)) (by kernel_rfl) (by kernel_rfl) (by kernel_rfl) (door_met3 os _)) ?_
  intro W base args ds gs before hval0 hW _ _ hL _
  have hval : ∀ (j : Nat) t v, Tryd.f9.params[j]? = some t → args[j]? = some v → Value.okWide Tryd.prog W .any base t v := hval0
  have hW' := hW
  obtain ⟨p, q, hA0, hV, rfl, hfz, hnd⟩ := hW
  have hA : DataW.TrodAll enc Tryd.prog W 0 (fun _ => true) true Tryd.f9.params.toList args.toList ds p := hA0
  rw [Tryd.params9] at hA hval
  obtain ⟨v0, v1, v2, d0, d1, d2, p0, p1, p2, rfl, rfl, rfl, h0, h1, h2⟩ := trodAll_three hA
  obtain ⟨rfl, rfl⟩ := trodVars_none hV
  clear hA0 hval0
  simp only [List.append_nil] at hW'
  have hlt : ∀ x ∈ p0 ++ p1 ++ p2, x.block < W.heap.size := fun x hx => hW'.lt x (by simpa using hx)
  have hT := pow_of_laid hL
  have k0 := h0
  obtain ⟨a0, rfl, rfl, rfl, wf0⟩ := open_int Tryd.underlying3 (hval 0 3 v0 rfl rfl) h0
  have hwf0 := wf0
  simp [Lit.wf, IntKind.min, IntKind.max, IntKind.signed, IntKind.bits] at hwf0
  have k1 := h1
  obtain ⟨x1, rfl, rfl, u1⟩ := open_stamp (hval 1 23 v1 rfl rfl) h1
  have k2 := h2
  obtain ⟨b2, len2, cap2, rfl⟩ := okWide_slice Tryd.underlying36 (hval 2 36 v2 rfl rfl)
  obtain ⟨fuel2, g2⟩ := h2
  obtain ⟨ao2, c2, xs2, hv2, r2⟩ := open_so g2
  refine Calls.mono (?walk : Calls _ _ _ _ fun e w' => e = .returned (.bool true) ∧ Below W.heap.size W w') fun e W' ⟨he, hw⟩ => ?_
  case walk =>
    rw [hv2]
    exact hlcOrders_walk W a0 (by omega) (by omega) x1 u1 ao2 c2 xs2 r2 hT
  subst he
  exact ⟨_, rfl, post_of_below (pa := [] ++ ([] ++ p2)) (pv := []) hW' (fun _ _ _ => trodAll_mk1 (shut_bool Tryd.underlying4 _)) (fun sp hsp => trodAll_mk3 (WideElems.Trod_stays laidOutP (by kernel_rfl) (of_decide_eq_true (by kernel_rfl)) k0 (fun x hx => hw.same (hlt x (nomatch hx))) (fun x hx => hsp x (nomatch hx))) (WideElems.Trod_stays laidOutP (by kernel_rfl) (of_decide_eq_true (by kernel_rfl)) k1 (fun x hx => hw.same (hlt x (nomatch hx))) (fun x hx => hsp x (nomatch hx))) (WideElems.Trod_stays laidOutP (by kernel_rfl) (of_decide_eq_true (by kernel_rfl)) k2 (fun x hx => hw.same (hlt x (by simp [hx]))) (fun x hx => hsp x (by simp [hx])))) (fun _ _ => rfl) (by simp) hw (ok_one (by kernel_rfl) rfl (okWide_bool_mk Tryd.underlying4 _))⟩
theorem hlcOrders_holds : Rows.HlcOrdersSaid :=
  OpenClaim.holds_of_wide 9 Tryd.f9 rfl rfl rfl rfl rfl rfl rfl ⟨rfl, rfl, rfl, rfl, rfl⟩ rfl rfl rfl rfl rfl (by kernel_rfl) Tryd.func9 (by kernel_rfl)
    (of_decide_eq_true (by kernel_rfl)) (by unfold Func.isWrapper; first | (rw [if_pos (by decide +kernel)]; kernel_rfl) | (rw [if_neg (by decide +kernel)]; exact ⟨rfl, rfl⟩))
    (fun os started H enc _ => hlcOrders_lifted os started H enc)
/-- THE TIED CARD. -/
theorem hlcOrders_card : Rows.HlcOrdersCardSaid :=
  Claim7.holds_tied_plain_at .later [] [.data, .data, .data] true (true, "55d94c96041e578d324afd5bc41b6edf1ded3878fc07ea6770ba733d434b73f6") true
    hlcOrders_holds (fun _ h => by cases h) (by kernel_rfl) (fun _ h => by cases h) hlcOrders_row_tie rfl ⟨rfl, rfl⟩ (by kernel_rfl) rfl
    (fun f fn hf hfn => by
      obtain rfl : f = 9 := Option.some.inj ((show Tryd.prog.funcNamed "headrace/racelaw8.HlcOrders" = some 9 by kernel_rfl).symm.trans hf) |>.symm
      obtain rfl : fn = Tryd.f9 := (Option.some.inj (Tryd.func9.symm.trans hfn)).symm
      exact ⟨by kernel_rfl, fun j t ht => by
        rw [Tryd.params9] at ht
        have hm : t ∈ [3, 23, 36] := by simpa using Array.mem_of_getElem? ht
        have hall : ([3, 23, 36].all fun u => !Tryd.prog.wantsStandIn u) = true := by kernel_rfl
        exact (show Tryd.prog.wantsStandIn t = false by simpa using List.all_eq_true.1 hall t hm)⟩)
    (by kernel_rfl)
#print axioms hlcOrders_card
end Go.Proofs.YtmpokhjchbaleaaDoor
