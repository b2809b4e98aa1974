/- Any files, a directory, a number, a fall: racelaw7.WalOpens answers true and leaves its arguments as they were: files are refused by both, or both open the same log over them. Conditions: the library's tables and errors hold what their initialisers lay. -/
import Derived.Test.YtkilkhnoldfhcaaGreatDoorMv
import Derived.Test.YtkilkhnoldfhcaaGreatDoorMq
namespace Go.Proofs.YtkilkhnoldfhcaaGreatDoor
open Go.ChangeShapes Go.WideShapes Go.ChangeAt Go.RowKit
/-- How much files bear. -/
def weiF (l : List FV) : Nat := (l.map fun p => min p.name.length 20001 + min p.data.length 20001).sum
theorem weiF_take {l : List FV} {k : Nat} (h : k < l.length) : weiF (l.take (k + 1)) = weiF (l.take k) + (min l[k].name.length 20001 + min l[k].data.length 20001) := by
  unfold weiF
  rw [List.take_succ_eq_append_getElem h, List.map_append, List.sum_append]
  simp
theorem weiF_le (l : List FV) : weiF l ≤ l.length * 40002 := by
  induction l with
  | nil => simp [weiF]
  | cons p r ih =>
    have e : weiF (p :: r) = (min p.name.length 20001 + min p.data.length 20001) + weiF r := rfl
    rw [e, List.length_cons]
    omega
theorem weiF_tot : ∀ (l : List FV), weiF l ≤ 20000 → totF l ≤ weiF l
  | [], _ => Nat.le_refl _
  | p :: r, h => by
    have e : weiF (p :: r) = (min p.name.length 20001 + min p.data.length 20001) + weiF r := rfl
    have e2 : totF (p :: r) = p.data.length + totF r := by unfold totF; simp
    have := weiF_tot r (by omega)
    omega
theorem chk_ex (l : List FV) : ∃ e, Chk l e := by
  have h : ∀ j, j ≤ l.length → good l j ∨ ∃ e, Chk l e := by
    intro j
    induction j with
    | zero => exact fun _ => .inl fun _ _ h => absurd h (Nat.not_lt_zero _)
    | succ j ih =>
      intro hj
      rcases ih (by omega) with hg | he
      · by_cases h0 : errOf (l.take j) l[j] = 0
        · exact .inl (good_succ hg (by omega) h0)
        · exact .inr ⟨_, .inl ⟨h0, j, by omega, hg, rfl⟩⟩
      · exact .inr he
  rcases h l.length (Nat.le_refl _) with hg | he
  · exact ⟨_, .inr ⟨hg, rfl⟩⟩
  · exact he
theorem opens_bad {l : List FV} {P : Nat → World → Prop} {e : Ending} {w' : World} {er : Nat} (h : Loads l P e w') (hc : Chk l er) (h0 : er ≠ 0) : e = .returned (.tuple #[.pointer none, .int .i64 (er : Int)]) := by
  obtain ⟨er', hc', h1 | h1⟩ := h
  · rw [chk_one hc hc']; exact h1.2
  · rw [h1.1] at hc'; exact absurd (chk_one hc hc') h0
theorem opens_ok {l : List FV} {P : Nat → World → Prop} {e : Ending} {w' : World} (h : Loads l P e w') (hc : Chk l 0) : ∃ a, e = .returned (.tuple #[ptr a, .int .i64 0]) ∧ P a w' := by
  obtain ⟨er', hc', h1 | h1⟩ := h
  · exact absurd (chk_one hc' hc) h1.1
  · exact h1.2
theorem opens_tot {l : List FV} (h : Chk l 0) : tot (ents l) = totF l := by
  have := (ents_take (l := l) (j := l.length) (Nat.le_refl _) (chk_ok h).1).tot
  rwa [List.take_length] at this
set_option maxRecDepth 100000 in
set_option maxHeartbeats 8000000 in
theorem walOpens_walk (W : World) (fo : Option Addr) (fcap : Nat) (l : List FV) (hf : SF (fun k => k < W.heap.size) W fo l.length fcap l) (dir : Nm) (_ : dir.length ≤ 9223372036854775807) (seg : Int) (_ : -9223372036854775808 ≤ seg) (_ : seg ≤ 9223372036854775807) (arm : Int) (ha1 : -9223372036854775808 ≤ arm) (ha2 : arm ≤ 9223372036854775807) (hT : Tabs W) :
    Calls Tryz.prog 4 #[.slice fo l.length fcap, nmv dir, .int .i64 seg, .int .i64 arm] W fun e w' => e = .returned (.bool true) ∧ Below W.heap.size W w' := by
  have HSF := Lib.hid hf
  have HT := Lib.hid hT
  have H6 := Lib.hid hT.size
  have HA1 := Lib.hid ha1
  have HA2 := Lib.hid ha2
  have HB := Lib.hid (Below.refl W.heap.size W)
  have hflt := hf.lt
  clear hf hT ha1 ha2
  go_enter Tryz.func4, Tryz.ntmps4
  go_wp2_with (go_at_call 11; (refine (first7 _ (HT.out.below HB.out)).mono ?_); rintro e w1 ⟨rfl, hb⟩; have HB1 := Lib.hid (HB.out.trans (hb.mono HB.out.size)); clear hb)
  go_loopw [9, 10] (fun s i wr => ∃ k : Nat, k ≤ l.length ∧ k ≤ 200 ∧ i = .int .i64 k ∧ s = .int .i64 (weiF (l.take k) : Nat) ∧ Hid (Below W.heap.size W wr)) (fun _ i _ => 200 - (intOf i).toNat)
  case atStart => exact ⟨0, Nat.zero_le _, Nat.zero_le _, rfl, rfl, HB1⟩
  case round =>
    obtain ⟨k, hk, hk4, rfl, rfl, HB⟩ := hrel
    have hw := weiF_le (l.take k)
    rw [List.length_take] at hw
    by_cases hlt2 : k < l.length ∧ k < 200
    · obtain ⟨hkl, hk300⟩ := hlt2
      obtain ⟨b, off, rfl, _, f1, wf1⟩ := (HSF.out.below HB.out).at_ hkl
      have HW := Lib.hid (weiF_take hkl)
      have c0 := f1.c0
      obtain ⟨bo, bc, c1, s1⟩ := f1.c1
      have n1 := wf1.name
      have n2 := s1.lt
      unfold maxLen at n1
      clear s1 f1 wf1
      generalize l[k].name = nm at *
      generalize l[k].data.length = bl at *
      have m1 : min (nm.length : Int) 20001 = ((min nm.length 20001 : Nat) : Int) := by omega
      have m3 : min (bl : Int) 20001 = ((min bl 20001 : Nat) : Int) := by omega
      go_wp2
      go_quiet (fail)
      have HB3 := Lib.hid (HB.out.trans ((below_drewN wr nq).mono HB.out.size))
      generalize wr.drewN nq = w2 at *
      go_wp2
      go_roundw
      case rel => exact ⟨k + 1, by omega, by omega, by go_num, by rw [HW.out]; congr 1; omega, HB3⟩
      case measure => simp [intOf]; omega
    · by_cases h200 : 200 < l.length
      · have hk3 : ¬ (k : Int) < 200 := by omega
        have hl3 : (200 : Int) < (l.length : Int) := by omega
        have hkl : (k : Int) < (l.length : Int) := by omega
        clear hw hlt2
        generalize weiF (l.take k) = s at *
        go_wp2_with (go_at_call 11; (refine (first7 _ (HT.out.below HB.out)).mono ?_); rintro e w3 ⟨rfl, hb⟩; have HB3 := Lib.hid (HB.out.trans (hb.mono HB.out.size)); clear hb)
        go_ret
        exact ⟨rfl, HB3.out⟩
      have hl3 : ¬ (200 : Int) < (l.length : Int) := by omega
      obtain rfl : k = l.length := by omega
      rw [List.take_length]
      clear hw hlt2 hk
      by_cases hwe : 20000 < weiF l
      · have hw3 : (20000 : Int) < (weiF l : Int) := by omega
        go_wp2_with (go_at_call 11; (refine (first7 _ (HT.out.below HB.out)).mono ?_); rintro e w3 ⟨rfl, hb⟩; have HB3 := Lib.hid (HB.out.trans (hb.mono HB.out.size)); clear hb)
        go_ret
        exact ⟨rfl, HB3.out⟩
      have hw3 : ¬ (20000 : Int) < (weiF l : Int) := by omega
      by_cases hd : 200 < dir.length
      · have hd3 : (200 : Int) < (dir.length : Int) := by omega
        go_wp2_with (go_at_call 11; (refine (first7 _ (HT.out.below HB.out)).mono ?_); rintro e w3 ⟨rfl, hb⟩; have HB3 := Lib.hid (HB.out.trans (hb.mono HB.out.size)); clear hb)
        go_ret
        exact ⟨rfl, HB3.out⟩
      have hd3 : ¬ (200 : Int) < (dir.length : Int) := by omega
      have HDL : Hid (dir.length ≤ 1000) := Lib.hid (by omega)
      have htot : totF l ≤ 20000 := Nat.le_trans (weiF_tot l (by omega)) (by omega)
      have HTO := Lib.hid htot
      have HTOT : Hid (totF l ≤ 4194304) := Lib.hid (by omega)
      have HLL : Hid (l.length ≤ 1000) := Lib.hid (by omega)
      obtain ⟨er, hck⟩ := chk_ex l
      have HCK := Lib.hid hck
      clear htot hck hwe hd
      by_cases her : er = 0
      · subst her
        have HTE := Lib.hid (opens_tot HCK.out)
        go_upto_region 17 with (first
          | (go_at_call 17; (refine (load_any (HSF.out.below HB.out) (Nat.le_trans HLL.out (by decide)) HTOT.out).mono ?_); rintro e w5 ⟨hres, hb⟩; obtain ⟨a, rfl, hone⟩ := opens_ok hres HCK.out; have HONE := Lib.hid hone; have HS4 := Lib.hid HB.out.size; have HS5 := Lib.hid hb.size; have HB := Lib.hid (HB.out.trans (hb.mono HB.out.size)); clear hres hb hone)
          | (go_at_call 18; (refine (rload_any (HSF.out.below HB.out) HLL.out HTOT.out).mono ?_); rintro e w6 ⟨hres, hb⟩; obtain ⟨c, rfl, C, hcw, hrk⟩ := opens_ok hres HCK.out; have HRK := Lib.hid hrk; have HCW := Lib.hid hcw; obtain ⟨S, hS, hdk⟩ := HONE.out; have HSW := Lib.hid (fun j hj => Nat.le_trans HS4.out (hS j hj)); have HSC : Hid (∀ j, S j → ¬ C j) := Lib.hid (fun j hj e => by have h1 := hdk.lt j hj; have h2 := HCW.out j e; omega); have HDK := Lib.hid (hdk.below hb); have HB := Lib.hid (HB.out.trans (hb.mono HB.out.size)); clear hres hb hrk hcw hS hdk)
          | (go_at_call 19; (refine (dk_arm7 HDK.out arm HA1.out HA2.out).mono ?_); rintro e w7 ⟨rfl, hd7, ht7⟩; have HDK := Lib.hid hd7; have HRK := Lib.hid (HRK.out.tn ht7 (fun j hj e => HSC.out j e hj)); have HB := Lib.hid (HB.out.trans (ht7.below HB.out.size HSW.out)); clear hd7 ht7)
          | (go_at_call 20; obtain ⟨vv, us, hra⟩ := HRK.out; (refine (rarm_any hra arm HA1.out HA2.out).mono ?_); rintro e w8 ⟨rfl, hr8, ht8⟩; have HRK : Hid (RK C w8 c _) := Lib.hid ⟨_, _, hr8⟩; have HDK := Lib.hid (HDK.out.tn ht8 HSC.out); have HCV : Hid (∀ j, C j → W.heap.size ≤ j) := Lib.hid (fun j hj => Nat.le_trans HS4.out (Nat.le_trans HS5.out (HCW.out j hj))); have HB := Lib.hid (HB.out.trans (ht8.below HB.out.size HCV.out)); clear hr8 ht8 hra))
        have hbo0 := bo_new (dir := dir) (seg := seg) HB.out.size HDK.out HSW.out HRK.out HCV.out HSC.out
        obtain ⟨w9, hw9⟩ : ∃ w9, w9 = w8.alloc (.cells #[ptr a, ptr c, .pointer none, .pointer none, nmv dir, .int .i64 seg] 35) := ⟨_, rfl⟩
        obtain ⟨x, hx⟩ : ∃ x, x = w8.heap.size := ⟨_, rfl⟩
        have HB9 : Hid (Below W.heap.size W w9) := Lib.hid (by rw [hw9]; exact below_alloc HB.out _ HB.out.size)
        rw [← hw9, ← hx] at hbo0
        have hpx : (Value.pointer (some { block := w8.heap.size, off := 0 })) = ptr x := by rw [hx]
        rw [hpx]
        change Code.wp _ _ _ _ (w8.alloc (.cells #[ptr a, ptr c, .pointer none, .pointer none, nmv dir, .int .i64 seg] 35))
        rw [← hw9]
        have HBO := Lib.hid hbo0
        have HB := HB9
        obtain ⟨e1, _, e3⟩ := arm_tot7 ⟨ents l, false, 0, 0⟩ arm
        obtain ⟨d, hd⟩ : ∃ d, d = Dk.arm ⟨ents l, false, 0, 0⟩ arm := ⟨_, rfl⟩
        rw [← hd] at e1 e3 HBO
        have HT0 : Hid (tot d.f ≤ 20000) := Lib.hid (by rw [e1]; show tot (ents l) ≤ 20000; rw [HTE.out]; exact HTO.out)
        have HD0 : Hid (d.done ≤ 0) := Lib.hid (by rw [e3]; exact Nat.le_refl 0)
        clear hbo0 hw9 hx hpx e1 e3 hd HDK HRK
        have HPI := Lib.hid (Pi.open (dir := dir) (seg := seg) HBO.out.okd HT0.out HD0.out (by decide))
        obtain ⟨r, hr⟩ : ∃ r, openL dir seg d = r := ⟨_, rfl⟩
        have HRR := Lib.hid hr
        rw [hr] at HPI
        clear hr
        go_wp2_with (first
          | (go_at_call 11; (refine (first7 _ (HT.out.below HB.out)).mono ?_); rintro e w10 ⟨rfl, hb⟩; have HBO := Lib.hid (HBO.out.below hb); have HB := Lib.hid (HB.out.trans (hb.mono HB.out.size)); clear hb)
          | (go_at_call 14; (refine (opens_any H6.out HDL.out _ _ _ _ _ _ _ HBO.out (HT.out.below HB.out) (Nat.le_trans HT0.out (by decide)) (Nat.le_trans HD0.out (by decide))).mono ?_); rw [HRR.out]; rintro e w11 ⟨rfl, lv, mv, U, V, hb5, hu5⟩; have HBO5 := Lib.hid hb5; have HB := Lib.hid (HB.out.trans hu5); clear hb5 hu5)
          | (go_at_call 16; (refine (stands_any HBO5.out HPI.out (by decide)).mono ?_); rintro e w12 ⟨rfl, hb⟩; have HB := Lib.hid (HB.out.trans (hb.mono HB.out.size)); clear hb))
        go_ret
        exact ⟨rfl, HB.out⟩
      · have her2 : ((er : Int) == 0) = false := by simpa using her
        have HER := Lib.hid her
        clear her
        go_wp2_with (first
          | (go_at_call 17; (refine (load_any (HSF.out.below HB.out) (Nat.le_trans HLL.out (by decide)) HTOT.out).mono ?_); rintro e w5 ⟨hres, hb⟩; obtain rfl := opens_bad hres HCK.out HER.out; have HB := Lib.hid (HB.out.trans (hb.mono HB.out.size)); clear hres hb)
          | (go_at_call 18; (refine (rload_any (HSF.out.below HB.out) HLL.out HTOT.out).mono ?_); rintro e w6 ⟨hres, hb⟩; obtain rfl := opens_bad hres HCK.out HER.out; have HB := Lib.hid (HB.out.trans (hb.mono HB.out.size)); clear hres hb)
          | (go_at_call 11; (refine (first7 _ (HT.out.below HB.out)).mono ?_); rintro e w7 ⟨rfl, hb⟩; have HB := Lib.hid (HB.out.trans (hb.mono HB.out.size)); clear hb))
        go_ret
        exact ⟨rfl, HB.out⟩

set_option maxRecDepth 100000 in
theorem walOpens_lifted (os : Os) (started : os.Started) (H : Type) (enc : TypeId × Value → H) :
    ReturnsInHanded {} Tryz.checked os 4 .any (fun w args => (Rows.walOpensSpec.pre enc Tryz.prog Tryz.f4 [] false w args ∧ laidMetH Tryz.prog laid7 w) ∧ sizedMet enc Tryz.prog Tryz.f4 (OpenSpec.ofChange Rows.walOpensSpec) false w args)
      (Rows.walOpensSpec.post enc Tryz.prog Tryz.f4 false true false false) := by
  refine returnsInHanded_of_change_and (C := Tryz.checked) (X := fun w _ => laidMetH Tryz.prog laid7 w) (fun _ _ _ hh h => h.of_heap hh) own started (by kernel_rfl) Tryz.func4
    (ChangeSpec.witness_shaped (enc := enc) (C := Tryz.checked) (os := os) (X := fun w _ => laidMetH Tryz.prog laid7 w) false (World.doorLaid Tryz.prog 400 os) #[.slice none 0 0, .string ⟨#[]⟩, .int .i64 0, .int .i64 0] 8 rfl (World.shaped_of_RefB (by kernel_rfl) (by kernel_rfl)) (by kernel_rfl) (by kernel_rfl) (by kernel_rfl) (door_met os _)) ?_
  intro W base args ds gs before hval0 hW _ _ hL _
  have hval : ∀ (j : Nat) t v, Tryz.f4.params[j]? = some t → args[j]? = some v → Value.okWide Tryz.prog W .any base t v := hval0
  have hW' := hW
  obtain ⟨p, q, hA0, hV, rfl, hfz, hnd⟩ := hW
  have hA : DataW.TrodAll enc Tryz.prog W 0 (fun _ => true) true Tryz.f4.params.toList args.toList ds p := hA0
  rw [Tryz.params4] at hA hval
  obtain ⟨v0, v1, v2, v3, d0, d1, d2, d3, p0, p1, p2, p3, rfl, rfl, rfl, h0, h1, h2, h3⟩ := trodAll_four hA
  obtain ⟨rfl, rfl⟩ := trodVars_none hV
  clear hA0 hval0
  simp only [List.append_nil] at hW'
  have hlt : ∀ x ∈ p0 ++ p1 ++ p2 ++ p3, x.block < W.heap.size := fun x hx => hW'.lt x (by simpa using hx)
  have hT := tabs_of_laid hL
  have k0 := h0
  obtain ⟨b0, len0, cap0, rfl⟩ := okWide_slice Tryz.underlying29 (hval 0 29 v0 rfl rfl)
  obtain ⟨fuel0, g0⟩ := h0
  obtain ⟨ao0, c0, xs0, hv0, r0⟩ := open_sf g0
  have k1 := h1
  obtain ⟨s1, rfl, rfl, rfl, wf1⟩ := ChangeMaps.open_string Tryz.underlying9 (hval 1 9 v1 rfl rfl) h1
  have hwf1 : s1.data.toList.length ≤ 9223372036854775807 := by
    have e : s1.data.toList.length = s1.size := by rw [Array.length_toList]; rfl
    rw [e]; unfold maxLen at wf1; omega
  have k2 := h2
  obtain ⟨a2, rfl, rfl, rfl, wf2⟩ := open_int Tryz.underlying3 (hval 2 3 v2 rfl rfl) h2
  have hwf2 := wf2
  simp [Lit.wf, IntKind.min, IntKind.max, IntKind.signed, IntKind.bits] at hwf2
  have k3 := h3
  obtain ⟨a3, rfl, rfl, rfl, wf3⟩ := open_int Tryz.underlying3 (hval 3 3 v3 rfl rfl) h3
  have hwf3 := wf3
  simp [Lit.wf, IntKind.min, IntKind.max, IntKind.signed, IntKind.bits] at hwf3
  refine Calls.mono (?walk : Calls _ _ _ _ fun e w' => e = .returned (.bool true) ∧ Below W.heap.size W w') fun e W' ⟨he, hw⟩ => ?_
  case walk =>
    rw [hv0]
    rw [← bytes_self s1]
    exact walOpens_walk W ao0 c0 xs0 r0 s1.data.toList hwf1 a2 (by omega) (by omega) a3 (by omega) (by omega) hT
  subst he
  exact ⟨_, rfl, post_of_below (pa := p0 ++ ([] ++ ([] ++ []))) (pv := []) hW' (fun _ _ _ => trodAll_mk1 (shut_bool Tryz.underlying4 _)) (fun sp hsp => trodAll_mk4 (WideElems.Trod_stays laidOut (by kernel_rfl) (of_decide_eq_true (by kernel_rfl)) k0 (fun x hx => hw.same (hlt x (by simp [hx]))) (fun x hx => hsp x (by simp [hx]))) (WideElems.Trod_stays laidOut (by kernel_rfl) (of_decide_eq_true (by kernel_rfl)) k1 (fun x hx => hw.same (hlt x (nomatch hx))) (fun x hx => hsp x (nomatch hx))) (WideElems.Trod_stays laidOut (by kernel_rfl) (of_decide_eq_true (by kernel_rfl)) k2 (fun x hx => hw.same (hlt x (nomatch hx))) (fun x hx => hsp x (nomatch hx))) (WideElems.Trod_stays laidOut (by kernel_rfl) (of_decide_eq_true (by kernel_rfl)) k3 (fun x hx => hw.same (hlt x (nomatch hx))) (fun x hx => hsp x (nomatch hx)))) (fun _ _ => rfl) (by simp) hw (ok_one (by kernel_rfl) rfl (okWide_bool_mk Tryz.underlying4 _))⟩
theorem walOpens_holds : Rows.WalOpensSaid :=
  OpenClaim.holds_of_wide 4 Tryz.f4 rfl rfl rfl rfl rfl rfl rfl ⟨rfl, rfl, rfl, rfl, rfl⟩ rfl rfl rfl rfl rfl (by kernel_rfl) Tryz.func4 (by kernel_rfl)
    (of_decide_eq_true (by kernel_rfl)) (by unfold Func.isWrapper; first | (rw [if_pos (by decide +kernel)]; kernel_rfl) | (rw [if_neg (by decide +kernel)]; exact ⟨rfl, rfl⟩))
    (fun os started H enc _ => walOpens_lifted os started H enc)
/-- THE TIED CARD. -/
theorem walOpens_card : Rows.WalOpensCardSaid :=
  Claim7.holds_tied_plain_at .later [] [.data, .data, .data, .sentinel, .sentinel] true (true, "e9ab51ce47dcc3953fa184c943e4ea011639904eb8e571ed572ebda56f291a89") true
    walOpens_holds (fun _ h => by cases h) (by kernel_rfl) (fun _ h => by cases h) walOpens_row_tie rfl ⟨rfl, rfl⟩ (by kernel_rfl) rfl
    (fun f fn hf hfn => by
      obtain rfl : f = 4 := Option.some.inj ((show Tryz.prog.funcNamed "headrace/racelaw7.WalOpens" = some 4 by kernel_rfl).symm.trans hf) |>.symm
      obtain rfl : fn = Tryz.f4 := (Option.some.inj (Tryz.func4.symm.trans hfn)).symm
      exact ⟨by kernel_rfl, fun j t ht => by
        rw [Tryz.params4] at ht
        have hm : t ∈ [29, 9, 3, 3] := by simpa using Array.mem_of_getElem? ht
        have hall : ([29, 9, 3, 3].all fun u => !Tryz.prog.wantsStandIn u) = true := by kernel_rfl
        exact (show Tryz.prog.wantsStandIn t = false by simpa using List.all_eq_true.1 hall t hm)⟩)
    (by kernel_rfl)
#print axioms walOpens_card
end Go.Proofs.YtkilkhnoldfhcaaGreatDoor
