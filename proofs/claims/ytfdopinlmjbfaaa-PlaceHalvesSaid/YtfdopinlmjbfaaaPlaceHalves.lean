/- A range that is split is its two halves: a place lies in it just if it lies in one of them, and in one alone; the halves meet at the point: racelaw4.PlaceHalves answers true and leaves its arguments as they were. Conditions: none. -/
import Derived.Test.YtfdopinlmjbfaaaIn
import Derived.Test.YtfdopinlmjbfaaaOp
import Derived.Test.YtfdopinlmjbfaaaFi
import Derived.Deep.RegionHeld
namespace Go.Proofs.Ytfdopinlmjbfaaa
open Go.ChangeShapes Go.WideShapes Go.ChangeAt Go.RowKit
theorem eq_zero_float (W : World) : (Op.equalIn 9999 23 (.float .f64 0) (.float .f64 0)).run Try.prog W = .ok true W := by
  unfold Op.equalIn
  simp [run_underlying Try.underlying23, go_sem]
  decide +kernel
set_option maxRecDepth 100000 in
set_option maxHeartbeats 8000000 in
theorem halves_no (w : World) (ai ae : Int) (al ah : Nat) (ur : (⟨ai, ae, al, ah⟩ : RV).wf) (x : Nat) (hx : x < 18446744073709551616) (c : Int) (y : Nat)
    (h1 : (splitV ⟨ai, ae, al, ah⟩ x c).1 = RV.zero) (h2 : (splitV ⟨ai, ae, al, ah⟩ x c).2.1 = RV.zero) (h3 : (splitV ⟨ai, ae, al, ah⟩ x c).2.2 ≠ 0) :
    Calls Try.prog 10 #[ragg ⟨ai, ae, al, ah⟩, .float .f64 x, .int .i64 c, .float .f64 y] w fun e w' => e = .returned (.bool true) ∧ Below w.heap.size w w' := by
  have hst := run_stf
  have HW := Lib.hid (below1 w (robj ⟨ai, ae, al, ah⟩))
  have HA := Lib.hid (at_new w ⟨ai, ae, al, ah⟩)
  have HS1 := fun w => Lib.hid (split_any ⟨ai, ae, al, ah⟩ ur x hx c w)
  rw [h1, h2] at HS1
  generalize (splitV ⟨ai, ae, al, ah⟩ x c).2.2 = n at *
  have hn : (n != 0) = true := by rw [bne_iff_ne]; exact h3
  have hz := eq_zero_float
  unfold RV.zero at HS1
  clear ur hx h1 h2 h3
  go_enter Try.func10, Try.ntmps10
  go_wp2_with (first
    | (go_at_call 12; ((with_reducible refine (first_any _).mono ?_); rintro e w' ⟨rfl, rfl⟩))
    | (go_at_call 22; with_reducible refine (HS1 _).out.mono ?_; rintro e w4 ⟨rfl, hb⟩; have HA := Lib.hid (((HA.out.below hb HA.out.lt).alloc (robj ⟨0, 0, 0, 0⟩)).alloc (robj ⟨0, 0, 0, 0⟩)); have HP := Lib.hid ((at_new w4 ⟨0, 0, 0, 0⟩).alloc (robj ⟨0, 0, 0, 0⟩)); have HQ := Lib.hid (at_snd w4 ⟨0, 0, 0, 0⟩ ⟨0, 0, 0, 0⟩); have HW := Lib.hid (bel2 (HW.out.trans (hb.mono HW.out.size)) (robj ⟨0, 0, 0, 0⟩) (robj ⟨0, 0, 0, 0⟩)); have A0 := HA.out.c0; have A1 := HA.out.c1; have A2 := HA.out.c2; have A3 := HA.out.c3; have P0 := HP.out.c0; have P1 := HP.out.c1; have P2 := HP.out.c2; have P3 := HP.out.c3; have Q0 := HQ.out.c0; have Q1 := HQ.out.c1; have Q2 := HQ.out.c2; have Q3 := HQ.out.c3; simp only [robj] at A0 A1 A2 A3 P0 P1 P2 P3 Q0 Q1 Q2 Q3; clear hb))
  go_ret
  exact ⟨rfl, HW.out⟩
set_option maxRecDepth 100000 in
set_option maxHeartbeats 8000000 in
theorem halves_yes (w : World) (ai ae : Int) (al ah : Nat) (ur : (⟨ai, ae, al, ah⟩ : RV).wf) (x : Nat) (hx : x < 18446744073709551616) (c : Int) (y : Nat) (hy : y < 18446744073709551616)
    (h1 : okSplit ⟨ai, ae, al, ah⟩ x c = true) (h2 : betB al x ah = true) (h3 : splitV ⟨ai, ae, al, ah⟩ x c = (⟨ai, ae + 1, al, x⟩, ⟨c, 0, x, ah⟩, 0)) :
    Calls Try.prog 10 #[ragg ⟨ai, ae, al, ah⟩, .float .f64 x, .int .i64 c, .float .f64 y] w fun e w' => e = .returned (.bool true) ∧ Below w.heap.size w w' := by
  have hst := run_stf
  have HW := Lib.hid (below1 w (robj ⟨ai, ae, al, ah⟩))
  have HA := Lib.hid (at_new w ⟨ai, ae, al, ah⟩)
  have HS1 := fun w => Lib.hid (split_any ⟨ai, ae, al, ah⟩ ur x hx c w)
  rw [h3] at HS1
  simp only at HS1
  obtain ⟨hm, _, _, _, _, g1, g2⟩ := split_pts h1 h2
  simp only at g1 g2
  have hh := pt_fin (may_pts hm).2.1
  simp only at hh
  obtain ⟨q1, q2⟩ := in_halves (i := ai) (e := ae) (j := c) (f := 0) hy g1 g2 hh
  have HI0 := fun w => Lib.hid (in_any ⟨ai, ae, al, ah⟩ y w)
  have HI1 := fun w => Lib.hid (in_any ⟨ai, ae + 1, al, x⟩ y w)
  have HI2 := fun w => Lib.hid (in_any ⟨c, 0, x, ah⟩ y w)
  have HB1 := fun w => Lib.hid (bitsame_any x x w)
  have HB2 := fun w => Lib.hid (bitsame_any al al w)
  have HB3 := fun w => Lib.hid (bitsame_any ah ah w)
  rw [beq_self_eq_true] at HB1 HB2 HB3
  have e1 : (ai == ai) = true := beq_self_eq_true _
  have e2 : (c == c) = true := beq_self_eq_true _
  generalize inV ⟨ai, ae, al, ah⟩ y = b0 at *
  generalize inV ⟨ai, ae + 1, al, x⟩ y = b1 at *
  generalize inV ⟨c, 0, x, ah⟩ y = b2 at *
  have QQ : Hid ((b0 = false ∧ b1 = false ∧ b2 = false) ∨ (b0 = true ∧ b1 = true ∧ b2 = false) ∨ (b0 = true ∧ b1 = false ∧ b2 = true)) := by
    show _ ∨ _
    cases b0 <;> cases b1 <;> cases b2 <;> simp at q1 q2 ⊢
  clear ur hx h1 h2 h3 g1 g2 hh hm hy q1 q2
  rcases QQ.out with ⟨rfl, rfl, rfl⟩ | ⟨rfl, rfl, rfl⟩ | ⟨rfl, rfl, rfl⟩
  all_goals
    clear QQ
    go_enter Try.func10, Try.ntmps10
    go_wp2_with (first
      | (go_at_call 12; ((with_reducible refine (first_any _).mono ?_); rintro e w' ⟨rfl, rfl⟩))
      | (go_at_call 22; with_reducible refine (HS1 _).out.mono ?_; rintro e w4 ⟨rfl, hb⟩; have HA := Lib.hid (((HA.out.below hb HA.out.lt).alloc (robj ⟨ai, (ae + 1), al, x⟩)).alloc (robj ⟨c, 0, x, ah⟩)); have HP := Lib.hid ((at_new w4 ⟨ai, (ae + 1), al, x⟩).alloc (robj ⟨c, 0, x, ah⟩)); have HQ := Lib.hid (at_snd w4 ⟨ai, (ae + 1), al, x⟩ ⟨c, 0, x, ah⟩); have HW := Lib.hid (bel2 (HW.out.trans (hb.mono HW.out.size)) (robj ⟨ai, (ae + 1), al, x⟩) (robj ⟨c, 0, x, ah⟩)); have A0 := HA.out.c0; have A1 := HA.out.c1; have A2 := HA.out.c2; have A3 := HA.out.c3; have P0 := HP.out.c0; have P1 := HP.out.c1; have P2 := HP.out.c2; have P3 := HP.out.c3; have Q0 := HQ.out.c0; have Q1 := HQ.out.c1; have Q2 := HQ.out.c2; have Q3 := HQ.out.c3; simp only [robj] at A0 A1 A2 A3 P0 P1 P2 P3 Q0 Q1 Q2 Q3; clear hb)
      | (go_at_call 26; with_reducible refine ((HI0 _).out).mono ?_; rintro e w6 ⟨rfl, hb⟩; have HA := Lib.hid (HA.out.below hb HA.out.lt); have A0 := HA.out.c0; have A1 := HA.out.c1; have A2 := HA.out.c2; have A3 := HA.out.c3; dsimp only at A0 A1 A2 A3; have HP := Lib.hid (HP.out.below hb HP.out.lt); have P0 := HP.out.c0; have P1 := HP.out.c1; have P2 := HP.out.c2; have P3 := HP.out.c3; dsimp only at P0 P1 P2 P3; have HQ := Lib.hid (HQ.out.below hb HQ.out.lt); have Q0 := HQ.out.c0; have Q1 := HQ.out.c1; have Q2 := HQ.out.c2; have Q3 := HQ.out.c3; dsimp only at Q0 Q1 Q2 Q3; have HW := Lib.hid (HW.out.trans (hb.mono HW.out.size)); clear hb))
    have HW := Lib.hid (HW.out.drew)
    have HA := Lib.hid (HA.out.below (Below.refl _ _).drew HA.out.lt)
    have HP := Lib.hid (HP.out.below (Below.refl _ _).drew HP.out.lt)
    have HQ := Lib.hid (HQ.out.below (Below.refl _ _).drew HQ.out.lt)
    go_region_held (fun w' => w'.cell? ⟨w.heap.size, 0, none⟩ = some (.int .i64 ai) ∧ w'.cell? ⟨w.heap.size, 1, none⟩ = some (.int .i64 ae) ∧ w'.cell? ⟨w.heap.size, 2, none⟩ = some (.float .f64 al) ∧ w'.cell? ⟨w.heap.size, 3, none⟩ = some (.float .f64 ah) ∧ w'.cell? ⟨w4.heap.size, 0, none⟩ = some (.int .i64 ai) ∧ w'.cell? ⟨w4.heap.size, 1, none⟩ = some (.int .i64 ((ae + 1))) ∧ w'.cell? ⟨w4.heap.size, 2, none⟩ = some (.float .f64 al) ∧ w'.cell? ⟨w4.heap.size, 3, none⟩ = some (.float .f64 x) ∧ w'.cell? ⟨w4.heap.size + 1, 0, none⟩ = some (.int .i64 c) ∧ w'.cell? ⟨w4.heap.size + 1, 1, none⟩ = some (.int .i64 0) ∧ w'.cell? ⟨w4.heap.size + 1, 2, none⟩ = some (.float .f64 x) ∧ w'.cell? ⟨w4.heap.size + 1, 3, none⟩ = some (.float .f64 ah)) (exact ⟨HA.out.c0, HA.out.c1, HA.out.c2, HA.out.c3, HP.out.c0, HP.out.c1, HP.out.c2, HP.out.c3, HQ.out.c0, HQ.out.c1, HQ.out.c2, HQ.out.c3⟩) (first
      | (go_at_call 26; with_reducible refine ((HI1 _).out).mono ?_; rintro e w6 ⟨rfl, hb⟩; have HA := Lib.hid (HA.out.below hb HA.out.lt); have HP := Lib.hid (HP.out.below hb HP.out.lt); have HQ := Lib.hid (HQ.out.below hb HQ.out.lt); have HW := Lib.hid (HW.out.trans (hb.mono HW.out.size)); clear hb)
      | (go_at_call 26; with_reducible refine ((HI2 _).out).mono ?_; rintro e w6 ⟨rfl, hb⟩; have HA := Lib.hid (HA.out.below hb HA.out.lt); have HP := Lib.hid (HP.out.below hb HP.out.lt); have HQ := Lib.hid (HQ.out.below hb HQ.out.lt); have HW := Lib.hid (HW.out.trans (hb.mono HW.out.size)); clear hb))
    have A0 := HA.out.c0
    have A2 := HA.out.c2
    have A3 := HA.out.c3
    have P0 := HP.out.c0
    have P1 := HP.out.c1
    have P2 := HP.out.c2
    have P3 := HP.out.c3
    have Q0 := HQ.out.c0
    have Q1 := HQ.out.c1
    have Q2 := HQ.out.c2
    have Q3 := HQ.out.c3
    dsimp only at A0 A2 A3 P0 P1 P2 P3 Q0 Q1 Q2 Q3
    go_wp2_with (first
      | (go_at_call 12; ((with_reducible refine (first_any _).mono ?_); rintro e w' ⟨rfl, rfl⟩))
      | (go_at_call 16; first | ((with_reducible refine (HB1 _).out.mono ?_); rintro e w' ⟨rfl, rfl⟩) | ((with_reducible refine (HB2 _).out.mono ?_); rintro e w' ⟨rfl, rfl⟩) | ((with_reducible refine (HB3 _).out.mono ?_); rintro e w' ⟨rfl, rfl⟩))
      | (go_at_call 26; with_reducible refine ((HI1 _).out).mono ?_; rintro e w6 ⟨rfl, hb⟩; have HA := Lib.hid (HA.out.below hb HA.out.lt); have A0 := HA.out.c0; have A1 := HA.out.c1; have A2 := HA.out.c2; have A3 := HA.out.c3; dsimp only at A0 A1 A2 A3; have HP := Lib.hid (HP.out.below hb HP.out.lt); have P0 := HP.out.c0; have P1 := HP.out.c1; have P2 := HP.out.c2; have P3 := HP.out.c3; dsimp only at P0 P1 P2 P3; have HQ := Lib.hid (HQ.out.below hb HQ.out.lt); have Q0 := HQ.out.c0; have Q1 := HQ.out.c1; have Q2 := HQ.out.c2; have Q3 := HQ.out.c3; dsimp only at Q0 Q1 Q2 Q3; have HW := Lib.hid (HW.out.trans (hb.mono HW.out.size)); clear hb)
      | (go_at_call 26; with_reducible refine ((HI2 _).out).mono ?_; rintro e w6 ⟨rfl, hb⟩; have HA := Lib.hid (HA.out.below hb HA.out.lt); have A0 := HA.out.c0; have A1 := HA.out.c1; have A2 := HA.out.c2; have A3 := HA.out.c3; dsimp only at A0 A1 A2 A3; have HP := Lib.hid (HP.out.below hb HP.out.lt); have P0 := HP.out.c0; have P1 := HP.out.c1; have P2 := HP.out.c2; have P3 := HP.out.c3; dsimp only at P0 P1 P2 P3; have HQ := Lib.hid (HQ.out.below hb HQ.out.lt); have Q0 := HQ.out.c0; have Q1 := HQ.out.c1; have Q2 := HQ.out.c2; have Q3 := HQ.out.c3; dsimp only at Q0 Q1 Q2 Q3; have HW := Lib.hid (HW.out.trans (hb.mono HW.out.size)); clear hb))
    go_ret
    exact ⟨rfl, HW.out⟩
theorem placeHalves_walk (W : World) (r : RV) (ur : r.wf) (x : Nat) (hx : x < 18446744073709551616) (c : Int) (_ : -9223372036854775808 ≤ c) (_ : c < 9223372036854775808) (y : Nat) (hy : y < 18446744073709551616) :
    Calls Try.prog 10 #[ragg r, .float .f64 x, .int .i64 c, .float .f64 y] W fun e w' => e = .returned (.bool true) ∧ Below W.heap.size W w' := by
  obtain ⟨ai, ae, al, ah⟩ := r
  rcases split_ways ⟨ai, ae, al, ah⟩ x c with ⟨h1, h2, h3⟩ | ⟨h1, h2, h3⟩
  · exact halves_no W ai ae al ah ur x hx c y h1 h2 h3
  · exact halves_yes W ai ae al ah ur x hx c y hy h1 h2 h3

set_option maxRecDepth 100000 in
theorem placeHalves_lifted (os : Os) (started : os.Started) (H : Type) (enc : TypeId × Value → H) :
    ReturnsInHanded {} Try.checked os 10 .any (Rows.placeHalvesSpec.pre6 enc Try.prog Try.f10 [] false) (Rows.placeHalvesSpec.post enc Try.prog Try.f10 false true false false) := by
  refine returnsInHanded_of_change (C := Try.checked) own started (by kernel_rfl) Try.func10
    (ChangeSpec.witness6 (enc := enc) (C := Try.checked) false ⟨#[], #[.agg #[.int .i64 0, .int .i64 0, .float .f64 0, .float .f64 0], .float .f64 0, .int .i64 0, .float .f64 0], []⟩ 8 (by kernel_rfl) (by kernel_rfl) (by kernel_rfl) (by kernel_rfl)) ?_
  intro W base args ds gs before hval0 hW _ _
  have hval : ∀ (j : Nat) t v, Try.f10.params[j]? = some t → args[j]? = some v → Value.okWide Try.prog W .any base t v := hval0
  have hW' := hW
  obtain ⟨p, q, hA0, hV, rfl, hfz, hnd⟩ := hW
  have hA : DataW.TrodAll enc Try.prog W 0 (fun _ => true) true Try.f10.params.toList args.toList ds p := hA0
  rw [Try.params10] at hA hval
  obtain ⟨v0, v1, v2, v3, d0, d1, d2, d3, p0, p1, p2, p3, rfl, rfl, rfl, h0, h1, h2, h3⟩ := trodAll_four hA
  have k0 := h0
  obtain ⟨x0, rfl, rfl, u0⟩ := open_range (hval 0 34 v0 rfl rfl) h0
  obtain ⟨a1, rfl, rfl, rfl, wf1⟩ := open_float Try.underlying23 (hval 1 23 v1 rfl rfl) h1
  obtain ⟨a2, rfl, rfl, rfl, wf2⟩ := open_int Try.underlying3 (hval 2 3 v2 rfl rfl) h2
  obtain ⟨a3, rfl, rfl, rfl, wf3⟩ := open_float Try.underlying23 (hval 3 23 v3 rfl rfl) h3
  obtain ⟨rfl, rfl⟩ := trodVars_none hV
  clear hA0 hval0
  simp only [List.append_nil] at hW'
  have hlt : ∀ x ∈ ([] : List MemPlace) ++ ([] : List MemPlace) ++ ([] : List MemPlace) ++ ([] : List MemPlace), x.block < W.heap.size := fun x hx => by simp at hx
  have hwf1 := wf1
  simp [Lit.wf] at hwf1
  have hwf2 := wf2
  simp [Lit.wf, IntKind.min, IntKind.max, IntKind.signed, IntKind.bits] at hwf2
  have hwf3 := wf3
  simp [Lit.wf] at hwf3
  refine Calls.mono (?walk : Calls _ _ _ _ fun e w' => e = .returned (.bool true) ∧ Below W.heap.size W w') fun e W' ⟨he, hw⟩ => ?_
  case walk =>
    exact placeHalves_walk W x0 u0 a1 (by omega) a2 (by omega) (by omega) a3 (by omega)
  subst he
  exact ⟨_, rfl, post_of_below (pa := [] ++ ([] ++ ([] ++ []))) (pv := []) hW' (fun _ _ _ => trodAll_mk1 (shut_bool Try.underlying4 _)) (fun sp hsp => trodAll_mk4 (WideElems.Trod_stays laidOut (by kernel_rfl) (of_decide_eq_true (by kernel_rfl)) k0 (fun x hx => hw.same (hlt x (by simp [hx]))) (fun x hx => hsp x (by simp [hx]))) (shut_float Try.underlying23 wf1) (shut_int Try.underlying3 wf2) (shut_float Try.underlying23 wf3)) (fun _ _ => rfl) (by simp) hw (ok_one (by kernel_rfl) rfl (okWide_bool_mk Try.underlying4 _))⟩
/-- THE ROW. -/
theorem placeHalves_holds : Rows.PlaceHalvesSaid :=
  OpenClaim.holds_of_wide 10 Try.f10 rfl rfl rfl rfl rfl rfl rfl ⟨rfl, rfl, rfl, rfl, rfl⟩ rfl rfl rfl rfl rfl (by kernel_rfl) Try.func10 (by kernel_rfl)
    (of_decide_eq_true (by kernel_rfl)) (by unfold Func.isWrapper; first | (rw [if_pos (by decide +kernel)]; kernel_rfl) | (rw [if_neg (by decide +kernel)]; exact ⟨rfl, rfl⟩))
    (fun os started H enc _ => placeHalves_lifted os started H enc)
#print axioms placeHalves_holds
end Go.Proofs.Ytfdopinlmjbfaaa
