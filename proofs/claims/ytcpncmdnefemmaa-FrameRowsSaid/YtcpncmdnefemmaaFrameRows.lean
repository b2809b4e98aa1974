/- Frames one behind the other tell their records, and what stands behind them changes none of these: racelaw5.FrameRows answers true and leaves its arguments as they were. Conditions: none. -/
import Derived.Test.YtcpncmdnefemmaaW
import Derived.Test.YtcpncmdnefemmaaZ
import Derived.Test.YtcpncmdnefemmaaO
import Derived.Test.YtcpncmdnefemmaaT
namespace Go.Proofs.Ytcpncmdnefemmaa
open Go.ChangeShapes Go.WideShapes Go.ChangeAt Go.RowKit
set_option maxHeartbeats 1000000 in
set_option maxRecDepth 100000 in
theorem frameRows_not (w : World) (ao : Option Addr) (n cap : Nat) (L : List (List UInt8)) (h : RB w.heap.size w ao n cap L) (bo : Option Addr) (m bcap : Nat) (hf : fewB L = false ∨ (fewB L = true ∧ 20000 < m)) :
    Calls Try.prog 6 #[.slice ao n cap, .slice bo m bcap] w fun e w' => e = .returned (.bool true) ∧ Below w.heap.size w w' := by
  have HB := Lib.hid (Below.refl w.heap.size w)
  have H := Lib.hid h
  clear h
  rcases hf with hf | ⟨hf, hm⟩
  all_goals
    have HF := Lib.hid hf
    clear hf
    go_enter Try.func6, Try.ntmps6
    go_wp2_with (first
      | (go_at_call 10; (with_reducible refine (first_any _).mono ?_); rintro e w1 ⟨rfl, hb⟩; have HB := Lib.hid (HB.out.trans (hb.mono HB.out.size)); clear hb)
      | (go_at_call 20; (with_reducible refine (few_any (H.out.below HB.out)).mono ?_); rw [HF.out]; rintro e w2 ⟨rfl, rfl⟩))
    go_ret
    exact ⟨rfl, HB.out⟩
set_option maxHeartbeats 2000000 in
set_option maxRecDepth 100000 in
theorem frameRows_few (w : World) (ao : Option Addr) (n cap : Nat) (L : List (List UInt8)) (HN : Hid (L.length = n)) (h : RB w.heap.size w ao n cap L) (bo : Option Addr) (m bcap : Nat) (r : List UInt8) (h2 : SB w.heap.size w bo m bcap r) (hf : fewB L = true) (hm : m ≤ 20000) :
    Calls Try.prog 6 #[.slice ao n cap, .slice bo m bcap] w fun e w' => e = .returned (.bool true) ∧ Below w.heap.size w w' := by
  have HB := Lib.hid (Below.refl w.heap.size w)
  obtain ⟨f1, f2⟩ := few_yes hf
  have hl20 := wei_mem f2
  have hj := join_len f2
  have hs0 : scanV (joinV L) = (L, (joinV L).length) := by
    have := scan_join [] L (fun p hp => by have := hl20 p hp; omega)
    rw [List.append_nil] at this
    rw [this, scan_none (b := []) (first_short (by simp))]
    simp
  have hs1 := scan_join r L (fun p hp => by have := hl20 p hp; omega)
  have HL := Lib.hid (beq_self_eq_true L)
  have H := Lib.hid h
  have H2 := Lib.hid h2
  have HF := Lib.hid hf
  have HW := Lib.hid f2
  have F1 := Lib.hid f1
  have HT : Hid ((L ++ (scanV r).1).take n = L) := by rw [← HN.out]; exact List.take_left
  have hXl : (L ++ (scanV r).1).length = n + (scanV r).1.length := by rw [List.length_append, HN.out]
  have hn100 : n ≤ 100 := by rw [← HN.out]; exact f1
  generalize hJ : (joinV L).length = J at *
  generalize (scanV r).1 = X at *
  generalize (scanV r).2 = x at *
  have HS0 := Lib.hid hs0
  have HS1 := Lib.hid hs1
  have HJ := Lib.hid hJ
  have HXL := Lib.hid hXl
  have hJ2 : J ≤ 21200 := by omega
  have HQ : Hid ((joinV L ++ r).length = J + m) := by rw [List.length_append, hJ, ← h2.len]; exact rfl
  generalize hY : L ++ X = Y at *
  generalize X.length = xl at *
  clear h h2 hf f1 f2 hl20 hj hs0 hs1 hJ hXl hY
  go_enter Try.func6, Try.ntmps6
  go_wp2_with (first
    | (go_at_call 10; have t0 := HR2; (with_reducible refine (first_any _).mono ?_); rintro e w6 ⟨rfl, hb⟩; have HR1 := Lib.hid ((HR1.out.below hb).mono hb.size); have HR2 := Lib.hid ((HR2.out.below hb).mono hb.size); have HB := Lib.hid (HB.out.trans (hb.mono HB.out.size)); clear hb t0)
    | (go_at_call 10; (with_reducible refine (first_any _).mono ?_); rintro e w1 ⟨rfl, hb⟩; have HB := Lib.hid (HB.out.trans (hb.mono HB.out.size)); clear hb)
    | (go_at_call 20; (with_reducible refine (few_any (H.out.below HB.out)).mono ?_); rw [HF.out]; rintro e w2 ⟨rfl, rfl⟩)
    | (go_at_call 21; (with_reducible refine (joined_any ((H.out.below HB.out)) HB.out.size F1.out HW.out).mono ?_); rw [HJ.out]; rintro e w3 ⟨v, rfl, ho, hb⟩; obtain ⟨jo, jc, rfl⟩ := own_slice ho; rw [← HJ.out] at ho; have HI := Lib.hid (own_sb ho); rw [HJ.out] at HI; have HB := Lib.hid (HB.out.trans (hb.mono HB.out.size)); clear ho hb)
    | (go_at_call 17; have t0 := HA; (with_reducible refine (scan_any HA.out (by omega)).mono ?_); rintro e w5 ⟨v5, us5, rfl, hr, hb⟩; rw [HS1.out] at hr ⊢; obtain ⟨ro2, rc2, rfl⟩ := own_slice hr.own; have hr3 := hr.rb rfl; dsimp only at hr3 ⊢; rw [HXL.out] at hr3 ⊢; have hle2 := hr3.le; have HR2 := Lib.hid hr3; clear hr3; have HR1 := Lib.hid ((HR1.out.below hb).mono hb.size); have HB := Lib.hid (HB.out.trans (hb.mono HB.out.size)); clear hr hb)
    | (go_at_call 17; (with_reducible refine (scan_any HI.out (by omega)).mono ?_); rintro e w4 ⟨v4, us4, rfl, hr, hb⟩; rw [HS0.out] at hr ⊢; obtain ⟨ro1, rc1, rfl⟩ := own_slice hr.own; have hr3 := hr.rb rfl; dsimp only at hr3 ⊢; rw [HN.out] at hr3 ⊢; have HR1 := Lib.hid hr3; clear hr3; have HI := Lib.hid ((HI.out.below hb).mono hb.size); have HB := Lib.hid (HB.out.trans (hb.mono HB.out.size)); clear hr hb)
    | (go_at_call 11; (with_reducible refine (copyBytes_any HI.out (by omega)).mono ?_); rintro e w7 ⟨co, cc, rfl, ho, hb⟩; have HO := Lib.hid ho; have HS7 := Lib.hid hb.size; have HS4 := Lib.hid HB.out.size; have HR1 := Lib.hid (HR1.out.below hb); have HB := Lib.hid (HB.out.trans (hb.mono HB.out.size)); clear ho hb)
    | (at_builtin; refine wpList_append_sb (wanted_none rfl _) (.tmp 36) (.tmp 37) rfl rfl (l := joinV L) (B := w4.heap.size) (show w7.ownsRow w4.heap.size 5 1 (.slice co J cc) (joinV L).length (bys (joinV L)) by rw [HJ.out]; exact HO.out) HS7.out rfl (H2.out.below HB.out) (by rw [HJ.out]; omega) ?_; intro v8 w8 ho hg; obtain ⟨qo, qc, rfl⟩ := own_slice ho; have hb := own_below_grown HO.out HS7.out hg; have ha := own_sb ho; rw [HQ.out] at ha ⊢; have HA := Lib.hid ha; have HR1 := Lib.hid ((HR1.out.below hb).mono (Nat.le_trans HS7.out hb.size)); have HB := Lib.hid (HB.out.trans (hb.mono HS4.out)); clear ha ho hg hb)
    | (go_at_call 19; have t0 := HD; (with_reducible refine (rows_any ((HR2.out.top (hi := n) (by omega)).below HD.out) ((H.out.below HB.out).below (HD.out.mono HB.out.size))).mono ?_); rw [HT.out, HL.out]; rintro e w9 ⟨rfl, q, rfl⟩; have HE := Lib.hid ((HB.out.trans (HD.out.mono HB.out.size)).trans ((below_drewN _ q).mono (Nat.le_trans HB.out.size HD.out.size))))
    | (go_at_call 19; (with_reducible refine (rows_any HR1.out (H.out.below HB.out)).mono ?_); rw [HL.out]; rintro e w9 ⟨rfl, q, rfl⟩; have HD := Lib.hid (below_drewN w6 q)))
  go_ret
  exact ⟨rfl, by rw [← drewN_add]; exact HE.out⟩
theorem frameRows_walk (w : World) (ao : Option Addr) (cap : Nat) (L : List (List UInt8)) (h : RB w.heap.size w ao L.length cap L) (bo : Option Addr) (bcap : Nat) (r : List UInt8) (h2 : SB w.heap.size w bo r.length bcap r) :
    Calls Try.prog 6 #[.slice ao L.length cap, .slice bo r.length bcap] w fun e w' => e = .returned (.bool true) ∧ Below w.heap.size w w' := by
  cases hf : fewB L with
  | false => exact frameRows_not w ao _ cap L h bo _ bcap (.inl hf)
  | true =>
    by_cases hm : r.length ≤ 20000
    · exact frameRows_few w ao _ cap L rfl h bo _ bcap r h2 hf hm
    · exact frameRows_not w ao _ cap L h bo _ bcap (.inr ⟨hf, by omega⟩)

set_option maxRecDepth 100000 in
theorem frameRows_lifted (os : Os) (started : os.Started) (H : Type) (enc : TypeId × Value → H) :
    ReturnsInHanded {} Try.checked os 6 .any (Rows.frameRowsSpec.pre6 enc Try.prog Try.f6 [] false) (Rows.frameRowsSpec.post enc Try.prog Try.f6 false true false false) := by
  refine returnsInHanded_of_change (C := Try.checked) own started (by kernel_rfl) Try.func6
    (ChangeSpec.witness6 (enc := enc) (C := Try.checked) false ⟨#[], #[.slice none 0 0, .slice none 0 0], []⟩ 8 (by kernel_rfl) (by kernel_rfl) (by kernel_rfl) (by kernel_rfl)) ?_
  intro W base args ds gs before hval0 hW _ _
  have hval : ∀ (j : Nat) t v, Try.f6.params[j]? = some t → args[j]? = some v → Value.okWide Try.prog W .any base t v := hval0
  have hW' := hW
  obtain ⟨p, q, hA0, hV, rfl, hfz, hnd⟩ := hW
  have hA : DataW.TrodAll enc Try.prog W 0 (fun _ => true) true Try.f6.params.toList args.toList ds p := hA0
  rw [Try.params6] at hA hval
  obtain ⟨v0, v1, d0, d1, p0, p1, rfl, rfl, rfl, h0, h1⟩ := trodAll_two hA
  obtain ⟨b0, len0, cap0, rfl⟩ := okWide_slice Try.underlying33 (hval 0 33 v0 rfl rfl)
  have k0 := h0
  obtain ⟨fuel0, g0⟩ := h0
  obtain ⟨b1, len1, cap1, rfl⟩ := okWide_slice Try.underlying22 (hval 1 22 v1 rfl rfl)
  have k1 := h1
  obtain ⟨fuel1, g1⟩ := h1
  obtain ⟨rfl, rfl⟩ := trodVars_none hV
  clear hA0 hval0
  simp only [List.append_nil] at hW'
  have hlt : ∀ x ∈ p0 ++ p1, x.block < W.heap.size := fun x hx => hW'.lt x (by simpa using hx)
  obtain ⟨ao0, c0, xs0, hv0, r0⟩ := open_rb g0
  obtain ⟨ao1, c1, xs1, hv1, r1⟩ := open_sb g1
  refine Calls.mono (?walk : Calls _ _ _ _ fun e w' => e = .returned (.bool true) ∧ Below W.heap.size W w') fun e W' ⟨he, hw⟩ => ?_
  case walk =>
    rw [hv0]
    rw [hv1]
    exact frameRows_walk W ao0 c0 xs0 r0 ao1 c1 xs1 r1
  subst he
  exact ⟨_, rfl, post_of_below (pa := p0 ++ p1) (pv := []) hW' (fun _ _ _ => trodAll_mk1 (shut_bool Try.underlying4 _)) (fun sp hsp => trodAll_mk2 (WideElems.Trod_stays laidOut (by kernel_rfl) (of_decide_eq_true (by kernel_rfl)) k0 (fun x hx => hw.same (hlt x (by first | (simp [hx]; done) | exact nomatch hx))) (fun x hx => hsp x (by first | (simp [hx]; done) | exact nomatch hx))) (WideElems.Trod_stays laidOut (by kernel_rfl) (of_decide_eq_true (by kernel_rfl)) k1 (fun x hx => hw.same (hlt x (by first | (simp [hx]; done) | exact nomatch hx))) (fun x hx => hsp x (by first | (simp [hx]; done) | exact nomatch hx)))) (fun _ _ => rfl) (by simp) hw (ok_one (by kernel_rfl) rfl (okWide_bool_mk Try.underlying4 _))⟩
/-- THE ROW. -/
theorem frameRows_holds : Rows.FrameRowsSaid :=
  OpenClaim.holds_of_wide 6 Try.f6 rfl rfl rfl rfl rfl rfl rfl ⟨rfl, rfl, rfl, rfl, rfl⟩ rfl rfl rfl rfl rfl (by kernel_rfl) Try.func6 (by kernel_rfl)
    (of_decide_eq_true (by kernel_rfl)) (by unfold Func.isWrapper; first | (rw [if_pos (by decide +kernel)]; kernel_rfl) | (rw [if_neg (by decide +kernel)]; exact ⟨rfl, rfl⟩))
    (fun os started H enc _ => frameRows_lifted os started H enc)
#print axioms frameRows_holds
end Go.Proofs.Ytcpncmdnefemmaa
