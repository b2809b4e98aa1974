/- Any bytes' sum and frame are those by the document, and the bytes stay: racelaw5.FrameMakes answers true and leaves its argument as it was. Conditions: none. -/
import Derived.Test.YtcpncmdnefemmaaW
import Derived.Test.YtcpncmdnefemmaaZ
namespace Go.Proofs.Ytcpncmdnefemmaa
open Go.ChangeShapes Go.WideShapes Go.ChangeAt Go.RowKit
theorem frameMakes_long (w : World) (ao : Option Addr) (n cap : Nat) (h : 20000 < n) :
    Calls Try.prog 3 #[.slice ao n cap] w fun e w' => e = .returned (.bool true) ∧ Below w.heap.size w w' := by
  have HB := Lib.hid (Below.refl w.heap.size w)
  have hgt : (20000 : Int) < (n : Int) := by omega
  clear h
  go_enter Try.func3, Try.ntmps3
  go_wp2_with (first
    | (go_at_call 10; (with_reducible refine (first_any _).mono ?_); rintro e w1 ⟨rfl, hb⟩; have HB := Lib.hid (HB.out.trans (hb.mono HB.out.size)); clear hb))
  go_ret
  exact ⟨rfl, HB.out⟩
set_option maxHeartbeats 1000000 in
set_option maxRecDepth 100000 in
theorem frameMakes_walk (w : World) (ao : Option Addr) (cap : Nat) (l : List UInt8) (h : SB w.heap.size w ao l.length cap l) :
    Calls Try.prog 3 #[.slice ao l.length cap] w fun e w' => e = .returned (.bool true) ∧ Below w.heap.size w w' := by
  by_cases hn : 20000 < l.length
  · exact frameMakes_long w ao _ cap hn
  have HB := Lib.hid (Below.refl w.heap.size w)
  have H := Lib.hid h
  generalize hN : l.length = n at *
  have HN := Lib.hid hN
  clear h hN
  have hs : ((crc l : Int) == (crc l : Int)) = true := beq_self_eq_true _
  have HV := Lib.hid (beq_self_eq_true (frameV l))
  have HL := Lib.hid (beq_self_eq_true l)
  generalize hcl : crc l = C at *
  have HCL := Lib.hid hcl
  clear hcl
  go_enter Try.func3, Try.ntmps3
  go_wp2_with (first
    | (go_at_call 10; have t0 := HG; (with_reducible refine (first_any _).mono ?_); rintro e w5 ⟨rfl, hb⟩; have HI := Lib.hid ((HI.out.below hb).mono hb.size); have HF := Lib.hid ((HF.out.below hb).mono hb.size); have HG := Lib.hid ((HG.out.below hb).mono hb.size); have HB := Lib.hid (HB.out.trans (hb.mono HB.out.size)); clear hb t0)
    | (go_at_call 10; (with_reducible refine (first_any _).mono ?_); rintro e w1 ⟨rfl, hb⟩; have HB := Lib.hid (HB.out.trans (hb.mono HB.out.size)); clear hb)
    | (go_at_call 11; (with_reducible refine (copyBytes_any ((H.out.below HB.out).mono HB.out.size) (by omega)).mono ?_); rintro e w2 ⟨co, cc, rfl, ho, hb⟩; have HI := Lib.hid (own_sb ho); have HB := Lib.hid (HB.out.trans (hb.mono HB.out.size)); clear ho hb)
    | (go_at_call 12; (with_reducible refine (frame_any HI.out (by have := HN.out; omega)).mono ?_); rintro e w3 ⟨f, rfl, ho, hb⟩; obtain ⟨fo, fc, rfl⟩ := own_slice ho; have HI := Lib.hid ((HI.out.below hb).mono hb.size); have HF := Lib.hid (own_sb ho); have HB := Lib.hid (HB.out.trans (hb.mono HB.out.size)); clear ho hb)
    | (go_at_call 13; (with_reducible refine (rframe_any ((H.out.below HB.out).mono HB.out.size) (by have := HN.out; omega)).mono ?_); rintro e w4 ⟨f, rfl, ho, hb⟩; obtain ⟨go, gc, rfl⟩ := own_slice ho; have HI := Lib.hid ((HI.out.below hb).mono hb.size); have HF := Lib.hid ((HF.out.below hb).mono hb.size); have HG := Lib.hid (own_sb ho); have HB := Lib.hid (HB.out.trans (hb.mono HB.out.size)); clear ho hb)
    | (go_at_call 14; (with_reducible refine (sum_any HI.out).mono ?_); rw [HCL.out]; rintro e w6 ⟨rfl, hb⟩; have HI := Lib.hid ((HI.out.below hb).mono hb.size); have HF := Lib.hid ((HF.out.below hb).mono hb.size); have HG := Lib.hid ((HG.out.below hb).mono hb.size); have HB := Lib.hid (HB.out.trans (hb.mono HB.out.size)); clear hb)
    | (go_at_call 15; (with_reducible refine (rsum_any (H.out.below HB.out)).mono ?_); rw [HCL.out]; rintro e w7 ⟨rfl, rfl⟩)
    | (go_at_call 16; (with_reducible refine (bytes_any HF.out HG.out).mono ?_); rw [HV.out]; rintro e w8 ⟨rfl, rfl⟩)
    | (go_at_call 16; (with_reducible refine (bytes_any HI.out (H.out.below HB.out)).mono ?_); rw [HL.out]; rintro e w9 ⟨rfl, rfl⟩))
  go_ret
  exact ⟨rfl, HB.out⟩

set_option maxRecDepth 100000 in
theorem frameMakes_lifted (os : Os) (started : os.Started) (H : Type) (enc : TypeId × Value → H) :
    ReturnsInHanded {} Try.checked os 3 .any (Rows.frameMakesSpec.pre6 enc Try.prog Try.f3 [] false) (Rows.frameMakesSpec.post enc Try.prog Try.f3 false true false false) := by
  refine returnsInHanded_of_change (C := Try.checked) own started (by kernel_rfl) Try.func3
    (ChangeSpec.witness6 (enc := enc) (C := Try.checked) false ⟨#[], #[.slice none 0 0], []⟩ 8 (by kernel_rfl) (by kernel_rfl) (by kernel_rfl) (by kernel_rfl)) ?_
  intro W base args ds gs before hval0 hW _ _
  have hval : ∀ (j : Nat) t v, Try.f3.params[j]? = some t → args[j]? = some v → Value.okWide Try.prog W .any base t v := hval0
  have hW' := hW
  obtain ⟨p, q, hA0, hV, rfl, hfz, hnd⟩ := hW
  have hA : DataW.TrodAll enc Try.prog W 0 (fun _ => true) true Try.f3.params.toList args.toList ds p := hA0
  rw [Try.params3] at hA hval
  obtain ⟨v0, d0, rfl, rfl, h0⟩ := trodAll_one hA
  obtain ⟨b0, len0, cap0, rfl⟩ := okWide_slice Try.underlying22 (hval 0 22 v0 rfl rfl)
  have k0 := h0
  obtain ⟨fuel0, g0⟩ := h0
  obtain ⟨rfl, rfl⟩ := trodVars_none hV
  clear hA0 hval0
  simp only [List.append_nil] at hW'
  have hlt : ∀ x ∈ p, x.block < W.heap.size := fun x hx => hW'.lt x (by simpa using hx)
  obtain ⟨ao0, c0, xs0, hv0, r0⟩ := open_sb g0
  refine Calls.mono (?walk : Calls _ _ _ _ fun e w' => e = .returned (.bool true) ∧ Below W.heap.size W w') fun e W' ⟨he, hw⟩ => ?_
  case walk =>
    rw [hv0]
    exact frameMakes_walk W ao0 c0 xs0 r0
  subst he
  exact ⟨_, rfl, post_of_below (pa := p) (pv := []) hW' (fun _ _ _ => trodAll_mk1 (shut_bool Try.underlying4 _)) (fun sp hsp => trodAll_mk1 (WideElems.Trod_stays laidOut (by kernel_rfl) (of_decide_eq_true (by kernel_rfl)) k0 (fun x hx => hw.same (hlt x (by first | (simp [hx]; done) | exact nomatch hx))) (fun x hx => hsp x (by first | (simp [hx]; done) | exact nomatch hx)))) (fun _ _ => rfl) (by simp) hw (ok_one (by kernel_rfl) rfl (okWide_bool_mk Try.underlying4 _))⟩
/-- THE ROW. -/
theorem frameMakes_holds : Rows.FrameMakesSaid :=
  OpenClaim.holds_of_wide 3 Try.f3 rfl rfl rfl rfl rfl rfl rfl ⟨rfl, rfl, rfl, rfl, rfl⟩ rfl rfl rfl rfl rfl (by kernel_rfl) Try.func3 (by kernel_rfl)
    (of_decide_eq_true (by kernel_rfl)) (by unfold Func.isWrapper; first | (rw [if_pos (by decide +kernel)]; kernel_rfl) | (rw [if_neg (by decide +kernel)]; exact ⟨rfl, rfl⟩))
    (fun os started H enc _ => frameMakes_lifted os started H enc)
#print axioms frameMakes_holds
end Go.Proofs.Ytcpncmdnefemmaa
