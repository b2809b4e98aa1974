/- Two programs one behind the other are a program that does both: racelaw9.ProgJoins answers true and leaves its arguments as they were. Conditions: the library's tables and the table of steps hold what their initialisers lay. -/
import Derived.Test.YtbgccaconhmbaaaGreatDoorCards
import Derived.Test.YtbgccaconhmbaaaGreatDoorJZs
import Derived.Test.YtbgccaconhmbaaaGreatDoorJMk
import Derived.Test.YtbgccaconhmbaaaGreatDoorJLj
namespace Go.Proofs.YtbgccaconhmbaaaGreatDoor
open Go.ChangeShapes Go.WideShapes Go.ChangeAt Go.RowKit
theorem progJoins_walk (W : World) {P Q S : Nat → Prop} {v0 v1 v2 : Value} {l0 l1 : List OpV} {l2 : List SeenV} (h0 : HasO P W v0 l0) (w0 : ∀ o ∈ l0, o.wf) (h1 : HasO Q W v1 l1) (w1 : ∀ o ∈ l1, o.wf) (h2 : HasN S W v2 l2) (w2 : ∀ s ∈ l2, s.wf) (hT : Rdy W) :
    Calls Tryz.prog 8 #[v0, v1, v2] W fun e w' => e = .returned (.bool true) ∧ Below W.heap.size W w' := joins_any h0 h1 h2 hT w0 w1 w2

set_option maxRecDepth 100000 in
theorem progJoins_lifted (os : Os) (started : os.Started) (H : Type) (enc : TypeId × Value → H) :
    ReturnsInHanded {} Tryz.checked os 8 .any (fun w args => (Rows.progJoinsSpec.pre enc Tryz.prog Tryz.f8 [] false w args ∧ laidMetH Tryz.prog laid9 w) ∧ sizedMet enc Tryz.prog Tryz.f8 (OpenSpec.ofChange Rows.progJoinsSpec) false w args)
      (Rows.progJoinsSpec.post enc Tryz.prog Tryz.f8 false true false false) := by
  refine handed_both (C := Tryz.checked) (X := fun w _ => laidMetH Tryz.prog laid9 w) (fun _ _ _ hh h => h.of_heap hh) own started (by kernel_rfl) Tryz.func8
    (ChangeSpec.witness_shaped (enc := enc) (C := Tryz.checked) (os := os) (X := fun w _ => laidMetH Tryz.prog laid9 w) false ({ World.doorLaid Tryz.prog 400 os with heap := (World.doorLaid Tryz.prog 400 os).heap.setIfInBounds 3 (.cells (Pinned.utf8FirstZ.map fun x : Nat => Value.int .u8 (x : Int)).toArray 209) } : World) #[.slice none 0 0, .slice none 0 0, .slice none 0 0] 8 rfl (World.shaped_of_RefB (by kernel_rfl) (by kernel_rfl)) (by kernel_rfl) (by kernel_rfl) (by kernel_rfl) (door_met os _)) ?_
  intro W base args ds gs before hval0 hW _ hL hsh
  have hval : ∀ (j : Nat) t v, Tryz.f8.params[j]? = some t → args[j]? = some v → Value.okWide Tryz.prog W .any base t v := hval0
  have hW' := hW
  obtain ⟨p, q, hA0, hV, rfl, hfz, hnd⟩ := hW
  have hA : DataW.TrodAll enc Tryz.prog W 0 (fun _ => true) true Tryz.f8.params.toList args.toList ds p := hA0
  rw [Tryz.params8] at hA hval
  obtain ⟨v0, v1, v2, d0, d1, d2, p0, p1, p2, rfl, rfl, rfl, h0, h1, h2⟩ := trodAll_three hA
  obtain ⟨rfl, rfl⟩ := trodVars_none hV
  clear hA0 hval0
  simp only [List.append_nil] at hW'
  have hlt : ∀ x ∈ p0 ++ p1 ++ p2, x.block < W.heap.size := fun x hx => hW'.lt x (by simpa using hx)
  have hT := rdy_of_laid hL hsh
  have k0 := h0
  obtain ⟨b0, len0, cap0, rfl⟩ := okWide_slice Tryz.underlying22 (hval 0 22 v0 rfl rfl)
  obtain ⟨fuel0, g0⟩ := h0
  obtain ⟨l0, r0, wf0, _⟩ := open_ops g0
  have k1 := h1
  obtain ⟨b1, len1, cap1, rfl⟩ := okWide_slice Tryz.underlying22 (hval 1 22 v1 rfl rfl)
  obtain ⟨fuel1, g1⟩ := h1
  obtain ⟨l1, r1, wf1, _⟩ := open_ops g1
  have k2 := h2
  obtain ⟨b2, len2, cap2, rfl⟩ := okWide_slice Tryz.underlying32 (hval 2 32 v2 rfl rfl)
  obtain ⟨fuel2, g2⟩ := h2
  obtain ⟨l2, r2, wf2, _⟩ := open_seens g2
  refine Calls.mono (?walk : Calls _ _ _ _ fun e w' => e = .returned (.bool true) ∧ Below W.heap.size W w') fun e W' ⟨he, hw⟩ => ?_
  case walk =>
    exact progJoins_walk W r0 wf0 r1 wf1 r2 wf2 hT
  subst he
  exact ⟨_, rfl, post_of_below (pa := p0 ++ (p1 ++ p2)) (pv := []) hW' (fun _ _ _ => trodAll_mk1 (shut_bool Tryz.underlying4 _)) (fun sp hsp => trodAll_mk3 (WideElems.Trod_stays laidOut3 (by kernel_rfl) (of_decide_eq_true (by kernel_rfl)) k0 (fun x hx => hw.same (hlt x (by simp [hx]))) (fun x hx => hsp x (by simp [hx]))) (WideElems.Trod_stays laidOut3 (by kernel_rfl) (of_decide_eq_true (by kernel_rfl)) k1 (fun x hx => hw.same (hlt x (by simp [hx]))) (fun x hx => hsp x (by simp [hx]))) (WideElems.Trod_stays laidOut3 (by kernel_rfl) (of_decide_eq_true (by kernel_rfl)) k2 (fun x hx => hw.same (hlt x (by simp [hx]))) (fun x hx => hsp x (by simp [hx])))) (fun _ _ => rfl) (by simp) hw (ok_one (by kernel_rfl) rfl (okWide_bool_mk Tryz.underlying4 _))⟩
theorem progJoins_holds : Rows.ProgJoinsSaid :=
  OpenClaim.holds_of_wide 8 Tryz.f8 rfl rfl rfl rfl rfl rfl rfl ⟨rfl, rfl, rfl, rfl, rfl⟩ rfl rfl rfl rfl rfl (by kernel_rfl) Tryz.func8 (by kernel_rfl)
    (of_decide_eq_true (by kernel_rfl)) (by unfold Func.isWrapper; first | (rw [if_pos (by decide +kernel)]; kernel_rfl) | (rw [if_neg (by decide +kernel)]; exact ⟨rfl, rfl⟩))
    (fun os started H enc _ => progJoins_lifted os started H enc)
/-- THE TIED CARD. -/
theorem progJoins_card : Rows.ProgJoinsCardSaid :=
  Claim7.holds_tied_plain_at .later [] [.data, .data, .data, .data, .data, .pinned] true (true, "2bfca760256cdd01a861e9b5edbc65ec6c3d8b2dbf90938c2cb0bc8c6d229047") true
    progJoins_holds (fun _ h => by cases h) (by kernel_rfl) (fun _ h => by cases h) progJoins_row_tie rfl ⟨rfl, rfl⟩ (by kernel_rfl) rfl
    (fun f fn hf hfn => by
      obtain rfl : f = 8 := Option.some.inj ((show Tryz.prog.funcNamed "headrace/racelaw9.ProgJoins" = some 8 by kernel_rfl).symm.trans hf) |>.symm
      obtain rfl : fn = Tryz.f8 := (Option.some.inj (Tryz.func8.symm.trans hfn)).symm
      exact ⟨by kernel_rfl, fun j t ht => by
        rw [Tryz.params8] at ht
        have hm : t ∈ [22, 22, 32] := by simpa using Array.mem_of_getElem? ht
        have hall : ([22, 22, 32].all fun u => !Tryz.prog.wantsStandIn u) = true := by kernel_rfl
        exact (show Tryz.prog.wantsStandIn t = false by simpa using List.all_eq_true.1 hall t hm)⟩)
    (by kernel_rfl)
#print axioms progJoins_card
end Go.Proofs.YtbgccaconhmbaaaGreatDoor
