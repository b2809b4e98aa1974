/- racelaw14.DirPlays answers true, whatever came in: any ranges as a directory, whatever it learns, step by step: what it answers, where keys are routed to and how they are grouped is the document's. Conditions: none. -/
import Derived.Test.YtfcdajkgopcmpaaJEj
import Derived.Test.YtfcdajkgopcmpaaJZ
namespace Go.Proofs.Ytfcdajkgopcmpaa
open Go.ChangeShapes Go.WideShapes Go.ChangeAt Go.RowKit
theorem dirPlays_walk (w : World) (v : Value) (l : List RV) (h : HasR (fun k => k < w.heap.size) w v l ∧ (∀ r ∈ l, r.wf) ∧ l.length ≤ maxLen) (mo : Option Addr) (mc : Nat) (ms : List (RowsT w)) (hms : XB (rowV (w := w)) (rowZ w) w.heap.size w mo ms.length mc ms)
    (ko : Option Addr) (kcap : Nat) (ks : List Str) (hk : KS w.heap.size w ko ks.length kcap ks) :
    Calls Try.prog 3 #[v, .slice mo ms.length mc, .slice ko ks.length kcap] w fun e w' => e = .returned (.bool true) ∧ Below w.heap.size w w' := by
  by_cases hp : l.length ≤ 100 ∧ PK ks
  · by_cases hm : ms.length ≤ 40
    · by_cases hC : checkV l = 0
      · exact plays_ok w h.1 h.2.1 hp.1 mo _ mc ms hms hm ko _ kcap ks hk hp.2 hC
      · exact plays_no w h.1 h.2.1 hp.1 mo _ mc hm ko _ kcap ks hk hC
    · obtain ⟨vo, vc, rfl, _⟩ := hasR_len h.1
      exact plays_many w vo _ vc mo _ mc (by omega) hms.lt ko _ kcap ks hk
  · obtain ⟨vo, vc, rfl, _⟩ := hasR_len h.1
    exact plays_out w vo _ vc mo _ mc ko _ kcap ks hk hp

set_option maxRecDepth 100000 in
theorem dirPlays_lifted (os : Os) (started : os.Started) (H : Type) (enc : TypeId × Value → H) :
    ReturnsInHanded {} Try.checked os 3 .any (Rows.dirPlaysSpec.pre6 enc Try.prog Try.f3 [] false) (Rows.dirPlaysSpec.post enc Try.prog Try.f3 false true false false) := by
  refine returnsInHanded_of_change (C := Try.checked) own started (by kernel_rfl) Try.func3
    (ChangeSpec.witness6 (enc := enc) (C := Try.checked) false ⟨#[], #[.slice none 0 0, .slice none 0 0, .slice none 0 0], []⟩ 8 (by kernel_rfl) (by kernel_rfl) (by kernel_rfl) (by kernel_rfl)) ?_
  intro W base args ds gs before hval0 hW _ _
  have hval : ∀ (j : Nat) t v, Try.f3.params[j]? = some t → args[j]? = some v → Value.okWide Try.prog W .any base t v := hval0
  have hW' := hW
  obtain ⟨p, q, hA0, hV, rfl, hfz, hnd⟩ := hW
  have hA : DataW.TrodAll enc Try.prog W 0 (fun _ => true) true Try.f3.params.toList args.toList ds p := hA0
  rw [Try.params3] at hA hval
  obtain ⟨v0, v1, v2, d0, d1, d2, p0, p1, p2, rfl, rfl, rfl, h0, h1, h2⟩ := trodAll_three hA
  obtain ⟨b0, len0, cap0, rfl⟩ := okWide_slice Try.underlying22 (hval 0 22 v0 rfl rfl)
  have k0 := h0
  obtain ⟨fuel0, g0⟩ := h0
  obtain ⟨b1, len1, cap1, rfl⟩ := okWide_slice Try.underlying23 (hval 1 23 v1 rfl rfl)
  have k1 := h1
  obtain ⟨fuel1, g1⟩ := h1
  obtain ⟨b2, len2, cap2, rfl⟩ := okWide_slice Try.underlying24 (hval 2 24 v2 rfl rfl)
  have k2 := h2
  obtain ⟨fuel2, g2⟩ := h2
  obtain ⟨rfl, rfl⟩ := trodVars_none hV
  clear hA0 hval0
  simp only [List.append_nil] at hW'
  have hlt : ∀ x ∈ p0 ++ p1 ++ p2, x.block < W.heap.size := fun x hx => hW'.lt x (by simpa using hx)
  obtain ⟨xs0, r0⟩ := open_ranges g0
  obtain ⟨ao1, c1, xs1, hv1, r1⟩ := open_rows g1
  obtain ⟨ao2, c2, xs2, hv2, r2⟩ := open_strings g2
  refine Calls.mono (?walk : Calls _ _ _ _ fun e w' => e = .returned (.bool true) ∧ Below W.heap.size W w') fun e W' ⟨he, hw⟩ => ?_
  case walk =>
    rw [hv1]
    rw [hv2]
    exact dirPlays_walk W _ xs0 r0 ao1 c1 xs1 r1 ao2 c2 xs2 r2
  subst he
  exact ⟨_, rfl, post_of_below (pa := p0 ++ (p1 ++ p2)) (pv := []) hW' (fun _ _ _ => trodAll_mk1 (shut_bool Try.underlying4 _)) (fun sp hsp => trodAll_mk3 (WideElems.Trod_stays laidOut (by kernel_rfl) (of_decide_eq_true (by kernel_rfl)) k0 (fun x hx => hw.same (hlt x (by first | (simp [hx]; done) | exact nomatch hx))) (fun x hx => hsp x (by first | (simp [hx]; done) | exact nomatch hx))) (WideElems.Trod_stays laidOut (by kernel_rfl) (of_decide_eq_true (by kernel_rfl)) k1 (fun x hx => hw.same (hlt x (by first | (simp [hx]; done) | exact nomatch hx))) (fun x hx => hsp x (by first | (simp [hx]; done) | exact nomatch hx))) (WideElems.Trod_stays laidOut (by kernel_rfl) (of_decide_eq_true (by kernel_rfl)) k2 (fun x hx => hw.same (hlt x (by first | (simp [hx]; done) | exact nomatch hx))) (fun x hx => hsp x (by first | (simp [hx]; done) | exact nomatch hx)))) (fun _ _ => rfl) (by simp) hw (ok_one (by kernel_rfl) rfl (okWide_bool_mk Try.underlying4 _))⟩
/-- THE ROW. -/
theorem dirPlays_holds : Rows.DirPlaysSaid :=
  OpenClaim.holds_of_wide 3 Try.f3 rfl rfl rfl rfl rfl rfl rfl ⟨rfl, rfl, rfl, rfl, rfl⟩ rfl rfl rfl rfl rfl (by kernel_rfl) Try.func3 (by kernel_rfl)
    (of_decide_eq_true (by kernel_rfl)) (by unfold Func.isWrapper; first | (rw [if_pos (by decide +kernel)]; kernel_rfl) | (rw [if_neg (by decide +kernel)]; exact ⟨rfl, rfl⟩))
    (fun os started H enc _ => dirPlays_lifted os started H enc)
#print axioms dirPlays_holds
end Go.Proofs.Ytfcdajkgopcmpaa
