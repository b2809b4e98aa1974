/- racelaw14.DirGroups answers true, whatever came in: each key of those that are grouped stands in just one group, once, that of the range to which it is routed; groups rise, and none is empty. Conditions: none. -/
import Derived.Test.YtfcdajkgopcmpaaJEe
import Derived.Test.YtfcdajkgopcmpaaJZ
namespace Go.Proofs.Ytfcdajkgopcmpaa
open Go.ChangeShapes Go.WideShapes Go.ChangeAt Go.RowKit
theorem dirGroups_walk (w : World) (a : Int) (_h1 : -9223372036854775808 ≤ a) (_h2 : a ≤ 9223372036854775807) (v : Value) (l : List RV) (h : HasR (fun k => k < w.heap.size) w v l ∧ (∀ r ∈ l, r.wf) ∧ l.length ≤ maxLen)
    (ko : Option Addr) (kcap : Nat) (ks : List Str) (hk : KS w.heap.size w ko ks.length kcap ks) :
    Calls Try.prog 5 #[.int .i64 a, v, .slice ko ks.length kcap] w fun e w' => e = .returned (.bool true) ∧ Below w.heap.size w w' := by
  by_cases hb : a < 1 ∨ 12 < a
  · obtain ⟨vo, vc, rfl, _⟩ := hasR_len h.1
    exact groups_bad w a hb vo _ vc ko _ kcap ks hk
  · obtain ⟨n, rfl⟩ : ∃ n : Nat, a = (n : Int) := ⟨a.toNat, by omega⟩
    by_cases hp : l.length ≤ 100 ∧ PK ks
    · by_cases hE : errK (learnL (evenV n) l).1 (bys ks) = 0
      · exact groups_ok w n (by omega) (by omega) h.1 h.2.1 hp.1 ko _ kcap ks hk hp.2 hE
      · exact groups_err w n (by omega) (by omega) h.1 h.2.1 hp.1 ko _ kcap ks hk hp.2 hE
    · obtain ⟨vo, vc, rfl, _⟩ := hasR_len h.1
      exact groups_out w n vo _ vc ko _ kcap ks hk hp

set_option maxRecDepth 100000 in
theorem dirGroups_lifted (os : Os) (started : os.Started) (H : Type) (enc : TypeId × Value → H) :
    ReturnsInHanded {} Try.checked os 5 .any (Rows.dirGroupsSpec.pre6 enc Try.prog Try.f5 [] false) (Rows.dirGroupsSpec.post enc Try.prog Try.f5 false true false false) := by
  refine returnsInHanded_of_change (C := Try.checked) own started (by kernel_rfl) Try.func5
    (ChangeSpec.witness6 (enc := enc) (C := Try.checked) false ⟨#[], #[.int .i64 0, .slice none 0 0, .slice none 0 0], []⟩ 8 (by kernel_rfl) (by kernel_rfl) (by kernel_rfl) (by kernel_rfl)) ?_
  intro W base args ds gs before hval0 hW _ _
  have hval : ∀ (j : Nat) t v, Try.f5.params[j]? = some t → args[j]? = some v → Value.okWide Try.prog W .any base t v := hval0
  have hW' := hW
  obtain ⟨p, q, hA0, hV, rfl, hfz, hnd⟩ := hW
  have hA : DataW.TrodAll enc Try.prog W 0 (fun _ => true) true Try.f5.params.toList args.toList ds p := hA0
  rw [Try.params5] at hA hval
  obtain ⟨v0, v1, v2, d0, d1, d2, p0, p1, p2, rfl, rfl, rfl, h0, h1, h2⟩ := trodAll_three hA
  obtain ⟨a0, rfl, rfl, rfl, wf0⟩ := open_int Try.underlying3 (hval 0 3 v0 rfl rfl) h0
  obtain ⟨b1, len1, cap1, rfl⟩ := okWide_slice Try.underlying22 (hval 1 22 v1 rfl rfl)
  have k1 := h1
  obtain ⟨fuel1, g1⟩ := h1
  obtain ⟨b2, len2, cap2, rfl⟩ := okWide_slice Try.underlying24 (hval 2 24 v2 rfl rfl)
  have k2 := h2
  obtain ⟨fuel2, g2⟩ := h2
  obtain ⟨rfl, rfl⟩ := trodVars_none hV
  clear hA0 hval0
  simp only [List.append_nil] at hW'
  have hlt : ∀ x ∈ [] ++ p1 ++ p2, x.block < W.heap.size := fun x hx => hW'.lt x (by simpa using hx)
  have hwf0 := wf0
  simp [Lit.wf, IntKind.min, IntKind.max, IntKind.signed, IntKind.bits] at hwf0
  obtain ⟨xs1, r1⟩ := open_ranges g1
  obtain ⟨ao2, c2, xs2, hv2, r2⟩ := open_strings g2
  refine Calls.mono (?walk : Calls _ _ _ _ fun e w' => e = .returned (.bool true) ∧ Below W.heap.size W w') fun e W' ⟨he, hw⟩ => ?_
  case walk =>
    rw [hv2]
    exact dirGroups_walk W a0 (by omega) (by omega) _ xs1 r1 ao2 c2 xs2 r2
  subst he
  exact ⟨_, rfl, post_of_below (pa := [] ++ (p1 ++ p2)) (pv := []) hW' (fun _ _ _ => trodAll_mk1 (shut_bool Try.underlying4 _)) (fun sp hsp => trodAll_mk3 (shut_int Try.underlying3 wf0) (WideElems.Trod_stays laidOut (by kernel_rfl) (of_decide_eq_true (by kernel_rfl)) k1 (fun x hx => hw.same (hlt x (by first | (simp [hx]; done) | exact nomatch hx))) (fun x hx => hsp x (by first | (simp [hx]; done) | exact nomatch hx))) (WideElems.Trod_stays laidOut (by kernel_rfl) (of_decide_eq_true (by kernel_rfl)) k2 (fun x hx => hw.same (hlt x (by first | (simp [hx]; done) | exact nomatch hx))) (fun x hx => hsp x (by first | (simp [hx]; done) | exact nomatch hx)))) (fun _ _ => rfl) (by simp) hw (ok_one (by kernel_rfl) rfl (okWide_bool_mk Try.underlying4 _))⟩
/-- THE ROW. -/
theorem dirGroups_holds : Rows.DirGroupsSaid :=
  OpenClaim.holds_of_wide 5 Try.f5 rfl rfl rfl rfl rfl rfl rfl ⟨rfl, rfl, rfl, rfl, rfl⟩ rfl rfl rfl rfl rfl (by kernel_rfl) Try.func5 (by kernel_rfl)
    (of_decide_eq_true (by kernel_rfl)) (by unfold Func.isWrapper; first | (rw [if_pos (by decide +kernel)]; kernel_rfl) | (rw [if_neg (by decide +kernel)]; exact ⟨rfl, rfl⟩))
    (fun os started H enc _ => dirGroups_lifted os started H enc)
#print axioms dirGroups_holds
end Go.Proofs.Ytfcdajkgopcmpaa
