/- So many ranges, all of one size, are those by the document, and a cover: racelaw4.PlaceEven answers true. Conditions: none. -/
import Derived.Test.YtfdopinlmjbfaaaCp
import Derived.Test.YtfdopinlmjbfaaaEv
import Derived.Test.YtfdopinlmjbfaaaSm
namespace Go.Proofs.Ytfdopinlmjbfaaa
open Go.ChangeShapes Go.WideShapes Go.ChangeAt Go.RowKit
theorem has_none (w : World) : HasR (fun k => k < w.heap.size) w (.slice none 0 0) [] := ⟨none, 0, rfl, Nat.le_refl _, by decide, fun _ => ⟨rfl, rfl⟩, .inl rfl⟩
theorem placeEven_bad (w : World) (a : Int) (h : a < 1 ∨ 12 < a) :
    Calls Try.prog 7 #[.int .i64 a] w fun e w' => e = .returned (.bool true) ∧ Below w.heap.size w w' := by
  have H1 := fun w => Lib.hid (even_bad a h w)
  have H2 := fun w => Lib.hid (reven_bad a h w)
  clear h
  go_enter Try.func7, Try.ntmps7
  go_wp2_with (first
    | (go_at_call 12; ((with_reducible refine (first_any _).mono ?_); rintro e w' ⟨rfl, rfl⟩))
    | (go_at_call 34; ((with_reducible refine (H1 _).out.mono ?_); rintro e w' ⟨rfl, rfl⟩))
    | (go_at_call 35; ((with_reducible refine (H2 _).out.mono ?_); rintro e w' ⟨rfl, rfl⟩))
    | (go_at_call 33; ((with_reducible refine (ranges_same (has_none _) (has_none _) (by decide)).mono ?_); rintro e w2 ⟨rfl, hb⟩; have HB := Lib.hid hb; clear hb)))
  go_ret
  exact ⟨rfl, HB.out⟩
theorem even_wf {n : Nat} (h0 : 0 < n) (h : n ≤ 12) : ∀ r ∈ evenV n, r.wf := by
  intro r hr
  obtain ⟨a, b, c, d, e, f⟩ := may_pts ((even_cov h0 h).may r hr)
  unfold ptB at a b
  rw [decide_eq_true_eq] at a b
  obtain ⟨i, hi, rfl⟩ := List.mem_map.1 hr
  have hi2 := List.mem_range.1 hi
  have h1 : oneB < 18446744073709551616 := by decide
  exact ⟨⟨by omega, by omega⟩, ⟨(by decide : (-9223372036854775808 : Int) ≤ 0), (by decide : (0 : Int) < 9223372036854775808)⟩, Nat.lt_of_le_of_lt a h1, Nat.lt_of_le_of_lt b h1⟩
theorem placeEven_ok (w : World) (n : Nat) (h0 : 0 < n) (h : n ≤ 12) :
    Calls Try.prog 7 #[.int .i64 n] w fun e w' => e = .returned (.bool true) ∧ Below w.heap.size w w' := by
  have H1 := fun w => Lib.hid (even_any n h0 h w)
  have H2 := fun w => Lib.hid (reven_any n h0 h w)
  have HC := Lib.hid (even_check n (by omega) (by omega))
  have HW := Lib.hid (even_wf h0 h)
  have HL := Lib.hid (even_length n)
  have hn : n ≤ 1000000 := by omega
  clear h0 h
  generalize evenV n = l at *
  have own_has : ∀ {w : World} {b : Nat} {v : Value}, w.ownsRow b 34 4 v n (cellsR l) → HasR (fun k => b ≤ k) w v l := by
    intro w b v h
    rw [← HL.out] at h
    exact own_ranges h
  have OWN := @own_has
  clear own_has
  go_enter Try.func7, Try.ntmps7
  go_wp2_with (first
    | (go_at_call 12; ((with_reducible refine (first_any _).mono ?_); rintro e w' ⟨rfl, rfl⟩))
    | (go_at_call 34; ((with_reducible refine (H1 _).out.mono ?_); rintro e w1 ⟨v, rfl, ho, hb⟩; have HV := Lib.hid (OWN ho); have HB := Lib.hid hb; clear ho hb))
    | (go_at_call 35; ((with_reducible refine (H2 _).out.mono ?_); rintro e w2 ⟨u, rfl, ho, hb⟩; have HU := Lib.hid (OWN ho); have HV := Lib.hid (HV.out.below hb); have HB := Lib.hid (HB.out.trans (hb.mono HB.out.size)); clear ho hb))
    | (go_at_call 33; ((with_reducible refine (ranges_same HV.out HU.out (by rw [HL.out]; exact hn)).mono ?_); rintro e w3 ⟨rfl, hb⟩; have HV := Lib.hid (HV.out.below hb); have HB := Lib.hid (HB.out.trans (hb.mono HB.out.size)); clear hb))
    | (go_at_call 31; ((with_reducible refine (check_any HV.out HW.out).mono ?_); rw [HC.out]; rintro e w4 ⟨rfl, hb⟩; have HB := Lib.hid (HB.out.trans (hb.mono HB.out.size)); clear hb)))
  go_ret
  exact ⟨rfl, HB.out⟩
theorem placeEven_walk (w : World) (a : Int) (_ : -9223372036854775808 ≤ a) (_ : a ≤ 9223372036854775807) :
    Calls Try.prog 7 #[.int .i64 a] w fun e w' => e = .returned (.bool true) ∧ Below w.heap.size w w' := by
  by_cases h : a < 1 ∨ 12 < a
  · exact placeEven_bad w a h
  · obtain ⟨n, rfl⟩ : ∃ n : Nat, a = (n : Int) := ⟨a.toNat, by omega⟩
    exact placeEven_ok w n (by omega) (by omega)

set_option maxRecDepth 100000 in
theorem placeEven_lifted (os : Os) (started : os.Started) (H : Type) (enc : TypeId × Value → H) :
    ReturnsInHanded {} Try.checked os 7 .any (Rows.placeEvenSpec.pre6 enc Try.prog Try.f7 [] false) (Rows.placeEvenSpec.post enc Try.prog Try.f7 false true false false) := by
  refine returnsInHanded_of_change (C := Try.checked) own started (by kernel_rfl) Try.func7
    (ChangeSpec.witness6 (enc := enc) (C := Try.checked) false ⟨#[], #[.int .i64 0], []⟩ 8 (by kernel_rfl) (by kernel_rfl) (by kernel_rfl) (by kernel_rfl)) ?_
  intro W base args ds gs before hval0 hW _ _
  have hval : ∀ (j : Nat) t v, Try.f7.params[j]? = some t → args[j]? = some v → Value.okWide Try.prog W .any base t v := hval0
  have hW' := hW
  obtain ⟨p, q, hA0, hV, rfl, hfz, hnd⟩ := hW
  have hA : DataW.TrodAll enc Try.prog W 0 (fun _ => true) true Try.f7.params.toList args.toList ds p := hA0
  rw [Try.params7] at hA hval
  obtain ⟨v0, d0, rfl, rfl, h0⟩ := trodAll_one hA
  obtain ⟨a0, rfl, rfl, rfl, wf0⟩ := open_int Try.underlying3 (hval 0 3 v0 rfl rfl) h0
  obtain ⟨rfl, rfl⟩ := trodVars_none hV
  clear hA0 hval0
  simp only [List.append_nil] at hW'
  have hwf0 := wf0
  simp [Lit.wf, IntKind.min, IntKind.max, IntKind.signed, IntKind.bits] at hwf0
  refine Calls.mono (?walk : Calls _ _ _ _ fun e w' => e = .returned (.bool true) ∧ Below W.heap.size W w') fun e W' ⟨he, hw⟩ => ?_
  case walk =>
    exact placeEven_walk W a0 (by omega) (by omega)
  subst he
  exact ⟨_, rfl, post_of_below (pa := []) (pv := []) hW' (fun _ _ _ => trodAll_mk1 (shut_bool Try.underlying4 _)) (fun sp hsp => trodAll_mk1 (shut_int Try.underlying3 wf0)) (fun _ _ => rfl) (by simp) hw (ok_one (by kernel_rfl) rfl (okWide_bool_mk Try.underlying4 _))⟩
/-- THE ROW. -/
theorem placeEven_holds : Rows.PlaceEvenSaid :=
  OpenClaim.holds_of_wide 7 Try.f7 rfl rfl rfl rfl rfl rfl rfl ⟨rfl, rfl, rfl, rfl, rfl⟩ rfl rfl rfl rfl rfl (by kernel_rfl) Try.func7 (by kernel_rfl)
    (of_decide_eq_true (by kernel_rfl)) (by unfold Func.isWrapper; first | (rw [if_pos (by decide +kernel)]; kernel_rfl) | (rw [if_neg (by decide +kernel)]; exact ⟨rfl, rfl⟩))
    (fun os started H enc _ => placeEven_lifted os started H enc)
#print axioms placeEven_holds
end Go.Proofs.Ytfdopinlmjbfaaa
