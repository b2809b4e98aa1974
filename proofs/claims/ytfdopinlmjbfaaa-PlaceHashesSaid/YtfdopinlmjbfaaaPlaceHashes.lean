/- Any text's hash and place are those by the document: racelaw4.PlaceHashes answers true and leaves its argument as it was. Conditions: none. -/
import Derived.Test.YtfdopinlmjbfaaaFi
import Derived.Test.YtfdopinlmjbfaaaZ
namespace Go.Proofs.Ytfdopinlmjbfaaa
open Go.ChangeShapes Go.WideShapes Go.ChangeAt Go.RowKit
theorem bytes_self (s : ByteArray) : (⟨s.data.toList.toArray⟩ : ByteArray) = s := rfl
theorem of_tests (l : List UInt8) : (FloatKind.f64.format.order (ofH l) 4607182418800017408 == some .lt) = true ∧ ((FloatKind.f64.format.order (ofH l) 0 == some .gt) || (FloatKind.f64.format.order (ofH l) 0 == some .eq)) = true := by
  have h1 := (of_spec l).2
  refine ⟨(lt_test (of_fin l) one_fin).trans (decide_eq_true h1), ?_⟩
  by_cases h0 : ofH l = 0
  · rw [h0]; decide
  · have : (FloatKind.f64.format.order (ofH l) 0 == some .gt) = true := order_gt_t (of_fin l) (by decide) (by omega)
    rw [this]; rfl
set_option maxRecDepth 100000 in
theorem placeHashes_walk (W : World) (s : List UInt8) (hs : s.length ≤ 9223372036854775807) : Calls Try.prog 3 #[.string ⟨s.toArray⟩] W fun e w' => e = .returned (.bool true) ∧ Below W.heap.size W w' := by
  have HH := fun w => Lib.hid (hash_any ⟨s.toArray⟩ hs w)
  have HR := fun w => Lib.hid (rhash_any ⟨s.toArray⟩ hs w)
  have HO := fun w => Lib.hid (of_any ⟨s.toArray⟩ hs w)
  have HP := fun w => Lib.hid (rof_any ⟨s.toArray⟩ hs w)
  have HB := fun w => Lib.hid (bitsame_any (ofH s) (ofH s) w)
  rw [beq_self_eq_true] at HB
  have ht := of_tests s
  obtain ⟨h1, h2⟩ := ht
  have hsz : ((⟨s.toArray⟩ : ByteArray).size : Int) = (s.length : Int) := rfl
  have hz : (hashH s == hashH s) = true := beq_self_eq_true _
  rw [show (⟨s.toArray⟩ : ByteArray).data.toList = s from rfl] at HH HR HO HP
  generalize ofH s = x at *
  generalize hashH s = y at *
  clear hs
  by_cases hc : (20000 : Int) < (s.length : Int)
  all_goals
    go_enter Try.func3, Try.ntmps3
    go_wp2_with (first
      | (go_at_call 12; ((with_reducible refine (first_any _).mono ?_); rintro e w' ⟨rfl, rfl⟩))
      | (go_at_call 13; ((with_reducible refine (HO _).out.mono ?_); rintro e w' ⟨rfl, rfl⟩))
      | (go_at_call 14; ((with_reducible refine (HH _).out.mono ?_); rintro e w' ⟨rfl, rfl⟩))
      | (go_at_call 15; ((with_reducible refine (HR _).out.mono ?_); rintro e w' ⟨rfl, rfl⟩))
      | (go_at_call 17; ((with_reducible refine (HP _).out.mono ?_); rintro e w' ⟨rfl, rfl⟩))
      | (go_at_call 16; ((with_reducible refine (HB _).out.mono ?_); rintro e w' ⟨rfl, rfl⟩)))
  all_goals
    go_ret
    exact ⟨rfl, Below.refl _ _⟩

set_option maxRecDepth 100000 in
theorem placeHashes_lifted (os : Os) (started : os.Started) (H : Type) (enc : TypeId × Value → H) :
    ReturnsInHanded {} Try.checked os 3 .any (Rows.placeHashesSpec.pre6 enc Try.prog Try.f3 [] false) (Rows.placeHashesSpec.post enc Try.prog Try.f3 false true false false) := by
  refine returnsInHanded_of_change (C := Try.checked) own started (by kernel_rfl) Try.func3
    (ChangeSpec.witness6 (enc := enc) (C := Try.checked) false ⟨#[], #[.string ⟨#[]⟩], []⟩ 8 (by kernel_rfl) (by kernel_rfl) (by kernel_rfl) (by kernel_rfl)) ?_
  intro W base args ds gs before hval0 hW _ _
  have hval : ∀ (j : Nat) t v, Try.f3.params[j]? = some t → args[j]? = some v → Value.okWide Try.prog W .any base t v := hval0
  have hW' := hW
  obtain ⟨p, q, hA0, hV, rfl, hfz, hnd⟩ := hW
  have hA : DataW.TrodAll enc Try.prog W 0 (fun _ => true) true Try.f3.params.toList args.toList ds p := hA0
  rw [Try.params3] at hA hval
  obtain ⟨v0, d0, rfl, rfl, h0⟩ := trodAll_one hA
  obtain ⟨s0, rfl, rfl, rfl, wf0⟩ := ChangeMaps.open_string Try.underlying9 (hval 0 9 v0 rfl rfl) h0
  obtain ⟨rfl, rfl⟩ := trodVars_none hV
  clear hA0 hval0
  simp only [List.append_nil] at hW'
  have hwf0 : s0.data.toList.length ≤ 9223372036854775807 := by
    have e : s0.data.toList.length = s0.size := by rw [Array.length_toList]; rfl
    rw [e]; unfold maxLen at wf0; omega
  refine Calls.mono (?walk : Calls _ _ _ _ fun e w' => e = .returned (.bool true) ∧ Below W.heap.size W w') fun e W' ⟨he, hw⟩ => ?_
  case walk =>
    rw [← bytes_self s0]
    exact placeHashes_walk W s0.data.toList hwf0
  subst he
  exact ⟨_, rfl, post_of_below (pa := []) (pv := []) hW' (fun _ _ _ => trodAll_mk1 (shut_bool Try.underlying4 _)) (fun sp hsp => trodAll_mk1 (ChangeMaps.shut_string Try.underlying9 wf0)) (fun _ _ => rfl) (by simp) hw (ok_one (by kernel_rfl) rfl (okWide_bool_mk Try.underlying4 _))⟩
/-- THE ROW. -/
theorem placeHashes_holds : Rows.PlaceHashesSaid :=
  OpenClaim.holds_of_wide 3 Try.f3 rfl rfl rfl rfl rfl rfl rfl ⟨rfl, rfl, rfl, rfl, rfl⟩ rfl rfl rfl rfl rfl (by kernel_rfl) Try.func3 (by kernel_rfl)
    (of_decide_eq_true (by kernel_rfl)) (by unfold Func.isWrapper; first | (rw [if_pos (by decide +kernel)]; kernel_rfl) | (rw [if_neg (by decide +kernel)]; exact ⟨rfl, rfl⟩))
    (fun os started H enc _ => placeHashes_lifted os started H enc)
#print axioms placeHashes_holds
end Go.Proofs.Ytfdopinlmjbfaaa
