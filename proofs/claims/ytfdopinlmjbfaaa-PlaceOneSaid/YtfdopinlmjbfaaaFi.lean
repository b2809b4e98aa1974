/- What the chapter's examples fix comes out true. Conditions: none. -/
import Derived.Test.YtfdopinlmjbfaaaMd
import Derived.Test.YtfdopinlmjbfaaaHa
import Derived.Below
namespace Go.Proofs.Ytfdopinlmjbfaaa
open Go.RowKit
theorem check_nil (w : World) : Calls Try.prog 31 #[.slice none 0 0] w fun e w' => e = .returned (.int .i64 8) ∧ w = w' := by
  go_enter Try.func31, Try.ntmps31
  go_wp2
  go_ret
  exact ⟨rfl, rfl⟩
theorem point_one (w : World) : Calls Try.prog 18 #[.float .f64 4607182418800017408] w fun e w' => e = .returned (.tuple #[.float .f64 4607182418800017408, .int .i64 0]) ∧ w = w' := point_any _ (by decide) w
theorem mid_one_eq : midV 0 4607182418800017408 = (4602678819172646912, 0) := by decide +kernel
theorem mid_one (w : World) : Calls Try.prog 20 #[.float .f64 0, .float .f64 4607182418800017408] w fun e w' => e = .returned (.tuple #[.float .f64 4602678819172646912, .int .i64 0]) ∧ w = w' := by
  have := mid_any 0 4607182418800017408 (by decide) (by decide) w
  rw [mid_one_eq] at this
  exact this
theorem hash_empty (w : World) : Calls Try.prog 14 #[.string ⟨#[]⟩] w fun e w' => e = .returned (.int .u64 17280346270528514342) ∧ w = w' := by
  have := hash_any ⟨#[]⟩ (by decide) w
  rw [hash_none] at this
  exact this
theorem half_fin : 4602678819172646912 < infR := by decide
theorem of_fin (l : List UInt8) : ofH l < infR := Nat.lt_trans (of_spec l).2 one_fin
theorem k_test : (FloatKind.f64.format.order (ofH [107]) 4602678819172646912 == some .lt) = true := by
  rw [lt_test (of_fin _) half_fin, decide_eq_true of_k]
theorem a_test : (FloatKind.f64.format.order (ofH [97]) 4602678819172646912 == some .gt) = true := order_gt_t (of_fin _) half_fin of_a
set_option maxRecDepth 100000 in
theorem first_any (w : World) : Calls Try.prog 12 #[] w fun e w' => e = .returned (.bool true) ∧ w = w' := by
  have HK : ∀ w, Hid (Calls Try.prog 13 #[.string ⟨#[107]⟩] w fun e w' => e = .returned (.float .f64 (ofH [107])) ∧ w = w') := fun w => of_any ⟨#[107]⟩ (by decide) w
  have HA : ∀ w, Hid (Calls Try.prog 13 #[.string ⟨#[97]⟩] w fun e w' => e = .returned (.float .f64 (ofH [97])) ∧ w = w') := fun w => of_any ⟨#[97]⟩ (by decide) w
  have HB1 : ∀ w, Hid (Calls Try.prog 16 #[.float .f64 4607182418800017408, .float .f64 4607182418800017408] w fun e w' => e = .returned (.bool true) ∧ w = w') := fun w => bitsame_any _ _ w
  have HB2 : ∀ w, Hid (Calls Try.prog 16 #[.float .f64 4602678819172646912, .float .f64 4602678819172646912] w fun e w' => e = .returned (.bool true) ∧ w = w') := fun w => bitsame_any _ _ w
  have h1 := k_test
  have h2 := a_test
  generalize ofH [107] = x at *
  generalize ofH [97] = y at *
  go_enter Try.func12, Try.ntmps12
  go_wp2_with (first
    | (go_at_call 18; ((with_reducible refine (point_one _).mono ?_); rintro e w' ⟨rfl, rfl⟩))
    | (go_at_call 20; ((with_reducible refine (mid_one _).mono ?_); rintro e w' ⟨rfl, rfl⟩))
    | (go_at_call 14; ((with_reducible refine (hash_empty _).mono ?_); rintro e w' ⟨rfl, rfl⟩))
    | (go_at_call 31; ((with_reducible refine (check_nil _).mono ?_); rintro e w' ⟨rfl, rfl⟩))
    | (go_at_call 13; first | ((with_reducible refine (HK _).out.mono ?_); rintro e w' ⟨rfl, rfl⟩) | ((with_reducible refine (HA _).out.mono ?_); rintro e w' ⟨rfl, rfl⟩))
    | (go_at_call 16; first | ((with_reducible refine (HB1 _).out.mono ?_); rintro e w' ⟨rfl, rfl⟩) | ((with_reducible refine (HB2 _).out.mono ?_); rintro e w' ⟨rfl, rfl⟩)))
  go_ret
  exact ⟨rfl, rfl⟩
end Go.Proofs.Ytfdopinlmjbfaaa
