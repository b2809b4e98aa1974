/- Points, by place and by the document. Conditions: bits below 2^64. -/
import Derived.Test.YtfcdajkgopcmpaaJB
import Derived.Test.YtfcdajkgopcmpaaJC
import Derived.Test.YtfcdajkgopcmpaaJE
import Derived.Laws.BitsAllLaws
namespace Go.Proofs.Ytfcdajkgopcmpaa
open Go.RowKit
theorem bitsame_any (a b : Nat) (w : World) : Calls Try.prog 35 #[.float .f64 a, .float .f64 b] w fun e w' => e = .returned (.bool (a == b)) ∧ w = w' := by
  have hf := run_tobits
  have HE : Hid ((((a : Nat) : Int) == ((b : Nat) : Int)) = (a == b)) := by
    show _ = _
    by_cases h : a = b
    · subst h; simp
    · rw [beq_eq_false_iff_ne.2 h, beq_eq_false_iff_ne]; omega
  go_enter Try.func35, Try.ntmps35
  go_wp2
  go_ret
  rw [← HE.out]
  exact ⟨rfl, rfl⟩
theorem wneg (b : Nat) (hb : b < 18446744073709551616) : decide (wrap64 (b : Int) < 0) = decide (9223372036854775808 ≤ b) := by
  rw [decide_eq_decide]
  unfold wrap64
  omega
theorem signbit_any (b : Nat) (hb : b < 18446744073709551616) (w : World) : Calls Try.prog 63 #[.float .f64 b] w fun e w' => e = .returned (.bool (decide (9223372036854775808 ≤ b))) ∧ w = w' := by
  have hr := run_tobits b
  have HW := Lib.hid (wneg b hb)
  clear hb
  go_enter Try.func63, Try.ntmps63
  go_wp2
  go_ret
  exact ⟨congrArg (fun x => Ending.returned (.bool x)) HW.out, rfl⟩
def ptB (b : Nat) : Bool := decide (b ≤ oneB)
theorem isPoint_any (b : Nat) (hb : b < 18446744073709551616) (w : World) : Calls Try.prog 53 #[.float .f64 b] w fun e w' => e = .returned (.bool (ptB b)) ∧ w = w' := by
  have HS := fun w => Lib.hid (signbit_any b hb w)
  have hov : oneB = 4607182418800017408 := rfl
  rcases float_ways hb with ⟨e, h1, h2⟩ | ⟨e1, e2, h1, h2⟩ | ⟨e, h1, h2⟩ | ⟨e1, e2, h1, h2⟩ | ⟨e, h1, h2⟩ | ⟨e, h1, h2⟩ | ⟨e, h1, h2⟩
  case' inl => have HB : Hid (ptB b = true) := decide_eq_true (by omega); rw [decide_eq_false (by omega)] at HS
  case' inr.inl => have HB : Hid (ptB b = true) := decide_eq_true (by omega); rw [decide_eq_false (by omega)] at HS
  case' inr.inr.inl => have HB : Hid (ptB b = true) := decide_eq_true (by omega); rw [decide_eq_false (by omega)] at HS
  case' inr.inr.inr.inl => have HB : Hid (ptB b = false) := decide_eq_false (by omega)
  case' inr.inr.inr.inr.inl => have HB : Hid (ptB b = false) := decide_eq_false (by omega)
  case' inr.inr.inr.inr.inr.inl => have HB : Hid (ptB b = false) := decide_eq_false (by omega); rw [decide_eq_true (by omega)] at HS
  case' inr.inr.inr.inr.inr.inr => have HB : Hid (ptB b = false) := decide_eq_false (by omega)
  all_goals
    have h1' : FloatKind.f64.format.order b 0 = _ := h1
    have h2' : FloatKind.f64.format.order b 4607182418800017408 = _ := h2
    clear h1 h2 hov hb
    try clear e
    try clear e1
    try clear e2
    go_enter Try.func53, Try.ntmps53
    go_wp2_with (go_at_call 63; ((with_reducible refine (HS _).out.mono ?_); rintro e w' ⟨rfl, rfl⟩))
    go_ret
    rw [HB.out]
    exact ⟨rfl, rfl⟩
theorem is_any (b : Nat) (hb : b < 18446744073709551616) (w : World) : Calls Try.prog 42 #[.float .f64 b] w fun e w' => e = .returned (.bool (ptB b)) ∧ w = w' := by
  have HS := fun w => Lib.hid (bitsame_any b 0 w)
  have hov : oneB = 4607182418800017408 := rfl
  rcases float_ways hb with ⟨e, h1, h2⟩ | ⟨e1, e2, h1, h2⟩ | ⟨e, h1, h2⟩ | ⟨e1, e2, h1, h2⟩ | ⟨e, h1, h2⟩ | ⟨e, h1, h2⟩ | ⟨e, h1, h2⟩
  case' inl => have HB : Hid (ptB b = true) := decide_eq_true (by omega); rw [beq_iff_eq.2 (by omega)] at HS
  case' inr.inl => have HB : Hid (ptB b = true) := decide_eq_true (by omega); rw [beq_eq_false_iff_ne.2 (by omega)] at HS
  case' inr.inr.inl => have HB : Hid (ptB b = true) := decide_eq_true (by omega); rw [beq_eq_false_iff_ne.2 (by omega)] at HS
  case' inr.inr.inr.inl => have HB : Hid (ptB b = false) := decide_eq_false (by omega); rw [beq_eq_false_iff_ne.2 (by omega)] at HS
  case' inr.inr.inr.inr.inl => have HB : Hid (ptB b = false) := decide_eq_false (by omega); rw [beq_eq_false_iff_ne.2 (by omega)] at HS
  case' inr.inr.inr.inr.inr.inl => have HB : Hid (ptB b = false) := decide_eq_false (by omega); rw [beq_eq_false_iff_ne.2 (by omega)] at HS
  case' inr.inr.inr.inr.inr.inr => have HB : Hid (ptB b = false) := decide_eq_false (by omega); rw [beq_eq_false_iff_ne.2 (by omega)] at HS
  all_goals
    have h1' : FloatKind.f64.format.order b 0 = _ := h1
    have h2' : FloatKind.f64.format.order b 4607182418800017408 = _ := h2
    clear h1 h2 hov hb
    try clear e
    try clear e1
    try clear e2
    go_enter Try.func42, Try.ntmps42
    go_wp2_with (go_at_call 35; ((with_reducible refine (HS _).out.mono ?_); rintro e w' ⟨rfl, rfl⟩))
    go_ret
    rw [HB.out]
    exact ⟨rfl, rfl⟩
/-- What Point answers: the point and the error. -/
def pointV (b : Nat) : Nat × Int := if b = 0 ∨ b = 9223372036854775808 then (0, 0) else if ptB b = true then (b, 0) else (0, 1)
theorem zero_test {b : Nat} (hb : b < 18446744073709551616) : (FloatKind.f64.format.order b 0 == some .eq) = decide (b = 0 ∨ b = 9223372036854775808) := by
  have hov : oneB = 4607182418800017408 := rfl
  have key : ∀ o : Option Ordering, Ieee.double.order b 0 = o → (o == some .eq) = decide (b = 0 ∨ b = 9223372036854775808) → (FloatKind.f64.format.order b 0 == some .eq) = decide (b = 0 ∨ b = 9223372036854775808) := by
    intro o h1 h2
    have h3 : FloatKind.f64.format.order b 0 = o := h1
    rw [h3, h2]
  rcases float_ways hb with ⟨e, h1, h2⟩ | ⟨e1, e2, h1, h2⟩ | ⟨e, h1, h2⟩ | ⟨e1, e2, h1, h2⟩ | ⟨e, h1, h2⟩ | ⟨e, h1, h2⟩ | ⟨e, h1, h2⟩
  · exact key _ h1 (by rw [decide_eq_true (by omega)]; rfl)
  · exact key _ h1 (by rw [decide_eq_false (by omega)]; rfl)
  · exact key _ h1 (by rw [decide_eq_false (by omega)]; rfl)
  · exact key _ h1 (by rw [decide_eq_false (by omega)]; rfl)
  · have hn : ¬ (b = 0 ∨ b = 9223372036854775808) := by
      intro e0
      rcases e0 with e0 | e0
      · omega
      · rw [e0] at h1; revert h1; decide
    exact key _ h1 (by rw [decide_eq_false hn]; rfl)
  · exact key _ h1 (by rw [decide_eq_true (by omega)]; rfl)
  · exact key _ h1 (by rw [decide_eq_false (by omega)]; rfl)
end Go.Proofs.Ytfcdajkgopcmpaa
