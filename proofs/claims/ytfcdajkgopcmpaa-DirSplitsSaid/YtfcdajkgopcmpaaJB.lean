/- Contracts of the small functions of packages num and raceref1 that only compute on a float's bits. Conditions: none. -/
import Derived.Test.YtfcdajkgopcmpaaProg
import Derived.Test.YtfcdajkgopcmpaaJA
import Derived.WalkKit
import Derived.WalkLawsBesides
import Derived.Lib.Hide
namespace Go.Proofs.Ytfcdajkgopcmpaa
open Go.RowKit

/-- math.Float64bits, math.Float64frombits. -/
theorem run_tobits (b : Nat) (w : World) : (callFunc 48 #[.float .f64 b]).run Try.prog w = .ok (.value (.int .u64 b)) w := by
  rw [run_callFunc_extern Try.func48 (by kernel_rfl) (by kernel_rfl) (by kernel_rfl) (e := Extern.MathFloatBits.float64bits) (by kernel_rfl)]
  rfl
theorem run_frombits (n : Int) (w : World) : (callFunc 103 #[.int .u64 n]).run Try.prog w = .ok (.value (.float .f64 n.toNat)) w := by
  rw [run_callFunc_extern Try.func103 (by kernel_rfl) (by kernel_rfl) (by kernel_rfl) (e := Extern.MathFloatBits.float64frombits) (by kernel_rfl)]
  rfl
theorem run_frombits_nat (n : Nat) (w : World) : (callFunc 103 #[.int .u64 (n : Int)]).run Try.prog w = .ok (.value (.float .f64 n)) w := run_frombits n w
theorem run_frombits_nan (w : World) : (callFunc 103 #[.int .u64 9221120237041090560]).run Try.prog w = .ok (.value (.float .f64 oneNaN)) w := run_frombits _ w

theorem isNaN_yes (b : Nat) (w : World) (h : nanB b = true) : Calls Try.prog 102 #[.float .f64 b] w fun e w' => e = .returned (.bool true) ∧ w = w' := by
  have h2 : (FloatKind.f64.format.order b b != some .eq) = true := (neq_self b).trans h
  go_enter Try.func102, Try.ntmps102
  go_wp2
  go_ret
  exact ⟨rfl, rfl⟩
theorem isNaN_no (b : Nat) (w : World) (h : nanB b = false) : Calls Try.prog 102 #[.float .f64 b] w fun e w' => e = .returned (.bool false) ∧ w = w' := by
  have h2 : (FloatKind.f64.format.order b b != some .eq) = false := (neq_self b).trans h
  go_enter Try.func102, Try.ntmps102
  go_wp2
  go_ret
  exact ⟨rfl, rfl⟩
set_option maxRecDepth 100000 in
theorem canon_any (b : Nat) (w : World) : Calls Try.prog 96 #[.float .f64 b] w fun e w' => e = .returned (.float .f64 (canon b)) ∧ w = w' := by
  cases h : nanB b
  · rw [canon_num h]
    have H := Lib.hid h; clear h
    go_enter Try.func96, Try.ntmps96
    go_wp2_with (go_at_call 102; refine (isNaN_no _ _ H.out).mono ?_; rintro e w' ⟨rfl, rfl⟩)
    go_ret
    exact ⟨rfl, rfl⟩
  · rw [canon_nan h]
    have H := Lib.hid h; clear h
    have hf := run_frombits_nan
    go_enter Try.func96, Try.ntmps96
    go_wp2_with (go_at_call 102; refine (isNaN_yes _ _ H.out).mono ?_; rintro e w' ⟨rfl, rfl⟩)
    go_ret
    exact ⟨rfl, rfl⟩
theorem bits_any (b : Nat) (w : World) : Calls Try.prog 81 #[.float .f64 b] w fun e w' => e = .returned (.int .u64 (canon b : Nat)) ∧ w = w' := by
  have hf := run_tobits
  go_enter Try.func81, Try.ntmps81
  go_wp2_with (go_at_call 96; refine (canon_any _ _).mono ?_; rintro e w' ⟨rfl, rfl⟩)
  go_ret
  exact ⟨rfl, rfl⟩
/-- raceref.Bits: the same bits. -/
theorem same_yes (a : Nat) (w : World) : Calls Try.prog 35 #[.float .f64 a, .float .f64 a] w fun e w' => e = .returned (.bool true) ∧ w = w' := by
  have hf := run_tobits
  go_enter Try.func35, Try.ntmps35
  go_wp2
  go_ret
  exact ⟨by simp, rfl⟩
end Go.Proofs.Ytfcdajkgopcmpaa
