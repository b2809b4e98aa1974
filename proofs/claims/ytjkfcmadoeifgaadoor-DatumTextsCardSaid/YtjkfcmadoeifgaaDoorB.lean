/- Contracts of the small functions of packages num and raceref1 that only compute on a float's bits. Conditions: none. -/
import Derived.Test.YtjkfcmadoeifgaaDoorProg
import Derived.Test.YtjkfcmadoeifgaaDoorA
import Derived.WalkKit
import Derived.WalkLawsBesides
import Derived.Lib.Hide
namespace Go.Proofs.YtjkfcmadoeifgaaDoor
open Go.RowKit

/-- math.Float64bits, math.Float64frombits. -/
theorem run_tobits (b : Nat) (w : World) : (callFunc 33 #[.float .f64 b]).run Tryd.prog w = .ok (.value (.int .u64 b)) w := by
  rw [run_callFunc_extern Tryd.func33 (by kernel_rfl) (by kernel_rfl) (by kernel_rfl) (e := Extern.MathFloatBits.float64bits) (by kernel_rfl)]
  rfl
theorem run_frombits (n : Int) (w : World) : (callFunc 53 #[.int .u64 n]).run Tryd.prog w = .ok (.value (.float .f64 n.toNat)) w := by
  rw [run_callFunc_extern Tryd.func53 (by kernel_rfl) (by kernel_rfl) (by kernel_rfl) (e := Extern.MathFloatBits.float64frombits) (by kernel_rfl)]
  rfl
theorem run_frombits_nat (n : Nat) (w : World) : (callFunc 53 #[.int .u64 (n : Int)]).run Tryd.prog w = .ok (.value (.float .f64 n)) w := run_frombits n w
theorem run_frombits_nan (w : World) : (callFunc 53 #[.int .u64 9221120237041090560]).run Tryd.prog w = .ok (.value (.float .f64 oneNaN)) w := run_frombits _ w

theorem isNaN_yes (b : Nat) (w : World) (h : nanB b = true) : Calls Tryd.prog 52 #[.float .f64 b] w fun e w' => e = .returned (.bool true) ∧ w = w' := by
  have h2 : (FloatKind.f64.format.order b b != some .eq) = true := (neq_self b).trans h
  go_enter Tryd.func52, Tryd.ntmps52
  go_wp2
  go_ret
  exact ⟨rfl, rfl⟩
theorem isNaN_no (b : Nat) (w : World) (h : nanB b = false) : Calls Tryd.prog 52 #[.float .f64 b] w fun e w' => e = .returned (.bool false) ∧ w = w' := by
  have h2 : (FloatKind.f64.format.order b b != some .eq) = false := (neq_self b).trans h
  go_enter Tryd.func52, Tryd.ntmps52
  go_wp2
  go_ret
  exact ⟨rfl, rfl⟩
set_option maxRecDepth 100000 in
theorem canon_any (b : Nat) (w : World) : Calls Tryd.prog 31 #[.float .f64 b] w fun e w' => e = .returned (.float .f64 (canon b)) ∧ w = w' := by
  cases h : nanB b
  · rw [canon_num h]
    have H := Lib.hid h; clear h
    go_enter Tryd.func31, Tryd.ntmps31
    go_wp2_with (go_at_call 52; refine (isNaN_no _ _ H.out).mono ?_; rintro e w' ⟨rfl, rfl⟩)
    go_ret
    exact ⟨rfl, rfl⟩
  · rw [canon_nan h]
    have H := Lib.hid h; clear h
    have hf := run_frombits_nan
    go_enter Tryd.func31, Tryd.ntmps31
    go_wp2_with (go_at_call 52; refine (isNaN_yes _ _ H.out).mono ?_; rintro e w' ⟨rfl, rfl⟩)
    go_ret
    exact ⟨rfl, rfl⟩
theorem bits_any (b : Nat) (w : World) : Calls Tryd.prog 34 #[.float .f64 b] w fun e w' => e = .returned (.int .u64 (canon b : Nat)) ∧ w = w' := by
  have hf := run_tobits
  go_enter Tryd.func34, Tryd.ntmps34
  go_wp2_with (go_at_call 31; refine (canon_any _ _).mono ?_; rintro e w' ⟨rfl, rfl⟩)
  go_ret
  exact ⟨rfl, rfl⟩
theorem of_any (b : Nat) (w : World) : Calls Tryd.prog 77 #[.int .u64 (b : Int)] w fun e w' => e = .returned (.float .f64 (canon b)) ∧ w = w' := by
  have hf := run_frombits_nat
  go_enter Tryd.func77, Tryd.ntmps77
  go_wp2_with (go_at_call 31; refine (canon_any _ _).mono ?_; rintro e w' ⟨rfl, rfl⟩)
  go_ret
  exact ⟨rfl, rfl⟩
/-- raceref1.Bits. -/
theorem rbits_any (b : Nat) (w : World) : Calls Tryd.prog 54 #[.float .f64 b] w fun e w' => e = .returned (.int .u64 (canon b : Nat)) ∧ w = w' := by
  cases h : nanB b
  · rw [canon_num h]
    have h2 : (FloatKind.f64.format.order b b != some .eq) = false := (neq_self b).trans h
    clear h
    have hf := run_tobits
    go_enter Tryd.func54, Tryd.ntmps54
    go_wp2
    go_ret
    exact ⟨rfl, rfl⟩
  · rw [canon_nan h]
    have h2 : (FloatKind.f64.format.order b b != some .eq) = true := (neq_self b).trans h
    clear h
    go_enter Tryd.func54, Tryd.ntmps54
    go_wp2
    go_ret
    exact ⟨rfl, rfl⟩
theorem rcanon_any (b : Nat) (w : World) : Calls Tryd.prog 32 #[.float .f64 b] w fun e w' => e = .returned (.float .f64 (canon b)) ∧ w = w' := by
  have hf := run_frombits_nat
  go_enter Tryd.func32, Tryd.ntmps32
  go_wp2_with (go_at_call 54; refine (rbits_any _ _).mono ?_; rintro e w' ⟨rfl, rfl⟩)
  go_ret
  exact ⟨rfl, rfl⟩
theorem rof_any (b : Nat) (w : World) : Calls Tryd.prog 60 #[.int .u64 (b : Int)] w fun e w' => e = .returned (.float .f64 (canon b)) ∧ w = w' := by
  have hf := run_frombits_nat
  go_enter Tryd.func60, Tryd.ntmps60
  go_wp2_with (go_at_call 32; refine (rcanon_any _ _).mono ?_; rintro e w' ⟨rfl, rfl⟩)
  go_ret
  exact ⟨rfl, rfl⟩
/-- raceref.Bits: the same bits. -/
theorem same_yes (a : Nat) (w : World) : Calls Tryd.prog 30 #[.float .f64 a, .float .f64 a] w fun e w' => e = .returned (.bool true) ∧ w = w' := by
  have hf := run_tobits
  go_enter Tryd.func30, Tryd.ntmps30
  go_wp2
  go_ret
  exact ⟨by simp, rfl⟩
end Go.Proofs.YtjkfcmadoeifgaaDoor
