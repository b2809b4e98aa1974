/- Contracts of the small functions of packages num and raceref1 that only compute on a float's bits. Conditions: none. -/
import Derived.Test.YtbgccaconhmbaaaGreatDoorProg
import Derived.Test.YtbgccaconhmbaaaGreatDoorJA
import Derived.WalkKit
import Derived.WalkLawsBesides
import Derived.Lib.Hide
namespace Go.Proofs.YtbgccaconhmbaaaGreatDoor
open Go.RowKit

/-- math.Float64bits, math.Float64frombits. -/
theorem run_tobits (b : Nat) (w : World) : (callFunc 107 #[.float .f64 b]).run Tryz.prog w = .ok (.value (.int .u64 b)) w := by
  rw [run_callFunc_extern Tryz.func107 (by kernel_rfl) (by kernel_rfl) (by kernel_rfl) (e := Extern.MathFloatBits.float64bits) (by kernel_rfl)]
  rfl
theorem run_frombits (n : Int) (w : World) : (callFunc 108 #[.int .u64 n]).run Tryz.prog w = .ok (.value (.float .f64 n.toNat)) w := by
  rw [run_callFunc_extern Tryz.func108 (by kernel_rfl) (by kernel_rfl) (by kernel_rfl) (e := Extern.MathFloatBits.float64frombits) (by kernel_rfl)]
  rfl
theorem run_frombits_nat (n : Nat) (w : World) : (callFunc 108 #[.int .u64 (n : Int)]).run Tryz.prog w = .ok (.value (.float .f64 n)) w := run_frombits n w
theorem run_frombits_nan (w : World) : (callFunc 108 #[.int .u64 9221120237041090560]).run Tryz.prog w = .ok (.value (.float .f64 oneNaN)) w := run_frombits _ w

theorem isNaN_yes (b : Nat) (w : World) (h : nanB b = true) : Calls Tryz.prog 152 #[.float .f64 b] w fun e w' => e = .returned (.bool true) ∧ w = w' := by
  have h2 : (FloatKind.f64.format.order b b != some .eq) = true := (neq_self b).trans h
  go_enter Tryz.func152, Tryz.ntmps152
  go_wp2
  go_ret
  exact ⟨rfl, rfl⟩
theorem isNaN_no (b : Nat) (w : World) (h : nanB b = false) : Calls Tryz.prog 152 #[.float .f64 b] w fun e w' => e = .returned (.bool false) ∧ w = w' := by
  have h2 : (FloatKind.f64.format.order b b != some .eq) = false := (neq_self b).trans h
  go_enter Tryz.func152, Tryz.ntmps152
  go_wp2
  go_ret
  exact ⟨rfl, rfl⟩
set_option maxRecDepth 100000 in
theorem canon_any (b : Nat) (w : World) : Calls Tryz.prog 115 #[.float .f64 b] w fun e w' => e = .returned (.float .f64 (canon b)) ∧ w = w' := by
  cases h : nanB b
  · rw [canon_num h]
    have H := Lib.hid h; clear h
    go_enter Tryz.func115, Tryz.ntmps115
    go_wp2_with (go_at_call 152; refine (isNaN_no _ _ H.out).mono ?_; rintro e w' ⟨rfl, rfl⟩)
    go_ret
    exact ⟨rfl, rfl⟩
  · rw [canon_nan h]
    have H := Lib.hid h; clear h
    have hf := run_frombits_nan
    go_enter Tryz.func115, Tryz.ntmps115
    go_wp2_with (go_at_call 152; refine (isNaN_yes _ _ H.out).mono ?_; rintro e w' ⟨rfl, rfl⟩)
    go_ret
    exact ⟨rfl, rfl⟩
theorem bits_any (b : Nat) (w : World) : Calls Tryz.prog 112 #[.float .f64 b] w fun e w' => e = .returned (.int .u64 (canon b : Nat)) ∧ w = w' := by
  have hf := run_tobits
  go_enter Tryz.func112, Tryz.ntmps112
  go_wp2_with (go_at_call 115; refine (canon_any _ _).mono ?_; rintro e w' ⟨rfl, rfl⟩)
  go_ret
  exact ⟨rfl, rfl⟩
theorem of_any (b : Nat) (w : World) : Calls Tryz.prog 191 #[.int .u64 (b : Int)] w fun e w' => e = .returned (.float .f64 (canon b)) ∧ w = w' := by
  have hf := run_frombits_nat
  go_enter Tryz.func191, Tryz.ntmps191
  go_wp2_with (go_at_call 115; refine (canon_any _ _).mono ?_; rintro e w' ⟨rfl, rfl⟩)
  go_ret
  exact ⟨rfl, rfl⟩
/-- raceref1.Bits. -/
theorem rbits_any (b : Nat) (w : World) : Calls Tryz.prog 109 #[.float .f64 b] w fun e w' => e = .returned (.int .u64 (canon b : Nat)) ∧ w = w' := by
  cases h : nanB b
  · rw [canon_num h]
    have h2 : (FloatKind.f64.format.order b b != some .eq) = false := (neq_self b).trans h
    clear h
    have hf := run_tobits
    go_enter Tryz.func109, Tryz.ntmps109
    go_wp2
    go_ret
    exact ⟨rfl, rfl⟩
  · rw [canon_nan h]
    have h2 : (FloatKind.f64.format.order b b != some .eq) = true := (neq_self b).trans h
    clear h
    go_enter Tryz.func109, Tryz.ntmps109
    go_wp2
    go_ret
    exact ⟨rfl, rfl⟩
theorem rcanon_any (b : Nat) (w : World) : Calls Tryz.prog 64 #[.float .f64 b] w fun e w' => e = .returned (.float .f64 (canon b)) ∧ w = w' := by
  have hf := run_frombits_nat
  go_enter Tryz.func64, Tryz.ntmps64
  go_wp2_with (go_at_call 109; refine (rbits_any _ _).mono ?_; rintro e w' ⟨rfl, rfl⟩)
  go_ret
  exact ⟨rfl, rfl⟩
theorem rof_any (b : Nat) (w : World) : Calls Tryz.prog 131 #[.int .u64 (b : Int)] w fun e w' => e = .returned (.float .f64 (canon b)) ∧ w = w' := by
  have hf := run_frombits_nat
  go_enter Tryz.func131, Tryz.ntmps131
  go_wp2_with (go_at_call 64; refine (rcanon_any _ _).mono ?_; rintro e w' ⟨rfl, rfl⟩)
  go_ret
  exact ⟨rfl, rfl⟩
/-- raceref.Bits: the same bits. -/
theorem same_yes (a : Nat) (w : World) : Calls Tryz.prog 63 #[.float .f64 a, .float .f64 a] w fun e w' => e = .returned (.bool true) ∧ w = w' := by
  have hf := run_tobits
  go_enter Tryz.func63, Tryz.ntmps63
  go_wp2
  go_ret
  exact ⟨by simp, rfl⟩
end Go.Proofs.YtbgccaconhmbaaaGreatDoor
