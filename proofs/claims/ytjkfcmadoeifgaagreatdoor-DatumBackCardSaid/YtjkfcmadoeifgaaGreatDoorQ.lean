/- math.Ldexp and what it calls, at finite numbers. Conditions: a number from 1 on; a power between -200000 and 200000. -/
import Derived.Test.YtjkfcmadoeifgaaGreatDoorO
namespace Go.Proofs.YtjkfcmadoeifgaaGreatDoor
open Go.RowKit
theorem wraps_i64 (n : Int) (h₀ : 0 ≤ n) (h₁ : n < 2 ^ 63) : IntKind.i64.wrap n = n := by rw [IntKind.wrap_i64]; omega
theorem band_i11 {x : Nat} (h : x < 2048) : bits .and .i64 (x : Int) 2047 = (x : Int) := by
  have h := bits_mask .i64 63 (by decide) wraps_i64 11 (by decide) (x : Int) (by omega) (by omega)
  rw [show ((2 : Int) ^ 11 - 1) = 2047 by decide, show ((2 : Int) ^ 11) = 2048 by decide] at h
  rw [h]; omega
theorem abs_any (b : Nat) (hb : b < 18446744073709551616) (w : World) : Calls Tryz.prog 142 #[.float .f64 b] w fun e w' => e = .returned (.float .f64 (b % 9223372036854775808)) ∧ w = w' := by
  have h1 := bandNot_top hb
  have hf := run_tobits
  have hg := run_frombits_nat
  clear hb
  generalize b % 9223372036854775808 = m at *
  go_enter Tryz.func142, Tryz.ntmps142
  go_wp2
  go_ret
  exact ⟨rfl, rfl⟩
def maxB : Nat := 9218868437227405311
def smallB : Nat := 4503599627370496
theorem isInf_no (b : Nat) (hb : b < infR) (w : World) : Calls Tryz.prog 136 #[.float .f64 b, .int .i64 0] w fun e w' => e = .returned (.bool false) ∧ w = w' := by
  have h1 : (FloatKind.f64.format.order b maxB == some .gt) = false := order_gt_f hb (by decide) (by unfold maxB; unfold infR at hb; omega)
  have hm : b % 9223372036854775808 = b := by unfold infR at hb; omega
  have HM := Lib.hid hm
  have HB : Hid (b < 18446744073709551616) := by unfold Hid; unfold infR at hb; omega
  unfold maxB at h1
  clear hb hm
  go_enter Tryz.func136, Tryz.ntmps136
  go_wp2_with (go_at_call 142; refine (abs_any _ HB.out _).mono ?_; rw [HM.out]; rintro e w' ⟨rfl, rfl⟩)
  go_ret
  exact ⟨rfl, rfl⟩
theorem norm_any (b : Nat) (hb : b < infR) (h0 : smallB ≤ b) (w : World) : Calls Tryz.prog 137 #[.float .f64 b] w fun e w' => e = .returned (.tuple #[.float .f64 b, .int .i64 0]) ∧ w = w' := by
  have h1 : (FloatKind.f64.format.order b smallB == some .lt) = false := order_lt_f hb (by decide) (by omega)
  have hm : b % 9223372036854775808 = b := by unfold infR at hb; omega
  have HM := Lib.hid hm
  have HB : Hid (b < 18446744073709551616) := by unfold Hid; unfold infR at hb; omega
  unfold smallB at h1
  clear hb hm h0
  go_enter Tryz.func137, Tryz.ntmps137
  go_wp2_with (go_at_call 142; refine (abs_any _ HB.out _).mono ?_; rw [HM.out]; rintro e w' ⟨rfl, rfl⟩)
  go_ret2
  exact ⟨rfl, rfl⟩
theorem inf_one (w : World) : Calls Tryz.prog 139 #[.int .i64 1] w fun e w' => e = .returned (.float .f64 infR) ∧ w = w' := by
  have hg := run_frombits
  go_enter Tryz.func139, Tryz.ntmps139
  go_wp2
  go_ret
  exact ⟨rfl, rfl⟩
theorem copy_zero (b : Nat) (hb : b < 9223372036854775808) (w : World) : Calls Tryz.prog 138 #[.float .f64 0, .float .f64 b] w fun e w' => e = .returned (.float .f64 0) ∧ w = w' := by
  have hf := run_tobits
  have hg := run_frombits
  have h1 : bits .andNot .u64 (0 : Int) 9223372036854775808 = 0 := by decide
  have h2 : bits .and .u64 (b : Int) 9223372036854775808 = 0 := by
    have := band (a := b) (b := 9223372036854775808) (by omega) (by decide)
    rw [and_top_lo hb] at this; exact this
  have h3 : bits .or .u64 (0 : Int) 0 = 0 := by decide
  clear hb
  go_enter Tryz.func138, Tryz.ntmps138
  go_wp2
  go_ret
  exact ⟨rfl, rfl⟩

theorem bor_exp {fr k : Nat} (h : fr < 4503599627370496) (hk : k < 2047) : bits .or .u64 (fr : Int) ((k : Int) * 4503599627370496) = ((k * 4503599627370496 + fr : Nat) : Int) := by
  have := bor (a := fr) (b := k * 4503599627370496) (by omega) (by omega)
  rw [show ((k : Int) * 4503599627370496) = ((k * 4503599627370496 : Nat) : Int) by omega, this, Nat.or_comm, Nat.mul_comm k, ← Nat.two_pow_add_eq_or_of_lt (i := 52) h k]
theorem bandNot_exp {n : Nat} (h : n < 9223372036854775808) : bits .andNot .u64 (n : Int) 9218868437227405312 = ((n % 4503599627370496 : Nat) : Int) := by
  have := bandNot (a := n) (b := 9218868437227405312) (by omega) (by decide)
  have e : 18446744073709551615 - 9218868437227405312 = 9223372036854775808 ||| (2 ^ 52 - 1) := by decide
  rw [e, Nat.and_or_distrib_left, and_top_lo h, mask_nat, Nat.zero_or] at this
  exact this
set_option maxRecDepth 100000 in
theorem ldexp_under (fb e0 fr x r : Nat) (p : Int)
    (hfb : fb < infR) (hsm : smallB ≤ fb) (he : (fb : Int) / 4503599627370496 = (e0 : Int)) (hand : bits .and .i64 (e0 : Int) 2047 = (e0 : Int))
    (_hfr : bits .andNot .u64 (fb : Int) 9218868437227405312 = (fr : Int)) (h0 : (FloatKind.f64.format.order fb 0 == some .eq) = false) (hn : nanB fb = false)
    (_hlt0 : (FloatKind.f64.format.order fb 0 == some .lt) = false)
    (p1 : -200000 ≤ p) (p2 : p ≤ 200000) (e1 : (1023:Int) ≤ e0) (e2 : (e0:Int) ≤ 1100)
    (hE : p + (e0 - 1023) < -1075) (_hx : x = x) (_hr : r = r) (w : World) :
    Calls Tryz.prog 128 #[.float .f64 fb, .int .i64 p] w fun e w' => e = .returned (.float .f64 0) ∧ w = w' := by
  have hf := run_tobits
  have hg := run_frombits_nat
  have HP : Hid (fb < 9223372036854775808) := by unfold Hid; unfold infR at hfb; omega
  have HFB := Lib.hid hfb; clear hfb
  have HSM := Lib.hid hsm; clear hsm
  have HN := Lib.hid hn; clear hn
  go_enter Tryz.func128, Tryz.ntmps128
  go_wp2_with (first
    | (go_at_call 136; refine (isInf_no _ HFB.out _).mono ?_; rintro e w' ⟨rfl, rfl⟩)
    | (go_at_call 93; refine (isNaN_no _ _ HN.out).mono ?_; rintro e w' ⟨rfl, rfl⟩)
    | (go_at_call 137; refine (norm_any _ HFB.out HSM.out _).mono ?_; rintro e w' ⟨rfl, rfl⟩)
    | (go_at_call 138; refine (copy_zero _ HP.out _).mono ?_; rintro e w' ⟨rfl, rfl⟩))
  go_ret
  exact ⟨rfl, rfl⟩
set_option maxRecDepth 100000 in
theorem ldexp_over (fb e0 fr x r : Nat) (p : Int)
    (hfb : fb < infR) (hsm : smallB ≤ fb) (he : (fb : Int) / 4503599627370496 = (e0 : Int)) (hand : bits .and .i64 (e0 : Int) 2047 = (e0 : Int))
    (_hfr : bits .andNot .u64 (fb : Int) 9218868437227405312 = (fr : Int)) (h0 : (FloatKind.f64.format.order fb 0 == some .eq) = false) (hn : nanB fb = false)
    (hlt0 : (FloatKind.f64.format.order fb 0 == some .lt) = false)
    (p1 : -200000 ≤ p) (p2 : p ≤ 200000) (e1 : (1023:Int) ≤ e0) (e2 : (e0:Int) ≤ 1100)
    (_hE : -1075 ≤ p + (e0 - 1023)) (hE2 : 1023 < p + ((e0 : Int) - 1023)) (_hx : x = x) (_hr : r = r) (w : World) :
    Calls Tryz.prog 128 #[.float .f64 fb, .int .i64 p] w fun e w' => e = .returned (.float .f64 infR) ∧ w = w' := by
  have hf := run_tobits
  have hg := run_frombits_nat
  have HP : Hid (fb < 9223372036854775808) := by unfold Hid; unfold infR at hfb; omega
  have HFB := Lib.hid hfb; clear hfb
  have HSM := Lib.hid hsm; clear hsm
  have HN := Lib.hid hn; clear hn
  go_enter Tryz.func128, Tryz.ntmps128
  go_wp2_with (first
    | (go_at_call 136; refine (isInf_no _ HFB.out _).mono ?_; rintro e w' ⟨rfl, rfl⟩)
    | (go_at_call 93; refine (isNaN_no _ _ HN.out).mono ?_; rintro e w' ⟨rfl, rfl⟩)
    | (go_at_call 137; refine (norm_any _ HFB.out HSM.out _).mono ?_; rintro e w' ⟨rfl, rfl⟩)
    | (go_at_call 139; refine (inf_one _).mono ?_; rintro e w' ⟨rfl, rfl⟩))
  go_ret
  exact ⟨rfl, rfl⟩
set_option maxRecDepth 100000 in
theorem ldexp_tiny (fb e0 fr x r : Nat) (p : Int)
    (hfb : fb < infR) (hsm : smallB ≤ fb) (he : (fb : Int) / 4503599627370496 = (e0 : Int)) (hand : bits .and .i64 (e0 : Int) 2047 = (e0 : Int))
    (hfr : bits .andNot .u64 (fb : Int) 9218868437227405312 = (fr : Int)) (h0 : (FloatKind.f64.format.order fb 0 == some .eq) = false) (hn : nanB fb = false)
    (_hlt0 : (FloatKind.f64.format.order fb 0 == some .lt) = false)
    (p1 : -200000 ≤ p) (p2 : p ≤ 200000) (e1 : (1023:Int) ≤ e0) (e2 : (e0:Int) ≤ 1100)
    (hE : -1075 ≤ p + (e0 - 1023)) (hE2 : p + ((e0 : Int) - 1023) ≤ 1023) (hE3 : p + ((e0 : Int) - 1023) < -1022)
    (hor : bits .or .u64 (fr : Int) ((p + ((e0 : Int) - 1023) + 53 + 1023) * 4503599627370496) = (x : Int)) (hmul : Ieee.double.mul 4368491638549381120 x = some r) (w : World) :
    Calls Tryz.prog 128 #[.float .f64 fb, .int .i64 p] w fun e w' => e = .returned (.float .f64 r) ∧ w = w' := by
  have hf := run_tobits
  have hg := run_frombits_nat
  have hr := fun w => run_float_arith (P := Tryz.prog) w .mul 22 .f64 _ _ _ hmul
  clear hmul
  have HP : Hid (fb < 9223372036854775808) := by unfold Hid; unfold infR at hfb; omega
  have HFB := Lib.hid hfb; clear hfb
  have HSM := Lib.hid hsm; clear hsm
  have HN := Lib.hid hn; clear hn
  go_enter Tryz.func128, Tryz.ntmps128
  go_wp2_with (first
    | (go_at_call 136; refine (isInf_no _ HFB.out _).mono ?_; rintro e w' ⟨rfl, rfl⟩)
    | (go_at_call 93; refine (isNaN_no _ _ HN.out).mono ?_; rintro e w' ⟨rfl, rfl⟩)
    | (go_at_call 137; refine (norm_any _ HFB.out HSM.out _).mono ?_; rintro e w' ⟨rfl, rfl⟩))
  go_ret
  exact ⟨rfl, rfl⟩
set_option maxRecDepth 100000 in
theorem ldexp_norm (fb e0 fr x r : Nat) (p : Int)
    (hfb : fb < infR) (hsm : smallB ≤ fb) (he : (fb : Int) / 4503599627370496 = (e0 : Int)) (hand : bits .and .i64 (e0 : Int) 2047 = (e0 : Int))
    (hfr : bits .andNot .u64 (fb : Int) 9218868437227405312 = (fr : Int)) (h0 : (FloatKind.f64.format.order fb 0 == some .eq) = false) (hn : nanB fb = false)
    (_hlt0 : (FloatKind.f64.format.order fb 0 == some .lt) = false)
    (p1 : -200000 ≤ p) (p2 : p ≤ 200000) (e1 : (1023:Int) ≤ e0) (e2 : (e0:Int) ≤ 1100)
    (hE : -1075 ≤ p + (e0 - 1023)) (hE2 : p + ((e0 : Int) - 1023) ≤ 1023) (hE3 : -1022 ≤ p + ((e0 : Int) - 1023))
    (hor : bits .or .u64 (fr : Int) ((p + ((e0 : Int) - 1023) + 1023) * 4503599627370496) = (x : Int)) (hmul : Ieee.double.mul 4607182418800017408 x = some r) (w : World) :
    Calls Tryz.prog 128 #[.float .f64 fb, .int .i64 p] w fun e w' => e = .returned (.float .f64 r) ∧ w = w' := by
  have hf := run_tobits
  have hg := run_frombits_nat
  have hr := fun w => run_float_arith (P := Tryz.prog) w .mul 22 .f64 _ _ _ hmul
  clear hmul
  have HP : Hid (fb < 9223372036854775808) := by unfold Hid; unfold infR at hfb; omega
  have HFB := Lib.hid hfb; clear hfb
  have HSM := Lib.hid hsm; clear hsm
  have HN := Lib.hid hn; clear hn
  go_enter Tryz.func128, Tryz.ntmps128
  go_wp2_with (first
    | (go_at_call 136; refine (isInf_no _ HFB.out _).mono ?_; rintro e w' ⟨rfl, rfl⟩)
    | (go_at_call 93; refine (isNaN_no _ _ HN.out).mono ?_; rintro e w' ⟨rfl, rfl⟩)
    | (go_at_call 137; refine (norm_any _ HFB.out HSM.out _).mono ?_; rintro e w' ⟨rfl, rfl⟩))
  go_ret
  exact ⟨rfl, rfl⟩
end Go.Proofs.YtjkfcmadoeifgaaGreatDoor
