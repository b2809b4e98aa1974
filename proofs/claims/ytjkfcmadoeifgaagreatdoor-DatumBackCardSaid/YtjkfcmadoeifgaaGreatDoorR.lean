/- math.Ldexp of a whole number: just the float of an odd number and a power, where there is one; some float in any case. Conditions: a number from 1 on, below 2^58; a power between -200000 and 200000. -/
import Derived.Test.YtjkfcmadoeifgaaGreatDoorQ
namespace Go.Proofs.YtjkfcmadoeifgaaGreatDoor
open Go.RowKit Ieee

/-- An odd number and a power that a float has. -/
structure Fits (n : Nat) (p : Int) : Prop where
  odd : n % 2 = 1
  lt : n < 9007199254740992
  lo : -1074 ≤ p
  hi : p + n.log2 < 1024

def ofOdd (n : Nat) (p : Int) : Nat :=
  if -1022 ≤ p + n.log2 then (p + n.log2 + 1023).toNat * 4503599627370496 + (n * 2 ^ (52 - n.log2) - 4503599627370496) else n * 2 ^ (p + 1074).toNat

theorem norm_bd {n : Nat} (h0 : n ≠ 0) (h : n < 9007199254740992) : 4503599627370496 ≤ n * 2 ^ (52 - n.log2) ∧ n * 2 ^ (52 - n.log2) < 9007199254740992 ∧ n.log2 ≤ 52 := by
  have h1 := Nat.log2_self_le h0
  have h2 : n < 2 ^ (n.log2 + 1) := Nat.lt_log2_self
  have hl2 : n.log2 < 53 := (Nat.log2_lt h0).2 h
  refine ⟨?_, ?_, by omega⟩
  · calc 4503599627370496 = 2 ^ n.log2 * 2 ^ (52 - n.log2) := by rw [← Nat.pow_add, show n.log2 + (52 - n.log2) = 52 by omega]
      _ ≤ _ := Nat.mul_le_mul_right _ h1
  · calc n * 2 ^ (52 - n.log2) < 2 ^ (n.log2 + 1) * 2 ^ (52 - n.log2) := Nat.mul_lt_mul_of_pos_right h2 (Nat.two_pow_pos _)
      _ = 9007199254740992 := by rw [← Nat.pow_add, show n.log2 + 1 + (52 - n.log2) = 53 by omega]

theorem sub_bd {n : Nat} {p : Int} (h : Fits n p) (hE : ¬ -1022 ≤ p + n.log2) : 0 < n * 2 ^ (p + 1074).toNat ∧ n * 2 ^ (p + 1074).toNat < 4503599627370496 := by
  have hn := h.odd
  have h2 : n < 2 ^ (n.log2 + 1) := Nat.lt_log2_self
  have hl := h.lo
  refine ⟨Nat.mul_pos (by omega) (Nat.two_pow_pos _), ?_⟩
  calc n * 2 ^ (p + 1074).toNat < 2 ^ (n.log2 + 1) * 2 ^ (p + 1074).toNat := Nat.mul_lt_mul_of_pos_right h2 (Nat.two_pow_pos _)
    _ = 2 ^ (n.log2 + 1 + (p + 1074).toNat) := by rw [← Nat.pow_add]
    _ ≤ 2 ^ 52 := Nat.pow_le_pow_right (by decide) (by omega)
    _ = 4503599627370496 := rfl

theorem ofOdd_spec {n : Nat} {p : Int} (h : Fits n p) : 0 < ofOdd n p ∧ ofOdd n p < infR ∧ oddN (ofOdd n p) = n ∧ powN (ofOdd n p) = p := by
  have hn := h.odd
  have h0 : n ≠ 0 := by omega
  obtain ⟨b1, b2, b3⟩ := norm_bd h0 h.lt
  by_cases hE : -1022 ≤ p + n.log2
  · have e : ofOdd n p = (p + n.log2 + 1023).toNat * 4503599627370496 + (n * 2 ^ (52 - n.log2) - 4503599627370496) := by unfold ofOdd; rw [if_pos hE]
    have hh := h.hi
    generalize hq : (p + n.log2 + 1023).toNat = q at e
    generalize hy : n * 2 ^ (52 - n.log2) = y at *
    have hns : ¬ ofOdd n p < 4503599627370496 := by omega
    have hf : fullN (ofOdd n p) = y := by rw [fullN_hi hns]; omega
    have hx : expN (ofOdd n p) = q := by rw [expN_hi hns]; omega
    have hpos : 0 < ofOdd n p := by omega
    have ho := odd_unique (m := ofOdd n p) (n := n) (k := 52 - n.log2) hpos hn (by rw [hf, hy])
    refine ⟨hpos, by unfold infR; omega, ho.2, ?_⟩
    unfold powN
    rw [hx, ho.1]; omega
  · have e : ofOdd n p = n * 2 ^ (p + 1074).toNat := by unfold ofOdd; rw [if_neg hE]
    obtain ⟨c1, c2⟩ := sub_bd h hE
    have hlo := h.lo
    rw [← e] at c1 c2
    have hf : fullN (ofOdd n p) = n * 2 ^ (p + 1074).toNat := by rw [fullN_lo c2, e]
    have ho := odd_unique c1 hn hf
    refine ⟨c1, by unfold infR; omega, ho.2, ?_⟩
    unfold powN
    rw [expN_lo c2, ho.1]; omega

/-- What ldexp asks of the float of a whole number. -/
theorem cvt_facts {n : Nat} (h0 : n ≠ 0) (hn : n < 288230376151711744) : cvtN n < infR ∧ smallB ≤ cvtN n ∧ 1023 ≤ cvtN n / 4503599627370496 ∧ cvtN n / 4503599627370496 ≤ 1100 ∧ nanB (cvtN n) = false := by
  obtain ⟨kept, e, k1, k2, _⟩ := cvt_shape h0 hn
  have hl : n.log2 < 58 := (Nat.log2_lt h0).2 hn
  refine ⟨by unfold infR; omega, by unfold smallB; omega, by omega, by omega, ?_⟩
  unfold nanB infR
  rw [decide_eq_false_iff_not]
  omega
theorem cvt_norm {n : Nat} (h0 : n ≠ 0) (hn : n < 9007199254740992) : cvtN n / 4503599627370496 = n.log2 + 1023 ∧ cvtN n % 4503599627370496 = n * 2 ^ (52 - n.log2) - 4503599627370496 := by
  obtain ⟨kept, e, k1, k2, k3⟩ := cvt_shape h0 (by omega)
  obtain ⟨b1, b2, b3⟩ := norm_bd h0 hn
  rw [k3 hn] at e k1 k2
  omega
theorem mul_pos_some {c x m2 : Nat} {pl : Int} (hx : x < infR) (hc : double.read c = .number false m2 pl) : ∃ r, double.mul c x = some r ∧ r < 18446744073709551616 := by
  cases h : double.mul c x with
  | none => unfold Format.mul at h; rw [hc, read_pos hx] at h; simp [Datum.product] at h
  | some r => exact ⟨r, rfl, double.mul_lt h⟩

/-- Some float in any case. -/
theorem ldexp_some (n : Nat) (p : Int) (h0 : n ≠ 0) (hn : n < 288230376151711744) (p1 : -200000 ≤ p) (p2 : p ≤ 200000) :
    ∃ r, r < 18446744073709551616 ∧ ∀ w, Calls Tryz.prog 128 #[.float .f64 (cvtN n), .int .i64 p] w fun e w' => e = .returned (.float .f64 r) ∧ w = w' := by
  obtain ⟨f1, f2, f3, f4, f5⟩ := cvt_facts h0 hn
  have hfb := f1
  unfold infR at hfb
  have h63 : cvtN n < 9223372036854775808 := by omega
  have he : (cvtN n : Int) / 4503599627370496 = ((cvtN n / 4503599627370496 : Nat) : Int) := by omega
  have hand := band_i11 (x := cvtN n / 4503599627370496) (by omega)
  have hfr := bandNot_exp h63
  have hz : (0 : Nat) < infR := by unfold infR; omega
  have ho := order_eq_f f1 hz (by unfold smallB at f2; omega)
  have hl := order_lt_f f1 hz (by omega)
  have hf52 : cvtN n % 4503599627370496 < 4503599627370496 := Nat.mod_lt _ (by decide)
  by_cases c1 : p + ((cvtN n / 4503599627370496 : Nat) - 1023) < -1075
  · exact ⟨0, by decide, fun w => ldexp_under _ _ _ 0 0 p f1 f2 he hand hfr ho f5 hl p1 p2 (by omega) (by omega) c1 rfl rfl w⟩
  · by_cases c2 : 1023 < p + (((cvtN n / 4503599627370496 : Nat) : Int) - 1023)
    · exact ⟨infR, by decide, fun w => ldexp_over _ _ _ 0 0 p f1 f2 he hand hfr ho f5 hl p1 p2 (by omega) (by omega) (by omega) c2 rfl rfl w⟩
    · by_cases c3 : p + (((cvtN n / 4503599627370496 : Nat) : Int) - 1023) < -1022
      · have hor := bor_exp (k := (p + (((cvtN n / 4503599627370496 : Nat) : Int) - 1023) + 53 + 1023).toNat) hf52 (by omega)
        rw [show (((p + (((cvtN n / 4503599627370496 : Nat) : Int) - 1023) + 53 + 1023).toNat : Nat) : Int) = p + (((cvtN n / 4503599627370496 : Nat) : Int) - 1023) + 53 + 1023 by omega] at hor
        obtain ⟨r, hr, hlt⟩ := mul_pos_some (c := tinyB) (x := (p + (((cvtN n / 4503599627370496 : Nat) : Int) - 1023) + 53 + 1023).toNat * 4503599627370496 + cvtN n % 4503599627370496) (by unfold infR; omega) read_tiny
        exact ⟨r, hlt, fun w => ldexp_tiny _ _ _ _ r p f1 f2 he hand hfr ho f5 hl p1 p2 (by omega) (by omega) (by omega) (by omega) c3 hor hr w⟩
      · have hor := bor_exp (k := (p + (((cvtN n / 4503599627370496 : Nat) : Int) - 1023) + 1023).toNat) hf52 (by omega)
        rw [show (((p + (((cvtN n / 4503599627370496 : Nat) : Int) - 1023) + 1023).toNat : Nat) : Int) = p + (((cvtN n / 4503599627370496 : Nat) : Int) - 1023) + 1023 by omega] at hor
        obtain ⟨r, hr, hlt⟩ := mul_pos_some (c := oneB) (x := (p + (((cvtN n / 4503599627370496 : Nat) : Int) - 1023) + 1023).toNat * 4503599627370496 + cvtN n % 4503599627370496) (by unfold infR; omega) read_one
        exact ⟨r, hlt, fun w => ldexp_norm _ _ _ _ r p f1 f2 he hand hfr ho f5 hl p1 p2 (by omega) (by omega) (by omega) (by omega) (by omega) hor hr w⟩

/-- Just the float of an odd number and a power, where there is one. -/
theorem ldexp_fits (n : Nat) (p : Int) (h : Fits n p) (w : World) :
    Calls Tryz.prog 128 #[.float .f64 (cvtN n), .int .i64 p] w fun e w' => e = .returned (.float .f64 (ofOdd n p)) ∧ w = w' := by
  have hodd := h.odd
  have h0 : n ≠ 0 := by omega
  have hlt := h.lt
  obtain ⟨f1, f2, f3, f4, f5⟩ := cvt_facts h0 (by omega)
  obtain ⟨d1, d2⟩ := cvt_norm h0 h.lt
  obtain ⟨b1, b2, b3⟩ := norm_bd h0 h.lt
  obtain ⟨s1, s2, s3, s4⟩ := ofOdd_spec h
  have hlo := h.lo
  have hhi := h.hi
  have hfb := f1
  unfold infR at hfb
  have h63 : cvtN n < 9223372036854775808 := by omega
  have he : (cvtN n : Int) / 4503599627370496 = ((n.log2 + 1023 : Nat) : Int) := by omega
  have hand := band_i11 (x := n.log2 + 1023) (by omega)
  have hfr := bandNot_exp h63
  have hz : (0 : Nat) < infR := by unfold infR; omega
  have ho := order_eq_f f1 hz (by unfold smallB at f2; omega)
  have hl := order_lt_f f1 hz (by omega)
  rw [d2] at hfr
  by_cases c3 : -1022 ≤ p + n.log2
  · have e : ofOdd n p = (p + n.log2 + 1023).toNat * 4503599627370496 + (n * 2 ^ (52 - n.log2) - 4503599627370496) := by unfold ofOdd; rw [if_pos c3]
    have hor := bor_exp (fr := n * 2 ^ (52 - n.log2) - 4503599627370496) (k := (p + n.log2 + 1023).toNat) (by omega) (by omega)
    rw [← e, show (((p + n.log2 + 1023).toNat : Nat) : Int) = p + (((n.log2 + 1023 : Nat) : Int) - 1023) + 1023 by omega] at hor
    exact ldexp_norm _ _ _ _ _ p f1 f2 he hand hfr ho f5 hl (by omega) (by omega) (by omega) (by omega) (by omega) (by omega) (by omega) hor (one_mul_pos s1 s2) w
  · have e : ofOdd n p = n * 2 ^ (p + 1074).toNat := by unfold ofOdd; rw [if_neg c3]
    obtain ⟨t1, t2⟩ := sub_bd h c3
    rw [← e] at t1 t2
    have hor := bor_exp (fr := n * 2 ^ (52 - n.log2) - 4503599627370496) (k := (p + n.log2 + 53 + 1023).toNat) (by omega) (by omega)
    rw [show (((p + n.log2 + 53 + 1023).toNat : Nat) : Int) = p + (((n.log2 + 1023 : Nat) : Int) - 1023) + 53 + 1023 by omega] at hor
    have hexp : 52 - n.log2 + 52 = (p + 1074).toNat + (-(970 + n.log2 + p)).toNat := by omega
    have hkey : n * 2 ^ (52 - n.log2) * 2 ^ 52 = n * 2 ^ (p + 1074).toNat * 2 ^ (-(970 + n.log2 + p)).toNat := by
      rw [Nat.mul_assoc, Nat.mul_assoc, ← Nat.pow_add, ← Nat.pow_add, hexp]
    clear hexp
    generalize hk : (p + n.log2 + 53 + 1023).toNat = k at hor
    generalize hy : n * 2 ^ (52 - n.log2) = y at *
    have hns : ¬ k * 4503599627370496 + (y - 4503599627370496) < 4503599627370496 := by omega
    have hf : fullN (k * 4503599627370496 + (y - 4503599627370496)) = y := by rw [fullN_hi hns]; omega
    have hx : expN (k * 4503599627370496 + (y - 4503599627370496)) = k := by rw [expN_hi hns]; omega
    have hm := tiny_mul_pos (x := k * 4503599627370496 + (y - 4503599627370496)) (r := ofOdd n p) (b := (-(970 + n.log2 + p)).toNat) s1 s2 (by unfold infR; omega)
      (by rw [hf, fullN_lo t2, e]; exact hkey)
      (by rw [hx, expN_lo t2]; omega)
    exact ldexp_tiny _ _ _ _ _ p f1 f2 he hand hfr ho f5 hl (by omega) (by omega) (by omega) (by omega) (by omega) (by omega) (by omega) hor hm w
theorem mldexp (fb : Nat) (p : Int) (r : Nat) (h : ∀ w, Calls Tryz.prog 128 #[.float .f64 fb, .int .i64 p] w fun e w' => e = .returned (.float .f64 r) ∧ w = w') (w : World) :
    Calls Tryz.prog 117 #[.float .f64 fb, .int .i64 p] w fun e w' => e = .returned (.float .f64 r) ∧ w = w' := by
  have H := Lib.hid h; clear h
  go_enter Tryz.func117, Tryz.ntmps117
  go_wp2_with (go_at_call 128; refine (H.out _).mono ?_; rintro e w' ⟨rfl, rfl⟩)
  go_ret
  exact ⟨rfl, rfl⟩
end Go.Proofs.YtjkfcmadoeifgaaGreatDoor
