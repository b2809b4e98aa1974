/- raceref1.Print: the text of any float. Conditions: bits below 2^64. -/
import Derived.Test.YtjkfcmadoeifgaaDoorL
namespace Go.Proofs.YtjkfcmadoeifgaaDoor
open Go.RowKit Go.Sort Go.Lib

theorem dec_any (n : Int) (h1 : -4611686018427387904 < n) (h2 : n < 4611686018427387904) (w : World) :
    Calls Tryd.prog 70 #[.int .i64 n] w fun e w' => e = .returned (.string ⟨(itoa n).toArray⟩) ∧ Below w.heap.size w w' := by
  by_cases h0 : n = 0
  · subst h0
    go_enter Tryd.func70, Tryd.ntmps70
    go_wp2
    go_ret
    refine ⟨ret_s ?_, Below.refl _ _⟩
    unfold itoa
    rw [if_neg (by decide), show (0 : Int).toNat = 0 from rfl, decDigits_one (by decide)]; rfl
  · by_cases h3 : 0 < n
    · obtain ⟨u, rfl⟩ : ∃ u : Nat, n = u := ⟨n.toNat, by omega⟩
      rw [itoa_nonneg]
      exact dec_pos u (by omega) (by omega) w
    · obtain ⟨u, rfl⟩ : ∃ u : Nat, n = -(u : Int) := ⟨n.natAbs, by omega⟩
      rw [itoa_neg u (by omega)]
      exact dec_neg u (by omega) (by omega) w

theorem full_odd {m : Nat} (h : 0 < m) : fullN m = 2 ^ evenN m * oddN m ∧ oddN m % 2 = 1 := by
  obtain ⟨h1, h2⟩ := fullN_bd h
  obtain ⟨k, hk, _⟩ := Lib.ctzFrom_spec 64 (fullN m) (by omega) (by omega)
  have e : evenN m = Lib.ctzFrom 64 (fullN m) := by unfold evenN Lib.ctz; rw [if_neg h1]
  have e2 : oddN m = 2 * k + 1 := by
    unfold oddN; rw [e]
    conv => lhs; rw [hk]
    rw [← hk]
    conv => lhs; lhs; rw [hk]
    exact Nat.mul_div_cancel_left _ (Nat.two_pow_pos _)
  refine ⟨?_, by omega⟩
  rw [e, e2]; exact hk
/-- The digits, halved j times. -/
def halfN (m j : Nat) : Nat := fullN m / 2 ^ j
theorem halfN_0 (m : Nat) : halfN m 0 = fullN m := by unfold halfN; simp
theorem halfN_end (m : Nat) : halfN m (evenN m) = oddN m := rfl
theorem halfN_succ (m j : Nat) : halfN m j / 2 = halfN m (j + 1) := by
  unfold halfN; rw [Nat.div_div_eq_div_mul, Nat.pow_succ]
theorem halfN_even {m j : Nat} (h : 0 < m) (hj : j < evenN m) : halfN m j % 2 = 0 := by
  obtain ⟨h1, _⟩ := full_odd h
  obtain ⟨d, hd⟩ : ∃ d, evenN m = j + (d + 1) := ⟨evenN m - j - 1, by omega⟩
  unfold halfN
  rw [h1, hd, Nat.pow_add, Nat.mul_assoc, Nat.mul_div_cancel_left _ (Nat.two_pow_pos _), Nat.pow_succ, Nat.mul_comm (2 ^ d) 2, Nat.mul_assoc]
  exact Nat.mul_mod_right _ _
theorem halfN_lt {m j : Nat} (h : 0 < m) : halfN m j < 9007199254740992 := by
  have := (fullN_bd h).2
  exact Nat.lt_of_le_of_lt (Nat.div_le_self _ _) this
def expJ (m j : Nat) : Int := (expN m : Int) - 1075 + j
theorem expJ_end (m : Nat) : expJ m (evenN m) = powN m := by unfold expJ powN; omega
theorem expJ_succ (m j : Nat) : expJ m j + 1 = expJ m (j + 1) := by unfold expJ; omega
theorem expJ_bd {m j : Nat} (h2 : m < infR) (hj : j < 64) : -1074 ≤ expJ m j ∧ expJ m j ≤ 1100 := by
  have h3 := expN_bd h2
  unfold expJ
  omega
theorem tmodN (x y : Nat) : ((x : Nat) : Int).tmod (y : Int) = ((x % y : Nat) : Int) := by rw [Int.tmod_eq_emod_of_nonneg (by omega)]; exact (Int.natCast_emod x y).symm
theorem start_e (m : Nat) : (expN m : Int) - 1075 = expJ m 0 := by unfold expJ; omega
theorem start_e1 (m : Nat) (h : expN m = 1) : (-1074 : Int) = expJ m 0 := by unfold expJ; rw [h]; rfl
theorem meas_up {x y : Int} (h : x + 1 = y) (h2 : x ≤ 1100) : (2000 - y).toNat < (2000 - x).toNat := by omega
theorem decOdd (m : Nat) (h : 0 < m) (w : World) :
    Calls Tryd.prog 70 #[.int .i64 (oddN m : Int)] w fun e w' => e = .returned (.string ⟨(digT m).toArray⟩) ∧ Below w.heap.size w w' := by
  have := oddN_lt h
  have h0 := (full_odd h).2
  exact dec_pos _ (by omega) (by omega) w
theorem decPow (m : Nat) (h : 0 < m) (h2 : m < infR) (w : World) :
    Calls Tryd.prog 70 #[.int .i64 (powN m)] w fun e w' => e = .returned (.string ⟨(powT m).toArray⟩) ∧ Below w.heap.size w w' := by
  have := powN_bd h h2
  exact dec_any _ (by omega) (by omega) w
theorem rprint_k0 (b : Nat) (hb : b < 18446744073709551616) (hk : clsN b = 0) (w : World) :
    Calls Tryd.prog 46 #[.float .f64 b] w fun e w' => e = .returned (.string ⟨#[110, 97, 110]⟩) ∧ w = w' := by
  have HB := Lib.hid hb; clear hb
  have HK := Lib.hid hk; clear hk
  go_enter Tryd.func46, Tryd.ntmps46
  go_wp2_with (go_at_call 69; refine (rclass_any _ _ HB.out).mono ?_; rw [HK.out]; rintro e w' ⟨rfl, rfl⟩)
  go_ret
  exact ⟨rfl, rfl⟩
theorem rprint_k1 (b : Nat) (hb : b < 18446744073709551616) (hk : clsN b = 1) (w : World) :
    Calls Tryd.prog 46 #[.float .f64 b] w fun e w' => e = .returned (.string ⟨#[45, 105, 110, 102]⟩) ∧ w = w' := by
  have HB := Lib.hid hb; clear hb
  have HK := Lib.hid hk; clear hk
  go_enter Tryd.func46, Tryd.ntmps46
  go_wp2_with (go_at_call 69; refine (rclass_any _ _ HB.out).mono ?_; rw [HK.out]; rintro e w' ⟨rfl, rfl⟩)
  go_ret
  exact ⟨rfl, rfl⟩
theorem rprint_k4 (b : Nat) (hb : b < 18446744073709551616) (hk : clsN b = 4) (w : World) :
    Calls Tryd.prog 46 #[.float .f64 b] w fun e w' => e = .returned (.string ⟨#[45, 48]⟩) ∧ w = w' := by
  have HB := Lib.hid hb; clear hb
  have HK := Lib.hid hk; clear hk
  go_enter Tryd.func46, Tryd.ntmps46
  go_wp2_with (go_at_call 69; refine (rclass_any _ _ HB.out).mono ?_; rw [HK.out]; rintro e w' ⟨rfl, rfl⟩)
  go_ret
  exact ⟨rfl, rfl⟩
theorem rprint_k5 (b : Nat) (hb : b < 18446744073709551616) (hk : clsN b = 5) (w : World) :
    Calls Tryd.prog 46 #[.float .f64 b] w fun e w' => e = .returned (.string ⟨#[48]⟩) ∧ w = w' := by
  have HB := Lib.hid hb; clear hb
  have HK := Lib.hid hk; clear hk
  go_enter Tryd.func46, Tryd.ntmps46
  go_wp2_with (go_at_call 69; refine (rclass_any _ _ HB.out).mono ?_; rw [HK.out]; rintro e w' ⟨rfl, rfl⟩)
  go_ret
  exact ⟨rfl, rfl⟩
theorem rprint_k8 (b : Nat) (hb : b < 18446744073709551616) (hk : clsN b = 8) (w : World) :
    Calls Tryd.prog 46 #[.float .f64 b] w fun e w' => e = .returned (.string ⟨#[105, 110, 102]⟩) ∧ w = w' := by
  have HB := Lib.hid hb; clear hb
  have HK := Lib.hid hk; clear hk
  go_enter Tryd.func46, Tryd.ntmps46
  go_wp2_with (go_at_call 69; refine (rclass_any _ _ HB.out).mono ?_; rw [HK.out]; rintro e w' ⟨rfl, rfl⟩)
  go_ret
  exact ⟨rfl, rfl⟩
set_option maxRecDepth 100000 in
set_option maxHeartbeats 1600000 in
theorem rprint_neg_hi (b m fr : Nat) (hb : b < 18446744073709551616) (hc : canon b = b) (hE : bits .and .u64 ((b : Int) / 4503599627370496) 2047 = (expN m : Int)) (hM : bits .and .u64 (b : Int) 4503599627370495 = (fr : Int)) (hO : bits .or .u64 (fr : Int) 4503599627370496 = (fullN m : Int)) (hg : 0 < expN m)
    (k0 : ((clsN b : Int) == 0) = false) (k1 : ((clsN b : Int) == 1) = false) (k8 : ((clsN b : Int) == 8) = false) (k4 : ((clsN b : Int) == 4) = false) (k5 : ((clsN b : Int) == 5) = false)
    (ht : (bits .and .u64 (b : Int) 9223372036854775808 != 0) = true) (hm0 : 0 < m) (hm : m < infR) (_hfr : fr = fr) (w : World) :
    Calls Tryd.prog 46 #[.float .f64 b] w fun e w' => e = .returned (.string ⟨(45 :: numT m).toArray⟩) ∧ Below w.heap.size w w' := by
  have l1 := digT_len hm0
  have l2 := powT_len hm0 hm
  have n1 : ¬ 9223372036854775807 < (digT m).length + 1 := by omega
  have n2 : ¬ 9223372036854775807 < (digT m).length + 1 + (powT m).length := by omega
  have n3 : ¬ 9223372036854775807 < 1 + ((digT m).length + 1 + (powT m).length) := by omega
  clear l1 l2
  have e1 : (1:Int) ≤ (expN m : Int) := by have := (expN_bd hm).1; omega
  have e2 : (expN m : Int) ≤ 2046 := by have := (expN_bd hm).2; omega
  have HB := Lib.hid hb; clear hb
  have HC := Lib.hid hc; clear hc
  have HM := Lib.hid hm; clear hm
  have HM0 := Lib.hid hm0; clear hm0
  go_enter Tryd.func46, Tryd.ntmps46
  go_wp2_with (first
    | (go_at_call 69; refine (rclass_any _ _ HB.out).mono ?_; rintro e w' ⟨rfl, rfl⟩)
    | (go_at_call 54; refine (rbits_any _ _).mono ?_; rw [HC.out]; rintro e w' ⟨rfl, rfl⟩))
  go_loop [4, 5] (fun e v => ∃ j : Nat, j ≤ evenN m ∧ e = .int .i64 (expJ m j) ∧ v = .int .u64 (halfN m j : Nat)) (fun e _ => (2000 - RowKit.intOf e).toNat)
  case atStart => exact ⟨0, Nat.zero_le _, congrArg (Value.int .i64) (start_e m), by rw [halfN_0]⟩
  case round =>
    obtain ⟨j, hj, rfl, rfl⟩ := hrel
    have hj64 : j < 64 := by have := evenN_lt HM0.out; omega
    have b1 := (expJ_bd HM.out hj64).1
    have b2 := (expJ_bd HM.out hj64).2
    have hl := halfN_lt (j := j) HM0.out
    have hmod : ((halfN m j : Nat) : Int).tmod 2 = ((halfN m j % 2 : Nat) : Int) := tmodN _ 2
    have hmod' : ((halfN m j : Nat) : Int) % 2 = ((halfN m j % 2 : Nat) : Int) := rfl
    have hdiv : ((halfN m j : Nat) : Int) / 2 = ((halfN m (j + 1) : Nat) : Int) := by rw [← halfN_succ]; rfl
    have hadd := expJ_succ m j
    have HWY : Hid (IntKind.u64.wrap (halfN m (j + 1) : Int) = (halfN m (j + 1) : Int)) := by
      have := halfN_lt (j := j + 1) HM0.out
      exact wrap_nat (by omega)
    have HA := Lib.hid hadd
    have HB2 := Lib.hid b2
    by_cases hlt : j < evenN m
    · rw [halfN_even HM0.out hlt] at hmod hmod'
      have HL := Lib.hid hl; clear hl
      have HLT := Lib.hid hlt; clear hlt
      clear hj hj64
      generalize halfN m j = x at *
      generalize hxx : halfN m (j + 1) = y at *
      generalize hee : expJ m j = ej at *
      generalize hff : expJ m (j + 1) = ef at *
      have HXX := Lib.hid hxx; clear hxx
      have HEE := Lib.hid hee; clear hee
      have HFF := Lib.hid hff; clear hff
      go_wp2
      go_round
      case rel => exact ⟨j + 1, HLT.out, by rw [HFF.out], by rw [HXX.out]; exact congrArg (Value.int .u64) HWY.out⟩
      case measure => exact meas_up HA.out HB2.out
    · obtain rfl : j = evenN m := by omega
      have ho := (full_odd HM0.out).2
      rw [halfN_end] at *
      rw [ho] at hmod hmod'
      rw [expJ_end] at *
      have hw : IntKind.i64.wrap (oddN m : Int) = (oddN m : Int) := by rw [IntKind.wrap_i64]; omega
      have hw' : wrap64 (oddN m : Int) = (oddN m : Int) := by unfold wrap64; omega
      have OL : (oddN m : Int) < 9007199254740992 := by omega
      clear hj hj64 hlt ho hdiv hadd hl
      go_wp2_with (first
        | (go_at_call 70; ((with_reducible refine (decOdd m HM0.out _).mono ?_)); rintro e w1 ⟨rfl, hb1⟩; have HB1 := Lib.hid hb1; clear hb1)
        | (go_at_call 70; ((with_reducible refine (decPow m HM0.out HM.out _).mono ?_)); rintro e w2 ⟨rfl, hb2⟩; have HB2 := Lib.hid hb2; clear hb2))
      go_ret
      exact ⟨ret_s (numT_neg m), HB1.out.trans (HB2.out.mono HB1.out.size)⟩
set_option maxRecDepth 100000 in
set_option maxHeartbeats 1600000 in
theorem rprint_neg_lo (b m fr : Nat) (hb : b < 18446744073709551616) (hc : canon b = b) (hE : bits .and .u64 ((b : Int) / 4503599627370496) 2047 = 0) (hM : bits .and .u64 (b : Int) 4503599627370495 = (fullN m : Int)) (he : expN m = 1)
    (k0 : ((clsN b : Int) == 0) = false) (k1 : ((clsN b : Int) == 1) = false) (k8 : ((clsN b : Int) == 8) = false) (k4 : ((clsN b : Int) == 4) = false) (k5 : ((clsN b : Int) == 5) = false)
    (ht : (bits .and .u64 (b : Int) 9223372036854775808 != 0) = true) (hm0 : 0 < m) (hm : m < infR) (_hfr : fr = fr) (w : World) :
    Calls Tryd.prog 46 #[.float .f64 b] w fun e w' => e = .returned (.string ⟨(45 :: numT m).toArray⟩) ∧ Below w.heap.size w w' := by
  have l1 := digT_len hm0
  have l2 := powT_len hm0 hm
  have n1 : ¬ 9223372036854775807 < (digT m).length + 1 := by omega
  have n2 : ¬ 9223372036854775807 < (digT m).length + 1 + (powT m).length := by omega
  have n3 : ¬ 9223372036854775807 < 1 + ((digT m).length + 1 + (powT m).length) := by omega
  clear l1 l2
  have e1 : (1:Int) ≤ (expN m : Int) := by have := (expN_bd hm).1; omega
  have e2 : (expN m : Int) ≤ 2046 := by have := (expN_bd hm).2; omega
  have HB := Lib.hid hb; clear hb
  have HC := Lib.hid hc; clear hc
  have HM := Lib.hid hm; clear hm
  have HM0 := Lib.hid hm0; clear hm0
  have HE := Lib.hid he; clear he
  go_enter Tryd.func46, Tryd.ntmps46
  go_wp2_with (first
    | (go_at_call 69; refine (rclass_any _ _ HB.out).mono ?_; rintro e w' ⟨rfl, rfl⟩)
    | (go_at_call 54; refine (rbits_any _ _).mono ?_; rw [HC.out]; rintro e w' ⟨rfl, rfl⟩))
  go_loop [4, 5] (fun e v => ∃ j : Nat, j ≤ evenN m ∧ e = .int .i64 (expJ m j) ∧ v = .int .u64 (halfN m j : Nat)) (fun e _ => (2000 - RowKit.intOf e).toNat)
  case atStart => exact ⟨0, Nat.zero_le _, congrArg (Value.int .i64) (start_e1 m HE.out), by rw [halfN_0]⟩
  case round =>
    obtain ⟨j, hj, rfl, rfl⟩ := hrel
    have hj64 : j < 64 := by have := evenN_lt HM0.out; omega
    have b1 := (expJ_bd HM.out hj64).1
    have b2 := (expJ_bd HM.out hj64).2
    have hl := halfN_lt (j := j) HM0.out
    have hmod : ((halfN m j : Nat) : Int).tmod 2 = ((halfN m j % 2 : Nat) : Int) := tmodN _ 2
    have hmod' : ((halfN m j : Nat) : Int) % 2 = ((halfN m j % 2 : Nat) : Int) := rfl
    have hdiv : ((halfN m j : Nat) : Int) / 2 = ((halfN m (j + 1) : Nat) : Int) := by rw [← halfN_succ]; rfl
    have hadd := expJ_succ m j
    have HWY : Hid (IntKind.u64.wrap (halfN m (j + 1) : Int) = (halfN m (j + 1) : Int)) := by
      have := halfN_lt (j := j + 1) HM0.out
      exact wrap_nat (by omega)
    have HA := Lib.hid hadd
    have HB2 := Lib.hid b2
    by_cases hlt : j < evenN m
    · rw [halfN_even HM0.out hlt] at hmod hmod'
      have HL := Lib.hid hl; clear hl
      have HLT := Lib.hid hlt; clear hlt
      clear hj hj64
      generalize halfN m j = x at *
      generalize hxx : halfN m (j + 1) = y at *
      generalize hee : expJ m j = ej at *
      generalize hff : expJ m (j + 1) = ef at *
      have HXX := Lib.hid hxx; clear hxx
      have HEE := Lib.hid hee; clear hee
      have HFF := Lib.hid hff; clear hff
      go_wp2
      go_round
      case rel => exact ⟨j + 1, HLT.out, by rw [HFF.out], by rw [HXX.out]; exact congrArg (Value.int .u64) HWY.out⟩
      case measure => exact meas_up HA.out HB2.out
    · obtain rfl : j = evenN m := by omega
      have ho := (full_odd HM0.out).2
      rw [halfN_end] at *
      rw [ho] at hmod hmod'
      rw [expJ_end] at *
      have hw : IntKind.i64.wrap (oddN m : Int) = (oddN m : Int) := by rw [IntKind.wrap_i64]; omega
      have hw' : wrap64 (oddN m : Int) = (oddN m : Int) := by unfold wrap64; omega
      have OL : (oddN m : Int) < 9007199254740992 := by omega
      clear hj hj64 hlt ho hdiv hadd hl
      go_wp2_with (first
        | (go_at_call 70; ((with_reducible refine (decOdd m HM0.out _).mono ?_)); rintro e w1 ⟨rfl, hb1⟩; have HB1 := Lib.hid hb1; clear hb1)
        | (go_at_call 70; ((with_reducible refine (decPow m HM0.out HM.out _).mono ?_)); rintro e w2 ⟨rfl, hb2⟩; have HB2 := Lib.hid hb2; clear hb2))
      go_ret
      exact ⟨ret_s (numT_neg m), HB1.out.trans (HB2.out.mono HB1.out.size)⟩
set_option maxRecDepth 100000 in
set_option maxHeartbeats 1600000 in
theorem rprint_pos_hi (b m fr : Nat) (hb : b < 18446744073709551616) (hc : canon b = b) (hE : bits .and .u64 ((b : Int) / 4503599627370496) 2047 = (expN m : Int)) (hM : bits .and .u64 (b : Int) 4503599627370495 = (fr : Int)) (hO : bits .or .u64 (fr : Int) 4503599627370496 = (fullN m : Int)) (hg : 0 < expN m)
    (k0 : ((clsN b : Int) == 0) = false) (k1 : ((clsN b : Int) == 1) = false) (k8 : ((clsN b : Int) == 8) = false) (k4 : ((clsN b : Int) == 4) = false) (k5 : ((clsN b : Int) == 5) = false)
    (ht : (bits .and .u64 (b : Int) 9223372036854775808 != 0) = false) (hm0 : 0 < m) (hm : m < infR) (_hfr : fr = fr) (w : World) :
    Calls Tryd.prog 46 #[.float .f64 b] w fun e w' => e = .returned (.string ⟨(numT m).toArray⟩) ∧ Below w.heap.size w w' := by
  have l1 := digT_len hm0
  have l2 := powT_len hm0 hm
  have n1 : ¬ 9223372036854775807 < (digT m).length + 1 := by omega
  have n2 : ¬ 9223372036854775807 < (digT m).length + 1 + (powT m).length := by omega
  have n3 : ¬ 9223372036854775807 < 1 + ((digT m).length + 1 + (powT m).length) := by omega
  clear l1 l2
  have e1 : (1:Int) ≤ (expN m : Int) := by have := (expN_bd hm).1; omega
  have e2 : (expN m : Int) ≤ 2046 := by have := (expN_bd hm).2; omega
  have HB := Lib.hid hb; clear hb
  have HC := Lib.hid hc; clear hc
  have HM := Lib.hid hm; clear hm
  have HM0 := Lib.hid hm0; clear hm0
  go_enter Tryd.func46, Tryd.ntmps46
  go_wp2_with (first
    | (go_at_call 69; refine (rclass_any _ _ HB.out).mono ?_; rintro e w' ⟨rfl, rfl⟩)
    | (go_at_call 54; refine (rbits_any _ _).mono ?_; rw [HC.out]; rintro e w' ⟨rfl, rfl⟩))
  go_loop [4, 5] (fun e v => ∃ j : Nat, j ≤ evenN m ∧ e = .int .i64 (expJ m j) ∧ v = .int .u64 (halfN m j : Nat)) (fun e _ => (2000 - RowKit.intOf e).toNat)
  case atStart => exact ⟨0, Nat.zero_le _, congrArg (Value.int .i64) (start_e m), by rw [halfN_0]⟩
  case round =>
    obtain ⟨j, hj, rfl, rfl⟩ := hrel
    have hj64 : j < 64 := by have := evenN_lt HM0.out; omega
    have b1 := (expJ_bd HM.out hj64).1
    have b2 := (expJ_bd HM.out hj64).2
    have hl := halfN_lt (j := j) HM0.out
    have hmod : ((halfN m j : Nat) : Int).tmod 2 = ((halfN m j % 2 : Nat) : Int) := tmodN _ 2
    have hmod' : ((halfN m j : Nat) : Int) % 2 = ((halfN m j % 2 : Nat) : Int) := rfl
    have hdiv : ((halfN m j : Nat) : Int) / 2 = ((halfN m (j + 1) : Nat) : Int) := by rw [← halfN_succ]; rfl
    have hadd := expJ_succ m j
    have HWY : Hid (IntKind.u64.wrap (halfN m (j + 1) : Int) = (halfN m (j + 1) : Int)) := by
      have := halfN_lt (j := j + 1) HM0.out
      exact wrap_nat (by omega)
    have HA := Lib.hid hadd
    have HB2 := Lib.hid b2
    by_cases hlt : j < evenN m
    · rw [halfN_even HM0.out hlt] at hmod hmod'
      have HL := Lib.hid hl; clear hl
      have HLT := Lib.hid hlt; clear hlt
      clear hj hj64
      generalize halfN m j = x at *
      generalize hxx : halfN m (j + 1) = y at *
      generalize hee : expJ m j = ej at *
      generalize hff : expJ m (j + 1) = ef at *
      have HXX := Lib.hid hxx; clear hxx
      have HEE := Lib.hid hee; clear hee
      have HFF := Lib.hid hff; clear hff
      go_wp2
      go_round
      case rel => exact ⟨j + 1, HLT.out, by rw [HFF.out], by rw [HXX.out]; exact congrArg (Value.int .u64) HWY.out⟩
      case measure => exact meas_up HA.out HB2.out
    · obtain rfl : j = evenN m := by omega
      have ho := (full_odd HM0.out).2
      rw [halfN_end] at *
      rw [ho] at hmod hmod'
      rw [expJ_end] at *
      have hw : IntKind.i64.wrap (oddN m : Int) = (oddN m : Int) := by rw [IntKind.wrap_i64]; omega
      have hw' : wrap64 (oddN m : Int) = (oddN m : Int) := by unfold wrap64; omega
      have OL : (oddN m : Int) < 9007199254740992 := by omega
      clear hj hj64 hlt ho hdiv hadd hl
      go_wp2_with (first
        | (go_at_call 70; ((with_reducible refine (decOdd m HM0.out _).mono ?_)); rintro e w1 ⟨rfl, hb1⟩; have HB1 := Lib.hid hb1; clear hb1)
        | (go_at_call 70; ((with_reducible refine (decPow m HM0.out HM.out _).mono ?_)); rintro e w2 ⟨rfl, hb2⟩; have HB2 := Lib.hid hb2; clear hb2))
      go_ret
      exact ⟨ret_s (numT_eq m), HB1.out.trans (HB2.out.mono HB1.out.size)⟩
set_option maxRecDepth 100000 in
set_option maxHeartbeats 1600000 in
theorem rprint_pos_lo (b m fr : Nat) (hb : b < 18446744073709551616) (hc : canon b = b) (hE : bits .and .u64 ((b : Int) / 4503599627370496) 2047 = 0) (hM : bits .and .u64 (b : Int) 4503599627370495 = (fullN m : Int)) (he : expN m = 1)
    (k0 : ((clsN b : Int) == 0) = false) (k1 : ((clsN b : Int) == 1) = false) (k8 : ((clsN b : Int) == 8) = false) (k4 : ((clsN b : Int) == 4) = false) (k5 : ((clsN b : Int) == 5) = false)
    (ht : (bits .and .u64 (b : Int) 9223372036854775808 != 0) = false) (hm0 : 0 < m) (hm : m < infR) (_hfr : fr = fr) (w : World) :
    Calls Tryd.prog 46 #[.float .f64 b] w fun e w' => e = .returned (.string ⟨(numT m).toArray⟩) ∧ Below w.heap.size w w' := by
  have l1 := digT_len hm0
  have l2 := powT_len hm0 hm
  have n1 : ¬ 9223372036854775807 < (digT m).length + 1 := by omega
  have n2 : ¬ 9223372036854775807 < (digT m).length + 1 + (powT m).length := by omega
  have n3 : ¬ 9223372036854775807 < 1 + ((digT m).length + 1 + (powT m).length) := by omega
  clear l1 l2
  have e1 : (1:Int) ≤ (expN m : Int) := by have := (expN_bd hm).1; omega
  have e2 : (expN m : Int) ≤ 2046 := by have := (expN_bd hm).2; omega
  have HB := Lib.hid hb; clear hb
  have HC := Lib.hid hc; clear hc
  have HM := Lib.hid hm; clear hm
  have HM0 := Lib.hid hm0; clear hm0
  have HE := Lib.hid he; clear he
  go_enter Tryd.func46, Tryd.ntmps46
  go_wp2_with (first
    | (go_at_call 69; refine (rclass_any _ _ HB.out).mono ?_; rintro e w' ⟨rfl, rfl⟩)
    | (go_at_call 54; refine (rbits_any _ _).mono ?_; rw [HC.out]; rintro e w' ⟨rfl, rfl⟩))
  go_loop [4, 5] (fun e v => ∃ j : Nat, j ≤ evenN m ∧ e = .int .i64 (expJ m j) ∧ v = .int .u64 (halfN m j : Nat)) (fun e _ => (2000 - RowKit.intOf e).toNat)
  case atStart => exact ⟨0, Nat.zero_le _, congrArg (Value.int .i64) (start_e1 m HE.out), by rw [halfN_0]⟩
  case round =>
    obtain ⟨j, hj, rfl, rfl⟩ := hrel
    have hj64 : j < 64 := by have := evenN_lt HM0.out; omega
    have b1 := (expJ_bd HM.out hj64).1
    have b2 := (expJ_bd HM.out hj64).2
    have hl := halfN_lt (j := j) HM0.out
    have hmod : ((halfN m j : Nat) : Int).tmod 2 = ((halfN m j % 2 : Nat) : Int) := tmodN _ 2
    have hmod' : ((halfN m j : Nat) : Int) % 2 = ((halfN m j % 2 : Nat) : Int) := rfl
    have hdiv : ((halfN m j : Nat) : Int) / 2 = ((halfN m (j + 1) : Nat) : Int) := by rw [← halfN_succ]; rfl
    have hadd := expJ_succ m j
    have HWY : Hid (IntKind.u64.wrap (halfN m (j + 1) : Int) = (halfN m (j + 1) : Int)) := by
      have := halfN_lt (j := j + 1) HM0.out
      exact wrap_nat (by omega)
    have HA := Lib.hid hadd
    have HB2 := Lib.hid b2
    by_cases hlt : j < evenN m
    · rw [halfN_even HM0.out hlt] at hmod hmod'
      have HL := Lib.hid hl; clear hl
      have HLT := Lib.hid hlt; clear hlt
      clear hj hj64
      generalize halfN m j = x at *
      generalize hxx : halfN m (j + 1) = y at *
      generalize hee : expJ m j = ej at *
      generalize hff : expJ m (j + 1) = ef at *
      have HXX := Lib.hid hxx; clear hxx
      have HEE := Lib.hid hee; clear hee
      have HFF := Lib.hid hff; clear hff
      go_wp2
      go_round
      case rel => exact ⟨j + 1, HLT.out, by rw [HFF.out], by rw [HXX.out]; exact congrArg (Value.int .u64) HWY.out⟩
      case measure => exact meas_up HA.out HB2.out
    · obtain rfl : j = evenN m := by omega
      have ho := (full_odd HM0.out).2
      rw [halfN_end] at *
      rw [ho] at hmod hmod'
      rw [expJ_end] at *
      have hw : IntKind.i64.wrap (oddN m : Int) = (oddN m : Int) := by rw [IntKind.wrap_i64]; omega
      have hw' : wrap64 (oddN m : Int) = (oddN m : Int) := by unfold wrap64; omega
      have OL : (oddN m : Int) < 9007199254740992 := by omega
      clear hj hj64 hlt ho hdiv hadd hl
      go_wp2_with (first
        | (go_at_call 70; ((with_reducible refine (decOdd m HM0.out _).mono ?_)); rintro e w1 ⟨rfl, hb1⟩; have HB1 := Lib.hid hb1; clear hb1)
        | (go_at_call 70; ((with_reducible refine (decPow m HM0.out HM.out _).mono ?_)); rintro e w2 ⟨rfl, hb2⟩; have HB2 := Lib.hid hb2; clear hb2))
      go_ret
      exact ⟨ret_s (numT_eq m), HB1.out.trans (HB2.out.mono HB1.out.size)⟩

theorem rprint_num (b : Nat) (hb : b < 18446744073709551616) (hc : canon b = b) (h0 : 0 < b % 9223372036854775808) (hi : b % 9223372036854775808 < infR)
    (hk : clsN b ≠ 0 ∧ clsN b ≠ 1 ∧ clsN b ≠ 8 ∧ clsN b ≠ 4 ∧ clsN b ≠ 5) (w : World) :
    Calls Tryd.prog 46 #[.float .f64 b] w fun e w' => e = .returned (.string ⟨(bif decide (9223372036854775808 ≤ b) then 45 :: numT (b % 9223372036854775808) else numT (b % 9223372036854775808)).toArray⟩) ∧ Below w.heap.size w w' := by
  obtain ⟨n0, n1, n8, n4, n5⟩ := hk
  have k0 : ((clsN b : Int) == 0) = false := by simp; omega
  have k1 : ((clsN b : Int) == 1) = false := by simp; omega
  have k8 : ((clsN b : Int) == 8) = false := by simp; omega
  have k4 : ((clsN b : Int) == 4) = false := by simp; omega
  have k5 : ((clsN b : Int) == 5) = false := by simp; omega
  have hE := band_exp hb
  have hM := band_frac hb
  by_cases hlo : b % 9223372036854775808 < 4503599627370496
  · have e1 : b / 4503599627370496 % 2048 = 0 := by omega
    have e2 : b % 4503599627370496 = b % 9223372036854775808 := by omega
    rw [e1] at hE
    rw [e2, ← fullN_lo hlo, fullN_lo hlo] at hM
    have hM' : bits .and .u64 (b : Int) 4503599627370495 = (fullN (b % 9223372036854775808) : Int) := by rw [fullN_lo hlo]; exact hM
    by_cases hs : 9223372036854775808 ≤ b
    · rw [decide_eq_true hs, cond_true]
      exact rprint_neg_lo b _ 0 hb hc hE hM' (expN_lo hlo) k0 k1 k8 k4 k5 (band_top_ne hs hb) h0 hi rfl w
    · rw [decide_eq_false hs, cond_false]
      exact rprint_pos_lo b _ 0 hb hc hE hM' (expN_lo hlo) k0 k1 k8 k4 k5 (band_top_eq (by omega)) h0 hi rfl w
  · have e1 : b / 4503599627370496 % 2048 = expN (b % 9223372036854775808) := by rw [expN_hi hlo]; omega
    have e2 : b % 4503599627370496 = b % 9223372036854775808 % 4503599627370496 := by omega
    rw [e1] at hE
    have hO := bor52 (n := b % 4503599627370496) (by omega)
    have hO' : bits .or .u64 ((b % 4503599627370496 : Nat) : Int) 4503599627370496 = (fullN (b % 9223372036854775808) : Int) := by rw [fullN_hi hlo, ← e2]; exact hO
    have hg := (expN_bd hi).1
    by_cases hs : 9223372036854775808 ≤ b
    · rw [decide_eq_true hs, cond_true]
      exact rprint_neg_hi b _ _ hb hc hE hM hO' hg k0 k1 k8 k4 k5 (band_top_ne hs hb) h0 hi rfl w
    · rw [decide_eq_false hs, cond_false]
      exact rprint_pos_hi b _ _ hb hc hE hM hO' hg k0 k1 k8 k4 k5 (band_top_eq (by omega)) h0 hi rfl w
/-- raceref1.Print, ANY FLOAT: the same text. -/
theorem rprint_any (b : Nat) (hb : b < 18446744073709551616) (w : World) :
    Calls Tryd.prog 46 #[.float .f64 b] w fun e w' => e = .returned (.string ⟨(textN b).toArray⟩) ∧ Below w.heap.size w w' := by
  rcases cls_cases hb with ⟨h, _⟩ | ⟨h, _⟩ | ⟨h, _⟩ | ⟨h, _⟩ | ⟨h, _⟩ | ⟨h, hc, h0, hi, hs⟩ | ⟨h, hc, h0, hi, hs⟩
  · rw [textN_0 h]; refine (rprint_k0 b hb h w).mono ?_; rintro e w' ⟨he, rfl⟩; exact ⟨he, Below.refl _ _⟩
  · rw [textN_1 h]; refine (rprint_k1 b hb h w).mono ?_; rintro e w' ⟨he, rfl⟩; exact ⟨he, Below.refl _ _⟩
  · rw [textN_4 h]; refine (rprint_k4 b hb h w).mono ?_; rintro e w' ⟨he, rfl⟩; exact ⟨he, Below.refl _ _⟩
  · rw [textN_5 h]; refine (rprint_k5 b hb h w).mono ?_; rintro e w' ⟨he, rfl⟩; exact ⟨he, Below.refl _ _⟩
  · rw [textN_8 h]; refine (rprint_k8 b hb h w).mono ?_; rintro e w' ⟨he, rfl⟩; exact ⟨he, Below.refl _ _⟩
  · rw [textN_neg h]
    have := rprint_num b hb hc h0 hi (by omega) w
    rw [decide_eq_true (by omega), cond_true] at this
    exact this
  · rw [textN_pos h]
    have := rprint_num b hb hc h0 hi (by omega) w
    rw [decide_eq_false (by omega), cond_false] at this
    exact this
end Go.Proofs.YtjkfcmadoeifgaaDoor
