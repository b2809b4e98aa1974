/- Contracts of num's and raceref1's ranks, orders and classes. Conditions: bits below 2^64. Contracts of num's and raceref1's sums, differences, products, quotients, and of the least and the most of two. Conditions: bits below 2^64. Contracts of num's and raceref1's classes. Conditions: bits below 2^64. The contract of raceref1.Class. Conditions: bits below 2^64. -/
import Derived.Test.YtbgccaconhmbaaaGreatDoorJB
import Derived.Test.YtbgccaconhmbaaaGreatDoorJC
namespace Go.Proofs.YtbgccaconhmbaaaGreatDoor
open Go.RowKit

theorem rank_any (b : Nat) (w : World) (hb : b < 18446744073709551616) : Calls Tryz.prog 154 #[.float .f64 b] w fun e w' => e = .returned (.int .u64 (rankN b : Nat)) ∧ w = w' := by
  have hc := canon_lt hb
  by_cases h : 9223372036854775808 ≤ canon b
  · rw [rankN_hi h]
    have h1 := band_top_ne h hc
    have h2 := bnot hc
    clear h hc hb
    go_enter Tryz.func154, Tryz.ntmps154
    go_wp2_with (go_at_call 112; refine (bits_any _ _).mono ?_; rintro e w' ⟨rfl, rfl⟩)
    go_ret
    exact ⟨rfl, rfl⟩
  · rw [rankN_lo (by omega)]
    have h1 := band_top_eq (n := canon b) (by omega)
    have h2 := bor_top (n := canon b) (by omega)
    clear h hc hb
    go_enter Tryz.func154, Tryz.ntmps154
    go_wp2_with (go_at_call 112; refine (bits_any _ _).mono ?_; rintro e w' ⟨rfl, rfl⟩)
    go_ret
    exact ⟨rfl, rfl⟩
theorem rrank_any (b : Nat) (w : World) (hb : b < 18446744073709551616) : Calls Tryz.prog 157 #[.float .f64 b] w fun e w' => e = .returned (.int .u64 (rankN b : Nat)) ∧ w = w' := by
  have hc := canon_lt hb
  by_cases h : 9223372036854775808 ≤ canon b
  · rw [rankN_hi h]
    have h1 := band_top_ne h hc
    have h2 := bnot hc
    clear h hc hb
    go_enter Tryz.func157, Tryz.ntmps157
    go_wp2_with (go_at_call 109; refine (rbits_any _ _).mono ?_; rintro e w' ⟨rfl, rfl⟩)
    go_ret
    exact ⟨rfl, rfl⟩
  · rw [rankN_lo (by omega)]
    have h1 := band_top_eq (n := canon b) (by omega)
    have h2 := bor_top (n := canon b) (by omega)
    clear h hc hb
    go_enter Tryz.func157, Tryz.ntmps157
    go_wp2_with (go_at_call 109; refine (rbits_any _ _).mono ?_; rintro e w' ⟨rfl, rfl⟩)
    go_ret
    exact ⟨rfl, rfl⟩
theorem ccmp_any (x y : Nat) (w : World) : Calls Tryz.prog 153 #[.int .u64 (x : Int), .int .u64 (y : Int)] w fun e w' => e = .returned (.int .i64 (cmpN x y)) ∧ w = w' := by
  by_cases h : x < y
  · rw [cmpN_lt h]
    go_enter Tryz.func153, Tryz.ntmps153
    go_wp2
    go_ret
    exact ⟨rfl, rfl⟩
  · by_cases h2 : y < x
    · rw [cmpN_gt h2]
      go_enter Tryz.func153, Tryz.ntmps153
      go_wp2
      go_ret
      exact ⟨rfl, rfl⟩
    · obtain rfl : x = y := by omega
      rw [cmpN_eq]
      clear h h2
      go_enter Tryz.func153, Tryz.ntmps153
      go_wp2
      go_ret
      exact ⟨rfl, rfl⟩
theorem compare_any (a b : Nat) (w : World) (ha : a < 18446744073709551616) (hb : b < 18446744073709551616) : Calls Tryz.prog 116 #[.float .f64 a, .float .f64 b] w fun e w' => e = .returned (.int .i64 (cmpN (rankN a) (rankN b))) ∧ w = w' := by
  have Ha := Lib.hid ha; have Hb := Lib.hid hb; clear ha hb
  go_enter Tryz.func116, Tryz.ntmps116
  go_wp2_with (first | (go_at_call 154; refine (rank_any _ _ (by first | exact Ha.out | exact Hb.out)).mono ?_; rintro e w' ⟨rfl, rfl⟩) | (go_at_call 153; refine (ccmp_any _ _ _).mono ?_; rintro e w' ⟨rfl, rfl⟩))
  go_ret
  exact ⟨rfl, rfl⟩
theorem rcompare_any (a b : Nat) (w : World) (ha : a < 18446744073709551616) (hb : b < 18446744073709551616) : Calls Tryz.prog 119 #[.float .f64 a, .float .f64 b] w fun e w' => e = .returned (.int .i64 (cmpN (rankN a) (rankN b))) ∧ w = w' := by
  have Ha := Lib.hid ha; have Hb := Lib.hid hb; clear ha hb
  by_cases h : rankN a < rankN b
  · rw [cmpN_lt h]
    go_enter Tryz.func119, Tryz.ntmps119
    go_wp2_with (go_at_call 157; refine (rrank_any _ _ (by first | exact Ha.out | exact Hb.out)).mono ?_; rintro e w' ⟨rfl, rfl⟩)
    go_ret
    exact ⟨rfl, rfl⟩
  · by_cases h2 : rankN b < rankN a
    · rw [cmpN_gt h2]
      go_enter Tryz.func119, Tryz.ntmps119
      go_wp2_with (go_at_call 157; refine (rrank_any _ _ (by first | exact Ha.out | exact Hb.out)).mono ?_; rintro e w' ⟨rfl, rfl⟩)
      go_ret
      exact ⟨rfl, rfl⟩
    · have e : rankN a = rankN b := by omega
      rw [e, cmpN_eq]
      have E := Lib.hid e; clear e
      go_enter Tryz.func119, Tryz.ntmps119
      go_wp2_with (go_at_call 157; refine (rrank_any _ _ (by first | exact Ha.out | exact Hb.out)).mono ?_; rintro e w' ⟨rfl, rfl⟩)
      go_ret
      exact ⟨rfl, rfl⟩
end Go.Proofs.YtbgccaconhmbaaaGreatDoor
namespace Go.Proofs.YtbgccaconhmbaaaGreatDoor
open Go.RowKit

/-- What an operation gives in canonical form: of an invalid one the one NaN. -/
def resN (o : Option Nat) : Nat := match o with | some r => canon r | none => oneNaN
theorem resN_some (r : Nat) : resN (some r) = canon r := rfl
theorem resN_none : resN none = oneNaN := rfl

def nanCut (x y : Nat) (t : Nat) : Nat := Question.cut (.nanBits .f64 x y) t
theorem nanCut_eq (x y t : Nat) : nanCut x y t = (t % 2) * 9223372036854775808 + 9218868437227405312 + 1 + (t / 2) % 4503599627370495 := by
  simp [nanCut, Question.cut]
theorem nanCut_nan (x y t : Nat) : nanB (nanCut x y t) = true := by
  rw [nanCut_eq]; unfold nanB infR
  rw [decide_eq_true_iff]
  have h2 : (t / 2) % 4503599627370495 < 4503599627370495 := Nat.mod_lt _ (by decide)
  have h3 : t % 2 < 2 := Nat.mod_lt _ (by decide)
  generalize (t / 2) % 4503599627370495 = u at *
  generalize t % 2 = v at *
  omega
theorem canon_cut (x y t : Nat) : canon (nanCut x y t) = oneNaN := canon_nan (nanCut_nan x y t)

/-- An invalid operation: some NaN, and one answer drawn. -/
theorem run_invalid (op : BinOp) (hop : op = .add ∨ op = .sub ∨ op = .mul ∨ op = .quo) (t : TypeId) (x y : Nat) (h : floatBits op .f64 x y = none) (w : World) :
    (binOp op t (.float .f64 x) (.float .f64 y)).run Tryz.prog w = .ok (.float .f64 (nanCut x y (w.tape w.drawn (.nanBits .f64 x y)))) w.drew := by
  unfold floatBits at h
  rcases hop with rfl | rfl | rfl | rfl <;> simp only at h <;> simp [binOp, Op.floatArith, h, Question.forced, nanCut]

/-- A world that is w but for what has been drawn. -/
def Drew (w w' : World) : Prop := ∃ n, w' = w.drewN n
theorem Drew.refl (w : World) : Drew w w := ⟨0, rfl⟩
theorem Drew.one (w : World) : Drew w w.drew := ⟨1, rfl⟩

theorem add_any (a b : Nat) (w : World) : Calls Tryz.prog 77 #[.float .f64 a, .float .f64 b] w fun e w' => e = .returned (.float .f64 (resN (Ieee.double.add a b))) ∧ Drew w w' := by
  cases h : Ieee.double.add a b
  · have hr := run_invalid .add (by simp) 46 a b h
    rw [resN_none, ← canon_cut a b (w.tape w.drawn (.nanBits .f64 a b))]
    clear h
    go_enter Tryz.func77, Tryz.ntmps77
    go_wp2_with (go_at_call 115; refine (canon_any _ _).mono ?_; rintro e w' ⟨rfl, rfl⟩)
    go_ret
    exact ⟨rfl, Drew.one _⟩
  · rename_i r
    have hr := fun w => run_float_arith (P := Tryz.prog) w .add 46 .f64 a b r h
    rw [resN_some]
    clear h
    go_enter Tryz.func77, Tryz.ntmps77
    go_wp2_with (go_at_call 115; refine (canon_any _ _).mono ?_; rintro e w' ⟨rfl, rfl⟩)
    go_ret
    exact ⟨rfl, Drew.refl _⟩
theorem does0_any (a b : Nat) (w : World) : Calls Tryz.prog 91 #[.int .i64 0, .float .f64 a, .float .f64 b] w fun e w' => e = .returned (.float .f64 (resN (Ieee.double.add a b))) ∧ Drew w w' := by
  cases h : Ieee.double.add a b
  · have hr := run_invalid .add (by simp) 46 a b h
    rw [resN_none, ← canon_cut a b (w.tape w.drawn (.nanBits .f64 a b))]
    clear h
    go_enter Tryz.func91, Tryz.ntmps91
    go_wp2_with (go_at_call 64; refine (rcanon_any _ _).mono ?_; rintro e w' ⟨rfl, rfl⟩)
    go_ret
    exact ⟨rfl, Drew.one _⟩
  · rename_i r
    have hr := fun w => run_float_arith (P := Tryz.prog) w .add 46 .f64 a b r h
    rw [resN_some]
    clear h
    go_enter Tryz.func91, Tryz.ntmps91
    go_wp2_with (go_at_call 64; refine (rcanon_any _ _).mono ?_; rintro e w' ⟨rfl, rfl⟩)
    go_ret
    exact ⟨rfl, Drew.refl _⟩
theorem sub_any (a b : Nat) (w : World) : Calls Tryz.prog 78 #[.float .f64 a, .float .f64 b] w fun e w' => e = .returned (.float .f64 (resN (Ieee.double.sub a b))) ∧ Drew w w' := by
  cases h : Ieee.double.sub a b
  · have hr := run_invalid .sub (by simp) 46 a b h
    rw [resN_none, ← canon_cut a b (w.tape w.drawn (.nanBits .f64 a b))]
    clear h
    go_enter Tryz.func78, Tryz.ntmps78
    go_wp2_with (go_at_call 115; refine (canon_any _ _).mono ?_; rintro e w' ⟨rfl, rfl⟩)
    go_ret
    exact ⟨rfl, Drew.one _⟩
  · rename_i r
    have hr := fun w => run_float_arith (P := Tryz.prog) w .sub 46 .f64 a b r h
    rw [resN_some]
    clear h
    go_enter Tryz.func78, Tryz.ntmps78
    go_wp2_with (go_at_call 115; refine (canon_any _ _).mono ?_; rintro e w' ⟨rfl, rfl⟩)
    go_ret
    exact ⟨rfl, Drew.refl _⟩
theorem does1_any (a b : Nat) (w : World) : Calls Tryz.prog 91 #[.int .i64 1, .float .f64 a, .float .f64 b] w fun e w' => e = .returned (.float .f64 (resN (Ieee.double.sub a b))) ∧ Drew w w' := by
  cases h : Ieee.double.sub a b
  · have hr := run_invalid .sub (by simp) 46 a b h
    rw [resN_none, ← canon_cut a b (w.tape w.drawn (.nanBits .f64 a b))]
    clear h
    go_enter Tryz.func91, Tryz.ntmps91
    go_wp2_with (go_at_call 64; refine (rcanon_any _ _).mono ?_; rintro e w' ⟨rfl, rfl⟩)
    go_ret
    exact ⟨rfl, Drew.one _⟩
  · rename_i r
    have hr := fun w => run_float_arith (P := Tryz.prog) w .sub 46 .f64 a b r h
    rw [resN_some]
    clear h
    go_enter Tryz.func91, Tryz.ntmps91
    go_wp2_with (go_at_call 64; refine (rcanon_any _ _).mono ?_; rintro e w' ⟨rfl, rfl⟩)
    go_ret
    exact ⟨rfl, Drew.refl _⟩
theorem mul_any (a b : Nat) (w : World) : Calls Tryz.prog 79 #[.float .f64 a, .float .f64 b] w fun e w' => e = .returned (.float .f64 (resN (Ieee.double.mul a b))) ∧ Drew w w' := by
  cases h : Ieee.double.mul a b
  · have hr := run_invalid .mul (by simp) 46 a b h
    rw [resN_none, ← canon_cut a b (w.tape w.drawn (.nanBits .f64 a b))]
    clear h
    go_enter Tryz.func79, Tryz.ntmps79
    go_wp2_with (go_at_call 115; refine (canon_any _ _).mono ?_; rintro e w' ⟨rfl, rfl⟩)
    go_ret
    exact ⟨rfl, Drew.one _⟩
  · rename_i r
    have hr := fun w => run_float_arith (P := Tryz.prog) w .mul 46 .f64 a b r h
    rw [resN_some]
    clear h
    go_enter Tryz.func79, Tryz.ntmps79
    go_wp2_with (go_at_call 115; refine (canon_any _ _).mono ?_; rintro e w' ⟨rfl, rfl⟩)
    go_ret
    exact ⟨rfl, Drew.refl _⟩
theorem does2_any (a b : Nat) (w : World) : Calls Tryz.prog 91 #[.int .i64 2, .float .f64 a, .float .f64 b] w fun e w' => e = .returned (.float .f64 (resN (Ieee.double.mul a b))) ∧ Drew w w' := by
  cases h : Ieee.double.mul a b
  · have hr := run_invalid .mul (by simp) 46 a b h
    rw [resN_none, ← canon_cut a b (w.tape w.drawn (.nanBits .f64 a b))]
    clear h
    go_enter Tryz.func91, Tryz.ntmps91
    go_wp2_with (go_at_call 64; refine (rcanon_any _ _).mono ?_; rintro e w' ⟨rfl, rfl⟩)
    go_ret
    exact ⟨rfl, Drew.one _⟩
  · rename_i r
    have hr := fun w => run_float_arith (P := Tryz.prog) w .mul 46 .f64 a b r h
    rw [resN_some]
    clear h
    go_enter Tryz.func91, Tryz.ntmps91
    go_wp2_with (go_at_call 64; refine (rcanon_any _ _).mono ?_; rintro e w' ⟨rfl, rfl⟩)
    go_ret
    exact ⟨rfl, Drew.refl _⟩
theorem div_any (a b : Nat) (w : World) : Calls Tryz.prog 80 #[.float .f64 a, .float .f64 b] w fun e w' => e = .returned (.float .f64 (resN (Ieee.double.div a b))) ∧ Drew w w' := by
  cases h : Ieee.double.div a b
  · have hr := run_invalid .quo (by simp) 46 a b h
    rw [resN_none, ← canon_cut a b (w.tape w.drawn (.nanBits .f64 a b))]
    clear h
    go_enter Tryz.func80, Tryz.ntmps80
    go_wp2_with (go_at_call 115; refine (canon_any _ _).mono ?_; rintro e w' ⟨rfl, rfl⟩)
    go_ret
    exact ⟨rfl, Drew.one _⟩
  · rename_i r
    have hr := fun w => run_float_arith (P := Tryz.prog) w .quo 46 .f64 a b r h
    rw [resN_some]
    clear h
    go_enter Tryz.func80, Tryz.ntmps80
    go_wp2_with (go_at_call 115; refine (canon_any _ _).mono ?_; rintro e w' ⟨rfl, rfl⟩)
    go_ret
    exact ⟨rfl, Drew.refl _⟩
theorem does3_any (a b : Nat) (w : World) : Calls Tryz.prog 91 #[.int .i64 3, .float .f64 a, .float .f64 b] w fun e w' => e = .returned (.float .f64 (resN (Ieee.double.div a b))) ∧ Drew w w' := by
  cases h : Ieee.double.div a b
  · have hr := run_invalid .quo (by simp) 46 a b h
    rw [resN_none, ← canon_cut a b (w.tape w.drawn (.nanBits .f64 a b))]
    clear h
    go_enter Tryz.func91, Tryz.ntmps91
    go_wp2_with (go_at_call 64; refine (rcanon_any _ _).mono ?_; rintro e w' ⟨rfl, rfl⟩)
    go_ret
    exact ⟨rfl, Drew.one _⟩
  · rename_i r
    have hr := fun w => run_float_arith (P := Tryz.prog) w .quo 46 .f64 a b r h
    rw [resN_some]
    clear h
    go_enter Tryz.func91, Tryz.ntmps91
    go_wp2_with (go_at_call 64; refine (rcanon_any _ _).mono ?_; rintro e w' ⟨rfl, rfl⟩)
    go_ret
    exact ⟨rfl, Drew.refl _⟩

/-- The least of two: of equal ones, their one form. -/
def leastN (a b : Nat) : Nat := canon (bif decide (rankN a ≤ rankN b) then a else b)
def mostN (a b : Nat) : Nat := canon (bif decide (rankN b ≤ rankN a) then a else b)
theorem leastN_le {a b : Nat} (h : rankN a ≤ rankN b) : leastN a b = canon a := by simp [leastN, h]
theorem leastN_gt {a b : Nat} (h : ¬ rankN a ≤ rankN b) : leastN a b = canon b := by simp [leastN, h]
theorem mostN_le {a b : Nat} (h : rankN b ≤ rankN a) : mostN a b = canon a := by simp [mostN, h]
theorem mostN_gt {a b : Nat} (h : ¬ rankN b ≤ rankN a) : mostN a b = canon b := by simp [mostN, h]
theorem cmpN_le0 {x y : Nat} (h : x ≤ y) : decide (cmpN x y ≤ 0) = true := by
  by_cases h2 : x < y
  · rw [cmpN_lt h2]; rfl
  · obtain rfl : x = y := by omega
    rw [cmpN_eq]; rfl
theorem cmpN_gt0 {x y : Nat} (h : ¬ x ≤ y) : decide (cmpN x y ≤ 0) = false := by rw [cmpN_gt (by omega)]; rfl
theorem cmpN_ge0 {x y : Nat} (h : y ≤ x) : decide (cmpN x y ≥ 0) = true := by
  by_cases h2 : y < x
  · rw [cmpN_gt h2]; rfl
  · obtain rfl : x = y := by omega
    rw [cmpN_eq]; rfl
theorem cmpN_lt0 {x y : Nat} (h : ¬ y ≤ x) : decide (cmpN x y ≥ 0) = false := by rw [cmpN_lt (by omega)]; rfl
theorem least_any (a b : Nat) (w : World) (ha : a < 18446744073709551616) (hb : b < 18446744073709551616) : Calls Tryz.prog 81 #[.float .f64 a, .float .f64 b] w fun e w' => e = .returned (.float .f64 (leastN a b)) ∧ w = w' := by
  have Ha := Lib.hid ha; have Hb := Lib.hid hb; clear ha hb
  by_cases h : rankN a ≤ rankN b
  · rw [leastN_le h]
    have ht := cmpN_le0 h
    clear h
    go_enter Tryz.func81, Tryz.ntmps81
    go_wp2_with (first | (go_at_call 116; refine (compare_any _ _ _ Ha.out Hb.out).mono ?_; rintro e w' ⟨rfl, rfl⟩) | (go_at_call 115; refine (canon_any _ _).mono ?_; rintro e w' ⟨rfl, rfl⟩))
    go_ret
    exact ⟨rfl, rfl⟩
  · rw [leastN_gt h]
    have ht := cmpN_gt0 h
    clear h
    go_enter Tryz.func81, Tryz.ntmps81
    go_wp2_with (first | (go_at_call 116; refine (compare_any _ _ _ Ha.out Hb.out).mono ?_; rintro e w' ⟨rfl, rfl⟩) | (go_at_call 115; refine (canon_any _ _).mono ?_; rintro e w' ⟨rfl, rfl⟩))
    go_ret
    exact ⟨rfl, rfl⟩
theorem does4_any (a b : Nat) (w : World) (ha : a < 18446744073709551616) (hb : b < 18446744073709551616) : Calls Tryz.prog 91 #[.int .i64 4, .float .f64 a, .float .f64 b] w fun e w' => e = .returned (.float .f64 (leastN a b)) ∧ w = w' := by
  have Ha := Lib.hid ha; have Hb := Lib.hid hb; clear ha hb
  by_cases h : rankN a ≤ rankN b
  · rw [leastN_le h]
    have ht := cmpN_le0 h
    clear h
    go_enter Tryz.func91, Tryz.ntmps91
    go_wp2_with (first | (go_at_call 119; refine (rcompare_any _ _ _ Ha.out Hb.out).mono ?_; rintro e w' ⟨rfl, rfl⟩) | (go_at_call 64; refine (rcanon_any _ _).mono ?_; rintro e w' ⟨rfl, rfl⟩))
    go_ret
    exact ⟨rfl, rfl⟩
  · rw [leastN_gt h]
    have ht := cmpN_gt0 h
    clear h
    go_enter Tryz.func91, Tryz.ntmps91
    go_wp2_with (first | (go_at_call 119; refine (rcompare_any _ _ _ Ha.out Hb.out).mono ?_; rintro e w' ⟨rfl, rfl⟩) | (go_at_call 64; refine (rcanon_any _ _).mono ?_; rintro e w' ⟨rfl, rfl⟩))
    go_ret
    exact ⟨rfl, rfl⟩
theorem most_any (a b : Nat) (w : World) (ha : a < 18446744073709551616) (hb : b < 18446744073709551616) : Calls Tryz.prog 82 #[.float .f64 a, .float .f64 b] w fun e w' => e = .returned (.float .f64 (mostN a b)) ∧ w = w' := by
  have Ha := Lib.hid ha; have Hb := Lib.hid hb; clear ha hb
  by_cases h : rankN b ≤ rankN a
  · rw [mostN_le h]
    have ht := cmpN_ge0 h
    clear h
    go_enter Tryz.func82, Tryz.ntmps82
    go_wp2_with (first | (go_at_call 116; refine (compare_any _ _ _ Ha.out Hb.out).mono ?_; rintro e w' ⟨rfl, rfl⟩) | (go_at_call 115; refine (canon_any _ _).mono ?_; rintro e w' ⟨rfl, rfl⟩))
    go_ret
    exact ⟨rfl, rfl⟩
  · rw [mostN_gt h]
    have ht := cmpN_lt0 h
    clear h
    go_enter Tryz.func82, Tryz.ntmps82
    go_wp2_with (first | (go_at_call 116; refine (compare_any _ _ _ Ha.out Hb.out).mono ?_; rintro e w' ⟨rfl, rfl⟩) | (go_at_call 115; refine (canon_any _ _).mono ?_; rintro e w' ⟨rfl, rfl⟩))
    go_ret
    exact ⟨rfl, rfl⟩
theorem does5_any (a b : Nat) (w : World) (ha : a < 18446744073709551616) (hb : b < 18446744073709551616) : Calls Tryz.prog 91 #[.int .i64 5, .float .f64 a, .float .f64 b] w fun e w' => e = .returned (.float .f64 (mostN a b)) ∧ w = w' := by
  have Ha := Lib.hid ha; have Hb := Lib.hid hb; clear ha hb
  by_cases h : rankN b ≤ rankN a
  · rw [mostN_le h]
    have ht := cmpN_ge0 h
    clear h
    go_enter Tryz.func91, Tryz.ntmps91
    go_wp2_with (first | (go_at_call 119; refine (rcompare_any _ _ _ Ha.out Hb.out).mono ?_; rintro e w' ⟨rfl, rfl⟩) | (go_at_call 64; refine (rcanon_any _ _).mono ?_; rintro e w' ⟨rfl, rfl⟩))
    go_ret
    exact ⟨rfl, rfl⟩
  · rw [mostN_gt h]
    have ht := cmpN_lt0 h
    clear h
    go_enter Tryz.func91, Tryz.ntmps91
    go_wp2_with (first | (go_at_call 119; refine (rcompare_any _ _ _ Ha.out Hb.out).mono ?_; rintro e w' ⟨rfl, rfl⟩) | (go_at_call 64; refine (rcanon_any _ _).mono ?_; rintro e w' ⟨rfl, rfl⟩))
    go_ret
    exact ⟨rfl, rfl⟩
end Go.Proofs.YtbgccaconhmbaaaGreatDoor
namespace Go.Proofs.YtbgccaconhmbaaaGreatDoor
open Go.RowKit

theorem dist_any (m : Nat) (w : World) : Calls Tryz.prog 200 #[.int .u64 (m : Int)] w fun e w' => e = .returned (.int .i64 (distN m : Nat)) ∧ w = w' := by
  by_cases h0 : m = 0
  · subst h0
    go_enter Tryz.func200, Tryz.ntmps200
    go_wp2
    go_ret
    exact ⟨rfl, rfl⟩
  · have hz : ((m : Int) == 0) = false := by simpa using h0
    by_cases h1 : m < 4503599627370496
    · have e : distN m = 1 := by simp [distN, h0, h1]
      rw [e]
      have h1' : decide ((m : Int) < 4503599627370496) = true := by simp; omega
      clear h1 e
      go_enter Tryz.func200, Tryz.ntmps200
      go_wp2
      go_ret
      exact ⟨rfl, rfl⟩
    · have h1' : decide ((m : Int) < 4503599627370496) = false := by simp; omega
      by_cases h2 : m < infR
      · have e : distN m = 2 := by simp [distN, h0, h1, h2]
        rw [e]
        have h2' : decide ((m : Int) < 9218868437227405312) = true := by unfold infR at h2; simp; omega
        clear h1 h2 e
        go_enter Tryz.func200, Tryz.ntmps200
        go_wp2
        go_ret
        exact ⟨rfl, rfl⟩
      · have e : distN m = 3 := by simp [distN, h0, h1, h2]
        rw [e]
        have h2' : decide ((m : Int) < 9218868437227405312) = false := by unfold infR at h2; simp; omega
        clear h1 h2 e
        go_enter Tryz.func200, Tryz.ntmps200
        go_wp2
        go_ret
        exact ⟨rfl, rfl⟩
theorem cls_nan {b : Nat} (h : nanB b = true) : clsN b = 0 := by simp [clsN, h]
theorem class_any (b : Nat) (w : World) (hb : b < 18446744073709551616) : Calls Tryz.prog 171 #[.float .f64 b] w fun e w' => e = .returned (.int .i64 (clsN b : Nat)) ∧ w = w' := by
  cases h : nanB b
  · have hd := distN_le (b % 9223372036854775808)
    have hn : ¬ (infR < b % 9223372036854775808) := by simpa [nanB] using h
    have h1 := bandNot_top hb
    have hc := canon_num h
    by_cases h2 : b < 9223372036854775808
    · have hm : b % 9223372036854775808 = b := by omega
      have e : clsN b = 5 + distN b := by simp [clsN, h, h2, hm]
      have h3 : decide ((b : Int) > 9218868437227405312) = false := by unfold infR at hn; simp; omega
      rw [e]
      rw [hm] at h1 hd
      have hdi : (0:Int) ≤ (distN b : Int) := by omega
      have hdj : (distN b : Int) ≤ 3 := by omega
      have Hc := Lib.hid hc
      clear hc e hm h2 hn h hb hd
      go_enter Tryz.func171, Tryz.ntmps171
      go_wp2_with (first | (go_at_call 112; refine (bits_any _ _).mono ?_; rw [Hc.out]; rintro e w' ⟨rfl, rfl⟩) | (go_at_call 200; refine (dist_any _ _).mono ?_; rintro e w' ⟨rfl, rfl⟩))
      go_ret
      exact ⟨by simp, rfl⟩
    · obtain ⟨m, rfl⟩ : ∃ m, b = m + 9223372036854775808 := ⟨b - 9223372036854775808, by omega⟩
      have hm : (m + 9223372036854775808) % 9223372036854775808 = m := by omega
      have e : clsN (m + 9223372036854775808) = 4 - distN m := by simp only [clsN, h, h2, hm, decide_false, cond_false]
      rw [hm] at h1 hd hn
      have h3 : decide ((m : Int) > 9218868437227405312) = false := by unfold infR at hn; simp; omega
      have h4 : (((m + 9223372036854775808 : Nat) : Int) == (m : Int)) = false := by simp; omega
      have h5 : ((4 - distN m : Nat) : Int) = 4 - (distN m : Int) := by omega
      rw [e, h5]
      have hdi : (0:Int) ≤ (distN m : Int) := by omega
      have hdj : (distN m : Int) ≤ 3 := by omega
      have Hc := Lib.hid hc
      generalize hq : m + 9223372036854775808 = q at *
      clear hc e hm h2 hn h hb hd h5 hq
      go_enter Tryz.func171, Tryz.ntmps171
      go_wp2_with (first | (go_at_call 112; refine (bits_any _ _).mono ?_; rw [Hc.out]; rintro e w' ⟨rfl, rfl⟩) | (go_at_call 200; refine (dist_any _ _).mono ?_; rintro e w' ⟨rfl, rfl⟩))
      go_ret
      exact ⟨by simp, rfl⟩
  · rw [cls_nan h]
    have hc := canon_nan h
    have Hc := Lib.hid hc
    have h1 : bits .andNot .u64 ((oneNaN : Nat) : Int) 9223372036854775808 = 9221120237041090560 := by decide
    clear hc h hb
    go_enter Tryz.func171, Tryz.ntmps171
    go_wp2_with (go_at_call 112; refine (bits_any _ _).mono ?_; rw [Hc.out]; rintro e w' ⟨rfl, rfl⟩)
    go_ret
    exact ⟨rfl, rfl⟩
end Go.Proofs.YtbgccaconhmbaaaGreatDoor
namespace Go.Proofs.YtbgccaconhmbaaaGreatDoor
open Go.RowKit

theorem clsN_pos {b : Nat} (h : nanB b = false) (h2 : b < 9223372036854775808) : clsN b = 5 + distN (b % 9223372036854775808) := by simp [clsN, h, h2]
theorem clsN_neg {b : Nat} (h : nanB b = false) (h2 : ¬ b < 9223372036854775808) : clsN b = 4 - distN (b % 9223372036854775808) := by simp [clsN, h, h2]
theorem distN_0 {m : Nat} (h : m = 0) : distN m = 0 := by simp [distN, h]
theorem distN_1 {m : Nat} (h0 : m ≠ 0) (h : m < 4503599627370496) : distN m = 1 := by simp [distN, h0, h]
theorem distN_2 {m : Nat} (h0 : ¬ m < 4503599627370496) (h : m < infR) : distN m = 2 := by
  have : m ≠ 0 := by omega
  simp [distN, this, h0, h]
theorem distN_3 {m : Nat} (h : ¬ m < infR) : distN m = 3 := by
  have h' := h
  unfold infR at h'
  have h1 : m ≠ 0 := by omega
  have h2 : ¬ m < 4503599627370496 := by omega
  simp [distN, h1, h2, h]

theorem rclass_any (b : Nat) (w : World) (hb : b < 18446744073709551616) : Calls Tryz.prog 87 #[.float .f64 b] w fun e w' => e = .returned (.int .i64 (clsN b : Nat)) ∧ w = w' := by
  cases h : nanB b
  · have hn : b % 9223372036854775808 ≤ infR := by simpa [nanB] using h
    have hn' := hn
    unfold infR at hn'
    have hE := band_exp hb
    have hM := band_frac hb
    have Hc := Lib.hid (canon_num h)
    have hdec : b % 9223372036854775808 = b / 4503599627370496 % 2048 * 4503599627370496 + b % 4503599627370496 := by omega
    by_cases e1 : b / 4503599627370496 % 2048 = 2047
    · have m0 : b % 4503599627370496 = 0 := by omega
      rw [e1] at hE; rw [m0] at hM
      have hd : distN (b % 9223372036854775808) = 3 := distN_3 (by unfold infR; omega)
      by_cases hs : b < 9223372036854775808
      · rw [clsN_pos h hs, hd]
        have ht := band_top_eq hs
        clear h hn hn' hdec hd hs e1 m0 hb
        go_enter Tryz.func87, Tryz.ntmps87
        go_wp2_with (go_at_call 109; refine (rbits_any _ _).mono ?_; rw [Hc.out]; rintro e w' ⟨rfl, rfl⟩)
        go_ret
        exact ⟨rfl, rfl⟩
      · rw [clsN_neg h hs, hd]
        have ht := band_top_ne (by omega) hb
        clear h hn hn' hdec hd hs e1 m0 hb
        go_enter Tryz.func87, Tryz.ntmps87
        go_wp2_with (go_at_call 109; refine (rbits_any _ _).mono ?_; rw [Hc.out]; rintro e w' ⟨rfl, rfl⟩)
        go_ret
        exact ⟨rfl, rfl⟩
    · by_cases e0 : b / 4503599627370496 % 2048 = 0
      · by_cases m0 : b % 4503599627370496 = 0
        · rw [e0] at hE; rw [m0] at hM
          have hd : distN (b % 9223372036854775808) = 0 := distN_0 (by omega)
          by_cases hs : b < 9223372036854775808
          · rw [clsN_pos h hs, hd]
            have ht := band_top_eq hs
            clear h hn hn' hdec hd hs e1 m0 hb e0
            go_enter Tryz.func87, Tryz.ntmps87
            go_wp2_with (go_at_call 109; refine (rbits_any _ _).mono ?_; rw [Hc.out]; rintro e w' ⟨rfl, rfl⟩)
            go_ret
            exact ⟨rfl, rfl⟩
          · rw [clsN_neg h hs, hd]
            have ht := band_top_ne (by omega) hb
            clear h hn hn' hdec hd hs e1 m0 hb e0
            go_enter Tryz.func87, Tryz.ntmps87
            go_wp2_with (go_at_call 109; refine (rbits_any _ _).mono ?_; rw [Hc.out]; rintro e w' ⟨rfl, rfl⟩)
            go_ret
            exact ⟨rfl, rfl⟩
        · rw [e0] at hE
          have hd : distN (b % 9223372036854775808) = 1 := distN_1 (by omega) (by omega)
          have hm1 : (((b % 4503599627370496 : Nat) : Int) == 0) = false := by simp; omega
          generalize b % 4503599627370496 = m at hM hm1
          by_cases hs : b < 9223372036854775808
          · rw [clsN_pos h hs, hd]
            have ht := band_top_eq hs
            clear h hn hn' hdec hd hs e1 m0 hb e0
            go_enter Tryz.func87, Tryz.ntmps87
            go_wp2_with (go_at_call 109; refine (rbits_any _ _).mono ?_; rw [Hc.out]; rintro e w' ⟨rfl, rfl⟩)
            go_ret
            exact ⟨rfl, rfl⟩
          · rw [clsN_neg h hs, hd]
            have ht := band_top_ne (by omega) hb
            clear h hn hn' hdec hd hs e1 m0 hb e0
            go_enter Tryz.func87, Tryz.ntmps87
            go_wp2_with (go_at_call 109; refine (rbits_any _ _).mono ?_; rw [Hc.out]; rintro e w' ⟨rfl, rfl⟩)
            go_ret
            exact ⟨rfl, rfl⟩
      · have hd : distN (b % 9223372036854775808) = 2 := distN_2 (by omega) (by unfold infR; omega)
        have he1 : (((b / 4503599627370496 % 2048 : Nat) : Int) == 2047) = false := by simp; omega
        have he0 : (((b / 4503599627370496 % 2048 : Nat) : Int) == 0) = false := by simp; omega
        generalize b / 4503599627370496 % 2048 = x at hE he1 he0
        by_cases hs : b < 9223372036854775808
        · rw [clsN_pos h hs, hd]
          have ht := band_top_eq hs
          clear h hn hn' hdec hd hs e1 hb e0 hM
          go_enter Tryz.func87, Tryz.ntmps87
          go_wp2_with (go_at_call 109; refine (rbits_any _ _).mono ?_; rw [Hc.out]; rintro e w' ⟨rfl, rfl⟩)
          go_ret
          exact ⟨rfl, rfl⟩
        · rw [clsN_neg h hs, hd]
          have ht := band_top_ne (by omega) hb
          clear h hn hn' hdec hd hs e1 hb e0 hM
          go_enter Tryz.func87, Tryz.ntmps87
          go_wp2_with (go_at_call 109; refine (rbits_any _ _).mono ?_; rw [Hc.out]; rintro e w' ⟨rfl, rfl⟩)
          go_ret
          exact ⟨rfl, rfl⟩
  · have e : clsN b = 0 := by simp [clsN, h]
    rw [e]
    have Hc := Lib.hid (canon_nan h)
    have h1 : bits .and .u64 (2047 : Int) 2047 = 2047 := by decide
    have h2 : bits .and .u64 (9221120237041090560 : Int) 4503599627370495 = 2251799813685248 := by decide
    have h3 : bits .and .u64 (9221120237041090560 : Int) 9223372036854775808 = 0 := by decide
    have h4 : bits .and .u64 ((9221120237041090560 : Int) / 4503599627370496) 2047 = 2047 := by decide
    clear h hb e
    go_enter Tryz.func87, Tryz.ntmps87
    go_wp2_with (go_at_call 109; refine (rbits_any _ _).mono ?_; rw [Hc.out]; unfold oneNaN; rintro e w' ⟨rfl, rfl⟩)
    go_ret
    exact ⟨rfl, rfl⟩
end Go.Proofs.YtbgccaconhmbaaaGreatDoor
