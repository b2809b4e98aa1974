/- Contracts of num's and raceref1's ranks, orders and classes. Conditions: bits below 2^64. Contracts of num's and raceref1's sums, differences, products, quotients, and of the least and the most of two. Conditions: bits below 2^64. -/
import Derived.Test.YtfcdajkgopcmpaaJB
import Derived.Test.YtfcdajkgopcmpaaJC
namespace Go.Proofs.Ytfcdajkgopcmpaa
open Go.RowKit

theorem rank_any (b : Nat) (w : World) (hb : b < 18446744073709551616) : Calls Try.prog 67 #[.float .f64 b] w fun e w' => e = .returned (.int .u64 (rankN b : Nat)) ∧ w = w' := by
  have hc := canon_lt hb
  by_cases h : 9223372036854775808 ≤ canon b
  · rw [rankN_hi h]
    have h1 := band_top_ne h hc
    have h2 := bnot hc
    clear h hc hb
    go_enter Try.func67, Try.ntmps67
    go_wp2_with (go_at_call 81; refine (bits_any _ _).mono ?_; rintro e w' ⟨rfl, rfl⟩)
    go_ret
    exact ⟨rfl, rfl⟩
  · rw [rankN_lo (by omega)]
    have h1 := band_top_eq (n := canon b) (by omega)
    have h2 := bor_top (n := canon b) (by omega)
    clear h hc hb
    go_enter Try.func67, Try.ntmps67
    go_wp2_with (go_at_call 81; refine (bits_any _ _).mono ?_; rintro e w' ⟨rfl, rfl⟩)
    go_ret
    exact ⟨rfl, rfl⟩
theorem ccmp_any (x y : Nat) (w : World) : Calls Try.prog 66 #[.int .u64 (x : Int), .int .u64 (y : Int)] w fun e w' => e = .returned (.int .i64 (cmpN x y)) ∧ w = w' := by
  by_cases h : x < y
  · rw [cmpN_lt h]
    go_enter Try.func66, Try.ntmps66
    go_wp2
    go_ret
    exact ⟨rfl, rfl⟩
  · by_cases h2 : y < x
    · rw [cmpN_gt h2]
      go_enter Try.func66, Try.ntmps66
      go_wp2
      go_ret
      exact ⟨rfl, rfl⟩
    · obtain rfl : x = y := by omega
      rw [cmpN_eq]
      clear h h2
      go_enter Try.func66, Try.ntmps66
      go_wp2
      go_ret
      exact ⟨rfl, rfl⟩
theorem compare_any (a b : Nat) (w : World) (ha : a < 18446744073709551616) (hb : b < 18446744073709551616) : Calls Try.prog 57 #[.float .f64 a, .float .f64 b] w fun e w' => e = .returned (.int .i64 (cmpN (rankN a) (rankN b))) ∧ w = w' := by
  have Ha := Lib.hid ha; have Hb := Lib.hid hb; clear ha hb
  go_enter Try.func57, Try.ntmps57
  go_wp2_with (first | (go_at_call 67; refine (rank_any _ _ (by first | exact Ha.out | exact Hb.out)).mono ?_; rintro e w' ⟨rfl, rfl⟩) | (go_at_call 66; refine (ccmp_any _ _ _).mono ?_; rintro e w' ⟨rfl, rfl⟩))
  go_ret
  exact ⟨rfl, rfl⟩
end Go.Proofs.Ytfcdajkgopcmpaa
namespace Go.Proofs.Ytfcdajkgopcmpaa
open Go.RowKit

/-- What an operation gives in canonical form: of an invalid one the one NaN. -/
def resN (o : Option Nat) : Nat := match o with | some r => canon r | none => oneNaN
theorem resN_some (r : Nat) : resN (some r) = canon r := rfl
theorem resN_none : resN none = oneNaN := rfl

def nanCut (x y : Nat) (t : Nat) : Nat := Question.cut (.nanBits .f64 x y) t
theorem nanCut_eq (x y t : Nat) : nanCut x y t = (t % 2) * 9223372036854775808 + 9218868437227405312 + 1 + (t / 2) % 4503599627370495 := by
  simp [nanCut, Question.cut]
theorem nanCut_nan (x y t : Nat) : nanB (nanCut x y t) = true := by
  rw [nanCut_eq]; unfold nanB infR
  rw [decide_eq_true_iff]
  have h2 : (t / 2) % 4503599627370495 < 4503599627370495 := Nat.mod_lt _ (by decide)
  have h3 : t % 2 < 2 := Nat.mod_lt _ (by decide)
  generalize (t / 2) % 4503599627370495 = u at *
  generalize t % 2 = v at *
  omega
theorem canon_cut (x y t : Nat) : canon (nanCut x y t) = oneNaN := canon_nan (nanCut_nan x y t)

/-- An invalid operation: some NaN, and one answer drawn. -/
theorem run_invalid (op : BinOp) (hop : op = .add ∨ op = .sub ∨ op = .mul ∨ op = .quo) (t : TypeId) (x y : Nat) (h : floatBits op .f64 x y = none) (w : World) :
    (binOp op t (.float .f64 x) (.float .f64 y)).run Try.prog w = .ok (.float .f64 (nanCut x y (w.tape w.drawn (.nanBits .f64 x y)))) w.drew := by
  unfold floatBits at h
  rcases hop with rfl | rfl | rfl | rfl <;> simp only at h <;> simp [binOp, Op.floatArith, h, Question.forced, nanCut]

/-- A world that is w but for what has been drawn. -/
def Drew (w w' : World) : Prop := ∃ n, w' = w.drewN n
theorem Drew.refl (w : World) : Drew w w := ⟨0, rfl⟩
theorem Drew.one (w : World) : Drew w w.drew := ⟨1, rfl⟩

/-- The least of two: of equal ones, their one form. -/
def leastN (a b : Nat) : Nat := canon (bif decide (rankN a ≤ rankN b) then a else b)
def mostN (a b : Nat) : Nat := canon (bif decide (rankN b ≤ rankN a) then a else b)
theorem leastN_le {a b : Nat} (h : rankN a ≤ rankN b) : leastN a b = canon a := by simp [leastN, h]
theorem leastN_gt {a b : Nat} (h : ¬ rankN a ≤ rankN b) : leastN a b = canon b := by simp [leastN, h]
theorem mostN_le {a b : Nat} (h : rankN b ≤ rankN a) : mostN a b = canon a := by simp [mostN, h]
theorem mostN_gt {a b : Nat} (h : ¬ rankN b ≤ rankN a) : mostN a b = canon b := by simp [mostN, h]
theorem cmpN_le0 {x y : Nat} (h : x ≤ y) : decide (cmpN x y ≤ 0) = true := by
  by_cases h2 : x < y
  · rw [cmpN_lt h2]; rfl
  · obtain rfl : x = y := by omega
    rw [cmpN_eq]; rfl
theorem cmpN_gt0 {x y : Nat} (h : ¬ x ≤ y) : decide (cmpN x y ≤ 0) = false := by rw [cmpN_gt (by omega)]; rfl
theorem cmpN_ge0 {x y : Nat} (h : y ≤ x) : decide (cmpN x y ≥ 0) = true := by
  by_cases h2 : y < x
  · rw [cmpN_gt h2]; rfl
  · obtain rfl : x = y := by omega
    rw [cmpN_eq]; rfl
theorem cmpN_lt0 {x y : Nat} (h : ¬ y ≤ x) : decide (cmpN x y ≥ 0) = false := by rw [cmpN_lt (by omega)]; rfl
end Go.Proofs.Ytfcdajkgopcmpaa
