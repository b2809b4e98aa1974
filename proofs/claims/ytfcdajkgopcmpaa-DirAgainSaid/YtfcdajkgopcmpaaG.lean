/- Contracts of num's and raceref1's sums, differences, products, quotients, and of the least and the most of two. Conditions: bits below 2^64. -/
import Derived.Test.YtfcdajkgopcmpaaD
namespace Go.Proofs.Ytfcdajkgopcmpaa
open Go.RowKit

/-- What an operation gives in canonical form: of an invalid one the one NaN. -/
def resN (o : Option Nat) : Nat := match o with | some r => canon r | none => oneNaN
theorem resN_some (r : Nat) : resN (some r) = canon r := rfl
theorem resN_none : resN none = oneNaN := rfl

def nanCut (x y : Nat) (t : Nat) : Nat := Question.cut (.nanBits .f64 x y) t
theorem nanCut_eq (x y t : Nat) : nanCut x y t = (t % 2) * 9223372036854775808 + 9218868437227405312 + 1 + (t / 2) % 4503599627370495 := by
  simp [nanCut, Question.cut]
theorem nanCut_nan (x y t : Nat) : nanB (nanCut x y t) = true := by
  rw [nanCut_eq]; unfold nanB infR
  rw [decide_eq_true_iff]
  have h2 : (t / 2) % 4503599627370495 < 4503599627370495 := Nat.mod_lt _ (by decide)
  have h3 : t % 2 < 2 := Nat.mod_lt _ (by decide)
  generalize (t / 2) % 4503599627370495 = u at *
  generalize t % 2 = v at *
  omega
theorem canon_cut (x y t : Nat) : canon (nanCut x y t) = oneNaN := canon_nan (nanCut_nan x y t)

/-- An invalid operation: some NaN, and one answer drawn. -/
theorem run_invalid (op : BinOp) (hop : op = .add ∨ op = .sub ∨ op = .mul ∨ op = .quo) (t : TypeId) (x y : Nat) (h : floatBits op .f64 x y = none) (w : World) :
    (binOp op t (.float .f64 x) (.float .f64 y)).run Try.prog w = .ok (.float .f64 (nanCut x y (w.tape w.drawn (.nanBits .f64 x y)))) w.drew := by
  unfold floatBits at h
  rcases hop with rfl | rfl | rfl | rfl <;> simp only at h <;> simp [binOp, Op.floatArith, h, Question.forced, nanCut]

/-- A world that is w but for what has been drawn. -/
def Drew (w w' : World) : Prop := ∃ n, w' = w.drewN n
theorem Drew.refl (w : World) : Drew w w := ⟨0, rfl⟩
theorem Drew.one (w : World) : Drew w w.drew := ⟨1, rfl⟩

/-- The least of two: of equal ones, their one form. -/
def leastN (a b : Nat) : Nat := canon (bif decide (rankN a ≤ rankN b) then a else b)
def mostN (a b : Nat) : Nat := canon (bif decide (rankN b ≤ rankN a) then a else b)
theorem leastN_le {a b : Nat} (h : rankN a ≤ rankN b) : leastN a b = canon a := by simp [leastN, h]
theorem leastN_gt {a b : Nat} (h : ¬ rankN a ≤ rankN b) : leastN a b = canon b := by simp [leastN, h]
theorem mostN_le {a b : Nat} (h : rankN b ≤ rankN a) : mostN a b = canon a := by simp [mostN, h]
theorem mostN_gt {a b : Nat} (h : ¬ rankN b ≤ rankN a) : mostN a b = canon b := by simp [mostN, h]
theorem cmpN_le0 {x y : Nat} (h : x ≤ y) : decide (cmpN x y ≤ 0) = true := by
  by_cases h2 : x < y
  · rw [cmpN_lt h2]; rfl
  · obtain rfl : x = y := by omega
    rw [cmpN_eq]; rfl
theorem cmpN_gt0 {x y : Nat} (h : ¬ x ≤ y) : decide (cmpN x y ≤ 0) = false := by rw [cmpN_gt (by omega)]; rfl
theorem cmpN_ge0 {x y : Nat} (h : y ≤ x) : decide (cmpN x y ≥ 0) = true := by
  by_cases h2 : y < x
  · rw [cmpN_gt h2]; rfl
  · obtain rfl : x = y := by omega
    rw [cmpN_eq]; rfl
theorem cmpN_lt0 {x y : Nat} (h : ¬ y ≤ x) : decide (cmpN x y ≥ 0) = false := by rw [cmpN_lt (by omega)]; rfl
end Go.Proofs.Ytfcdajkgopcmpaa
