/- The point between two, by place and by the document. Conditions: bits below 2^64. -/
import Derived.Test.YtfcdajkgopcmpaaPt
import Derived.Test.YtfcdajkgopcmpaaMi
import Derived.Test.YtfcdajkgopcmpaaG
namespace Go.Proofs.Ytfcdajkgopcmpaa
open Go.RowKit
theorem canon_fin {r : Nat} (h : r < infR) : canon r = r := by
  apply canon_num
  unfold nanB
  rw [decide_eq_false_iff_not]
  unfold infR at *
  omega
theorem lt_test {r q : Nat} (hr : r < infR) (hq : q < infR) : (FloatKind.f64.format.order r q == some .lt) = decide (r < q) := by
  by_cases h : r < q
  · rw [decide_eq_true h]; exact order_lt_t hr hq h
  · rw [decide_eq_false h]; exact order_lt_f hr hq h
def betB (a m b : Nat) : Bool := decide (a < m) && decide (m < b)
/-- What Mid answers: the point between and the error. -/
def midV (a b : Nat) : Nat × Int := if ptB a = true ∧ ptB b = true ∧ a < b then (if betB a (midN a b) b = true then (midN a b, 0) else (0, 24)) else (0, 1)
theorem pt_fin {b : Nat} (h : ptB b = true) : b < infR := by
  have := of_decide_eq_true h
  have := one_fin
  omega
end Go.Proofs.Ytfcdajkgopcmpaa
