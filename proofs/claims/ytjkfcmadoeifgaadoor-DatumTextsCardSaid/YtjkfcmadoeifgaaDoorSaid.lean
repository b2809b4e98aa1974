/- Contracts at the texts of floats. Conditions: bits below 2^64. -/
import Derived.Test.YtjkfcmadoeifgaaDoorE
import Derived.Test.YtjkfcmadoeifgaaDoorF
import Derived.Test.YtjkfcmadoeifgaaDoorG
import Derived.Test.YtjkfcmadoeifgaaDoorY
import Derived.Test.YtjkfcmadoeifgaaDoorHelp
import Derived.Test.YtjkfcmadoeifgaaDoorTurn
import Derived.ShutString
namespace Go.Proofs.YtjkfcmadoeifgaaDoor
open Go.RowKit
theorem textN_len {b : Nat} (hb : b < 18446744073709551616) : (textN b).length ≤ 50 := by
  have num : ∀ r, 0 < r → r < infR → (numT r).length ≤ 42 := fun r h h2 => by
    have h3 := digT_len h
    have h4 := powT_len h h2
    unfold numT; rw [List.length_append, List.length_cons]; omega
  rcases cls_cases hb with ⟨h, _⟩ | ⟨h, _⟩ | ⟨h, _⟩ | ⟨h, _⟩ | ⟨h, _⟩ | ⟨h, hc, h0, hi, hs⟩ | ⟨h, hc, h0, hi, hs⟩
  · rw [textN_0 h]; decide
  · rw [textN_1 h]; decide
  · rw [textN_4 h]; decide
  · rw [textN_5 h]; decide
  · rw [textN_8 h]; decide
  · rw [textN_neg h, List.length_cons]; have := num _ h0 hi; omega
  · rw [textN_pos h]; have := num _ h0 hi; omega
/-- The text of a float, read. -/
theorem parse_back (b : Nat) (hb : b < 18446744073709551616) (w : World) :
    Calls Tryd.prog 59 #[.string ⟨(textN b).toArray⟩] w fun e w' => e = .returned (.tuple #[.float .f64 (canon b), .int .i64 0]) ∧ Below w.heap.size w w' := by
  have := parse_any ⟨(textN b).toArray⟩ (by rw [mk_size]; have := textN_len hb; omega) w
  rw [mk_list, parse_text hb] at this
  exact this
theorem parse_is (s : ByteArray) (z : Nat) (f : Int) (h : parseN s.data.toList = (z, f)) (hs : s.size ≤ 1000000) (w : World) :
    Calls Tryd.prog 59 #[.string s] w fun e w' => e = .returned (.tuple #[.float .f64 z, .int .i64 f]) ∧ Below w.heap.size w w' := by
  have := parse_any s hs w
  rw [h] at this
  exact this
theorem print_is (z : Nat) (s : ByteArray) (h : textN z = s.data.toList) (hz : z < 18446744073709551616) (w : World) (hT : Tabs w) :
    Calls Tryd.prog 45 #[.float .f64 z] w fun e w' => e = .returned (.string s) ∧ Below w.heap.size w w' := by
  have := print_any z hz w hT
  rw [h] at this
  exact this
end Go.Proofs.YtjkfcmadoeifgaaDoor
