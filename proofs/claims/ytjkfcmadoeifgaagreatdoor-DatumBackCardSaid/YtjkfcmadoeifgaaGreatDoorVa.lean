/- Values of package datum, and contracts of what makes them, tells whether they may be and compares them. Conditions: none. -/
import Derived.Test.YtjkfcmadoeifgaaGreatDoorB
import Derived.Test.YtjkfcmadoeifgaaGreatDoorG
import Derived.Below
import Derived.BigGuard
import Derived.Deep.QuietTactic
import Derived.BigQuiet
import Derived.Handy
namespace Go.Proofs.YtjkfcmadoeifgaaGreatDoor
open Go.RowKit
/-- A value: its kind, its number's bits, its text's bytes. -/
structure DV where
  k : Int
  x : Nat
  s : List UInt8
  deriving DecidableEq
instance : Inhabited DV := ⟨⟨0, 0, []⟩⟩
def DV.wf (v : DV) : Prop := (-9223372036854775808 ≤ v.k ∧ v.k < 9223372036854775808) ∧ v.x < 18446744073709551616 ∧ v.s.length ≤ 9223372036854775807
abbrev vagg (v : DV) : Value := .agg #[.int .i64 v.k, .float .f64 v.x, .string ⟨v.s.toArray⟩]
def DV.none : DV := ⟨0, 0, []⟩
def mayV (v : DV) : Bool := if v.k = 0 then v.x == 0 && v.s == [] else if v.k = 1 then v.x == canon v.x && v.s == [] else if v.k = 2 then v.x == 0 && decide (v.s.length ≤ 64) else false
def sameV (a b : DV) : Bool := a.k == b.k && (a.s == b.s && a.x == b.x)
theorem bitsame_any (a b : Nat) (w : World) : Calls Tryz.prog 41 #[.float .f64 a, .float .f64 b] w fun e w' => e = .returned (.bool (a == b)) ∧ w = w' := by
  have hf := run_tobits
  have HE : Hid ((((a : Nat) : Int) == ((b : Nat) : Int)) = (a == b)) := by
    show _ = _
    by_cases h : a = b
    · subst h; simp
    · rw [beq_eq_false_iff_ne.2 h, beq_eq_false_iff_ne]; omega
  go_enter Tryz.func41, Tryz.ntmps41
  go_wp2
  go_ret
  rw [← HE.out]
  exact ⟨rfl, rfl⟩
theorem run_stf (W : World) (a : Addr) (x : Nat) : (store a (.float .f64 x)).run Tryz.prog W = stored Tryz.prog W a (.float .f64 x) .plain := run_store _ _ _ _ _ rfl
theorem below1 (w : World) (o : Obj) : Below w.heap.size w (w.alloc o) := (Below.refl _ _).alloc (Nat.le_refl _) o
theorem below2 (w : World) (o o' : Obj) : Below w.heap.size w ((w.alloc o).alloc o') := (below1 w o).alloc (below1 w o).size o'
theorem number_any (x : Nat) (w : World) : Calls Tryz.prog 30 #[.float .f64 x] w fun e w' => e = .returned (vagg ⟨1, canon x, []⟩) ∧ Below w.heap.size w w' := by
  have hst := run_stf
  go_enter Tryz.func30, Tryz.ntmps30
  go_wp2_with (go_at_call 67; refine (canon_any _ _).mono ?_; rintro e w' ⟨rfl, rfl⟩)
  go_returns
  exact ⟨rfl, below1 _ _⟩
theorem value_any (a b : DV) (w : World) : Calls Tryz.prog 14 #[vagg a, vagg b] w fun e w' => e = .returned (.bool (sameV a b)) ∧ Below w.heap.size w w' := by
  obtain ⟨k, x, s⟩ := a
  obtain ⟨l, y, t⟩ := b
  have e : sameV ⟨k, x, s⟩ ⟨l, y, t⟩ = (k == l && (s == t && x == y)) := rfl
  rw [e]
  cases h1 : k == l
  · go_enter Tryz.func14, Tryz.ntmps14
    go_wp2
    go_ret
    exact ⟨rfl, below2 _ _ _⟩
  · cases h2 : s == t
    · go_enter Tryz.func14, Tryz.ntmps14
      go_wp2
      go_ret
      exact ⟨rfl, below2 _ _ _⟩
    · go_enter Tryz.func14, Tryz.ntmps14
      go_wp2_with (go_at_call 41; refine (bitsame_any _ _ _).mono ?_; rintro e w' ⟨rfl, rfl⟩)
      go_ret
      exact ⟨by simp, below2 _ _ _⟩
theorem rnumber_any (x : Nat) (w : World) : Calls Tryz.prog 35 #[.float .f64 x] w fun e w' => e = .returned (vagg ⟨1, canon x, []⟩) ∧ Below w.heap.size w w' := by
  have hst := run_stf
  go_enter Tryz.func35, Tryz.ntmps35
  go_wp2_with (go_at_call 68; refine (rcanon_any _ _).mono ?_; rintro e w' ⟨rfl, rfl⟩)
  go_returns
  exact ⟨rfl, below1 _ _⟩
def wordsV (s : List UInt8) : DV := if 64 < s.length then DV.none else ⟨2, 0, s⟩
theorem words_any (s : List UInt8) (w : World) : Calls Tryz.prog 87 #[.string ⟨s.toArray⟩] w fun e w' => e = .returned (vagg (wordsV s)) ∧ Below w.heap.size w w' := by
  have hst := run_stf
  unfold wordsV
  by_cases h : 64 < s.length
  · have h' : (64 : Int) < (s.length : Int) := by omega
    rw [if_pos h]
    go_enter Tryz.func87, Tryz.ntmps87
    go_wp2
    go_returns
    exact ⟨rfl, below1 _ _⟩
  · have h' : ¬ (64 : Int) < (s.length : Int) := by omega
    rw [if_neg h]
    go_enter Tryz.func87, Tryz.ntmps87
    go_wp2
    go_returns
    exact ⟨rfl, below1 _ _⟩
def keyV (s : List UInt8) : Bool := decide (1 ≤ s.length) && decide (s.length ≤ 24)
theorem key_any (s : List UInt8) (w : World) : Calls Tryz.prog 31 #[.string ⟨s.toArray⟩] w fun e w' => e = .returned (.bool (keyV s)) ∧ w = w' := by
  cases hs : s == []
  · have h1 : 1 ≤ s.length := by
      cases s with
      | nil => simp at hs
      | cons => simp
    have e : keyV s = decide ((s.length : Int) ≤ 24) := by
      unfold keyV
      rw [decide_eq_true h1, Bool.true_and]
      by_cases h : s.length ≤ 24
      · rw [decide_eq_true h, decide_eq_true (by omega)]
      · rw [decide_eq_false h, decide_eq_false (by omega)]
    rw [e]
    have h2 : (s != []) = true := by simp [bne, hs]
    clear e
    go_enter Tryz.func31, Tryz.ntmps31
    go_wp2
    go_ret
    exact ⟨rfl, rfl⟩
  · have h0 : s = [] := by simpa using hs
    subst h0
    go_enter Tryz.func31, Tryz.ntmps31
    go_wp2
    go_ret
    exact ⟨rfl, rfl⟩
theorem small_any (v : DV) (w : World) : Calls Tryz.prog 7 #[vagg v] w fun e w' => e = .returned (.bool (decide ((v.s.length : Int) ≤ 2000))) ∧ Below w.heap.size w w' := by
  go_enter Tryz.func7, Tryz.ntmps7
  go_wp2
  go_ret
  exact ⟨rfl, below1 _ _⟩
end Go.Proofs.YtjkfcmadoeifgaaGreatDoor
