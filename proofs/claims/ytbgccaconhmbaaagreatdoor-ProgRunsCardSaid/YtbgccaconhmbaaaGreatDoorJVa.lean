/- Values of package datum, and contracts of what makes them, tells whether they may be and compares them. Conditions: none. datum.May, addend, Plus, raceref3.May. Conditions: none. -/
import Derived.Test.YtbgccaconhmbaaaGreatDoorJB
import Derived.Test.YtbgccaconhmbaaaGreatDoorJD
import Derived.Below
import Derived.BigGuard
import Derived.Deep.QuietTactic
import Derived.BigQuiet
import Derived.Handy
namespace Go.Proofs.YtbgccaconhmbaaaGreatDoor
open Go.RowKit
/-- A value: its kind, its number's bits, its text's bytes. -/
structure DV where
  k : Int
  x : Nat
  s : List UInt8
  deriving DecidableEq
instance : Inhabited DV := ⟨⟨0, 0, []⟩⟩
def DV.wf (v : DV) : Prop := (-9223372036854775808 ≤ v.k ∧ v.k < 9223372036854775808) ∧ v.x < 18446744073709551616 ∧ v.s.length ≤ 9223372036854775807
abbrev vagg (v : DV) : Value := .agg #[.int .i64 v.k, .float .f64 v.x, .string ⟨v.s.toArray⟩]
def DV.none : DV := ⟨0, 0, []⟩
def mayV (v : DV) : Bool := if v.k = 0 then v.x == 0 && v.s == [] else if v.k = 1 then v.x == canon v.x && v.s == [] else if v.k = 2 then v.x == 0 && decide (v.s.length ≤ 64) else false
def sameV (a b : DV) : Bool := a.k == b.k && (a.s == b.s && a.x == b.x)
theorem bitsame_any (a b : Nat) (w : World) : Calls Tryz.prog 63 #[.float .f64 a, .float .f64 b] w fun e w' => e = .returned (.bool (a == b)) ∧ w = w' := by
  have hf := run_tobits
  have HE : Hid ((((a : Nat) : Int) == ((b : Nat) : Int)) = (a == b)) := by
    show _ = _
    by_cases h : a = b
    · subst h; simp
    · rw [beq_eq_false_iff_ne.2 h, beq_eq_false_iff_ne]; omega
  go_enter Tryz.func63, Tryz.ntmps63
  go_wp2
  go_ret
  rw [← HE.out]
  exact ⟨rfl, rfl⟩
theorem run_stf (W : World) (a : Addr) (x : Nat) : (store a (.float .f64 x)).run Tryz.prog W = stored Tryz.prog W a (.float .f64 x) .plain := run_store _ _ _ _ _ rfl
theorem below1 (w : World) (o : Obj) : Below w.heap.size w (w.alloc o) := (Below.refl _ _).alloc (Nat.le_refl _) o
theorem below2 (w : World) (o o' : Obj) : Below w.heap.size w ((w.alloc o).alloc o') := (below1 w o).alloc (below1 w o).size o'
theorem number_any (x : Nat) (w : World) : Calls Tryz.prog 113 #[.float .f64 x] w fun e w' => e = .returned (vagg ⟨1, canon x, []⟩) ∧ Below w.heap.size w w' := by
  have hst := run_stf
  go_enter Tryz.func113, Tryz.ntmps113
  go_wp2_with (go_at_call 115; refine (canon_any _ _).mono ?_; rintro e w' ⟨rfl, rfl⟩)
  go_returns
  exact ⟨rfl, below1 _ _⟩
theorem value_any (a b : DV) (w : World) : Calls Tryz.prog 34 #[vagg a, vagg b] w fun e w' => e = .returned (.bool (sameV a b)) ∧ Below w.heap.size w w' := by
  obtain ⟨k, x, s⟩ := a
  obtain ⟨l, y, t⟩ := b
  have e : sameV ⟨k, x, s⟩ ⟨l, y, t⟩ = (k == l && (s == t && x == y)) := rfl
  rw [e]
  cases h1 : k == l
  · go_enter Tryz.func34, Tryz.ntmps34
    go_wp2
    go_ret
    exact ⟨rfl, below2 _ _ _⟩
  · cases h2 : s == t
    · go_enter Tryz.func34, Tryz.ntmps34
      go_wp2
      go_ret
      exact ⟨rfl, below2 _ _ _⟩
    · go_enter Tryz.func34, Tryz.ntmps34
      go_wp2_with (go_at_call 63; refine (bitsame_any _ _ _).mono ?_; rintro e w' ⟨rfl, rfl⟩)
      go_ret
      exact ⟨by simp, below2 _ _ _⟩
theorem rnumber_any (x : Nat) (w : World) : Calls Tryz.prog 90 #[.float .f64 x] w fun e w' => e = .returned (vagg ⟨1, canon x, []⟩) ∧ Below w.heap.size w w' := by
  have hst := run_stf
  go_enter Tryz.func90, Tryz.ntmps90
  go_wp2_with (go_at_call 64; refine (rcanon_any _ _).mono ?_; rintro e w' ⟨rfl, rfl⟩)
  go_returns
  exact ⟨rfl, below1 _ _⟩
def wordsV (s : List UInt8) : DV := if 64 < s.length then DV.none else ⟨2, 0, s⟩
theorem words_any (s : List UInt8) (w : World) : Calls Tryz.prog 167 #[.string ⟨s.toArray⟩] w fun e w' => e = .returned (vagg (wordsV s)) ∧ Below w.heap.size w w' := by
  have hst := run_stf
  unfold wordsV
  by_cases h : 64 < s.length
  · have h' : (64 : Int) < (s.length : Int) := by omega
    rw [if_pos h]
    go_enter Tryz.func167, Tryz.ntmps167
    go_wp2
    go_returns
    exact ⟨rfl, below1 _ _⟩
  · have h' : ¬ (64 : Int) < (s.length : Int) := by omega
    rw [if_neg h]
    go_enter Tryz.func167, Tryz.ntmps167
    go_wp2
    go_returns
    exact ⟨rfl, below1 _ _⟩
theorem rwords_any (s : List UInt8) (w : World) : Calls Tryz.prog 98 #[.string ⟨s.toArray⟩] w fun e w' => e = .returned (vagg (wordsV s)) ∧ Below w.heap.size w w' := by
  have hst := run_stf
  unfold wordsV
  by_cases h : 64 < s.length
  · have h' : (64 : Int) < (s.length : Int) := by omega
    rw [if_pos h]
    go_enter Tryz.func98, Tryz.ntmps98
    go_wp2
    go_returns
    exact ⟨rfl, below1 _ _⟩
  · have h' : ¬ (64 : Int) < (s.length : Int) := by omega
    rw [if_neg h]
    go_enter Tryz.func98, Tryz.ntmps98
    go_wp2
    go_returns
    exact ⟨rfl, below1 _ _⟩
def keyV (s : List UInt8) : Bool := decide (1 ≤ s.length) && decide (s.length ≤ 24)
theorem key_any (s : List UInt8) (w : World) : Calls Tryz.prog 65 #[.string ⟨s.toArray⟩] w fun e w' => e = .returned (.bool (keyV s)) ∧ w = w' := by
  cases hs : s == []
  · have h1 : 1 ≤ s.length := by
      cases s with
      | nil => simp at hs
      | cons => simp
    have e : keyV s = decide ((s.length : Int) ≤ 24) := by
      unfold keyV
      rw [decide_eq_true h1, Bool.true_and]
      by_cases h : s.length ≤ 24
      · rw [decide_eq_true h, decide_eq_true (by omega)]
      · rw [decide_eq_false h, decide_eq_false (by omega)]
    rw [e]
    have h2 : (s != []) = true := by simp [bne, hs]
    clear e
    go_enter Tryz.func65, Tryz.ntmps65
    go_wp2
    go_ret
    exact ⟨rfl, rfl⟩
  · have h0 : s = [] := by simpa using hs
    subst h0
    go_enter Tryz.func65, Tryz.ntmps65
    go_wp2
    go_ret
    exact ⟨rfl, rfl⟩
theorem rkey_any (s : List UInt8) (w : World) : Calls Tryz.prog 41 #[.string ⟨s.toArray⟩] w fun e w' => e = .returned (.bool (keyV s)) ∧ w = w' := by
  by_cases h1 : 1 ≤ s.length
  · have e : keyV s = decide ((s.length : Int) ≤ 24) := by
      unfold keyV
      rw [decide_eq_true h1, Bool.true_and]
      by_cases h : s.length ≤ 24
      · rw [decide_eq_true h, decide_eq_true (by omega)]
      · rw [decide_eq_false h, decide_eq_false (by omega)]
    rw [e]
    have h2 : (1 : Int) ≤ (s.length : Int) := by omega
    clear e
    go_enter Tryz.func41, Tryz.ntmps41
    go_wp2
    go_ret
    exact ⟨rfl, rfl⟩
  · have e : keyV s = false := by
      unfold keyV
      rw [decide_eq_false h1, Bool.false_and]
    rw [e]
    have h2 : ¬ (1 : Int) ≤ (s.length : Int) := by omega
    clear e
    go_enter Tryz.func41, Tryz.ntmps41
    go_wp2
    go_ret
    exact ⟨rfl, rfl⟩
end Go.Proofs.YtbgccaconhmbaaaGreatDoor
namespace Go.Proofs.YtbgccaconhmbaaaGreatDoor
open Go.RowKit
theorem canon_same (x y : Nat) (w : World) : Calls Tryz.prog 63 #[.float .f64 x, .float .f64 y] w fun e w' => e = .returned (.bool (x == y)) ∧ w' = w := (bitsame_any x y w).mono fun _ _ ⟨h, hw⟩ => ⟨h, hw.symm⟩
theorem bits_int (x y : Nat) : (((x : Nat) : Int) == ((y : Nat) : Int)) = (x == y) := by
  by_cases h : x = y
  · subst h; simp
  · rw [beq_eq_false_iff_ne.2 h, beq_eq_false_iff_ne]; omega
theorem dec_int (n m : Nat) : decide ((n : Int) ≤ (m : Int)) = decide (n ≤ m) := by
  by_cases h : n ≤ m
  · rw [decide_eq_true h, decide_eq_true (by omega)]
  · rw [decide_eq_false h, decide_eq_false (by omega)]
theorem may_any (v : DV) (w : World) : Calls Tryz.prog 69 #[vagg v] w fun e w' => e = .returned (.bool (mayV v)) ∧ Below w.heap.size w w' := by
  obtain ⟨k, x, s⟩ := v
  have hf := run_tobits
  by_cases h0 : k = 0
  · subst h0
    have e : mayV ⟨0, x, s⟩ = (x == 0 && s == []) := rfl
    rw [e]
    cases hx : x == 0
    · have hx' : ((x : Int) == 0) = false := by have := bits_int x 0; rw [hx] at this; exact this
      clear e
      go_enter Tryz.func69, Tryz.ntmps69
      go_wp2_with (first
        | (go_at_call 112; refine (bits_any _ _).mono ?_; rintro e w' ⟨rfl, rfl⟩))
      go_ret
      exact ⟨rfl, below1 _ _⟩
    · have hx' : ((x : Int) == 0) = true := by have := bits_int x 0; rw [hx] at this; exact this
      clear e
      go_enter Tryz.func69, Tryz.ntmps69
      go_wp2_with (first
        | (go_at_call 112; refine (bits_any _ _).mono ?_; rintro e w' ⟨rfl, rfl⟩))
      go_ret
      exact ⟨by simp, below1 _ _⟩
  by_cases h1 : k = 1
  · subst h1
    have e : mayV ⟨1, x, s⟩ = (x == canon x && s == []) := rfl
    rw [e]
    cases hx : x == canon x
    · have hx' : ((x : Int) == (canon x : Int)) = false := by rw [bits_int]; exact hx
      clear e
      go_enter Tryz.func69, Tryz.ntmps69
      go_wp2_with (first
        | (go_at_call 112; refine (bits_any _ _).mono ?_; rintro e w' ⟨rfl, rfl⟩))
      go_ret
      exact ⟨rfl, below1 _ _⟩
    · have hx' : ((x : Int) == (canon x : Int)) = true := by rw [bits_int]; exact hx
      clear e
      go_enter Tryz.func69, Tryz.ntmps69
      go_wp2_with (first
        | (go_at_call 112; refine (bits_any _ _).mono ?_; rintro e w' ⟨rfl, rfl⟩))
      go_ret
      exact ⟨by simp, below1 _ _⟩
  have b0 : (k == 0) = false := by rw [beq_eq_false_iff_ne]; exact h0
  have b1 : (k == 1) = false := by rw [beq_eq_false_iff_ne]; exact h1
  by_cases h2 : k = 2
  · subst h2
    have e : mayV ⟨2, x, s⟩ = (x == 0 && decide (s.length ≤ 64)) := rfl
    rw [e]
    have hl := dec_int s.length 64
    cases hx : x == 0
    · have hx' : ((x : Int) == 0) = false := by have := bits_int x 0; rw [hx] at this; exact this
      clear e hl
      go_enter Tryz.func69, Tryz.ntmps69
      go_wp2_with (first
        | (go_at_call 112; refine (bits_any _ _).mono ?_; rintro e w' ⟨rfl, rfl⟩))
      go_ret
      exact ⟨rfl, below1 _ _⟩
    · have hx' : ((x : Int) == 0) = true := by have := bits_int x 0; rw [hx] at this; exact this
      rw [← hl]
      clear e hl
      go_enter Tryz.func69, Tryz.ntmps69
      go_wp2_with (first
        | (go_at_call 112; refine (bits_any _ _).mono ?_; rintro e w' ⟨rfl, rfl⟩))
      go_ret
      exact ⟨by simp, below1 _ _⟩
  have b2 : (k == 2) = false := by rw [beq_eq_false_iff_ne]; exact h2
  have e : mayV ⟨k, x, s⟩ = false := by unfold mayV; rw [if_neg h0, if_neg h1, if_neg h2]
  rw [e]
  clear h0 h1 h2 e
  go_enter Tryz.func69, Tryz.ntmps69
  go_wp2
  go_ret
  exact ⟨rfl, below1 _ _⟩
theorem drewB' (w : World) (n : Nat) : Below w.heap.size w (w.drewN n) := by
  induction n generalizing w with
  | zero => exact Below.refl _ _
  | succ n ih => exact (ih w).drew
theorem drewB {B : Nat} {w w' : World} (h : Below B w w') (n : Nat) (hB : B ≤ w.heap.size) : Below B w (w'.drewN n) := h.trans ((drewB' w' n).mono (Nat.le_trans hB h.size))
theorem rmay_any (v : DV) (w : World) : Calls Tryz.prog 33 #[vagg v] w fun e w' => e = .returned (.bool (mayV v)) ∧ Below w.heap.size w w' := by
  obtain ⟨k, x, s⟩ := v
  have hf := run_tobits
  by_cases h0 : k = 0
  · subst h0
    have e : mayV ⟨0, x, s⟩ = (x == 0 && s == []) := rfl
    rw [e]
    cases hx : x == 0
    ·
      clear e
      go_enter Tryz.func33, Tryz.ntmps33
      go_wp2_with (first
        | (go_at_call 63; refine (bitsame_any _ _ _).mono ?_; rintro e w' ⟨rfl, rfl⟩))
      go_ret
      exact ⟨rfl, below1 _ _⟩
    ·
      clear e
      go_enter Tryz.func33, Tryz.ntmps33
      go_wp2_with (first
        | (go_at_call 63; refine (bitsame_any _ _ _).mono ?_; rintro e w' ⟨rfl, rfl⟩))
      go_ret
      exact ⟨by simp, below1 _ _⟩
  by_cases h1 : k = 1
  · subst h1
    have e : mayV ⟨1, x, s⟩ = (x == canon x && s == []) := rfl
    rw [e]
    cases hx : x == canon x
    · have HB : Hid (∀ w', Calls Tryz.prog 63 #[.float .f64 x, .float .f64 (canon x)] w' fun e w'' => e = .returned (.bool false) ∧ w'' = w') := fun w' => by have := canon_same x (canon x) w'; rwa [hx] at this
      clear e
      go_enter Tryz.func33, Tryz.ntmps33
      go_wp2
      go_quiet (first
        | (go_at_call 64; refine Calls.quiet_of_same ((rcanon_any _ _).mono fun _ _ ⟨h, hw⟩ => ⟨h, hw.symm⟩))
        | (go_at_call 63; refine Calls.quiet_of_same (HB.out _)))
      go_wp2
      go_ret
      exact ⟨rfl, drewB (below1 _ _) _ (Nat.le_refl _)⟩
    · have HB : Hid (∀ w', Calls Tryz.prog 63 #[.float .f64 x, .float .f64 (canon x)] w' fun e w'' => e = .returned (.bool true) ∧ w'' = w') := fun w' => by have := canon_same x (canon x) w'; rwa [hx] at this
      clear e
      go_enter Tryz.func33, Tryz.ntmps33
      go_wp2
      go_quiet (first
        | (go_at_call 64; refine Calls.quiet_of_same ((rcanon_any _ _).mono fun _ _ ⟨h, hw⟩ => ⟨h, hw.symm⟩))
        | (go_at_call 63; refine Calls.quiet_of_same (HB.out _)))
      go_wp2
      go_ret
      exact ⟨by simp, drewB (below1 _ _) _ (Nat.le_refl _)⟩
  have b0 : (k == 0) = false := by rw [beq_eq_false_iff_ne]; exact h0
  have b1 : (k == 1) = false := by rw [beq_eq_false_iff_ne]; exact h1
  by_cases h2 : k = 2
  · subst h2
    have e : mayV ⟨2, x, s⟩ = (x == 0 && decide (s.length ≤ 64)) := rfl
    rw [e]
    have hl := dec_int s.length 64
    cases hx : x == 0
    ·
      clear e hl
      go_enter Tryz.func33, Tryz.ntmps33
      go_wp2_with (first
        | (go_at_call 63; refine (bitsame_any _ _ _).mono ?_; rintro e w' ⟨rfl, rfl⟩))
      go_ret
      exact ⟨rfl, below1 _ _⟩
    ·
      rw [← hl]
      clear e hl
      go_enter Tryz.func33, Tryz.ntmps33
      go_wp2_with (first
        | (go_at_call 63; refine (bitsame_any _ _ _).mono ?_; rintro e w' ⟨rfl, rfl⟩))
      go_ret
      exact ⟨by simp, below1 _ _⟩
  have b2 : (k == 2) = false := by rw [beq_eq_false_iff_ne]; exact h2
  have e : mayV ⟨k, x, s⟩ = false := by unfold mayV; rw [if_neg h0, if_neg h1, if_neg h2]
  rw [e]
  clear h0 h1 h2 e
  go_enter Tryz.func33, Tryz.ntmps33
  go_wp2
  go_ret
  exact ⟨rfl, below1 _ _⟩
/-- What a value counts as in a sum. -/
def addV (v : DV) : Nat × Bool := if mayV v then (if v.k = 0 then (0, true) else if v.k = 1 then (v.x, true) else (0, false)) else (0, false)
end Go.Proofs.YtbgccaconhmbaaaGreatDoor
