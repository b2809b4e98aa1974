/- datum.May, addend, Plus, raceref3.May. Conditions: none. -/
import Derived.Test.YtjkfcmadoeifgaaGreatDoorVa
namespace Go.Proofs.YtjkfcmadoeifgaaGreatDoor
open Go.RowKit
theorem canon_same (x y : Nat) (w : World) : Calls Tryz.prog 41 #[.float .f64 x, .float .f64 y] w fun e w' => e = .returned (.bool (x == y)) ∧ w' = w := (bitsame_any x y w).mono fun _ _ ⟨h, hw⟩ => ⟨h, hw.symm⟩
theorem bits_int (x y : Nat) : (((x : Nat) : Int) == ((y : Nat) : Int)) = (x == y) := by
  by_cases h : x = y
  · subst h; simp
  · rw [beq_eq_false_iff_ne.2 h, beq_eq_false_iff_ne]; omega
theorem dec_int (n m : Nat) : decide ((n : Int) ≤ (m : Int)) = decide (n ≤ m) := by
  by_cases h : n ≤ m
  · rw [decide_eq_true h, decide_eq_true (by omega)]
  · rw [decide_eq_false h, decide_eq_false (by omega)]
theorem may_any (v : DV) (w : World) : Calls Tryz.prog 29 #[vagg v] w fun e w' => e = .returned (.bool (mayV v)) ∧ Below w.heap.size w w' := by
  obtain ⟨k, x, s⟩ := v
  have hf := run_tobits
  by_cases h0 : k = 0
  · subst h0
    have e : mayV ⟨0, x, s⟩ = (x == 0 && s == []) := rfl
    rw [e]
    cases hx : x == 0
    · have hx' : ((x : Int) == 0) = false := by have := bits_int x 0; rw [hx] at this; exact this
      clear e
      go_enter Tryz.func29, Tryz.ntmps29
      go_wp2_with (first
        | (go_at_call 66; refine (bits_any _ _).mono ?_; rintro e w' ⟨rfl, rfl⟩))
      go_ret
      exact ⟨rfl, below1 _ _⟩
    · have hx' : ((x : Int) == 0) = true := by have := bits_int x 0; rw [hx] at this; exact this
      clear e
      go_enter Tryz.func29, Tryz.ntmps29
      go_wp2_with (first
        | (go_at_call 66; refine (bits_any _ _).mono ?_; rintro e w' ⟨rfl, rfl⟩))
      go_ret
      exact ⟨by simp, below1 _ _⟩
  by_cases h1 : k = 1
  · subst h1
    have e : mayV ⟨1, x, s⟩ = (x == canon x && s == []) := rfl
    rw [e]
    cases hx : x == canon x
    · have hx' : ((x : Int) == (canon x : Int)) = false := by rw [bits_int]; exact hx
      clear e
      go_enter Tryz.func29, Tryz.ntmps29
      go_wp2_with (first
        | (go_at_call 66; refine (bits_any _ _).mono ?_; rintro e w' ⟨rfl, rfl⟩))
      go_ret
      exact ⟨rfl, below1 _ _⟩
    · have hx' : ((x : Int) == (canon x : Int)) = true := by rw [bits_int]; exact hx
      clear e
      go_enter Tryz.func29, Tryz.ntmps29
      go_wp2_with (first
        | (go_at_call 66; refine (bits_any _ _).mono ?_; rintro e w' ⟨rfl, rfl⟩))
      go_ret
      exact ⟨by simp, below1 _ _⟩
  have b0 : (k == 0) = false := by rw [beq_eq_false_iff_ne]; exact h0
  have b1 : (k == 1) = false := by rw [beq_eq_false_iff_ne]; exact h1
  by_cases h2 : k = 2
  · subst h2
    have e : mayV ⟨2, x, s⟩ = (x == 0 && decide (s.length ≤ 64)) := rfl
    rw [e]
    have hl := dec_int s.length 64
    cases hx : x == 0
    · have hx' : ((x : Int) == 0) = false := by have := bits_int x 0; rw [hx] at this; exact this
      clear e hl
      go_enter Tryz.func29, Tryz.ntmps29
      go_wp2_with (first
        | (go_at_call 66; refine (bits_any _ _).mono ?_; rintro e w' ⟨rfl, rfl⟩))
      go_ret
      exact ⟨rfl, below1 _ _⟩
    · have hx' : ((x : Int) == 0) = true := by have := bits_int x 0; rw [hx] at this; exact this
      rw [← hl]
      clear e hl
      go_enter Tryz.func29, Tryz.ntmps29
      go_wp2_with (first
        | (go_at_call 66; refine (bits_any _ _).mono ?_; rintro e w' ⟨rfl, rfl⟩))
      go_ret
      exact ⟨by simp, below1 _ _⟩
  have b2 : (k == 2) = false := by rw [beq_eq_false_iff_ne]; exact h2
  have e : mayV ⟨k, x, s⟩ = false := by unfold mayV; rw [if_neg h0, if_neg h1, if_neg h2]
  rw [e]
  clear h0 h1 h2 e
  go_enter Tryz.func29, Tryz.ntmps29
  go_wp2
  go_ret
  exact ⟨rfl, below1 _ _⟩
theorem drewB' (w : World) (n : Nat) : Below w.heap.size w (w.drewN n) := by
  induction n generalizing w with
  | zero => exact Below.refl _ _
  | succ n ih => exact (ih w).drew
theorem drewB {B : Nat} {w w' : World} (h : Below B w w') (n : Nat) (hB : B ≤ w.heap.size) : Below B w (w'.drewN n) := h.trans ((drewB' w' n).mono (Nat.le_trans hB h.size))
theorem rmay_any (v : DV) (w : World) : Calls Tryz.prog 34 #[vagg v] w fun e w' => e = .returned (.bool (mayV v)) ∧ Below w.heap.size w w' := by
  obtain ⟨k, x, s⟩ := v
  have hf := run_tobits
  by_cases h0 : k = 0
  · subst h0
    have e : mayV ⟨0, x, s⟩ = (x == 0 && s == []) := rfl
    rw [e]
    cases hx : x == 0
    ·
      clear e
      go_enter Tryz.func34, Tryz.ntmps34
      go_wp2_with (first
        | (go_at_call 41; refine (bitsame_any _ _ _).mono ?_; rintro e w' ⟨rfl, rfl⟩))
      go_ret
      exact ⟨rfl, below1 _ _⟩
    ·
      clear e
      go_enter Tryz.func34, Tryz.ntmps34
      go_wp2_with (first
        | (go_at_call 41; refine (bitsame_any _ _ _).mono ?_; rintro e w' ⟨rfl, rfl⟩))
      go_ret
      exact ⟨by simp, below1 _ _⟩
  by_cases h1 : k = 1
  · subst h1
    have e : mayV ⟨1, x, s⟩ = (x == canon x && s == []) := rfl
    rw [e]
    cases hx : x == canon x
    · have HB : Hid (∀ w', Calls Tryz.prog 41 #[.float .f64 x, .float .f64 (canon x)] w' fun e w'' => e = .returned (.bool false) ∧ w'' = w') := fun w' => by have := canon_same x (canon x) w'; rwa [hx] at this
      clear e
      go_enter Tryz.func34, Tryz.ntmps34
      go_wp2
      go_quiet (first
        | (go_at_call 68; refine Calls.quiet_of_same ((rcanon_any _ _).mono fun _ _ ⟨h, hw⟩ => ⟨h, hw.symm⟩))
        | (go_at_call 41; refine Calls.quiet_of_same (HB.out _)))
      go_wp2
      go_ret
      exact ⟨rfl, drewB (below1 _ _) _ (Nat.le_refl _)⟩
    · have HB : Hid (∀ w', Calls Tryz.prog 41 #[.float .f64 x, .float .f64 (canon x)] w' fun e w'' => e = .returned (.bool true) ∧ w'' = w') := fun w' => by have := canon_same x (canon x) w'; rwa [hx] at this
      clear e
      go_enter Tryz.func34, Tryz.ntmps34
      go_wp2
      go_quiet (first
        | (go_at_call 68; refine Calls.quiet_of_same ((rcanon_any _ _).mono fun _ _ ⟨h, hw⟩ => ⟨h, hw.symm⟩))
        | (go_at_call 41; refine Calls.quiet_of_same (HB.out _)))
      go_wp2
      go_ret
      exact ⟨by simp, drewB (below1 _ _) _ (Nat.le_refl _)⟩
  have b0 : (k == 0) = false := by rw [beq_eq_false_iff_ne]; exact h0
  have b1 : (k == 1) = false := by rw [beq_eq_false_iff_ne]; exact h1
  by_cases h2 : k = 2
  · subst h2
    have e : mayV ⟨2, x, s⟩ = (x == 0 && decide (s.length ≤ 64)) := rfl
    rw [e]
    have hl := dec_int s.length 64
    cases hx : x == 0
    ·
      clear e hl
      go_enter Tryz.func34, Tryz.ntmps34
      go_wp2_with (first
        | (go_at_call 41; refine (bitsame_any _ _ _).mono ?_; rintro e w' ⟨rfl, rfl⟩))
      go_ret
      exact ⟨rfl, below1 _ _⟩
    ·
      rw [← hl]
      clear e hl
      go_enter Tryz.func34, Tryz.ntmps34
      go_wp2_with (first
        | (go_at_call 41; refine (bitsame_any _ _ _).mono ?_; rintro e w' ⟨rfl, rfl⟩))
      go_ret
      exact ⟨by simp, below1 _ _⟩
  have b2 : (k == 2) = false := by rw [beq_eq_false_iff_ne]; exact h2
  have e : mayV ⟨k, x, s⟩ = false := by unfold mayV; rw [if_neg h0, if_neg h1, if_neg h2]
  rw [e]
  clear h0 h1 h2 e
  go_enter Tryz.func34, Tryz.ntmps34
  go_wp2
  go_ret
  exact ⟨rfl, below1 _ _⟩
/-- What a value counts as in a sum. -/
def addV (v : DV) : Nat × Bool := if mayV v then (if v.k = 0 then (0, true) else if v.k = 1 then (v.x, true) else (0, false)) else (0, false)
theorem addend_any (v : DV) (w : World) : Calls Tryz.prog 32 #[vagg v] w fun e w' => e = .returned (.tuple #[.float .f64 (addV v).1, .bool (addV v).2]) ∧ Below w.heap.size w w' := by
  have HM := fun w => Lib.hid (may_any v w)
  cases hm : mayV v
  · have e : addV v = (0, false) := by unfold addV; rw [hm]; rfl
    rw [e]
    obtain ⟨k, x, s⟩ := v
    clear e
    go_enter Tryz.func32, Tryz.ntmps32
    go_wp2_with (go_at_call 29; refine (HM _).out.mono ?_; rw [hm]; rintro e w1 ⟨rfl, hb⟩; have HB := Lib.hid ((below1 _ _).trans (hb.mono (below1 _ _).size)); clear hb)
    go_returns
    exact ⟨rfl, HB.out⟩
  · have e : addV v = (if v.k = 0 then (0, true) else if v.k = 1 then (v.x, true) else (0, false)) := by unfold addV; rw [hm]; rfl
    rw [e]
    obtain ⟨k, x, s⟩ := v
    simp only
    have hcell : ∀ w : World, ∀ i, (w.alloc (.cells #[.int .i64 k, .float .f64 x, .string ⟨s.toArray⟩] 24)).cell? ⟨w.heap.size, i, none⟩ = (#[.int .i64 k, .float .f64 x, .string ⟨s.toArray⟩] : Array Value)[i]? := fun w i => by simp [World.cell?_alloc_new]
    have HC := Lib.hid hcell
    clear e hcell
    by_cases h0 : k = 0
    · subst h0
      rw [if_pos rfl]
      go_enter Tryz.func32, Tryz.ntmps32
      go_wp2_with (go_at_call 29; refine (HM _).out.mono ?_; rw [hm]; rintro e w1 ⟨rfl, hb⟩; have d0 := (hb.cell (p := ⟨w.heap.size, 0, none⟩) (by simp)).trans (HC.out w 0); have d1 := (hb.cell (p := ⟨w.heap.size, 1, none⟩) (by simp)).trans (HC.out w 1); simp only [List.getElem?_toArray, List.getElem?_cons_zero, List.getElem?_cons_succ] at d0 d1; have HB := Lib.hid ((below1 _ _).trans (hb.mono (below1 _ _).size)); clear hb)
      go_returns
      exact ⟨rfl, HB.out⟩
    rw [if_neg h0]
    have b0 : (k == 0) = false := by rw [beq_eq_false_iff_ne]; exact h0
    by_cases h1 : k = 1
    · subst h1
      rw [if_pos rfl]
      go_enter Tryz.func32, Tryz.ntmps32
      go_wp2_with (go_at_call 29; refine (HM _).out.mono ?_; rw [hm]; rintro e w1 ⟨rfl, hb⟩; have d0 := (hb.cell (p := ⟨w.heap.size, 0, none⟩) (by simp)).trans (HC.out w 0); have d1 := (hb.cell (p := ⟨w.heap.size, 1, none⟩) (by simp)).trans (HC.out w 1); simp only [List.getElem?_toArray, List.getElem?_cons_zero, List.getElem?_cons_succ] at d0 d1; have HB := Lib.hid ((below1 _ _).trans (hb.mono (below1 _ _).size)); clear hb)
      go_returns
      exact ⟨rfl, HB.out⟩
    rw [if_neg h1]
    have b1 : (k == 1) = false := by rw [beq_eq_false_iff_ne]; exact h1
    clear h0 h1
    go_enter Tryz.func32, Tryz.ntmps32
    go_wp2_with (go_at_call 29; refine (HM _).out.mono ?_; rw [hm]; rintro e w1 ⟨rfl, hb⟩; have d0 := (hb.cell (p := ⟨w.heap.size, 0, none⟩) (by simp)).trans (HC.out w 0); have d1 := (hb.cell (p := ⟨w.heap.size, 1, none⟩) (by simp)).trans (HC.out w 1); simp only [List.getElem?_toArray, List.getElem?_cons_zero, List.getElem?_cons_succ] at d0 d1; have HB := Lib.hid ((below1 _ _).trans (hb.mono (below1 _ _).size)); clear hb)
    go_returns
    exact ⟨rfl, HB.out⟩
end Go.Proofs.YtjkfcmadoeifgaaGreatDoor
