/- Stamps by value and in a block of their own; within, hlc.May, raceref8.May; stamps compared by ==. Conditions: none. -/
import Derived.Test.YtmpokhjchbaleaaDoorShelf
import Derived.Test.YtmpokhjchbaleaaDoorProg
import Derived.Below
import Derived.BigCall
import Derived.BigGuard
import Derived.BigQuiet
import Derived.Deep.Draws
import Derived.Deep.RegionHeld
import Derived.Deep.RegionWith
import Derived.Deep.QuietTactic
import Derived.Lib.Hide
import Derived.Laws.ResultCell
namespace Go.Proofs.YtmpokhjchbaleaaDoor
open Go.RowKit
/-- A stamp. -/
structure St where
  w : Int
  l : Int
  n : Int
deriving DecidableEq
def St.wf (s : St) : Prop := (-9223372036854775808 ≤ s.w ∧ s.w < 9223372036854775808) ∧ (-9223372036854775808 ≤ s.l ∧ s.l < 9223372036854775808) ∧ (-9223372036854775808 ≤ s.n ∧ s.n < 9223372036854775808)
abbrev sagg (s : St) : Value := .agg #[.int .i64 s.w, .int .i64 s.l, .int .i64 s.n]
abbrev sobj (s : St) : Obj := .cells #[.int .i64 s.w, .int .i64 s.l, .int .i64 s.n] 23
abbrev St.zero : St := ⟨0, 0, 0⟩
/-- A stamp in a block of its own. -/
structure At (w : World) (b : Nat) (s : St) : Prop where
  lt : b < w.heap.size
  c0 : w.cell? ⟨b, 0, none⟩ = some (.int .i64 s.w)
  c1 : w.cell? ⟨b, 1, none⟩ = some (.int .i64 s.l)
  c2 : w.cell? ⟨b, 2, none⟩ = some (.int .i64 s.n)
  f0 : w.frozen? ⟨b, 0, none⟩ = false
  f1 : w.frozen? ⟨b, 1, none⟩ = false
  f2 : w.frozen? ⟨b, 2, none⟩ = false
theorem At.below {B : Nat} {w w' : World} {b : Nat} {r : St} (h : At w b r) (hb : Below B w w') (hl : b < B) : At w' b r :=
  ⟨Nat.lt_of_lt_of_le h.lt hb.size, (hb.cell hl).trans h.c0, (hb.cell hl).trans h.c1, (hb.cell hl).trans h.c2, (hb.frozen hl).trans h.f0, (hb.frozen hl).trans h.f1, (hb.frozen hl).trans h.f2⟩
theorem at_new (w : World) (r : St) : At (w.alloc (sobj r)) w.heap.size r :=
  ⟨by simp, by simp [World.cell?_alloc_new], by simp [World.cell?_alloc_new], by simp [World.cell?_alloc_new], World.frozen?_alloc_new _ _ _ _, World.frozen?_alloc_new _ _ _ _, World.frozen?_alloc_new _ _ _ _⟩
theorem below1 (w : World) (o : Obj) : Below w.heap.size w (w.alloc o) := (Below.refl _ _).alloc (Nat.le_refl _) o
theorem below2 (w : World) (o o' : Obj) : Below w.heap.size w ((w.alloc o).alloc o') := (below1 w o).alloc (below1 w o).size o'
theorem below3 (w : World) (o o' o'' : Obj) : Below w.heap.size w (((w.alloc o).alloc o').alloc o'') := (below2 w o o').alloc (below2 w o o').size o''
theorem At.alloc {w : World} {b : Nat} {r : St} (h : At w b r) (o : Obj) : At (w.alloc o) b r := h.below (below1 w o) h.lt
theorem within_any (n m : Int) (w : World) : Calls Tryd.prog 33 #[.int .i64 n, .int .i64 m] w fun e w' => e = .returned (.bool (decide (0 ≤ n) && decide (n ≤ m))) ∧ w = w' := by
  cases h0 : decide ((0 : Int) ≤ n)
  · go_enter Tryd.func33, Tryd.ntmps33
    go_wp2
    go_ret
    exact ⟨rfl, rfl⟩
  · cases h1 : decide (n ≤ m)
    all_goals
      go_enter Tryd.func33, Tryd.ntmps33
      go_wp2
      go_ret
      exact ⟨rfl, rfl⟩
def okN (n m : Int) : Bool := decide (0 ≤ n) && decide (n ≤ m)
def mayS (s : St) : Bool := okN s.w 281474976710656 && (okN s.l 65535 && okN s.n 63)
theorem may_any (s : St) (w : World) : Calls Tryd.prog 13 #[sagg s] w fun e w' => e = .returned (.bool (mayS s)) ∧ Below w.heap.size w w' := by
  obtain ⟨a, b, c⟩ := s
  have HA := fun w => Lib.hid (within_any a 281474976710656 w)
  have HB := fun w => Lib.hid (within_any b 65535 w)
  have HC := fun w => Lib.hid (within_any c 63 w)
  have hm : mayS ⟨a, b, c⟩ = ((decide (0 ≤ a) && decide (a ≤ 281474976710656)) && ((decide (0 ≤ b) && decide (b ≤ 65535)) && (decide (0 ≤ c) && decide (c ≤ 63)))) := rfl
  rw [hm]
  clear hm
  generalize (decide (0 ≤ a) && decide (a ≤ 281474976710656)) = x at *
  generalize (decide (0 ≤ b) && decide (b ≤ 65535)) = y at *
  generalize (decide (0 ≤ c) && decide (c ≤ 63)) = z at *
  cases x
  · go_enter Tryd.func13, Tryd.ntmps13
    go_wp2_with (first
      | (go_at_call 33; ((with_reducible refine (HA _).out.mono ?_); rintro e w' ⟨rfl, rfl⟩)))
    go_ret
    exact ⟨rfl, below1 _ _⟩
  cases y
  all_goals
    go_enter Tryd.func13, Tryd.ntmps13
    go_wp2_with (first
      | (go_at_call 33; first | ((with_reducible refine (HA _).out.mono ?_); rintro e w' ⟨rfl, rfl⟩) | ((with_reducible refine (HB _).out.mono ?_); rintro e w' ⟨rfl, rfl⟩) | ((with_reducible refine (HC _).out.mono ?_); rintro e w' ⟨rfl, rfl⟩)))
    go_ret
    exact ⟨rfl, below1 _ _⟩
theorem rmay_any (s : St) (w : World) : Calls Tryd.prog 14 #[sagg s] w fun e w' => e = .returned (.bool (mayS s)) ∧ Below w.heap.size w w' := by
  obtain ⟨a, b, c⟩ := s
  have hm : mayS ⟨a, b, c⟩ = ((decide (0 ≤ a) && decide (a ≤ 281474976710656)) && ((decide (0 ≤ b) && decide (b ≤ 65535)) && (decide (0 ≤ c) && decide (c ≤ 63)))) := rfl
  rw [hm]
  clear hm
  cases h0 : decide ((0 : Int) ≤ a)
  · go_enter Tryd.func14, Tryd.ntmps14
    go_wp2
    go_ret
    exact ⟨rfl, below1 _ _⟩
  cases h1 : decide (a ≤ 281474976710656)
  · go_enter Tryd.func14, Tryd.ntmps14
    go_wp2
    go_ret
    exact ⟨rfl, below1 _ _⟩
  cases h2 : decide ((0 : Int) ≤ b)
  · go_enter Tryd.func14, Tryd.ntmps14
    go_wp2
    go_ret
    exact ⟨rfl, below1 _ _⟩
  cases h3 : decide (b ≤ 65535)
  · go_enter Tryd.func14, Tryd.ntmps14
    go_wp2
    go_ret
    exact ⟨rfl, below1 _ _⟩
  cases h4 : decide ((0 : Int) ≤ c)
  · go_enter Tryd.func14, Tryd.ntmps14
    go_wp2
    go_ret
    exact ⟨rfl, below1 _ _⟩
  cases h5 : decide (c ≤ 63)
  all_goals
    go_enter Tryd.func14, Tryd.ntmps14
    go_wp2
    go_ret
    exact ⟨rfl, below1 _ _⟩
/-- Stamps compared by ==. -/
theorem eq_st (a b : St) (W : World) : (Op.equalIn 9999 23 (sagg a) (sagg b)).run Tryd.prog W = .ok (decide (a = b)) W := by
  unfold Op.equalIn
  simp [run_underlying Tryd.underlying23, go_sem]
  obtain ⟨a1, a2, a3⟩ := a
  obtain ⟨b1, b2, b3⟩ := b
  by_cases h1 : a1 = b1
  · by_cases h2 : a2 = b2
    · by_cases h3 : a3 = b3
      · simp [h1, h2, h3]
      · simp [h1, h2, h3]
    · simp [h1, h2]
  · simp [h1]
theorem at_two (w : World) (a b : St) : At ((w.alloc (sobj a)).alloc (sobj b)) w.heap.size a ∧ At ((w.alloc (sobj a)).alloc (sobj b)) (w.heap.size + 1) b := by
  refine ⟨(at_new w a).alloc _, ?_⟩
  have := at_new (w.alloc (sobj a)) b
  simpa using this
theorem at_three (w : World) (a b c : St) : At (((w.alloc (sobj a)).alloc (sobj b)).alloc (sobj c)) w.heap.size a ∧ At (((w.alloc (sobj a)).alloc (sobj b)).alloc (sobj c)) (w.heap.size + 1) b ∧ At (((w.alloc (sobj a)).alloc (sobj b)).alloc (sobj c)) (w.heap.size + 1 + 1) c := by
  refine ⟨(at_two w a b).1.alloc _, (at_two w a b).2.alloc _, ?_⟩
  have := at_new ((w.alloc (sobj a)).alloc (sobj b)) c
  simpa using this
theorem load_at {w : World} {b : Nat} {v : St} (h : At w b v) : (loadVar 23 ⟨b, 0, none⟩).run Tryd.prog w = .ok (sagg v) w := by
  have c0 := h.c0
  have c1 := h.c1
  have c2 := h.c2
  go_simp
theorem cell_set3 {w : World} {b : Nat} {x y z x' y' z' : Value} (h0 : w.cell? ⟨b, 0, none⟩ = some x) (h1 : w.cell? ⟨b, 1, none⟩ = some y) (h2 : w.cell? ⟨b, 2, none⟩ = some z) :
    (((w.setCell ⟨b, 0, none⟩ x').setCell ⟨b, 1, none⟩ y').setCell ⟨b, 2, none⟩ z').cell? ⟨b, 0, none⟩ = some x' ∧ (((w.setCell ⟨b, 0, none⟩ x').setCell ⟨b, 1, none⟩ y').setCell ⟨b, 2, none⟩ z').cell? ⟨b, 1, none⟩ = some y' ∧
      (((w.setCell ⟨b, 0, none⟩ x').setCell ⟨b, 1, none⟩ y').setCell ⟨b, 2, none⟩ z').cell? ⟨b, 2, none⟩ = some z' := by
  have n10 : (⟨b, 1, none⟩ : Addr) ≠ ⟨b, 0, none⟩ := by simp
  have n20 : (⟨b, 2, none⟩ : Addr) ≠ ⟨b, 0, none⟩ := by simp
  have n21 : (⟨b, 2, none⟩ : Addr) ≠ ⟨b, 1, none⟩ := by simp
  refine ⟨?_, ?_, ?_⟩
  · rw [World.cell?_setCell_other (h := n20), World.cell?_setCell_other (h := n10), World.cell?_setCell_same (h := h0)]
  · rw [World.cell?_setCell_other (h := n21), World.cell?_setCell_same (u := y) (h := by rw [World.cell?_setCell_other (h := n10.symm)]; exact h1)]
  · rw [World.cell?_setCell_same (u := z) (h := by rw [World.cell?_setCell_other (h := n21.symm), World.cell?_setCell_other (h := n20.symm)]; exact h2)]
abbrev setS (w : World) (b : Nat) (u : St) : World := (((w.setCell ⟨b, 0, none⟩ (.int .i64 u.w)).setCell ⟨b, 1, none⟩ (.int .i64 u.l)).setCell ⟨b, 2, none⟩ (.int .i64 u.n))
theorem At.setAll {w : World} {b : Nat} {v : St} (h : At w b v) (u : St) : At (setS w b u) b u := by
  obtain ⟨e0, e1, e2⟩ := cell_set3 (x' := .int .i64 u.w) (y' := .int .i64 u.l) (z' := .int .i64 u.n) h.c0 h.c1 h.c2
  exact ⟨World.block_lt_of_cell? _ _ e0, e0, e1, e2, by simp [h.f0], by simp [h.f1], by simp [h.f2]⟩
theorem below_set3 {B : Nat} {w w' : World} {b : Nat} (h : Below B w w') (hb : B ≤ b) (u : St) : Below B w (setS w' b u) :=
  ((h.setCell (p := ⟨b, 0, none⟩) hb _).setCell (p := ⟨b, 1, none⟩) hb _).setCell (p := ⟨b, 2, none⟩) hb _
theorem At.other {w : World} {b c : Nat} {v : St} (h : At w b v) (hc : b < c) (u : St) : At (setS w c u) b v :=
  h.below (below_set3 (Below.refl (b + 1) w) hc u) (Nat.lt_succ_self b)
theorem res_one {fn : Func} {p : Tmp} (h : fn.results = #[.cell p 23]) (tmps : Array Value) {b : Nat} {r : St} {w : World} (hp : tmps.getD p undef = .pointer (some ⟨b, 0, none⟩)) (hA : At w b r) :
    (results fn tmps).run Tryd.prog w = .ok (sagg r) w := by
  have l1 := load_at hA
  simp only [Array.getD_eq_getD_getElem?] at hp
  simp only [results, h]
  simp [hp, asAddr, l1]
theorem res_two {fn : Func} {p u : Tmp} (h : fn.results = #[.cell p 23, .tmp u]) (tmps : Array Value) {b : Nat} {r : St} {w : World} (hp : tmps.getD p undef = .pointer (some ⟨b, 0, none⟩)) (hA : At w b r) :
    (results fn tmps).run Tryd.prog w = .ok (.tuple #[sagg r, tmps.getD u undef]) w := by
  have l1 := load_at hA
  simp only [Array.getD_eq_getD_getElem?] at hp
  simp only [results, h]
  simp [Result.andThen, hp, asAddr, l1]
theorem wrap_in {x : Int} (h : -9223372036854775808 ≤ x ∧ x ≤ 9223372036854775807) : IntKind.i64.wrap x = x := IntWalk.i64_in _ (by omega)
end Go.Proofs.YtmpokhjchbaleaaDoor
