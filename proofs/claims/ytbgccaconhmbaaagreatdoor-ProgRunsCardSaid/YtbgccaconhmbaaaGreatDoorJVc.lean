/- datum.Plus. Values that lie in a block of their own. Conditions: none. datum.Compare and Same. Conditions: bits below 2^64. datum.isPlain, first, Unquote. Conditions: fewer than 2^47 bytes. raceref3.Compare. Conditions: bits below 2^64. -/
import Derived.Test.YtbgccaconhmbaaaGreatDoorJVa
import Derived.Test.YtbgccaconhmbaaaGreatDoorJS
import Derived.Laws.ResultCell
import Derived.Test.YtbgccaconhmbaaaGreatDoorJD
import Derived.Test.YtbgccaconhmbaaaGreatDoorJShelf
namespace Go.Proofs.YtbgccaconhmbaaaGreatDoor
open Go.RowKit
/-- A value in a block of its own. -/
structure At (w : World) (b : Nat) (v : DV) : Prop where
  lt : b < w.heap.size
  c0 : w.cell? ⟨b, 0, none⟩ = some (.int .i64 v.k)
  c1 : w.cell? ⟨b, 1, none⟩ = some (.float .f64 v.x)
  c2 : w.cell? ⟨b, 2, none⟩ = some (.string ⟨v.s.toArray⟩)
  f0 : w.frozen? ⟨b, 0, none⟩ = false
  f1 : w.frozen? ⟨b, 1, none⟩ = false
  f2 : w.frozen? ⟨b, 2, none⟩ = false
abbrev vobj (v : DV) : Obj := .cells #[.int .i64 v.k, .float .f64 v.x, .string ⟨v.s.toArray⟩] 48
theorem At.below {B : Nat} {w w' : World} {b : Nat} {v : DV} (h : At w b v) (hb : Below B w w') (hl : b < B) : At w' b v :=
  ⟨Nat.lt_of_lt_of_le h.lt hb.size, (hb.cell hl).trans h.c0, (hb.cell hl).trans h.c1, (hb.cell hl).trans h.c2, (hb.frozen hl).trans h.f0, (hb.frozen hl).trans h.f1, (hb.frozen hl).trans h.f2⟩
theorem at_new (w : World) (v : DV) : At (w.alloc (vobj v)) w.heap.size v :=
  ⟨by simp, by simp [World.cell?_alloc_new], by simp [World.cell?_alloc_new], by simp [World.cell?_alloc_new], World.frozen?_alloc_new _ _ _ _, World.frozen?_alloc_new _ _ _ _, World.frozen?_alloc_new _ _ _ _⟩
theorem At.alloc {w : World} {b : Nat} {v : DV} (h : At w b v) (o : Obj) : At (w.alloc o) b v := h.below (below1 w o) h.lt
theorem at_two (w : World) (a b : DV) : At ((w.alloc (vobj a)).alloc (vobj b)) w.heap.size a ∧ At ((w.alloc (vobj a)).alloc (vobj b)) (w.heap.size + 1) b := by
  refine ⟨(at_new w a).alloc _, ?_⟩
  have := at_new (w.alloc (vobj a)) b
  simpa using this
theorem at_three (w : World) (a b c : DV) : At (((w.alloc (vobj a)).alloc (vobj b)).alloc (vobj c)) w.heap.size a ∧ At (((w.alloc (vobj a)).alloc (vobj b)).alloc (vobj c)) (w.heap.size + 1) b ∧ At (((w.alloc (vobj a)).alloc (vobj b)).alloc (vobj c)) (w.heap.size + 1 + 1) c := by
  refine ⟨(at_two w a b).1.alloc _, (at_two w a b).2.alloc _, ?_⟩
  have := at_new ((w.alloc (vobj a)).alloc (vobj b)) c
  simpa using this
theorem below3 (w : World) (o o' o'' : Obj) : Below w.heap.size w (((w.alloc o).alloc o').alloc o'') := (below2 w o o').alloc (below2 w o o').size o''
theorem load_at {w : World} {b : Nat} {v : DV} (h : At w b v) : (loadVar 48 ⟨b, 0, none⟩).run Tryz.prog w = .ok (vagg v) w := by
  have c0 := h.c0
  have c1 := h.c1
  have c2 := h.c2
  go_simp
theorem cell_set3 {w : World} {b : Nat} {x y z x' y' z' : Value} (h0 : w.cell? ⟨b, 0, none⟩ = some x) (h1 : w.cell? ⟨b, 1, none⟩ = some y) (h2 : w.cell? ⟨b, 2, none⟩ = some z) :
    (((w.setCell ⟨b, 0, none⟩ x').setCell ⟨b, 1, none⟩ y').setCell ⟨b, 2, none⟩ z').cell? ⟨b, 0, none⟩ = some x' ∧ (((w.setCell ⟨b, 0, none⟩ x').setCell ⟨b, 1, none⟩ y').setCell ⟨b, 2, none⟩ z').cell? ⟨b, 1, none⟩ = some y' ∧
      (((w.setCell ⟨b, 0, none⟩ x').setCell ⟨b, 1, none⟩ y').setCell ⟨b, 2, none⟩ z').cell? ⟨b, 2, none⟩ = some z' := by
  have n10 : (⟨b, 1, none⟩ : Addr) ≠ ⟨b, 0, none⟩ := by simp
  have n20 : (⟨b, 2, none⟩ : Addr) ≠ ⟨b, 0, none⟩ := by simp
  have n21 : (⟨b, 2, none⟩ : Addr) ≠ ⟨b, 1, none⟩ := by simp
  refine ⟨?_, ?_, ?_⟩
  · rw [World.cell?_setCell_other (h := n20), World.cell?_setCell_other (h := n10), World.cell?_setCell_same (h := h0)]
  · rw [World.cell?_setCell_other (h := n21), World.cell?_setCell_same (u := y) (h := by rw [World.cell?_setCell_other (h := n10.symm)]; exact h1)]
  · rw [World.cell?_setCell_same (u := z) (h := by rw [World.cell?_setCell_other (h := n21.symm), World.cell?_setCell_other (h := n20.symm)]; exact h2)]
theorem At.setAll {w : World} {b : Nat} {v : DV} (h : At w b v) (u : DV) : At (((w.setCell ⟨b, 0, none⟩ (.int .i64 u.k)).setCell ⟨b, 1, none⟩ (.float .f64 u.x)).setCell ⟨b, 2, none⟩ (.string ⟨u.s.toArray⟩)) b u := by
  obtain ⟨e0, e1, e2⟩ := cell_set3 (x' := .int .i64 u.k) (y' := .float .f64 u.x) (z' := .string ⟨u.s.toArray⟩) h.c0 h.c1 h.c2
  exact ⟨World.block_lt_of_cell? _ _ e0, e0, e1, e2, by simp [h.f0], by simp [h.f1], by simp [h.f2]⟩
theorem below_set3 {B : Nat} {w w' : World} {b : Nat} (h : Below B w w') (hb : B ≤ b) (x y z : Value) : Below B w (((w'.setCell ⟨b, 0, none⟩ x).setCell ⟨b, 1, none⟩ y).setCell ⟨b, 2, none⟩ z) :=
  ((h.setCell (p := ⟨b, 0, none⟩) hb x).setCell (p := ⟨b, 1, none⟩) hb y).setCell (p := ⟨b, 2, none⟩) hb z
theorem res_pair {fn : Func} {p u : Tmp} (h : fn.results = #[.cell p 48, .tmp u]) (tmps : Array Value) {b : Nat} {v : DV} {w : World} (hp : tmps.getD p undef = .pointer (some ⟨b, 0, none⟩)) (hA : At w b v) :
    (results fn tmps).run Tryz.prog w = .ok (.tuple #[vagg v, tmps.getD u undef]) w := by
  rw [results_cell_tmp h, hp]
  have hl := load_at hA
  simp only [asAddr, Sem.run_pure, Result.andThen, hl]
def plusV (a b : DV) : DV × Int := if (addV a).2 && (addV b).2 then (⟨1, canon (resN (Ieee.double.add (addV a).1 (addV b).1)), []⟩, 0) else (DV.none, 23)
end Go.Proofs.YtbgccaconhmbaaaGreatDoor
namespace Go.Proofs.YtbgccaconhmbaaaGreatDoor
open Go.RowKit
/-- The order of two values. -/
def compV (a b : DV) : Int :=
  if mayV a = true ∧ mayV b = true then (if a.k ≠ b.k then Lib.compareInt a.k b.k else if a.k = 1 then cmpN (rankN a.x) (rankN b.x) else if a.k = 2 then Lib.compareBytes a.s b.s else 0) else 0
def sameB (a b : DV) : Bool := mayV a && (mayV b && compV a b == 0)
theorem vcompare_any (a b : DV) (ha : a.wf) (hb : b.wf) (w : World) : Calls Tryz.prog 117 #[vagg a, vagg b] w fun e w' => e = .returned (.int .i64 (compV a b)) ∧ Below w.heap.size w w' := by
  have hax := ha.2.1
  have hbx := hb.2.1
  clear ha hb
  obtain ⟨ak, ax, asx⟩ := a
  obtain ⟨bk, bx, bs⟩ := b
  simp only at hax hbx
  have HW := Lib.hid (below2 w (vobj ⟨ak, ax, asx⟩) (vobj ⟨bk, bx, bs⟩))
  have HA := Lib.hid (at_two w ⟨ak, ax, asx⟩ ⟨bk, bx, bs⟩).1
  have HB := Lib.hid (at_two w ⟨ak, ax, asx⟩ ⟨bk, bx, bs⟩).2
  have HM1 := fun w => Lib.hid (may_any ⟨ak, ax, asx⟩ w)
  have HM2 := fun w => Lib.hid (may_any ⟨bk, bx, bs⟩ w)
  cases hma : mayV ⟨ak, ax, asx⟩
  · have e : compV ⟨ak, ax, asx⟩ ⟨bk, bx, bs⟩ = 0 := by unfold compV; rw [hma, if_neg (by simp)]
    rw [e]
    rw [hma] at HM1
    clear e hma
    go_enter Tryz.func117, Tryz.ntmps117
    go_wp2_with (first
      | (go_at_call 69; with_reducible refine (HM1 _).out.mono ?_; rintro e w1 ⟨rfl, hb⟩; have HA := Lib.hid (HA.out.below hb HA.out.lt); have A0 := HA.out.c0; have A1 := HA.out.c1; have A2 := HA.out.c2; dsimp only at A0 A1 A2; have HB := Lib.hid (HB.out.below hb HB.out.lt); have B0 := HB.out.c0; have B1 := HB.out.c1; have B2 := HB.out.c2; dsimp only at B0 B1 B2; have HW := Lib.hid (HW.out.trans (hb.mono HW.out.size)); clear hb))
    go_ret
    exact ⟨rfl, HW.out⟩
  cases hmb : mayV ⟨bk, bx, bs⟩
  · have e : compV ⟨ak, ax, asx⟩ ⟨bk, bx, bs⟩ = 0 := by unfold compV; rw [hmb, if_neg (by simp)]
    rw [e]
    rw [hma] at HM1
    rw [hmb] at HM2
    clear e hma hmb
    go_enter Tryz.func117, Tryz.ntmps117
    go_wp2_with (first
      | (go_at_call 69; with_reducible refine (HM1 _).out.mono ?_; rintro e w1 ⟨rfl, hb⟩; have HA := Lib.hid (HA.out.below hb HA.out.lt); have A0 := HA.out.c0; have A1 := HA.out.c1; have A2 := HA.out.c2; dsimp only at A0 A1 A2; have HB := Lib.hid (HB.out.below hb HB.out.lt); have B0 := HB.out.c0; have B1 := HB.out.c1; have B2 := HB.out.c2; dsimp only at B0 B1 B2; have HW := Lib.hid (HW.out.trans (hb.mono HW.out.size)); clear hb)
      | (go_at_call 69; with_reducible refine (HM2 _).out.mono ?_; rintro e w1 ⟨rfl, hb⟩; have HA := Lib.hid (HA.out.below hb HA.out.lt); have A0 := HA.out.c0; have A1 := HA.out.c1; have A2 := HA.out.c2; dsimp only at A0 A1 A2; have HB := Lib.hid (HB.out.below hb HB.out.lt); have B0 := HB.out.c0; have B1 := HB.out.c1; have B2 := HB.out.c2; dsimp only at B0 B1 B2; have HW := Lib.hid (HW.out.trans (hb.mono HW.out.size)); clear hb))
    go_ret
    exact ⟨rfl, HW.out⟩
  have e : compV ⟨ak, ax, asx⟩ ⟨bk, bx, bs⟩ = (if ak ≠ bk then Lib.compareInt ak bk else if ak = 1 then cmpN (rankN ax) (rankN bx) else if ak = 2 then Lib.compareBytes asx bs else 0) := by unfold compV; rw [if_pos ⟨hma, hmb⟩]
  rw [e]
  rw [hma] at HM1
  rw [hmb] at HM2
  clear e hma hmb
  by_cases hk : ak = bk
  · subst hk
    rw [if_neg (by simp)]
    have hkk : (ak != ak) = false := by simp
    by_cases h1 : ak = 1
    · subst h1
      rw [if_pos rfl]
      have HX := fun w => Lib.hid (compare_any ax bx w hax hbx)
      go_enter Tryz.func117, Tryz.ntmps117
      go_wp2_with (first
        | (go_at_call 69; with_reducible refine (HM1 _).out.mono ?_; rintro e w1 ⟨rfl, hb⟩; have HA := Lib.hid (HA.out.below hb HA.out.lt); have A0 := HA.out.c0; have A1 := HA.out.c1; have A2 := HA.out.c2; dsimp only at A0 A1 A2; have HB := Lib.hid (HB.out.below hb HB.out.lt); have B0 := HB.out.c0; have B1 := HB.out.c1; have B2 := HB.out.c2; dsimp only at B0 B1 B2; have HW := Lib.hid (HW.out.trans (hb.mono HW.out.size)); clear hb)
        | (go_at_call 69; with_reducible refine (HM2 _).out.mono ?_; rintro e w1 ⟨rfl, hb⟩; have HA := Lib.hid (HA.out.below hb HA.out.lt); have A0 := HA.out.c0; have A1 := HA.out.c1; have A2 := HA.out.c2; dsimp only at A0 A1 A2; have HB := Lib.hid (HB.out.below hb HB.out.lt); have B0 := HB.out.c0; have B1 := HB.out.c1; have B2 := HB.out.c2; dsimp only at B0 B1 B2; have HW := Lib.hid (HW.out.trans (hb.mono HW.out.size)); clear hb)
        | (go_at_call 116; with_reducible refine (HX _).out.mono ?_; rintro e w2 ⟨rfl, rfl⟩))
      go_ret
      exact ⟨rfl, HW.out⟩
    rw [if_neg h1]
    have b1 : (ak == 1) = false := by rw [beq_eq_false_iff_ne]; exact h1
    by_cases h2 : ak = 2
    · subst h2
      rw [if_pos rfl]
      have HX := fun w => Lib.hid (Tryz.strings_Compare ⟨asx.toArray⟩ ⟨bs.toArray⟩ w)
      rw [show (⟨asx.toArray⟩ : ByteArray).data.toList = asx from rfl, show (⟨bs.toArray⟩ : ByteArray).data.toList = bs from rfl] at HX
      clear h1
      go_enter Tryz.func117, Tryz.ntmps117
      go_wp2_with (first
        | (go_at_call 69; with_reducible refine (HM1 _).out.mono ?_; rintro e w1 ⟨rfl, hb⟩; have HA := Lib.hid (HA.out.below hb HA.out.lt); have A0 := HA.out.c0; have A1 := HA.out.c1; have A2 := HA.out.c2; dsimp only at A0 A1 A2; have HB := Lib.hid (HB.out.below hb HB.out.lt); have B0 := HB.out.c0; have B1 := HB.out.c1; have B2 := HB.out.c2; dsimp only at B0 B1 B2; have HW := Lib.hid (HW.out.trans (hb.mono HW.out.size)); clear hb)
        | (go_at_call 69; with_reducible refine (HM2 _).out.mono ?_; rintro e w1 ⟨rfl, hb⟩; have HA := Lib.hid (HA.out.below hb HA.out.lt); have A0 := HA.out.c0; have A1 := HA.out.c1; have A2 := HA.out.c2; dsimp only at A0 A1 A2; have HB := Lib.hid (HB.out.below hb HB.out.lt); have B0 := HB.out.c0; have B1 := HB.out.c1; have B2 := HB.out.c2; dsimp only at B0 B1 B2; have HW := Lib.hid (HW.out.trans (hb.mono HW.out.size)); clear hb)
        | (go_at_call 156; with_reducible refine (HX _).out.mono ?_; rintro e w2 ⟨rfl, hww⟩; obtain rfl := hww.symm))
      go_ret
      exact ⟨rfl, HW.out⟩
    rw [if_neg h2]
    have b2 : (ak == 2) = false := by rw [beq_eq_false_iff_ne]; exact h2
    clear h1 h2
    go_enter Tryz.func117, Tryz.ntmps117
    go_wp2_with (first
      | (go_at_call 69; with_reducible refine (HM1 _).out.mono ?_; rintro e w1 ⟨rfl, hb⟩; have HA := Lib.hid (HA.out.below hb HA.out.lt); have A0 := HA.out.c0; have A1 := HA.out.c1; have A2 := HA.out.c2; dsimp only at A0 A1 A2; have HB := Lib.hid (HB.out.below hb HB.out.lt); have B0 := HB.out.c0; have B1 := HB.out.c1; have B2 := HB.out.c2; dsimp only at B0 B1 B2; have HW := Lib.hid (HW.out.trans (hb.mono HW.out.size)); clear hb)
      | (go_at_call 69; with_reducible refine (HM2 _).out.mono ?_; rintro e w1 ⟨rfl, hb⟩; have HA := Lib.hid (HA.out.below hb HA.out.lt); have A0 := HA.out.c0; have A1 := HA.out.c1; have A2 := HA.out.c2; dsimp only at A0 A1 A2; have HB := Lib.hid (HB.out.below hb HB.out.lt); have B0 := HB.out.c0; have B1 := HB.out.c1; have B2 := HB.out.c2; dsimp only at B0 B1 B2; have HW := Lib.hid (HW.out.trans (hb.mono HW.out.size)); clear hb))
    go_ret
    exact ⟨rfl, HW.out⟩
  · rw [if_pos hk]
    have hkk : (ak != bk) = true := by rw [bne_iff_ne]; exact hk
    have HX := fun w => Lib.hid (Tryz.cmp_Compare_int ak bk w)
    clear hk
    go_enter Tryz.func117, Tryz.ntmps117
    go_wp2_with (first
      | (go_at_call 69; with_reducible refine (HM1 _).out.mono ?_; rintro e w1 ⟨rfl, hb⟩; have HA := Lib.hid (HA.out.below hb HA.out.lt); have A0 := HA.out.c0; have A1 := HA.out.c1; have A2 := HA.out.c2; dsimp only at A0 A1 A2; have HB := Lib.hid (HB.out.below hb HB.out.lt); have B0 := HB.out.c0; have B1 := HB.out.c1; have B2 := HB.out.c2; dsimp only at B0 B1 B2; have HW := Lib.hid (HW.out.trans (hb.mono HW.out.size)); clear hb)
      | (go_at_call 69; with_reducible refine (HM2 _).out.mono ?_; rintro e w1 ⟨rfl, hb⟩; have HA := Lib.hid (HA.out.below hb HA.out.lt); have A0 := HA.out.c0; have A1 := HA.out.c1; have A2 := HA.out.c2; dsimp only at A0 A1 A2; have HB := Lib.hid (HB.out.below hb HB.out.lt); have B0 := HB.out.c0; have B1 := HB.out.c1; have B2 := HB.out.c2; dsimp only at B0 B1 B2; have HW := Lib.hid (HW.out.trans (hb.mono HW.out.size)); clear hb)
      | (go_at_call 155; with_reducible refine (HX _).out.mono ?_; rintro e w2 ⟨rfl, hww⟩; obtain rfl := hww.symm))
    go_ret
    exact ⟨rfl, HW.out⟩
end Go.Proofs.YtbgccaconhmbaaaGreatDoor
namespace Go.Proofs.YtbgccaconhmbaaaGreatDoor
open Go.RowKit
def plainB (c : UInt8) : Bool := decide (32 ≤ c.toNat) && (decide (c.toNat ≤ 126) && (!(c.toNat == 34) && !(c.toNat == 92)))
theorem plain_any (c : UInt8) (w : World) : Calls Tryz.prog 136 #[.int .u8 (c.toNat : Int)] w fun e w' => e = .returned (.bool (plainB c)) ∧ w = w' := by
  unfold plainB
  generalize c.toNat = n
  by_cases h1 : 32 ≤ n
  · have i1 : (32 : Int) ≤ (n : Int) := by omega
    rw [decide_eq_true h1, Bool.true_and]
    by_cases h2 : n ≤ 126
    · have i2 : (n : Int) ≤ 126 := by omega
      rw [decide_eq_true h2, Bool.true_and]
      by_cases h3 : n = 34
      · have i3 : ((n : Int) != (((⟨#[34]⟩ : ByteArray)[0]'(by decide)).toNat : Int)) = false := by rw [bne_eq_false_iff_eq]; show (n : Int) = 34; omega
        have e3 : (n == 34) = true := by rw [beq_iff_eq]; exact h3
        rw [e3, Bool.not_true, Bool.false_and]
        clear h3 e3
        go_enter Tryz.func136, Tryz.ntmps136
        go_wp2
        go_ret
        exact ⟨rfl, rfl⟩
      · have i3 : ((n : Int) != (((⟨#[34]⟩ : ByteArray)[0]'(by decide)).toNat : Int)) = true := by rw [bne_iff_ne]; show (n : Int) ≠ 34; omega
        have e3 : (n == 34) = false := by rw [beq_eq_false_iff_ne]; exact h3
        rw [e3, Bool.not_false, Bool.true_and]
        by_cases h4 : n = 92
        · have i4 : ((n : Int) != 92) = false := by rw [bne_eq_false_iff_eq]; omega
          have e4 : (n == 92) = true := by rw [beq_iff_eq]; exact h4
          rw [e4, Bool.not_true]
          clear h4 e4
          go_enter Tryz.func136, Tryz.ntmps136
          go_wp2
          go_ret
          exact ⟨rfl, rfl⟩
        · have i4 : ((n : Int) != 92) = true := by rw [bne_iff_ne]; omega
          have e4 : (n == 92) = false := by rw [beq_eq_false_iff_ne]; exact h4
          rw [e4, Bool.not_false]
          go_enter Tryz.func136, Tryz.ntmps136
          go_wp2
          go_ret
          exact ⟨rfl, rfl⟩
    · have i2 : ¬ (n : Int) ≤ 126 := by omega
      rw [decide_eq_false h2, Bool.false_and]
      go_enter Tryz.func136, Tryz.ntmps136
      go_wp2
      go_ret
      exact ⟨rfl, rfl⟩
  · have i1 : ¬ (32 : Int) ≤ (n : Int) := by omega
    rw [decide_eq_false h1, Bool.false_and]
    go_enter Tryz.func136, Tryz.ntmps136
    go_wp2
    go_ret
    exact ⟨rfl, rfl⟩
/-- A digit of base sixteen, and the byte that is it. -/
def hexOf (c : UInt8) : Option Nat := if 48 ≤ c.toNat ∧ c.toNat ≤ 57 then some (c.toNat - 48) else if 97 ≤ c.toNat ∧ c.toNat ≤ 102 then some (c.toNat - 87) else none
def hexI (c : UInt8) : Int := match hexOf c with | some n => (n : Int) | none => -1
theorem hex_index (c : UInt8) : Lib.indexByte [48, 49, 50, 51, 52, 53, 54, 55, 56, 57, 97, 98, 99, 100, 101, 102] c = hexI c := by
  have : ∀ n : Fin 256, Lib.indexByte [48, 49, 50, 51, 52, 53, 54, 55, 56, 57, 97, 98, 99, 100, 101, 102] (UInt8.ofNat n.val) = hexI (UInt8.ofNat n.val) := by decide +kernel
  have h := this ⟨c.toNat, c.toNat_lt⟩
  simpa using h
theorem hexI_cases (c : UInt8) : hexI c = -1 ∨ ∃ n : Nat, n < 16 ∧ hexI c = (n : Int) := by
  unfold hexI hexOf
  split
  · rename_i h
    split at h
    · obtain rfl := Option.some.inj h; exact .inr ⟨_, by omega, rfl⟩
    · split at h
      · obtain rfl := Option.some.inj h; exact .inr ⟨_, by omega, rfl⟩
      · cases h
  · exact .inl rfl
/-- What stands at the beginning: the byte, and with how many bytes it is written (0: it is not). -/
def firstV (l : List UInt8) : UInt8 × Nat :=
  if plainB (l.getD 0 0) then (l.getD 0 0, 1)
  else if l.getD 0 0 ≠ 92 ∨ l.length < 3 then (0, 0)
  else if hexI (l.getD 1 0) < 0 ∨ hexI (l.getD 2 0) < 0 then (0, 0)
  else if plainB (UInt8.ofNat (16 * (hexI (l.getD 1 0)).toNat + (hexI (l.getD 2 0)).toNat)) then (0, 0)
  else (UInt8.ofNat (16 * (hexI (l.getD 1 0)).toNat + (hexI (l.getD 2 0)).toNat), 3)
theorem at_i (s : ByteArray) (i : Nat) (h : i < s.size) : s[i] = s.data.toList.getD i 0 := by
  have hl : i < s.data.toList.length := by rw [← Lib.size_eq]; exact h
  rw [List.getD, List.getElem?_eq_getElem hl]
  rfl
theorem hex_byte (a b : Nat) (ha : a < 16) (hb : b < 16) : 16 * a + b < 256 := by omega
theorem hex_conv (a b : Nat) (ha : a < 16) (hb : b < 16) : bits .or .i64 ((a : Int) * 16) (b : Int) % 256 = ((UInt8.ofNat (16 * a + b)).toNat : Int) := by
  have : ∀ a b : Fin 16, bits .or .i64 ((a.val : Int) * 16) (b.val : Int) % 256 = ((UInt8.ofNat (16 * a.val + b.val)).toNat : Int) := by decide +kernel
  exact this ⟨a, ha⟩ ⟨b, hb⟩
theorem first_any (s : ByteArray) (h0 : 0 < s.size) (w : World) : Calls Tryz.prog 166 #[.string s] w fun e w' => e = .returned (.tuple #[.int .u8 ((firstV s.data.toList).1.toNat : Int), .int .i64 ((firstV s.data.toList).2 : Int)]) ∧ ∃ m, w' = w.drewN m := by
  have hlen : s.data.toList.length = s.size := (Lib.size_eq s).symm
  have e0 := at_i s 0 h0
  unfold firstV
  rw [hlen, ← e0]
  cases hp : plainB s[0]
  · have HP : Hid (∀ w, Calls Tryz.prog 136 #[.int .u8 (s[0].toNat : Int)] w fun e w' => e = .returned (.bool false) ∧ w = w') := fun w => by have := plain_any s[0] w; rwa [hp] at this
    rw [if_neg (by simp)]
    by_cases h92 : s[0] = 92
    · have i92 : ((s[0].toNat : Int) != 92) = false := by rw [h92]; rfl
      by_cases h3 : s.size < 3
      · have i3 : (s.size : Int) < 3 := by omega
        rw [if_pos (.inr h3)]
        clear e0 h92 hp hlen
        go_enter Tryz.func166, Tryz.ntmps166
        go_wp2_with (go_at_call 136; refine (HP.out _).mono ?_; rintro e w' ⟨rfl, rfl⟩)
        go_returns
        exact ⟨rfl, 0, rfl⟩
      · have i3 : ¬ (s.size : Int) < 3 := by omega
        rw [if_neg (by simp [h92, h3])]
        have h1 : 1 < s.size := by omega
        have h2 : 2 < s.size := by omega
        have e1 := at_i s 1 h1
        have e2 := at_i s 2 h2
        rw [← e1, ← e2]
        have HX : Hid (∀ (c : UInt8) w, Calls Tryz.prog 190 #[.string ⟨#[48, 49, 50, 51, 52, 53, 54, 55, 56, 57, 97, 98, 99, 100, 101, 102]⟩, .int .u8 (c.toNat : Int)] w fun e w' => e = .returned (.int .i64 (hexI c)) ∧ w' = w) := fun c w => by
          have := Tryz.strings_IndexByte ⟨#[48, 49, 50, 51, 52, 53, 54, 55, 56, 57, 97, 98, 99, 100, 101, 102]⟩ (c.toNat : Int) w
          rw [show (⟨#[48, 49, 50, 51, 52, 53, 54, 55, 56, 57, 97, 98, 99, 100, 101, 102]⟩ : ByteArray).data.toList = [48, 49, 50, 51, 52, 53, 54, 55, 56, 57, 97, 98, 99, 100, 101, 102] from rfl, show ((c.toNat : Int)).toNat.toUInt8 = c from by simp, hex_index] at this
          exact this
        have i1 : (1 : Int) < (s.size : Int) := by omega
        have i2 : (2 : Int) < (s.size : Int) := by omega
        have hc1 := hexI_cases s[1]
        have hc2 := hexI_cases s[2]
        have HX1 := fun w => Lib.hid (HX.out s[1] w)
        have HX2 := fun w => Lib.hid (HX.out s[2] w)
        clear HX e0 e1 e2 h92 hp hlen h3
        rcases hc1 with e1 | ⟨a, ha, e1⟩
        · rw [e1] at HX1 ⊢
          rw [if_pos (.inl (by decide))]
          go_enter Tryz.func166, Tryz.ntmps166
          go_wp2_with (go_at_call 136; refine (HP.out _).mono ?_; rintro e w' ⟨rfl, rfl⟩)
          go_quiet (first
            | ((go_at_call 190; with_reducible refine Calls.quiet_of_same (HX1 _).out))
            | ((go_at_call 190; with_reducible refine Calls.quiet_of_same (HX2 _).out)))
          go_wp2
          go_returns
          exact ⟨rfl, _, rfl⟩
        · rw [e1] at HX1 ⊢
          rcases hc2 with e2 | ⟨b, hb, e2⟩
          · rw [e2] at HX2 ⊢
            rw [if_pos (.inr (by decide))]
            go_enter Tryz.func166, Tryz.ntmps166
            go_wp2_with (go_at_call 136; refine (HP.out _).mono ?_; rintro e w' ⟨rfl, rfl⟩)
            go_quiet (first
              | ((go_at_call 190; with_reducible refine Calls.quiet_of_same (HX1 _).out))
              | ((go_at_call 190; with_reducible refine Calls.quiet_of_same (HX2 _).out)))
            go_wp2
            go_returns
            exact ⟨rfl, _, rfl⟩
          · rw [e2] at HX2 ⊢
            have n1 : ¬ (a : Int) < 0 := by omega
            have n2 : ¬ (b : Int) < 0 := by omega
            rw [if_neg (by omega)]
            have hcv := hex_conv a b ha hb
            simp only [Int.toNat_natCast]
            generalize UInt8.ofNat (16 * a + b) = c at *
            clear e1 e2
            cases hpc : plainB c
            · have HPC : Hid (∀ w, Calls Tryz.prog 136 #[.int .u8 (c.toNat : Int)] w fun e w' => e = .returned (.bool false) ∧ w = w') := fun w => by have := plain_any c w; rwa [hpc] at this
              rw [if_neg (by simp)]
              go_enter Tryz.func166, Tryz.ntmps166
              go_wp2_with (go_at_call 136; refine (HP.out _).mono ?_; rintro e w' ⟨rfl, rfl⟩)
              go_quiet (first
                | ((go_at_call 190; with_reducible refine Calls.quiet_of_same (HX1 _).out))
                | ((go_at_call 190; with_reducible refine Calls.quiet_of_same (HX2 _).out)))
              go_wp2_with (first
                | (simp only [hcv])
                | (go_at_call 136; with_reducible refine (HPC.out _).mono ?_; rintro e w' ⟨rfl, rfl⟩))
              go_returns
              exact ⟨rfl, _, rfl⟩
            · have HPC : Hid (∀ w, Calls Tryz.prog 136 #[.int .u8 (c.toNat : Int)] w fun e w' => e = .returned (.bool true) ∧ w = w') := fun w => by have := plain_any c w; rwa [hpc] at this
              rw [if_pos rfl]
              go_enter Tryz.func166, Tryz.ntmps166
              go_wp2_with (go_at_call 136; refine (HP.out _).mono ?_; rintro e w' ⟨rfl, rfl⟩)
              go_quiet (first
                | ((go_at_call 190; with_reducible refine Calls.quiet_of_same (HX1 _).out))
                | ((go_at_call 190; with_reducible refine Calls.quiet_of_same (HX2 _).out)))
              go_wp2_with (first
                | (simp only [hcv])
                | (go_at_call 136; with_reducible refine (HPC.out _).mono ?_; rintro e w' ⟨rfl, rfl⟩))
              go_returns
              exact ⟨rfl, _, rfl⟩
    · have i92 : ((s[0].toNat : Int) != 92) = true := by
        rw [bne_iff_ne]
        intro hh
        have hn : s[0].toNat = 92 := by omega
        exact h92 (by rw [← UInt8.ofNat_toNat (x := s[0]), hn]; rfl)
      rw [if_pos (.inl h92)]
      clear e0 h92 hp hlen
      go_enter Tryz.func166, Tryz.ntmps166
      go_wp2_with (go_at_call 136; refine (HP.out _).mono ?_; rintro e w' ⟨rfl, rfl⟩)
      go_returns
      exact ⟨rfl, 0, rfl⟩
  · have HP : Hid (∀ w, Calls Tryz.prog 136 #[.int .u8 (s[0].toNat : Int)] w fun e w' => e = .returned (.bool true) ∧ w = w') := fun w => by have := plain_any s[0] w; rwa [hp] at this
    rw [if_pos rfl]
    clear e0 hp hlen
    go_enter Tryz.func166, Tryz.ntmps166
    go_wp2_with (go_at_call 136; refine (HP.out _).mono ?_; rintro e w' ⟨rfl, rfl⟩)
    go_returns
    exact ⟨rfl, 0, rfl⟩
end Go.Proofs.YtbgccaconhmbaaaGreatDoor
namespace Go.Proofs.YtbgccaconhmbaaaGreatDoor
open Go.RowKit
theorem cmp_less : ∀ s t : List UInt8, Lib.compareBytes s t = if Op.bytesLess s t = true then -1 else if Op.bytesLess t s = true then 1 else 0 := by
  intro s
  induction s with
  | nil => intro t; cases t <;> simp [Lib.compareBytes, Op.bytesLess]
  | cons a r ih =>
    intro t
    cases t with
    | nil => simp [Lib.compareBytes, Op.bytesLess]
    | cons b u =>
      simp only [Lib.compareBytes, Op.bytesLess, ih u]
      by_cases h1 : a < b
      · have h2 : ¬ b < a := fun h => absurd (UInt8.lt_trans h1 h) (UInt8.lt_irrefl _)
        simp [h1]
      · by_cases h2 : b < a
        · have h3 : ¬ a = b := fun h => by subst h; exact h1 h2
          simp [h1, h2, h3]
        · have h3 : a = b := UInt8.le_antisymm (UInt8.not_lt.1 h2) (UInt8.not_lt.1 h1)
          subst h3
          simp [h1]
theorem less_self : ∀ s : List UInt8, Op.bytesLess s s = false := by
  intro s
  induction s with
  | nil => rfl
  | cons a r ih => simp [Op.bytesLess, ih]
theorem less_none : ∀ s t : List UInt8, Op.bytesLess s t = false → Op.bytesLess t s = false → s = t := by
  intro s
  induction s with
  | nil => intro t h _; cases t with | nil => rfl | cons => simp [Op.bytesLess] at h
  | cons a r ih =>
    intro t h1 h2
    cases t with
    | nil => simp [Op.bytesLess] at h2
    | cons b u =>
      simp only [Op.bytesLess, Bool.or_eq_false_iff, decide_eq_false_iff_not] at h1 h2
      have e : a = b := UInt8.le_antisymm (UInt8.not_lt.1 h2.1) (UInt8.not_lt.1 h1.1)
      subst e
      simp at h1 h2
      rw [ih u h1 h2]
theorem may_kind {a : DV} (h : mayV a = true) : a.k = 0 ∨ a.k = 1 ∨ a.k = 2 := by
  unfold mayV at h
  split at h
  · rename_i h0; exact .inl h0
  · split at h
    · rename_i h1; exact .inr (.inl h1)
    · split at h
      · rename_i h2; exact .inr (.inr h2)
      · cases h
theorem vrcompare_any (a b : DV) (ha : a.wf) (hb : b.wf) (w : World) : Calls Tryz.prog 89 #[vagg a, vagg b] w fun e w' => e = .returned (.int .i64 (compV a b)) ∧ Below w.heap.size w w' := by
  have hax := ha.2.1
  have hbx := hb.2.1
  clear ha hb
  obtain ⟨ak, ax, asx⟩ := a
  obtain ⟨bk, bx, bs⟩ := b
  simp only at hax hbx
  have HW := Lib.hid (below2 w (vobj ⟨ak, ax, asx⟩) (vobj ⟨bk, bx, bs⟩))
  have HA := Lib.hid (at_two w ⟨ak, ax, asx⟩ ⟨bk, bx, bs⟩).1
  have HB := Lib.hid (at_two w ⟨ak, ax, asx⟩ ⟨bk, bx, bs⟩).2
  have HM1 := fun w => Lib.hid (rmay_any ⟨ak, ax, asx⟩ w)
  have HM2 := fun w => Lib.hid (rmay_any ⟨bk, bx, bs⟩ w)
  cases hma : mayV ⟨ak, ax, asx⟩
  · have e : compV ⟨ak, ax, asx⟩ ⟨bk, bx, bs⟩ = 0 := by unfold compV; rw [hma, if_neg (by simp)]
    rw [e]
    rw [hma] at HM1
    clear e hma
    go_enter Tryz.func89, Tryz.ntmps89
    go_wp2_with (first
      | (go_at_call 33; with_reducible refine (HM1 _).out.mono ?_; rintro e w1 ⟨rfl, hb⟩; have HA := Lib.hid (HA.out.below hb HA.out.lt); have A0 := HA.out.c0; have A1 := HA.out.c1; have A2 := HA.out.c2; dsimp only at A0 A1 A2; have HB := Lib.hid (HB.out.below hb HB.out.lt); have B0 := HB.out.c0; have B1 := HB.out.c1; have B2 := HB.out.c2; dsimp only at B0 B1 B2; have HW := Lib.hid (HW.out.trans (hb.mono HW.out.size)); clear hb)
      | (go_at_call 33; with_reducible refine (HM2 _).out.mono ?_; rintro e w1 ⟨rfl, hb⟩; have HA := Lib.hid (HA.out.below hb HA.out.lt); have A0 := HA.out.c0; have A1 := HA.out.c1; have A2 := HA.out.c2; dsimp only at A0 A1 A2; have HB := Lib.hid (HB.out.below hb HB.out.lt); have B0 := HB.out.c0; have B1 := HB.out.c1; have B2 := HB.out.c2; dsimp only at B0 B1 B2; have HW := Lib.hid (HW.out.trans (hb.mono HW.out.size)); clear hb))
    go_ret
    exact ⟨rfl, HW.out⟩
  cases hmb : mayV ⟨bk, bx, bs⟩
  · have e : compV ⟨ak, ax, asx⟩ ⟨bk, bx, bs⟩ = 0 := by unfold compV; rw [hmb, if_neg (by simp)]
    rw [e]
    rw [hma] at HM1
    rw [hmb] at HM2
    clear e hma hmb
    go_enter Tryz.func89, Tryz.ntmps89
    go_wp2_with (first
      | (go_at_call 33; with_reducible refine (HM1 _).out.mono ?_; rintro e w1 ⟨rfl, hb⟩; have HA := Lib.hid (HA.out.below hb HA.out.lt); have A0 := HA.out.c0; have A1 := HA.out.c1; have A2 := HA.out.c2; dsimp only at A0 A1 A2; have HB := Lib.hid (HB.out.below hb HB.out.lt); have B0 := HB.out.c0; have B1 := HB.out.c1; have B2 := HB.out.c2; dsimp only at B0 B1 B2; have HW := Lib.hid (HW.out.trans (hb.mono HW.out.size)); clear hb)
      | (go_at_call 33; with_reducible refine (HM2 _).out.mono ?_; rintro e w1 ⟨rfl, hb⟩; have HA := Lib.hid (HA.out.below hb HA.out.lt); have A0 := HA.out.c0; have A1 := HA.out.c1; have A2 := HA.out.c2; dsimp only at A0 A1 A2; have HB := Lib.hid (HB.out.below hb HB.out.lt); have B0 := HB.out.c0; have B1 := HB.out.c1; have B2 := HB.out.c2; dsimp only at B0 B1 B2; have HW := Lib.hid (HW.out.trans (hb.mono HW.out.size)); clear hb))
    go_ret
    exact ⟨rfl, HW.out⟩
  have e : compV ⟨ak, ax, asx⟩ ⟨bk, bx, bs⟩ = (if ak ≠ bk then Lib.compareInt ak bk else if ak = 1 then cmpN (rankN ax) (rankN bx) else if ak = 2 then Lib.compareBytes asx bs else 0) := by unfold compV; rw [if_pos ⟨hma, hmb⟩]
  have hka := may_kind hma
  have hkb := may_kind hmb
  simp only at hka hkb
  rw [e]
  rw [hma] at HM1
  rw [hmb] at HM2
  clear e hma hmb
  by_cases hk : ak = bk
  · subst hk
    rw [if_neg (by simp)]
    rcases hka with rfl | rfl | rfl
    · rw [if_neg (by decide), if_neg (by decide)]
      clear hkb
      go_enter Tryz.func89, Tryz.ntmps89
      go_wp2_with (first
        | (go_at_call 33; with_reducible refine (HM1 _).out.mono ?_; rintro e w1 ⟨rfl, hb⟩; have HA := Lib.hid (HA.out.below hb HA.out.lt); have A0 := HA.out.c0; have A1 := HA.out.c1; have A2 := HA.out.c2; dsimp only at A0 A1 A2; have HB := Lib.hid (HB.out.below hb HB.out.lt); have B0 := HB.out.c0; have B1 := HB.out.c1; have B2 := HB.out.c2; dsimp only at B0 B1 B2; have HW := Lib.hid (HW.out.trans (hb.mono HW.out.size)); clear hb)
        | (go_at_call 33; with_reducible refine (HM2 _).out.mono ?_; rintro e w1 ⟨rfl, hb⟩; have HA := Lib.hid (HA.out.below hb HA.out.lt); have A0 := HA.out.c0; have A1 := HA.out.c1; have A2 := HA.out.c2; dsimp only at A0 A1 A2; have HB := Lib.hid (HB.out.below hb HB.out.lt); have B0 := HB.out.c0; have B1 := HB.out.c1; have B2 := HB.out.c2; dsimp only at B0 B1 B2; have HW := Lib.hid (HW.out.trans (hb.mono HW.out.size)); clear hb))
      go_ret
      exact ⟨rfl, HW.out⟩
    · rw [if_pos rfl]
      have HX := fun w => Lib.hid (rcompare_any ax bx w hax hbx)
      clear hkb
      go_enter Tryz.func89, Tryz.ntmps89
      go_wp2_with (first
        | (go_at_call 33; with_reducible refine (HM1 _).out.mono ?_; rintro e w1 ⟨rfl, hb⟩; have HA := Lib.hid (HA.out.below hb HA.out.lt); have A0 := HA.out.c0; have A1 := HA.out.c1; have A2 := HA.out.c2; dsimp only at A0 A1 A2; have HB := Lib.hid (HB.out.below hb HB.out.lt); have B0 := HB.out.c0; have B1 := HB.out.c1; have B2 := HB.out.c2; dsimp only at B0 B1 B2; have HW := Lib.hid (HW.out.trans (hb.mono HW.out.size)); clear hb)
        | (go_at_call 33; with_reducible refine (HM2 _).out.mono ?_; rintro e w1 ⟨rfl, hb⟩; have HA := Lib.hid (HA.out.below hb HA.out.lt); have A0 := HA.out.c0; have A1 := HA.out.c1; have A2 := HA.out.c2; dsimp only at A0 A1 A2; have HB := Lib.hid (HB.out.below hb HB.out.lt); have B0 := HB.out.c0; have B1 := HB.out.c1; have B2 := HB.out.c2; dsimp only at B0 B1 B2; have HW := Lib.hid (HW.out.trans (hb.mono HW.out.size)); clear hb)
        | (go_at_call 119; with_reducible refine (HX _).out.mono ?_; rintro e w2 ⟨rfl, rfl⟩))
      go_ret
      exact ⟨rfl, HW.out⟩
    · rw [if_neg (by decide), if_pos rfl, cmp_less]
      clear hkb
      cases h1 : Op.bytesLess asx bs
      · cases h2 : Op.bytesLess bs asx
        · rw [if_neg (by simp), if_neg (by simp)]
          have heq : (asx == bs) = true := by rw [less_none _ _ h1 h2]; exact beq_self_eq_true _
          go_enter Tryz.func89, Tryz.ntmps89
          go_wp2_with (first
            | (go_at_call 33; with_reducible refine (HM1 _).out.mono ?_; rintro e w1 ⟨rfl, hb⟩; have HA := Lib.hid (HA.out.below hb HA.out.lt); have A0 := HA.out.c0; have A1 := HA.out.c1; have A2 := HA.out.c2; dsimp only at A0 A1 A2; have HB := Lib.hid (HB.out.below hb HB.out.lt); have B0 := HB.out.c0; have B1 := HB.out.c1; have B2 := HB.out.c2; dsimp only at B0 B1 B2; have HW := Lib.hid (HW.out.trans (hb.mono HW.out.size)); clear hb)
            | (go_at_call 33; with_reducible refine (HM2 _).out.mono ?_; rintro e w1 ⟨rfl, hb⟩; have HA := Lib.hid (HA.out.below hb HA.out.lt); have A0 := HA.out.c0; have A1 := HA.out.c1; have A2 := HA.out.c2; dsimp only at A0 A1 A2; have HB := Lib.hid (HB.out.below hb HB.out.lt); have B0 := HB.out.c0; have B1 := HB.out.c1; have B2 := HB.out.c2; dsimp only at B0 B1 B2; have HW := Lib.hid (HW.out.trans (hb.mono HW.out.size)); clear hb))
          go_ret
          exact ⟨rfl, HW.out⟩
        · rw [if_neg (by simp), if_pos rfl]
          have heq : (asx == bs) = false := by
            rw [beq_eq_false_iff_ne]
            intro e
            rw [e, less_self] at h2
            cases h2
          go_enter Tryz.func89, Tryz.ntmps89
          go_wp2_with (first
            | (go_at_call 33; with_reducible refine (HM1 _).out.mono ?_; rintro e w1 ⟨rfl, hb⟩; have HA := Lib.hid (HA.out.below hb HA.out.lt); have A0 := HA.out.c0; have A1 := HA.out.c1; have A2 := HA.out.c2; dsimp only at A0 A1 A2; have HB := Lib.hid (HB.out.below hb HB.out.lt); have B0 := HB.out.c0; have B1 := HB.out.c1; have B2 := HB.out.c2; dsimp only at B0 B1 B2; have HW := Lib.hid (HW.out.trans (hb.mono HW.out.size)); clear hb)
            | (go_at_call 33; with_reducible refine (HM2 _).out.mono ?_; rintro e w1 ⟨rfl, hb⟩; have HA := Lib.hid (HA.out.below hb HA.out.lt); have A0 := HA.out.c0; have A1 := HA.out.c1; have A2 := HA.out.c2; dsimp only at A0 A1 A2; have HB := Lib.hid (HB.out.below hb HB.out.lt); have B0 := HB.out.c0; have B1 := HB.out.c1; have B2 := HB.out.c2; dsimp only at B0 B1 B2; have HW := Lib.hid (HW.out.trans (hb.mono HW.out.size)); clear hb))
          go_ret
          exact ⟨rfl, HW.out⟩
      · rw [if_pos rfl]
        go_enter Tryz.func89, Tryz.ntmps89
        go_wp2_with (first
          | (go_at_call 33; with_reducible refine (HM1 _).out.mono ?_; rintro e w1 ⟨rfl, hb⟩; have HA := Lib.hid (HA.out.below hb HA.out.lt); have A0 := HA.out.c0; have A1 := HA.out.c1; have A2 := HA.out.c2; dsimp only at A0 A1 A2; have HB := Lib.hid (HB.out.below hb HB.out.lt); have B0 := HB.out.c0; have B1 := HB.out.c1; have B2 := HB.out.c2; dsimp only at B0 B1 B2; have HW := Lib.hid (HW.out.trans (hb.mono HW.out.size)); clear hb)
          | (go_at_call 33; with_reducible refine (HM2 _).out.mono ?_; rintro e w1 ⟨rfl, hb⟩; have HA := Lib.hid (HA.out.below hb HA.out.lt); have A0 := HA.out.c0; have A1 := HA.out.c1; have A2 := HA.out.c2; dsimp only at A0 A1 A2; have HB := Lib.hid (HB.out.below hb HB.out.lt); have B0 := HB.out.c0; have B1 := HB.out.c1; have B2 := HB.out.c2; dsimp only at B0 B1 B2; have HW := Lib.hid (HW.out.trans (hb.mono HW.out.size)); clear hb))
        go_ret
        exact ⟨rfl, HW.out⟩
  · rw [if_pos hk]
    unfold Lib.compareInt
    have z : ((ak == 0) && (bk == 0)) = false := by
      cases h : ak == 0
      · rfl
      · have e0 : ak = 0 := by simpa using h
        have : bk ≠ 0 := fun e => hk (by rw [e0, e])
        simpa using this
    by_cases hl : ak < bk
    · rw [if_pos hl]
      rcases hka with rfl | rfl | rfl <;> rcases hkb with rfl | rfl | rfl <;> first
        | (exfalso; omega)
        | skip
      all_goals clear hk z hl
      all_goals go_enter Tryz.func89, Tryz.ntmps89
      all_goals go_wp2_with (first
        | (go_at_call 33; with_reducible refine (HM1 _).out.mono ?_; rintro e w1 ⟨rfl, hb⟩; have HA := Lib.hid (HA.out.below hb HA.out.lt); have A0 := HA.out.c0; have A1 := HA.out.c1; have A2 := HA.out.c2; dsimp only at A0 A1 A2; have HB := Lib.hid (HB.out.below hb HB.out.lt); have B0 := HB.out.c0; have B1 := HB.out.c1; have B2 := HB.out.c2; dsimp only at B0 B1 B2; have HW := Lib.hid (HW.out.trans (hb.mono HW.out.size)); clear hb)
        | (go_at_call 33; with_reducible refine (HM2 _).out.mono ?_; rintro e w1 ⟨rfl, hb⟩; have HA := Lib.hid (HA.out.below hb HA.out.lt); have A0 := HA.out.c0; have A1 := HA.out.c1; have A2 := HA.out.c2; dsimp only at A0 A1 A2; have HB := Lib.hid (HB.out.below hb HB.out.lt); have B0 := HB.out.c0; have B1 := HB.out.c1; have B2 := HB.out.c2; dsimp only at B0 B1 B2; have HW := Lib.hid (HW.out.trans (hb.mono HW.out.size)); clear hb))
      all_goals go_ret
      all_goals exact ⟨rfl, HW.out⟩
    · rw [if_neg hl, if_pos (by omega)]
      rcases hka with rfl | rfl | rfl <;> rcases hkb with rfl | rfl | rfl <;> first
        | (exfalso; omega)
        | skip
      all_goals clear hk z hl
      all_goals go_enter Tryz.func89, Tryz.ntmps89
      all_goals go_wp2_with (first
        | (go_at_call 33; with_reducible refine (HM1 _).out.mono ?_; rintro e w1 ⟨rfl, hb⟩; have HA := Lib.hid (HA.out.below hb HA.out.lt); have A0 := HA.out.c0; have A1 := HA.out.c1; have A2 := HA.out.c2; dsimp only at A0 A1 A2; have HB := Lib.hid (HB.out.below hb HB.out.lt); have B0 := HB.out.c0; have B1 := HB.out.c1; have B2 := HB.out.c2; dsimp only at B0 B1 B2; have HW := Lib.hid (HW.out.trans (hb.mono HW.out.size)); clear hb)
        | (go_at_call 33; with_reducible refine (HM2 _).out.mono ?_; rintro e w1 ⟨rfl, hb⟩; have HA := Lib.hid (HA.out.below hb HA.out.lt); have A0 := HA.out.c0; have A1 := HA.out.c1; have A2 := HA.out.c2; dsimp only at A0 A1 A2; have HB := Lib.hid (HB.out.below hb HB.out.lt); have B0 := HB.out.c0; have B1 := HB.out.c1; have B2 := HB.out.c2; dsimp only at B0 B1 B2; have HW := Lib.hid (HW.out.trans (hb.mono HW.out.size)); clear hb))
      all_goals go_ret
      all_goals exact ⟨rfl, HW.out⟩
end Go.Proofs.YtbgccaconhmbaaaGreatDoor
