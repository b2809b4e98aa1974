/- Of values that may be the order turns round and goes through; the same are those of one text: racelaw3.DatumOrder answers true and leaves its arguments as they were. Conditions: the library's tables hold what their initialisers lay. -/
import Derived.Test.YtjkfcmadoeifgaaDoorSm
import Derived.Test.YtjkfcmadoeifgaaDoorFj
import Derived.Deep.RegionHeld
import Derived.Test.YtjkfcmadoeifgaaDoorCards
import Derived.Test.YtjkfcmadoeifgaaDoorTie
namespace Go.Proofs.YtjkfcmadoeifgaaDoor
open Go.ChangeShapes Go.WideShapes Go.ChangeAt Go.RowKit
theorem compV_range (a b : DV) : -1 ≤ compV a b ∧ compV a b ≤ 1 := by
  have cb : ∀ s t : List UInt8, -1 ≤ Lib.compareBytes s t ∧ Lib.compareBytes s t ≤ 1 := by
    intro s
    induction s with
    | nil => intro t; cases t <;> simp [Lib.compareBytes]
    | cons x r ih =>
      intro t
      cases t with
      | nil => simp [Lib.compareBytes]
      | cons y u =>
        simp only [Lib.compareBytes]
        split
        · omega
        · split
          · omega
          · exact ih u
  unfold compV
  split
  · split
    · unfold Lib.compareInt
      repeat' split
      all_goals omega
    · split
      · rw [cn_val]
        repeat' split
        all_goals omega
      · split
        · exact cb _ _
        · omega
  · omega
set_option maxRecDepth 100000 in
theorem order_first1 (w : World) (ak : Int) (ax : Nat) (asx : List UInt8) (bk : Int) (bx : Nat) (bs : List UInt8) (ck : Int) (cx : Nat) (cs : List UInt8) (hT : Tabs w) (h1 : 2000 < asx.length) :
    Calls Tryd.prog 5 #[vagg ⟨ak, ax, asx⟩, vagg ⟨bk, bx, bs⟩, vagg ⟨ck, cx, cs⟩] w fun e w' => e = .returned (.bool true) ∧ Below w.heap.size w w' := by
  have HW := Lib.hid (below3 w (vobj ⟨ak, ax, asx⟩) (vobj ⟨bk, bx, bs⟩) (vobj ⟨ck, cx, cs⟩))
  have HA := Lib.hid (at_three w ⟨ak, ax, asx⟩ ⟨bk, bx, bs⟩ ⟨ck, cx, cs⟩).1
  have HB := Lib.hid (at_three w ⟨ak, ax, asx⟩ ⟨bk, bx, bs⟩ ⟨ck, cx, cs⟩).2.1
  have HC := Lib.hid (at_three w ⟨ak, ax, asx⟩ ⟨bk, bx, bs⟩ ⟨ck, cx, cs⟩).2.2
  have HT := Lib.hid hT
  have HS1 := fun w => Lib.hid (small_any ⟨ak, ax, asx⟩ w)
  have HS2 := fun w => Lib.hid (small_any ⟨bk, bx, bs⟩ w)
  have HS3 := fun w => Lib.hid (small_any ⟨ck, cx, cs⟩ w)
  have HM1 := fun w => Lib.hid (may_any ⟨ak, ax, asx⟩ w)
  have HM2 := fun w => Lib.hid (may_any ⟨bk, bx, bs⟩ w)
  have HM3 := fun w => Lib.hid (may_any ⟨ck, cx, cs⟩ w)
  rw [decide_eq_false (by simp only; omega)] at HS1
  clear hT h1
  go_enter Tryd.func5, Tryd.ntmps5
  go_wp2_with (first
    | (go_at_call 8; with_reducible refine (first_ex _ (HT.out.below HW.out)).mono ?_; rintro e w1 ⟨rfl, hb⟩; have HA := Lib.hid (HA.out.below hb HA.out.lt); have A0 := HA.out.c0; have A1 := HA.out.c1; have A2 := HA.out.c2; dsimp only at A0 A1 A2; have HB := Lib.hid (HB.out.below hb HB.out.lt); have B0 := HB.out.c0; have B1 := HB.out.c1; have B2 := HB.out.c2; dsimp only at B0 B1 B2; have HC := Lib.hid (HC.out.below hb HC.out.lt); have C0 := HC.out.c0; have C1 := HC.out.c1; have C2 := HC.out.c2; dsimp only at C0 C1 C2; have HW := Lib.hid (HW.out.trans (hb.mono HW.out.size)); clear hb)
    | (go_at_call 9; with_reducible refine ((HS1 _).out).mono ?_; rintro e w1 ⟨rfl, hb⟩; have HA := Lib.hid (HA.out.below hb HA.out.lt); have A0 := HA.out.c0; have A1 := HA.out.c1; have A2 := HA.out.c2; dsimp only at A0 A1 A2; have HB := Lib.hid (HB.out.below hb HB.out.lt); have B0 := HB.out.c0; have B1 := HB.out.c1; have B2 := HB.out.c2; dsimp only at B0 B1 B2; have HC := Lib.hid (HC.out.below hb HC.out.lt); have C0 := HC.out.c0; have C1 := HC.out.c1; have C2 := HC.out.c2; dsimp only at C0 C1 C2; have HW := Lib.hid (HW.out.trans (hb.mono HW.out.size)); clear hb)
    | (go_at_call 9; with_reducible refine ((HS2 _).out).mono ?_; rintro e w1 ⟨rfl, hb⟩; have HA := Lib.hid (HA.out.below hb HA.out.lt); have A0 := HA.out.c0; have A1 := HA.out.c1; have A2 := HA.out.c2; dsimp only at A0 A1 A2; have HB := Lib.hid (HB.out.below hb HB.out.lt); have B0 := HB.out.c0; have B1 := HB.out.c1; have B2 := HB.out.c2; dsimp only at B0 B1 B2; have HC := Lib.hid (HC.out.below hb HC.out.lt); have C0 := HC.out.c0; have C1 := HC.out.c1; have C2 := HC.out.c2; dsimp only at C0 C1 C2; have HW := Lib.hid (HW.out.trans (hb.mono HW.out.size)); clear hb)
    | (go_at_call 9; with_reducible refine ((HS3 _).out).mono ?_; rintro e w1 ⟨rfl, hb⟩; have HA := Lib.hid (HA.out.below hb HA.out.lt); have A0 := HA.out.c0; have A1 := HA.out.c1; have A2 := HA.out.c2; dsimp only at A0 A1 A2; have HB := Lib.hid (HB.out.below hb HB.out.lt); have B0 := HB.out.c0; have B1 := HB.out.c1; have B2 := HB.out.c2; dsimp only at B0 B1 B2; have HC := Lib.hid (HC.out.below hb HC.out.lt); have C0 := HC.out.c0; have C1 := HC.out.c1; have C2 := HC.out.c2; dsimp only at C0 C1 C2; have HW := Lib.hid (HW.out.trans (hb.mono HW.out.size)); clear hb)
    | (go_at_call 17; with_reducible refine ((HM1 _).out).mono ?_; rintro e w1 ⟨rfl, hb⟩; have HA := Lib.hid (HA.out.below hb HA.out.lt); have A0 := HA.out.c0; have A1 := HA.out.c1; have A2 := HA.out.c2; dsimp only at A0 A1 A2; have HB := Lib.hid (HB.out.below hb HB.out.lt); have B0 := HB.out.c0; have B1 := HB.out.c1; have B2 := HB.out.c2; dsimp only at B0 B1 B2; have HC := Lib.hid (HC.out.below hb HC.out.lt); have C0 := HC.out.c0; have C1 := HC.out.c1; have C2 := HC.out.c2; dsimp only at C0 C1 C2; have HW := Lib.hid (HW.out.trans (hb.mono HW.out.size)); clear hb)
    | (go_at_call 17; with_reducible refine ((HM2 _).out).mono ?_; rintro e w1 ⟨rfl, hb⟩; have HA := Lib.hid (HA.out.below hb HA.out.lt); have A0 := HA.out.c0; have A1 := HA.out.c1; have A2 := HA.out.c2; dsimp only at A0 A1 A2; have HB := Lib.hid (HB.out.below hb HB.out.lt); have B0 := HB.out.c0; have B1 := HB.out.c1; have B2 := HB.out.c2; dsimp only at B0 B1 B2; have HC := Lib.hid (HC.out.below hb HC.out.lt); have C0 := HC.out.c0; have C1 := HC.out.c1; have C2 := HC.out.c2; dsimp only at C0 C1 C2; have HW := Lib.hid (HW.out.trans (hb.mono HW.out.size)); clear hb)
    | (go_at_call 17; with_reducible refine ((HM3 _).out).mono ?_; rintro e w1 ⟨rfl, hb⟩; have HA := Lib.hid (HA.out.below hb HA.out.lt); have A0 := HA.out.c0; have A1 := HA.out.c1; have A2 := HA.out.c2; dsimp only at A0 A1 A2; have HB := Lib.hid (HB.out.below hb HB.out.lt); have B0 := HB.out.c0; have B1 := HB.out.c1; have B2 := HB.out.c2; dsimp only at B0 B1 B2; have HC := Lib.hid (HC.out.below hb HC.out.lt); have C0 := HC.out.c0; have C1 := HC.out.c1; have C2 := HC.out.c2; dsimp only at C0 C1 C2; have HW := Lib.hid (HW.out.trans (hb.mono HW.out.size)); clear hb))
  go_ret
  exact ⟨rfl, HW.out⟩
set_option maxRecDepth 100000 in
theorem order_first2 (w : World) (ak : Int) (ax : Nat) (asx : List UInt8) (bk : Int) (bx : Nat) (bs : List UInt8) (ck : Int) (cx : Nat) (cs : List UInt8) (hT : Tabs w) (h1 : asx.length ≤ 2000) (h2 : 2000 < bs.length) :
    Calls Tryd.prog 5 #[vagg ⟨ak, ax, asx⟩, vagg ⟨bk, bx, bs⟩, vagg ⟨ck, cx, cs⟩] w fun e w' => e = .returned (.bool true) ∧ Below w.heap.size w w' := by
  have HW := Lib.hid (below3 w (vobj ⟨ak, ax, asx⟩) (vobj ⟨bk, bx, bs⟩) (vobj ⟨ck, cx, cs⟩))
  have HA := Lib.hid (at_three w ⟨ak, ax, asx⟩ ⟨bk, bx, bs⟩ ⟨ck, cx, cs⟩).1
  have HB := Lib.hid (at_three w ⟨ak, ax, asx⟩ ⟨bk, bx, bs⟩ ⟨ck, cx, cs⟩).2.1
  have HC := Lib.hid (at_three w ⟨ak, ax, asx⟩ ⟨bk, bx, bs⟩ ⟨ck, cx, cs⟩).2.2
  have HT := Lib.hid hT
  have HS1 := fun w => Lib.hid (small_any ⟨ak, ax, asx⟩ w)
  have HS2 := fun w => Lib.hid (small_any ⟨bk, bx, bs⟩ w)
  have HS3 := fun w => Lib.hid (small_any ⟨ck, cx, cs⟩ w)
  have HM1 := fun w => Lib.hid (may_any ⟨ak, ax, asx⟩ w)
  have HM2 := fun w => Lib.hid (may_any ⟨bk, bx, bs⟩ w)
  have HM3 := fun w => Lib.hid (may_any ⟨ck, cx, cs⟩ w)
  rw [decide_eq_true (by simp only; omega)] at HS1
  rw [decide_eq_false (by simp only; omega)] at HS2
  clear hT h1 h2
  go_enter Tryd.func5, Tryd.ntmps5
  go_wp2_with (first
    | (go_at_call 8; with_reducible refine (first_ex _ (HT.out.below HW.out)).mono ?_; rintro e w1 ⟨rfl, hb⟩; have HA := Lib.hid (HA.out.below hb HA.out.lt); have A0 := HA.out.c0; have A1 := HA.out.c1; have A2 := HA.out.c2; dsimp only at A0 A1 A2; have HB := Lib.hid (HB.out.below hb HB.out.lt); have B0 := HB.out.c0; have B1 := HB.out.c1; have B2 := HB.out.c2; dsimp only at B0 B1 B2; have HC := Lib.hid (HC.out.below hb HC.out.lt); have C0 := HC.out.c0; have C1 := HC.out.c1; have C2 := HC.out.c2; dsimp only at C0 C1 C2; have HW := Lib.hid (HW.out.trans (hb.mono HW.out.size)); clear hb)
    | (go_at_call 9; with_reducible refine ((HS1 _).out).mono ?_; rintro e w1 ⟨rfl, hb⟩; have HA := Lib.hid (HA.out.below hb HA.out.lt); have A0 := HA.out.c0; have A1 := HA.out.c1; have A2 := HA.out.c2; dsimp only at A0 A1 A2; have HB := Lib.hid (HB.out.below hb HB.out.lt); have B0 := HB.out.c0; have B1 := HB.out.c1; have B2 := HB.out.c2; dsimp only at B0 B1 B2; have HC := Lib.hid (HC.out.below hb HC.out.lt); have C0 := HC.out.c0; have C1 := HC.out.c1; have C2 := HC.out.c2; dsimp only at C0 C1 C2; have HW := Lib.hid (HW.out.trans (hb.mono HW.out.size)); clear hb)
    | (go_at_call 9; with_reducible refine ((HS2 _).out).mono ?_; rintro e w1 ⟨rfl, hb⟩; have HA := Lib.hid (HA.out.below hb HA.out.lt); have A0 := HA.out.c0; have A1 := HA.out.c1; have A2 := HA.out.c2; dsimp only at A0 A1 A2; have HB := Lib.hid (HB.out.below hb HB.out.lt); have B0 := HB.out.c0; have B1 := HB.out.c1; have B2 := HB.out.c2; dsimp only at B0 B1 B2; have HC := Lib.hid (HC.out.below hb HC.out.lt); have C0 := HC.out.c0; have C1 := HC.out.c1; have C2 := HC.out.c2; dsimp only at C0 C1 C2; have HW := Lib.hid (HW.out.trans (hb.mono HW.out.size)); clear hb)
    | (go_at_call 9; with_reducible refine ((HS3 _).out).mono ?_; rintro e w1 ⟨rfl, hb⟩; have HA := Lib.hid (HA.out.below hb HA.out.lt); have A0 := HA.out.c0; have A1 := HA.out.c1; have A2 := HA.out.c2; dsimp only at A0 A1 A2; have HB := Lib.hid (HB.out.below hb HB.out.lt); have B0 := HB.out.c0; have B1 := HB.out.c1; have B2 := HB.out.c2; dsimp only at B0 B1 B2; have HC := Lib.hid (HC.out.below hb HC.out.lt); have C0 := HC.out.c0; have C1 := HC.out.c1; have C2 := HC.out.c2; dsimp only at C0 C1 C2; have HW := Lib.hid (HW.out.trans (hb.mono HW.out.size)); clear hb)
    | (go_at_call 17; with_reducible refine ((HM1 _).out).mono ?_; rintro e w1 ⟨rfl, hb⟩; have HA := Lib.hid (HA.out.below hb HA.out.lt); have A0 := HA.out.c0; have A1 := HA.out.c1; have A2 := HA.out.c2; dsimp only at A0 A1 A2; have HB := Lib.hid (HB.out.below hb HB.out.lt); have B0 := HB.out.c0; have B1 := HB.out.c1; have B2 := HB.out.c2; dsimp only at B0 B1 B2; have HC := Lib.hid (HC.out.below hb HC.out.lt); have C0 := HC.out.c0; have C1 := HC.out.c1; have C2 := HC.out.c2; dsimp only at C0 C1 C2; have HW := Lib.hid (HW.out.trans (hb.mono HW.out.size)); clear hb)
    | (go_at_call 17; with_reducible refine ((HM2 _).out).mono ?_; rintro e w1 ⟨rfl, hb⟩; have HA := Lib.hid (HA.out.below hb HA.out.lt); have A0 := HA.out.c0; have A1 := HA.out.c1; have A2 := HA.out.c2; dsimp only at A0 A1 A2; have HB := Lib.hid (HB.out.below hb HB.out.lt); have B0 := HB.out.c0; have B1 := HB.out.c1; have B2 := HB.out.c2; dsimp only at B0 B1 B2; have HC := Lib.hid (HC.out.below hb HC.out.lt); have C0 := HC.out.c0; have C1 := HC.out.c1; have C2 := HC.out.c2; dsimp only at C0 C1 C2; have HW := Lib.hid (HW.out.trans (hb.mono HW.out.size)); clear hb)
    | (go_at_call 17; with_reducible refine ((HM3 _).out).mono ?_; rintro e w1 ⟨rfl, hb⟩; have HA := Lib.hid (HA.out.below hb HA.out.lt); have A0 := HA.out.c0; have A1 := HA.out.c1; have A2 := HA.out.c2; dsimp only at A0 A1 A2; have HB := Lib.hid (HB.out.below hb HB.out.lt); have B0 := HB.out.c0; have B1 := HB.out.c1; have B2 := HB.out.c2; dsimp only at B0 B1 B2; have HC := Lib.hid (HC.out.below hb HC.out.lt); have C0 := HC.out.c0; have C1 := HC.out.c1; have C2 := HC.out.c2; dsimp only at C0 C1 C2; have HW := Lib.hid (HW.out.trans (hb.mono HW.out.size)); clear hb))
  go_ret
  exact ⟨rfl, HW.out⟩
set_option maxRecDepth 100000 in
theorem order_first3 (w : World) (ak : Int) (ax : Nat) (asx : List UInt8) (bk : Int) (bx : Nat) (bs : List UInt8) (ck : Int) (cx : Nat) (cs : List UInt8) (hT : Tabs w) (h1 : asx.length ≤ 2000) (h2 : bs.length ≤ 2000) (h3 : 2000 < cs.length) :
    Calls Tryd.prog 5 #[vagg ⟨ak, ax, asx⟩, vagg ⟨bk, bx, bs⟩, vagg ⟨ck, cx, cs⟩] w fun e w' => e = .returned (.bool true) ∧ Below w.heap.size w w' := by
  have HW := Lib.hid (below3 w (vobj ⟨ak, ax, asx⟩) (vobj ⟨bk, bx, bs⟩) (vobj ⟨ck, cx, cs⟩))
  have HA := Lib.hid (at_three w ⟨ak, ax, asx⟩ ⟨bk, bx, bs⟩ ⟨ck, cx, cs⟩).1
  have HB := Lib.hid (at_three w ⟨ak, ax, asx⟩ ⟨bk, bx, bs⟩ ⟨ck, cx, cs⟩).2.1
  have HC := Lib.hid (at_three w ⟨ak, ax, asx⟩ ⟨bk, bx, bs⟩ ⟨ck, cx, cs⟩).2.2
  have HT := Lib.hid hT
  have HS1 := fun w => Lib.hid (small_any ⟨ak, ax, asx⟩ w)
  have HS2 := fun w => Lib.hid (small_any ⟨bk, bx, bs⟩ w)
  have HS3 := fun w => Lib.hid (small_any ⟨ck, cx, cs⟩ w)
  have HM1 := fun w => Lib.hid (may_any ⟨ak, ax, asx⟩ w)
  have HM2 := fun w => Lib.hid (may_any ⟨bk, bx, bs⟩ w)
  have HM3 := fun w => Lib.hid (may_any ⟨ck, cx, cs⟩ w)
  rw [decide_eq_true (by simp only; omega)] at HS1
  rw [decide_eq_true (by simp only; omega)] at HS2
  rw [decide_eq_false (by simp only; omega)] at HS3
  clear hT h1 h2 h3
  go_enter Tryd.func5, Tryd.ntmps5
  go_wp2_with (first
    | (go_at_call 8; with_reducible refine (first_ex _ (HT.out.below HW.out)).mono ?_; rintro e w1 ⟨rfl, hb⟩; have HA := Lib.hid (HA.out.below hb HA.out.lt); have A0 := HA.out.c0; have A1 := HA.out.c1; have A2 := HA.out.c2; dsimp only at A0 A1 A2; have HB := Lib.hid (HB.out.below hb HB.out.lt); have B0 := HB.out.c0; have B1 := HB.out.c1; have B2 := HB.out.c2; dsimp only at B0 B1 B2; have HC := Lib.hid (HC.out.below hb HC.out.lt); have C0 := HC.out.c0; have C1 := HC.out.c1; have C2 := HC.out.c2; dsimp only at C0 C1 C2; have HW := Lib.hid (HW.out.trans (hb.mono HW.out.size)); clear hb)
    | (go_at_call 9; with_reducible refine ((HS1 _).out).mono ?_; rintro e w1 ⟨rfl, hb⟩; have HA := Lib.hid (HA.out.below hb HA.out.lt); have A0 := HA.out.c0; have A1 := HA.out.c1; have A2 := HA.out.c2; dsimp only at A0 A1 A2; have HB := Lib.hid (HB.out.below hb HB.out.lt); have B0 := HB.out.c0; have B1 := HB.out.c1; have B2 := HB.out.c2; dsimp only at B0 B1 B2; have HC := Lib.hid (HC.out.below hb HC.out.lt); have C0 := HC.out.c0; have C1 := HC.out.c1; have C2 := HC.out.c2; dsimp only at C0 C1 C2; have HW := Lib.hid (HW.out.trans (hb.mono HW.out.size)); clear hb)
    | (go_at_call 9; with_reducible refine ((HS2 _).out).mono ?_; rintro e w1 ⟨rfl, hb⟩; have HA := Lib.hid (HA.out.below hb HA.out.lt); have A0 := HA.out.c0; have A1 := HA.out.c1; have A2 := HA.out.c2; dsimp only at A0 A1 A2; have HB := Lib.hid (HB.out.below hb HB.out.lt); have B0 := HB.out.c0; have B1 := HB.out.c1; have B2 := HB.out.c2; dsimp only at B0 B1 B2; have HC := Lib.hid (HC.out.below hb HC.out.lt); have C0 := HC.out.c0; have C1 := HC.out.c1; have C2 := HC.out.c2; dsimp only at C0 C1 C2; have HW := Lib.hid (HW.out.trans (hb.mono HW.out.size)); clear hb)
    | (go_at_call 9; with_reducible refine ((HS3 _).out).mono ?_; rintro e w1 ⟨rfl, hb⟩; have HA := Lib.hid (HA.out.below hb HA.out.lt); have A0 := HA.out.c0; have A1 := HA.out.c1; have A2 := HA.out.c2; dsimp only at A0 A1 A2; have HB := Lib.hid (HB.out.below hb HB.out.lt); have B0 := HB.out.c0; have B1 := HB.out.c1; have B2 := HB.out.c2; dsimp only at B0 B1 B2; have HC := Lib.hid (HC.out.below hb HC.out.lt); have C0 := HC.out.c0; have C1 := HC.out.c1; have C2 := HC.out.c2; dsimp only at C0 C1 C2; have HW := Lib.hid (HW.out.trans (hb.mono HW.out.size)); clear hb)
    | (go_at_call 17; with_reducible refine ((HM1 _).out).mono ?_; rintro e w1 ⟨rfl, hb⟩; have HA := Lib.hid (HA.out.below hb HA.out.lt); have A0 := HA.out.c0; have A1 := HA.out.c1; have A2 := HA.out.c2; dsimp only at A0 A1 A2; have HB := Lib.hid (HB.out.below hb HB.out.lt); have B0 := HB.out.c0; have B1 := HB.out.c1; have B2 := HB.out.c2; dsimp only at B0 B1 B2; have HC := Lib.hid (HC.out.below hb HC.out.lt); have C0 := HC.out.c0; have C1 := HC.out.c1; have C2 := HC.out.c2; dsimp only at C0 C1 C2; have HW := Lib.hid (HW.out.trans (hb.mono HW.out.size)); clear hb)
    | (go_at_call 17; with_reducible refine ((HM2 _).out).mono ?_; rintro e w1 ⟨rfl, hb⟩; have HA := Lib.hid (HA.out.below hb HA.out.lt); have A0 := HA.out.c0; have A1 := HA.out.c1; have A2 := HA.out.c2; dsimp only at A0 A1 A2; have HB := Lib.hid (HB.out.below hb HB.out.lt); have B0 := HB.out.c0; have B1 := HB.out.c1; have B2 := HB.out.c2; dsimp only at B0 B1 B2; have HC := Lib.hid (HC.out.below hb HC.out.lt); have C0 := HC.out.c0; have C1 := HC.out.c1; have C2 := HC.out.c2; dsimp only at C0 C1 C2; have HW := Lib.hid (HW.out.trans (hb.mono HW.out.size)); clear hb)
    | (go_at_call 17; with_reducible refine ((HM3 _).out).mono ?_; rintro e w1 ⟨rfl, hb⟩; have HA := Lib.hid (HA.out.below hb HA.out.lt); have A0 := HA.out.c0; have A1 := HA.out.c1; have A2 := HA.out.c2; dsimp only at A0 A1 A2; have HB := Lib.hid (HB.out.below hb HB.out.lt); have B0 := HB.out.c0; have B1 := HB.out.c1; have B2 := HB.out.c2; dsimp only at B0 B1 B2; have HC := Lib.hid (HC.out.below hb HC.out.lt); have C0 := HC.out.c0; have C1 := HC.out.c1; have C2 := HC.out.c2; dsimp only at C0 C1 C2; have HW := Lib.hid (HW.out.trans (hb.mono HW.out.size)); clear hb))
  go_ret
  exact ⟨rfl, HW.out⟩
set_option maxRecDepth 100000 in
theorem order_first4 (w : World) (ak : Int) (ax : Nat) (asx : List UInt8) (bk : Int) (bx : Nat) (bs : List UInt8) (ck : Int) (cx : Nat) (cs : List UInt8) (hT : Tabs w) (h1 : asx.length ≤ 2000) (h2 : bs.length ≤ 2000) (h3 : cs.length ≤ 2000) (m1 : mayV ⟨ak, ax, asx⟩ = false) :
    Calls Tryd.prog 5 #[vagg ⟨ak, ax, asx⟩, vagg ⟨bk, bx, bs⟩, vagg ⟨ck, cx, cs⟩] w fun e w' => e = .returned (.bool true) ∧ Below w.heap.size w w' := by
  have HW := Lib.hid (below3 w (vobj ⟨ak, ax, asx⟩) (vobj ⟨bk, bx, bs⟩) (vobj ⟨ck, cx, cs⟩))
  have HA := Lib.hid (at_three w ⟨ak, ax, asx⟩ ⟨bk, bx, bs⟩ ⟨ck, cx, cs⟩).1
  have HB := Lib.hid (at_three w ⟨ak, ax, asx⟩ ⟨bk, bx, bs⟩ ⟨ck, cx, cs⟩).2.1
  have HC := Lib.hid (at_three w ⟨ak, ax, asx⟩ ⟨bk, bx, bs⟩ ⟨ck, cx, cs⟩).2.2
  have HT := Lib.hid hT
  have HS1 := fun w => Lib.hid (small_any ⟨ak, ax, asx⟩ w)
  have HS2 := fun w => Lib.hid (small_any ⟨bk, bx, bs⟩ w)
  have HS3 := fun w => Lib.hid (small_any ⟨ck, cx, cs⟩ w)
  have HM1 := fun w => Lib.hid (may_any ⟨ak, ax, asx⟩ w)
  have HM2 := fun w => Lib.hid (may_any ⟨bk, bx, bs⟩ w)
  have HM3 := fun w => Lib.hid (may_any ⟨ck, cx, cs⟩ w)
  rw [decide_eq_true (by simp only; omega)] at HS1
  rw [decide_eq_true (by simp only; omega)] at HS2
  rw [decide_eq_true (by simp only; omega)] at HS3
  rw [m1] at HM1
  clear hT h1 h2 h3 m1
  go_enter Tryd.func5, Tryd.ntmps5
  go_wp2_with (first
    | (go_at_call 8; with_reducible refine (first_ex _ (HT.out.below HW.out)).mono ?_; rintro e w1 ⟨rfl, hb⟩; have HA := Lib.hid (HA.out.below hb HA.out.lt); have A0 := HA.out.c0; have A1 := HA.out.c1; have A2 := HA.out.c2; dsimp only at A0 A1 A2; have HB := Lib.hid (HB.out.below hb HB.out.lt); have B0 := HB.out.c0; have B1 := HB.out.c1; have B2 := HB.out.c2; dsimp only at B0 B1 B2; have HC := Lib.hid (HC.out.below hb HC.out.lt); have C0 := HC.out.c0; have C1 := HC.out.c1; have C2 := HC.out.c2; dsimp only at C0 C1 C2; have HW := Lib.hid (HW.out.trans (hb.mono HW.out.size)); clear hb)
    | (go_at_call 9; with_reducible refine ((HS1 _).out).mono ?_; rintro e w1 ⟨rfl, hb⟩; have HA := Lib.hid (HA.out.below hb HA.out.lt); have A0 := HA.out.c0; have A1 := HA.out.c1; have A2 := HA.out.c2; dsimp only at A0 A1 A2; have HB := Lib.hid (HB.out.below hb HB.out.lt); have B0 := HB.out.c0; have B1 := HB.out.c1; have B2 := HB.out.c2; dsimp only at B0 B1 B2; have HC := Lib.hid (HC.out.below hb HC.out.lt); have C0 := HC.out.c0; have C1 := HC.out.c1; have C2 := HC.out.c2; dsimp only at C0 C1 C2; have HW := Lib.hid (HW.out.trans (hb.mono HW.out.size)); clear hb)
    | (go_at_call 9; with_reducible refine ((HS2 _).out).mono ?_; rintro e w1 ⟨rfl, hb⟩; have HA := Lib.hid (HA.out.below hb HA.out.lt); have A0 := HA.out.c0; have A1 := HA.out.c1; have A2 := HA.out.c2; dsimp only at A0 A1 A2; have HB := Lib.hid (HB.out.below hb HB.out.lt); have B0 := HB.out.c0; have B1 := HB.out.c1; have B2 := HB.out.c2; dsimp only at B0 B1 B2; have HC := Lib.hid (HC.out.below hb HC.out.lt); have C0 := HC.out.c0; have C1 := HC.out.c1; have C2 := HC.out.c2; dsimp only at C0 C1 C2; have HW := Lib.hid (HW.out.trans (hb.mono HW.out.size)); clear hb)
    | (go_at_call 9; with_reducible refine ((HS3 _).out).mono ?_; rintro e w1 ⟨rfl, hb⟩; have HA := Lib.hid (HA.out.below hb HA.out.lt); have A0 := HA.out.c0; have A1 := HA.out.c1; have A2 := HA.out.c2; dsimp only at A0 A1 A2; have HB := Lib.hid (HB.out.below hb HB.out.lt); have B0 := HB.out.c0; have B1 := HB.out.c1; have B2 := HB.out.c2; dsimp only at B0 B1 B2; have HC := Lib.hid (HC.out.below hb HC.out.lt); have C0 := HC.out.c0; have C1 := HC.out.c1; have C2 := HC.out.c2; dsimp only at C0 C1 C2; have HW := Lib.hid (HW.out.trans (hb.mono HW.out.size)); clear hb)
    | (go_at_call 17; with_reducible refine ((HM1 _).out).mono ?_; rintro e w1 ⟨rfl, hb⟩; have HA := Lib.hid (HA.out.below hb HA.out.lt); have A0 := HA.out.c0; have A1 := HA.out.c1; have A2 := HA.out.c2; dsimp only at A0 A1 A2; have HB := Lib.hid (HB.out.below hb HB.out.lt); have B0 := HB.out.c0; have B1 := HB.out.c1; have B2 := HB.out.c2; dsimp only at B0 B1 B2; have HC := Lib.hid (HC.out.below hb HC.out.lt); have C0 := HC.out.c0; have C1 := HC.out.c1; have C2 := HC.out.c2; dsimp only at C0 C1 C2; have HW := Lib.hid (HW.out.trans (hb.mono HW.out.size)); clear hb)
    | (go_at_call 17; with_reducible refine ((HM2 _).out).mono ?_; rintro e w1 ⟨rfl, hb⟩; have HA := Lib.hid (HA.out.below hb HA.out.lt); have A0 := HA.out.c0; have A1 := HA.out.c1; have A2 := HA.out.c2; dsimp only at A0 A1 A2; have HB := Lib.hid (HB.out.below hb HB.out.lt); have B0 := HB.out.c0; have B1 := HB.out.c1; have B2 := HB.out.c2; dsimp only at B0 B1 B2; have HC := Lib.hid (HC.out.below hb HC.out.lt); have C0 := HC.out.c0; have C1 := HC.out.c1; have C2 := HC.out.c2; dsimp only at C0 C1 C2; have HW := Lib.hid (HW.out.trans (hb.mono HW.out.size)); clear hb)
    | (go_at_call 17; with_reducible refine ((HM3 _).out).mono ?_; rintro e w1 ⟨rfl, hb⟩; have HA := Lib.hid (HA.out.below hb HA.out.lt); have A0 := HA.out.c0; have A1 := HA.out.c1; have A2 := HA.out.c2; dsimp only at A0 A1 A2; have HB := Lib.hid (HB.out.below hb HB.out.lt); have B0 := HB.out.c0; have B1 := HB.out.c1; have B2 := HB.out.c2; dsimp only at B0 B1 B2; have HC := Lib.hid (HC.out.below hb HC.out.lt); have C0 := HC.out.c0; have C1 := HC.out.c1; have C2 := HC.out.c2; dsimp only at C0 C1 C2; have HW := Lib.hid (HW.out.trans (hb.mono HW.out.size)); clear hb))
  go_ret
  exact ⟨rfl, HW.out⟩
set_option maxRecDepth 100000 in
theorem order_first5 (w : World) (ak : Int) (ax : Nat) (asx : List UInt8) (bk : Int) (bx : Nat) (bs : List UInt8) (ck : Int) (cx : Nat) (cs : List UInt8) (hT : Tabs w) (h1 : asx.length ≤ 2000) (h2 : bs.length ≤ 2000) (h3 : cs.length ≤ 2000) (m1 : mayV ⟨ak, ax, asx⟩ = true) (m2 : mayV ⟨bk, bx, bs⟩ = false) :
    Calls Tryd.prog 5 #[vagg ⟨ak, ax, asx⟩, vagg ⟨bk, bx, bs⟩, vagg ⟨ck, cx, cs⟩] w fun e w' => e = .returned (.bool true) ∧ Below w.heap.size w w' := by
  have HW := Lib.hid (below3 w (vobj ⟨ak, ax, asx⟩) (vobj ⟨bk, bx, bs⟩) (vobj ⟨ck, cx, cs⟩))
  have HA := Lib.hid (at_three w ⟨ak, ax, asx⟩ ⟨bk, bx, bs⟩ ⟨ck, cx, cs⟩).1
  have HB := Lib.hid (at_three w ⟨ak, ax, asx⟩ ⟨bk, bx, bs⟩ ⟨ck, cx, cs⟩).2.1
  have HC := Lib.hid (at_three w ⟨ak, ax, asx⟩ ⟨bk, bx, bs⟩ ⟨ck, cx, cs⟩).2.2
  have HT := Lib.hid hT
  have HS1 := fun w => Lib.hid (small_any ⟨ak, ax, asx⟩ w)
  have HS2 := fun w => Lib.hid (small_any ⟨bk, bx, bs⟩ w)
  have HS3 := fun w => Lib.hid (small_any ⟨ck, cx, cs⟩ w)
  have HM1 := fun w => Lib.hid (may_any ⟨ak, ax, asx⟩ w)
  have HM2 := fun w => Lib.hid (may_any ⟨bk, bx, bs⟩ w)
  have HM3 := fun w => Lib.hid (may_any ⟨ck, cx, cs⟩ w)
  rw [decide_eq_true (by simp only; omega)] at HS1
  rw [decide_eq_true (by simp only; omega)] at HS2
  rw [decide_eq_true (by simp only; omega)] at HS3
  rw [m1] at HM1
  rw [m2] at HM2
  clear hT h1 h2 h3 m1 m2
  go_enter Tryd.func5, Tryd.ntmps5
  go_wp2_with (first
    | (go_at_call 8; with_reducible refine (first_ex _ (HT.out.below HW.out)).mono ?_; rintro e w1 ⟨rfl, hb⟩; have HA := Lib.hid (HA.out.below hb HA.out.lt); have A0 := HA.out.c0; have A1 := HA.out.c1; have A2 := HA.out.c2; dsimp only at A0 A1 A2; have HB := Lib.hid (HB.out.below hb HB.out.lt); have B0 := HB.out.c0; have B1 := HB.out.c1; have B2 := HB.out.c2; dsimp only at B0 B1 B2; have HC := Lib.hid (HC.out.below hb HC.out.lt); have C0 := HC.out.c0; have C1 := HC.out.c1; have C2 := HC.out.c2; dsimp only at C0 C1 C2; have HW := Lib.hid (HW.out.trans (hb.mono HW.out.size)); clear hb)
    | (go_at_call 9; with_reducible refine ((HS1 _).out).mono ?_; rintro e w1 ⟨rfl, hb⟩; have HA := Lib.hid (HA.out.below hb HA.out.lt); have A0 := HA.out.c0; have A1 := HA.out.c1; have A2 := HA.out.c2; dsimp only at A0 A1 A2; have HB := Lib.hid (HB.out.below hb HB.out.lt); have B0 := HB.out.c0; have B1 := HB.out.c1; have B2 := HB.out.c2; dsimp only at B0 B1 B2; have HC := Lib.hid (HC.out.below hb HC.out.lt); have C0 := HC.out.c0; have C1 := HC.out.c1; have C2 := HC.out.c2; dsimp only at C0 C1 C2; have HW := Lib.hid (HW.out.trans (hb.mono HW.out.size)); clear hb)
    | (go_at_call 9; with_reducible refine ((HS2 _).out).mono ?_; rintro e w1 ⟨rfl, hb⟩; have HA := Lib.hid (HA.out.below hb HA.out.lt); have A0 := HA.out.c0; have A1 := HA.out.c1; have A2 := HA.out.c2; dsimp only at A0 A1 A2; have HB := Lib.hid (HB.out.below hb HB.out.lt); have B0 := HB.out.c0; have B1 := HB.out.c1; have B2 := HB.out.c2; dsimp only at B0 B1 B2; have HC := Lib.hid (HC.out.below hb HC.out.lt); have C0 := HC.out.c0; have C1 := HC.out.c1; have C2 := HC.out.c2; dsimp only at C0 C1 C2; have HW := Lib.hid (HW.out.trans (hb.mono HW.out.size)); clear hb)
    | (go_at_call 9; with_reducible refine ((HS3 _).out).mono ?_; rintro e w1 ⟨rfl, hb⟩; have HA := Lib.hid (HA.out.below hb HA.out.lt); have A0 := HA.out.c0; have A1 := HA.out.c1; have A2 := HA.out.c2; dsimp only at A0 A1 A2; have HB := Lib.hid (HB.out.below hb HB.out.lt); have B0 := HB.out.c0; have B1 := HB.out.c1; have B2 := HB.out.c2; dsimp only at B0 B1 B2; have HC := Lib.hid (HC.out.below hb HC.out.lt); have C0 := HC.out.c0; have C1 := HC.out.c1; have C2 := HC.out.c2; dsimp only at C0 C1 C2; have HW := Lib.hid (HW.out.trans (hb.mono HW.out.size)); clear hb)
    | (go_at_call 17; with_reducible refine ((HM1 _).out).mono ?_; rintro e w1 ⟨rfl, hb⟩; have HA := Lib.hid (HA.out.below hb HA.out.lt); have A0 := HA.out.c0; have A1 := HA.out.c1; have A2 := HA.out.c2; dsimp only at A0 A1 A2; have HB := Lib.hid (HB.out.below hb HB.out.lt); have B0 := HB.out.c0; have B1 := HB.out.c1; have B2 := HB.out.c2; dsimp only at B0 B1 B2; have HC := Lib.hid (HC.out.below hb HC.out.lt); have C0 := HC.out.c0; have C1 := HC.out.c1; have C2 := HC.out.c2; dsimp only at C0 C1 C2; have HW := Lib.hid (HW.out.trans (hb.mono HW.out.size)); clear hb)
    | (go_at_call 17; with_reducible refine ((HM2 _).out).mono ?_; rintro e w1 ⟨rfl, hb⟩; have HA := Lib.hid (HA.out.below hb HA.out.lt); have A0 := HA.out.c0; have A1 := HA.out.c1; have A2 := HA.out.c2; dsimp only at A0 A1 A2; have HB := Lib.hid (HB.out.below hb HB.out.lt); have B0 := HB.out.c0; have B1 := HB.out.c1; have B2 := HB.out.c2; dsimp only at B0 B1 B2; have HC := Lib.hid (HC.out.below hb HC.out.lt); have C0 := HC.out.c0; have C1 := HC.out.c1; have C2 := HC.out.c2; dsimp only at C0 C1 C2; have HW := Lib.hid (HW.out.trans (hb.mono HW.out.size)); clear hb)
    | (go_at_call 17; with_reducible refine ((HM3 _).out).mono ?_; rintro e w1 ⟨rfl, hb⟩; have HA := Lib.hid (HA.out.below hb HA.out.lt); have A0 := HA.out.c0; have A1 := HA.out.c1; have A2 := HA.out.c2; dsimp only at A0 A1 A2; have HB := Lib.hid (HB.out.below hb HB.out.lt); have B0 := HB.out.c0; have B1 := HB.out.c1; have B2 := HB.out.c2; dsimp only at B0 B1 B2; have HC := Lib.hid (HC.out.below hb HC.out.lt); have C0 := HC.out.c0; have C1 := HC.out.c1; have C2 := HC.out.c2; dsimp only at C0 C1 C2; have HW := Lib.hid (HW.out.trans (hb.mono HW.out.size)); clear hb))
  go_ret
  exact ⟨rfl, HW.out⟩
set_option maxRecDepth 100000 in
theorem order_first6 (w : World) (ak : Int) (ax : Nat) (asx : List UInt8) (bk : Int) (bx : Nat) (bs : List UInt8) (ck : Int) (cx : Nat) (cs : List UInt8) (hT : Tabs w) (h1 : asx.length ≤ 2000) (h2 : bs.length ≤ 2000) (h3 : cs.length ≤ 2000) (m1 : mayV ⟨ak, ax, asx⟩ = true) (m2 : mayV ⟨bk, bx, bs⟩ = true) (m3 : mayV ⟨ck, cx, cs⟩ = false) :
    Calls Tryd.prog 5 #[vagg ⟨ak, ax, asx⟩, vagg ⟨bk, bx, bs⟩, vagg ⟨ck, cx, cs⟩] w fun e w' => e = .returned (.bool true) ∧ Below w.heap.size w w' := by
  have HW := Lib.hid (below3 w (vobj ⟨ak, ax, asx⟩) (vobj ⟨bk, bx, bs⟩) (vobj ⟨ck, cx, cs⟩))
  have HA := Lib.hid (at_three w ⟨ak, ax, asx⟩ ⟨bk, bx, bs⟩ ⟨ck, cx, cs⟩).1
  have HB := Lib.hid (at_three w ⟨ak, ax, asx⟩ ⟨bk, bx, bs⟩ ⟨ck, cx, cs⟩).2.1
  have HC := Lib.hid (at_three w ⟨ak, ax, asx⟩ ⟨bk, bx, bs⟩ ⟨ck, cx, cs⟩).2.2
  have HT := Lib.hid hT
  have HS1 := fun w => Lib.hid (small_any ⟨ak, ax, asx⟩ w)
  have HS2 := fun w => Lib.hid (small_any ⟨bk, bx, bs⟩ w)
  have HS3 := fun w => Lib.hid (small_any ⟨ck, cx, cs⟩ w)
  have HM1 := fun w => Lib.hid (may_any ⟨ak, ax, asx⟩ w)
  have HM2 := fun w => Lib.hid (may_any ⟨bk, bx, bs⟩ w)
  have HM3 := fun w => Lib.hid (may_any ⟨ck, cx, cs⟩ w)
  rw [decide_eq_true (by simp only; omega)] at HS1
  rw [decide_eq_true (by simp only; omega)] at HS2
  rw [decide_eq_true (by simp only; omega)] at HS3
  rw [m1] at HM1
  rw [m2] at HM2
  rw [m3] at HM3
  clear hT h1 h2 h3 m1 m2 m3
  go_enter Tryd.func5, Tryd.ntmps5
  go_wp2_with (first
    | (go_at_call 8; with_reducible refine (first_ex _ (HT.out.below HW.out)).mono ?_; rintro e w1 ⟨rfl, hb⟩; have HA := Lib.hid (HA.out.below hb HA.out.lt); have A0 := HA.out.c0; have A1 := HA.out.c1; have A2 := HA.out.c2; dsimp only at A0 A1 A2; have HB := Lib.hid (HB.out.below hb HB.out.lt); have B0 := HB.out.c0; have B1 := HB.out.c1; have B2 := HB.out.c2; dsimp only at B0 B1 B2; have HC := Lib.hid (HC.out.below hb HC.out.lt); have C0 := HC.out.c0; have C1 := HC.out.c1; have C2 := HC.out.c2; dsimp only at C0 C1 C2; have HW := Lib.hid (HW.out.trans (hb.mono HW.out.size)); clear hb)
    | (go_at_call 9; with_reducible refine ((HS1 _).out).mono ?_; rintro e w1 ⟨rfl, hb⟩; have HA := Lib.hid (HA.out.below hb HA.out.lt); have A0 := HA.out.c0; have A1 := HA.out.c1; have A2 := HA.out.c2; dsimp only at A0 A1 A2; have HB := Lib.hid (HB.out.below hb HB.out.lt); have B0 := HB.out.c0; have B1 := HB.out.c1; have B2 := HB.out.c2; dsimp only at B0 B1 B2; have HC := Lib.hid (HC.out.below hb HC.out.lt); have C0 := HC.out.c0; have C1 := HC.out.c1; have C2 := HC.out.c2; dsimp only at C0 C1 C2; have HW := Lib.hid (HW.out.trans (hb.mono HW.out.size)); clear hb)
    | (go_at_call 9; with_reducible refine ((HS2 _).out).mono ?_; rintro e w1 ⟨rfl, hb⟩; have HA := Lib.hid (HA.out.below hb HA.out.lt); have A0 := HA.out.c0; have A1 := HA.out.c1; have A2 := HA.out.c2; dsimp only at A0 A1 A2; have HB := Lib.hid (HB.out.below hb HB.out.lt); have B0 := HB.out.c0; have B1 := HB.out.c1; have B2 := HB.out.c2; dsimp only at B0 B1 B2; have HC := Lib.hid (HC.out.below hb HC.out.lt); have C0 := HC.out.c0; have C1 := HC.out.c1; have C2 := HC.out.c2; dsimp only at C0 C1 C2; have HW := Lib.hid (HW.out.trans (hb.mono HW.out.size)); clear hb)
    | (go_at_call 9; with_reducible refine ((HS3 _).out).mono ?_; rintro e w1 ⟨rfl, hb⟩; have HA := Lib.hid (HA.out.below hb HA.out.lt); have A0 := HA.out.c0; have A1 := HA.out.c1; have A2 := HA.out.c2; dsimp only at A0 A1 A2; have HB := Lib.hid (HB.out.below hb HB.out.lt); have B0 := HB.out.c0; have B1 := HB.out.c1; have B2 := HB.out.c2; dsimp only at B0 B1 B2; have HC := Lib.hid (HC.out.below hb HC.out.lt); have C0 := HC.out.c0; have C1 := HC.out.c1; have C2 := HC.out.c2; dsimp only at C0 C1 C2; have HW := Lib.hid (HW.out.trans (hb.mono HW.out.size)); clear hb)
    | (go_at_call 17; with_reducible refine ((HM1 _).out).mono ?_; rintro e w1 ⟨rfl, hb⟩; have HA := Lib.hid (HA.out.below hb HA.out.lt); have A0 := HA.out.c0; have A1 := HA.out.c1; have A2 := HA.out.c2; dsimp only at A0 A1 A2; have HB := Lib.hid (HB.out.below hb HB.out.lt); have B0 := HB.out.c0; have B1 := HB.out.c1; have B2 := HB.out.c2; dsimp only at B0 B1 B2; have HC := Lib.hid (HC.out.below hb HC.out.lt); have C0 := HC.out.c0; have C1 := HC.out.c1; have C2 := HC.out.c2; dsimp only at C0 C1 C2; have HW := Lib.hid (HW.out.trans (hb.mono HW.out.size)); clear hb)
    | (go_at_call 17; with_reducible refine ((HM2 _).out).mono ?_; rintro e w1 ⟨rfl, hb⟩; have HA := Lib.hid (HA.out.below hb HA.out.lt); have A0 := HA.out.c0; have A1 := HA.out.c1; have A2 := HA.out.c2; dsimp only at A0 A1 A2; have HB := Lib.hid (HB.out.below hb HB.out.lt); have B0 := HB.out.c0; have B1 := HB.out.c1; have B2 := HB.out.c2; dsimp only at B0 B1 B2; have HC := Lib.hid (HC.out.below hb HC.out.lt); have C0 := HC.out.c0; have C1 := HC.out.c1; have C2 := HC.out.c2; dsimp only at C0 C1 C2; have HW := Lib.hid (HW.out.trans (hb.mono HW.out.size)); clear hb)
    | (go_at_call 17; with_reducible refine ((HM3 _).out).mono ?_; rintro e w1 ⟨rfl, hb⟩; have HA := Lib.hid (HA.out.below hb HA.out.lt); have A0 := HA.out.c0; have A1 := HA.out.c1; have A2 := HA.out.c2; dsimp only at A0 A1 A2; have HB := Lib.hid (HB.out.below hb HB.out.lt); have B0 := HB.out.c0; have B1 := HB.out.c1; have B2 := HB.out.c2; dsimp only at B0 B1 B2; have HC := Lib.hid (HC.out.below hb HC.out.lt); have C0 := HC.out.c0; have C1 := HC.out.c1; have C2 := HC.out.c2; dsimp only at C0 C1 C2; have HW := Lib.hid (HW.out.trans (hb.mono HW.out.size)); clear hb))
  go_ret
  exact ⟨rfl, HW.out⟩
set_option maxRecDepth 100000 in
set_option maxHeartbeats 8000000 in
theorem order_some (w : World) (ak : Int) (ax : Nat) (asx : List UInt8) (bk : Int) (bx : Nat) (bs : List UInt8) (ck : Int) (cx : Nat) (cs : List UInt8) (hT : Tabs w) (h1 : asx.length ≤ 2000) (h2 : bs.length ≤ 2000) (h3 : cs.length ≤ 2000) (ua : (⟨ak, ax, asx⟩ : DV).wf) (ub : (⟨bk, bx, bs⟩ : DV).wf) (uc : (⟨ck, cx, cs⟩ : DV).wf) (m1 : mayV ⟨ak, ax, asx⟩ = true) (m2 : mayV ⟨bk, bx, bs⟩ = true) (m3 : mayV ⟨ck, cx, cs⟩ = true) (q1 q2 q3 : Bool)
    (hq1 : decide (compV ⟨ak, ax, asx⟩ ⟨bk, bx, bs⟩ ≤ 0) = q1) (hq2 : decide (compV ⟨bk, bx, bs⟩ ⟨ck, cx, cs⟩ ≤ 0) = q2) (hq3 : decide (compV ⟨ak, ax, asx⟩ ⟨ck, cx, cs⟩ ≤ 0) = q3) (hq : (!(q1 && q2) || q3) = true) :
    Calls Tryd.prog 5 #[vagg ⟨ak, ax, asx⟩, vagg ⟨bk, bx, bs⟩, vagg ⟨ck, cx, cs⟩] w fun e w' => e = .returned (.bool true) ∧ Below w.heap.size w w' := by
  have HW := Lib.hid (below3 w (vobj ⟨ak, ax, asx⟩) (vobj ⟨bk, bx, bs⟩) (vobj ⟨ck, cx, cs⟩))
  have HA := Lib.hid (at_three w ⟨ak, ax, asx⟩ ⟨bk, bx, bs⟩ ⟨ck, cx, cs⟩).1
  have HB := Lib.hid (at_three w ⟨ak, ax, asx⟩ ⟨bk, bx, bs⟩ ⟨ck, cx, cs⟩).2.1
  have HC := Lib.hid (at_three w ⟨ak, ax, asx⟩ ⟨bk, bx, bs⟩ ⟨ck, cx, cs⟩).2.2
  have HT := Lib.hid hT
  have HS1 := fun w => Lib.hid (small_any ⟨ak, ax, asx⟩ w)
  have HS2 := fun w => Lib.hid (small_any ⟨bk, bx, bs⟩ w)
  have HS3 := fun w => Lib.hid (small_any ⟨ck, cx, cs⟩ w)
  have HM1 := fun w => Lib.hid (may_any ⟨ak, ax, asx⟩ w)
  have HM2 := fun w => Lib.hid (may_any ⟨bk, bx, bs⟩ w)
  have HM3 := fun w => Lib.hid (may_any ⟨ck, cx, cs⟩ w)
  rw [decide_eq_true (by simp only; omega)] at HS1
  rw [decide_eq_true (by simp only; omega)] at HS2
  rw [decide_eq_true (by simp only; omega)] at HS3
  rw [m1] at HM1
  rw [m2] at HM2
  rw [m3] at HM3
  have HC1 := fun w => Lib.hid (vcompare_any ⟨ak, ax, asx⟩ ⟨bk, bx, bs⟩ ua ub w)
  have HC2 := fun w => Lib.hid (vcompare_any ⟨bk, bx, bs⟩ ⟨ck, cx, cs⟩ ub uc w)
  have HC3 := fun w => Lib.hid (vcompare_any ⟨ak, ax, asx⟩ ⟨ck, cx, cs⟩ ua uc w)
  have HC4 := fun w => Lib.hid (vcompare_any ⟨bk, bx, bs⟩ ⟨ak, ax, asx⟩ ub ua w)
  have HC5 := fun w => Lib.hid (vcompare_any ⟨ak, ax, asx⟩ ⟨ak, ax, asx⟩ ua ua w)
  rw [compV_turn ⟨ak, ax, asx⟩ ⟨bk, bx, bs⟩] at HC4
  rw [compV_self] at HC5
  have HE := fun w => Lib.hid (vsame_any ⟨ak, ax, asx⟩ ⟨bk, bx, bs⟩ ua ub w)
  have hsame : sameB ⟨ak, ax, asx⟩ ⟨bk, bx, bs⟩ = (compV ⟨ak, ax, asx⟩ ⟨bk, bx, bs⟩ == 0) := by unfold sameB; rw [m1, m2]; rfl
  rw [hsame] at HE
  have HP1 := fun w hT => Lib.hid (vprint_any ⟨ak, ax, asx⟩ ua.2.1 w hT)
  have HP2 := fun w hT => Lib.hid (vprint_any ⟨bk, bx, bs⟩ ub.2.1 w hT)
  have hpr := comp_print m1 m2 ua.2.1 ub.2.1
  have hrg := compV_range ⟨ak, ax, asx⟩ ⟨bk, bx, bs⟩
  generalize compV ⟨ak, ax, asx⟩ ⟨bk, bx, bs⟩ = ab at *
  generalize compV ⟨bk, bx, bs⟩ ⟨ck, cx, cs⟩ = bc at *
  generalize compV ⟨ak, ax, asx⟩ ⟨ck, cx, cs⟩ = ac at *
  generalize printV ⟨ak, ax, asx⟩ = PA at *
  generalize printV ⟨bk, bx, bs⟩ = PB at *
  have e1 : ((ab == 0) == (ab == 0)) = true := beq_self_eq_true _
  have e2 : ((ab == 0) == (PA == PB)) = true := by
    cases h : ab == 0
    · have h0 : ab ≠ 0 := by simpa using h
      have : (PA == PB) = false := by rw [beq_eq_false_iff_ne]; exact fun e => h0 (hpr.2 e)
      rw [this]; rfl
    · have h0 : ab = 0 := by simpa using h
      have : (PA == PB) = true := by rw [beq_iff_eq]; exact hpr.1 h0
      rw [this]; rfl
  have e3 : IntKind.i64.wrap (-ab) = -ab := by rw [IntKind.wrap_i64]; omega
  have e4 : (-ab == -ab) = true := beq_self_eq_true _
  obtain ⟨r1, r2⟩ := hrg
  clear hT h1 h2 h3 ua ub uc m1 m2 m3 hsame hpr
  go_enter Tryd.func5, Tryd.ntmps5
  go_wp2_with (first
    | (go_at_call 8; with_reducible refine (first_ex _ (HT.out.below HW.out)).mono ?_; rintro e w1 ⟨rfl, hb⟩; have HA := Lib.hid (HA.out.below hb HA.out.lt); have A0 := HA.out.c0; have A1 := HA.out.c1; have A2 := HA.out.c2; dsimp only at A0 A1 A2; have HB := Lib.hid (HB.out.below hb HB.out.lt); have B0 := HB.out.c0; have B1 := HB.out.c1; have B2 := HB.out.c2; dsimp only at B0 B1 B2; have HC := Lib.hid (HC.out.below hb HC.out.lt); have C0 := HC.out.c0; have C1 := HC.out.c1; have C2 := HC.out.c2; dsimp only at C0 C1 C2; have HW := Lib.hid (HW.out.trans (hb.mono HW.out.size)); clear hb)
    | (go_at_call 9; with_reducible refine ((HS1 _).out).mono ?_; rintro e w1 ⟨rfl, hb⟩; have HA := Lib.hid (HA.out.below hb HA.out.lt); have A0 := HA.out.c0; have A1 := HA.out.c1; have A2 := HA.out.c2; dsimp only at A0 A1 A2; have HB := Lib.hid (HB.out.below hb HB.out.lt); have B0 := HB.out.c0; have B1 := HB.out.c1; have B2 := HB.out.c2; dsimp only at B0 B1 B2; have HC := Lib.hid (HC.out.below hb HC.out.lt); have C0 := HC.out.c0; have C1 := HC.out.c1; have C2 := HC.out.c2; dsimp only at C0 C1 C2; have HW := Lib.hid (HW.out.trans (hb.mono HW.out.size)); clear hb)
    | (go_at_call 9; with_reducible refine ((HS2 _).out).mono ?_; rintro e w1 ⟨rfl, hb⟩; have HA := Lib.hid (HA.out.below hb HA.out.lt); have A0 := HA.out.c0; have A1 := HA.out.c1; have A2 := HA.out.c2; dsimp only at A0 A1 A2; have HB := Lib.hid (HB.out.below hb HB.out.lt); have B0 := HB.out.c0; have B1 := HB.out.c1; have B2 := HB.out.c2; dsimp only at B0 B1 B2; have HC := Lib.hid (HC.out.below hb HC.out.lt); have C0 := HC.out.c0; have C1 := HC.out.c1; have C2 := HC.out.c2; dsimp only at C0 C1 C2; have HW := Lib.hid (HW.out.trans (hb.mono HW.out.size)); clear hb)
    | (go_at_call 9; with_reducible refine ((HS3 _).out).mono ?_; rintro e w1 ⟨rfl, hb⟩; have HA := Lib.hid (HA.out.below hb HA.out.lt); have A0 := HA.out.c0; have A1 := HA.out.c1; have A2 := HA.out.c2; dsimp only at A0 A1 A2; have HB := Lib.hid (HB.out.below hb HB.out.lt); have B0 := HB.out.c0; have B1 := HB.out.c1; have B2 := HB.out.c2; dsimp only at B0 B1 B2; have HC := Lib.hid (HC.out.below hb HC.out.lt); have C0 := HC.out.c0; have C1 := HC.out.c1; have C2 := HC.out.c2; dsimp only at C0 C1 C2; have HW := Lib.hid (HW.out.trans (hb.mono HW.out.size)); clear hb)
    | (go_at_call 17; with_reducible refine ((HM1 _).out).mono ?_; rintro e w1 ⟨rfl, hb⟩; have HA := Lib.hid (HA.out.below hb HA.out.lt); have A0 := HA.out.c0; have A1 := HA.out.c1; have A2 := HA.out.c2; dsimp only at A0 A1 A2; have HB := Lib.hid (HB.out.below hb HB.out.lt); have B0 := HB.out.c0; have B1 := HB.out.c1; have B2 := HB.out.c2; dsimp only at B0 B1 B2; have HC := Lib.hid (HC.out.below hb HC.out.lt); have C0 := HC.out.c0; have C1 := HC.out.c1; have C2 := HC.out.c2; dsimp only at C0 C1 C2; have HW := Lib.hid (HW.out.trans (hb.mono HW.out.size)); clear hb)
    | (go_at_call 17; with_reducible refine ((HM2 _).out).mono ?_; rintro e w1 ⟨rfl, hb⟩; have HA := Lib.hid (HA.out.below hb HA.out.lt); have A0 := HA.out.c0; have A1 := HA.out.c1; have A2 := HA.out.c2; dsimp only at A0 A1 A2; have HB := Lib.hid (HB.out.below hb HB.out.lt); have B0 := HB.out.c0; have B1 := HB.out.c1; have B2 := HB.out.c2; dsimp only at B0 B1 B2; have HC := Lib.hid (HC.out.below hb HC.out.lt); have C0 := HC.out.c0; have C1 := HC.out.c1; have C2 := HC.out.c2; dsimp only at C0 C1 C2; have HW := Lib.hid (HW.out.trans (hb.mono HW.out.size)); clear hb)
    | (go_at_call 17; with_reducible refine ((HM3 _).out).mono ?_; rintro e w1 ⟨rfl, hb⟩; have HA := Lib.hid (HA.out.below hb HA.out.lt); have A0 := HA.out.c0; have A1 := HA.out.c1; have A2 := HA.out.c2; dsimp only at A0 A1 A2; have HB := Lib.hid (HB.out.below hb HB.out.lt); have B0 := HB.out.c0; have B1 := HB.out.c1; have B2 := HB.out.c2; dsimp only at B0 B1 B2; have HC := Lib.hid (HC.out.below hb HC.out.lt); have C0 := HC.out.c0; have C1 := HC.out.c1; have C2 := HC.out.c2; dsimp only at C0 C1 C2; have HW := Lib.hid (HW.out.trans (hb.mono HW.out.size)); clear hb))
  have HA := Lib.hid (HA.out.below (Below.refl _ _).drew HA.out.lt)
  have HB := Lib.hid (HB.out.below (Below.refl _ _).drew HB.out.lt)
  have HC := Lib.hid (HC.out.below (Below.refl _ _).drew HC.out.lt)
  have HW := Lib.hid (HW.out.drew)
  go_region_held (fun w' => w'.cell? ⟨w.heap.size, 0, none⟩ = some (.int .i64 ak) ∧ w'.cell? ⟨w.heap.size, 1, none⟩ = some (.float .f64 ax) ∧ w'.cell? ⟨w.heap.size, 2, none⟩ = some (.string ⟨asx.toArray⟩) ∧ w'.cell? ⟨w.heap.size + 1, 0, none⟩ = some (.int .i64 bk) ∧ w'.cell? ⟨w.heap.size + 1, 1, none⟩ = some (.float .f64 bx) ∧ w'.cell? ⟨w.heap.size + 1, 2, none⟩ = some (.string ⟨bs.toArray⟩) ∧ w'.cell? ⟨w.heap.size + 1 + 1, 0, none⟩ = some (.int .i64 ck) ∧ w'.cell? ⟨w.heap.size + 1 + 1, 1, none⟩ = some (.float .f64 cx) ∧ w'.cell? ⟨w.heap.size + 1 + 1, 2, none⟩ = some (.string ⟨cs.toArray⟩)) (exact ⟨HA.out.c0, HA.out.c1, HA.out.c2, HB.out.c0, HB.out.c1, HB.out.c2, HC.out.c0, HC.out.c1, HC.out.c2⟩) (first
    | (go_at_call 27; with_reducible refine ((HC1 _).out).mono ?_; rintro e w6 ⟨rfl, hb⟩; have HA := Lib.hid (HA.out.below hb HA.out.lt); have HB := Lib.hid (HB.out.below hb HB.out.lt); have HC := Lib.hid (HC.out.below hb HC.out.lt); have HW := Lib.hid (HW.out.trans (hb.mono HW.out.size)); clear hb)
    | (go_at_call 27; with_reducible refine ((HC2 _).out).mono ?_; rintro e w6 ⟨rfl, hb⟩; have HA := Lib.hid (HA.out.below hb HA.out.lt); have HB := Lib.hid (HB.out.below hb HB.out.lt); have HC := Lib.hid (HC.out.below hb HC.out.lt); have HW := Lib.hid (HW.out.trans (hb.mono HW.out.size)); clear hb)
    | (go_at_call 27; with_reducible refine ((HC3 _).out).mono ?_; rintro e w6 ⟨rfl, hb⟩; have HA := Lib.hid (HA.out.below hb HA.out.lt); have HB := Lib.hid (HB.out.below hb HB.out.lt); have HC := Lib.hid (HC.out.below hb HC.out.lt); have HW := Lib.hid (HW.out.trans (hb.mono HW.out.size)); clear hb))
  cases q1 <;> cases q2 <;> cases q3 <;> first
    | (exact absurd hq (by decide))
    | skip
  all_goals (go_wp2_with (first
    | (go_at_call 27; with_reducible refine ((HC4 _).out).mono ?_; rintro e w1 ⟨rfl, hb⟩; have HA := Lib.hid (HA.out.below hb HA.out.lt); have A0 := HA.out.c0; have A1 := HA.out.c1; have A2 := HA.out.c2; dsimp only at A0 A1 A2; have HB := Lib.hid (HB.out.below hb HB.out.lt); have B0 := HB.out.c0; have B1 := HB.out.c1; have B2 := HB.out.c2; dsimp only at B0 B1 B2; have HC := Lib.hid (HC.out.below hb HC.out.lt); have C0 := HC.out.c0; have C1 := HC.out.c1; have C2 := HC.out.c2; dsimp only at C0 C1 C2; have HW := Lib.hid (HW.out.trans (hb.mono HW.out.size)); clear hb)
    | (go_at_call 27; with_reducible refine ((HC5 _).out).mono ?_; rintro e w1 ⟨rfl, hb⟩; have HA := Lib.hid (HA.out.below hb HA.out.lt); have A0 := HA.out.c0; have A1 := HA.out.c1; have A2 := HA.out.c2; dsimp only at A0 A1 A2; have HB := Lib.hid (HB.out.below hb HB.out.lt); have B0 := HB.out.c0; have B1 := HB.out.c1; have B2 := HB.out.c2; dsimp only at B0 B1 B2; have HC := Lib.hid (HC.out.below hb HC.out.lt); have C0 := HC.out.c0; have C1 := HC.out.c1; have C2 := HC.out.c2; dsimp only at C0 C1 C2; have HW := Lib.hid (HW.out.trans (hb.mono HW.out.size)); clear hb)
    | (go_at_call 8; with_reducible refine (first_ex _ (HT.out.below HW.out)).mono ?_; rintro e w1 ⟨rfl, hb⟩; have HA := Lib.hid (HA.out.below hb HA.out.lt); have A0 := HA.out.c0; have A1 := HA.out.c1; have A2 := HA.out.c2; dsimp only at A0 A1 A2; have HB := Lib.hid (HB.out.below hb HB.out.lt); have B0 := HB.out.c0; have B1 := HB.out.c1; have B2 := HB.out.c2; dsimp only at B0 B1 B2; have HC := Lib.hid (HC.out.below hb HC.out.lt); have C0 := HC.out.c0; have C1 := HC.out.c1; have C2 := HC.out.c2; dsimp only at C0 C1 C2; have HW := Lib.hid (HW.out.trans (hb.mono HW.out.size)); clear hb)))
  all_goals (
    have HA := Lib.hid (HA.out.below (Below.refl _ _).drew HA.out.lt)
    have HB := Lib.hid (HB.out.below (Below.refl _ _).drew HB.out.lt)
    have HC := Lib.hid (HC.out.below (Below.refl _ _).drew HC.out.lt)
    have HW := Lib.hid (HW.out.drew)
    go_region_held (fun w' => w'.cell? ⟨w.heap.size, 0, none⟩ = some (.int .i64 ak) ∧ w'.cell? ⟨w.heap.size, 1, none⟩ = some (.float .f64 ax) ∧ w'.cell? ⟨w.heap.size, 2, none⟩ = some (.string ⟨asx.toArray⟩) ∧ w'.cell? ⟨w.heap.size + 1, 0, none⟩ = some (.int .i64 bk) ∧ w'.cell? ⟨w.heap.size + 1, 1, none⟩ = some (.float .f64 bx) ∧ w'.cell? ⟨w.heap.size + 1, 2, none⟩ = some (.string ⟨bs.toArray⟩) ∧ w'.cell? ⟨w.heap.size + 1 + 1, 0, none⟩ = some (.int .i64 ck) ∧ w'.cell? ⟨w.heap.size + 1 + 1, 1, none⟩ = some (.float .f64 cx) ∧ w'.cell? ⟨w.heap.size + 1 + 1, 2, none⟩ = some (.string ⟨cs.toArray⟩)) (exact ⟨HA.out.c0, HA.out.c1, HA.out.c2, HB.out.c0, HB.out.c1, HB.out.c2, HC.out.c0, HC.out.c1, HC.out.c2⟩) (first
      | (go_at_call 28; with_reducible refine ((HE _).out).mono ?_; rintro e w6 ⟨rfl, hb⟩; have HA := Lib.hid (HA.out.below hb HA.out.lt); have HB := Lib.hid (HB.out.below hb HB.out.lt); have HC := Lib.hid (HC.out.below hb HC.out.lt); have HW := Lib.hid (HW.out.trans (hb.mono HW.out.size)); clear hb)
      | (go_at_call 25; with_reducible refine ((HP1 _ (HT.out.below HW.out)).out).mono ?_; rintro e w6 ⟨rfl, hb⟩; have HA := Lib.hid (HA.out.below hb HA.out.lt); have HB := Lib.hid (HB.out.below hb HB.out.lt); have HC := Lib.hid (HC.out.below hb HC.out.lt); have HW := Lib.hid (HW.out.trans (hb.mono HW.out.size)); clear hb)
      | (go_at_call 25; with_reducible refine ((HP2 _ (HT.out.below HW.out)).out).mono ?_; rintro e w6 ⟨rfl, hb⟩; have HA := Lib.hid (HA.out.below hb HA.out.lt); have HB := Lib.hid (HB.out.below hb HB.out.lt); have HC := Lib.hid (HC.out.below hb HC.out.lt); have HW := Lib.hid (HW.out.trans (hb.mono HW.out.size)); clear hb)))
  all_goals (go_wp2_with (first
    | (go_at_call 27; with_reducible refine ((HC4 _).out).mono ?_; rintro e w1 ⟨rfl, hb⟩; have HA := Lib.hid (HA.out.below hb HA.out.lt); have A0 := HA.out.c0; have A1 := HA.out.c1; have A2 := HA.out.c2; dsimp only at A0 A1 A2; have HB := Lib.hid (HB.out.below hb HB.out.lt); have B0 := HB.out.c0; have B1 := HB.out.c1; have B2 := HB.out.c2; dsimp only at B0 B1 B2; have HC := Lib.hid (HC.out.below hb HC.out.lt); have C0 := HC.out.c0; have C1 := HC.out.c1; have C2 := HC.out.c2; dsimp only at C0 C1 C2; have HW := Lib.hid (HW.out.trans (hb.mono HW.out.size)); clear hb)
    | (go_at_call 27; with_reducible refine ((HC5 _).out).mono ?_; rintro e w1 ⟨rfl, hb⟩; have HA := Lib.hid (HA.out.below hb HA.out.lt); have A0 := HA.out.c0; have A1 := HA.out.c1; have A2 := HA.out.c2; dsimp only at A0 A1 A2; have HB := Lib.hid (HB.out.below hb HB.out.lt); have B0 := HB.out.c0; have B1 := HB.out.c1; have B2 := HB.out.c2; dsimp only at B0 B1 B2; have HC := Lib.hid (HC.out.below hb HC.out.lt); have C0 := HC.out.c0; have C1 := HC.out.c1; have C2 := HC.out.c2; dsimp only at C0 C1 C2; have HW := Lib.hid (HW.out.trans (hb.mono HW.out.size)); clear hb)
    | (go_at_call 8; with_reducible refine (first_ex _ (HT.out.below HW.out)).mono ?_; rintro e w1 ⟨rfl, hb⟩; have HA := Lib.hid (HA.out.below hb HA.out.lt); have A0 := HA.out.c0; have A1 := HA.out.c1; have A2 := HA.out.c2; dsimp only at A0 A1 A2; have HB := Lib.hid (HB.out.below hb HB.out.lt); have B0 := HB.out.c0; have B1 := HB.out.c1; have B2 := HB.out.c2; dsimp only at B0 B1 B2; have HC := Lib.hid (HC.out.below hb HC.out.lt); have C0 := HC.out.c0; have C1 := HC.out.c1; have C2 := HC.out.c2; dsimp only at C0 C1 C2; have HW := Lib.hid (HW.out.trans (hb.mono HW.out.size)); clear hb)))
  all_goals go_ret
  all_goals exact ⟨rfl, HW.out⟩
theorem datumOrder_walk (w : World) (a : DV) (ua : a.wf) (b : DV) (ub : b.wf) (c : DV) (uc : c.wf) (hT : Tabs w) :
    Calls Tryd.prog 5 #[vagg a, vagg b, vagg c] w fun e w' => e = .returned (.bool true) ∧ Below w.heap.size w w' := by
  obtain ⟨ak, ax, asx⟩ := a
  obtain ⟨bk, bx, bs⟩ := b
  obtain ⟨ck, cx, cs⟩ := c
  rcases Nat.lt_or_ge 2000 asx.length with ha | ha
  · exact order_first1 w ak ax asx bk bx bs ck cx cs hT ha
  rcases Nat.lt_or_ge 2000 bs.length with hb | hb
  · exact order_first2 w ak ax asx bk bx bs ck cx cs hT ha hb
  rcases Nat.lt_or_ge 2000 cs.length with hc | hc
  · exact order_first3 w ak ax asx bk bx bs ck cx cs hT ha hb hc
  cases m1 : mayV ⟨ak, ax, asx⟩
  · exact order_first4 w ak ax asx bk bx bs ck cx cs hT ha hb hc m1
  cases m2 : mayV ⟨bk, bx, bs⟩
  · exact order_first5 w ak ax asx bk bx bs ck cx cs hT ha hb hc m1 m2
  cases m3 : mayV ⟨ck, cx, cs⟩
  · exact order_first6 w ak ax asx bk bx bs ck cx cs hT ha hb hc m1 m2 m3
  refine order_some w ak ax asx bk bx bs ck cx cs hT ha hb hc ua ub uc m1 m2 m3 _ _ _ rfl rfl rfl ?_
  by_cases h1 : compV ⟨ak, ax, asx⟩ ⟨bk, bx, bs⟩ ≤ 0
  · by_cases h2 : compV ⟨bk, bx, bs⟩ ⟨ck, cx, cs⟩ ≤ 0
    · rw [decide_eq_true h1, decide_eq_true h2, decide_eq_true (compV_through _ _ _ m1 m2 m3 h1 h2)]; rfl
    · rw [decide_eq_false h2, Bool.and_false]; rfl
  · rw [decide_eq_false h1, Bool.false_and]; rfl

set_option maxRecDepth 100000 in
theorem datumOrder_lifted (os : Os) (started : os.Started) (H : Type) (enc : TypeId × Value → H) :
    ReturnsInHanded {} Tryd.checked os 5 .any (fun w args => (Rows.datumOrderSpec.pre enc Tryd.prog Tryd.f5 [] false w args ∧ laidMetH Tryd.prog laid3 w) ∧ sizedMet enc Tryd.prog Tryd.f5 (OpenSpec.ofChange Rows.datumOrderSpec) false w args)
      (Rows.datumOrderSpec.post enc Tryd.prog Tryd.f5 false true false false) := by
  refine returnsInHanded_of_change_and (C := Tryd.checked) (X := fun w _ => laidMetH Tryd.prog laid3 w) (fun _ _ _ hh h => h.of_heap hh) own started (by kernel_rfl) Tryd.func5
    (ChangeSpec.witness_shaped (enc := enc) (C := Tryd.checked) (os := os) (X := fun w _ => laidMetH Tryd.prog laid3 w) false (World.doorLaid Tryd.prog 400 os) #[.agg #[.int .i64 0, .float .f64 0, .string ⟨#[]⟩], .agg #[.int .i64 0, .float .f64 0, .string ⟨#[]⟩], .agg #[.int .i64 0, .float .f64 0, .string ⟨#[]⟩]] 8 rfl (World.shaped_of_RefB (by kernel_rfl) (by kernel_rfl)) (by kernel_rfl) (by kernel_rfl) (by kernel_rfl) (door_met os _)) ?_
  intro W base args ds gs before hval0 hW _ _ hL _
  have hval : ∀ (j : Nat) t v, Tryd.f5.params[j]? = some t → args[j]? = some v → Value.okWide Tryd.prog W .any base t v := hval0
  have hW' := hW
  obtain ⟨p, q, hA0, hV, rfl, hfz, hnd⟩ := hW
  have hA : DataW.TrodAll enc Tryd.prog W 0 (fun _ => true) true Tryd.f5.params.toList args.toList ds p := hA0
  rw [Tryd.params5] at hA hval
  obtain ⟨v0, v1, v2, d0, d1, d2, p0, p1, p2, rfl, rfl, rfl, h0, h1, h2⟩ := trodAll_three hA
  obtain ⟨rfl, rfl⟩ := trodVars_none hV
  clear hA0 hval0
  simp only [List.append_nil] at hW'
  have hlt : ∀ x ∈ p0 ++ p1 ++ p2, x.block < W.heap.size := fun x hx => hW'.lt x (by simpa using hx)
  have hT := tabs_of_laid hL
  have k0 := h0
  obtain ⟨x0, rfl, rfl, u0⟩ := open_val (hval 0 24 v0 rfl rfl) h0
  have k1 := h1
  obtain ⟨x1, rfl, rfl, u1⟩ := open_val (hval 1 24 v1 rfl rfl) h1
  have k2 := h2
  obtain ⟨x2, rfl, rfl, u2⟩ := open_val (hval 2 24 v2 rfl rfl) h2
  refine Calls.mono (?walk : Calls _ _ _ _ fun e w' => e = .returned (.bool true) ∧ Below W.heap.size W w') fun e W' ⟨he, hw⟩ => ?_
  case walk =>
    exact datumOrder_walk W x0 u0 x1 u1 x2 u2 hT
  subst he
  exact ⟨_, rfl, post_of_below (pa := [] ++ ([] ++ [])) (pv := []) hW' (fun _ _ _ => trodAll_mk1 (shut_bool Tryd.underlying4 _)) (fun sp hsp => trodAll_mk3 (WideElems.Trod_stays laidOut3 (by kernel_rfl) (of_decide_eq_true (by kernel_rfl)) k0 (fun x hx => hw.same (hlt x (by simp [hx]))) (fun x hx => hsp x (by simp [hx]))) (WideElems.Trod_stays laidOut3 (by kernel_rfl) (of_decide_eq_true (by kernel_rfl)) k1 (fun x hx => hw.same (hlt x (by simp [hx]))) (fun x hx => hsp x (by simp [hx]))) (WideElems.Trod_stays laidOut3 (by kernel_rfl) (of_decide_eq_true (by kernel_rfl)) k2 (fun x hx => hw.same (hlt x (by simp [hx]))) (fun x hx => hsp x (by simp [hx])))) (fun _ _ => rfl) (by simp) hw (ok_one (by kernel_rfl) rfl (okWide_bool_mk Tryd.underlying4 _))⟩
theorem datumOrder_holds : Rows.DatumOrderSaid :=
  OpenClaim.holds_of_wide 5 Tryd.f5 rfl rfl rfl rfl rfl rfl rfl ⟨rfl, rfl, rfl, rfl, rfl⟩ rfl rfl rfl rfl rfl (by kernel_rfl) Tryd.func5 (by kernel_rfl)
    (of_decide_eq_true (by kernel_rfl)) (by unfold Func.isWrapper; first | (rw [if_pos (by decide +kernel)]; kernel_rfl) | (rw [if_neg (by decide +kernel)]; exact ⟨rfl, rfl⟩))
    (fun os started H enc _ => datumOrder_lifted os started H enc)
/-- THE TIED CARD. -/
theorem datumOrder_card : Rows.DatumOrderCardSaid :=
  Claim7.holds_tied_plain_at .later [] [.data, .data, .data] true (true, "e365411bd106a08e9233803ba0fe4dfaa9695e3b647a3ddff3aaff483a6e1884") false
    datumOrder_holds (fun _ h => by cases h) (by kernel_rfl) (fun _ h => by cases h) datumOrder_row_tie rfl ⟨rfl, rfl⟩ (by kernel_rfl) rfl
    (fun f fn hf hfn => by
      obtain rfl : f = 5 := Option.some.inj ((show Tryd.prog.funcNamed "headrace/racelaw3.DatumOrder" = some 5 by kernel_rfl).symm.trans hf) |>.symm
      obtain rfl : fn = Tryd.f5 := (Option.some.inj (Tryd.func5.symm.trans hfn)).symm
      exact ⟨by kernel_rfl, fun j t ht => by
        rw [Tryd.params5] at ht
        have hm : t ∈ [24, 24, 24] := by simpa using Array.mem_of_getElem? ht
        have hall : ([24, 24, 24].all fun u => !Tryd.prog.wantsStandIn u) = true := by kernel_rfl
        exact (show Tryd.prog.wantsStandIn t = false by simpa using List.all_eq_true.1 hall t hm)⟩)
    (by kernel_rfl)
#print axioms datumOrder_card
end Go.Proofs.YtjkfcmadoeifgaaDoor
