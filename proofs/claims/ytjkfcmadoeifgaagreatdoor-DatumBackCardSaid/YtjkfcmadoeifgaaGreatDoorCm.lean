/- datum.Compare and Same. Conditions: bits below 2^64. -/
import Derived.Test.YtjkfcmadoeifgaaGreatDoorVc
import Derived.Test.YtjkfcmadoeifgaaGreatDoorD
import Derived.Test.YtjkfcmadoeifgaaGreatDoorShelf
namespace Go.Proofs.YtjkfcmadoeifgaaGreatDoor
open Go.RowKit
/-- The order of two values. -/
def compV (a b : DV) : Int :=
  if mayV a = true ∧ mayV b = true then (if a.k ≠ b.k then Lib.compareInt a.k b.k else if a.k = 1 then cmpN (rankN a.x) (rankN b.x) else if a.k = 2 then Lib.compareBytes a.s b.s else 0) else 0
def sameB (a b : DV) : Bool := mayV a && (mayV b && compV a b == 0)
theorem vcompare_any (a b : DV) (ha : a.wf) (hb : b.wf) (w : World) : Calls Tryz.prog 10 #[vagg a, vagg b] w fun e w' => e = .returned (.int .i64 (compV a b)) ∧ Below w.heap.size w w' := by
  have hax := ha.2.1
  have hbx := hb.2.1
  clear ha hb
  obtain ⟨ak, ax, asx⟩ := a
  obtain ⟨bk, bx, bs⟩ := b
  simp only at hax hbx
  have HW := Lib.hid (below2 w (vobj ⟨ak, ax, asx⟩) (vobj ⟨bk, bx, bs⟩))
  have HA := Lib.hid (at_two w ⟨ak, ax, asx⟩ ⟨bk, bx, bs⟩).1
  have HB := Lib.hid (at_two w ⟨ak, ax, asx⟩ ⟨bk, bx, bs⟩).2
  have HM1 := fun w => Lib.hid (may_any ⟨ak, ax, asx⟩ w)
  have HM2 := fun w => Lib.hid (may_any ⟨bk, bx, bs⟩ w)
  cases hma : mayV ⟨ak, ax, asx⟩
  · have e : compV ⟨ak, ax, asx⟩ ⟨bk, bx, bs⟩ = 0 := by unfold compV; rw [hma, if_neg (by simp)]
    rw [e]
    rw [hma] at HM1
    clear e hma
    go_enter Tryz.func10, Tryz.ntmps10
    go_wp2_with (first
      | (go_at_call 29; with_reducible refine (HM1 _).out.mono ?_; rintro e w1 ⟨rfl, hb⟩; have HA := Lib.hid (HA.out.below hb HA.out.lt); have A0 := HA.out.c0; have A1 := HA.out.c1; have A2 := HA.out.c2; dsimp only at A0 A1 A2; have HB := Lib.hid (HB.out.below hb HB.out.lt); have B0 := HB.out.c0; have B1 := HB.out.c1; have B2 := HB.out.c2; dsimp only at B0 B1 B2; have HW := Lib.hid (HW.out.trans (hb.mono HW.out.size)); clear hb))
    go_ret
    exact ⟨rfl, HW.out⟩
  cases hmb : mayV ⟨bk, bx, bs⟩
  · have e : compV ⟨ak, ax, asx⟩ ⟨bk, bx, bs⟩ = 0 := by unfold compV; rw [hmb, if_neg (by simp)]
    rw [e]
    rw [hma] at HM1
    rw [hmb] at HM2
    clear e hma hmb
    go_enter Tryz.func10, Tryz.ntmps10
    go_wp2_with (first
      | (go_at_call 29; with_reducible refine (HM1 _).out.mono ?_; rintro e w1 ⟨rfl, hb⟩; have HA := Lib.hid (HA.out.below hb HA.out.lt); have A0 := HA.out.c0; have A1 := HA.out.c1; have A2 := HA.out.c2; dsimp only at A0 A1 A2; have HB := Lib.hid (HB.out.below hb HB.out.lt); have B0 := HB.out.c0; have B1 := HB.out.c1; have B2 := HB.out.c2; dsimp only at B0 B1 B2; have HW := Lib.hid (HW.out.trans (hb.mono HW.out.size)); clear hb)
      | (go_at_call 29; with_reducible refine (HM2 _).out.mono ?_; rintro e w1 ⟨rfl, hb⟩; have HA := Lib.hid (HA.out.below hb HA.out.lt); have A0 := HA.out.c0; have A1 := HA.out.c1; have A2 := HA.out.c2; dsimp only at A0 A1 A2; have HB := Lib.hid (HB.out.below hb HB.out.lt); have B0 := HB.out.c0; have B1 := HB.out.c1; have B2 := HB.out.c2; dsimp only at B0 B1 B2; have HW := Lib.hid (HW.out.trans (hb.mono HW.out.size)); clear hb))
    go_ret
    exact ⟨rfl, HW.out⟩
  have e : compV ⟨ak, ax, asx⟩ ⟨bk, bx, bs⟩ = (if ak ≠ bk then Lib.compareInt ak bk else if ak = 1 then cmpN (rankN ax) (rankN bx) else if ak = 2 then Lib.compareBytes asx bs else 0) := by unfold compV; rw [if_pos ⟨hma, hmb⟩]
  rw [e]
  rw [hma] at HM1
  rw [hmb] at HM2
  clear e hma hmb
  by_cases hk : ak = bk
  · subst hk
    rw [if_neg (by simp)]
    have hkk : (ak != ak) = false := by simp
    by_cases h1 : ak = 1
    · subst h1
      rw [if_pos rfl]
      have HX := fun w => Lib.hid (compare_any ax bx w hax hbx)
      go_enter Tryz.func10, Tryz.ntmps10
      go_wp2_with (first
        | (go_at_call 29; with_reducible refine (HM1 _).out.mono ?_; rintro e w1 ⟨rfl, hb⟩; have HA := Lib.hid (HA.out.below hb HA.out.lt); have A0 := HA.out.c0; have A1 := HA.out.c1; have A2 := HA.out.c2; dsimp only at A0 A1 A2; have HB := Lib.hid (HB.out.below hb HB.out.lt); have B0 := HB.out.c0; have B1 := HB.out.c1; have B2 := HB.out.c2; dsimp only at B0 B1 B2; have HW := Lib.hid (HW.out.trans (hb.mono HW.out.size)); clear hb)
        | (go_at_call 29; with_reducible refine (HM2 _).out.mono ?_; rintro e w1 ⟨rfl, hb⟩; have HA := Lib.hid (HA.out.below hb HA.out.lt); have A0 := HA.out.c0; have A1 := HA.out.c1; have A2 := HA.out.c2; dsimp only at A0 A1 A2; have HB := Lib.hid (HB.out.below hb HB.out.lt); have B0 := HB.out.c0; have B1 := HB.out.c1; have B2 := HB.out.c2; dsimp only at B0 B1 B2; have HW := Lib.hid (HW.out.trans (hb.mono HW.out.size)); clear hb)
        | (go_at_call 38; with_reducible refine (HX _).out.mono ?_; rintro e w2 ⟨rfl, rfl⟩))
      go_ret
      exact ⟨rfl, HW.out⟩
    rw [if_neg h1]
    have b1 : (ak == 1) = false := by rw [beq_eq_false_iff_ne]; exact h1
    by_cases h2 : ak = 2
    · subst h2
      rw [if_pos rfl]
      have HX := fun w => Lib.hid (Tryz.strings_Compare ⟨asx.toArray⟩ ⟨bs.toArray⟩ w)
      rw [show (⟨asx.toArray⟩ : ByteArray).data.toList = asx from rfl, show (⟨bs.toArray⟩ : ByteArray).data.toList = bs from rfl] at HX
      clear h1
      go_enter Tryz.func10, Tryz.ntmps10
      go_wp2_with (first
        | (go_at_call 29; with_reducible refine (HM1 _).out.mono ?_; rintro e w1 ⟨rfl, hb⟩; have HA := Lib.hid (HA.out.below hb HA.out.lt); have A0 := HA.out.c0; have A1 := HA.out.c1; have A2 := HA.out.c2; dsimp only at A0 A1 A2; have HB := Lib.hid (HB.out.below hb HB.out.lt); have B0 := HB.out.c0; have B1 := HB.out.c1; have B2 := HB.out.c2; dsimp only at B0 B1 B2; have HW := Lib.hid (HW.out.trans (hb.mono HW.out.size)); clear hb)
        | (go_at_call 29; with_reducible refine (HM2 _).out.mono ?_; rintro e w1 ⟨rfl, hb⟩; have HA := Lib.hid (HA.out.below hb HA.out.lt); have A0 := HA.out.c0; have A1 := HA.out.c1; have A2 := HA.out.c2; dsimp only at A0 A1 A2; have HB := Lib.hid (HB.out.below hb HB.out.lt); have B0 := HB.out.c0; have B1 := HB.out.c1; have B2 := HB.out.c2; dsimp only at B0 B1 B2; have HW := Lib.hid (HW.out.trans (hb.mono HW.out.size)); clear hb)
        | (go_at_call 39; with_reducible refine (HX _).out.mono ?_; rintro e w2 ⟨rfl, hww⟩; obtain rfl := hww.symm))
      go_ret
      exact ⟨rfl, HW.out⟩
    rw [if_neg h2]
    have b2 : (ak == 2) = false := by rw [beq_eq_false_iff_ne]; exact h2
    clear h1 h2
    go_enter Tryz.func10, Tryz.ntmps10
    go_wp2_with (first
      | (go_at_call 29; with_reducible refine (HM1 _).out.mono ?_; rintro e w1 ⟨rfl, hb⟩; have HA := Lib.hid (HA.out.below hb HA.out.lt); have A0 := HA.out.c0; have A1 := HA.out.c1; have A2 := HA.out.c2; dsimp only at A0 A1 A2; have HB := Lib.hid (HB.out.below hb HB.out.lt); have B0 := HB.out.c0; have B1 := HB.out.c1; have B2 := HB.out.c2; dsimp only at B0 B1 B2; have HW := Lib.hid (HW.out.trans (hb.mono HW.out.size)); clear hb)
      | (go_at_call 29; with_reducible refine (HM2 _).out.mono ?_; rintro e w1 ⟨rfl, hb⟩; have HA := Lib.hid (HA.out.below hb HA.out.lt); have A0 := HA.out.c0; have A1 := HA.out.c1; have A2 := HA.out.c2; dsimp only at A0 A1 A2; have HB := Lib.hid (HB.out.below hb HB.out.lt); have B0 := HB.out.c0; have B1 := HB.out.c1; have B2 := HB.out.c2; dsimp only at B0 B1 B2; have HW := Lib.hid (HW.out.trans (hb.mono HW.out.size)); clear hb))
    go_ret
    exact ⟨rfl, HW.out⟩
  · rw [if_pos hk]
    have hkk : (ak != bk) = true := by rw [bne_iff_ne]; exact hk
    have HX := fun w => Lib.hid (Tryz.cmp_Compare_int ak bk w)
    clear hk
    go_enter Tryz.func10, Tryz.ntmps10
    go_wp2_with (first
      | (go_at_call 29; with_reducible refine (HM1 _).out.mono ?_; rintro e w1 ⟨rfl, hb⟩; have HA := Lib.hid (HA.out.below hb HA.out.lt); have A0 := HA.out.c0; have A1 := HA.out.c1; have A2 := HA.out.c2; dsimp only at A0 A1 A2; have HB := Lib.hid (HB.out.below hb HB.out.lt); have B0 := HB.out.c0; have B1 := HB.out.c1; have B2 := HB.out.c2; dsimp only at B0 B1 B2; have HW := Lib.hid (HW.out.trans (hb.mono HW.out.size)); clear hb)
      | (go_at_call 29; with_reducible refine (HM2 _).out.mono ?_; rintro e w1 ⟨rfl, hb⟩; have HA := Lib.hid (HA.out.below hb HA.out.lt); have A0 := HA.out.c0; have A1 := HA.out.c1; have A2 := HA.out.c2; dsimp only at A0 A1 A2; have HB := Lib.hid (HB.out.below hb HB.out.lt); have B0 := HB.out.c0; have B1 := HB.out.c1; have B2 := HB.out.c2; dsimp only at B0 B1 B2; have HW := Lib.hid (HW.out.trans (hb.mono HW.out.size)); clear hb)
      | (go_at_call 37; with_reducible refine (HX _).out.mono ?_; rintro e w2 ⟨rfl, hww⟩; obtain rfl := hww.symm))
    go_ret
    exact ⟨rfl, HW.out⟩
theorem vsame_any (a b : DV) (ha : a.wf) (hb : b.wf) (w : World) : Calls Tryz.prog 12 #[vagg a, vagg b] w fun e w' => e = .returned (.bool (sameB a b)) ∧ Below w.heap.size w w' := by
  have HC := fun w => Lib.hid (vcompare_any a b ha hb w)
  clear ha hb
  unfold sameB
  obtain ⟨ak, ax, asx⟩ := a
  obtain ⟨bk, bx, bs⟩ := b
  have HW := Lib.hid (below2 w (vobj ⟨ak, ax, asx⟩) (vobj ⟨bk, bx, bs⟩))
  have HA := Lib.hid (at_two w ⟨ak, ax, asx⟩ ⟨bk, bx, bs⟩).1
  have HB := Lib.hid (at_two w ⟨ak, ax, asx⟩ ⟨bk, bx, bs⟩).2
  have HM1 := fun w => Lib.hid (may_any ⟨ak, ax, asx⟩ w)
  have HM2 := fun w => Lib.hid (may_any ⟨bk, bx, bs⟩ w)
  generalize compV ⟨ak, ax, asx⟩ ⟨bk, bx, bs⟩ = n at *
  cases hma : mayV ⟨ak, ax, asx⟩
  · rw [hma] at HM1
    clear hma
    go_enter Tryz.func12, Tryz.ntmps12
    go_wp2_with (first
      | (go_at_call 29; with_reducible refine (HM1 _).out.mono ?_; rintro e w1 ⟨rfl, hb⟩; have HA := Lib.hid (HA.out.below hb HA.out.lt); have A0 := HA.out.c0; have A1 := HA.out.c1; have A2 := HA.out.c2; dsimp only at A0 A1 A2; have HB := Lib.hid (HB.out.below hb HB.out.lt); have B0 := HB.out.c0; have B1 := HB.out.c1; have B2 := HB.out.c2; dsimp only at B0 B1 B2; have HW := Lib.hid (HW.out.trans (hb.mono HW.out.size)); clear hb))
    go_ret
    exact ⟨rfl, HW.out⟩
  cases hmb : mayV ⟨bk, bx, bs⟩
  · rw [hma] at HM1
    rw [hmb] at HM2
    clear hma hmb
    go_enter Tryz.func12, Tryz.ntmps12
    go_wp2_with (first
      | (go_at_call 29; with_reducible refine (HM1 _).out.mono ?_; rintro e w1 ⟨rfl, hb⟩; have HA := Lib.hid (HA.out.below hb HA.out.lt); have A0 := HA.out.c0; have A1 := HA.out.c1; have A2 := HA.out.c2; dsimp only at A0 A1 A2; have HB := Lib.hid (HB.out.below hb HB.out.lt); have B0 := HB.out.c0; have B1 := HB.out.c1; have B2 := HB.out.c2; dsimp only at B0 B1 B2; have HW := Lib.hid (HW.out.trans (hb.mono HW.out.size)); clear hb)
      | (go_at_call 29; with_reducible refine (HM2 _).out.mono ?_; rintro e w1 ⟨rfl, hb⟩; have HA := Lib.hid (HA.out.below hb HA.out.lt); have A0 := HA.out.c0; have A1 := HA.out.c1; have A2 := HA.out.c2; dsimp only at A0 A1 A2; have HB := Lib.hid (HB.out.below hb HB.out.lt); have B0 := HB.out.c0; have B1 := HB.out.c1; have B2 := HB.out.c2; dsimp only at B0 B1 B2; have HW := Lib.hid (HW.out.trans (hb.mono HW.out.size)); clear hb))
    go_ret
    exact ⟨rfl, HW.out⟩
  rw [hma] at HM1
  rw [hmb] at HM2
  clear hma hmb
  go_enter Tryz.func12, Tryz.ntmps12
  go_wp2_with (first
    | (go_at_call 29; with_reducible refine (HM1 _).out.mono ?_; rintro e w1 ⟨rfl, hb⟩; have HA := Lib.hid (HA.out.below hb HA.out.lt); have A0 := HA.out.c0; have A1 := HA.out.c1; have A2 := HA.out.c2; dsimp only at A0 A1 A2; have HB := Lib.hid (HB.out.below hb HB.out.lt); have B0 := HB.out.c0; have B1 := HB.out.c1; have B2 := HB.out.c2; dsimp only at B0 B1 B2; have HW := Lib.hid (HW.out.trans (hb.mono HW.out.size)); clear hb)
    | (go_at_call 29; with_reducible refine (HM2 _).out.mono ?_; rintro e w1 ⟨rfl, hb⟩; have HA := Lib.hid (HA.out.below hb HA.out.lt); have A0 := HA.out.c0; have A1 := HA.out.c1; have A2 := HA.out.c2; dsimp only at A0 A1 A2; have HB := Lib.hid (HB.out.below hb HB.out.lt); have B0 := HB.out.c0; have B1 := HB.out.c1; have B2 := HB.out.c2; dsimp only at B0 B1 B2; have HW := Lib.hid (HW.out.trans (hb.mono HW.out.size)); clear hb)
    | (go_at_call 10; with_reducible refine (HC _).out.mono ?_; rintro e w1 ⟨rfl, hb⟩; have HW := Lib.hid (HW.out.trans (hb.mono HW.out.size)); clear hb))
  go_ret
  exact ⟨by simp, HW.out⟩
end Go.Proofs.YtjkfcmadoeifgaaGreatDoor
