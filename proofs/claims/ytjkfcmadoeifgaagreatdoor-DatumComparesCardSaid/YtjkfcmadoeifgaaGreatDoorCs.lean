/- raceref3.Same, Plus. Conditions: bits below 2^64. -/
import Derived.Test.YtjkfcmadoeifgaaGreatDoorCr
namespace Go.Proofs.YtjkfcmadoeifgaaGreatDoor
open Go.RowKit
theorem vrsame_any (a b : DV) (ha : a.wf) (hb : b.wf) (w : World) : Calls Tryz.prog 13 #[vagg a, vagg b] w fun e w' => e = .returned (.bool (sameB a b)) ∧ Below w.heap.size w w' := by
  have HC := fun w => Lib.hid (vrcompare_any a b ha hb w)
  clear ha hb
  unfold sameB
  obtain ⟨ak, ax, asx⟩ := a
  obtain ⟨bk, bx, bs⟩ := b
  have HW := Lib.hid (below2 w (vobj ⟨ak, ax, asx⟩) (vobj ⟨bk, bx, bs⟩))
  have HA := Lib.hid (at_two w ⟨ak, ax, asx⟩ ⟨bk, bx, bs⟩).1
  have HB := Lib.hid (at_two w ⟨ak, ax, asx⟩ ⟨bk, bx, bs⟩).2
  have HM1 := fun w => Lib.hid (rmay_any ⟨ak, ax, asx⟩ w)
  have HM2 := fun w => Lib.hid (rmay_any ⟨bk, bx, bs⟩ w)
  generalize compV ⟨ak, ax, asx⟩ ⟨bk, bx, bs⟩ = n at *
  cases hma : mayV ⟨ak, ax, asx⟩
  · rw [hma] at HM1
    clear hma
    go_enter Tryz.func13, Tryz.ntmps13
    go_wp2_with (first
      | (go_at_call 34; with_reducible refine (HM1 _).out.mono ?_; rintro e w1 ⟨rfl, hb⟩; have HA := Lib.hid (HA.out.below hb HA.out.lt); have A0 := HA.out.c0; have A1 := HA.out.c1; have A2 := HA.out.c2; dsimp only at A0 A1 A2; have HB := Lib.hid (HB.out.below hb HB.out.lt); have B0 := HB.out.c0; have B1 := HB.out.c1; have B2 := HB.out.c2; dsimp only at B0 B1 B2; have HW := Lib.hid (HW.out.trans (hb.mono HW.out.size)); clear hb))
    go_ret
    exact ⟨rfl, HW.out⟩
  cases hmb : mayV ⟨bk, bx, bs⟩
  · rw [hma] at HM1
    rw [hmb] at HM2
    clear hma hmb
    go_enter Tryz.func13, Tryz.ntmps13
    go_wp2_with (first
      | (go_at_call 34; with_reducible refine (HM1 _).out.mono ?_; rintro e w1 ⟨rfl, hb⟩; have HA := Lib.hid (HA.out.below hb HA.out.lt); have A0 := HA.out.c0; have A1 := HA.out.c1; have A2 := HA.out.c2; dsimp only at A0 A1 A2; have HB := Lib.hid (HB.out.below hb HB.out.lt); have B0 := HB.out.c0; have B1 := HB.out.c1; have B2 := HB.out.c2; dsimp only at B0 B1 B2; have HW := Lib.hid (HW.out.trans (hb.mono HW.out.size)); clear hb)
      | (go_at_call 34; with_reducible refine (HM2 _).out.mono ?_; rintro e w1 ⟨rfl, hb⟩; have HA := Lib.hid (HA.out.below hb HA.out.lt); have A0 := HA.out.c0; have A1 := HA.out.c1; have A2 := HA.out.c2; dsimp only at A0 A1 A2; have HB := Lib.hid (HB.out.below hb HB.out.lt); have B0 := HB.out.c0; have B1 := HB.out.c1; have B2 := HB.out.c2; dsimp only at B0 B1 B2; have HW := Lib.hid (HW.out.trans (hb.mono HW.out.size)); clear hb))
    go_ret
    exact ⟨rfl, HW.out⟩
  rw [hma] at HM1
  rw [hmb] at HM2
  clear hma hmb
  go_enter Tryz.func13, Tryz.ntmps13
  go_wp2_with (first
    | (go_at_call 34; with_reducible refine (HM1 _).out.mono ?_; rintro e w1 ⟨rfl, hb⟩; have HA := Lib.hid (HA.out.below hb HA.out.lt); have A0 := HA.out.c0; have A1 := HA.out.c1; have A2 := HA.out.c2; dsimp only at A0 A1 A2; have HB := Lib.hid (HB.out.below hb HB.out.lt); have B0 := HB.out.c0; have B1 := HB.out.c1; have B2 := HB.out.c2; dsimp only at B0 B1 B2; have HW := Lib.hid (HW.out.trans (hb.mono HW.out.size)); clear hb)
    | (go_at_call 34; with_reducible refine (HM2 _).out.mono ?_; rintro e w1 ⟨rfl, hb⟩; have HA := Lib.hid (HA.out.below hb HA.out.lt); have A0 := HA.out.c0; have A1 := HA.out.c1; have A2 := HA.out.c2; dsimp only at A0 A1 A2; have HB := Lib.hid (HB.out.below hb HB.out.lt); have B0 := HB.out.c0; have B1 := HB.out.c1; have B2 := HB.out.c2; dsimp only at B0 B1 B2; have HW := Lib.hid (HW.out.trans (hb.mono HW.out.size)); clear hb)
    | (go_at_call 11; with_reducible refine (HC _).out.mono ?_; rintro e w1 ⟨rfl, hb⟩; have HW := Lib.hid (HW.out.trans (hb.mono HW.out.size)); clear hb))
  go_ret
  exact ⟨by simp, HW.out⟩
theorem addV_no {a : DV} (h : mayV a = false ∨ a.k = 2) : (addV a).2 = false := by
  unfold addV
  rcases h with h | h
  · rw [h]; rfl
  · split
    · rw [if_neg (by omega), if_neg (by omega)]
    · rfl
theorem addV_yes {a : DV} (h : mayV a = true) (h2 : a.k ≠ 2) : addV a = (a.x, true) := by
  unfold addV
  rw [h, if_pos rfl]
  rcases may_kind h with h0 | h0 | h0
  · rw [if_pos h0]
    unfold mayV at h
    rw [if_pos h0] at h
    simp at h
    rw [h.1]
  · rw [if_neg (by omega), if_pos h0]
  · exact absurd h0 h2
theorem plusV_no {a b : DV} (h : (addV a).2 = false ∨ (addV b).2 = false) : plusV a b = (DV.none, 23) := by
  unfold plusV
  rcases h with h | h <;> rw [h] <;> simp
theorem rplus_any (a b : DV) (w : World) : Calls Tryz.prog 9 #[vagg a, vagg b] w fun e w' => e = .returned (.tuple #[vagg (plusV a b).1, .int .i64 (plusV a b).2]) ∧ Below w.heap.size w w' := by
  have hst := run_stf
  obtain ⟨ak, ax, asx⟩ := a
  obtain ⟨bk, bx, bs⟩ := b
  have HW := Lib.hid (below3 w (vobj ⟨ak, ax, asx⟩) (vobj ⟨bk, bx, bs⟩) (vobj ⟨0, 0, []⟩))
  have HA := Lib.hid (at_three w ⟨ak, ax, asx⟩ ⟨bk, bx, bs⟩ ⟨0, 0, []⟩).1
  have HB := Lib.hid (at_three w ⟨ak, ax, asx⟩ ⟨bk, bx, bs⟩ ⟨0, 0, []⟩).2.1
  have HZ := Lib.hid (at_three w ⟨ak, ax, asx⟩ ⟨bk, bx, bs⟩ ⟨0, 0, []⟩).2.2
  have HM1 := fun w => Lib.hid (rmay_any ⟨ak, ax, asx⟩ w)
  have HM2 := fun w => Lib.hid (rmay_any ⟨bk, bx, bs⟩ w)
  cases hma : mayV ⟨ak, ax, asx⟩
  · rw [plusV_no (.inl (addV_no (.inl hma)))]
    rw [hma] at HM1
    clear hma
    go_enter Tryz.func9, Tryz.ntmps9
    go_wp2_with (first
      | (go_at_call 34; with_reducible refine (HM1 _).out.mono ?_; rintro e w1 ⟨rfl, hb⟩; have HA := Lib.hid (HA.out.below hb HA.out.lt); have A0 := HA.out.c0; have A1 := HA.out.c1; have A2 := HA.out.c2; dsimp only at A0 A1 A2; have HB := Lib.hid (HB.out.below hb HB.out.lt); have B0 := HB.out.c0; have B1 := HB.out.c1; have B2 := HB.out.c2; dsimp only at B0 B1 B2; have HZ := Lib.hid (HZ.out.below hb HZ.out.lt); have Z0 := HZ.out.c0; have Z1 := HZ.out.c1; have Z2 := HZ.out.c2; dsimp only at Z0 Z1 Z2; have g0 := HZ.out.f0; have g1 := HZ.out.f1; have g2 := HZ.out.f2; have HW := Lib.hid (HW.out.trans (hb.mono HW.out.size)); clear hb)
      | (go_at_call 34; with_reducible refine (HM2 _).out.mono ?_; rintro e w1 ⟨rfl, hb⟩; have HA := Lib.hid (HA.out.below hb HA.out.lt); have A0 := HA.out.c0; have A1 := HA.out.c1; have A2 := HA.out.c2; dsimp only at A0 A1 A2; have HB := Lib.hid (HB.out.below hb HB.out.lt); have B0 := HB.out.c0; have B1 := HB.out.c1; have B2 := HB.out.c2; dsimp only at B0 B1 B2; have HZ := Lib.hid (HZ.out.below hb HZ.out.lt); have Z0 := HZ.out.c0; have Z1 := HZ.out.c1; have Z2 := HZ.out.c2; dsimp only at Z0 Z1 Z2; have g0 := HZ.out.f0; have g1 := HZ.out.f1; have g2 := HZ.out.f2; have HW := Lib.hid (HW.out.trans (hb.mono HW.out.size)); clear hb))
    exact bodyPost_ret (res_pair rfl _ rfl (HZ.out.setAll DV.none)) rfl ⟨rfl, below_set3 HW.out (by omega) _ _ _⟩
  cases hmb : mayV ⟨bk, bx, bs⟩
  · rw [plusV_no (.inr (addV_no (.inl hmb)))]
    rw [hma] at HM1
    rw [hmb] at HM2
    clear hma hmb
    go_enter Tryz.func9, Tryz.ntmps9
    go_wp2_with (first
      | (go_at_call 34; with_reducible refine (HM1 _).out.mono ?_; rintro e w1 ⟨rfl, hb⟩; have HA := Lib.hid (HA.out.below hb HA.out.lt); have A0 := HA.out.c0; have A1 := HA.out.c1; have A2 := HA.out.c2; dsimp only at A0 A1 A2; have HB := Lib.hid (HB.out.below hb HB.out.lt); have B0 := HB.out.c0; have B1 := HB.out.c1; have B2 := HB.out.c2; dsimp only at B0 B1 B2; have HZ := Lib.hid (HZ.out.below hb HZ.out.lt); have Z0 := HZ.out.c0; have Z1 := HZ.out.c1; have Z2 := HZ.out.c2; dsimp only at Z0 Z1 Z2; have g0 := HZ.out.f0; have g1 := HZ.out.f1; have g2 := HZ.out.f2; have HW := Lib.hid (HW.out.trans (hb.mono HW.out.size)); clear hb)
      | (go_at_call 34; with_reducible refine (HM2 _).out.mono ?_; rintro e w1 ⟨rfl, hb⟩; have HA := Lib.hid (HA.out.below hb HA.out.lt); have A0 := HA.out.c0; have A1 := HA.out.c1; have A2 := HA.out.c2; dsimp only at A0 A1 A2; have HB := Lib.hid (HB.out.below hb HB.out.lt); have B0 := HB.out.c0; have B1 := HB.out.c1; have B2 := HB.out.c2; dsimp only at B0 B1 B2; have HZ := Lib.hid (HZ.out.below hb HZ.out.lt); have Z0 := HZ.out.c0; have Z1 := HZ.out.c1; have Z2 := HZ.out.c2; dsimp only at Z0 Z1 Z2; have g0 := HZ.out.f0; have g1 := HZ.out.f1; have g2 := HZ.out.f2; have HW := Lib.hid (HW.out.trans (hb.mono HW.out.size)); clear hb))
    exact bodyPost_ret (res_pair rfl _ rfl (HZ.out.setAll DV.none)) rfl ⟨rfl, below_set3 HW.out (by omega) _ _ _⟩
  by_cases ha2 : ak = 2
  · subst ha2
    rw [plusV_no (.inl (addV_no (.inr rfl)))]
    rw [hma] at HM1
    rw [hmb] at HM2
    clear hma hmb
    go_enter Tryz.func9, Tryz.ntmps9
    go_wp2_with (first
      | (go_at_call 34; with_reducible refine (HM1 _).out.mono ?_; rintro e w1 ⟨rfl, hb⟩; have HA := Lib.hid (HA.out.below hb HA.out.lt); have A0 := HA.out.c0; have A1 := HA.out.c1; have A2 := HA.out.c2; dsimp only at A0 A1 A2; have HB := Lib.hid (HB.out.below hb HB.out.lt); have B0 := HB.out.c0; have B1 := HB.out.c1; have B2 := HB.out.c2; dsimp only at B0 B1 B2; have HZ := Lib.hid (HZ.out.below hb HZ.out.lt); have Z0 := HZ.out.c0; have Z1 := HZ.out.c1; have Z2 := HZ.out.c2; dsimp only at Z0 Z1 Z2; have g0 := HZ.out.f0; have g1 := HZ.out.f1; have g2 := HZ.out.f2; have HW := Lib.hid (HW.out.trans (hb.mono HW.out.size)); clear hb)
      | (go_at_call 34; with_reducible refine (HM2 _).out.mono ?_; rintro e w1 ⟨rfl, hb⟩; have HA := Lib.hid (HA.out.below hb HA.out.lt); have A0 := HA.out.c0; have A1 := HA.out.c1; have A2 := HA.out.c2; dsimp only at A0 A1 A2; have HB := Lib.hid (HB.out.below hb HB.out.lt); have B0 := HB.out.c0; have B1 := HB.out.c1; have B2 := HB.out.c2; dsimp only at B0 B1 B2; have HZ := Lib.hid (HZ.out.below hb HZ.out.lt); have Z0 := HZ.out.c0; have Z1 := HZ.out.c1; have Z2 := HZ.out.c2; dsimp only at Z0 Z1 Z2; have g0 := HZ.out.f0; have g1 := HZ.out.f1; have g2 := HZ.out.f2; have HW := Lib.hid (HW.out.trans (hb.mono HW.out.size)); clear hb))
    exact bodyPost_ret (res_pair rfl _ rfl (HZ.out.setAll DV.none)) rfl ⟨rfl, below_set3 HW.out (by omega) _ _ _⟩
  by_cases hb2 : bk = 2
  · subst hb2
    rw [plusV_no (.inr (addV_no (.inr rfl)))]
    rw [hma] at HM1
    rw [hmb] at HM2
    have ia : (ak == 2) = false := by rw [beq_eq_false_iff_ne]; exact ha2
    clear hma hmb ha2
    go_enter Tryz.func9, Tryz.ntmps9
    go_wp2_with (first
      | (go_at_call 34; with_reducible refine (HM1 _).out.mono ?_; rintro e w1 ⟨rfl, hb⟩; have HA := Lib.hid (HA.out.below hb HA.out.lt); have A0 := HA.out.c0; have A1 := HA.out.c1; have A2 := HA.out.c2; dsimp only at A0 A1 A2; have HB := Lib.hid (HB.out.below hb HB.out.lt); have B0 := HB.out.c0; have B1 := HB.out.c1; have B2 := HB.out.c2; dsimp only at B0 B1 B2; have HZ := Lib.hid (HZ.out.below hb HZ.out.lt); have Z0 := HZ.out.c0; have Z1 := HZ.out.c1; have Z2 := HZ.out.c2; dsimp only at Z0 Z1 Z2; have g0 := HZ.out.f0; have g1 := HZ.out.f1; have g2 := HZ.out.f2; have HW := Lib.hid (HW.out.trans (hb.mono HW.out.size)); clear hb)
      | (go_at_call 34; with_reducible refine (HM2 _).out.mono ?_; rintro e w1 ⟨rfl, hb⟩; have HA := Lib.hid (HA.out.below hb HA.out.lt); have A0 := HA.out.c0; have A1 := HA.out.c1; have A2 := HA.out.c2; dsimp only at A0 A1 A2; have HB := Lib.hid (HB.out.below hb HB.out.lt); have B0 := HB.out.c0; have B1 := HB.out.c1; have B2 := HB.out.c2; dsimp only at B0 B1 B2; have HZ := Lib.hid (HZ.out.below hb HZ.out.lt); have Z0 := HZ.out.c0; have Z1 := HZ.out.c1; have Z2 := HZ.out.c2; dsimp only at Z0 Z1 Z2; have g0 := HZ.out.f0; have g1 := HZ.out.f1; have g2 := HZ.out.f2; have HW := Lib.hid (HW.out.trans (hb.mono HW.out.size)); clear hb))
    exact bodyPost_ret (res_pair rfl _ rfl (HZ.out.setAll DV.none)) rfl ⟨rfl, below_set3 HW.out (by omega) _ _ _⟩
  have hp : plusV ⟨ak, ax, asx⟩ ⟨bk, bx, bs⟩ = (⟨1, canon (resN (Ieee.double.add ax bx)), []⟩, 0) := by
    unfold plusV
    rw [addV_yes hma ha2, addV_yes hmb hb2]
    rfl
  rw [hp]
  rw [hma] at HM1
  rw [hmb] at HM2
  have ia : (ak == 2) = false := by rw [beq_eq_false_iff_ne]; exact ha2
  have ib : (bk == 2) = false := by rw [beq_eq_false_iff_ne]; exact hb2
  clear hp hma hmb ha2 hb2
  go_enter Tryz.func9, Tryz.ntmps9
  go_wp2_with (first
    | (go_at_call 34; with_reducible refine (HM1 _).out.mono ?_; rintro e w1 ⟨rfl, hb⟩; have HA := Lib.hid (HA.out.below hb HA.out.lt); have A0 := HA.out.c0; have A1 := HA.out.c1; have A2 := HA.out.c2; dsimp only at A0 A1 A2; have HB := Lib.hid (HB.out.below hb HB.out.lt); have B0 := HB.out.c0; have B1 := HB.out.c1; have B2 := HB.out.c2; dsimp only at B0 B1 B2; have HZ := Lib.hid (HZ.out.below hb HZ.out.lt); have Z0 := HZ.out.c0; have Z1 := HZ.out.c1; have Z2 := HZ.out.c2; dsimp only at Z0 Z1 Z2; have g0 := HZ.out.f0; have g1 := HZ.out.f1; have g2 := HZ.out.f2; have HW := Lib.hid (HW.out.trans (hb.mono HW.out.size)); clear hb)
    | (go_at_call 34; with_reducible refine (HM2 _).out.mono ?_; rintro e w1 ⟨rfl, hb⟩; have HA := Lib.hid (HA.out.below hb HA.out.lt); have A0 := HA.out.c0; have A1 := HA.out.c1; have A2 := HA.out.c2; dsimp only at A0 A1 A2; have HB := Lib.hid (HB.out.below hb HB.out.lt); have B0 := HB.out.c0; have B1 := HB.out.c1; have B2 := HB.out.c2; dsimp only at B0 B1 B2; have HZ := Lib.hid (HZ.out.below hb HZ.out.lt); have Z0 := HZ.out.c0; have Z1 := HZ.out.c1; have Z2 := HZ.out.c2; dsimp only at Z0 Z1 Z2; have g0 := HZ.out.f0; have g1 := HZ.out.f1; have g2 := HZ.out.f2; have HW := Lib.hid (HW.out.trans (hb.mono HW.out.size)); clear hb)
    | (go_at_call 36; refine (does0_any _ _ _).mono ?_; rintro e w3 ⟨rfl, hb0⟩; have hb := drew_below hb0; have HZ := Lib.hid (HZ.out.below hb HZ.out.lt); have Z0 := HZ.out.c0; have Z1 := HZ.out.c1; have Z2 := HZ.out.c2; dsimp only at Z0 Z1 Z2; have g0 := HZ.out.f0; have g1 := HZ.out.f1; have g2 := HZ.out.f2; have HW := Lib.hid (HW.out.trans (hb.mono HW.out.size)); clear hb hb0)
    | (go_at_call 35; refine (rnumber_any _ _).mono ?_; rintro e w4 ⟨rfl, hb⟩; have HZ := Lib.hid (HZ.out.below hb HZ.out.lt); have Z0 := HZ.out.c0; have Z1 := HZ.out.c1; have Z2 := HZ.out.c2; dsimp only at Z0 Z1 Z2; have g0 := HZ.out.f0; have g1 := HZ.out.f1; have g2 := HZ.out.f2; have HW := Lib.hid (HW.out.trans (hb.mono HW.out.size)); clear hb))
  exact bodyPost_ret (res_pair rfl _ rfl (HZ.out.setAll ⟨1, _, []⟩)) rfl ⟨rfl, below_set3 HW.out (by omega) _ _ _⟩
end Go.Proofs.YtjkfcmadoeifgaaGreatDoor
