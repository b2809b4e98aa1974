/- raceref3.Compare, Same, Plus. Conditions: bits below 2^64. -/
import Derived.Test.YtjkfcmadoeifgaaGreatDoorCm
namespace Go.Proofs.YtjkfcmadoeifgaaGreatDoor
open Go.RowKit
theorem cmp_less : ∀ s t : List UInt8, Lib.compareBytes s t = if Op.bytesLess s t = true then -1 else if Op.bytesLess t s = true then 1 else 0 := by
  intro s
  induction s with
  | nil => intro t; cases t <;> simp [Lib.compareBytes, Op.bytesLess]
  | cons a r ih =>
    intro t
    cases t with
    | nil => simp [Lib.compareBytes, Op.bytesLess]
    | cons b u =>
      simp only [Lib.compareBytes, Op.bytesLess, ih u]
      by_cases h1 : a < b
      · have h2 : ¬ b < a := fun h => absurd (UInt8.lt_trans h1 h) (UInt8.lt_irrefl _)
        simp [h1]
      · by_cases h2 : b < a
        · have h3 : ¬ a = b := fun h => by subst h; exact h1 h2
          simp [h1, h2, h3]
        · have h3 : a = b := UInt8.le_antisymm (UInt8.not_lt.1 h2) (UInt8.not_lt.1 h1)
          subst h3
          simp [h1]
theorem less_self : ∀ s : List UInt8, Op.bytesLess s s = false := by
  intro s
  induction s with
  | nil => rfl
  | cons a r ih => simp [Op.bytesLess, ih]
theorem less_none : ∀ s t : List UInt8, Op.bytesLess s t = false → Op.bytesLess t s = false → s = t := by
  intro s
  induction s with
  | nil => intro t h _; cases t with | nil => rfl | cons => simp [Op.bytesLess] at h
  | cons a r ih =>
    intro t h1 h2
    cases t with
    | nil => simp [Op.bytesLess] at h2
    | cons b u =>
      simp only [Op.bytesLess, Bool.or_eq_false_iff, decide_eq_false_iff_not] at h1 h2
      have e : a = b := UInt8.le_antisymm (UInt8.not_lt.1 h2.1) (UInt8.not_lt.1 h1.1)
      subst e
      simp at h1 h2
      rw [ih u h1 h2]
theorem may_kind {a : DV} (h : mayV a = true) : a.k = 0 ∨ a.k = 1 ∨ a.k = 2 := by
  unfold mayV at h
  split at h
  · rename_i h0; exact .inl h0
  · split at h
    · rename_i h1; exact .inr (.inl h1)
    · split at h
      · rename_i h2; exact .inr (.inr h2)
      · cases h
theorem vrcompare_any (a b : DV) (ha : a.wf) (hb : b.wf) (w : World) : Calls Tryz.prog 11 #[vagg a, vagg b] w fun e w' => e = .returned (.int .i64 (compV a b)) ∧ Below w.heap.size w w' := by
  have hax := ha.2.1
  have hbx := hb.2.1
  clear ha hb
  obtain ⟨ak, ax, asx⟩ := a
  obtain ⟨bk, bx, bs⟩ := b
  simp only at hax hbx
  have HW := Lib.hid (below2 w (vobj ⟨ak, ax, asx⟩) (vobj ⟨bk, bx, bs⟩))
  have HA := Lib.hid (at_two w ⟨ak, ax, asx⟩ ⟨bk, bx, bs⟩).1
  have HB := Lib.hid (at_two w ⟨ak, ax, asx⟩ ⟨bk, bx, bs⟩).2
  have HM1 := fun w => Lib.hid (rmay_any ⟨ak, ax, asx⟩ w)
  have HM2 := fun w => Lib.hid (rmay_any ⟨bk, bx, bs⟩ w)
  cases hma : mayV ⟨ak, ax, asx⟩
  · have e : compV ⟨ak, ax, asx⟩ ⟨bk, bx, bs⟩ = 0 := by unfold compV; rw [hma, if_neg (by simp)]
    rw [e]
    rw [hma] at HM1
    clear e hma
    go_enter Tryz.func11, Tryz.ntmps11
    go_wp2_with (first
      | (go_at_call 34; with_reducible refine (HM1 _).out.mono ?_; rintro e w1 ⟨rfl, hb⟩; have HA := Lib.hid (HA.out.below hb HA.out.lt); have A0 := HA.out.c0; have A1 := HA.out.c1; have A2 := HA.out.c2; dsimp only at A0 A1 A2; have HB := Lib.hid (HB.out.below hb HB.out.lt); have B0 := HB.out.c0; have B1 := HB.out.c1; have B2 := HB.out.c2; dsimp only at B0 B1 B2; have HW := Lib.hid (HW.out.trans (hb.mono HW.out.size)); clear hb)
      | (go_at_call 34; with_reducible refine (HM2 _).out.mono ?_; rintro e w1 ⟨rfl, hb⟩; have HA := Lib.hid (HA.out.below hb HA.out.lt); have A0 := HA.out.c0; have A1 := HA.out.c1; have A2 := HA.out.c2; dsimp only at A0 A1 A2; have HB := Lib.hid (HB.out.below hb HB.out.lt); have B0 := HB.out.c0; have B1 := HB.out.c1; have B2 := HB.out.c2; dsimp only at B0 B1 B2; have HW := Lib.hid (HW.out.trans (hb.mono HW.out.size)); clear hb))
    go_ret
    exact ⟨rfl, HW.out⟩
  cases hmb : mayV ⟨bk, bx, bs⟩
  · have e : compV ⟨ak, ax, asx⟩ ⟨bk, bx, bs⟩ = 0 := by unfold compV; rw [hmb, if_neg (by simp)]
    rw [e]
    rw [hma] at HM1
    rw [hmb] at HM2
    clear e hma hmb
    go_enter Tryz.func11, Tryz.ntmps11
    go_wp2_with (first
      | (go_at_call 34; with_reducible refine (HM1 _).out.mono ?_; rintro e w1 ⟨rfl, hb⟩; have HA := Lib.hid (HA.out.below hb HA.out.lt); have A0 := HA.out.c0; have A1 := HA.out.c1; have A2 := HA.out.c2; dsimp only at A0 A1 A2; have HB := Lib.hid (HB.out.below hb HB.out.lt); have B0 := HB.out.c0; have B1 := HB.out.c1; have B2 := HB.out.c2; dsimp only at B0 B1 B2; have HW := Lib.hid (HW.out.trans (hb.mono HW.out.size)); clear hb)
      | (go_at_call 34; with_reducible refine (HM2 _).out.mono ?_; rintro e w1 ⟨rfl, hb⟩; have HA := Lib.hid (HA.out.below hb HA.out.lt); have A0 := HA.out.c0; have A1 := HA.out.c1; have A2 := HA.out.c2; dsimp only at A0 A1 A2; have HB := Lib.hid (HB.out.below hb HB.out.lt); have B0 := HB.out.c0; have B1 := HB.out.c1; have B2 := HB.out.c2; dsimp only at B0 B1 B2; have HW := Lib.hid (HW.out.trans (hb.mono HW.out.size)); clear hb))
    go_ret
    exact ⟨rfl, HW.out⟩
  have e : compV ⟨ak, ax, asx⟩ ⟨bk, bx, bs⟩ = (if ak ≠ bk then Lib.compareInt ak bk else if ak = 1 then cmpN (rankN ax) (rankN bx) else if ak = 2 then Lib.compareBytes asx bs else 0) := by unfold compV; rw [if_pos ⟨hma, hmb⟩]
  have hka := may_kind hma
  have hkb := may_kind hmb
  simp only at hka hkb
  rw [e]
  rw [hma] at HM1
  rw [hmb] at HM2
  clear e hma hmb
  by_cases hk : ak = bk
  · subst hk
    rw [if_neg (by simp)]
    rcases hka with rfl | rfl | rfl
    · rw [if_neg (by decide), if_neg (by decide)]
      clear hkb
      go_enter Tryz.func11, Tryz.ntmps11
      go_wp2_with (first
        | (go_at_call 34; with_reducible refine (HM1 _).out.mono ?_; rintro e w1 ⟨rfl, hb⟩; have HA := Lib.hid (HA.out.below hb HA.out.lt); have A0 := HA.out.c0; have A1 := HA.out.c1; have A2 := HA.out.c2; dsimp only at A0 A1 A2; have HB := Lib.hid (HB.out.below hb HB.out.lt); have B0 := HB.out.c0; have B1 := HB.out.c1; have B2 := HB.out.c2; dsimp only at B0 B1 B2; have HW := Lib.hid (HW.out.trans (hb.mono HW.out.size)); clear hb)
        | (go_at_call 34; with_reducible refine (HM2 _).out.mono ?_; rintro e w1 ⟨rfl, hb⟩; have HA := Lib.hid (HA.out.below hb HA.out.lt); have A0 := HA.out.c0; have A1 := HA.out.c1; have A2 := HA.out.c2; dsimp only at A0 A1 A2; have HB := Lib.hid (HB.out.below hb HB.out.lt); have B0 := HB.out.c0; have B1 := HB.out.c1; have B2 := HB.out.c2; dsimp only at B0 B1 B2; have HW := Lib.hid (HW.out.trans (hb.mono HW.out.size)); clear hb))
      go_ret
      exact ⟨rfl, HW.out⟩
    · rw [if_pos rfl]
      have HX := fun w => Lib.hid (rcompare_any ax bx w hax hbx)
      clear hkb
      go_enter Tryz.func11, Tryz.ntmps11
      go_wp2_with (first
        | (go_at_call 34; with_reducible refine (HM1 _).out.mono ?_; rintro e w1 ⟨rfl, hb⟩; have HA := Lib.hid (HA.out.below hb HA.out.lt); have A0 := HA.out.c0; have A1 := HA.out.c1; have A2 := HA.out.c2; dsimp only at A0 A1 A2; have HB := Lib.hid (HB.out.below hb HB.out.lt); have B0 := HB.out.c0; have B1 := HB.out.c1; have B2 := HB.out.c2; dsimp only at B0 B1 B2; have HW := Lib.hid (HW.out.trans (hb.mono HW.out.size)); clear hb)
        | (go_at_call 34; with_reducible refine (HM2 _).out.mono ?_; rintro e w1 ⟨rfl, hb⟩; have HA := Lib.hid (HA.out.below hb HA.out.lt); have A0 := HA.out.c0; have A1 := HA.out.c1; have A2 := HA.out.c2; dsimp only at A0 A1 A2; have HB := Lib.hid (HB.out.below hb HB.out.lt); have B0 := HB.out.c0; have B1 := HB.out.c1; have B2 := HB.out.c2; dsimp only at B0 B1 B2; have HW := Lib.hid (HW.out.trans (hb.mono HW.out.size)); clear hb)
        | (go_at_call 40; with_reducible refine (HX _).out.mono ?_; rintro e w2 ⟨rfl, rfl⟩))
      go_ret
      exact ⟨rfl, HW.out⟩
    · rw [if_neg (by decide), if_pos rfl, cmp_less]
      clear hkb
      cases h1 : Op.bytesLess asx bs
      · cases h2 : Op.bytesLess bs asx
        · rw [if_neg (by simp), if_neg (by simp)]
          have heq : (asx == bs) = true := by rw [less_none _ _ h1 h2]; exact beq_self_eq_true _
          go_enter Tryz.func11, Tryz.ntmps11
          go_wp2_with (first
            | (go_at_call 34; with_reducible refine (HM1 _).out.mono ?_; rintro e w1 ⟨rfl, hb⟩; have HA := Lib.hid (HA.out.below hb HA.out.lt); have A0 := HA.out.c0; have A1 := HA.out.c1; have A2 := HA.out.c2; dsimp only at A0 A1 A2; have HB := Lib.hid (HB.out.below hb HB.out.lt); have B0 := HB.out.c0; have B1 := HB.out.c1; have B2 := HB.out.c2; dsimp only at B0 B1 B2; have HW := Lib.hid (HW.out.trans (hb.mono HW.out.size)); clear hb)
            | (go_at_call 34; with_reducible refine (HM2 _).out.mono ?_; rintro e w1 ⟨rfl, hb⟩; have HA := Lib.hid (HA.out.below hb HA.out.lt); have A0 := HA.out.c0; have A1 := HA.out.c1; have A2 := HA.out.c2; dsimp only at A0 A1 A2; have HB := Lib.hid (HB.out.below hb HB.out.lt); have B0 := HB.out.c0; have B1 := HB.out.c1; have B2 := HB.out.c2; dsimp only at B0 B1 B2; have HW := Lib.hid (HW.out.trans (hb.mono HW.out.size)); clear hb))
          go_ret
          exact ⟨rfl, HW.out⟩
        · rw [if_neg (by simp), if_pos rfl]
          have heq : (asx == bs) = false := by
            rw [beq_eq_false_iff_ne]
            intro e
            rw [e, less_self] at h2
            cases h2
          go_enter Tryz.func11, Tryz.ntmps11
          go_wp2_with (first
            | (go_at_call 34; with_reducible refine (HM1 _).out.mono ?_; rintro e w1 ⟨rfl, hb⟩; have HA := Lib.hid (HA.out.below hb HA.out.lt); have A0 := HA.out.c0; have A1 := HA.out.c1; have A2 := HA.out.c2; dsimp only at A0 A1 A2; have HB := Lib.hid (HB.out.below hb HB.out.lt); have B0 := HB.out.c0; have B1 := HB.out.c1; have B2 := HB.out.c2; dsimp only at B0 B1 B2; have HW := Lib.hid (HW.out.trans (hb.mono HW.out.size)); clear hb)
            | (go_at_call 34; with_reducible refine (HM2 _).out.mono ?_; rintro e w1 ⟨rfl, hb⟩; have HA := Lib.hid (HA.out.below hb HA.out.lt); have A0 := HA.out.c0; have A1 := HA.out.c1; have A2 := HA.out.c2; dsimp only at A0 A1 A2; have HB := Lib.hid (HB.out.below hb HB.out.lt); have B0 := HB.out.c0; have B1 := HB.out.c1; have B2 := HB.out.c2; dsimp only at B0 B1 B2; have HW := Lib.hid (HW.out.trans (hb.mono HW.out.size)); clear hb))
          go_ret
          exact ⟨rfl, HW.out⟩
      · rw [if_pos rfl]
        go_enter Tryz.func11, Tryz.ntmps11
        go_wp2_with (first
          | (go_at_call 34; with_reducible refine (HM1 _).out.mono ?_; rintro e w1 ⟨rfl, hb⟩; have HA := Lib.hid (HA.out.below hb HA.out.lt); have A0 := HA.out.c0; have A1 := HA.out.c1; have A2 := HA.out.c2; dsimp only at A0 A1 A2; have HB := Lib.hid (HB.out.below hb HB.out.lt); have B0 := HB.out.c0; have B1 := HB.out.c1; have B2 := HB.out.c2; dsimp only at B0 B1 B2; have HW := Lib.hid (HW.out.trans (hb.mono HW.out.size)); clear hb)
          | (go_at_call 34; with_reducible refine (HM2 _).out.mono ?_; rintro e w1 ⟨rfl, hb⟩; have HA := Lib.hid (HA.out.below hb HA.out.lt); have A0 := HA.out.c0; have A1 := HA.out.c1; have A2 := HA.out.c2; dsimp only at A0 A1 A2; have HB := Lib.hid (HB.out.below hb HB.out.lt); have B0 := HB.out.c0; have B1 := HB.out.c1; have B2 := HB.out.c2; dsimp only at B0 B1 B2; have HW := Lib.hid (HW.out.trans (hb.mono HW.out.size)); clear hb))
        go_ret
        exact ⟨rfl, HW.out⟩
  · rw [if_pos hk]
    unfold Lib.compareInt
    have z : ((ak == 0) && (bk == 0)) = false := by
      cases h : ak == 0
      · rfl
      · have e0 : ak = 0 := by simpa using h
        have : bk ≠ 0 := fun e => hk (by rw [e0, e])
        simpa using this
    by_cases hl : ak < bk
    · rw [if_pos hl]
      rcases hka with rfl | rfl | rfl <;> rcases hkb with rfl | rfl | rfl <;> first
        | (exfalso; omega)
        | skip
      all_goals clear hk z hl
      all_goals go_enter Tryz.func11, Tryz.ntmps11
      all_goals go_wp2_with (first
        | (go_at_call 34; with_reducible refine (HM1 _).out.mono ?_; rintro e w1 ⟨rfl, hb⟩; have HA := Lib.hid (HA.out.below hb HA.out.lt); have A0 := HA.out.c0; have A1 := HA.out.c1; have A2 := HA.out.c2; dsimp only at A0 A1 A2; have HB := Lib.hid (HB.out.below hb HB.out.lt); have B0 := HB.out.c0; have B1 := HB.out.c1; have B2 := HB.out.c2; dsimp only at B0 B1 B2; have HW := Lib.hid (HW.out.trans (hb.mono HW.out.size)); clear hb)
        | (go_at_call 34; with_reducible refine (HM2 _).out.mono ?_; rintro e w1 ⟨rfl, hb⟩; have HA := Lib.hid (HA.out.below hb HA.out.lt); have A0 := HA.out.c0; have A1 := HA.out.c1; have A2 := HA.out.c2; dsimp only at A0 A1 A2; have HB := Lib.hid (HB.out.below hb HB.out.lt); have B0 := HB.out.c0; have B1 := HB.out.c1; have B2 := HB.out.c2; dsimp only at B0 B1 B2; have HW := Lib.hid (HW.out.trans (hb.mono HW.out.size)); clear hb))
      all_goals go_ret
      all_goals exact ⟨rfl, HW.out⟩
    · rw [if_neg hl, if_pos (by omega)]
      rcases hka with rfl | rfl | rfl <;> rcases hkb with rfl | rfl | rfl <;> first
        | (exfalso; omega)
        | skip
      all_goals clear hk z hl
      all_goals go_enter Tryz.func11, Tryz.ntmps11
      all_goals go_wp2_with (first
        | (go_at_call 34; with_reducible refine (HM1 _).out.mono ?_; rintro e w1 ⟨rfl, hb⟩; have HA := Lib.hid (HA.out.below hb HA.out.lt); have A0 := HA.out.c0; have A1 := HA.out.c1; have A2 := HA.out.c2; dsimp only at A0 A1 A2; have HB := Lib.hid (HB.out.below hb HB.out.lt); have B0 := HB.out.c0; have B1 := HB.out.c1; have B2 := HB.out.c2; dsimp only at B0 B1 B2; have HW := Lib.hid (HW.out.trans (hb.mono HW.out.size)); clear hb)
        | (go_at_call 34; with_reducible refine (HM2 _).out.mono ?_; rintro e w1 ⟨rfl, hb⟩; have HA := Lib.hid (HA.out.below hb HA.out.lt); have A0 := HA.out.c0; have A1 := HA.out.c1; have A2 := HA.out.c2; dsimp only at A0 A1 A2; have HB := Lib.hid (HB.out.below hb HB.out.lt); have B0 := HB.out.c0; have B1 := HB.out.c1; have B2 := HB.out.c2; dsimp only at B0 B1 B2; have HW := Lib.hid (HW.out.trans (hb.mono HW.out.size)); clear hb))
      all_goals go_ret
      all_goals exact ⟨rfl, HW.out⟩
end Go.Proofs.YtjkfcmadoeifgaaGreatDoor
