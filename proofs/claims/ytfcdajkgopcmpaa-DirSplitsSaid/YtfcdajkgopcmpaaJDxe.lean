/- racelaw14.DirSplits' walk: the end of a round. Conditions: none of its own. -/
import Derived.Test.YtfcdajkgopcmpaaJDxc
namespace Go.Proofs.Ytfcdajkgopcmpaa
open Go.ChangeShapes Go.WideShapes Go.ChangeAt Go.RowKit
set_option maxRecDepth 100000 in
set_option maxHeartbeats 100000000 in
theorem splits_e : splitsC.1.2 := by
  intro w
  set_option tactic.hygienic false in intros
  obtain rfl : j = kn := by omega
  have hjk2 : ¬ (j : Int) < (j : Int) := by omega
  have HpA := Lib.hid (HpA.out.below HBq.out HpA.out.lt)
  have HpB := Lib.hid (HpB.out.below HBq.out HpB.out.lt)
  have HH := Lib.hid (HH.out.below (HBq.out.mono (Nat.le_refl _)))
  clear HSQ4 HBq HKK HUU HRT
  go_upto_region 35 with (first
    | (go_at_call 19; first
      | (have hx0 := HSQ6; refine (HL3.out _ ⟨mb, HSQ6.out.d⟩ HH.out).mono ?_; rintro e w11 ⟨rfl, hd, hw⟩; have HSQ7 := Lib.hid (HSQ6.out.learn hd hw); have HpA := Lib.hid (HpA.out.tn hw.tn HNA.out); have HpB := Lib.hid (HpB.out.tn hw.tn HNB.out); clear hd hw hx0)
      | (refine (HL2.out _ ⟨mb, HSQ5.out.d⟩ HH.out).mono ?_; rintro e w10 ⟨rfl, hd, hw⟩; have HSQ6 := Lib.hid (HSQ5.out.learn hd hw); have HpA := Lib.hid (HpA.out.tn hw.tn HNA.out); have HpB := Lib.hid (HpB.out.tn hw.tn HNB.out); have HH := Lib.hid (HH.out.tn hw.tn HND.out); clear hd hw))
    | fail)
  clear HL2 HL3 HH HSQ5 HSQ6
  obtain ⟨b0, b1, b2, b3, y0, y1, y2, y3⟩ := own_at HSQ7.out.row HJM.out HRM.out
  simp only at b0 b1 b2 b3
  have u0 := HpA.out.c0; have u1 := HpA.out.c1; have u2 := HpA.out.c2; have u3 := HpA.out.c3
  simp only at u0 u1 u2 u3
  go_upto_region 36 with fail
  have hO2 := own_set HSQ7.out.row HJM.out ⟨ri, re + 1, rl, x⟩
  have HS8 := Lib.hid (HSQ7.out.turn (tn_setR (Tn.refl (· = g) w11) (J * 4) ⟨ri, re + 1, rl, x⟩) hO2.1 (by rw [List.length_set]; exact HML.out))
  have HpB := Lib.hid (HpB.out.setR_other (J * 4) ⟨ri, re + 1, rl, x⟩ HNG.out)
  clear hO2 HpA b0 b1 b2 b3 y0 y1 y2 y3 u0 u1 u2 u3 HSQ7
  dsimp only [setR] at HS8 HpB
  generalize (((w11.setCell ⟨g, J * 4, none⟩ (.int .i64 ri)).setCell ⟨g, J * 4 + 1, none⟩ (.int .i64 (re + 1))).setCell ⟨g, J * 4 + 2, none⟩ (.float .f64 rl)).setCell ⟨g, J * 4 + 3, none⟩ (.float .f64 x) = w12 at *
  have v0 := HpB.out.c0; have v1 := HpB.out.c1; have v2 := HpB.out.c2; have v3 := HpB.out.c3
  simp only at v0 v1 v2 v3
  go_upto_region 37 with (first
    | (at_builtin; refine wpList_append_ranges (by rfl) (.tmp 207) (.tmp 209) rfl (B := w.heap.size) (M := M.set J ⟨ri, re + 1, rl, x⟩) (n := m) rfl (HS8.out.row.alloc _) (by have := HS8.out.lo.size; simp; omega) rfl (has_lit w12 ⟨(m : Int) + 1, 0, x, rh⟩) (by omega) ?_; intro v9 w13 ho9 hg9; have HT9 := Lib.hid (((Tn.refl (· = g) w12).alloc (robj ⟨(m : Int) + 1, 0, x, rh⟩)).grown hg9 (fun k e _ => (Option.some.inj e).symm)); obtain ⟨g9, c9, e9⟩ := own_shape ho9 (by omega); subst e9; have HO9 := Lib.hid ho9; clear ho9 hg9)
    | fail)
  have HS13 : Hid (SQ w w13 a mb M2 M2 g9 (m + 1) c9) := Lib.hid (HS8.out.turn HT9.out (by rw [← HM2.out]; exact HO9.out) HM2L.out)
  clear HS8 HT9 HO9 HpB v0 v1 v2 v3
  have HCV := Lib.hid (check_zero.2 HGN.out.cov)
  have HLI := Lib.hid (dlist_any (⟨mb, HS13.out.d⟩ : DKm _ w13 a M2))
  go_wp2_with (first
    | (go_at_call 18; refine HLI.out.mono ?_; rintro e w14 ⟨lo, lc, rfl, ho, hb⟩; have HRO := Lib.hid (own_ranges ho); have HS14 := Lib.hid (HS13.out.below hb); clear ho hb)
    | (go_at_call 25; refine (rcheck_any HRO.out HGN.out.wf).mono ?_; rw [HCV.out]; rintro e w15 ⟨rfl, hb⟩; have HS15 := Lib.hid (HS14.out.below hb); clear hb)
    | fail)
  go_roundw
  case rel => exact ⟨q + 1, m + 1, g9, c9, M2, by go_num, by omega, rfl, by omega, by omega, HGN, HS15⟩
  case measure => simp [intOf]; omega
end Go.Proofs.Ytfcdajkgopcmpaa
