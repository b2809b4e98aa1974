/- raceref9.put. Conditions: no more than a million entries. -/
import Derived.Test.YtbgccaconhmbaaaGreatDoorJPa
import Derived.Test.YtbgccaconhmbaaaGreatDoorJPu
import Derived.Test.YtbgccaconhmbaaaGreatDoorJKy
namespace Go.Proofs.YtbgccaconhmbaaaGreatDoor
open Go.ChangeShapes Go.WideShapes Go.ChangeAt Go.RowKit Go.Deep
set_option maxRecDepth 100000 in
set_option maxHeartbeats 4000000 in
theorem rput_any {P : Nat → Prop} {w : World} {v : Value} {l : Ent DV} (hv : HasW P w v l) (hl : l.length ≤ 1000000) (hR : Rising l) (s : Nm) (x : DV) :
    Calls Tryz.prog 49 #[v, .agg #[.string ⟨s.toArray⟩, .int .i64 x.k, .float .f64 x.x, .string ⟨x.s.toArray⟩]] w fun e w' => ∃ u, e = .returned u ∧ Below w.heap.size w w' ∧ w'.ownsRow w.heap.size 54 4 u (put l s x).length (cellsG wrC (put l s x)) := by
  obtain ⟨i0, hi, hz0, hz1, hz2⟩ := info_parts info_wr
  have hst := run_stf
  obtain ⟨xk, xx, xs⟩ := x
  rw [← putL_put s ⟨xk, xx, xs⟩ hR]
  dsimp only
  obtain ⟨ao, cap, rfl, hca, hcm, _, h4⟩ := hv
  obtain ⟨n, hn⟩ : ∃ n, l.length = n := ⟨_, rfl⟩
  rw [hn] at hca hl
  rw [hn]
  have hlt := Nat.le_trans hca hcm
  unfold maxLen at hlt
  have HL := Lib.hid hn.symm
  clear hn hca hcm hR
  go_enter Tryz.func49, Tryz.ntmps49
  go_wp2_with fail
  obtain ⟨W1, hW1⟩ : ∃ W, w.alloc (.cells #[.string ⟨s.toArray⟩, .int .i64 xk, .float .f64 xx, .string ⟨xs.toArray⟩] 54) = W := ⟨_, rfl⟩
  have HB1 : Hid (Below w.heap.size w W1) := Lib.hid (by rw [← hW1]; exact below1 _ _)
  have c0 : W1.cell? ⟨w.heap.size, 0, none⟩ = some (.string ⟨s.toArray⟩) := by rw [← hW1]; simp [World.cell?_alloc_new]
  have c1 : W1.cell? ⟨w.heap.size, 1, none⟩ = some (.int .i64 xk) := by rw [← hW1]; simp [World.cell?_alloc_new]
  have c2 : W1.cell? ⟨w.heap.size, 2, none⟩ = some (.float .f64 xx) := by rw [← hW1]; simp [World.cell?_alloc_new]
  have c3 : W1.cell? ⟨w.heap.size, 3, none⟩ = some (.string ⟨xs.toArray⟩) := by rw [← hW1]; simp [World.cell?_alloc_new]
  have HS : Hid (w.heap.size < W1.heap.size) := Lib.hid (by rw [← hW1]; simp)
  have C0 := Lib.hid c0; have C1 := Lib.hid c1; have C2 := Lib.hid c2; have C3 := Lib.hid c3
  clear c0 c1 c2 c3
  rw [hW1]
  clear hW1
  go_loopw [5, 6, 7] (fun vo vp vi wr => ∃ (k : Nat) (out : Ent DV) (f : Bool), vi = .int .i64 k ∧ vp = .bool f ∧ k ≤ n ∧ Hid (putL s ⟨xk, xx, xs⟩ false l = out ++ putL s ⟨xk, xx, xs⟩ f (l.drop k)) ∧ Hid (out.length ≤ 2 * k) ∧ Hid (Below W1.heap.size W1 wr) ∧ Hid (wr.ownsRow W1.heap.size 54 4 vo out.length (cellsG wrC out))) (fun _ _ vi _ => n - (RowKit.intOf vi).toNat)
  case atStart => exact ⟨0, [], false, rfl, rfl, Nat.zero_le _, Lib.hid rfl, Lib.hid (Nat.zero_le _), Lib.hid (Below.refl _ _), Lib.hid (World.ownsRow_nil _ _ _ _)⟩
  case round =>
    obtain ⟨k, out, f, rfl, rfl, hk, HX, HLn, HB, HO⟩ := hrel
    by_cases hkn : k < n
    · have hkl : k < l.length := by rw [← HL.out]; exact hkn
      obtain ⟨b, o, rfl, _, hb, hc⟩ := h4.resolve_left (fun e => by rw [e] at hkl; exact absurd hkl (Nat.not_lt_zero _))
      have hb1 := Nat.lt_of_lt_of_le hb HB1.out.size
      have HLI := Lib.hid ((hc k hkl).below HB1.out hb)
      have hd := List.drop_eq_getElem_cons hkl
      clear h4 hc
      generalize l[k] = y at *
      obtain ⟨yk, y1, y2, y3⟩ := y
      have d0 := (HLI.out.below HB.out hb1).wr.c0
      have d1 := (HLI.out.below HB.out hb1).wr.c1
      have d2 := (HLI.out.below HB.out hb1).wr.c2
      have d3 := (HLI.out.below HB.out hb1).wr.c3
      have c0 := (HB.out.cell (p := ⟨w.heap.size, 0, none⟩) HS.out).trans C0.out
      have c1 := (HB.out.cell (p := ⟨w.heap.size, 1, none⟩) HS.out).trans C1.out
      have c2 := (HB.out.cell (p := ⟨w.heap.size, 2, none⟩) HS.out).trans C2.out
      have c3 := (HB.out.cell (p := ⟨w.heap.size, 3, none⟩) HS.out).trans C3.out
      dsimp only at d0 d1 d2 d3
      have hlo := HLn.out
      have HM1 := Lib.hid (show out.length + 1 ≤ maxLen by unfold maxLen; omega)
      have HN1 := Lib.hid (show (out.length + 1) * 48 ≤ 140737488355328 by omega)
      have HM2 := Lib.hid (show out.length + 1 + 1 ≤ maxLen by unfold maxLen; omega)
      have HN2 := Lib.hid (show (out.length + 1 + 1) * 48 ≤ 140737488355328 by omega)
      have hX := HX.out
      rw [hd] at hX
      by_cases he : yk = s
      · subst he
        have hp : putL yk ⟨xk, xx, xs⟩ f ((yk, ⟨y1, y2, y3⟩) :: l.drop (k + 1)) = (yk, ⟨xk, xx, xs⟩) :: putL yk ⟨xk, xx, xs⟩ true (l.drop (k + 1)) := by
          rw [putL.eq_2, if_pos rfl]
        have HX2 : Hid (putL yk ⟨xk, xx, xs⟩ false l = (out ++ [(yk, ⟨xk, xx, xs⟩)]) ++ putL yk ⟨xk, xx, xs⟩ true (l.drop (k + 1))) := Lib.hid (by rw [hX, hp]; simp)
        clear hX HX hd hp
        go_wp2_with fail
        go_quiet (fail)
        have HBq := Lib.hid (HB.out.trans ((below_drewN wr nq).mono HB.out.size))
        have HOq := Lib.hid (own_below HO.out (below_drewN wr nq))
        generalize wr.drewN nq = wq at *
        have d0 := (HLI.out.below HBq.out hb1).wr.c0
        have d1 := (HLI.out.below HBq.out hb1).wr.c1
        have d2 := (HLI.out.below HBq.out hb1).wr.c2
        have d3 := (HLI.out.below HBq.out hb1).wr.c3
        have c0 := (HBq.out.cell (p := ⟨w.heap.size, 0, none⟩) HS.out).trans C0.out
        have c1 := (HBq.out.cell (p := ⟨w.heap.size, 1, none⟩) HS.out).trans C1.out
        have c2 := (HBq.out.cell (p := ⟨w.heap.size, 2, none⟩) HS.out).trans C2.out
        have c3 := (HBq.out.cell (p := ⟨w.heap.size, 3, none⟩) HS.out).trans C3.out
        dsimp only at d0 d1 d2 d3
        go_wp2_with (at_builtin; refine wpList_append_own _ rfl (.tmp 22) (.tmp 24) 35 rfl W1.heap.size 54 i0 (wrAgg ([], DV.none)) 4 48 under_wrs hi hz0 hz1 hz2 rfl (by decide) _ _ _ rfl (HOq.out.alloc _) ⟨wq.heap.size, 0, none⟩ 1 1 (wrC (yk, ⟨xk, xx, xs⟩)) rfl rfl (cells_wr _ (yk, ⟨xk, xx, xs⟩) _ rfl) (one_wr _) HM1.out HN1.out (by have := HBq.out.size; simp at this ⊢; omega) ?_; intro v2 w2 hown' hgrow _; have HO2 := Lib.hid hown'; have HB2 := Lib.hid ((HBq.out.alloc HBq.out.size _).grown hgrow (HBq.out.alloc HBq.out.size _).size fun z hz => (HOq.out.lt z hz).1); clear hown' hgrow)
        go_roundw
        case rel => exact ⟨k + 1, out ++ [(yk, ⟨xk, xx, xs⟩)], true, by go_num, rfl, by omega, HX2, Lib.hid (by simp; omega), HB2, by rw [List.length_append, cellsG_append, cellsG_one]; exact HO2⟩
        case measure => simp [RowKit.intOf]; omega
      · have hne : (yk == s) = false := beq_eq_false_iff_ne.2 he
        have hnd : decide (yk = s) = false := decide_eq_false he
        have hls := less_eq yk s
        cases f with
        | true =>
          have hp : putL s ⟨xk, xx, xs⟩ true ((yk, ⟨y1, y2, y3⟩) :: l.drop (k + 1)) = (yk, ⟨y1, y2, y3⟩) :: putL s ⟨xk, xx, xs⟩ true (l.drop (k + 1)) := by
            rw [putL.eq_2, if_neg he, if_neg (by simp)]
          have HX2 : Hid (putL s ⟨xk, xx, xs⟩ false l = (out ++ [(yk, ⟨y1, y2, y3⟩)]) ++ putL s ⟨xk, xx, xs⟩ true (l.drop (k + 1))) := Lib.hid (by rw [hX, hp]; simp)
          clear hX HX hd hp he hls
          go_wp2_with fail
          go_quiet (fail)
          have HBq := Lib.hid (HB.out.trans ((below_drewN wr nq).mono HB.out.size))
          have HOq := Lib.hid (own_below HO.out (below_drewN wr nq))
          generalize wr.drewN nq = wq at *
          have d0 := (HLI.out.below HBq.out hb1).wr.c0
          have d1 := (HLI.out.below HBq.out hb1).wr.c1
          have d2 := (HLI.out.below HBq.out hb1).wr.c2
          have d3 := (HLI.out.below HBq.out hb1).wr.c3
          have c0 := (HBq.out.cell (p := ⟨w.heap.size, 0, none⟩) HS.out).trans C0.out
          have c1 := (HBq.out.cell (p := ⟨w.heap.size, 1, none⟩) HS.out).trans C1.out
          have c2 := (HBq.out.cell (p := ⟨w.heap.size, 2, none⟩) HS.out).trans C2.out
          have c3 := (HBq.out.cell (p := ⟨w.heap.size, 3, none⟩) HS.out).trans C3.out
          dsimp only at d0 d1 d2 d3
          go_wp2_with fail
          go_quiet (fail)
          have HBr := Lib.hid (HBq.out.trans ((below_drewN wq nq).mono HBq.out.size))
          have HOr := Lib.hid (own_below HOq.out (below_drewN wq nq))
          generalize wq.drewN nq = wr2 at *
          have d0 := (HLI.out.below HBr.out hb1).wr.c0
          have d1 := (HLI.out.below HBr.out hb1).wr.c1
          have d2 := (HLI.out.below HBr.out hb1).wr.c2
          have d3 := (HLI.out.below HBr.out hb1).wr.c3
          have c0 := (HBr.out.cell (p := ⟨w.heap.size, 0, none⟩) HS.out).trans C0.out
          have c1 := (HBr.out.cell (p := ⟨w.heap.size, 1, none⟩) HS.out).trans C1.out
          have c2 := (HBr.out.cell (p := ⟨w.heap.size, 2, none⟩) HS.out).trans C2.out
          have c3 := (HBr.out.cell (p := ⟨w.heap.size, 3, none⟩) HS.out).trans C3.out
          dsimp only at d0 d1 d2 d3
          go_wp2_with (at_builtin; refine wpList_append_own _ rfl (.tmp 42) (.tmp 47) 35 rfl W1.heap.size 54 i0 (wrAgg ([], DV.none)) 4 48 under_wrs hi hz0 hz1 hz2 rfl (by decide) _ _ _ rfl (HOr.out.alloc _) ⟨wr2.heap.size, 0, none⟩ 1 1 (wrC (yk, ⟨y1, y2, y3⟩)) rfl rfl (cells_wr _ (yk, ⟨y1, y2, y3⟩) _ rfl) (one_wr _) HM1.out HN1.out (by have := HBr.out.size; simp at this ⊢; omega) ?_; intro v2 w2 hown' hgrow _; have HO2 := Lib.hid hown'; have HB2 := Lib.hid ((HBr.out.alloc HBr.out.size _).grown hgrow (HBr.out.alloc HBr.out.size _).size fun z hz => (HOr.out.lt z hz).1); clear hown' hgrow)
          go_roundw
          case rel => exact ⟨k + 1, out ++ [(yk, ⟨y1, y2, y3⟩)], true, by go_num, rfl, by omega, HX2, Lib.hid (by simp; omega), HB2, by rw [List.length_append, cellsG_append, cellsG_one]; exact HO2⟩
          case measure => simp [RowKit.intOf]; omega
        | false =>
          by_cases hs : s < yk
          · rw [decide_eq_false fun e => nm_irrefl _ (nm_trans hs e)] at hls
            have hp : putL s ⟨xk, xx, xs⟩ false ((yk, ⟨y1, y2, y3⟩) :: l.drop (k + 1)) = (s, ⟨xk, xx, xs⟩) :: (yk, ⟨y1, y2, y3⟩) :: putL s ⟨xk, xx, xs⟩ true (l.drop (k + 1)) := by
              rw [putL.eq_2, if_neg he, if_pos ⟨rfl, hs⟩]
            have HX2 : Hid (putL s ⟨xk, xx, xs⟩ false l = (out ++ [(s, ⟨xk, xx, xs⟩)] ++ [(yk, ⟨y1, y2, y3⟩)]) ++ putL s ⟨xk, xx, xs⟩ true (l.drop (k + 1))) := Lib.hid (by rw [hX, hp]; simp)
            clear hX HX hd hp he hs
            go_wp2_with fail
            go_quiet (fail)
            have HBq := Lib.hid (HB.out.trans ((below_drewN wr nq).mono HB.out.size))
            have HOq := Lib.hid (own_below HO.out (below_drewN wr nq))
            generalize wr.drewN nq = wq at *
            have d0 := (HLI.out.below HBq.out hb1).wr.c0
            have d1 := (HLI.out.below HBq.out hb1).wr.c1
            have d2 := (HLI.out.below HBq.out hb1).wr.c2
            have d3 := (HLI.out.below HBq.out hb1).wr.c3
            have c0 := (HBq.out.cell (p := ⟨w.heap.size, 0, none⟩) HS.out).trans C0.out
            have c1 := (HBq.out.cell (p := ⟨w.heap.size, 1, none⟩) HS.out).trans C1.out
            have c2 := (HBq.out.cell (p := ⟨w.heap.size, 2, none⟩) HS.out).trans C2.out
            have c3 := (HBq.out.cell (p := ⟨w.heap.size, 3, none⟩) HS.out).trans C3.out
            dsimp only at d0 d1 d2 d3
            go_wp2_with fail
            go_quiet (fail)
            have HBr := Lib.hid (HBq.out.trans ((below_drewN wq nq).mono HBq.out.size))
            have HOr := Lib.hid (own_below HOq.out (below_drewN wq nq))
            generalize wq.drewN nq = wr2 at *
            have d0 := (HLI.out.below HBr.out hb1).wr.c0
            have d1 := (HLI.out.below HBr.out hb1).wr.c1
            have d2 := (HLI.out.below HBr.out hb1).wr.c2
            have d3 := (HLI.out.below HBr.out hb1).wr.c3
            have c0 := (HBr.out.cell (p := ⟨w.heap.size, 0, none⟩) HS.out).trans C0.out
            have c1 := (HBr.out.cell (p := ⟨w.heap.size, 1, none⟩) HS.out).trans C1.out
            have c2 := (HBr.out.cell (p := ⟨w.heap.size, 2, none⟩) HS.out).trans C2.out
            have c3 := (HBr.out.cell (p := ⟨w.heap.size, 3, none⟩) HS.out).trans C3.out
            dsimp only at d0 d1 d2 d3
            go_wp2_with (first | (at_builtin; refine wpList_append_own _ rfl (.tmp 38) (.tmp 40) 35 rfl W1.heap.size 54 i0 (wrAgg ([], DV.none)) 4 48 under_wrs hi hz0 hz1 hz2 rfl (by decide) _ _ _ rfl (HOr.out.alloc _) ⟨wr2.heap.size, 0, none⟩ 1 1 (wrC (s, ⟨xk, xx, xs⟩)) rfl rfl (cells_wr _ (s, ⟨xk, xx, xs⟩) _ rfl) (one_wr _) HM1.out HN1.out (by have := HBr.out.size; simp at this ⊢; omega) ?_; intro v2 w2 hown' hgrow _; have HO2 := Lib.hid hown'; have HB2 := Lib.hid ((HBr.out.alloc HBr.out.size _).grown hgrow (HBr.out.alloc HBr.out.size _).size fun z hz => (HOr.out.lt z hz).1); clear hown' hgrow; have d0 := (HLI.out.below HB2.out hb1).wr.c0; have d1 := (HLI.out.below HB2.out hb1).wr.c1; have d2 := (HLI.out.below HB2.out hb1).wr.c2; have d3 := (HLI.out.below HB2.out hb1).wr.c3; have c0 := (HB2.out.cell (p := ⟨w.heap.size, 0, none⟩) HS.out).trans C0.out; have c1 := (HB2.out.cell (p := ⟨w.heap.size, 1, none⟩) HS.out).trans C1.out; have c2 := (HB2.out.cell (p := ⟨w.heap.size, 2, none⟩) HS.out).trans C2.out; have c3 := (HB2.out.cell (p := ⟨w.heap.size, 3, none⟩) HS.out).trans C3.out; dsimp only at d0 d1 d2 d3) | (at_builtin; refine wpList_append_own _ rfl (.tmp 42) (.tmp 47) 35 rfl W1.heap.size 54 i0 (wrAgg ([], DV.none)) 4 48 under_wrs hi hz0 hz1 hz2 rfl (by decide) _ _ _ rfl (HO2.out.alloc _) ⟨w2.heap.size, 0, none⟩ 1 1 (wrC (yk, ⟨y1, y2, y3⟩)) rfl rfl (cells_wr _ (yk, ⟨y1, y2, y3⟩) _ rfl) (one_wr _) HM2.out HN2.out (by have := HB2.out.size; simp at this ⊢; omega) ?_; intro v3 w3 hown' hgrow _; have HO3 := Lib.hid hown'; have HB3 := Lib.hid ((HB2.out.alloc HB2.out.size _).grown hgrow (HB2.out.alloc HB2.out.size _).size fun z hz => (HO2.out.lt z hz).1); clear hown' hgrow))
            go_roundw
            case rel => exact ⟨k + 1, out ++ [(s, ⟨xk, xx, xs⟩)] ++ [(yk, ⟨y1, y2, y3⟩)], true, by go_num, rfl, by omega, HX2, Lib.hid (by simp; omega), HB3, by rw [List.length_append, List.length_append, cellsG_append, cellsG_append, cellsG_one, cellsG_one]; exact HO3⟩
            case measure => simp [RowKit.intOf]; omega
          · rw [decide_eq_true (Std.lt_of_le_of_ne (List.not_lt.1 hs) he)] at hls
            have hp : putL s ⟨xk, xx, xs⟩ false ((yk, ⟨y1, y2, y3⟩) :: l.drop (k + 1)) = (yk, ⟨y1, y2, y3⟩) :: putL s ⟨xk, xx, xs⟩ false (l.drop (k + 1)) := by
              rw [putL.eq_2, if_neg he, if_neg (fun h => hs h.2)]
            have HX2 : Hid (putL s ⟨xk, xx, xs⟩ false l = (out ++ [(yk, ⟨y1, y2, y3⟩)]) ++ putL s ⟨xk, xx, xs⟩ false (l.drop (k + 1))) := Lib.hid (by rw [hX, hp]; simp)
            clear hX HX hd hp he hs
            go_wp2_with fail
            go_quiet (fail)
            have HBq := Lib.hid (HB.out.trans ((below_drewN wr nq).mono HB.out.size))
            have HOq := Lib.hid (own_below HO.out (below_drewN wr nq))
            generalize wr.drewN nq = wq at *
            have d0 := (HLI.out.below HBq.out hb1).wr.c0
            have d1 := (HLI.out.below HBq.out hb1).wr.c1
            have d2 := (HLI.out.below HBq.out hb1).wr.c2
            have d3 := (HLI.out.below HBq.out hb1).wr.c3
            have c0 := (HBq.out.cell (p := ⟨w.heap.size, 0, none⟩) HS.out).trans C0.out
            have c1 := (HBq.out.cell (p := ⟨w.heap.size, 1, none⟩) HS.out).trans C1.out
            have c2 := (HBq.out.cell (p := ⟨w.heap.size, 2, none⟩) HS.out).trans C2.out
            have c3 := (HBq.out.cell (p := ⟨w.heap.size, 3, none⟩) HS.out).trans C3.out
            dsimp only at d0 d1 d2 d3
            go_wp2_with fail
            go_quiet (fail)
            have HBr := Lib.hid (HBq.out.trans ((below_drewN wq nq).mono HBq.out.size))
            have HOr := Lib.hid (own_below HOq.out (below_drewN wq nq))
            generalize wq.drewN nq = wr2 at *
            have d0 := (HLI.out.below HBr.out hb1).wr.c0
            have d1 := (HLI.out.below HBr.out hb1).wr.c1
            have d2 := (HLI.out.below HBr.out hb1).wr.c2
            have d3 := (HLI.out.below HBr.out hb1).wr.c3
            have c0 := (HBr.out.cell (p := ⟨w.heap.size, 0, none⟩) HS.out).trans C0.out
            have c1 := (HBr.out.cell (p := ⟨w.heap.size, 1, none⟩) HS.out).trans C1.out
            have c2 := (HBr.out.cell (p := ⟨w.heap.size, 2, none⟩) HS.out).trans C2.out
            have c3 := (HBr.out.cell (p := ⟨w.heap.size, 3, none⟩) HS.out).trans C3.out
            dsimp only at d0 d1 d2 d3
            go_wp2_with (at_builtin; refine wpList_append_own _ rfl (.tmp 42) (.tmp 47) 35 rfl W1.heap.size 54 i0 (wrAgg ([], DV.none)) 4 48 under_wrs hi hz0 hz1 hz2 rfl (by decide) _ _ _ rfl (HOr.out.alloc _) ⟨wr2.heap.size, 0, none⟩ 1 1 (wrC (yk, ⟨y1, y2, y3⟩)) rfl rfl (cells_wr _ (yk, ⟨y1, y2, y3⟩) _ rfl) (one_wr _) HM1.out HN1.out (by have := HBr.out.size; simp at this ⊢; omega) ?_; intro v2 w2 hown' hgrow _; have HO2 := Lib.hid hown'; have HB2 := Lib.hid ((HBr.out.alloc HBr.out.size _).grown hgrow (HBr.out.alloc HBr.out.size _).size fun z hz => (HOr.out.lt z hz).1); clear hown' hgrow)
            go_roundw
            case rel => exact ⟨k + 1, out ++ [(yk, ⟨y1, y2, y3⟩)], false, by go_num, rfl, by omega, HX2, Lib.hid (by simp; omega), HB2, by rw [List.length_append, cellsG_append, cellsG_one]; exact HO2⟩
            case measure => simp [RowKit.intOf]; omega
    · obtain rfl : k = n := by omega
      have hlo := HLn.out
      have hX := HX.out
      rw [List.drop_of_length_le (by rw [← HL.out]; exact Nat.le_refl _)] at hX
      have HM1 := Lib.hid (show out.length + 1 ≤ maxLen by unfold maxLen; omega)
      have HN1 := Lib.hid (show (out.length + 1) * 48 ≤ 140737488355328 by omega)
      have c0 := (HB.out.cell (p := ⟨w.heap.size, 0, none⟩) HS.out).trans C0.out
      have c1 := (HB.out.cell (p := ⟨w.heap.size, 1, none⟩) HS.out).trans C1.out
      have c2 := (HB.out.cell (p := ⟨w.heap.size, 2, none⟩) HS.out).trans C2.out
      have c3 := (HB.out.cell (p := ⟨w.heap.size, 3, none⟩) HS.out).trans C3.out
      clear h4
      cases f with
      | true =>
        have HX2 : Hid (putL s ⟨xk, xx, xs⟩ false l = out) := Lib.hid (by rw [hX]; show out ++ [] = out; simp)
        clear hX HX
        go_wp2_with fail
        go_ret
        rw [HX2.out]
        exact ⟨_, rfl, HB1.out.trans (HB.out.mono HB1.out.size), HO.out.mono HB1.out.size⟩
      | false =>
        have HX2 : Hid (putL s ⟨xk, xx, xs⟩ false l = out ++ [(s, ⟨xk, xx, xs⟩)]) := Lib.hid (by rw [hX]; rfl)
        clear hX HX
        go_wp2_with (at_builtin; refine wpList_append_own _ rfl (.tmp 51) (.tmp 53) 35 rfl W1.heap.size 54 i0 (wrAgg ([], DV.none)) 4 48 under_wrs hi hz0 hz1 hz2 rfl (by decide) _ _ _ rfl (HO.out.alloc _) ⟨wr.heap.size, 0, none⟩ 1 1 (wrC (s, ⟨xk, xx, xs⟩)) rfl rfl (cells_wr _ (s, ⟨xk, xx, xs⟩) _ rfl) (one_wr _) HM1.out HN1.out (by have := HB.out.size; simp at this ⊢; omega) ?_; intro v2 w2 hown' hgrow _; have HO2 := Lib.hid hown'; have HB2 := Lib.hid ((HB.out.alloc HB.out.size _).grown hgrow (HB.out.alloc HB.out.size _).size fun z hz => (HO.out.lt z hz).1); clear hown' hgrow)
        go_ret
        rw [HX2.out]
        exact ⟨_, rfl, HB1.out.trans (HB2.out.mono HB1.out.size), by rw [List.length_append, cellsG_append, cellsG_one]; exact HO2.out.mono HB1.out.size⟩
end Go.Proofs.YtbgccaconhmbaaaGreatDoor
