/- NetOrder's walk. Conditions: none of its own. -/
import Derived.Test.YtcgbjpmmbbldpaaOa
namespace Go.Proofs.Ytcgbjpmmbbldpaa
open Go.ChangeShapes Go.WideShapes Go.ChangeAt Go.RowKit Go.Deep
section
variable {w : World}
set_option maxRecDepth 100000 in
set_option maxHeartbeats 40000000 in
/-- racelaw13.NetOrder answers true. -/
theorem order_any (most : Int) {ao bo : Option Addr} {n cap m bcap : Nat} {D : List (List UInt8)} {T : List Bool} (h : RB (· < w.heap.size) w ao n cap D) (h2 : BB (· < w.heap.size) w bo m bcap T) :
    Calls Try.prog 5 #[.int .i64 most, .slice ao n cap, .slice bo m bcap] w fun e w' => e = .returned (.bool true) ∧ Below w.heap.size w w' := by
  have HF := fun w => Lib.hid (first13_any w)
  have HD := Lib.hid h
  have HT := Lib.hid h2
  have HLD := Lib.hid h.len
  have HLT := Lib.hid h2.len
  have hdl := h.lt
  have htl := h2.lt
  clear h h2
  by_cases hm : 1 ≤ most ∧ most ≤ 4096
  · have HNN := fun w => Lib.hid (nnew_yes most hm.1 hm.2 w)
    obtain ⟨hm1, hm2⟩ := hm
    by_cases h64 : most ≤ 64
    · go_enter Try.func5, Try.ntmps5
      go_wp2_with (first
        | (go_at_call 8; refine (HNN _).out.mono ?_; rintro e w2 ⟨an, C1, rfl, hk, hc, hb⟩; have HB2 := Lib.hid (HB1.out.trans (hb.mono HB1.out.size)); have HK2 := Lib.hid hk; have HC2 := Lib.hid hc; clear hk hc hb)
        | (go_at_call 7; (refine (HF _).out.mono ?_; rintro e w1 ⟨rfl, hb⟩; have HB1 := Lib.hid hb; clear hb))
        | fail)
      clear HNN
      go_loopw [9, 10] (fun s i wr => ∃ k : Nat, k ≤ n ∧ k ≤ 400 ∧ i = .int .i64 k ∧ s = .int .i64 (weiR (D.take k) : Nat) ∧ Hid (Below w2.heap.size w2 wr)) (fun _ i _ => 400 - (intOf i).toNat)
      case atStart => exact ⟨0, Nat.zero_le _, Nat.zero_le _, rfl, rfl, Lib.hid (Below.refl _ _)⟩
      case round =>
        obtain ⟨k, hk, hk4, rfl, rfl, HBR⟩ := hrel
        have HB := Lib.hid (HB2.out.trans (HBR.out.mono HB2.out.size))
        have hw := weiR_le (D.take k)
        rw [List.length_take] at hw
        by_cases hlt2 : k < n ∧ k < 400
        · obtain ⟨hkn, hk100⟩ := hlt2
          have hkl : k < D.length := by rw [← HLD.out]; exact hkn
          obtain ⟨b, off, ro, rc, rfl, hbl, c3, hs⟩ := (HD.out.low HB.out).at_ hkl
          have HW := Lib.hid (weiR_take hkl)
          have hs4 := hs.lt
          clear hs
          generalize D[k].length = bl at *
          go_wp2
          go_roundw
          case rel => exact ⟨k + 1, by omega, by omega, by go_num, by rw [HW.out]; congr 1; split <;> omega, HBR⟩
          case measure => simp [intOf]; omega
        · by_cases hkn : k < n
          · have h100 : ¬ (k : Int) < 400 := by omega
            have hn100 : ¬ (n : Int) ≤ 400 := by omega
            clear hw hlt2
            generalize weiR (D.take k) = s at *
            go_wp2_with (first
              | (go_at_call 7; refine (HF _).out.mono ?_; rintro e w9 ⟨rfl, hb⟩; have HB9 := Lib.hid (HB.out.trans (hb.mono HB.out.size)); clear hb)
              | fail)
            go_ret
            exact ⟨rfl, HB9.out⟩
          · obtain rfl : n = k := by omega
            have hk4' : (n : Int) ≤ 400 := by omega
            have hfull : D.take n = D := List.take_of_length_le (by rw [← HLD.out]; exact Nat.le_refl _)
            rw [hfull] at hw ⊢
            clear hlt2 hfull
            by_cases hz : weiR D ≤ 20000
            · have HDM := Lib.hid (weiR_mem hz)
              generalize weiR D = s at *
              clear hw
              go_wp2
              have HOQ : Hid (∃ C, OQ w.heap.size wr an most [] (.slice none 0 0) [] C) := Lib.hid ⟨C1, HK2.out.below HBR.out, ⟨World.ownsRow_nil _ _ _ _, fun x hx => (nomatch hx)⟩, fun k hk => Nat.le_trans HB1.out.size (HC2.out k hk), fun k hk => (by simp [Value.ownBlock] at hk), HB.out.size⟩
              obtain ⟨i0, hi, hz0, hz1, hz2⟩ := info_parts info_sl
              have HB0 := HB
              clear HB HBR HK2 HC2 HB1 HB2
              go_loopw [11, 12, 13, 14] (fun va vt vs vi wr => ∃ (k a : Nat) (Lq : List MV) (Q : List (List UInt8 × Value)), vi = .int .i64 k ∧ va = .int .i64 a ∧ vt = .int .i64 Q.length ∧ k ≤ n ∧ a ≤ Q.length ∧ Q.length ≤ k ∧ Hid (∃ C, OQ w.heap.size wr an most Lq vs Q C) ∧ Hid (Lq.map (·.d) = (Q.map (·.1)).drop a) ∧ Hid (Okn Lq) ∧ Hid (Below w.heap.size w wr)) (fun _ _ _ vi _ => n - (intOf vi).toNat)
              case atStart => exact ⟨0, 0, [], [], rfl, rfl, rfl, Nat.zero_le _, Nat.le_refl _, Nat.le_refl _, HOQ, Lib.hid rfl, Lib.hid Okn.nil, HB0⟩
              case round =>
                clear HOQ HB0
                obtain ⟨k, a, Lq, Q, rfl, rfl, rfl, hk, ha, hq, HO0, HE, HOK, HB⟩ := hrel
                obtain ⟨C1, ho⟩ := HO0.out
                obtain ⟨so, sc, hvs⟩ := own_slice ho.sq.own
                subst hvs
                have HO := Lib.hid ho
                clear ho HO0
                have hll : Lq.length = Q.length - a := by have := congrArg List.length HE.out; simpa using this
                by_cases hlt2 : k < n
                · have hkl : k < D.length := by rw [← HLD.out]; exact hlt2
                  obtain ⟨b, off, ro, rc, rfl, hbl, c3, hs⟩ := HD.out.at_ hkl
                  have hdd := HDM.out _ (List.getElem_mem hkl)
                  have G3 := Lib.hid c3
                  have HSB := Lib.hid hs
                  have HBL := Lib.hid hbl
                  clear c3 hs hbl
                  generalize D[k] = d at *
                  have hl6 : Lq.length ≤ 1000000 := Nat.le_trans HOK.out.len (by decide)
                  by_cases htk : k < m
                  · have hkt : k < T.length := by rw [← HLT.out]; exact htk
                    obtain ⟨tb, toff, rfl, htb, ht3⟩ := HT.out.at_ hkt
                    have HTB := Lib.hid htb
                    have HT3 := Lib.hid ht3
                    have t3 := (HB.out.cell (p := ⟨tb, toff + k, none⟩) htb).trans ht3
                    clear htb ht3
                    cases hTk : T[k] with
                    | false =>
                      rw [hTk] at t3
                      have HSN := fun C1 w' (hn : NK C1 w' an most Lq) {ao : Option Addr} {cap : Nat} {D : Nat → Prop} (hs : SB D w' ao d.length cap d) => Lib.hid (show Calls Try.prog 14 #[ptr an, .int .i64 k, .int .i64 ((k : Int) + 1), .slice ao d.length cap] w' (NWent C1 w' an most (if most ≤ Lq.length then Lq else Lq ++ [⟨k, (k : Int) + 1, d⟩]) (.int .i64 (if most ≤ Lq.length then 11 else 0))) from nsend_any hn k ((k : Int) + 1) hs (by omega) hl6)
                      have c3 := (HB.out.cell (p := ⟨b, off + k, none⟩) HBL.out).trans G3.out
                      by_cases hfu : most ≤ (Lq.length : Int)
                      · have hint : ¬ (Q.length : Int) - a < most := by omega
                        simp only [if_pos hfu] at HSN
                        go_wp2_with (first
                          | (go_at_call 14; refine (HSN _ _ HO.out.hn (HSB.out.tn (tn_low HB.out) (fun k h1 h2 => by omega))).out.mono ?_; rintro e w5 ⟨rfl, C', h2, h4⟩; obtain ⟨g1, g2⟩ := HO.out.went h2 h4; have HO := Lib.hid g1; have HB := Lib.hid (HB.out.trans g2); have c9 := (HB.out.cell (p := ⟨b, off + k, none⟩) HBL.out).trans G3.out; clear h2 h4 g1 g2)
                          | fail)
                        go_roundw
                        case rel => exact ⟨k + 1, a, Lq, Q, by go_num, rfl, rfl, by omega, by omega, by omega, Lib.hid ⟨_, HO.out⟩, HE, HOK, HB⟩
                        case measure => simp [intOf]; omega
                      · have hint : (Q.length : Int) - a < most := by omega
                        have HOK2 : Hid (Okn (Lq ++ [⟨k, (k : Int) + 1, d⟩])) := Lib.hid (by have := HOK.out.sent (room := most) hm2 (m := ⟨k, (k : Int) + 1, d⟩) hdd; unfold sentL at this; rwa [if_neg hfu] at this)
                        simp only [if_neg hfu] at HSN
                        go_wp2_with (first
                          | (go_at_call 14; refine (HSN _ _ HO.out.hn (HSB.out.tn (tn_low HB.out) (fun k h1 h2 => by omega))).out.mono ?_; rintro e w5 ⟨rfl, C', h2, h4⟩; obtain ⟨g1, g2⟩ := HO.out.went h2 h4; have HO := Lib.hid g1; have HB := Lib.hid (HB.out.trans g2); have c9 := (HB.out.cell (p := ⟨b, off + k, none⟩) HBL.out).trans G3.out; clear h2 h4 g1 g2)
                          | (at_builtin; refine wpList_append_own_at _ rfl (.tmp 138) (.tmp 143) 50 rfl w.heap.size 33 i0 (.slice none 0 0) 1 24 under_sl hi hz0 hz1 hz2 rfl (by decide) _ _ _ rfl (HO.out.below (below1 w5 _)).sq.own ⟨w5.heap.size, 0, none⟩ 1 1 [.slice ro d.length rc] rfl rfl (cell_one_new _ _ _) (by intro u hu; obtain rfl := List.mem_singleton.1 hu; rfl) (by unfold maxLen; omega) (by omega) (by have := HO.out.bw; simp; omega) ?_; intro v2 w9 hown' hgrow _ hat; have hpp := (HO.out.below (below1 w5 (.cells #[.slice ro d.length rc] 33))).push hgrow (HSB.out.tn (tn_low (HB.out.trans ((below1 w5 (.cells #[.slice ro d.length rc] 33)).mono HB.out.size))) (fun k h1 h2 => by omega)) hown' hat; have HP := Lib.hid hpp.1; have HB9 := Lib.hid ((HB.out.trans ((below1 w5 (.cells #[.slice ro d.length rc] 33)).mono HB.out.size)).trans hpp.2); clear hpp hown' hgrow hat)
                          | fail)
                        go_roundw
                        case rel => exact ⟨k + 1, a, Lq ++ [⟨k, (k : Int) + 1, d⟩], Q ++ [(d, .slice ro d.length rc)], by go_num, rfl, by simp, by omega, by simp; omega, by simp; omega, Lib.hid ⟨_, HP.out⟩, Lib.hid (by rw [List.map_append, List.map_append, List.drop_append_of_le_length (by simp; omega), HE.out]; rfl), HOK2, HB9⟩
                        case measure => simp [intOf]; omega
                    | true =>
                      rw [hTk] at t3
                      by_cases hqa0 : a = Q.length
                      · have hLe : Lq = [] := List.eq_nil_of_length_eq_zero (by omega)
                        have hlt3 : decide ((a : Int) < (Q.length : Int)) = false := by simp; omega
                        have HTN := fun w' hn => Lib.hid (ntake_no (w := w') (a := an) (C := C1) (room := most) (l := Lq) (i := 0) hn (by rw [hLe]; rfl))
                        clear hLe
                        go_wp2_with (first
                          | (go_at_call 15; refine (HTN _ HO.out.hn).out.mono ?_; rintro e w4 ⟨rfl, hb⟩; have HO := Lib.hid ((HO.out.below hb).below (below1 w4 (mobj 40 (⟨0, 0, []⟩, .slice none 0 0)))); have HB := Lib.hid (HB.out.trans ((hb.mono HB.out.size).trans ((below1 w4 (mobj 40 (⟨0, 0, []⟩, .slice none 0 0))).mono (Nat.le_trans HB.out.size hb.size)))); clear hb)
                          | fail)
                        go_quiet (fail)
                        have hb := below_drewN (w4.alloc (mobj 40 (⟨0, 0, []⟩, .slice none 0 0))) nq
                        have HO := Lib.hid (HO.out.below hb)
                        have HB := Lib.hid (HB.out.trans (hb.mono HB.out.size))
                        clear hb
                        obtain ⟨W9, hW9⟩ : ∃ W, (w4.alloc (mobj 40 (⟨0, 0, []⟩, .slice none 0 0))).drewN nq = W := ⟨_, rfl⟩
                        rw [hW9] at HO HB
                        have hW9' : (w4.alloc (.cells #[.int .i64 0, .int .i64 0, .slice none 0 0] 40)).drewN nq = W9 := hW9
                        rw [hW9']
                        clear hW9 hW9'
                        have HSN := fun C1 w' (hn : NK C1 w' an most Lq) {ao : Option Addr} {cap : Nat} {D : Nat → Prop} (hs : SB D w' ao d.length cap d) => Lib.hid (show Calls Try.prog 14 #[ptr an, .int .i64 k, .int .i64 ((k : Int) + 1), .slice ao d.length cap] w' (NWent C1 w' an most (if most ≤ Lq.length then Lq else Lq ++ [⟨k, (k : Int) + 1, d⟩]) (.int .i64 (if most ≤ Lq.length then 11 else 0))) from nsend_any hn k ((k : Int) + 1) hs (by omega) hl6)
                        have c3 := (HB.out.cell (p := ⟨b, off + k, none⟩) HBL.out).trans G3.out
                        by_cases hfu : most ≤ (Lq.length : Int)
                        · exfalso; omega
                        · have hint : (Q.length : Int) - a < most := by omega
                          have HOK2 : Hid (Okn (Lq ++ [⟨k, (k : Int) + 1, d⟩])) := Lib.hid (by have := HOK.out.sent (room := most) hm2 (m := ⟨k, (k : Int) + 1, d⟩) hdd; unfold sentL at this; rwa [if_neg hfu] at this)
                          simp only [if_neg hfu] at HSN
                          go_wp2_with (first
                            | (go_at_call 14; refine (HSN _ _ HO.out.hn (HSB.out.tn (tn_low HB.out) (fun k h1 h2 => by omega))).out.mono ?_; rintro e w5 ⟨rfl, C', h2, h4⟩; obtain ⟨g1, g2⟩ := HO.out.went h2 h4; have HO := Lib.hid g1; have HB := Lib.hid (HB.out.trans g2); have c9 := (HB.out.cell (p := ⟨b, off + k, none⟩) HBL.out).trans G3.out; clear h2 h4 g1 g2)
                            | (at_builtin; refine wpList_append_own_at _ rfl (.tmp 138) (.tmp 143) 50 rfl w.heap.size 33 i0 (.slice none 0 0) 1 24 under_sl hi hz0 hz1 hz2 rfl (by decide) _ _ _ rfl (HO.out.below (below1 w5 _)).sq.own ⟨w5.heap.size, 0, none⟩ 1 1 [.slice ro d.length rc] rfl rfl (cell_one_new _ _ _) (by intro u hu; obtain rfl := List.mem_singleton.1 hu; rfl) (by unfold maxLen; omega) (by omega) (by have := HO.out.bw; simp; omega) ?_; intro v2 w9 hown' hgrow _ hat; have hpp := (HO.out.below (below1 w5 (.cells #[.slice ro d.length rc] 33))).push hgrow (HSB.out.tn (tn_low (HB.out.trans ((below1 w5 (.cells #[.slice ro d.length rc] 33)).mono HB.out.size))) (fun k h1 h2 => by omega)) hown' hat; have HP := Lib.hid hpp.1; have HB9 := Lib.hid ((HB.out.trans ((below1 w5 (.cells #[.slice ro d.length rc] 33)).mono HB.out.size)).trans hpp.2); clear hpp hown' hgrow hat)
                            | fail)
                          go_roundw
                          case rel => exact ⟨k + 1, a, Lq ++ [⟨k, (k : Int) + 1, d⟩], Q ++ [(d, .slice ro d.length rc)], by go_num, by rw [hqa0], by simp, by omega, by simp; omega, by simp; omega, Lib.hid ⟨_, HP.out⟩, Lib.hid (by rw [List.map_append, List.map_append, List.drop_append_of_le_length (by simp; omega), HE.out]; rfl), HOK2, HB9⟩
                          case measure => simp [intOf]; omega
                      · have hqa : a < Q.length := by omega
                        have hlt3 : decide ((a : Int) < (Q.length : Int)) = true := by simp; omega
                        obtain ⟨g, hg, _, _⟩ := HO.out.sq.at_ hqa
                        subst hg
                        obtain ⟨mm, Lq', hLe, hmd, he2⟩ := took_split HE.out hqa
                        subst hLe
                        obtain ⟨r2, c2, hx2, _⟩ := HO.out.sq.dat _ (List.getElem_mem hqa)
                        rw [← hmd] at hx2
                        have HE2 := Lib.hid he2
                        have hmm := HOK.out.dat mm (List.mem_cons_self ..)
                        have HOK3 : Hid (Okn Lq') := Lib.hid (HOK.out.erase 0)
                        have HTY : ∀ w', NK C1 w' an most (mm :: Lq') → Hid (Calls Try.prog 15 #[ptr an, .int .i64 0] w' (NTook C1 w' an most Lq' mm)) := fun w' hn => Lib.hid (ntake_yes hn (i := 0) (by simp) hl6 (Nat.le_trans hmm (by decide)))
                        obtain ⟨m1, m2, m3⟩ := mm
                        have HSQ : ∀ {w' : World}, SQ w.heap.size w' (.slice (some ⟨g, 0, none⟩) Q.length sc) Q → SB (· < w.heap.size) w' r2 m3.length c2 m3 := fun h => h.sb hqa hx2 hmd.symm
                        have HGC : ∀ {w' : World}, SQ w.heap.size w' (.slice (some ⟨g, 0, none⟩) Q.length sc) Q → w'.cell? ⟨g, a, none⟩ = some (.slice r2 m3.length c2) := fun h => (h.cell hqa).trans (by rw [hx2])
                        clear he2 HE hmm
                        have HBY := fun w' {D E : Nat → Prop} {po uo : Option Addr} {pc uc : Nat} (s1 : SB D w' po m3.length pc m3) (s2 : SB E w' uo m3.length uc m3) => Lib.hid (show Calls Try.prog 22 #[.slice po m3.length pc, .slice uo m3.length uc] w' fun e w'' => e = .returned (.bool true) ∧ w' = w'' from by have := bytes_any s1 s2; simpa using this)
                        have HHX := Lib.hid hx2
                        have HHM := Lib.hid hmd
                        have hl7 : Lq'.length ≤ 1000000 := by simp at hl6; omega
                        have hll2 : Lq'.length = Q.length - (a + 1) := by simp at hll; omega
                        clear hx2 hmd hl6 hll
                        go_wp2_with (first
                          | (go_at_call 15; refine (HTY _ HO.out.hn).out.mono ?_; rintro e w4 ⟨to, tc, rfl, C', h2, h3, h4⟩; obtain ⟨g1, g2⟩ := HO.out.went h2 h4; have HX := Lib.hid (mx_new w4 40 (⟨m1, m2, m3⟩, .slice to m3.length tc)); have HO := Lib.hid (g1.below (below1 w4 (mobj 40 (⟨m1, m2, m3⟩, .slice to m3.length tc)))); have HSM := Lib.hid (h3.below (below1 w4 (mobj 40 (⟨m1, m2, m3⟩, .slice to m3.length tc)))); have HB := Lib.hid (HB.out.trans (g2.trans ((below1 w4 (mobj 40 (⟨m1, m2, m3⟩, .slice to m3.length tc))).mono (Nat.le_trans HB.out.size g2.size)))); clear h2 h3 h4 g1 g2)
                          | fail)
                        obtain ⟨b15, hb15⟩ : ∃ b, w4.heap.size = b := ⟨_, rfl⟩
                        rw [hb15] at HX
                        rw [hb15]
                        obtain ⟨W9, hW9⟩ : ∃ W, w4.alloc (mobj 40 (⟨m1, m2, m3⟩, .slice to m3.length tc)) = W := ⟨_, rfl⟩
                        rw [hW9] at HX HO HSM HB
                        have hW9' : w4.alloc (.cells #[.int .i64 m1, .int .i64 m2, .slice to m3.length tc] 40) = W9 := hW9
                        rw [hW9']
                        clear hW9 hW9'
                        have x2 := HX.out.c2
                        have gc := HGC HO.out.sq
                        simp only at x2
                        have HBQ := fun nq => Lib.hid (show Calls Try.prog 22 #[.slice to m3.length tc, .slice r2 m3.length c2] (W9.drewN nq) fun e w'' => e = .returned (.bool true) ∧ w'' = W9.drewN nq from by have := bytes_any (HSM.out.below (below_drewN W9 nq)) ((HSQ HO.out.sq).below (below_drewN W9 nq)); exact this.mono (fun e w'' h => ⟨by rw [h.1]; simp, h.2.symm⟩))
                        go_quiet (first | (go_at_call 22; exact Calls.quiet_of_same (HBQ _).out))
                        have hb := below_drewN W9 nq
                        have HO := Lib.hid (HO.out.below hb)
                        have HB := Lib.hid (HB.out.trans (hb.mono HB.out.size))
                        clear hb x2 gc HBQ HSM HX
                        obtain ⟨W8, hW8⟩ : ∃ W, W9.drewN nq = W := ⟨_, rfl⟩
                        rw [hW8] at HO HB
                        rw [hW8]
                        clear hW8
                        have hl6 := hl7
                        have HSN := fun C1 w' (hn : NK C1 w' an most Lq') {ao : Option Addr} {cap : Nat} {D : Nat → Prop} (hs : SB D w' ao d.length cap d) => Lib.hid (show Calls Try.prog 14 #[ptr an, .int .i64 k, .int .i64 ((k : Int) + 1), .slice ao d.length cap] w' (NWent C1 w' an most (if most ≤ Lq'.length then Lq' else Lq' ++ [⟨k, (k : Int) + 1, d⟩]) (.int .i64 (if most ≤ Lq'.length then 11 else 0))) from nsend_any hn k ((k : Int) + 1) hs (by omega) hl6)
                        have c3 := (HB.out.cell (p := ⟨b, off + k, none⟩) HBL.out).trans G3.out
                        by_cases hfu : most ≤ (Lq'.length : Int)
                        · have hint : ¬ (Q.length : Int) - ((a : Int) + 1) < most := by omega
                          simp only [if_pos hfu] at HSN
                          go_wp2_with (first
                            | (go_at_call 14; refine (HSN _ _ HO.out.hn (HSB.out.tn (tn_low HB.out) (fun k h1 h2 => by omega))).out.mono ?_; rintro e w5 ⟨rfl, C', h2, h4⟩; obtain ⟨g1, g2⟩ := HO.out.went h2 h4; have HO := Lib.hid g1; have HB := Lib.hid (HB.out.trans g2); have c9 := (HB.out.cell (p := ⟨b, off + k, none⟩) HBL.out).trans G3.out; clear h2 h4 g1 g2)
                            | fail)
                          go_roundw
                          case rel => exact ⟨k + 1, a + 1, Lq', Q, by go_num, by go_num, rfl, by omega, by omega, by omega, Lib.hid ⟨_, HO.out⟩, HE2, HOK3, HB⟩
                          case measure => simp [intOf]; omega
                        · have hint : (Q.length : Int) - ((a : Int) + 1) < most := by omega
                          have HOK2 : Hid (Okn (Lq' ++ [⟨k, (k : Int) + 1, d⟩])) := Lib.hid (by have := HOK3.out.sent (room := most) hm2 (m := ⟨k, (k : Int) + 1, d⟩) hdd; unfold sentL at this; rwa [if_neg hfu] at this)
                          simp only [if_neg hfu] at HSN
                          go_wp2_with (first
                            | (go_at_call 14; refine (HSN _ _ HO.out.hn (HSB.out.tn (tn_low HB.out) (fun k h1 h2 => by omega))).out.mono ?_; rintro e w5 ⟨rfl, C', h2, h4⟩; obtain ⟨g1, g2⟩ := HO.out.went h2 h4; have HO := Lib.hid g1; have HB := Lib.hid (HB.out.trans g2); have c9 := (HB.out.cell (p := ⟨b, off + k, none⟩) HBL.out).trans G3.out; clear h2 h4 g1 g2)
                            | (at_builtin; refine wpList_append_own_at _ rfl (.tmp 138) (.tmp 143) 50 rfl w.heap.size 33 i0 (.slice none 0 0) 1 24 under_sl hi hz0 hz1 hz2 rfl (by decide) _ _ _ rfl (HO.out.below (below1 w5 _)).sq.own ⟨w5.heap.size, 0, none⟩ 1 1 [.slice ro d.length rc] rfl rfl (cell_one_new _ _ _) (by intro u hu; obtain rfl := List.mem_singleton.1 hu; rfl) (by unfold maxLen; omega) (by omega) (by have := HO.out.bw; simp; omega) ?_; intro v2 w9 hown' hgrow _ hat; have hpp := (HO.out.below (below1 w5 (.cells #[.slice ro d.length rc] 33))).push hgrow (HSB.out.tn (tn_low (HB.out.trans ((below1 w5 (.cells #[.slice ro d.length rc] 33)).mono HB.out.size))) (fun k h1 h2 => by omega)) hown' hat; have HP := Lib.hid hpp.1; have HB9 := Lib.hid ((HB.out.trans ((below1 w5 (.cells #[.slice ro d.length rc] 33)).mono HB.out.size)).trans hpp.2); clear hpp hown' hgrow hat)
                            | fail)
                          go_roundw
                          case rel => exact ⟨k + 1, a + 1, Lq' ++ [⟨k, (k : Int) + 1, d⟩], Q ++ [(d, .slice ro d.length rc)], by go_num, by go_num, by simp, by omega, by simp; omega, by simp; omega, Lib.hid ⟨_, HP.out⟩, Lib.hid (by rw [List.map_append, List.map_append, List.drop_append_of_le_length (by simp; omega), HE2.out]; rfl), HOK2, HB9⟩
                          case measure => simp [intOf]; omega
                  · have HSN := fun C1 w' (hn : NK C1 w' an most Lq) {ao : Option Addr} {cap : Nat} {D : Nat → Prop} (hs : SB D w' ao d.length cap d) => Lib.hid (show Calls Try.prog 14 #[ptr an, .int .i64 k, .int .i64 ((k : Int) + 1), .slice ao d.length cap] w' (NWent C1 w' an most (if most ≤ Lq.length then Lq else Lq ++ [⟨k, (k : Int) + 1, d⟩]) (.int .i64 (if most ≤ Lq.length then 11 else 0))) from nsend_any hn k ((k : Int) + 1) hs (by omega) hl6)
                    have c3 := (HB.out.cell (p := ⟨b, off + k, none⟩) HBL.out).trans G3.out
                    by_cases hfu : most ≤ (Lq.length : Int)
                    · have hint : ¬ (Q.length : Int) - a < most := by omega
                      simp only [if_pos hfu] at HSN
                      go_wp2_with (first
                        | (go_at_call 14; refine (HSN _ _ HO.out.hn (HSB.out.tn (tn_low HB.out) (fun k h1 h2 => by omega))).out.mono ?_; rintro e w5 ⟨rfl, C', h2, h4⟩; obtain ⟨g1, g2⟩ := HO.out.went h2 h4; have HO := Lib.hid g1; have HB := Lib.hid (HB.out.trans g2); have c9 := (HB.out.cell (p := ⟨b, off + k, none⟩) HBL.out).trans G3.out; clear h2 h4 g1 g2)
                        | fail)
                      go_roundw
                      case rel => exact ⟨k + 1, a, Lq, Q, by go_num, rfl, rfl, by omega, by omega, by omega, Lib.hid ⟨_, HO.out⟩, HE, HOK, HB⟩
                      case measure => simp [intOf]; omega
                    · have hint : (Q.length : Int) - a < most := by omega
                      have HOK2 : Hid (Okn (Lq ++ [⟨k, (k : Int) + 1, d⟩])) := Lib.hid (by have := HOK.out.sent (room := most) hm2 (m := ⟨k, (k : Int) + 1, d⟩) hdd; unfold sentL at this; rwa [if_neg hfu] at this)
                      simp only [if_neg hfu] at HSN
                      go_wp2_with (first
                        | (go_at_call 14; refine (HSN _ _ HO.out.hn (HSB.out.tn (tn_low HB.out) (fun k h1 h2 => by omega))).out.mono ?_; rintro e w5 ⟨rfl, C', h2, h4⟩; obtain ⟨g1, g2⟩ := HO.out.went h2 h4; have HO := Lib.hid g1; have HB := Lib.hid (HB.out.trans g2); have c9 := (HB.out.cell (p := ⟨b, off + k, none⟩) HBL.out).trans G3.out; clear h2 h4 g1 g2)
                        | (at_builtin; refine wpList_append_own_at _ rfl (.tmp 138) (.tmp 143) 50 rfl w.heap.size 33 i0 (.slice none 0 0) 1 24 under_sl hi hz0 hz1 hz2 rfl (by decide) _ _ _ rfl (HO.out.below (below1 w5 _)).sq.own ⟨w5.heap.size, 0, none⟩ 1 1 [.slice ro d.length rc] rfl rfl (cell_one_new _ _ _) (by intro u hu; obtain rfl := List.mem_singleton.1 hu; rfl) (by unfold maxLen; omega) (by omega) (by have := HO.out.bw; simp; omega) ?_; intro v2 w9 hown' hgrow _ hat; have hpp := (HO.out.below (below1 w5 (.cells #[.slice ro d.length rc] 33))).push hgrow (HSB.out.tn (tn_low (HB.out.trans ((below1 w5 (.cells #[.slice ro d.length rc] 33)).mono HB.out.size))) (fun k h1 h2 => by omega)) hown' hat; have HP := Lib.hid hpp.1; have HB9 := Lib.hid ((HB.out.trans ((below1 w5 (.cells #[.slice ro d.length rc] 33)).mono HB.out.size)).trans hpp.2); clear hpp hown' hgrow hat)
                        | fail)
                      go_roundw
                      case rel => exact ⟨k + 1, a, Lq ++ [⟨k, (k : Int) + 1, d⟩], Q ++ [(d, .slice ro d.length rc)], by go_num, rfl, by simp, by omega, by simp; omega, by simp; omega, Lib.hid ⟨_, HP.out⟩, Lib.hid (by rw [List.map_append, List.map_append, List.drop_append_of_le_length (by simp; omega), HE.out]; rfl), HOK2, HB9⟩
                      case measure => simp [intOf]; omega
                · obtain rfl : k = n := by omega
                  have HLN : ∀ w', NK C1 w' an most Lq → Hid (Calls Try.prog 21 #[ptr an] w' fun e w'' => e = .returned (.int .i64 ((Q.length : Int) - a)) ∧ Below w'.heap.size w' w'') := fun w' hn => Lib.hid (by have := nlen_any hn; rwa [show (Lq.length : Int) = (Q.length : Int) - a by omega] at this)
                  go_wp2_with (first
                    | (go_at_call 7; refine (HF _).out.mono ?_; rintro e w9 ⟨rfl, hb⟩; have HO9 := Lib.hid (HO.out.below hb); have HB9 := Lib.hid (HB.out.trans (hb.mono HB.out.size)); clear hb)
                    | (go_at_call 21; refine (HLN _ HO9.out.hn).out.mono ?_; rintro e w10 ⟨rfl, hb⟩; have HB10 := Lib.hid (HB9.out.trans (hb.mono HB9.out.size)); clear hb)
                    | fail)
                  go_ret
                  exact ⟨by simp, HB10.out⟩
            · have hz2 : ¬ ((weiR D : Nat) : Int) ≤ 20000 := by omega
              generalize weiR D = s at *
              clear hz
              go_wp2_with (first
                | (go_at_call 7; refine (HF _).out.mono ?_; rintro e w9 ⟨rfl, hb⟩; have HB9 := Lib.hid (HB.out.trans (hb.mono HB.out.size)); clear hb)
                | fail)
              go_ret
              exact ⟨rfl, HB9.out⟩
    · go_enter Try.func5, Try.ntmps5
      go_wp2_with (first
        | (go_at_call 8; refine (HNN _).out.mono ?_; rintro e w2 ⟨an, C1, rfl, hk, hc, hb⟩; have HB2 := Lib.hid (HB1.out.trans (hb.mono HB1.out.size)); have HK2 := Lib.hid hk; have HC2 := Lib.hid hc; clear hk hc hb)
        | (go_at_call 7; first | (have g9 := HB2; refine (HF _).out.mono ?_; rintro e w3 ⟨rfl, hb⟩; have HB3 := Lib.hid (HB2.out.trans (hb.mono HB2.out.size)); clear hb) | (refine (HF _).out.mono ?_; rintro e w1 ⟨rfl, hb⟩; have HB1 := Lib.hid hb; clear hb))
        | fail)
      go_ret
      exact ⟨by simp, HB3.out⟩
  · have HNN := fun w => Lib.hid (nnew_no most hm w)
    clear hm
    go_enter Try.func5, Try.ntmps5
    go_wp2_with (first
      | (go_at_call 8; refine (HNN _).out.mono ?_; rintro e w2 ⟨rfl, hb⟩; have HB2 := Lib.hid (HB1.out.trans (hb.mono HB1.out.size)); clear hb)
      | (go_at_call 7; first | (have g9 := HB2; refine (HF _).out.mono ?_; rintro e w3 ⟨rfl, hb⟩; have HB3 := Lib.hid (HB2.out.trans (hb.mono HB2.out.size)); clear hb) | (refine (HF _).out.mono ?_; rintro e w1 ⟨rfl, hb⟩; have HB1 := Lib.hid hb; clear hb))
      | fail)
    go_ret
    exact ⟨by simp, HB3.out⟩
end
end Go.Proofs.Ytcgbjpmmbbldpaa
