/- NetSent's walk. Conditions: none of its own. -/
import Derived.Test.YtcgbjpmmbbldpaaSa
namespace Go.Proofs.Ytcgbjpmmbbldpaa
open Go.ChangeShapes Go.WideShapes Go.ChangeAt Go.RowKit Go.Deep
section
variable {w : World}
set_option maxRecDepth 100000 in
set_option maxHeartbeats 40000000 in
/-- racelaw13.NetSent answers true. -/
theorem sent_any {ao : Option Addr} {n cap : Nat} {l : List OpN} (h : SO (· < w.heap.size) w ao n cap l) :
    Calls Try.prog 4 #[.slice ao n cap] w fun e w' => e = .returned (.bool true) ∧ Below w.heap.size w w' := by
  obtain ⟨i0, hi0, hz0, hz1, hz2⟩ := info_parts info_nm
  have HF := fun w => Lib.hid (first13_any w)
  have HS := Lib.hid h
  have HNN := fun w => Lib.hid (nnew_yes 4096 (by decide) (by decide) w)
  have HFW : ∀ w' : World, SO (· < w.heap.size) w' ao n cap l → Hid (Calls Try.prog 10 #[.slice ao n cap] w' fun e w'' => e = .returned (.bool (fewB l)) ∧ Below w'.heap.size w' w'') := fun w' h => Lib.hid (few_any h)
  cases hf : fewB l with
  | false =>
    simp only [hf] at HFW
    clear h hf
    go_enter Try.func4, Try.ntmps4
    go_wp2_with (first
      | (go_at_call 8; refine (HNN _).out.mono ?_; rintro e w2 ⟨an, C1, rfl, hk, hc, hb⟩; have HB2 := Lib.hid (HB1.out.trans (hb.mono HB1.out.size)); clear hk hc hb)
      | (go_at_call 10; refine (HFW _ (HS.out.low HB2.out)).out.mono ?_; rintro e w4 ⟨rfl, hb⟩; have HB4 := Lib.hid (HB2.out.trans (hb.mono HB2.out.size)); clear hb)
      | (go_at_call 7; first
        | (have hi9 := HB4; refine (HF _).out.mono ?_; rintro e w5 ⟨rfl, hb⟩; have HB5 := Lib.hid (HB4.out.trans (hb.mono HB4.out.size)); clear hb)
        | (refine (HF _).out.mono ?_; rintro e w1 ⟨rfl, hb⟩; have HB1 := Lib.hid hb; clear hb))
      | fail)
    go_ret
    exact ⟨rfl, HB5.out⟩
  | true =>
    simp only [hf] at HFW
    have HFY := Lib.hid (few_yes hf)
    have hlt := h.lt
    have HLEN := Lib.hid h.len
    clear h hf
    go_enter Try.func4, Try.ntmps4
    go_wp2_with (first
      | (go_at_call 8; refine (HNN _).out.mono ?_; rintro e w2 ⟨an, C1, rfl, hk, hc, hb⟩; have HB2 := Lib.hid (HB1.out.trans (hb.mono HB1.out.size)); have HK2 := Lib.hid hk; have HC2 := Lib.hid hc; clear hk hc hb)
      | (go_at_call 10; refine (HFW _ (HS.out.low HB2.out)).out.mono ?_; rintro e w4 ⟨rfl, hb⟩; have HB4 := Lib.hid (HB2.out.trans (hb.mono HB2.out.size)); have HK4 := Lib.hid (HK2.out.below hb); clear hb)
      | (go_at_call 7; refine (HF _).out.mono ?_; rintro e w1 ⟨rfl, hb⟩; have HB1 := Lib.hid hb; clear hb)
      | fail)
    have HNB : Hid (∃ C D, NS w.heap.size w w4 an [] (.slice none 0 0) [] C D ∧ ∀ q, q < w.heap.size → D q) := Lib.hid ⟨C1, (· < w.heap.size), ⟨HK4.out, ⟨World.ownsRow_nil _ _ _ _, fun x hx => (nomatch hx)⟩, fun k h1 => Nat.le_trans HB1.out.size (HC2.out k h1), fun k hk => (by simp [Value.ownBlock] at hk), fun k h1 h2 => (by have := HC2.out k h2; have := HB1.out.size; omega), fun k hk => (by simp [Value.ownBlock] at hk), fun k hk => Nat.lt_of_lt_of_le hk HB4.out.size, HB4.out, HB4.out.size⟩, fun q hq => hq⟩
    have hlen4 : n ≤ 400 := by rw [HLEN.out]; exact HFY.out.1
    clear HK4 HK2 HC2 HB2 HB1 HB4 HNN HFW
    go_loopw [5, 6] (fun vt vi wr => ∃ (k : Nat) (L : List MV) (T : List MH), vi = .int .i64 k ∧ k ≤ n ∧ L.length ≤ k ∧ Hid (∃ C D, NS w.heap.size w wr an L vt T C D ∧ ∀ q, q < w.heap.size → D q) ∧ Hid (L.Perm (T.map (·.1))) ∧ Hid (Okn L)) (fun _ vi _ => n - (intOf vi).toNat)
    case atStart => exact ⟨0, [], [], rfl, Nat.zero_le _, Nat.le_refl _, HNB, Lib.hid (List.Perm.refl _), Lib.hid Okn.nil⟩
    case round =>
      clear HNB
      obtain ⟨k, L, T, rfl, hk, hlk, HS0, HP, HOK⟩ := hrel
      obtain ⟨C1, D1, hs, hdd⟩ := HS0.out
      obtain ⟨vo, vc, e⟩ := own_slice hs.tl.own
      subst e
      have HN0 := Lib.hid hs
      have HDD := Lib.hid hdd
      have htl : T.length = L.length := by rw [← List.length_map (f := fun x : MH => x.1), ← HP.out.length_eq]
      clear hs hdd HS0
      obtain ⟨tl, htl2⟩ : ∃ tl, T.length = tl := ⟨_, rfl⟩
      rw [htl2]
      have HTL := Lib.hid htl2
      have HLL : Hid (L.length = tl) := Lib.hid (by omega)
      have htk : tl ≤ k := by omega
      rw [htl2] at HN0
      clear htl htl2 hlk
      by_cases hlt2 : k < n
      · have hkl : k < l.length := by rw [← HLEN.out]; exact hlt2
        obtain ⟨b, off, rfl, hbl, ho⟩ := HS.out.at_ hkl
        have hdl := wei_mem HFY.out.2 _ (List.getElem_mem hkl)
        have q0 := (HN0.out.lo.cell (p := ⟨b, off + k * 4, none⟩) hbl).trans ho.c0
        have q1 := (HN0.out.lo.cell (p := ⟨b, off + k * 4 + 1, none⟩) hbl).trans ho.c1
        have q2 := (HN0.out.lo.cell (p := ⟨b, off + k * 4 + 2, none⟩) hbl).trans ho.c2
        obtain ⟨po, pc, g3, hsb⟩ := ho.c3
        have q3 := (HN0.out.lo.cell (p := ⟨b, off + k * 4 + 3, none⟩) hbl).trans g3
        have HSB0 := Lib.hid (hsb.low HN0.out.lo)
        clear ho g3 hsb hbl
        generalize l[k] = o at *
        obtain ⟨o1, o2, o3, o4⟩ := o
        simp only at q0 q1 q2 q3 HSB0 hdl
        have HDL := Lib.hid hdl
        clear hdl
        have HN1 := Lib.hid (HN0.out.box (opo ⟨o1, o2, o3, o4⟩ po pc))
        have HQ1 := Lib.hid (heap_new wr (opo ⟨o1, o2, o3, o4⟩ po pc))
        have HSB1 : Hid (SB (fun q => D1 q ∨ q = wr.heap.size) (wr.alloc (opo ⟨o1, o2, o3, o4⟩ po pc)) po o4.length pc o4) := Lib.hid ((HSB0.out.below (below1 wr (opo ⟨o1, o2, o3, o4⟩ po pc))).mono fun q _ e => .inl (HDD.out q e))
        obtain ⟨y0, y1, y2, y3⟩ := box_cells HQ1.out
        simp only at y0 y1 y2 y3
        have hl6 : L.length ≤ 1000000 := Nat.le_trans HOK.out.len (by decide)
        have hnf : ¬ (4096 : Int) ≤ L.length := by rw [HLL.out]; omega
        by_cases hh : hasB L o2 = false
        · by_cases h1 : o1 = 1
          · subst h1
            have HAT := fun w' hn => Lib.hid (nat_no (w := w') (a := an) (C := C1) (room := 4096) (l := L) hn hh)
            have HSN := fun w' C (hn : NK C w' an 4096 L) {ao : Option Addr} {cap : Nat} {D : Nat → Prop} (hs : SB D w' ao o4.length cap o4) => Lib.hid (show Calls Try.prog 14 #[ptr an, .int .i64 o2, .int .i64 o3, .slice ao o4.length cap] w' (NWent C w' an 4096 (L ++ [(⟨o2, o3, o4⟩ : MV)]) (.int .i64 0)) from by have := nsend_any hn o2 o3 hs (by have := HDL.out; omega) hl6; rw [if_neg hnf, if_neg hnf] at this; exact this)
            have HO2 : Hid (Okn (L ++ [(⟨o2, o3, o4⟩ : MV)])) := Lib.hid (by have := HOK.out.sent (room := 4096) (by decide) (m := (⟨o2, o3, o4⟩ : MV)) HDL.out; unfold sentL at this; rwa [if_neg hnf] at this)
            have HP2 : Hid (List.Perm (L ++ [(⟨o2, o3, o4⟩ : MV)]) (List.map (·.1) (T ++ [(((⟨o2, o3, o4⟩ : MV), .slice po o4.length pc) : MH)]))) := Lib.hid (by rw [List.map_append]; exact HP.out.append_right _)
            have HL2 : Hid ((L ++ [(⟨o2, o3, o4⟩ : MV)]).length = tl + 1) := Lib.hid (by rw [List.length_append, HLL.out]; rfl)
            have HLN := fun w' C (hn : NK C w' an 4096 (L ++ [(⟨o2, o3, o4⟩ : MV)])) => Lib.hid (show Calls Try.prog 21 #[ptr an] w' (fun e w'' => e = .returned (.int .i64 ((tl + 1 : Nat) : Int)) ∧ Below w'.heap.size w' w'') from by have := nlen_any hn; rwa [show ((L ++ [(⟨o2, o3, o4⟩ : MV)])).length = tl + 1 from HL2.out] at this)
            clear hl6 hnf
            go_wp2_with (first
              | (go_at_call 13; refine (HAT _ HN1.out.hn).out.mono ?_; rintro e w2 ⟨rfl, hb⟩; obtain ⟨D2, hn2, hkb, hdd⟩ := HN1.out.nobody HQ1.out (.inr rfl) HSB1.out hb; have HN := Lib.hid hn2; have HKB := Lib.hid hkb; have HD2 : Hid (∀ q, q < w.heap.size → D2 q) := Lib.hid (fun q hq => hdd q (.inl (HDD.out q hq))); clear hb hn2 hkb hdd; obtain ⟨⟨y0, y1, y2, y3⟩, z0, z1, z2⟩ := HKB.out.cells; simp only at y0 y1 y2 y3 z0 z1 z2)
              | (go_at_call 14; refine (HSN _ _ HN.out.hn HKB.out.sp).out.mono ?_; rintro e w4 ⟨rfl, C', h2, h4⟩; have hkb := HKB.out.tn h4.tn HN.out.dc; have HN := Lib.hid (HN.out.went h2 h4); have HKB := Lib.hid hkb; clear h2 h4 hkb; obtain ⟨⟨y0, y1, y2, y3⟩, z0, z1, z2⟩ := HKB.out.cells; simp only at y0 y1 y2 y3 z0 z1 z2)
              | (at_builtin; refine wpList_append_own_at _ rfl (.tmp 60) (.tmp 68) 38 rfl w.heap.size 40 i0 (.agg #[.int .i64 0, .int .i64 0, .slice none 0 0]) 3 40 under_nms hi0 hz0 hz1 hz2 rfl (by decide) _ _ _ rfl (HTL.out ▸ (HN.out.below (below1 w4 _)).tl.own) ⟨w4.heap.size, 0, none⟩ 1 1 (mC ((⟨o2, o3, o4⟩ : MV), .slice po o4.length pc)) rfl rfl (cells_ml w4 ((⟨o2, o3, o4⟩ : MV), .slice po o4.length pc) 40 _ rfl) (mC_one _ _ _ _) (by unfold maxLen; omega) (by omega) (by have := HN.out.bw; simp; omega) ?_; intro v2 w5 ho hg _ hat; obtain ⟨v3, vc3, e⟩ := own_slice ho; subst e; obtain ⟨hp, ht⟩ := (HN.out.below (below1 w4 (mobj 40 ((⟨o2, o3, o4⟩ : MV), .slice po o4.length pc)))).push HTL.out ((⟨_, _, rfl, (HKB.out.below (below1 w4 _)).sp⟩ : DR D2 _ _)) hg ho hat; have hkb := (HKB.out.below (below1 w4 (mobj 40 ((⟨o2, o3, o4⟩ : MV), .slice po o4.length pc)))).tn ht (fun q hq e => HN.out.dv q e hq); have HN := Lib.hid hp; have HKB := Lib.hid hkb; clear ho hg hat hp ht hkb; obtain ⟨⟨y0, y1, y2, y3⟩, z0, z1, z2⟩ := HKB.out.cells; simp only at y0 y1 y2 y3 z0 z1 z2)
              | (go_at_call 21; refine (HLN _ _ HN.out.hn).out.mono ?_; rintro e w6 ⟨rfl, hb⟩; have hkb := HKB.out.below hb; have HN := Lib.hid (HN.out.below hb); have HKB := Lib.hid hkb; clear hb hkb; obtain ⟨⟨y0, y1, y2, y3⟩, z0, z1, z2⟩ := HKB.out.cells; simp only at y0 y1 y2 y3 z0 z1 z2)
              | fail)
            go_roundw
            case rel => exact ⟨k + 1, (L ++ [(⟨o2, o3, o4⟩ : MV)]), (T ++ [(((⟨o2, o3, o4⟩ : MV), .slice po o4.length pc) : MH)]), by go_num, by omega, by rw [HL2.out]; omega, Lib.hid ⟨_, _, HN.out, HD2.out⟩, HP2, HO2⟩
            case measure => simp [intOf]; omega
          by_cases h2 : o1 = 2
          · subst h2
            have HAT := fun w' hn => Lib.hid (nat_no (w := w') (a := an) (C := C1) (room := 4096) (l := L) hn hh)
            have HO2 := HOK
            have HP2 := HP
            have HL2 := HLL
            have HTK := fun w' C hn => Lib.hid (ntake_no (w := w') (a := an) (C := C) (room := 4096) (l := L) hn hh)
            have HLN := fun w' C (hn : NK C w' an 4096 L) => Lib.hid (show Calls Try.prog 21 #[ptr an] w' (fun e w'' => e = .returned (.int .i64 ((tl : Nat) : Int)) ∧ Below w'.heap.size w' w'') from by have := nlen_any hn; rwa [show (L).length = tl from HL2.out] at this)
            clear hl6 hnf
            go_wp2_with (first
              | (go_at_call 13; refine (HAT _ HN1.out.hn).out.mono ?_; rintro e w2 ⟨rfl, hb⟩; obtain ⟨D2, hn2, hkb, hdd⟩ := HN1.out.nobody HQ1.out (.inr rfl) HSB1.out hb; have HN := Lib.hid hn2; have HKB := Lib.hid hkb; have HD2 : Hid (∀ q, q < w.heap.size → D2 q) := Lib.hid (fun q hq => hdd q (.inl (HDD.out q hq))); clear hb hn2 hkb hdd; obtain ⟨⟨y0, y1, y2, y3⟩, z0, z1, z2⟩ := HKB.out.cells; simp only at y0 y1 y2 y3 z0 z1 z2)
              | (go_at_call 15; refine (HTK _ _ HN.out.hn).out.mono ?_; rintro e w4 ⟨rfl, hb0⟩; have hb := hb0.trans ((below1 w4 (mobj 40 (⟨0, 0, []⟩, .slice none 0 0))).mono hb0.size); have hkb := HKB.out.below hb; have HN := Lib.hid (HN.out.below hb); have HKB := Lib.hid hkb; clear hb hb0 hkb; obtain ⟨⟨y0, y1, y2, y3⟩, z0, z1, z2⟩ := HKB.out.cells; simp only at y0 y1 y2 y3 z0 z1 z2)
              | (go_at_call 21; refine (HLN _ _ HN.out.hn).out.mono ?_; rintro e w6 ⟨rfl, hb⟩; have hkb := HKB.out.below hb; have HN := Lib.hid (HN.out.below hb); have HKB := Lib.hid hkb; clear hb hkb; obtain ⟨⟨y0, y1, y2, y3⟩, z0, z1, z2⟩ := HKB.out.cells; simp only at y0 y1 y2 y3 z0 z1 z2)
              | fail)
            go_roundw
            case rel => exact ⟨k + 1, L, T, by go_num, by omega, by rw [HL2.out]; omega, Lib.hid ⟨_, _, HN.out, HD2.out⟩, HP2, HO2⟩
            case measure => simp [intOf]; omega
          by_cases h3 : o1 = 3
          · subst h3
            have HAT := fun w' hn => Lib.hid (nat_no (w := w') (a := an) (C := C1) (room := 4096) (l := L) hn hh)
            have HO2 := HOK
            have HP2 := HP
            have HL2 := HLL
            have HTK := fun w' C hn => Lib.hid (ndrop_no (w := w') (a := an) (C := C) (room := 4096) (l := L) hn hh)
            have HLN := fun w' C (hn : NK C w' an 4096 L) => Lib.hid (show Calls Try.prog 21 #[ptr an] w' (fun e w'' => e = .returned (.int .i64 ((tl : Nat) : Int)) ∧ Below w'.heap.size w' w'') from by have := nlen_any hn; rwa [show (L).length = tl from HL2.out] at this)
            clear hl6 hnf
            go_wp2_with (first
              | (go_at_call 13; refine (HAT _ HN1.out.hn).out.mono ?_; rintro e w2 ⟨rfl, hb⟩; obtain ⟨D2, hn2, hkb, hdd⟩ := HN1.out.nobody HQ1.out (.inr rfl) HSB1.out hb; have HN := Lib.hid hn2; have HKB := Lib.hid hkb; have HD2 : Hid (∀ q, q < w.heap.size → D2 q) := Lib.hid (fun q hq => hdd q (.inl (HDD.out q hq))); clear hb hn2 hkb hdd; obtain ⟨⟨y0, y1, y2, y3⟩, z0, z1, z2⟩ := HKB.out.cells; simp only at y0 y1 y2 y3 z0 z1 z2)
              | (go_at_call 17; refine (HTK _ _ HN.out.hn).out.mono ?_; rintro e w4 ⟨rfl, hb⟩; have hkb := HKB.out.below hb; have HN := Lib.hid (HN.out.below hb); have HKB := Lib.hid hkb; clear hb hkb; obtain ⟨⟨y0, y1, y2, y3⟩, z0, z1, z2⟩ := HKB.out.cells; simp only at y0 y1 y2 y3 z0 z1 z2)
              | (go_at_call 21; refine (HLN _ _ HN.out.hn).out.mono ?_; rintro e w6 ⟨rfl, hb⟩; have hkb := HKB.out.below hb; have HN := Lib.hid (HN.out.below hb); have HKB := Lib.hid hkb; clear hb hkb; obtain ⟨⟨y0, y1, y2, y3⟩, z0, z1, z2⟩ := HKB.out.cells; simp only at y0 y1 y2 y3 z0 z1 z2)
              | fail)
            go_roundw
            case rel => exact ⟨k + 1, L, T, by go_num, by omega, by rw [HL2.out]; omega, Lib.hid ⟨_, _, HN.out, HD2.out⟩, HP2, HO2⟩
            case measure => simp [intOf]; omega
          by_cases h4 : o1 = 4
          · subst h4
            have HAT := fun w' hn => Lib.hid (nat_no (w := w') (a := an) (C := C1) (room := 4096) (l := L) hn hh)
            have HO2 := HOK
            have HP2 := HP
            have HL2 := HLL
            have HTK := fun w' C hn => Lib.hid (ntwice_no (w := w') (a := an) (C := C) (room := 4096) (l := L) hn hh)
            have HLN := fun w' C (hn : NK C w' an 4096 L) => Lib.hid (show Calls Try.prog 21 #[ptr an] w' (fun e w'' => e = .returned (.int .i64 ((tl : Nat) : Int)) ∧ Below w'.heap.size w' w'') from by have := nlen_any hn; rwa [show (L).length = tl from HL2.out] at this)
            clear hl6 hnf
            go_wp2_with (first
              | (go_at_call 13; refine (HAT _ HN1.out.hn).out.mono ?_; rintro e w2 ⟨rfl, hb⟩; obtain ⟨D2, hn2, hkb, hdd⟩ := HN1.out.nobody HQ1.out (.inr rfl) HSB1.out hb; have HN := Lib.hid hn2; have HKB := Lib.hid hkb; have HD2 : Hid (∀ q, q < w.heap.size → D2 q) := Lib.hid (fun q hq => hdd q (.inl (HDD.out q hq))); clear hb hn2 hkb hdd; obtain ⟨⟨y0, y1, y2, y3⟩, z0, z1, z2⟩ := HKB.out.cells; simp only at y0 y1 y2 y3 z0 z1 z2)
              | (go_at_call 18; refine (HTK _ _ HN.out.hn).out.mono ?_; rintro e w4 ⟨rfl, hb⟩; have hkb := HKB.out.below hb; have HN := Lib.hid (HN.out.below hb); have HKB := Lib.hid hkb; clear hb hkb; obtain ⟨⟨y0, y1, y2, y3⟩, z0, z1, z2⟩ := HKB.out.cells; simp only at y0 y1 y2 y3 z0 z1 z2)
              | (go_at_call 21; refine (HLN _ _ HN.out.hn).out.mono ?_; rintro e w6 ⟨rfl, hb⟩; have hkb := HKB.out.below hb; have HN := Lib.hid (HN.out.below hb); have HKB := Lib.hid hkb; clear hb hkb; obtain ⟨⟨y0, y1, y2, y3⟩, z0, z1, z2⟩ := HKB.out.cells; simp only at y0 y1 y2 y3 z0 z1 z2)
              | fail)
            go_roundw
            case rel => exact ⟨k + 1, L, T, by go_num, by omega, by rw [HL2.out]; omega, Lib.hid ⟨_, _, HN.out, HD2.out⟩, HP2, HO2⟩
            case measure => simp [intOf]; omega
          by_cases h5 : o1 = 5
          · subst h5
            have HAT := fun w' hn => Lib.hid (nat_no (w := w') (a := an) (C := C1) (room := 4096) (l := L) hn hh)
            have HO2 := HOK
            have HP2 := HP
            have HL2 := HLL
            have HTK := fun w' C hn => Lib.hid (nmove_no (w := w') (a := an) (C := C) (room := 4096) (l := L) hn hh o3)
            have HLN := fun w' C (hn : NK C w' an 4096 L) => Lib.hid (show Calls Try.prog 21 #[ptr an] w' (fun e w'' => e = .returned (.int .i64 ((tl : Nat) : Int)) ∧ Below w'.heap.size w' w'') from by have := nlen_any hn; rwa [show (L).length = tl from HL2.out] at this)
            clear hl6 hnf
            go_wp2_with (first
              | (go_at_call 13; refine (HAT _ HN1.out.hn).out.mono ?_; rintro e w2 ⟨rfl, hb⟩; obtain ⟨D2, hn2, hkb, hdd⟩ := HN1.out.nobody HQ1.out (.inr rfl) HSB1.out hb; have HN := Lib.hid hn2; have HKB := Lib.hid hkb; have HD2 : Hid (∀ q, q < w.heap.size → D2 q) := Lib.hid (fun q hq => hdd q (.inl (HDD.out q hq))); clear hb hn2 hkb hdd; obtain ⟨⟨y0, y1, y2, y3⟩, z0, z1, z2⟩ := HKB.out.cells; simp only at y0 y1 y2 y3 z0 z1 z2)
              | (go_at_call 19; refine (HTK _ _ HN.out.hn).out.mono ?_; rintro e w4 ⟨rfl, hb⟩; have hkb := HKB.out.below hb; have HN := Lib.hid (HN.out.below hb); have HKB := Lib.hid hkb; clear hb hkb; obtain ⟨⟨y0, y1, y2, y3⟩, z0, z1, z2⟩ := HKB.out.cells; simp only at y0 y1 y2 y3 z0 z1 z2)
              | (go_at_call 21; refine (HLN _ _ HN.out.hn).out.mono ?_; rintro e w6 ⟨rfl, hb⟩; have hkb := HKB.out.below hb; have HN := Lib.hid (HN.out.below hb); have HKB := Lib.hid hkb; clear hb hkb; obtain ⟨⟨y0, y1, y2, y3⟩, z0, z1, z2⟩ := HKB.out.cells; simp only at y0 y1 y2 y3 z0 z1 z2)
              | fail)
            go_roundw
            case rel => exact ⟨k + 1, L, T, by go_num, by omega, by rw [HL2.out]; omega, Lib.hid ⟨_, _, HN.out, HD2.out⟩, HP2, HO2⟩
            case measure => simp [intOf]; omega
          have hkd : ¬ o1 = 1 ∧ ¬ o1 = 2 ∧ ¬ o1 = 3 ∧ ¬ o1 = 4 ∧ ¬ o1 = 5 := ⟨h1, h2, h3, h4, h5⟩
          have HAT := fun w' hn => Lib.hid (nat_no (w := w') (a := an) (C := C1) (room := 4096) (l := L) hn hh)
          have HO2 := HOK
          have HP2 := HP
          have HL2 := HLL
          have HLN := fun w' C (hn : NK C w' an 4096 L) => Lib.hid (show Calls Try.prog 21 #[ptr an] w' (fun e w'' => e = .returned (.int .i64 ((tl : Nat) : Int)) ∧ Below w'.heap.size w' w'') from by have := nlen_any hn; rwa [show (L).length = tl from HL2.out] at this)
          clear hl6 hnf
          obtain ⟨n1, n2, n3, n4, n5⟩ := hkd
          go_wp2_with (first
            | (go_at_call 13; refine (HAT _ HN1.out.hn).out.mono ?_; rintro e w2 ⟨rfl, hb⟩; obtain ⟨D2, hn2, hkb, hdd⟩ := HN1.out.nobody HQ1.out (.inr rfl) HSB1.out hb; have HN := Lib.hid hn2; have HKB := Lib.hid hkb; have HD2 : Hid (∀ q, q < w.heap.size → D2 q) := Lib.hid (fun q hq => hdd q (.inl (HDD.out q hq))); clear hb hn2 hkb hdd; obtain ⟨⟨y0, y1, y2, y3⟩, z0, z1, z2⟩ := HKB.out.cells; simp only at y0 y1 y2 y3 z0 z1 z2)
            | (go_at_call 21; refine (HLN _ _ HN.out.hn).out.mono ?_; rintro e w6 ⟨rfl, hb⟩; have hkb := HKB.out.below hb; have HN := Lib.hid (HN.out.below hb); have HKB := Lib.hid hkb; clear hb hkb; obtain ⟨⟨y0, y1, y2, y3⟩, z0, z1, z2⟩ := HKB.out.cells; simp only at y0 y1 y2 y3 z0 z1 z2)
            | fail)
          go_roundw
          case rel => exact ⟨k + 1, L, T, by go_num, by omega, by rw [HL2.out]; omega, Lib.hid ⟨_, _, HN.out, HD2.out⟩, HP2, HO2⟩
          case measure => simp [intOf]; omega
        · obtain ⟨i, rfl, hil⟩ := hasB_nat (l := L) (i := o2) (by simpa using hh)
          by_cases h1 : o1 = 1
          · subst h1
            have HAT := fun w' hn => Lib.hid (nat_yes (w := w') (a := an) (C := C1) (room := 4096) (l := L) hn hil (by have := HOK.out.dat _ (List.getElem_mem hil); omega))
            have HSN := fun w' C (hn : NK C w' an 4096 L) {ao : Option Addr} {cap : Nat} {D : Nat → Prop} (hs : SB D w' ao o4.length cap o4) => Lib.hid (show Calls Try.prog 14 #[ptr an, .int .i64 (i : Int), .int .i64 o3, .slice ao o4.length cap] w' (NWent C w' an 4096 (L ++ [(⟨(i : Int), o3, o4⟩ : MV)]) (.int .i64 0)) from by have := nsend_any hn (i : Int) o3 hs (by have := HDL.out; omega) hl6; rw [if_neg hnf, if_neg hnf] at this; exact this)
            have HO2 : Hid (Okn (L ++ [(⟨(i : Int), o3, o4⟩ : MV)])) := Lib.hid (by have := HOK.out.sent (room := 4096) (by decide) (m := (⟨(i : Int), o3, o4⟩ : MV)) HDL.out; unfold sentL at this; rwa [if_neg hnf] at this)
            have HP2 : Hid (List.Perm (L ++ [(⟨(i : Int), o3, o4⟩ : MV)]) (List.map (·.1) (T ++ [(((⟨(i : Int), o3, o4⟩ : MV), .slice po o4.length pc) : MH)]))) := Lib.hid (by rw [List.map_append]; exact HP.out.append_right _)
            have HL2 : Hid ((L ++ [(⟨(i : Int), o3, o4⟩ : MV)]).length = tl + 1) := Lib.hid (by rw [List.length_append, HLL.out]; rfl)
            have HLN := fun w' C (hn : NK C w' an 4096 (L ++ [(⟨(i : Int), o3, o4⟩ : MV)])) => Lib.hid (show Calls Try.prog 21 #[ptr an] w' (fun e w'' => e = .returned (.int .i64 ((tl + 1 : Nat) : Int)) ∧ Below w'.heap.size w' w'') from by have := nlen_any hn; rwa [show ((L ++ [(⟨(i : Int), o3, o4⟩ : MV)])).length = tl + 1 from HL2.out] at this)
            have HPG : Hid (0 ≤ placeT (List.map (·.1) (T ++ [(((⟨(i : Int), o3, o4⟩ : MV), .slice po o4.length pc) : MH)])) L[i]) := Lib.hid (placeT_lt HP2.out (List.mem_append_left _ (List.getElem_mem hil)))
            have HMD : Hid (L[i].d.length ≤ 20000) := Lib.hid (HOK.out.dat _ (List.getElem_mem hil))
            generalize L[i] = m at *
            clear hil
            obtain ⟨m1, m2, m3⟩ := m
            simp only at HMD
            obtain ⟨pl, hpl⟩ : ∃ pl : Nat, placeT (List.map (·.1) (T ++ [(((⟨(i : Int), o3, o4⟩ : MV), .slice po o4.length pc) : MH)])) ⟨m1, m2, m3⟩ = pl := ⟨_, (Int.toNat_of_nonneg HPG.out).symm⟩
            have HPL := fun w' (D : Nat → Prop) {uo so : Option Addr} {uc c : Nat} (ht : TL D w.heap.size w' (.slice so (tl + 1) c) (T ++ [(((⟨(i : Int), o3, o4⟩ : MV), .slice po o4.length pc) : MH)])) (hd : DR D w' (⟨m1, m2, m3⟩, .slice uo m3.length uc)) => Lib.hid (show Calls Try.prog 20 #[.slice so (tl + 1) c, magg (⟨m1, m2, m3⟩, .slice uo m3.length uc)] w' (fun e w'' => e = .returned (.int .i64 (pl : Int)) ∧ Below w'.heap.size w' w'') from by rw [← hpl]; obtain ⟨ro, rc, e1, h5⟩ := hd; injection e1 with e1 _ e3; subst e1 e3; exact place_any ht (by first | exact HTL.out.symm | (rw [List.length_append, HTL.out]; rfl)) (by omega) h5)
            clear hpl HPG
            clear hl6 hnf
            go_wp2_with (first
              | (go_at_call 13; refine (HAT _ HN1.out.hn).out.mono ?_; rintro e w2 ⟨uo, uc, rfl, ho, hb⟩; obtain ⟨D2, hn2, hkb, hdd⟩ := HN1.out.told HQ1.out (.inr rfl) HSB1.out ho hb; have HN := Lib.hid hn2; have HKB := Lib.hid hkb; have HD2 : Hid (∀ q, q < w.heap.size → D2 q) := Lib.hid (fun q hq => hdd q (.inl (HDD.out q hq))); clear ho hb hn2 hkb hdd; obtain ⟨⟨y0, y1, y2, y3⟩, z0, z1, z2⟩ := HKB.out.cells; simp only at y0 y1 y2 y3 z0 z1 z2)
              | (go_at_call 14; refine (HSN _ _ HN.out.hn HKB.out.sp).out.mono ?_; rintro e w4 ⟨rfl, C', h2, h4⟩; have hkb := HKB.out.tn h4.tn HN.out.dc; have HN := Lib.hid (HN.out.went h2 h4); have HKB := Lib.hid hkb; clear h2 h4 hkb; obtain ⟨⟨y0, y1, y2, y3⟩, z0, z1, z2⟩ := HKB.out.cells; simp only at y0 y1 y2 y3 z0 z1 z2)
              | (at_builtin; refine wpList_append_own_at _ rfl (.tmp 60) (.tmp 68) 38 rfl w.heap.size 40 i0 (.agg #[.int .i64 0, .int .i64 0, .slice none 0 0]) 3 40 under_nms hi0 hz0 hz1 hz2 rfl (by decide) _ _ _ rfl (HTL.out ▸ (HN.out.below (below1 w4 _)).tl.own) ⟨w4.heap.size, 0, none⟩ 1 1 (mC ((⟨(i : Int), o3, o4⟩ : MV), .slice po o4.length pc)) rfl rfl (cells_ml w4 ((⟨(i : Int), o3, o4⟩ : MV), .slice po o4.length pc) 40 _ rfl) (mC_one _ _ _ _) (by unfold maxLen; omega) (by omega) (by have := HN.out.bw; simp; omega) ?_; intro v2 w5 ho hg _ hat; obtain ⟨v3, vc3, e⟩ := own_slice ho; subst e; obtain ⟨hp, ht⟩ := (HN.out.below (below1 w4 (mobj 40 ((⟨(i : Int), o3, o4⟩ : MV), .slice po o4.length pc)))).push HTL.out ((⟨_, _, rfl, (HKB.out.below (below1 w4 _)).sp⟩ : DR D2 _ _)) hg ho hat; have hkb := (HKB.out.below (below1 w4 (mobj 40 ((⟨(i : Int), o3, o4⟩ : MV), .slice po o4.length pc)))).tn ht (fun q hq e => HN.out.dv q e hq); have HN := Lib.hid hp; have HKB := Lib.hid hkb; clear ho hg hat hp ht hkb; obtain ⟨⟨y0, y1, y2, y3⟩, z0, z1, z2⟩ := HKB.out.cells; simp only at y0 y1 y2 y3 z0 z1 z2)
              | (go_at_call 21; refine (HLN _ _ HN.out.hn).out.mono ?_; rintro e w6 ⟨rfl, hb⟩; have hkb := HKB.out.below hb; have HN := Lib.hid (HN.out.below hb); have HKB := Lib.hid hkb; clear hb hkb; obtain ⟨⟨y0, y1, y2, y3⟩, z0, z1, z2⟩ := HKB.out.cells; simp only at y0 y1 y2 y3 z0 z1 z2)
              | (go_at_call 20; refine (HPL _ _ HN.out.tl HKB.out.su).out.mono ?_; rintro e w7 ⟨rfl, hb⟩; have hkb := HKB.out.below hb; have HN := Lib.hid (HN.out.below hb); have HKB := Lib.hid hkb; clear hb hkb; obtain ⟨⟨y0, y1, y2, y3⟩, z0, z1, z2⟩ := HKB.out.cells; simp only at y0 y1 y2 y3 z0 z1 z2)
              | fail)
            go_roundw
            case rel => exact ⟨k + 1, (L ++ [(⟨(i : Int), o3, o4⟩ : MV)]), (T ++ [(((⟨(i : Int), o3, o4⟩ : MV), .slice po o4.length pc) : MH)]), by go_num, by omega, by rw [HL2.out]; omega, Lib.hid ⟨_, _, HN.out, HD2.out⟩, HP2, HO2⟩
            case measure => simp [intOf]; omega
          by_cases h2 : o1 = 2
          · subst h2
            obtain ⟨t0, rfl⟩ : ∃ t0, tl = t0 + 1 := ⟨tl - 1, by have := HLL.out; omega⟩
            have HAT := fun w' hn => Lib.hid (nat_yes (w := w') (a := an) (C := C1) (room := 4096) (l := L) hn hil (by have := HOK.out.dat _ (List.getElem_mem hil); omega))
            have HTK := fun w' C hn => Lib.hid (ntake_yes (w := w') (a := an) (C := C) (room := 4096) (l := L) hn hil hl6 (by have := HOK.out.dat _ (List.getElem_mem hil); omega))
            have HO2 : Hid (Okn (L.eraseIdx i)) := Lib.hid (HOK.out.erase i)
            have HL2 : Hid ((L.eraseIdx i).length = t0) := Lib.hid (by rw [List.length_eraseIdx, if_pos hil, HLL.out]; rfl)
            obtain ⟨pl, hpl, hp1, hp2, hp3⟩ := placeT_perm HP.out hil
            have HPT : Hid (pl < T.length) := Lib.hid (by simpa using hpl)
            have hplt : pl < t0 + 1 := by have := HPT.out; have := HTL.out; omega
            have HP2 : Hid ((L.eraseIdx i).Perm ((T.eraseIdx pl).map (·.1))) := Lib.hid (by rw [map_erase]; exact hp3)
            have HT2 : Hid ((T.eraseIdx pl).length = t0) := Lib.hid (by rw [List.length_eraseIdx, if_pos HPT.out, HTL.out]; rfl)
            have HMD : Hid (L[i].d.length ≤ 20000) := Lib.hid (HOK.out.dat _ (List.getElem_mem hil))
            clear hp2 hp3 hpl
            generalize L[i] = m at *
            clear hil
            obtain ⟨m1, m2, m3⟩ := m
            simp only at HMD
            have HPL := fun w' (D : Nat → Prop) {uo so : Option Addr} {uc c : Nat} (ht : TL D w.heap.size w' (.slice so (t0 + 1) c) T) (hd : DR D w' (⟨m1, m2, m3⟩, .slice uo m3.length uc)) => Lib.hid (show Calls Try.prog 20 #[.slice so (t0 + 1) c, magg (⟨m1, m2, m3⟩, .slice uo m3.length uc)] w' (fun e w'' => e = .returned (.int .i64 (pl : Int)) ∧ Below w'.heap.size w' w'') from by rw [← hp1]; obtain ⟨ro, rc, e1, h5⟩ := hd; injection e1 with e1 _ e3; subst e1 e3; exact place_any ht HTL.out.symm (by omega) h5)
            obtain ⟨r2, hr2⟩ : ∃ r2, placeT (List.map (·.1) (T.eraseIdx pl)) ⟨m1, m2, m3⟩ = r2 := ⟨_, rfl⟩
            have HPL2 := fun w' (D : Nat → Prop) {uo so : Option Addr} {uc c : Nat} (ht : TL D w.heap.size w' (.slice so t0 c) (T.eraseIdx pl)) (hd : DR D w' (⟨m1, m2, m3⟩, .slice uo m3.length uc)) => Lib.hid (show Calls Try.prog 20 #[.slice so t0 c, magg (⟨m1, m2, m3⟩, .slice uo m3.length uc)] w' (fun e w'' => e = .returned (.int .i64 r2) ∧ Below w'.heap.size w' w'') from by rw [← hr2]; obtain ⟨ro, rc, e1, h5⟩ := hd; injection e1 with e1 _ e3; subst e1 e3; exact place_any ht HT2.out.symm (by omega) h5)
            clear hp1 hr2
            have HLN := fun w' C (hn : NK C w' an 4096 (L.eraseIdx i)) => Lib.hid (show Calls Try.prog 21 #[ptr an] w' (fun e w'' => e = .returned (.int .i64 ((t0 : Nat) : Int)) ∧ Below w'.heap.size w' w'') from by have := nlen_any hn; rwa [show ((L.eraseIdx i)).length = t0 from HL2.out] at this)
            have HAL := fun w' {D E : Nat → Prop} {ro uo : Option Addr} {c uc : Nat} (s1 : SB D w' ro m3.length c m3) (s2 : DR E w' (⟨m1, m2, m3⟩, .slice uo m3.length uc)) => Lib.hid (show Calls Try.prog 16 #[magg (⟨m1, m2, m3⟩, .slice ro m3.length c), magg (⟨m1, m2, m3⟩, .slice uo m3.length uc)] w' (fun e w'' => e = .returned (.bool true) ∧ Below w'.heap.size w' w'') from by obtain ⟨r9, c9, e1, h5⟩ := s2; injection e1 with e1 _ e3; subst e1 e3; have := alike_any (m := ⟨m1, m2, m3⟩) (y := ⟨m1, m2, m3⟩) s1 h5; rwa [sameM_self] at this)
            have hb0 : ¬ ((pl : Int) < 0) := by omega
            clear hl6 hnf
            go_wp2_with (first
              | (go_at_call 13; refine (HAT _ HN1.out.hn).out.mono ?_; rintro e w2 ⟨uo, uc, rfl, ho, hb⟩; obtain ⟨D2, hn2, hkb, hdd⟩ := HN1.out.told HQ1.out (.inr rfl) HSB1.out ho hb; have HN := Lib.hid hn2; have HKB := Lib.hid hkb; have HD2 : Hid (∀ q, q < w.heap.size → D2 q) := Lib.hid (fun q hq => hdd q (.inl (HDD.out q hq))); clear ho hb hn2 hkb hdd; obtain ⟨⟨y0, y1, y2, y3⟩, z0, z1, z2⟩ := HKB.out.cells; simp only at y0 y1 y2 y3 z0 z1 z2)
              | (go_at_call 15; refine (HTK _ _ HN.out.hn).out.mono ?_; rintro e w4 ⟨to, tc, rfl, C', h1, h2, h3⟩; have hkb := (HKB.out.tn h3.tn HN.out.dc).below (below1 w4 (mobj 40 (⟨m1, m2, m3⟩, .slice to m3.length tc))); have HN := Lib.hid ((HN.out.went h1 h3).below (below1 w4 (mobj 40 (⟨m1, m2, m3⟩, .slice to m3.length tc)))); have HKB := Lib.hid hkb; have HSM := Lib.hid (h2.below (below1 w4 (mobj 40 (⟨m1, m2, m3⟩, .slice to m3.length tc)))); clear h1 h2 h3 hkb; obtain ⟨⟨y0, y1, y2, y3⟩, z0, z1, z2⟩ := HKB.out.cells; simp only at y0 y1 y2 y3 z0 z1 z2)
              | (go_at_call 16; refine (HAL _ HSM.out HKB.out.su).out.mono ?_; rintro e w6 ⟨rfl, hb⟩; have hkb := HKB.out.below hb; have HN := Lib.hid (HN.out.below hb); have HKB := Lib.hid hkb; clear hb hkb; obtain ⟨⟨y0, y1, y2, y3⟩, z0, z1, z2⟩ := HKB.out.cells; simp only at y0 y1 y2 y3 z0 z1 z2)
              | (go_at_call 20; refine (HPL _ _ HN.out.tl HKB.out.su).out.mono ?_; rintro e w7 ⟨rfl, hb⟩; have hkb := HKB.out.below hb; have HN := Lib.hid (HN.out.below hb); have HKB := Lib.hid hkb; clear hb hkb; obtain ⟨⟨y0, y1, y2, y3⟩, z0, z1, z2⟩ := HKB.out.cells; simp only at y0 y1 y2 y3 z0 z1 z2)
              | fail)
            obtain ⟨g, hvg⟩ : ∃ g, vo = some ⟨g, 0, none⟩ := by
              obtain ⟨g, c, e⟩ := own_shape HN.out.tl.own (by have := HPT.out; omega)
              injection e with e1
              exact ⟨g, e1⟩
            subst hvg
            have hG := own_hasG mC_len HN.out.tl.own
            have hcap : t0 + 1 ≤ vc := by
              obtain ⟨ao', cap', hv, h1, _⟩ := hG
              injection hv with e1 e2 e3
              omega
            have hcm : vc ≤ 9223372036854775807 := by
              obtain ⟨ao', cap', hv, _, h2, _⟩ := hG
              injection hv with e1 e2 e3
              subst e3
              exact Nat.le_trans h2 (by decide)
            have HO0 : Hid ((w7.drew.alloc (.cells #[] 40)).ownsRow w7.heap.size 40 3 (.slice (some ⟨w7.heap.size, 0, none⟩) 0 0) 0 []) := Lib.hid (World.ownsRow_lit w7.drew #[] 0 (Nat.le_refl _) (by decide) rfl)
            have HB0 : Hid (Below w7.heap.size w7 (w7.drew.alloc (.cells #[] 40))) := Lib.hid (((Below.refl w7.heap.size w7).drew).alloc (Nat.le_refl _) _)
            have HG1 := Lib.hid (hG.below HB0.out)
            have HL1 : Hid ((cellsG mC (T.take pl)).length = pl * 3) := Lib.hid (by rw [length_cellsG mC_len, List.length_take]; have := HPT.out; congr 1; omega)
            have HL3 : Hid ((cellsG mC (T.drop (pl + 1))).length = (t0 - pl) * 3) := Lib.hid (by rw [length_cellsG mC_len, List.length_drop, HTL.out]; congr 1; omega)
            have HW1 := Lib.hid ((HG1.out.take (k := pl) (by omega)).news mC_len _ rfl)
            have HTD : Hid (∀ x ∈ T, ∀ u ∈ mC x, u.oneCell' = true) := Lib.hid (fun x hx => by
              obtain ⟨ro, c, h1, _⟩ := HN.out.tl.dat x hx
              obtain ⟨x1, x2⟩ := x
              simp only at h1
              subst h1
              exact mC_one _ _ _ _)
            have HE1 : Hid (∀ u ∈ cellsG mC (T.take pl), u.oneCell' = true) := Lib.hid (fun u hu => by
              obtain ⟨x, hx, hu⟩ := List.mem_flatMap.1 hu
              exact HTD.out x (List.mem_of_mem_take hx) u hu)
            have HE3 : Hid (∀ u ∈ cellsG mC (T.drop (pl + 1)), u.oneCell' = true) := Lib.hid (fun u hu => by
              obtain ⟨x, hx, hu⟩ := List.mem_flatMap.1 hu
              exact HTD.out x (List.mem_of_mem_drop hx) u hu)
            have HGA := Lib.hid hG
            clear hG
            have hb1 : (pl : Int) ≤ (vc : Int) := by omega
            have hb2 : (0 : Int) ≤ (pl : Int) + 1 := by omega
            have hb3 : (pl : Int) + 1 ≤ (t0 : Int) + 1 := by omega
            have hb4 : (pl : Int) ≤ (t0 : Int) := by omega
            have hb5 : pl ≤ vc := by omega
            have hb6 : pl ≤ t0 := by omega
            have hw : IntKind.i64.wrap ((pl : Int) + 1) = (pl : Int) + 1 := by rw [IntKind.wrap_i64]; omega
            rcases Classical.em (vc = pl + 1) with hc | hc
            · subst hc
              have HPE : Hid (pl = t0) := Lib.hid (by omega)
              have hb7 : (pl : Int) ≤ (pl : Int) + 1 := by omega
              go_region_law (first | (refine step_append_at rfl (.tmp 131) (.tmp 134) 38 rfl w7.heap.size 40 i0 (.agg #[.int .i64 0, .int .i64 0, .slice none 0 0]) 3 40 under_nms hi0 hz0 hz1 hz2 rfl (by decide) _ 0 [] rfl HO0.out ⟨g, 0, none⟩ pl _ (cellsG mC (T.take pl)) rfl HL1.out HW1.out HE1.out (by unfold maxLen; omega) (by omega) (by simp) ?_; intro v5 w8 ho hg hat; have HB8 := Lib.hid (HB0.out.grown hg HB0.out.size (fun q hq => (HO0.out.lt q hq).1)); have ho2 := own_cast (n' := pl) (ys := cellsG mC (T.take pl)) ho (by omega) (by rw [List.nil_append]); obtain ⟨v6, vc6, e⟩ := own_slice ho2; subst e; have HO8 := Lib.hid ho2; clear ho hg hat ho2) | (refine step_append_at rfl (.tmp 135) (.tmp 139) 38 rfl w7.heap.size 40 i0 (.agg #[.int .i64 0, .int .i64 0, .slice none 0 0]) 3 40 under_nms hi0 hz0 hz1 hz2 rfl (by decide) _ _ _ rfl HO8.out ⟨g, 0, none⟩ 0 _ (cellsG mC (T.drop (pl + 1))) rfl (by rw [HL3.out]; have := HPE.out; omega) (fun j u hu => by rw [List.getElem?_eq_none (by rw [HL3.out]; have := HPE.out; omega)] at hu; cases hu) HE3.out (by unfold maxLen; omega) (by omega) HB8.out.size ?_; intro v7 w9 ho hg hat; have HB9 := Lib.hid (HB8.out.grown hg HB8.out.size (fun q hq => (HO8.out.lt q hq).1)); have ho2 := own_cast (n' := t0) (ys := cellsG mC (T.take pl) ++ cellsG mC (T.drop (pl + 1))) ho (by have := HPE.out; omega) rfl; obtain ⟨v8, vc8, e⟩ := own_slice ho2; subst e; have hkb := HKB.out.below HB9.out; have HN := Lib.hid (HN.out.anew HB9.out HPT.out (by rw [HTL.out]; rfl) ho2); have HKB := Lib.hid hkb; clear ho hg hat ho2 hkb; obtain ⟨⟨y0, y1, y2, y3⟩, z0, z1, z2⟩ := HKB.out.cells; simp only at y0 y1 y2 y3 z0 z1 z2))
              all_goals
                clear hb1 hb2 hb3 hb4 hb5 hb6 hw hb7
                by_cases hr2 : r2 < 0
                all_goals
                  go_wp2_with (first
                    | (go_at_call 21; refine (HLN _ _ HN.out.hn).out.mono ?_; rintro e w6 ⟨rfl, hb⟩; have hkb := HKB.out.below hb; have HN := Lib.hid (HN.out.below hb); have HKB := Lib.hid hkb; clear hb hkb; obtain ⟨⟨y0, y1, y2, y3⟩, z0, z1, z2⟩ := HKB.out.cells; simp only at y0 y1 y2 y3 z0 z1 z2)
                    | (go_at_call 20; refine (HPL2 _ _ HN.out.tl HKB.out.su).out.mono ?_; rintro e w10 ⟨rfl, hb⟩; have hkb := HKB.out.below hb; have HN := Lib.hid (HN.out.below hb); have HKB := Lib.hid hkb; clear hb hkb; obtain ⟨⟨y0, y1, y2, y3⟩, z0, z1, z2⟩ := HKB.out.cells; simp only at y0 y1 y2 y3 z0 z1 z2)
                    | fail)
                  go_roundw
                  case rel => exact ⟨k + 1, (L.eraseIdx i), (T.eraseIdx pl), by go_num, by omega, by rw [HL2.out]; omega, Lib.hid ⟨_, _, HN.out, HD2.out⟩, HP2, HO2⟩
                  case measure => simp [intOf]; omega
            · go_region_law (first | (refine step_append_at rfl (.tmp 131) (.tmp 134) 38 rfl w7.heap.size 40 i0 (.agg #[.int .i64 0, .int .i64 0, .slice none 0 0]) 3 40 under_nms hi0 hz0 hz1 hz2 rfl (by decide) _ 0 [] rfl HO0.out ⟨g, 0, none⟩ pl _ (cellsG mC (T.take pl)) rfl HL1.out HW1.out HE1.out (by unfold maxLen; omega) (by omega) (by simp) ?_; intro v5 w8 ho hg hat; have HB8 := Lib.hid (HB0.out.grown hg HB0.out.size (fun q hq => (HO0.out.lt q hq).1)); have ho2 := own_cast (n' := pl) (ys := cellsG mC (T.take pl)) ho (by omega) (by rw [List.nil_append]); obtain ⟨v6, vc6, e⟩ := own_slice ho2; subst e; have HO8 := Lib.hid ho2; clear ho hg hat ho2) | (refine step_append_at rfl (.tmp 135) (.tmp 139) 38 rfl w7.heap.size 40 i0 (.agg #[.int .i64 0, .int .i64 0, .slice none 0 0]) 3 40 under_nms hi0 hz0 hz1 hz2 rfl (by decide) _ _ _ rfl HO8.out ⟨g, (pl + 1) * 3, none⟩ (t0 - pl) _ (cellsG mC (T.drop (pl + 1))) rfl HL3.out (((HGA.out.below HB8.out).drop0 (k := pl + 1) (by omega)).news mC_len _ rfl) HE3.out (by unfold maxLen; omega) (by omega) HB8.out.size ?_; intro v7 w9 ho hg hat; have HB9 := Lib.hid (HB8.out.grown hg HB8.out.size (fun q hq => (HO8.out.lt q hq).1)); have ho2 := own_cast (n' := t0) (ys := cellsG mC (T.take pl) ++ cellsG mC (T.drop (pl + 1))) ho (by omega) rfl; obtain ⟨v8, vc8, e⟩ := own_slice ho2; subst e; have hkb := HKB.out.below HB9.out; have HN := Lib.hid (HN.out.anew HB9.out HPT.out (by rw [HTL.out]; rfl) ho2); have HKB := Lib.hid hkb; clear ho hg hat ho2 hkb; obtain ⟨⟨y0, y1, y2, y3⟩, z0, z1, z2⟩ := HKB.out.cells; simp only at y0 y1 y2 y3 z0 z1 z2))
              all_goals
                clear hb1 hb2 hb3 hb4 hb5 hb6 hw
                by_cases hr2 : r2 < 0
                all_goals
                  go_wp2_with (first
                    | (go_at_call 21; refine (HLN _ _ HN.out.hn).out.mono ?_; rintro e w6 ⟨rfl, hb⟩; have hkb := HKB.out.below hb; have HN := Lib.hid (HN.out.below hb); have HKB := Lib.hid hkb; clear hb hkb; obtain ⟨⟨y0, y1, y2, y3⟩, z0, z1, z2⟩ := HKB.out.cells; simp only at y0 y1 y2 y3 z0 z1 z2)
                    | (go_at_call 20; refine (HPL2 _ _ HN.out.tl HKB.out.su).out.mono ?_; rintro e w10 ⟨rfl, hb⟩; have hkb := HKB.out.below hb; have HN := Lib.hid (HN.out.below hb); have HKB := Lib.hid hkb; clear hb hkb; obtain ⟨⟨y0, y1, y2, y3⟩, z0, z1, z2⟩ := HKB.out.cells; simp only at y0 y1 y2 y3 z0 z1 z2)
                    | fail)
                  go_roundw
                  case rel => exact ⟨k + 1, (L.eraseIdx i), (T.eraseIdx pl), by go_num, by omega, by rw [HL2.out]; omega, Lib.hid ⟨_, _, HN.out, HD2.out⟩, HP2, HO2⟩
                  case measure => simp [intOf]; omega
          by_cases h3 : o1 = 3
          · subst h3
            obtain ⟨t0, rfl⟩ : ∃ t0, tl = t0 + 1 := ⟨tl - 1, by have := HLL.out; omega⟩
            have HAT := fun w' hn => Lib.hid (nat_yes (w := w') (a := an) (C := C1) (room := 4096) (l := L) hn hil (by have := HOK.out.dat _ (List.getElem_mem hil); omega))
            have HTK := fun w' C hn => Lib.hid (ndrop_yes (w := w') (a := an) (C := C) (room := 4096) (l := L) hn hil hl6)
            have HO2 : Hid (Okn (L.eraseIdx i)) := Lib.hid (HOK.out.erase i)
            have HL2 : Hid ((L.eraseIdx i).length = t0) := Lib.hid (by rw [List.length_eraseIdx, if_pos hil, HLL.out]; rfl)
            obtain ⟨pl, hpl, hp1, hp2, hp3⟩ := placeT_perm HP.out hil
            have HPT : Hid (pl < T.length) := Lib.hid (by simpa using hpl)
            have hplt : pl < t0 + 1 := by have := HPT.out; have := HTL.out; omega
            have HP2 : Hid ((L.eraseIdx i).Perm ((T.eraseIdx pl).map (·.1))) := Lib.hid (by rw [map_erase]; exact hp3)
            have HT2 : Hid ((T.eraseIdx pl).length = t0) := Lib.hid (by rw [List.length_eraseIdx, if_pos HPT.out, HTL.out]; rfl)
            have HMD : Hid (L[i].d.length ≤ 20000) := Lib.hid (HOK.out.dat _ (List.getElem_mem hil))
            clear hp2 hp3 hpl
            generalize L[i] = m at *
            clear hil
            obtain ⟨m1, m2, m3⟩ := m
            simp only at HMD
            have HPL := fun w' (D : Nat → Prop) {uo so : Option Addr} {uc c : Nat} (ht : TL D w.heap.size w' (.slice so (t0 + 1) c) T) (hd : DR D w' (⟨m1, m2, m3⟩, .slice uo m3.length uc)) => Lib.hid (show Calls Try.prog 20 #[.slice so (t0 + 1) c, magg (⟨m1, m2, m3⟩, .slice uo m3.length uc)] w' (fun e w'' => e = .returned (.int .i64 (pl : Int)) ∧ Below w'.heap.size w' w'') from by rw [← hp1]; obtain ⟨ro, rc, e1, h5⟩ := hd; injection e1 with e1 _ e3; subst e1 e3; exact place_any ht HTL.out.symm (by omega) h5)
            obtain ⟨r2, hr2⟩ : ∃ r2, placeT (List.map (·.1) (T.eraseIdx pl)) ⟨m1, m2, m3⟩ = r2 := ⟨_, rfl⟩
            have HPL2 := fun w' (D : Nat → Prop) {uo so : Option Addr} {uc c : Nat} (ht : TL D w.heap.size w' (.slice so t0 c) (T.eraseIdx pl)) (hd : DR D w' (⟨m1, m2, m3⟩, .slice uo m3.length uc)) => Lib.hid (show Calls Try.prog 20 #[.slice so t0 c, magg (⟨m1, m2, m3⟩, .slice uo m3.length uc)] w' (fun e w'' => e = .returned (.int .i64 r2) ∧ Below w'.heap.size w' w'') from by rw [← hr2]; obtain ⟨ro, rc, e1, h5⟩ := hd; injection e1 with e1 _ e3; subst e1 e3; exact place_any ht HT2.out.symm (by omega) h5)
            clear hp1 hr2
            have HLN := fun w' C (hn : NK C w' an 4096 (L.eraseIdx i)) => Lib.hid (show Calls Try.prog 21 #[ptr an] w' (fun e w'' => e = .returned (.int .i64 ((t0 : Nat) : Int)) ∧ Below w'.heap.size w' w'') from by have := nlen_any hn; rwa [show ((L.eraseIdx i)).length = t0 from HL2.out] at this)
            have hb0 : ¬ ((pl : Int) < 0) := by omega
            clear hl6 hnf
            go_wp2_with (first
              | (go_at_call 13; refine (HAT _ HN1.out.hn).out.mono ?_; rintro e w2 ⟨uo, uc, rfl, ho, hb⟩; obtain ⟨D2, hn2, hkb, hdd⟩ := HN1.out.told HQ1.out (.inr rfl) HSB1.out ho hb; have HN := Lib.hid hn2; have HKB := Lib.hid hkb; have HD2 : Hid (∀ q, q < w.heap.size → D2 q) := Lib.hid (fun q hq => hdd q (.inl (HDD.out q hq))); clear ho hb hn2 hkb hdd; obtain ⟨⟨y0, y1, y2, y3⟩, z0, z1, z2⟩ := HKB.out.cells; simp only at y0 y1 y2 y3 z0 z1 z2)
              | (go_at_call 17; refine (HTK _ _ HN.out.hn).out.mono ?_; rintro e w4 ⟨rfl, C', h2, h4⟩; have hkb := HKB.out.tn h4.tn HN.out.dc; have HN := Lib.hid (HN.out.went h2 h4); have HKB := Lib.hid hkb; clear h2 h4 hkb; obtain ⟨⟨y0, y1, y2, y3⟩, z0, z1, z2⟩ := HKB.out.cells; simp only at y0 y1 y2 y3 z0 z1 z2)
              | (go_at_call 20; refine (HPL _ _ HN.out.tl HKB.out.su).out.mono ?_; rintro e w7 ⟨rfl, hb⟩; have hkb := HKB.out.below hb; have HN := Lib.hid (HN.out.below hb); have HKB := Lib.hid hkb; clear hb hkb; obtain ⟨⟨y0, y1, y2, y3⟩, z0, z1, z2⟩ := HKB.out.cells; simp only at y0 y1 y2 y3 z0 z1 z2)
              | fail)
            obtain ⟨g, hvg⟩ : ∃ g, vo = some ⟨g, 0, none⟩ := by
              obtain ⟨g, c, e⟩ := own_shape HN.out.tl.own (by have := HPT.out; omega)
              injection e with e1
              exact ⟨g, e1⟩
            subst hvg
            have hG := own_hasG mC_len HN.out.tl.own
            have hcap : t0 + 1 ≤ vc := by
              obtain ⟨ao', cap', hv, h1, _⟩ := hG
              injection hv with e1 e2 e3
              omega
            have hcm : vc ≤ 9223372036854775807 := by
              obtain ⟨ao', cap', hv, _, h2, _⟩ := hG
              injection hv with e1 e2 e3
              subst e3
              exact Nat.le_trans h2 (by decide)
            have HO0 : Hid ((w7.drew.alloc (.cells #[] 40)).ownsRow w7.heap.size 40 3 (.slice (some ⟨w7.heap.size, 0, none⟩) 0 0) 0 []) := Lib.hid (World.ownsRow_lit w7.drew #[] 0 (Nat.le_refl _) (by decide) rfl)
            have HB0 : Hid (Below w7.heap.size w7 (w7.drew.alloc (.cells #[] 40))) := Lib.hid (((Below.refl w7.heap.size w7).drew).alloc (Nat.le_refl _) _)
            have HG1 := Lib.hid (hG.below HB0.out)
            have HL1 : Hid ((cellsG mC (T.take pl)).length = pl * 3) := Lib.hid (by rw [length_cellsG mC_len, List.length_take]; have := HPT.out; congr 1; omega)
            have HL3 : Hid ((cellsG mC (T.drop (pl + 1))).length = (t0 - pl) * 3) := Lib.hid (by rw [length_cellsG mC_len, List.length_drop, HTL.out]; congr 1; omega)
            have HW1 := Lib.hid ((HG1.out.take (k := pl) (by omega)).news mC_len _ rfl)
            have HTD : Hid (∀ x ∈ T, ∀ u ∈ mC x, u.oneCell' = true) := Lib.hid (fun x hx => by
              obtain ⟨ro, c, h1, _⟩ := HN.out.tl.dat x hx
              obtain ⟨x1, x2⟩ := x
              simp only at h1
              subst h1
              exact mC_one _ _ _ _)
            have HE1 : Hid (∀ u ∈ cellsG mC (T.take pl), u.oneCell' = true) := Lib.hid (fun u hu => by
              obtain ⟨x, hx, hu⟩ := List.mem_flatMap.1 hu
              exact HTD.out x (List.mem_of_mem_take hx) u hu)
            have HE3 : Hid (∀ u ∈ cellsG mC (T.drop (pl + 1)), u.oneCell' = true) := Lib.hid (fun u hu => by
              obtain ⟨x, hx, hu⟩ := List.mem_flatMap.1 hu
              exact HTD.out x (List.mem_of_mem_drop hx) u hu)
            have HGA := Lib.hid hG
            clear hG
            have hb1 : (pl : Int) ≤ (vc : Int) := by omega
            have hb2 : (0 : Int) ≤ (pl : Int) + 1 := by omega
            have hb3 : (pl : Int) + 1 ≤ (t0 : Int) + 1 := by omega
            have hb4 : (pl : Int) ≤ (t0 : Int) := by omega
            have hb5 : pl ≤ vc := by omega
            have hb6 : pl ≤ t0 := by omega
            have hw : IntKind.i64.wrap ((pl : Int) + 1) = (pl : Int) + 1 := by rw [IntKind.wrap_i64]; omega
            rcases Classical.em (vc = pl + 1) with hc | hc
            · subst hc
              have HPE : Hid (pl = t0) := Lib.hid (by omega)
              have hb7 : (pl : Int) ≤ (pl : Int) + 1 := by omega
              go_region_law (first | (refine step_append_at rfl (.tmp 131) (.tmp 134) 38 rfl w7.heap.size 40 i0 (.agg #[.int .i64 0, .int .i64 0, .slice none 0 0]) 3 40 under_nms hi0 hz0 hz1 hz2 rfl (by decide) _ 0 [] rfl HO0.out ⟨g, 0, none⟩ pl _ (cellsG mC (T.take pl)) rfl HL1.out HW1.out HE1.out (by unfold maxLen; omega) (by omega) (by simp) ?_; intro v5 w8 ho hg hat; have HB8 := Lib.hid (HB0.out.grown hg HB0.out.size (fun q hq => (HO0.out.lt q hq).1)); have ho2 := own_cast (n' := pl) (ys := cellsG mC (T.take pl)) ho (by omega) (by rw [List.nil_append]); obtain ⟨v6, vc6, e⟩ := own_slice ho2; subst e; have HO8 := Lib.hid ho2; clear ho hg hat ho2) | (refine step_append_at rfl (.tmp 135) (.tmp 139) 38 rfl w7.heap.size 40 i0 (.agg #[.int .i64 0, .int .i64 0, .slice none 0 0]) 3 40 under_nms hi0 hz0 hz1 hz2 rfl (by decide) _ _ _ rfl HO8.out ⟨g, 0, none⟩ 0 _ (cellsG mC (T.drop (pl + 1))) rfl (by rw [HL3.out]; have := HPE.out; omega) (fun j u hu => by rw [List.getElem?_eq_none (by rw [HL3.out]; have := HPE.out; omega)] at hu; cases hu) HE3.out (by unfold maxLen; omega) (by omega) HB8.out.size ?_; intro v7 w9 ho hg hat; have HB9 := Lib.hid (HB8.out.grown hg HB8.out.size (fun q hq => (HO8.out.lt q hq).1)); have ho2 := own_cast (n' := t0) (ys := cellsG mC (T.take pl) ++ cellsG mC (T.drop (pl + 1))) ho (by have := HPE.out; omega) rfl; obtain ⟨v8, vc8, e⟩ := own_slice ho2; subst e; have hkb := HKB.out.below HB9.out; have HN := Lib.hid (HN.out.anew HB9.out HPT.out (by rw [HTL.out]; rfl) ho2); have HKB := Lib.hid hkb; clear ho hg hat ho2 hkb; obtain ⟨⟨y0, y1, y2, y3⟩, z0, z1, z2⟩ := HKB.out.cells; simp only at y0 y1 y2 y3 z0 z1 z2))
              all_goals
                clear hb1 hb2 hb3 hb4 hb5 hb6 hw hb7
                by_cases hr2 : r2 < 0
                all_goals
                  go_wp2_with (first
                    | (go_at_call 21; refine (HLN _ _ HN.out.hn).out.mono ?_; rintro e w6 ⟨rfl, hb⟩; have hkb := HKB.out.below hb; have HN := Lib.hid (HN.out.below hb); have HKB := Lib.hid hkb; clear hb hkb; obtain ⟨⟨y0, y1, y2, y3⟩, z0, z1, z2⟩ := HKB.out.cells; simp only at y0 y1 y2 y3 z0 z1 z2)
                    | (go_at_call 20; refine (HPL2 _ _ HN.out.tl HKB.out.su).out.mono ?_; rintro e w10 ⟨rfl, hb⟩; have hkb := HKB.out.below hb; have HN := Lib.hid (HN.out.below hb); have HKB := Lib.hid hkb; clear hb hkb; obtain ⟨⟨y0, y1, y2, y3⟩, z0, z1, z2⟩ := HKB.out.cells; simp only at y0 y1 y2 y3 z0 z1 z2)
                    | fail)
                  go_roundw
                  case rel => exact ⟨k + 1, (L.eraseIdx i), (T.eraseIdx pl), by go_num, by omega, by rw [HL2.out]; omega, Lib.hid ⟨_, _, HN.out, HD2.out⟩, HP2, HO2⟩
                  case measure => simp [intOf]; omega
            · go_region_law (first | (refine step_append_at rfl (.tmp 131) (.tmp 134) 38 rfl w7.heap.size 40 i0 (.agg #[.int .i64 0, .int .i64 0, .slice none 0 0]) 3 40 under_nms hi0 hz0 hz1 hz2 rfl (by decide) _ 0 [] rfl HO0.out ⟨g, 0, none⟩ pl _ (cellsG mC (T.take pl)) rfl HL1.out HW1.out HE1.out (by unfold maxLen; omega) (by omega) (by simp) ?_; intro v5 w8 ho hg hat; have HB8 := Lib.hid (HB0.out.grown hg HB0.out.size (fun q hq => (HO0.out.lt q hq).1)); have ho2 := own_cast (n' := pl) (ys := cellsG mC (T.take pl)) ho (by omega) (by rw [List.nil_append]); obtain ⟨v6, vc6, e⟩ := own_slice ho2; subst e; have HO8 := Lib.hid ho2; clear ho hg hat ho2) | (refine step_append_at rfl (.tmp 135) (.tmp 139) 38 rfl w7.heap.size 40 i0 (.agg #[.int .i64 0, .int .i64 0, .slice none 0 0]) 3 40 under_nms hi0 hz0 hz1 hz2 rfl (by decide) _ _ _ rfl HO8.out ⟨g, (pl + 1) * 3, none⟩ (t0 - pl) _ (cellsG mC (T.drop (pl + 1))) rfl HL3.out (((HGA.out.below HB8.out).drop0 (k := pl + 1) (by omega)).news mC_len _ rfl) HE3.out (by unfold maxLen; omega) (by omega) HB8.out.size ?_; intro v7 w9 ho hg hat; have HB9 := Lib.hid (HB8.out.grown hg HB8.out.size (fun q hq => (HO8.out.lt q hq).1)); have ho2 := own_cast (n' := t0) (ys := cellsG mC (T.take pl) ++ cellsG mC (T.drop (pl + 1))) ho (by omega) rfl; obtain ⟨v8, vc8, e⟩ := own_slice ho2; subst e; have hkb := HKB.out.below HB9.out; have HN := Lib.hid (HN.out.anew HB9.out HPT.out (by rw [HTL.out]; rfl) ho2); have HKB := Lib.hid hkb; clear ho hg hat ho2 hkb; obtain ⟨⟨y0, y1, y2, y3⟩, z0, z1, z2⟩ := HKB.out.cells; simp only at y0 y1 y2 y3 z0 z1 z2))
              all_goals
                clear hb1 hb2 hb3 hb4 hb5 hb6 hw
                by_cases hr2 : r2 < 0
                all_goals
                  go_wp2_with (first
                    | (go_at_call 21; refine (HLN _ _ HN.out.hn).out.mono ?_; rintro e w6 ⟨rfl, hb⟩; have hkb := HKB.out.below hb; have HN := Lib.hid (HN.out.below hb); have HKB := Lib.hid hkb; clear hb hkb; obtain ⟨⟨y0, y1, y2, y3⟩, z0, z1, z2⟩ := HKB.out.cells; simp only at y0 y1 y2 y3 z0 z1 z2)
                    | (go_at_call 20; refine (HPL2 _ _ HN.out.tl HKB.out.su).out.mono ?_; rintro e w10 ⟨rfl, hb⟩; have hkb := HKB.out.below hb; have HN := Lib.hid (HN.out.below hb); have HKB := Lib.hid hkb; clear hb hkb; obtain ⟨⟨y0, y1, y2, y3⟩, z0, z1, z2⟩ := HKB.out.cells; simp only at y0 y1 y2 y3 z0 z1 z2)
                    | fail)
                  go_roundw
                  case rel => exact ⟨k + 1, (L.eraseIdx i), (T.eraseIdx pl), by go_num, by omega, by rw [HL2.out]; omega, Lib.hid ⟨_, _, HN.out, HD2.out⟩, HP2, HO2⟩
                  case measure => simp [intOf]; omega
          by_cases h4 : o1 = 4
          · subst h4
            have HAT := fun w' hn => Lib.hid (nat_yes (w := w') (a := an) (C := C1) (room := 4096) (l := L) hn hil (by have := HOK.out.dat _ (List.getElem_mem hil); omega))
            have HTW := fun w' C (hn : NK C w' an 4096 L) => Lib.hid (show Calls Try.prog 18 #[ptr an, .int .i64 i] w' (NWent C w' an 4096 (L ++ [L[i]]) (.int .i64 0)) from by have := ntwice_yes hn hil hl6 (by have := HOK.out.dat _ (List.getElem_mem hil); omega); rw [if_neg hnf, if_neg hnf] at this; exact this)
            have HO2 : Hid (Okn (L ++ [L[i]])) := Lib.hid (by have := HOK.out.sent (room := 4096) (by decide) (m := L[i]) (HOK.out.dat _ (List.getElem_mem hil)); unfold sentL at this; rwa [if_neg hnf] at this)
            have HP2 : ∀ u : Value, Hid (List.Perm (L ++ [L[i]]) (List.map (·.1) (T ++ [((L[i], u) : MH)]))) := fun u => Lib.hid (by rw [List.map_append]; exact HP.out.append_right _)
            have HL2 : Hid ((L ++ [L[i]]).length = tl + 1) := Lib.hid (by rw [List.length_append, HLL.out]; rfl)
            have HLN := fun w' C (hn : NK C w' an 4096 (L ++ [L[i]])) => Lib.hid (show Calls Try.prog 21 #[ptr an] w' (fun e w'' => e = .returned (.int .i64 ((tl + 1 : Nat) : Int)) ∧ Below w'.heap.size w' w'') from by have := nlen_any hn; rwa [show ((L ++ [L[i]])).length = tl + 1 from HL2.out] at this)
            have HPG : ∀ u : Value, Hid (0 ≤ placeT (List.map (·.1) (T ++ [((L[i], u) : MH)])) L[i]) := fun u => Lib.hid (placeT_lt (HP2 u).out (List.mem_append_left _ (List.getElem_mem hil)))
            have HMD : Hid (L[i].d.length ≤ 20000) := Lib.hid (HOK.out.dat _ (List.getElem_mem hil))
            generalize L[i] = m at *
            clear hil
            obtain ⟨m1, m2, m3⟩ := m
            simp only at HMD
            obtain ⟨pl, hpl⟩ : ∃ pl : Nat, ∀ u : Value, placeT (List.map (·.1) (T ++ [((⟨m1, m2, m3⟩, u) : MH)])) ⟨m1, m2, m3⟩ = pl := ⟨(placeT (List.map (·.1) T ++ [⟨m1, m2, m3⟩]) ⟨m1, m2, m3⟩).toNat, fun u => by have := (HPG u).out; rw [List.map_append] at this ⊢; exact (Int.toNat_of_nonneg this).symm⟩
            have HPL := fun w' (D : Nat → Prop) {uo so : Option Addr} {uc c : Nat} (ht : TL D w.heap.size w' (.slice so (tl + 1) c) (T ++ [(⟨m1, m2, m3⟩, .slice uo m3.length uc)])) (hd : DR D w' (⟨m1, m2, m3⟩, .slice uo m3.length uc)) => Lib.hid (show Calls Try.prog 20 #[.slice so (tl + 1) c, magg (⟨m1, m2, m3⟩, .slice uo m3.length uc)] w' (fun e w'' => e = .returned (.int .i64 (pl : Int)) ∧ Below w'.heap.size w' w'') from by rw [← hpl (.slice uo m3.length uc)]; obtain ⟨ro, rc, e1, h5⟩ := hd; injection e1 with e1 _ e3; subst e1 e3; exact place_any ht (by rw [List.length_append, HTL.out]; rfl) (by omega) h5)
            clear hpl HPG
            clear hl6 hnf
            go_wp2_with (first
              | (go_at_call 13; refine (HAT _ HN1.out.hn).out.mono ?_; rintro e w2 ⟨uo, uc, rfl, ho, hb⟩; obtain ⟨D2, hn2, hkb, hdd⟩ := HN1.out.told HQ1.out (.inr rfl) HSB1.out ho hb; have HN := Lib.hid hn2; have HKB := Lib.hid hkb; have HD2 : Hid (∀ q, q < w.heap.size → D2 q) := Lib.hid (fun q hq => hdd q (.inl (HDD.out q hq))); clear ho hb hn2 hkb hdd; obtain ⟨⟨y0, y1, y2, y3⟩, z0, z1, z2⟩ := HKB.out.cells; simp only at y0 y1 y2 y3 z0 z1 z2)
              | (go_at_call 18; refine (HTW _ _ HN.out.hn).out.mono ?_; rintro e w4 ⟨rfl, C', h2, h4⟩; have hkb := HKB.out.tn h4.tn HN.out.dc; have HN := Lib.hid (HN.out.went h2 h4); have HKB := Lib.hid hkb; clear h2 h4 hkb; obtain ⟨⟨y0, y1, y2, y3⟩, z0, z1, z2⟩ := HKB.out.cells; simp only at y0 y1 y2 y3 z0 z1 z2)
              | (at_builtin; refine wpList_append_own_at _ rfl (.tmp 111) (.tmp 113) 38 rfl w.heap.size 40 i0 (.agg #[.int .i64 0, .int .i64 0, .slice none 0 0]) 3 40 under_nms hi0 hz0 hz1 hz2 rfl (by decide) _ _ _ rfl (HTL.out ▸ (HN.out.below (below1 w4 _)).tl.own) ⟨w4.heap.size, 0, none⟩ 1 1 (mC (⟨m1, m2, m3⟩, .slice uo m3.length uc)) rfl rfl (cells_ml w4 (⟨m1, m2, m3⟩, .slice uo m3.length uc) 40 _ rfl) (mC_one _ _ _ _) (by unfold maxLen; omega) (by omega) (by have := HN.out.bw; simp; omega) ?_; intro v2 w5 ho hg _ hat; obtain ⟨v3, vc3, e⟩ := own_slice ho; subst e; obtain ⟨hp, ht⟩ := (HN.out.below (below1 w4 (mobj 40 (⟨m1, m2, m3⟩, .slice uo m3.length uc)))).push HTL.out ((HKB.out.below (below1 w4 _)).su) hg ho hat; have hkb := (HKB.out.below (below1 w4 (mobj 40 (⟨m1, m2, m3⟩, .slice uo m3.length uc)))).tn ht (fun q hq e => HN.out.dv q e hq); have HN := Lib.hid hp; have HKB := Lib.hid hkb; clear ho hg hat hp ht hkb; obtain ⟨⟨y0, y1, y2, y3⟩, z0, z1, z2⟩ := HKB.out.cells; simp only at y0 y1 y2 y3 z0 z1 z2)
              | (go_at_call 21; refine (HLN _ _ HN.out.hn).out.mono ?_; rintro e w6 ⟨rfl, hb⟩; have hkb := HKB.out.below hb; have HN := Lib.hid (HN.out.below hb); have HKB := Lib.hid hkb; clear hb hkb; obtain ⟨⟨y0, y1, y2, y3⟩, z0, z1, z2⟩ := HKB.out.cells; simp only at y0 y1 y2 y3 z0 z1 z2)
              | (go_at_call 20; refine (HPL _ _ HN.out.tl HKB.out.su).out.mono ?_; rintro e w7 ⟨rfl, hb⟩; have hkb := HKB.out.below hb; have HN := Lib.hid (HN.out.below hb); have HKB := Lib.hid hkb; clear hb hkb; obtain ⟨⟨y0, y1, y2, y3⟩, z0, z1, z2⟩ := HKB.out.cells; simp only at y0 y1 y2 y3 z0 z1 z2)
              | fail)
            go_roundw
            case rel => exact ⟨k + 1, (L ++ [(⟨m1, m2, m3⟩ : MV)]), (T ++ [((⟨m1, m2, m3⟩, .slice uo m3.length uc) : MH)]), by go_num, by omega, by rw [HL2.out]; omega, Lib.hid ⟨_, _, HN.out, HD2.out⟩, HP2 _, HO2⟩
            case measure => simp [intOf]; omega
          by_cases h5 : o1 = 5
          · subst h5
            have HAT := fun w' hn => Lib.hid (nat_yes (w := w') (a := an) (C := C1) (room := 4096) (l := L) hn hil (by have := HOK.out.dat _ (List.getElem_mem hil); omega))
            have HMV := fun w' C hn => Lib.hid (nmove_yes (w := w') (a := an) (C := C) (room := 4096) (l := L) hn hil hl6 o3)
            have HO2 : Hid (Okn (moveV L i o3)) := Lib.hid (HOK.out.move hil o3)
            have HP2 : Hid (List.Perm (moveV L i o3) (List.map (·.1) T)) := Lib.hid ((move_perm hil o3).trans HP.out)
            have HL2 : Hid ((moveV L i o3).length = tl) := Lib.hid ((length_move hil o3).trans HLL.out)
            have HLN := fun w' C (hn : NK C w' an 4096 (moveV L i o3)) => Lib.hid (show Calls Try.prog 21 #[ptr an] w' (fun e w'' => e = .returned (.int .i64 ((tl : Nat) : Int)) ∧ Below w'.heap.size w' w'') from by have := nlen_any hn; rwa [show ((moveV L i o3)).length = tl from HL2.out] at this)
            have HPG : Hid (0 ≤ placeT (List.map (·.1) T) L[i]) := Lib.hid (placeT_lt HP2.out ((move_perm hil o3).mem_iff.2 (List.getElem_mem hil)))
            have HMD : Hid (L[i].d.length ≤ 20000) := Lib.hid (HOK.out.dat _ (List.getElem_mem hil))
            generalize L[i] = m at *
            clear hil
            obtain ⟨m1, m2, m3⟩ := m
            simp only at HMD
            obtain ⟨pl, hpl⟩ : ∃ pl : Nat, placeT (List.map (·.1) T) ⟨m1, m2, m3⟩ = pl := ⟨_, (Int.toNat_of_nonneg HPG.out).symm⟩
            have HPL := fun w' (D : Nat → Prop) {uo so : Option Addr} {uc c : Nat} (ht : TL D w.heap.size w' (.slice so (tl) c) T) (hd : DR D w' (⟨m1, m2, m3⟩, .slice uo m3.length uc)) => Lib.hid (show Calls Try.prog 20 #[.slice so (tl) c, magg (⟨m1, m2, m3⟩, .slice uo m3.length uc)] w' (fun e w'' => e = .returned (.int .i64 (pl : Int)) ∧ Below w'.heap.size w' w'') from by rw [← hpl]; obtain ⟨ro, rc, e1, h5⟩ := hd; injection e1 with e1 _ e3; subst e1 e3; exact place_any ht (by first | exact HTL.out.symm | (rw [List.length_append, HTL.out]; rfl)) (by omega) h5)
            clear hpl HPG
            clear hl6 hnf
            go_wp2_with (first
              | (go_at_call 13; refine (HAT _ HN1.out.hn).out.mono ?_; rintro e w2 ⟨uo, uc, rfl, ho, hb⟩; obtain ⟨D2, hn2, hkb, hdd⟩ := HN1.out.told HQ1.out (.inr rfl) HSB1.out ho hb; have HN := Lib.hid hn2; have HKB := Lib.hid hkb; have HD2 : Hid (∀ q, q < w.heap.size → D2 q) := Lib.hid (fun q hq => hdd q (.inl (HDD.out q hq))); clear ho hb hn2 hkb hdd; obtain ⟨⟨y0, y1, y2, y3⟩, z0, z1, z2⟩ := HKB.out.cells; simp only at y0 y1 y2 y3 z0 z1 z2)
              | (go_at_call 19; refine (HMV _ _ HN.out.hn).out.mono ?_; rintro e w4 ⟨rfl, C', h2, h4⟩; have hkb := HKB.out.tn h4.tn HN.out.dc; have HN := Lib.hid (HN.out.went h2 h4); have HKB := Lib.hid hkb; clear h2 h4 hkb; obtain ⟨⟨y0, y1, y2, y3⟩, z0, z1, z2⟩ := HKB.out.cells; simp only at y0 y1 y2 y3 z0 z1 z2)
              | (go_at_call 21; refine (HLN _ _ HN.out.hn).out.mono ?_; rintro e w6 ⟨rfl, hb⟩; have hkb := HKB.out.below hb; have HN := Lib.hid (HN.out.below hb); have HKB := Lib.hid hkb; clear hb hkb; obtain ⟨⟨y0, y1, y2, y3⟩, z0, z1, z2⟩ := HKB.out.cells; simp only at y0 y1 y2 y3 z0 z1 z2)
              | (go_at_call 20; refine (HPL _ _ HN.out.tl HKB.out.su).out.mono ?_; rintro e w7 ⟨rfl, hb⟩; have hkb := HKB.out.below hb; have HN := Lib.hid (HN.out.below hb); have HKB := Lib.hid hkb; clear hb hkb; obtain ⟨⟨y0, y1, y2, y3⟩, z0, z1, z2⟩ := HKB.out.cells; simp only at y0 y1 y2 y3 z0 z1 z2)
              | fail)
            go_roundw
            case rel => exact ⟨k + 1, (moveV L i o3), T, by go_num, by omega, by rw [HL2.out]; omega, Lib.hid ⟨_, _, HN.out, HD2.out⟩, HP2, HO2⟩
            case measure => simp [intOf]; omega
          have hkd : ¬ o1 = 1 ∧ ¬ o1 = 2 ∧ ¬ o1 = 3 ∧ ¬ o1 = 4 ∧ ¬ o1 = 5 := ⟨h1, h2, h3, h4, h5⟩
          have HAT := fun w' hn => Lib.hid (nat_yes (w := w') (a := an) (C := C1) (room := 4096) (l := L) hn hil (by have := HOK.out.dat _ (List.getElem_mem hil); omega))
          have HO2 := HOK
          have HP2 := HP
          have HL2 := HLL
          have HLN := fun w' C (hn : NK C w' an 4096 L) => Lib.hid (show Calls Try.prog 21 #[ptr an] w' (fun e w'' => e = .returned (.int .i64 ((tl : Nat) : Int)) ∧ Below w'.heap.size w' w'') from by have := nlen_any hn; rwa [show (L).length = tl from HL2.out] at this)
          have HPG : Hid (0 ≤ placeT (List.map (·.1) T) L[i]) := Lib.hid (placeT_lt HP2.out (List.getElem_mem hil))
          have HMD : Hid (L[i].d.length ≤ 20000) := Lib.hid (HOK.out.dat _ (List.getElem_mem hil))
          generalize L[i] = m at *
          clear hil
          obtain ⟨m1, m2, m3⟩ := m
          simp only at HMD
          obtain ⟨pl, hpl⟩ : ∃ pl : Nat, placeT (List.map (·.1) T) ⟨m1, m2, m3⟩ = pl := ⟨_, (Int.toNat_of_nonneg HPG.out).symm⟩
          have HPL := fun w' (D : Nat → Prop) {uo so : Option Addr} {uc c : Nat} (ht : TL D w.heap.size w' (.slice so (tl) c) T) (hd : DR D w' (⟨m1, m2, m3⟩, .slice uo m3.length uc)) => Lib.hid (show Calls Try.prog 20 #[.slice so (tl) c, magg (⟨m1, m2, m3⟩, .slice uo m3.length uc)] w' (fun e w'' => e = .returned (.int .i64 (pl : Int)) ∧ Below w'.heap.size w' w'') from by rw [← hpl]; obtain ⟨ro, rc, e1, h5⟩ := hd; injection e1 with e1 _ e3; subst e1 e3; exact place_any ht (by first | exact HTL.out.symm | (rw [List.length_append, HTL.out]; rfl)) (by omega) h5)
          clear hpl HPG
          clear hl6 hnf
          obtain ⟨n1, n2, n3, n4, n5⟩ := hkd
          go_wp2_with (first
            | (go_at_call 13; refine (HAT _ HN1.out.hn).out.mono ?_; rintro e w2 ⟨uo, uc, rfl, ho, hb⟩; obtain ⟨D2, hn2, hkb, hdd⟩ := HN1.out.told HQ1.out (.inr rfl) HSB1.out ho hb; have HN := Lib.hid hn2; have HKB := Lib.hid hkb; have HD2 : Hid (∀ q, q < w.heap.size → D2 q) := Lib.hid (fun q hq => hdd q (.inl (HDD.out q hq))); clear ho hb hn2 hkb hdd; obtain ⟨⟨y0, y1, y2, y3⟩, z0, z1, z2⟩ := HKB.out.cells; simp only at y0 y1 y2 y3 z0 z1 z2)
            | (go_at_call 21; refine (HLN _ _ HN.out.hn).out.mono ?_; rintro e w6 ⟨rfl, hb⟩; have hkb := HKB.out.below hb; have HN := Lib.hid (HN.out.below hb); have HKB := Lib.hid hkb; clear hb hkb; obtain ⟨⟨y0, y1, y2, y3⟩, z0, z1, z2⟩ := HKB.out.cells; simp only at y0 y1 y2 y3 z0 z1 z2)
            | (go_at_call 20; refine (HPL _ _ HN.out.tl HKB.out.su).out.mono ?_; rintro e w7 ⟨rfl, hb⟩; have hkb := HKB.out.below hb; have HN := Lib.hid (HN.out.below hb); have HKB := Lib.hid hkb; clear hb hkb; obtain ⟨⟨y0, y1, y2, y3⟩, z0, z1, z2⟩ := HKB.out.cells; simp only at y0 y1 y2 y3 z0 z1 z2)
            | fail)
          go_roundw
          case rel => exact ⟨k + 1, L, T, by go_num, by omega, by rw [HL2.out]; omega, Lib.hid ⟨_, _, HN.out, HD2.out⟩, HP2, HO2⟩
          case measure => simp [intOf]; omega
      · obtain rfl : k = n := by omega
        go_wp2_with (first
          | (go_at_call 7; refine (HF _).out.mono ?_; rintro e w9 ⟨rfl, hb⟩; have HB9 := Lib.hid (HN0.out.lo.trans (hb.mono HN0.out.bw)); clear hb)
          | fail)
        go_ret
        exact ⟨rfl, HB9.out⟩
end
end Go.Proofs.Ytcgbjpmmbbldpaa
