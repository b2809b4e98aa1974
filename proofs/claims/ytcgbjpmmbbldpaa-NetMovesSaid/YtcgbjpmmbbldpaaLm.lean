/- NetMoves' walk. Conditions: none of its own. -/
import Derived.Test.YtcgbjpmmbbldpaaMv
namespace Go.Proofs.Ytcgbjpmmbbldpaa
open Go.ChangeShapes Go.WideShapes Go.ChangeAt Go.RowKit Go.Deep
section
variable {w : World}
set_option maxRecDepth 100000 in
set_option maxHeartbeats 4000000 in
/-- racelaw13.NetMoves answers true. -/
theorem moves_any (I K : Int) {ao : Option Addr} {n cap : Nat} {l : List OpN} (h : SO (· < w.heap.size) w ao n cap l) :
    Calls Try.prog 6 #[.slice ao n cap, .int .i64 I, .int .i64 K] w fun e w' => e = .returned (.bool true) ∧ Below w.heap.size w w' := by
  have HF := fun w => Lib.hid (first13_any w)
  have HS := Lib.hid h
  have HNN := fun w => Lib.hid (nnew_yes 4096 (by decide) (by decide) w)
  have HFW : ∀ w' : World, SO (· < w.heap.size) w' ao n cap l → Hid (Calls Try.prog 10 #[.slice ao n cap] w' fun e w'' => e = .returned (.bool (fewB l)) ∧ Below w'.heap.size w' w'') := fun w' h => Lib.hid (few_any h)
  cases hf : fewB l with
  | false =>
    simp only [hf] at HFW
    clear h hf
    go_enter Try.func6, Try.ntmps6
    go_wp2_with (first
      | (go_at_call 8; first
  | (refine (HNN w2).out.mono ?_; rintro e w3 ⟨am, C2, rfl, hk, hc, hb⟩; have HB3 := Lib.hid (HB2.out.trans (hb.mono HB2.out.size)); have HK3 := Lib.hid hk; have HC3 := Lib.hid hc; have HKN3 := Lib.hid (HK2.out.below hb); clear hk hc hb)
  | (refine (HNN _).out.mono ?_; rintro e w2 ⟨an, C1, rfl, hk, hc, hb⟩; have HB2 := Lib.hid (HB1.out.trans (hb.mono HB1.out.size)); have HK2 := Lib.hid hk; have HC2 := Lib.hid hc; clear hk hc hb))
      | (go_at_call 10; refine (HFW _ (HS.out.low HB3.out)).out.mono ?_; rintro e w4 ⟨rfl, hb⟩; have HB4 := Lib.hid (HB3.out.trans (hb.mono HB3.out.size)); have HKN4 := Lib.hid (HKN3.out.below hb); have HK4 := Lib.hid (HK3.out.below hb); clear hb)
      | (go_at_call 7; first
        | (have hi9 := HB4; refine (HF _).out.mono ?_; rintro e w5 ⟨rfl, hb⟩; have HB5 := Lib.hid (HB4.out.trans (hb.mono HB4.out.size)); clear hb)
        | (refine (HF _).out.mono ?_; rintro e w1 ⟨rfl, hb⟩; have HB1 := Lib.hid hb; clear hb))
      | fail)
    go_ret
    exact ⟨rfl, HB5.out⟩
  | true =>
    simp only [hf] at HFW
    have HFY := Lib.hid (few_yes hf)
    have hlt := h.lt
    have HLEN := Lib.hid h.len
    clear h hf
    go_enter Try.func6, Try.ntmps6
    go_wp2_with (first
      | (go_at_call 8; first
  | (refine (HNN w2).out.mono ?_; rintro e w3 ⟨am, C2, rfl, hk, hc, hb⟩; have HB3 := Lib.hid (HB2.out.trans (hb.mono HB2.out.size)); have HK3 := Lib.hid hk; have HC3 := Lib.hid hc; have HKN3 := Lib.hid (HK2.out.below hb); clear hk hc hb)
  | (refine (HNN _).out.mono ?_; rintro e w2 ⟨an, C1, rfl, hk, hc, hb⟩; have HB2 := Lib.hid (HB1.out.trans (hb.mono HB1.out.size)); have HK2 := Lib.hid hk; have HC2 := Lib.hid hc; clear hk hc hb))
      | (go_at_call 10; refine (HFW _ (HS.out.low HB3.out)).out.mono ?_; rintro e w4 ⟨rfl, hb⟩; have HB4 := Lib.hid (HB3.out.trans (hb.mono HB3.out.size)); have HKN4 := Lib.hid (HKN3.out.below hb); have HK4 := Lib.hid (HK3.out.below hb); clear hb)
      | (go_at_call 7; refine (HF _).out.mono ?_; rintro e w1 ⟨rfl, hb⟩; have HB1 := Lib.hid hb; clear hb)
      | fail)
    have HNB : Hid (∃ C1 C2, NNB w.heap.size w4 an am 4096 [] [] C1 C2) := Lib.hid ⟨C1, C2, HKN4.out, HK4.out, fun k h1 h2 => by have := HK2.out.lt k h1; have := HC3.out k h2; omega, fun k h1 => Nat.le_trans HB1.out.size (HC2.out k h1), fun k h1 => Nat.le_trans HB2.out.size (HC3.out k h1), HB4.out.size⟩
    clear HKN3 HK3 HKN4 HK4 HK2 HC2 HC3 HB3 HB2 HB1 HNN HFW
    go_loopw [11] (fun vi wr => ∃ (k : Nat) (Q : List MV), vi = .int .i64 k ∧ k ≤ n ∧ Hid (∃ C1 C2, NNB w.heap.size wr an am 4096 Q Q C1 C2) ∧ Hid (Okn Q) ∧ Hid (Below w.heap.size w wr)) (fun vi _ => n - (intOf vi).toNat)
    case atStart => exact ⟨0, [], rfl, Nat.zero_le _, HNB, Lib.hid Okn.nil, HB4⟩
    case round =>
      clear HNB HB4
      obtain ⟨k, Q, rfl, hk, HN0, HOK, HB⟩ := hrel
      obtain ⟨C1, C2, hn⟩ := HN0.out
      have HN := Lib.hid hn
      clear hn HN0
      by_cases hlt2 : k < n
      · have hkl : k < l.length := by rw [← HLEN.out]; exact hlt2
        obtain ⟨b, off, rfl, hbl, ho⟩ := HS.out.at_ hkl
        have hdl := wei_mem HFY.out.2 _ (List.getElem_mem hkl)
        have G1 := Lib.hid ho.c1; have G2 := Lib.hid ho.c2
        obtain ⟨po, pc, g3, hsb⟩ := ho.c3
        have G3 := Lib.hid g3
        have HSB0 := Lib.hid hsb
        have HBL := Lib.hid hbl
        clear ho g3 hsb hbl
        generalize l[k] = o at *
        obtain ⟨o1, o2, o3, o4⟩ := o
        simp only at G1 G2 G3 HSB0 hdl
        have hq6 := Nat.le_trans HOK.out.len (show 4096 ≤ 1000000 by decide)
        have HSN_n := fun w' (hn : NK C1 w' an 4096 Q) {ao : Option Addr} {cap : Nat} {D : Nat → Prop} (hs : SB D w' ao o4.length cap o4) => Lib.hid (show Calls Try.prog 14 #[ptr an, .int .i64 o2, .int .i64 o3, .slice ao o4.length cap] w' (NWent C1 w' an 4096 (sentL 4096 Q ⟨o2, o3, o4⟩) (.int .i64 (sentE 4096 Q))) from nsend_any hn o2 o3 hs (by omega) hq6)
        have HSN_m := fun w' (hn : NK C2 w' am 4096 Q) {ao : Option Addr} {cap : Nat} {D : Nat → Prop} (hs : SB D w' ao o4.length cap o4) => Lib.hid (show Calls Try.prog 14 #[ptr am, .int .i64 o2, .int .i64 o3, .slice ao o4.length cap] w' (NWent C2 w' am 4096 (sentL 4096 Q ⟨o2, o3, o4⟩) (.int .i64 (sentE 4096 Q))) from nsend_any hn o2 o3 hs (by omega) hq6)
        have HOK2 := Lib.hid (HOK.out.sent (room := 4096) (by decide) (m := ⟨o2, o3, o4⟩) hdl)
        generalize sentL 4096 Q ⟨o2, o3, o4⟩ = Q2 at *
        generalize sentE 4096 Q = e2 at *
        clear hq6 hdl
        go_wp2_with fail
        have HBD := Lib.hid ((Below.refl wr.heap.size wr).drew)
        have HN := Lib.hid (HN.out.below HBD.out)
        have HB := Lib.hid (HB.out.trans (HBD.out.mono HB.out.size))
        clear HBD
        go_region_held (fun w' => w'.cell? ⟨b, off + k * 4 + 1, none⟩ = some (.int .i64 o2) ∧ w'.cell? ⟨b, off + k * 4 + 2, none⟩ = some (.int .i64 o3) ∧ w'.cell? ⟨b, off + k * 4 + 3, none⟩ = some (.slice po o4.length pc)) (exact ⟨(HB.out.cell (p := ⟨b, off + k * 4 + 1, none⟩) HBL.out).trans G1.out, (HB.out.cell (p := ⟨b, off + k * 4 + 2, none⟩) HBL.out).trans G2.out, (HB.out.cell (p := ⟨b, off + k * 4 + 3, none⟩) HBL.out).trans G3.out⟩)
          ((go_at_call 14; refine (HSN_n _ HN.out.hn (HSB0.out.low HB.out)).out.mono ?_; rintro e w5n ⟨rfl, C', h2, h4⟩; obtain ⟨g1, g2⟩ := HN.out.stepn h2 h4; have HN := Lib.hid g1; have HB := Lib.hid (HB.out.trans g2); clear h2 h4 g1 g2))
        go_wp2_with fail
        have HBD := Lib.hid ((Below.refl w5n.heap.size w5n).drew)
        have HN := Lib.hid (HN.out.below HBD.out)
        have HB := Lib.hid (HB.out.trans (HBD.out.mono HB.out.size))
        clear HBD
        go_region_held (fun w' => w'.cell? ⟨b, off + k * 4 + 1, none⟩ = some (.int .i64 o2) ∧ w'.cell? ⟨b, off + k * 4 + 2, none⟩ = some (.int .i64 o3) ∧ w'.cell? ⟨b, off + k * 4 + 3, none⟩ = some (.slice po o4.length pc)) (exact ⟨(HB.out.cell (p := ⟨b, off + k * 4 + 1, none⟩) HBL.out).trans G1.out, (HB.out.cell (p := ⟨b, off + k * 4 + 2, none⟩) HBL.out).trans G2.out, (HB.out.cell (p := ⟨b, off + k * 4 + 3, none⟩) HBL.out).trans G3.out⟩)
          ((go_at_call 14; refine (HSN_m _ HN.out.hm (HSB0.out.low HB.out)).out.mono ?_; rintro e w5m ⟨rfl, C', h2, h4⟩; obtain ⟨g1, g2⟩ := HN.out.stepm h2 h4; have HN := Lib.hid g1; have HB := Lib.hid (HB.out.trans g2); clear h2 h4 g1 g2))
        go_wp2
        go_roundw
        case rel => exact ⟨k + 1, Q2, by go_num, by omega, Lib.hid ⟨_, _, HN.out⟩, HOK2, HB⟩
        case measure => simp [intOf]; omega
      · obtain ⟨W0, h9⟩ : ∃ W0, wr = W0 := ⟨_, rfl⟩
        rw [h9] at HN HB
        rw [h9]
        clear h9
        by_cases hh : hasB Q I = false
        · have HATn := fun w' hn => Lib.hid (nat_no (w := w') (a := an) (C := C1) (room := 4096) (l := Q) hn hh)
          have HMVn := fun w' hn => Lib.hid (nmove_no (w := w') (a := an) (C := C1) (room := 4096) (l := Q) hn hh K)
          have HLN := fun C w' a hn => Lib.hid (nlen_any (w := w') (a := a) (C := C) (room := 4096) (l := Q) hn)
          generalize (Q.length : Int) = ql at *
          clear hh
          go_wp2_with (first
            | (go_at_call 13; refine (HATn _ HN.out.hn).out.mono ?_; rintro e w5 ⟨rfl, hb⟩; have HN5 := Lib.hid ((HN.out.below hb).below (below1 w5 (mobj 40 (⟨0, 0, []⟩, .slice none 0 0)))); have HB5 := Lib.hid (HB.out.trans ((hb.mono HB.out.size).trans ((below1 w5 (mobj 40 (⟨0, 0, []⟩, .slice none 0 0))).mono (Nat.le_trans HB.out.size hb.size)))); clear hb)
            | (go_at_call 19; refine (HMVn _ HN5.out.hn).out.mono ?_; rintro e w6 ⟨rfl, hb⟩; have HN6 := Lib.hid (HN5.out.below hb); have HB6 := Lib.hid (HB5.out.trans (hb.mono HB5.out.size)); clear hb)
            | (go_at_call 7; refine (HF _).out.mono ?_; rintro e w7 ⟨rfl, hb⟩; have HN7 := Lib.hid (HN6.out.below hb); have HB7 := Lib.hid (HB6.out.trans (hb.mono HB6.out.size)); clear hb)
            | (go_at_call 21; first
              | (have g9 := HB8; refine (HLN _ _ _ HN8.out.hm).out.mono ?_; rintro e w9 ⟨rfl, hb⟩; have HB9 := Lib.hid (HB8.out.trans (hb.mono HB8.out.size)); clear hb)
              | (refine (HLN _ _ _ HN7.out.hn).out.mono ?_; rintro e w8 ⟨rfl, hb⟩; have HN8 := Lib.hid (HN7.out.below hb); have HB8 := Lib.hid (HB7.out.trans (hb.mono HB7.out.size)); clear hb))
            | fail)
          go_ret
          exact ⟨by simp, HB9.out⟩
        · obtain ⟨i, rfl, hi⟩ := hasB_nat (l := Q) (i := I) (by simpa using hh)
          obtain ⟨q, hq⟩ : ∃ q, Q.length = q + 1 := ⟨Q.length - 1, by omega⟩
          have HQ := Lib.hid hq
          have hl6 : Q.length ≤ 1000000 := Nat.le_trans HOK.out.len (by decide)
          have hdi := Nat.le_trans (HOK.out.dat _ (List.getElem_mem hi)) (show 20000 ≤ 100000000 by decide)
          have HAT1 := fun C w' hn => Lib.hid (nat_yes (w := w') (a := an) (C := C) (room := 4096) (l := Q) hn hi hdi)
          have HMV1 := fun C w' hn => Lib.hid (nmove_yes (w := w') (a := an) (C := C) (room := 4096) (l := Q) hn hi hl6 K)
          have hlm := length_move hi K
          have hpl := placeV_le q K
          have hpc := placeV_cases q K
          have hmb := move_back hi K
          have hcm := fun t => cnt_move hi K t
          have hma := move_at hi K
          rw [show Q.length - 1 = q by omega] at hmb hma
          obtain ⟨p, hp⟩ : ∃ p, placeV q K = p := ⟨_, rfl⟩
          simp only [hp] at hpl hpc hmb hma
          obtain ⟨Q1, hQ1⟩ : ∃ Q1, moveV Q i K = Q1 := ⟨_, rfl⟩
          simp only [hQ1] at hlm hmb hcm hma HMV1
          have hp1 : p < Q1.length := by rw [hlm, hq]; omega
          have hma1 := hma hp1
          have HAT2 : ∀ C w', NK C w' an 4096 Q1 → Hid (Calls Try.prog 13 #[ptr an, .int .i64 (p : Int)] w' (NTold w' Q[i])) := fun C w' hn => Lib.hid (by have := nat_yes hn hp1 (by rw [hma1]; exact hdi); rwa [hma1] at this)
          have HMV2 : ∀ C w', NK C w' an 4096 Q1 → Hid (Calls Try.prog 19 #[ptr an, .int .i64 (p : Int), .int .i64 (i : Int)] w' (NWent C w' an 4096 Q (.bool true))) := fun C w' hn => Lib.hid (by have := nmove_yes hn hp1 (by rw [hlm]; exact hl6) (i : Int); rwa [hmb] at this)
          have HCT : ∀ C w' a t, NK C w' a 4096 Q1 → Hid (Calls Try.prog 23 #[ptr a, .int .i64 t] w' fun e w'' => e = .returned (.int .i64 (cntV Q t)) ∧ Below w'.heap.size w' w'') := fun C w' a t hn => Lib.hid (by have := ncount_any hn t (by rw [hlm]; exact hl6); rwa [hcm] at this)
          have HCM : ∀ C w' a t, NK C w' a 4096 Q → Hid (Calls Try.prog 23 #[ptr a, .int .i64 t] w' fun e w'' => e = .returned (.int .i64 (cntV Q t)) ∧ Below w'.heap.size w' w'') := fun C w' a t hn => Lib.hid (ncount_any hn t hl6)
          have HLN : ∀ C w' a, NK C w' a 4096 Q1 → Hid (Calls Try.prog 21 #[ptr a] w' fun e w'' => e = .returned (.int .i64 ((q : Int) + 1)) ∧ Below w'.heap.size w' w'') := fun C w' a hn => Lib.hid (by have := nlen_any hn; rw [hlm, hq] at this; exact this)
          have HLQ : ∀ C w' a, NK C w' a 4096 Q → Hid (Calls Try.prog 21 #[ptr a] w' fun e w'' => e = .returned (.int .i64 ((q : Int) + 1)) ∧ Below w'.heap.size w' w'') := fun C w' a hn => Lib.hid (by have := nlen_any hn; rw [hq] at this; exact this)
          have hq6 : q ≤ 4096 := by have := HOK.out.len; omega
          have HC1 : Hid (∀ k, C1 k → k < W0.heap.size) := Lib.hid HN.out.hn.lt
          clear hh hp hQ1 hma hma1 hmb hcm hlm hp1 hdi hl6
          have hiq : i < q + 1 := by omega
          generalize Q[i] = x at *
          clear hi
          obtain ⟨x1, x2, x3⟩ := x
          have HAL := fun w' {D E : Nat → Prop} {po uo : Option Addr} {pc uc : Nat} (s1 : SB D w' po x3.length pc x3) (s2 : SB E w' uo x3.length uc x3) => Lib.hid (alike_any (m := ⟨x1, x2, x3⟩) (y := ⟨x1, x2, x3⟩) s1 s2)
          simp only [sameM_self] at HAL
          have HCX := fun C w' a hn => HCT C w' a x2 hn
          have HCY := fun C w' a hn => HCM C w' a x2 hn
          generalize cntV Q x2 = ct at *
          clear hq HCT HCM
          rcases hpc with ⟨ht, rfl⟩ | ⟨p', rfl, ht, rfl⟩ | ⟨rfl, hpq⟩ | ⟨ht, ht0, hpq⟩
          all_goals try (obtain rfl := hpq.symm)
          all_goals as_aux_lemma =>
            go_wp2_with (first
              | (go_at_call 13; first
                | (refine (HAT2 _ _ HN6.out.hn).out.mono ?_; rintro e w7 ⟨ro, rc, rfl, ho, hb⟩; have HRO := Lib.hid ho; have HN7 := Lib.hid (HN6.out.below hb); have HB7 := Lib.hid (HB6.out.trans (hb.mono HB6.out.size)); have HX := Lib.hid (HX.out.below hb HX.out.lt); have HPO := Lib.hid (own_below HPO.out hb); have HL12 := Lib.hid (Nat.lt_of_lt_of_le HL12.out hb.size); clear ho hb)
                | (refine (HAT1 _ _ HN.out.hn).out.mono ?_; rintro e w5 ⟨po, pc, rfl, ho, hb⟩; have HX := Lib.hid (mx_new w5 40 (⟨x1, x2, x3⟩, .slice po x3.length pc)); have HPO := Lib.hid (own_below ho (below1 w5 (mobj 40 (⟨x1, x2, x3⟩, .slice po x3.length pc)))); have HP5 := Lib.hid (fun k hk => ho.lt k hk); have HN5 := Lib.hid ((HN.out.below hb).below (below1 w5 (mobj 40 (⟨x1, x2, x3⟩, .slice po x3.length pc)))); have HB5 := Lib.hid (HB.out.trans ((hb.mono HB.out.size).trans ((below1 w5 (mobj 40 (⟨x1, x2, x3⟩, .slice po x3.length pc))).mono (Nat.le_trans HB.out.size hb.size)))); have HL5 := Lib.hid hb.size; clear ho hb))
              | (go_at_call 19; refine (HMV1 _ _ HN5.out.hn).out.mono ?_; rintro e w6 ⟨rfl, C1', h2, h4⟩; obtain ⟨g1, g2⟩ := HN5.out.stepn h2 h4; have HN6 := Lib.hid g1; have HB6 := Lib.hid (HB5.out.trans g2); have HX := Lib.hid (HX.out.tn h4.tn (fun e => by have := HC1.out _ e; have := HL5.out; omega)); have HPO := Lib.hid (own_tn HPO.out h4.tn (fun k hk e => by have := HC1.out _ e; have := (HP5.out k hk).1; omega)); have HNB12 : Hid (¬ C1' w5.heap.size) := Lib.hid (fun e => by rcases h4.new _ e with h | h; (have := HC1.out _ h; have := HL5.out; omega); (have h6 := h.1; have h7 : (w5.alloc (mobj 40 (⟨x1, x2, x3⟩, .slice po x3.length pc))).heap.size = w5.heap.size + 1 := (by simp); omega)); have HNPO : Hid (∀ k, (Value.slice po x3.length pc).ownBlock = some k → ¬ C1' k) := Lib.hid (fun k hk e => by have h5 := HP5.out k hk; rcases h4.new _ e with h | h; (have := HC1.out _ h; omega); (have h6 := h.1; have h7 : (w5.alloc (mobj 40 (⟨x1, x2, x3⟩, .slice po x3.length pc))).heap.size = w5.heap.size + 1 := (by simp); omega)); have HL12 : Hid (w5.heap.size < w6.heap.size) := Lib.hid (by have := h4.tn.size; simp at this; omega); clear h2 h4 g1 g2)
              | (go_at_call 21; refine (HLN _ _ _ HN6.out.hn).out.mono ?_; rintro e w6' ⟨rfl, hb⟩; have HN6 := Lib.hid (HN6.out.below hb); have HB6 := Lib.hid (HB6.out.trans (hb.mono HB6.out.size)); have HX := Lib.hid (HX.out.below hb HX.out.lt); have HPO := Lib.hid (own_below HPO.out hb); have HL12 := Lib.hid (Nat.lt_of_lt_of_le HL12.out hb.size); clear hb)
              | fail)
            have HY := Lib.hid (mx_new w7 40 (⟨x1, x2, x3⟩, .slice ro x3.length rc))
            have HX := Lib.hid (HX.out.below (below1 w7 (mobj 40 (⟨x1, x2, x3⟩, .slice ro x3.length rc))) HX.out.lt)
            have HPO := Lib.hid (own_below HPO.out (below1 w7 (mobj 40 (⟨x1, x2, x3⟩, .slice ro x3.length rc))))
            have HRO := Lib.hid (own_below HRO.out (below1 w7 (mobj 40 (⟨x1, x2, x3⟩, .slice ro x3.length rc))))
            have HNB15 : Hid (¬ C1' w7.heap.size) := Lib.hid (fun e => absurd (HN7.out.hn.lt _ e) (Nat.lt_irrefl _))
            have HN := Lib.hid (HN7.out.below (below1 w7 (mobj 40 (⟨x1, x2, x3⟩, .slice ro x3.length rc))))
            have HB := Lib.hid (HB7.out.trans ((below1 w7 (mobj 40 (⟨x1, x2, x3⟩, .slice ro x3.length rc))).mono HB7.out.size))
            clear HN7 HB7 HN6 HB6 HN5 HB5 HL5 HP5 HC1 HL12
            obtain ⟨b12, hb12⟩ : ∃ b, w5.heap.size = b := ⟨_, rfl⟩
            rw [hb12] at HX HNB12
            rw [hb12]
            obtain ⟨b15, hb15⟩ : ∃ b, w7.heap.size = b := ⟨_, rfl⟩
            rw [hb15] at HY HNB15
            rw [hb15]
            obtain ⟨W9, hW9⟩ : ∃ W, w7.alloc (mobj 40 (⟨x1, x2, x3⟩, .slice ro x3.length rc)) = W := ⟨_, rfl⟩
            rw [hW9] at HX HY HPO HRO HN HB
            have hW9' : w7.alloc (.cells #[.int .i64 x1, .int .i64 x2, .slice ro x3.length rc] 40) = W9 := hW9
            rw [hW9']
            clear hb12 hb15 hW9 hW9'
            have hb := (Below.refl W9.heap.size W9).drew
            have HX := Lib.hid (HX.out.below hb HX.out.lt); have HY := Lib.hid (HY.out.below hb HY.out.lt); have HPO := Lib.hid (own_below HPO.out hb); have HRO := Lib.hid (own_below HRO.out hb); have HB := Lib.hid (HB.out.trans (hb.mono HB.out.size)); have HN := Lib.hid (HN.out.below hb); clear hb
            go_region_held (fun w' => w'.cell? ⟨b12, 0, none⟩ = some (.int .i64 x1) ∧ w'.cell? ⟨b12, 1, none⟩ = some (.int .i64 x2) ∧ w'.cell? ⟨b12, 2, none⟩ = some (.slice po x3.length pc) ∧ w'.cell? ⟨b15, 0, none⟩ = some (.int .i64 x1) ∧ w'.cell? ⟨b15, 1, none⟩ = some (.int .i64 x2) ∧ w'.cell? ⟨b15, 2, none⟩ = some (.slice ro x3.length rc)) (exact ⟨HX.out.c0, HX.out.c1, HX.out.c2, HY.out.c0, HY.out.c1, HY.out.c2⟩)
              ((first
                | (go_at_call 16; refine (HAL _ (own_sb HPO.out) (own_sb HRO.out)).out.mono ?_; rintro e wq ⟨rfl, hb⟩; have HX := Lib.hid (HX.out.below hb HX.out.lt); have HY := Lib.hid (HY.out.below hb HY.out.lt); have HPO := Lib.hid (own_below HPO.out hb); have HRO := Lib.hid (own_below HRO.out hb); have HB := Lib.hid (HB.out.trans (hb.mono HB.out.size)); have HN := Lib.hid (HN.out.below hb); clear hb)
                | (go_at_call 23; first
                  | ((with_reducible refine (HCY _ _ _ HN.out.hm).out.mono ?_); rintro e wq ⟨rfl, hb⟩; have HX := Lib.hid (HX.out.below hb HX.out.lt); have HY := Lib.hid (HY.out.below hb HY.out.lt); have HPO := Lib.hid (own_below HPO.out hb); have HRO := Lib.hid (own_below HRO.out hb); have HB := Lib.hid (HB.out.trans (hb.mono HB.out.size)); have HN := Lib.hid (HN.out.below hb); clear hb)
                  | ((with_reducible refine (HCX _ _ _ HN.out.hn).out.mono ?_); rintro e wq ⟨rfl, hb⟩; have HX := Lib.hid (HX.out.below hb HX.out.lt); have HY := Lib.hid (HY.out.below hb HY.out.lt); have HPO := Lib.hid (own_below HPO.out hb); have HRO := Lib.hid (own_below HRO.out hb); have HB := Lib.hid (HB.out.trans (hb.mono HB.out.size)); have HN := Lib.hid (HN.out.below hb); clear hb))
                | (go_at_call 21; first
                  | ((with_reducible refine (HLQ _ _ _ HN.out.hm).out.mono ?_); rintro e wq ⟨rfl, hb⟩; have HX := Lib.hid (HX.out.below hb HX.out.lt); have HY := Lib.hid (HY.out.below hb HY.out.lt); have HPO := Lib.hid (own_below HPO.out hb); have HRO := Lib.hid (own_below HRO.out hb); have HB := Lib.hid (HB.out.trans (hb.mono HB.out.size)); have HN := Lib.hid (HN.out.below hb); clear hb)
                  | ((with_reducible refine (HLN _ _ _ HN.out.hn).out.mono ?_); rintro e wq ⟨rfl, hb⟩; have HX := Lib.hid (HX.out.below hb HX.out.lt); have HY := Lib.hid (HY.out.below hb HY.out.lt); have HPO := Lib.hid (own_below HPO.out hb); have HRO := Lib.hid (own_below HRO.out hb); have HB := Lib.hid (HB.out.trans (hb.mono HB.out.size)); have HN := Lib.hid (HN.out.below hb); clear hb))
                | (go_at_call 19; refine (HMV2 _ _ HN.out.hn).out.mono ?_; rintro e W8 ⟨rfl, C1'', h2, h4⟩; obtain ⟨g1, g2⟩ := HN.out.stepn h2 h4; have HNL : Hid (∃ C3 C4, NNB w.heap.size W8 an am 4096 Q Q C3 C4) := Lib.hid ⟨_, _, g1⟩; have HBL := Lib.hid (HB.out.trans g2); have HX := Lib.hid (HX.out.tn h4.tn HNB12.out); have HY := Lib.hid (HY.out.tn h4.tn HNB15.out); clear h2 h4 g1 g2)))
            go_wp2
            obtain ⟨C3, C4, hn⟩ := HNL.out
            have HN := Lib.hid hn
            clear hn HNL
            have HLM := fun w' hn => Lib.hid (nlen_any (w := w') (a := am) (C := C4) (room := 4096) (l := Q) hn)
            rw [HQ.out] at HLM
            go_loopw [17] (fun vi wr => ∃ j : Nat, vi = .int .i64 j ∧ j ≤ q + 1 ∧ Hid (Below W8.heap.size W8 wr)) (fun vi _ => q + 1 - (intOf vi).toNat)
            case atStart => exact ⟨0, rfl, Nat.zero_le _, Lib.hid (Below.refl _ _)⟩
            case round =>
              obtain ⟨j, rfl, hj, HB8⟩ := hrel
              have HN8 := Lib.hid (HN.out.below HB8.out)
              by_cases hlj : j < q + 1
              · have hjl : j < Q.length := by rw [HQ.out]; exact hlj
                have hdj := Nat.le_trans (HOK.out.dat _ (List.getElem_mem hjl)) (show 20000 ≤ 100000000 by decide)
                have HAN := fun w' hn => Lib.hid (nat_yes (w := w') (a := an) (C := C3) (room := 4096) (l := Q) hn hjl hdj)
                have HAM := fun w' hn => Lib.hid (nat_yes (w := w') (a := am) (C := C4) (room := 4096) (l := Q) hn hjl hdj)
                generalize Q[j] = y at *
                obtain ⟨y1, y2, y3⟩ := y
                have HAL := fun w' {D E : Nat → Prop} {po uo : Option Addr} {pc uc : Nat} (s1 : SB D w' po y3.length pc y3) (s2 : SB E w' uo y3.length uc y3) => Lib.hid (alike_any (m := ⟨y1, y2, y3⟩) (y := ⟨y1, y2, y3⟩) s1 s2)
                simp only [sameM_self] at HAL
                clear hdj
                go_wp2_with (first
                  | (go_at_call 21; refine (HLM _ HN8.out.hm).out.mono ?_; rintro e w9 ⟨rfl, hb⟩; have HN9 := Lib.hid (HN8.out.below hb); have HB9 := Lib.hid (HB8.out.trans (hb.mono HB8.out.size)); clear hb)
                  | (go_at_call 13; first
                    | (refine (HAM _ (HN10.out.below (below1 w10 (mobj 40 (⟨y1, y2, y3⟩, .slice so y3.length sc)))).hm).out.mono ?_; rintro e w11 ⟨to, tc, rfl, ho, hb⟩; have HZX := Lib.hid ((mx_new w10 40 (⟨y1, y2, y3⟩, .slice so y3.length sc)).below hb (by simp)); have HZO := Lib.hid (own_below (own_below HSO.out (below1 w10 _)) hb); have z0 := HZX.out.c0; have z1 := HZX.out.c1; have z2 := HZX.out.c2; simp only at z0 z1 z2; have hzl := HZX.out.lt; have HTO := Lib.hid ho; have HB11 := Lib.hid ((HB10.out.trans ((below1 w10 (mobj 40 (⟨y1, y2, y3⟩, .slice so y3.length sc))).mono HB10.out.size)).trans (hb.mono (Nat.le_trans HB10.out.size (below1 w10 _).size))); clear ho hb)
                    | (refine (HAN _ HN9.out.hn).out.mono ?_; rintro e w10 ⟨so, sc, rfl, ho, hb⟩; have HSO := Lib.hid ho; have HN10 := Lib.hid (HN9.out.below hb); have HB10 := Lib.hid (HB9.out.trans (hb.mono HB9.out.size)); clear ho hb))
                  | (go_at_call 16; refine (HAL _ (own_sb (own_below HZO.out (below1 _ _))) (own_sb (own_below HTO.out (below1 _ _)))).out.mono ?_; rintro e w12 ⟨rfl, hb⟩; have HB12 := Lib.hid ((HB11.out.trans ((below1 w11 (mobj 40 (⟨y1, y2, y3⟩, .slice to y3.length tc))).mono HB11.out.size)).trans (hb.mono (Nat.le_trans HB11.out.size (below1 w11 _).size))); clear hb)
                  | fail)
                go_roundw
                case rel => exact ⟨j + 1, by go_num, by omega, HB12⟩
                case measure => simp [intOf]; omega
              · obtain rfl : j = q + 1 := by omega
                go_wp2_with (first
                  | (go_at_call 21; refine (HLM _ HN8.out.hm).out.mono ?_; rintro e w9 ⟨rfl, hb⟩; have HB9 := Lib.hid (HB8.out.trans (hb.mono HB8.out.size)); clear hb)
                  | (go_at_call 7; refine (HF _).out.mono ?_; rintro e w10 ⟨rfl, hb⟩; have HB10 := Lib.hid (HB9.out.trans (hb.mono HB9.out.size)); clear hb)
                  | fail)
                go_ret
                exact ⟨rfl, HBL.out.trans (HB10.out.mono HBL.out.size)⟩
end
end Go.Proofs.Ytcgbjpmmbbldpaa
