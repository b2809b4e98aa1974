/- racelaw13.does, stands. Conditions: no more mails than there is room for, bytes as few operations have them. -/
import Derived.Test.YtcgbjpmmbbldpaaLd
namespace Go.Proofs.Ytcgbjpmmbbldpaa
open Go.ChangeShapes Go.WideShapes Go.ChangeAt Go.RowKit Go.Deep
section
variable {B n x : Nat} {w : World} {room : Int} {l : List MV}
theorem does_any (h : NB B w n x room l) (hok : Okn l) {o : OpN} {ao : Option Addr} {cap : Nat} (hd : SB (· < B) w ao o.d.length cap o.d) (hdl : o.d.length ≤ 20000) :
    Calls Try.prog 11 #[ptr n, ptr x, opv o ao cap] w (Did B w n x room (stepN room l o)) := by
  obtain ⟨k, a, b, d⟩ := o
  simp only at hd hdl
  unfold stepN
  simp only
  by_cases h1 : k = 1
  · subst h1; rw [if_pos rfl]; exact does_1 h hok hd hdl
  rw [if_neg h1]
  by_cases hh : hasB l a = false
  · rw [if_pos hh]
    by_cases h2 : k = 2
    · subst h2; exact does_2n h hok hh
    by_cases h3 : k = 3
    · subst h3; exact does_3n h hok hh
    by_cases h4 : k = 4
    · subst h4; exact does_4n h hok hh
    by_cases h5 : k = 5
    · subst h5; exact does_5n h hok hh
    by_cases h6 : k = 6
    · subst h6; exact does_6 h hok
    exact does_0n h hok ⟨h1, h2, h3, h4, h5, h6⟩ hh
  · rw [if_neg hh]
    obtain ⟨i, rfl, hi⟩ := hasB_nat (l := l) (i := a) (by simpa using hh)
    rw [Int.toNat_natCast]
    by_cases h2 : k = 2
    · subst h2; rw [if_pos (.inl rfl)]; exact does_2y h hok hi
    by_cases h3 : k = 3
    · subst h3; rw [if_pos (.inr rfl)]; exact does_3y h hok hi
    rw [if_neg (by omega)]
    by_cases h4 : k = 4
    · subst h4
      rw [if_pos rfl, List.getD_eq_getElem?_getD, List.getElem?_eq_getElem hi]
      exact does_4y h hok hi
    rw [if_neg h4]
    by_cases h5 : k = 5
    · subst h5; rw [if_pos rfl]; exact does_5y h hok hi
    rw [if_neg h5]
    by_cases h6 : k = 6
    · subst h6; exact does_6 h hok
    exact does_0y h hok ⟨h1, h2, h3, h4, h5, h6⟩ hi
set_option maxRecDepth 100000 in
set_option maxHeartbeats 4000000 in
theorem stands_any (h : NB B w n x room l) (hok : Okn l) : Calls Try.prog 12 #[ptr n, ptr x] w (Did B w n x room l) := by
  obtain ⟨C1, C2, h0⟩ := h
  have HLo := Lib.hid h0
  obtain ⟨v, L, hr⟩ := h0.hx
  obtain ⟨ao, cap, e⟩ := own_slice hr.ml.own
  subst e
  have HLL := Lib.hid hr.len
  obtain ⟨q, hq⟩ : ∃ q, l.length = q := ⟨_, rfl⟩
  have HQ := Lib.hid hq
  have HLQ := Lib.hid (hr.len.trans hq)
  have hq6 : q ≤ 4096 := by rw [← hq]; exact hok.len
  have HLN := fun w' hn => Lib.hid (nlen_any (w := w') (a := n) (C := C1) (room := room) (l := l) hn)
  simp only [hq] at HLN
  have HDT : Hid (∀ i (hi : i < l.length), l[i].d.length ≤ 100000000) := Lib.hid (fun i hi => Nat.le_trans (hok.dat _ (List.getElem_mem hi)) (by decide))
  have hb0 := (Below.refl w.heap.size w).drew
  have HRT := Lib.hid (hr.below hb0)
  have HKN := Lib.hid (h0.hn.below hb0)
  have HB0 := Lib.hid hb0
  have hc := hr.c1
  rw [HLQ.out] at hc
  have HC := Lib.hid hc
  have HAX := Lib.hid hr.alt
  clear h0 hr hok hq hb0 hc
  go_enter Try.func12, Try.ntmps12
  go_wp2_with fail
  have HCC := Lib.hid ((HB0.out.cell (p := ⟨x, 1, none⟩) HAX.out).trans HC.out)
  have HAX2 : Hid (x < w.drew.heap.size) := HAX
  go_region_held (fun w' => w'.cell? ⟨x, 1, none⟩ = some (.slice ao q cap)) (exact HCC.out)
    ((go_at_call 21; refine (HLN _ HKN.out).out.mono ?_; rintro e w1 ⟨rfl, hb⟩; have HB1 := Lib.hid hb; have HCC := Lib.hid ((hb.cell (p := ⟨x, 1, none⟩) HAX2.out).trans HCC.out); clear hb))
  have HRT := Lib.hid (HRT.out.below HB1.out)
  have HKN0 := Lib.hid (HKN.out.below HB1.out)
  have HB1 := Lib.hid (HB0.out.trans (HB1.out.mono HB0.out.size))
  have c1 := HCC.out
  have hx1 := HRT.out.alt
  clear HKN HC HAX HAX2 HCC HB0 HLN
  go_wp2
  go_loopw [5] (fun vi wr => ∃ i : Nat, vi = .int .i64 i ∧ i ≤ q ∧ Hid (Below w1.heap.size w1 wr)) (fun vi _ => q - (intOf vi).toNat)
  case atStart => exact ⟨0, rfl, Nat.zero_le _, Lib.hid (Below.refl _ _)⟩
  case round =>
    obtain ⟨i, rfl, hi, HB⟩ := hrel
    obtain ⟨wa, h9⟩ : ∃ wa, wr = wa := ⟨_, rfl⟩
    rw [h9] at HB
    rw [h9]
    clear h9
    have hC1 := HRT.out.c1
    rw [HLQ.out] at hC1
    have hxl := HRT.out.alt
    have HC1 := Lib.hid ((HB.out.cell (p := ⟨x, 1, none⟩) hxl).trans hC1)
    have c1 := HC1.out
    clear hC1
    by_cases hlt : i < q
    · have hil : i < l.length := by rw [HQ.out]; exact hlt
      have hiL : i < L.length := by rw [HLQ.out]; exact hlt
      have HAT := fun w' hn => Lib.hid (nat_yes (w := w') (a := n) (C := C1) (room := room) (l := l) hn hil (HDT.out i hil))
      have hdl := HDT.out i hil
      obtain ⟨g, rfl, hgl, hCg, hm, hda⟩ := HRT.out.ml.at_ hiL
      have he := eq_at HRT.out.eq hiL hil
      generalize L[i] = xx at *
      obtain ⟨xx, u⟩ := xx
      simp only at he
      subst he
      generalize l[i] = m at *
      obtain ⟨uo, uc, e⟩ := own_slice hda.own
      simp only at e
      subst e
      obtain ⟨m1, m2, m3⟩ := m
      have HSM := fun w' {D E : Nat → Prop} {po uo : Option Addr} {pc uc : Nat} (s1 : SB D w' po m3.length pc m3) (s2 : SB E w' uo m3.length uc m3) => Lib.hid (same_any (m := ⟨m1, m2, m3⟩) (y := ⟨m1, m2, m3⟩) s1 s2)
      simp only [sameM_self] at HSM
      have HMA := Lib.hid (hm.below HB.out hgl)
      have HRB := Lib.hid ((hda.below HB.out).sb rfl)
      have HGL := Lib.hid (Nat.lt_of_lt_of_le hgl HB.out.size)
      have HXL := Lib.hid (Nat.lt_of_lt_of_le hxl HB.out.size)
      have HKN := Lib.hid (HKN0.out.below HB.out)
      simp only at hdl
      clear hm hda hxl hgl
      go_wp2_with (first
        | (go_at_call 13; refine (HAT _ HKN.out).out.mono ?_; rintro e w2 ⟨po, pc, rfl, ho, hb⟩; have HO2 := Lib.hid ho; have HB2 := Lib.hid hb; clear ho hb)
        | fail)
      have hXM := mx_new w2 40 (⟨m1, m2, m3⟩, .slice po m3.length pc)
      have HO := Lib.hid (own_below HO2.out (below1 w2 (mobj 40 (⟨m1, m2, m3⟩, .slice po m3.length pc))))
      have HBW := Lib.hid (HB2.out.trans ((below1 w2 (mobj 40 (⟨m1, m2, m3⟩, .slice po m3.length pc))).mono HB2.out.size))
      have HIN : Hid (∀ k, (Value.slice po m3.length pc).ownBlock = some k → wa.heap.size ≤ k ∧ k < w2.heap.size) := Lib.hid (fun k hk => HO2.out.lt k hk)
      have HL6 : Hid (wa.heap.size ≤ w2.heap.size) := Lib.hid HB2.out.size
      obtain ⟨b6, hb6⟩ : ∃ b, w2.heap.size = b := ⟨_, rfl⟩
      rw [hb6] at hXM HIN HL6
      rw [hb6]
      obtain ⟨W3, hW3⟩ : ∃ W, w2.alloc (mobj 40 (⟨m1, m2, m3⟩, .slice po m3.length pc)) = W := ⟨_, rfl⟩
      rw [hW3] at hXM HO HBW
      have hW3' : w2.alloc (.cells #[.int .i64 m1, .int .i64 m2, .slice po m3.length pc] 40) = W3 := hW3
      rw [hW3']
      have HXM := Lib.hid hXM
      clear hXM hW3 hW3' hb6 HO2 HB2 c1
      go_wp2_with fail
      have HBD := Lib.hid ((Below.refl W3.heap.size W3).drew)
      have HXM := Lib.hid (HXM.out.below HBD.out HXM.out.lt)
      have HO := Lib.hid (own_below HO.out HBD.out)
      have HBW := Lib.hid (HBW.out.trans (HBD.out.mono HBW.out.size))
      clear HBD
      go_region_held (fun w' => w'.cell? ⟨b6, 0, none⟩ = some (.int .i64 m1) ∧ w'.cell? ⟨b6, 1, none⟩ = some (.int .i64 m2) ∧ w'.cell? ⟨b6, 2, none⟩ = some (.slice po m3.length pc) ∧ w'.cell? ⟨x, 1, none⟩ = some (.slice (some ⟨g, 0, none⟩) q cap) ∧ w'.cell? ⟨g, i * 3, none⟩ = some (.int .i64 m1) ∧ w'.cell? ⟨g, i * 3 + 1, none⟩ = some (.int .i64 m2) ∧ w'.cell? ⟨g, i * 3 + 2, none⟩ = some (.slice uo m3.length uc)) (exact ⟨HXM.out.c0, HXM.out.c1, HXM.out.c2, (HBW.out.cell (p := ⟨x, 1, none⟩) HXL.out).trans HC1.out, (HMA.out.below HBW.out HGL.out).c0, (HMA.out.below HBW.out HGL.out).c1, (HMA.out.below HBW.out HGL.out).c2⟩)
        ((go_at_call 27; refine (HSM _ (own_sb HO.out) (HRB.out.below HBW.out)).out.mono ?_; rintro e w4 ⟨rfl, hb⟩; have HXM := Lib.hid (HXM.out.below hb HXM.out.lt); have HO := Lib.hid (own_below HO.out hb); have HBW := Lib.hid (HBW.out.trans (hb.mono HBW.out.size)); clear hb))
      have HR : Hid (∃ xs, w4.ownsRow wa.heap.size 5 1 (.slice po m3.length pc) m3.length xs) := Lib.hid ⟨_, HO.out⟩
      have y2 := HXM.out.c2
      simp only at y2
      go_wp2
      go_loopw [8] (fun vk wq => ∃ k : Nat, k ≤ m3.length ∧ vk = .int .i64 k ∧ Hid (∃ xs, wq.ownsRow wa.heap.size 5 1 (.slice po m3.length pc) m3.length xs) ∧ Hid (Tn (fun k => (Value.slice po m3.length pc).ownBlock = some k) w4 wq)) (fun vk _ => m3.length - (intOf vk).toNat)
      case atStart => exact ⟨0, Nat.zero_le _, rfl, HR, Lib.hid (Tn.refl _ _)⟩
      case round =>
        obtain ⟨k, hk, rfl, HX, HT⟩ := hrel
        have HXM := Lib.hid (HXM.out.tn HT.out (fun e => by have := HIN.out _ e; omega))
        have y2 := HXM.out.c2
        simp only at y2
        by_cases hlt2 : k < m3.length
        · obtain ⟨xs, hx⟩ := HX.out
          obtain ⟨gg, gc, hg⟩ := own_shape hx (by omega)
          cases hg
          have hsz := hx.1
          have hcell : wr.cell? ⟨gg, k, none⟩ = some (xs.getD k undef) := by
            rw [hx.cellAt k (by omega), List.getD_eq_getElem?_getD, List.getElem?_eq_getElem (by omega)]; rfl
          have hfz := hx.frozenAt k
          obtain ⟨hx2, hg2⟩ := hx.stored k (.int .u8 88)
          have HX2 := Lib.hid hx2
          have HTx := Lib.hid (HT.out.grown hg2 (fun j hj _ => hj))
          generalize xs.getD k undef = old at *
          clear hx hx2 hg2 hsz HR HO HX
          go_wp2
          go_roundw
          case rel => exact ⟨k + 1, by omega, by go_num, Lib.hid ⟨_, HX2.out⟩, HTx⟩
          case measure => simp [intOf]; omega
        · obtain rfl : k = m3.length := by omega
          have HLX := Lib.hid (show b6 < wr.heap.size from HXM.out.lt)
          have HBW := Lib.hid (HBW.out.trans (HT.out.below HBW.out.size (fun k hk => (HIN.out k hk).1)))
          clear HR HO HX HT
          go_wp2_with (first
            | (go_at_call 13; refine (HAT _ (HKN.out.below HBW.out)).out.mono ?_; rintro e w6 ⟨qo, qc, rfl, ho, hb⟩; have HO := Lib.hid ho; have HB6 := Lib.hid hb; have HXM := Lib.hid (HXM.out.below hb HXM.out.lt); have y0 := HXM.out.c0; have y1 := HXM.out.c1; have y2 := HXM.out.c2; have f0 := HXM.out.f0; have f1 := HXM.out.f1; have f2 := HXM.out.f2; simp only at y0 y1 y2; clear ho hb)
            | fail)
          have hXM := HXM.out.setAll (⟨m1, m2, m3⟩, .slice qo m3.length qc)
          have hBW := below_set3 (HBW.out.trans (HB6.out.mono HBW.out.size)) HL6.out (.int .i64 m1) (.int .i64 m2) (.slice qo m3.length qc)
          have hO : ((((w6.setCell ⟨b6, 0, none⟩ (.int .i64 m1)).setCell ⟨b6, 1, none⟩ (.int .i64 m2)).setCell ⟨b6, 2, none⟩ (.slice qo m3.length qc))).ownsRow wr.heap.size 5 1 (.slice qo m3.length qc) m3.length (bys m3) := own_tn HO.out (tn_set (tn_set (tn_set (Tn.refl (· = b6) w6) _) _) _) (fun k hk e => by have := (HO.out.lt k hk).1; have := HLX.out; omega)
          obtain ⟨W7, hW7⟩ : ∃ W, ((w6.setCell ⟨b6, 0, none⟩ (.int .i64 m1)).setCell ⟨b6, 1, none⟩ (.int .i64 m2)).setCell ⟨b6, 2, none⟩ (.slice qo m3.length qc) = W := ⟨_, rfl⟩
          rw [hW7] at hXM hBW hO
          rw [hW7]
          have HXM := Lib.hid hXM
          have HBW := Lib.hid hBW
          have HO := Lib.hid hO
          clear hW7 hXM hBW hO y0 y1 y2 f0 f1 f2 HB6 HLX
          go_wp2_with fail
          have HBD := Lib.hid ((Below.refl W7.heap.size W7).drew)
          have HXM := Lib.hid (HXM.out.below HBD.out HXM.out.lt)
          have HO := Lib.hid (own_below HO.out HBD.out)
          have HBW := Lib.hid (HBW.out.trans (HBD.out.mono HBW.out.size))
          clear HBD
          go_region_held (fun w' => w'.cell? ⟨b6, 0, none⟩ = some (.int .i64 m1) ∧ w'.cell? ⟨b6, 1, none⟩ = some (.int .i64 m2) ∧ w'.cell? ⟨b6, 2, none⟩ = some (.slice qo m3.length qc) ∧ w'.cell? ⟨x, 1, none⟩ = some (.slice (some ⟨g, 0, none⟩) q cap) ∧ w'.cell? ⟨g, i * 3, none⟩ = some (.int .i64 m1) ∧ w'.cell? ⟨g, i * 3 + 1, none⟩ = some (.int .i64 m2) ∧ w'.cell? ⟨g, i * 3 + 2, none⟩ = some (.slice uo m3.length uc)) (exact ⟨HXM.out.c0, HXM.out.c1, HXM.out.c2, (HBW.out.cell (p := ⟨x, 1, none⟩) HXL.out).trans HC1.out, (HMA.out.below HBW.out HGL.out).c0, (HMA.out.below HBW.out HGL.out).c1, (HMA.out.below HBW.out HGL.out).c2⟩)
            ((go_at_call 27; refine (HSM _ (own_sb HO.out) (HRB.out.below HBW.out)).out.mono ?_; rintro e w8 ⟨rfl, hb⟩; have HXM := Lib.hid (HXM.out.below hb HXM.out.lt); have HO := Lib.hid (own_below HO.out hb); have HBW := Lib.hid (HBW.out.trans (hb.mono HBW.out.size)); clear hb))
          go_wp2
          go_roundw
          case rel => exact ⟨i + 1, by go_num, by omega, Lib.hid (HB.out.trans (HBW.out.mono HB.out.size))⟩
          case measure => simp [intOf]; omega
    · go_wp2
      go_ret
      exact ⟨rfl, ⟨C1, C2, (HLo.out.below (HB1.out.trans (HB.out.mono HB1.out.size)))⟩, (HB1.out.trans (HB.out.mono HB1.out.size)).mono HLo.out.bw⟩
end
end Go.Proofs.Ytcgbjpmmbbldpaa
