/- racelaw6.Same of two disks that stand alike. Conditions: none of its own. -/
import Derived.Test.YtefgnlijgomgpaaMl
namespace Go.Proofs.Ytefgnlijgomgpaa
open Go.RowKit
/-- A row of files whose bytes may be written over: each slice's cells lie in blocks of P. -/
def Wr (P : Nat → Prop) (w : World) (fo : Option Addr) (ls : List FV) : Prop := ∀ i (h : i < ls.length), ∃ g bo bc oc, fo = some (⟨g, 0, none⟩ : Addr) ∧ w.cell? ⟨g, i * 3 + 1, none⟩ = some (.slice bo ls[i].data.length bc) ∧ w.heap[g]? = some (.cells oc 43 (0, 0)) ∧
  ∀ j, j < ls[i].data.length → ∃ b u cur, bo = some (⟨b, 0, none⟩ : Addr) ∧ P b ∧ w.heap[b]? = some (.cells cur 5 (0, 0)) ∧ w.cell? ⟨b, j, none⟩ = some u
theorem Wr.set {P : Nat → Prop} {w : World} {fo : Option Addr} {ls : List FV} (h : Wr P w fo ls) {b o : Nat} {cur : Array Value} (hb : w.heap[b]? = some (.cells cur 5 (0, 0))) (u : Value) : Wr P (w.setCell ⟨b, o, none⟩ u) fo ls := by
  intro i hi
  obtain ⟨g, bo, bc, oc, h1, h2, h3, h4⟩ := h i hi
  have hg : g ≠ b := by
    intro e
    subst e
    rw [hb] at h3
    simp at h3
  refine ⟨g, bo, bc, oc, h1, (World.cell?_setCell_far w ⟨b, o, none⟩ ⟨g, i * 3 + 1, none⟩ u (fun e => hg e.symm)).trans h2, (Below.heap_setCell _ _ _ _ hg).trans h3, fun j hj => ?_⟩
  obtain ⟨b2, u2, cur2, e1, e2, e3, e4⟩ := h4 j hj
  by_cases hbb : b2 = b
  · subst hbb
    by_cases hjo : o = j
    · subst hjo
      exact ⟨b2, u, _, e1, e2, heap_set e3 _ rfl, by rw [World.cell?_setCell_same _ _ _ (by rw [e4])]⟩
    · exact ⟨b2, u2, _, e1, e2, heap_set e3 _ rfl, (World.cell?_setCell_other _ _ _ _ (fun e => hjo (by injection e))).trans e4⟩
  · exact ⟨b2, u2, cur2, e1, e2, (Below.heap_setCell _ _ _ _ hbb).trans e3, (World.cell?_setCell_far w ⟨b, o, none⟩ ⟨b2, j, none⟩ u (fun e => hbb e.symm)).trans e4⟩
theorem fo_wr {P : Nat → Prop} {C : Nat → Prop} {w : World} {fo : Option Addr} {n cap : Nat} {us : List (Nm × Value × Int)} {ls : List FV} (h : FO C w (.slice fo n cap) us ls) (hlo : ∀ k, C k → P k) : Wr P w fo ls := by
  intro i hi
  obtain ⟨g, cap', hv⟩ := own_shape h.own (by omega)
  injection hv with e1 e2 e3
  subst e1
  have hiu : i < us.length := by rw [h.len]; exact hi
  obtain ⟨a1, a2, a3⟩ := h.at_ i hiu hi
  obtain ⟨bo, bc, hb⟩ := own_slice a3
  obtain ⟨_, g2, _⟩ := cellsF_get us hiu
  subst e2
  have h8 := h.own.cellAt (i * 3 + 1) (by omega)
  obtain ⟨oc, hoc⟩ := own_at h.own (k := g) rfl
  refine ⟨g, bo, bc, oc, rfl, ?_, hoc, fun j hj => ?_⟩
  · rw [h8, g2, hb]
  · rw [hb] at a3
    obtain ⟨b, c2, hs⟩ := own_shape a3 (by omega)
    injection hs with f1 f2 f3
    subst f1
    obtain ⟨cur, hcur⟩ := own_at a3 (k := b) rfl
    have h6 := a3.cellAt j (by omega)
    have hj' : j < (bys ls[i].data).length := by rw [bys_length]; exact hj
    exact ⟨b, (bys ls[i].data)[j], cur, rfl, hlo b (h.rows i hiu b (by rw [hb]; rfl)), hcur, h6.trans (List.getElem?_eq_getElem hj')⟩
theorem below_eq {w w1 w2 : World} (h : Below w.heap.size w w1) (e : w1 = w2) : Below w.heap.size w w2 := e ▸ h
set_option maxRecDepth 100000 in
set_option maxHeartbeats 8000000 in
theorem same_disks {S C : Nat → Prop} {w : World} {a c : Nat} {d : Dk} (h : DK S w a d) (h2 : RK C w c d) : Calls Try.prog 15 #[ptr a, ptr c] w fun e w' => e = .returned (.bool true) ∧ Below w.heap.size w w' := by
  obtain ⟨m, ρ, δ, hd⟩ := h
  obtain ⟨v, us, hr⟩ := h2
  have HD := Lib.hid hd
  have HK : Hid (DK S w a d) := ⟨m, ρ, δ, hd⟩
  obtain ⟨vo, vc, rfl, hsr⟩ := hr.sf
  have HR := Lib.hid hr
  have HSR := Lib.hid hsr
  have HC0 := Lib.hid hr.c0
  have HC1 := Lib.hid hr.c1
  have HC3 := Lib.hid hr.c3
  have HCL : Hid (c < w.heap.size) := hr.lt c hr.ca
  have hfew : (fvs d.f).length ≤ 64 := by rw [fvs_length]; exact hd.ok.few
  have HWF := Lib.hid (fvs_wf hd.ok)
  clear hd hr hsr
  go_enter Try.func15, Try.ntmps15
  go_wp2_with (first
    | (go_at_call 23; (refine (files_own HD.out).mono ?_); rintro e w1 ⟨v1, us1, rfl, hfo, hb⟩; obtain ⟨fo, fc, rfl, hsf⟩ := hfo.sf HWF.out; have HFO := Lib.hid hfo; have HSF := Lib.hid hsf; have HB1 := Lib.hid hb; have c0 := (HB1.out.cell (p := ⟨c, 0, none⟩) HCL.out).trans HC0.out; clear hfo hsf hb)
    | (go_at_call 22; (refine (same_any HSF.out (HSR.out.below HB1.out)).mono ?_); rintro e w2 ⟨rfl, qz, hq⟩; rw [sameF_self]; have HB12 := Lib.hid (below_of_drew hq); have HB2 := Lib.hid (HB1.out.trans ((below_of_drew hq).mono HB1.out.size)); clear hq c0)
    | (go_at_call 31; (refine (list_any (HD.out.below HB2.out)).mono ?_); rintro e w3 ⟨v3, rfl, ho, hb⟩; obtain ⟨lo, lc, rfl⟩ := own_slice ho; have HL3 := Lib.hid (own_sn ho); have HB13 := Lib.hid (HB12.out.trans (hb.mono HB12.out.size)); have HB3 := Lib.hid (HB2.out.trans (hb.mono HB2.out.size)); clear ho hb)
    | (go_at_call 46; (refine (rlist_any (HR.out.below HB3.out)).mono ?_); rintro e w4 ⟨v4, rfl, ho, hb⟩; obtain ⟨ko, kc, rfl⟩ := own_slice ho; have HL4 := Lib.hid (own_sn ho); have HL34 := Lib.hid (HL3.out.below hb); have HB14 := Lib.hid (HB13.out.trans (hb.mono HB13.out.size)); have HB4 := Lib.hid (HB3.out.trans (hb.mono HB3.out.size)); clear ho hb)
    | (go_at_call 45; (refine (texts_any HL34.out HL4.out).mono ?_); rintro e w5 ⟨rfl, qz, hq⟩; have HB15 := Lib.hid (HB14.out.trans ((below_of_drew hq).mono HB14.out.size)); have HB5 := Lib.hid (HB4.out.trans ((below_of_drew hq).mono HB4.out.size)); rw [beq_self_eq_true]; clear hq))
  have HWR : Hid (Wr (fun k => w.heap.size ≤ k) w5 fo (fvs d.f)) := fo_wr (HFO.out.below HB15.out) (fun k hk => hk.1)
  clear HL3 HL4 HL34 HB13 HB14 HB15 HB12 HB1 HB2 HB3 HB4 HFO HSF
  go_loopw [6, 7] (fun i _ wr => ∃ k : Nat, k ≤ (fvs d.f).length ∧ i = .int .i64 k ∧ Hid (Wr (fun k => w.heap.size ≤ k) wr fo (fvs d.f)) ∧ Hid (Below w.heap.size w wr)) (fun i _ _ => (fvs d.f).length - (intOf i).toNat)
  case atStart => exact ⟨0, Nat.zero_le _, rfl, HWR, HB5⟩
  case round =>
    obtain ⟨k, hk, rfl, HW, HBx⟩ := hrel
    by_cases hlt : k < (fvs d.f).length
    · obtain ⟨g, _, _, _, hfo, _, _, _⟩ := HW.out k hlt
      subst hfo
      obtain ⟨L, hL⟩ : ∃ L, (fvs d.f)[k].data.length = L := ⟨_, rfl⟩
      have HL := Lib.hid hL
      have hL4 : L ≤ 4194304 := by
        rw [← hL, fvs_get hlt]
        have h1 := HD.out.ok
        have hk' : k < d.f.length := by rw [← fvs_length]; exact hlt
        have h2 : (d.f[k]'hk').2.data.length ≤ tot d.f := get_tot h1.rising (mem_get h1.rising (List.getElem_mem hk'))
        have h3 := h1.room
        unfold fv
        simp only
        omega
      obtain ⟨wo, rfl⟩ : ∃ wo, wo = wr := ⟨_, rfl⟩
      clear hL
      go_wp2
      go_loopw [7] (fun j wi => ∃ m : Nat, m ≤ L ∧ j = .int .i64 m ∧ Hid (Wr (fun k => w.heap.size ≤ k) wi (some (⟨g, 0, none⟩ : Addr)) (fvs d.f)) ∧ Hid (Below w.heap.size w wi)) (fun j _ => L - (intOf j).toNat)
      case atStart => exact ⟨0, Nat.zero_le _, rfl, HW, HBx⟩
      case round =>
        obtain ⟨m, hm, rfl, HWi, HBi⟩ := hrel
        obtain ⟨g', bo, bc, oc, hgg, h2, h3, h4⟩ := HWi.out k hlt
        injection hgg with hgg
        injection hgg with hgg
        subst hgg
        rw [HL.out] at h2 h4
        by_cases hml : m < L
        · obtain ⟨b, u, cur, rfl, hlo, hb, hc⟩ := h4 m hml
          have fz := frozen_zero (o := m) hb
          have HW2 := Lib.hid (HWi.out.set (o := m) hb (.int .u8 88))
          have HB2 := Lib.hid (HBi.out.setCell (p := ⟨b, m, none⟩) hlo (.int .u8 88))
          clear h3 h4 hlo hb
          go_wp2
          go_roundw
          case rel => exact ⟨m + 1, by omega, by go_num, HW2, HB2⟩
          case measure => simp [intOf]; omega
        · clear h3 h4
          go_wp2
          go_roundw
          case rel => exact ⟨k + 1, by omega, by go_num, HWi, HBi⟩
          case measure => simp [intOf]; omega
    · have hc0 := HC0
      clear hc0
      have c0 := (HBx.out.cell (p := ⟨c, 0, none⟩) HCL.out).trans HC0.out
      have c1 := (HBx.out.cell (p := ⟨c, 1, none⟩) HCL.out).trans HC1.out
      have c3 := (HBx.out.cell (p := ⟨c, 3, none⟩) HCL.out).trans HC3.out
      go_upto_region 11 with (fail)
      clear HW HWR HB5
      have HBd := Lib.hid (HBx.out.trans ((Below.refl _ wr).drew.mono HBx.out.size))
      clear HBx
      have HBx := HBd
      refine wp_region_held (S := (fun w' => w'.cell? ⟨c, 0, none⟩ = some (.slice vo (fvs d.f).length vc) ∧ w'.cell? ⟨c, 1, none⟩ = some (.bool d.off) ∧ w'.cell? ⟨c, 3, none⟩ = some (.int .i64 (d.done : Int)))) (by kernel_rfl) ?_
      change wpAnyH _ _ _ _ _ _ _ _ (World.drew _)
      refine wpAnyH_take (i := 0) (v := ?vf_0) rfl (by kernel_rfl) (by kernel_rfl) (by kernel_rfl) (fun _ _ _ h => h) (Or.inl ⟨by rfl, ?yf_0⟩) ⟨c0, c1, c3⟩ ?rf_0
      case yf_0 => (intro W hSw; (try dsimp only at hSw); obtain ⟨c0, c1, c3⟩ := hSw; first | (go_simp; done) | (go_simp; with_reducible rfl))
      try go_simp
      refine wpAnyH_take (i := 2) (v := ?vf_2) rfl (by kernel_rfl) (by kernel_rfl) (by kernel_rfl) (fun _ _ _ h => h) (Or.inl ⟨by rfl, ?yf_2⟩) ⟨c0, c1, c3⟩ ?rf_2
      case yf_2 => (intro W hSw; (try dsimp only at hSw); obtain ⟨c0, c1, c3⟩ := hSw; first | (go_simp; done) | (go_simp; with_reducible rfl))
      try go_simp
      refine wpAnyH_take (i := 3) (v := ?vf_3) rfl (by kernel_rfl) (by kernel_rfl) (by kernel_rfl) (fun _ _ _ h => h) (Or.inl ⟨by rfl, ?yf_3⟩) ⟨c0, c1, c3⟩ ?rf_3
      case yf_3 => (intro W hSw; (try dsimp only at hSw); obtain ⟨c0, c1, c3⟩ := hSw; first | (go_simp; done) | (go_simp; with_reducible rfl))
      try go_simp
      refine wpAnyH_take (i := 4) (v := ?vf_4) rfl (by kernel_rfl) (by kernel_rfl) (by kernel_rfl) (fun _ _ _ h => h) (Or.inl ⟨by rfl, ?yf_4⟩) ⟨c0, c1, c3⟩ ?rf_4
      case yf_4 => (intro W hSw; (try dsimp only at hSw); obtain ⟨c0, c1, c3⟩ := hSw; first | (go_simp; done) | (go_simp; with_reducible rfl))
      try go_simp
      refine wpAnyH_take (i := 5) (v := ?vf_5) rfl (by kernel_rfl) (by kernel_rfl) (by kernel_rfl) (fun _ _ _ h => h) (Or.inl ⟨by rfl, ?yf_5⟩) ⟨c0, c1, c3⟩ ?rf_5
      case yf_5 => (intro W hSw; (try dsimp only at hSw); obtain ⟨c0, c1, c3⟩ := hSw; first | (go_simp; done) | (go_simp; with_reducible rfl))
      try go_simp
      refine wpAnyH_ready (rs := [1]) (by kernel_rfl) (by simp) ?_
      refine AllReadyH.cons rfl (fun K hK => ?_) AllReadyH.nil
      go_simp
      (go_wp2_with (first | (go_at_call 23; (refine (dk_files (HK.out.below HBx.out)).mono ?_); rintro e w5 ⟨go, gc, rfl, hs, hb⟩; have HSF5 := Lib.hid hs; have HB5 := Lib.hid (HBx.out.trans (hb.mono HBx.out.size)); have p0 := (HB5.out.cell (p := ⟨c, 0, none⟩) HCL.out).trans HC0.out; have p1 := (HB5.out.cell (p := ⟨c, 1, none⟩) HCL.out).trans HC1.out; have p3 := (HB5.out.cell (p := ⟨c, 3, none⟩) HCL.out).trans HC3.out; clear hs hb)))
      refine hK.out _ _ ⟨p0, p1, p3⟩ (fun _ => ?_)
      clear hK K
      try go_simp
      refine wpAnyH_ready (rs := [6]) (by kernel_rfl) (by simp) ?_
      refine AllReadyH.cons rfl (fun K hK => ?_) AllReadyH.nil
      go_simp
      (go_wp2_with (first | (go_at_call 22; (refine (same_any HSF5.out (HSR.out.below HB5.out)).mono ?_); rintro e w6 ⟨rfl, qz, hq⟩; rw [sameF_self]; have HB6 := Lib.hid (HB5.out.trans ((below_of_drew hq).mono HB5.out.size)); have q0 := (HB6.out.cell (p := ⟨c, 0, none⟩) HCL.out).trans HC0.out; have q1 := (HB6.out.cell (p := ⟨c, 1, none⟩) HCL.out).trans HC1.out; have q3 := (HB6.out.cell (p := ⟨c, 3, none⟩) HCL.out).trans HC3.out; clear hq)))
      refine hK.out _ _ ⟨q0, q1, q3⟩ (fun _ => ?_)
      clear hK K
      try go_simp
      refine wpAnyH_take (i := 7) (v := ?vf_7) rfl (by kernel_rfl) (by kernel_rfl) (by kernel_rfl) (fun _ _ _ h => h) (Or.inl ⟨by rfl, ?yf_7⟩) ⟨q0, q1, q3⟩ ?rf_7
      case yf_7 => (intro W hSw; (try dsimp only at hSw); obtain ⟨c0, c1, c3⟩ := hSw; first | (go_simp; done) | (go_simp; with_reducible rfl))
      try go_simp
      refine wpAnyH_take (i := 8) (v := ?vf_8) rfl (by kernel_rfl) (by kernel_rfl) (by kernel_rfl) (fun _ _ _ h => h) (Or.inl ⟨by rfl, ?yf_8⟩) ⟨q0, q1, q3⟩ ?rf_8
      case yf_8 => (intro W hSw; (try dsimp only at hSw); obtain ⟨c0, c1, c3⟩ := hSw; first | (go_simp; done) | (go_simp; with_reducible rfl))
      try go_simp
      refine wpAnyH_take (i := 10) (v := ?vf_10) rfl (by kernel_rfl) (by kernel_rfl) (by kernel_rfl) (fun _ _ _ h => h) (Or.inl ⟨by rfl, ?yf_10⟩) ⟨q0, q1, q3⟩ ?rf_10
      case yf_10 => (intro W hSw; (try dsimp only at hSw); obtain ⟨c0, c1, c3⟩ := hSw; first | (go_simp; done) | (go_simp; with_reducible rfl))
      try go_simp
      refine wpAnyH_ready (rs := [9]) (by kernel_rfl) (by simp) ?_
      refine AllReadyH.cons rfl (fun K hK => ?_) AllReadyH.nil
      go_simp
      (go_wp2_with (first | (go_at_call 30; (refine (dk_size (HK.out.below HB6.out)).mono ?_); rintro e w7 ⟨rfl, hb⟩; have HB7 := Lib.hid (HB6.out.trans (hb.mono HB6.out.size)); have r0 := (HB7.out.cell (p := ⟨c, 0, none⟩) HCL.out).trans HC0.out; have r1 := (HB7.out.cell (p := ⟨c, 1, none⟩) HCL.out).trans HC1.out; have r3 := (HB7.out.cell (p := ⟨c, 3, none⟩) HCL.out).trans HC3.out; clear hb)))
      refine hK.out _ _ ⟨r0, r1, r3⟩ (fun _ => ?_)
      clear hK K
      try go_simp
      refine wpAnyH_ready (rs := [11]) (by kernel_rfl) (by simp) ?_
      refine AllReadyH.cons rfl (fun K hK => ?_) AllReadyH.nil
      go_simp
      (go_wp2_with (first | (go_at_call 47; (refine (rsize_any (HR.out.below HB7.out)).mono ?_); rintro e w8 ⟨rfl, hww⟩; have HB8 := Lib.hid (below_eq HB7.out hww); have s0 := (HB8.out.cell (p := ⟨c, 0, none⟩) HCL.out).trans HC0.out; have s1 := (HB8.out.cell (p := ⟨c, 1, none⟩) HCL.out).trans HC1.out; have s3 := (HB8.out.cell (p := ⟨c, 3, none⟩) HCL.out).trans HC3.out; clear hww)))
      refine hK.out _ _ ⟨s0, s1, s3⟩ (fun _ => ?_)
      clear hK K
      try go_simp
      refine wpAnyH_take (i := 12) (v := ?vf_12) rfl (by kernel_rfl) (by kernel_rfl) (by kernel_rfl) (fun _ _ _ h => h) (Or.inl ⟨by rfl, ?yf_12⟩) ⟨s0, s1, s3⟩ ?rf_12
      case yf_12 => (intro W hSw; (try dsimp only at hSw); obtain ⟨c0, c1, c3⟩ := hSw; first | (go_simp; done) | (go_simp; with_reducible rfl))
      try go_simp
      refine wpAnyH_take (i := 13) (v := ?vf_13) rfl (by kernel_rfl) (by kernel_rfl) (by kernel_rfl) (fun _ _ _ h => h) (Or.inl ⟨by rfl, ?yf_13⟩) ⟨s0, s1, s3⟩ ?rf_13
      case yf_13 => (intro W hSw; (try dsimp only at hSw); obtain ⟨c0, c1, c3⟩ := hSw; first | (go_simp; done) | (go_simp; with_reducible rfl))
      try go_simp
      refine wpAnyH_take (i := 14) (v := ?vf_14) rfl (by kernel_rfl) (by kernel_rfl) (by kernel_rfl) (fun _ _ _ h => h) (Or.inl ⟨by rfl, ?yf_14⟩) ⟨s0, s1, s3⟩ ?rf_14
      case yf_14 => (intro W hSw; (try dsimp only at hSw); obtain ⟨c0, c1, c3⟩ := hSw; first | (go_simp; done) | (go_simp; with_reducible rfl))
      try go_simp
      refine wpAnyH_take (i := 15) (v := ?vf_15) rfl (by kernel_rfl) (by kernel_rfl) (by kernel_rfl) (fun _ _ _ h => h) (Or.inl ⟨by rfl, ?yf_15⟩) ⟨s0, s1, s3⟩ ?rf_15
      case yf_15 => (intro W hSw; (try dsimp only at hSw); obtain ⟨c0, c1, c3⟩ := hSw; first | (go_simp; done) | (go_simp; with_reducible rfl))
      try go_simp
      refine wpAnyH_take (i := 17) (v := ?vf_17) rfl (by kernel_rfl) (by kernel_rfl) (by kernel_rfl) (fun _ _ _ h => h) (Or.inl ⟨by rfl, ?yf_17⟩) ⟨s0, s1, s3⟩ ?rf_17
      case yf_17 => (intro W hSw; (try dsimp only at hSw); obtain ⟨c0, c1, c3⟩ := hSw; first | (go_simp; done) | (go_simp; with_reducible rfl))
      try go_simp
      refine wpAnyH_take (i := 18) (v := ?vf_18) rfl (by kernel_rfl) (by kernel_rfl) (by kernel_rfl) (fun _ _ _ h => h) (Or.inl ⟨by rfl, ?yf_18⟩) ⟨s0, s1, s3⟩ ?rf_18
      case yf_18 => (intro W hSw; (try dsimp only at hSw); obtain ⟨c0, c1, c3⟩ := hSw; first | (go_simp; done) | (go_simp; with_reducible rfl))
      try go_simp
      refine wpAnyH_take (i := 19) (v := ?vf_19) rfl (by kernel_rfl) (by kernel_rfl) (by kernel_rfl) (fun _ _ _ h => h) (Or.inl ⟨by rfl, ?yf_19⟩) ⟨s0, s1, s3⟩ ?rf_19
      case yf_19 => (intro W hSw; (try dsimp only at hSw); obtain ⟨c0, c1, c3⟩ := hSw; first | (go_simp; done) | (go_simp; with_reducible rfl))
      try go_simp
      refine wpAnyH_take (i := 20) (v := ?vf_20) rfl (by kernel_rfl) (by kernel_rfl) (by kernel_rfl) (fun _ _ _ h => h) (Or.inl ⟨by rfl, ?yf_20⟩) ⟨s0, s1, s3⟩ ?rf_20
      case yf_20 => (intro W hSw; (try dsimp only at hSw); obtain ⟨c0, c1, c3⟩ := hSw; first | (go_simp; done) | (go_simp; with_reducible rfl))
      try go_simp
      refine wpAnyH_ready (rs := [16]) (by kernel_rfl) (by simp) ?_
      refine AllReadyH.cons rfl (fun K hK => ?_) AllReadyH.nil
      go_simp
      (go_wp2_with (first | (go_at_call 26; (refine (dk_writes (HK.out.below HB8.out)).mono ?_); rintro e w9 ⟨rfl, hww⟩; have HB9 := Lib.hid (below_eq HB8.out hww); have t0 := (HB9.out.cell (p := ⟨c, 0, none⟩) HCL.out).trans HC0.out; have t1 := (HB9.out.cell (p := ⟨c, 1, none⟩) HCL.out).trans HC1.out; have t3 := (HB9.out.cell (p := ⟨c, 3, none⟩) HCL.out).trans HC3.out; clear hww)))
      refine hK.out _ _ ⟨t0, t1, t3⟩ (fun _ => ?_)
      clear hK K
      try go_simp
      refine wpAnyH_take (i := 21) (v := ?vf_21) rfl (by kernel_rfl) (by kernel_rfl) (by kernel_rfl) (fun _ _ _ h => h) (Or.inl ⟨by rfl, ?yf_21⟩) ⟨t0, t1, t3⟩ ?rf_21
      case yf_21 => (intro W hSw; (try dsimp only at hSw); obtain ⟨c0, c1, c3⟩ := hSw; first | (go_simp; done) | (go_simp; with_reducible rfl))
      try go_simp
      refine wpAnyH_take (i := 22) (v := ?vf_22) rfl (by kernel_rfl) (by kernel_rfl) (by kernel_rfl) (fun _ _ _ h => h) (Or.inl ⟨by rfl, ?yf_22⟩) ⟨t0, t1, t3⟩ ?rf_22
      case yf_22 => (intro W hSw; (try dsimp only at hSw); obtain ⟨c0, c1, c3⟩ := hSw; first | (go_simp; done) | (go_simp; with_reducible rfl))
      try go_simp
      refine wpAnyH_take (i := 23) (v := ?vf_23) rfl (by kernel_rfl) (by kernel_rfl) (by kernel_rfl) (fun _ _ _ h => h) (Or.inl ⟨by rfl, ?yf_23⟩) ⟨t0, t1, t3⟩ ?rf_23
      case yf_23 => (intro W hSw; (try dsimp only at hSw); obtain ⟨c0, c1, c3⟩ := hSw; first | (go_simp; done) | (go_simp; with_reducible rfl))
      try go_simp
      refine wpAnyH_take (i := 24) (v := ?vf_24) rfl (by kernel_rfl) (by kernel_rfl) (by kernel_rfl) (fun _ _ _ h => h) (Or.inl ⟨by rfl, ?yf_24⟩) ⟨t0, t1, t3⟩ ?rf_24
      case yf_24 => (intro W hSw; (try dsimp only at hSw); obtain ⟨c0, c1, c3⟩ := hSw; first | (go_simp; done) | (go_simp; with_reducible rfl))
      try go_simp
      refine wpAnyH_take (i := 26) (v := ?vf_26) rfl (by kernel_rfl) (by kernel_rfl) (by kernel_rfl) (fun _ _ _ h => h) (Or.inl ⟨by rfl, ?yf_26⟩) ⟨t0, t1, t3⟩ ?rf_26
      case yf_26 => (intro W hSw; (try dsimp only at hSw); obtain ⟨c0, c1, c3⟩ := hSw; first | (go_simp; done) | (go_simp; with_reducible rfl))
      try go_simp
      refine wpAnyH_take (i := 27) (v := ?vf_27) rfl (by kernel_rfl) (by kernel_rfl) (by kernel_rfl) (fun _ _ _ h => h) (Or.inl ⟨by rfl, ?yf_27⟩) ⟨t0, t1, t3⟩ ?rf_27
      case yf_27 => (intro W hSw; (try dsimp only at hSw); obtain ⟨c0, c1, c3⟩ := hSw; first | (go_simp; done) | (go_simp; with_reducible rfl))
      try go_simp
      refine wpAnyH_take (i := 28) (v := ?vf_28) rfl (by kernel_rfl) (by kernel_rfl) (by kernel_rfl) (fun _ _ _ h => h) (Or.inl ⟨by rfl, ?yf_28⟩) ⟨t0, t1, t3⟩ ?rf_28
      case yf_28 => (intro W hSw; (try dsimp only at hSw); obtain ⟨c0, c1, c3⟩ := hSw; first | (go_simp; done) | (go_simp; with_reducible rfl))
      try go_simp
      refine wpAnyH_take (i := 29) (v := ?vf_29) rfl (by kernel_rfl) (by kernel_rfl) (by kernel_rfl) (fun _ _ _ h => h) (Or.inl ⟨by rfl, ?yf_29⟩) ⟨t0, t1, t3⟩ ?rf_29
      case yf_29 => (intro W hSw; (try dsimp only at hSw); obtain ⟨c0, c1, c3⟩ := hSw; first | (go_simp; done) | (go_simp; with_reducible rfl))
      try go_simp
      refine wpAnyH_ready (rs := [25]) (by kernel_rfl) (by simp) ?_
      refine AllReadyH.cons rfl (fun K hK => ?_) AllReadyH.nil
      go_simp
      (go_wp2_with (first | (go_at_call 25; (refine (dk_down (HK.out.below HB9.out)).mono ?_); rintro e w10 ⟨rfl, hww⟩; have HB10 := Lib.hid (below_eq HB9.out hww); have u0 := (HB10.out.cell (p := ⟨c, 0, none⟩) HCL.out).trans HC0.out; have u1 := (HB10.out.cell (p := ⟨c, 1, none⟩) HCL.out).trans HC1.out; have u3 := (HB10.out.cell (p := ⟨c, 3, none⟩) HCL.out).trans HC3.out; clear hww)))
      refine hK.out _ _ ⟨u0, u1, u3⟩ (fun _ => ?_)
      clear hK K
      try go_simp
      refine wpAnyH_take (i := 30) (v := ?vf_30) rfl (by kernel_rfl) (by kernel_rfl) (by kernel_rfl) (fun _ _ _ h => h) (Or.inl ⟨by rfl, ?yf_30⟩) ⟨u0, u1, u3⟩ ?rf_30
      case yf_30 => (intro W hSw; (try dsimp only at hSw); obtain ⟨c0, c1, c3⟩ := hSw; first | (go_simp; done) | (go_simp; with_reducible rfl))
      try go_simp
      refine wpAnyH_take (i := 31) (v := ?vf_31) rfl (by kernel_rfl) (by kernel_rfl) (by kernel_rfl) (fun _ _ _ h => h) (Or.inl ⟨by rfl, ?yf_31⟩) ⟨u0, u1, u3⟩ ?rf_31
      case yf_31 => (intro W hSw; (try dsimp only at hSw); obtain ⟨c0, c1, c3⟩ := hSw; first | (go_simp; done) | (go_simp; with_reducible rfl))
      try go_simp
      refine wpAnyH_take (i := 32) (v := ?vf_32) rfl (by kernel_rfl) (by kernel_rfl) (by kernel_rfl) (fun _ _ _ h => h) (Or.inl ⟨by rfl, ?yf_32⟩) ⟨u0, u1, u3⟩ ?rf_32
      case yf_32 => (intro W hSw; (try dsimp only at hSw); obtain ⟨c0, c1, c3⟩ := hSw; first | (go_simp; done) | (go_simp; with_reducible rfl))
      try go_simp
      refine wpAnyH_done (by kernel_rfl) ?_ _
      try go_wp2
      go_ret
      exact ⟨rfl, HB10.out⟩
end Go.Proofs.Ytefgnlijgomgpaa
