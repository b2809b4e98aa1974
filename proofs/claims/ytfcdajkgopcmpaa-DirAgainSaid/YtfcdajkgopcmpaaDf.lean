/- The document's directory (raceref14): Learn. Conditions: no more than a million ranges; numbers of 64 bits. -/
import Derived.Test.YtfcdajkgopcmpaaDe
namespace Go.Proofs.Ytfcdajkgopcmpaa
open Go.ChangeShapes Go.WideShapes Go.ChangeAt Go.RowKit Go.Deep
theorem learn_snoc : ∀ (l L : List RV) (r : RV), learnL L (l ++ [r]) = ((hear (learnL L l).1 r).1, (learnL L l).2 + (hear (learnL L l).1 r).2)
  | [], L, r => by
    show ((hear L r).1, (hear L r).2 + 0) = ((hear L r).1, 0 + (hear L r).2)
    rw [Nat.zero_add, Nat.add_zero]
  | q :: l, L, r => by
    show ((learnL (hear L q).1 (l ++ [r])).1, (hear L q).2 + (learnL (hear L q).1 (l ++ [r])).2) = _
    rw [learn_snoc l]
    show _ = ((hear (learnL (hear L q).1 l).1 r).1, ((hear L q).2 + (learnL (hear L q).1 l).2) + (hear (learnL (hear L q).1 l).1 r).2)
    rw [Nat.add_assoc]
theorem learn_take {l L : List RV} {k : Nat} (h : k < l.length) : learnL L (l.take (k + 1)) = ((hear (learnL L (l.take k)).1 l[k]).1, (learnL L (l.take k)).2 + (hear (learnL L (l.take k)).1 l[k]).2) := by
  rw [List.take_succ_eq_append_getElem h, learn_snoc]
theorem learn_len : ∀ (l L : List RV), (learnL L l).1.length ≤ L.length + l.length
  | [], _ => Nat.le_refl _
  | r :: l, L => by
    have h1 := hear_len L r
    have h2 := learn_len l (hear L r).1
    show (learnL (hear L r).1 l).1.length ≤ L.length + (l.length + 1)
    omega
theorem getL_at {L : List RV} (h : Rise L) {p : Nat} (hp : p < L.length) {id : Int} (he : L[p].i = id) : getL L id = some L[p] := by
  rw [← he]; exact getL_mem h (List.getElem_mem hp)
theorem getL_not {L : List RV} {id : Int} (h : ∀ q ∈ L, q.i ≠ id) : getL L id = none := by
  unfold getL
  rw [List.find?_eq_none]
  intro q hq
  simpa using h q hq
theorem setL_same : ∀ {L : List RV} {r : RV}, (∀ q ∈ L, q.i ≠ r.i) → setL L r = L
  | [], _, _ => rfl
  | b :: L, r, h => by rw [setL_cons, if_neg (h b List.mem_cons_self), setL_same fun q hq => h q (List.mem_cons_of_mem _ hq)]
theorem setL_at : ∀ {L : List RV} (_ : Rise L) {p : Nat} (hp : p < L.length) {r : RV} (_ : L[p].i = r.i), setL L r = L.set p r
  | [], _, p, hp, _, _ => absurd hp (Nat.not_lt_zero _)
  | a :: L, h, 0, _, r, he => by
    have ha := List.pairwise_cons.1 h
    have he' : a.i = r.i := he
    rw [setL_cons, if_pos he', List.set_cons_zero]
    congr 1
    exact setL_same fun q hq e => by have := ha.1 q hq; omega
  | a :: L, h, p + 1, hp, r, he => by
    have ha := List.pairwise_cons.1 h
    have hp' : p < L.length := by simpa using hp
    have he' : L[p].i = r.i := he
    have := ha.1 L[p] (List.getElem_mem hp')
    rw [setL_cons, if_neg (by omega), List.set_cons_succ, setL_at ha.2 hp' he']
/-- Where the number stands among the first ones. -/
def AtIx (L : List RV) (id : Int) (j : Nat) (v : Int) : Prop := (v = -1 ∧ ∀ q ∈ L.take j, q.i ≠ id) ∨ ∃ p : Nat, v = p ∧ p < j ∧ ∃ h : p < L.length, L[p].i = id
theorem atix_zero (L : List RV) (id : Int) : AtIx L id 0 (-1) := .inl ⟨rfl, fun q hq => by simp at hq⟩
theorem atix_yes {L : List RV} {id : Int} {j : Nat} (hj : j < L.length) (he : L[j].i = id) : AtIx L id (j + 1) j := .inr ⟨j, rfl, Nat.lt_succ_self _, hj, he⟩
theorem atix_no {L : List RV} {id v : Int} {j : Nat} (h : AtIx L id j v) (hj : j < L.length) (he : L[j].i ≠ id) : AtIx L id (j + 1) v := by
  rcases h with ⟨h1, h2⟩ | ⟨p, h1, h2, h3⟩
  · refine .inl ⟨h1, fun q hq => ?_⟩
    rw [List.take_succ_eq_append_getElem hj] at hq
    rcases List.mem_append.1 hq with hq | hq
    · exact h2 q hq
    · obtain rfl := List.mem_singleton.1 hq; exact he
  · exact .inr ⟨p, h1, Nat.lt_succ_of_lt h2, h3⟩
section
variable {C S : Nat → Prop} {P : Nat → Prop} {w w' : World} {a g : Nat} {L L' l : List RV} {v : Value}
/-- Its row's cells have been turned in place. -/
theorem RDt.turned (h : RDt C w a L v) (hv : v.ownBlock = some g) (ht : Tn (· = g) w w') (ho : w'.ownsRow 0 37 4 v L'.length (cellsR L')) : RDt C w' a L' v :=
  ⟨ht.at_ h.box (fun e => own_ne h.own h.box (by decide) g hv e.symm), ho, h.row, h.ca, fun k hk => Nat.lt_of_lt_of_le (h.lt k hk) ht.size⟩
theorem tn_setR {w w' : World} {g : Nat} (h : Tn (· = g) w w') (o : Nat) (r : RV) : Tn (· = g) w (setR w' g o r) := tn_set (tn_set (tn_set (tn_set h _) _) _) _
set_option maxRecDepth 100000 in
set_option maxHeartbeats 4000000 in
theorem rlearn14_any (h : RD C w a L) (hr : Rise L) (hv : HasR P w v l) (hPC : ∀ k, P k → ¬ C k) (hw : ∀ r ∈ l, r.wf) (hl : L.length + l.length ≤ 1000000) :
    Calls Try.prog 20 #[ptr a, v] w fun e w' => e = .returned (.int .i64 ((learnL L l).2 : Nat)) ∧ ∃ C', RD C' w' a (learnL L l).1 ∧ Way C w C' w' := by
  have hst := run_stf
  obtain ⟨ao, cap, rfl, hcp, hcm⟩ := hasR_len hv
  have HV := Lib.hid hv
  have HR := Lib.hid h
  have HRI := Lib.hid hr
  have HPC := Lib.hid hPC
  have HW := Lib.hid hw
  obtain ⟨m, hm⟩ : ∃ m, l.length = m := ⟨_, rfl⟩
  have HM := Lib.hid hm
  rw [hm] at HV hcp hl ⊢
  clear hv h hr hPC hw hm
  go_enter Try.func20, Try.ntmps20
  go_wp2
  go_loopw [5, 6] (fun vn vi wr => ∃ k : Nat, vi = .int .i64 k ∧ k ≤ m ∧ vn = .int .i64 ((learnL L (l.take k)).2 : Nat) ∧ Hid (∃ C', RD C' wr a (learnL L (l.take k)).1 ∧ Way C w C' wr)) (fun _ vi _ => m - (RowKit.intOf vi).toNat)
  case atStart => exact ⟨0, rfl, Nat.zero_le _, rfl, Lib.hid ⟨C, HR.out, Way.refl _ _⟩⟩
  case round =>
    obtain ⟨k, rfl, hk, rfl, HD⟩ := hrel
    obtain ⟨C1, hd, hwy⟩ := HD.out
    by_cases hlt : k < m
    · have hkl : k < l.length := by rw [HM.out]; exact hlt
      have hlt2 : (k : Int) < (m : Int) := by omega
      obtain ⟨b, o, rfl, hbl, hPb, hra⟩ := hasR_at HV.out hkl
      have hwf := HW.out _ (List.getElem_mem hkl)
      have HRA := Lib.hid hra
      have HT := Lib.hid (learn_take (L := L) hkl)
      have HLE : Hid ((learnL L (l.take k)).2 ≤ m) := Lib.hid (by have := learn_le (l.take k) L; rw [List.length_take] at this; omega)
      have hlen := learn_len (l.take k) L
      rw [List.length_take] at hlen
      have HLN : Hid ((learnL L (l.take k)).1.length ≤ 1000000) := Lib.hid (by omega)
      have HRS := Lib.hid (learn_rise (l.take k) HRI.out)
      have HMY := fun w => Lib.hid (rmay_any l[k] hwf.2.2.1 hwf.2.2.2 w)
      clear hra hlen hwf
      generalize l[k] = r at *
      clear hkl HD
      generalize hML : learnL L (l.take k) = ML at *
      obtain ⟨M, N⟩ := ML
      simp only at hd HT HLE HLN HRS
      clear hML
      have HDD := Lib.hid hd
      have HWY := Lib.hid hwy
      have hbC : ¬ C b := HPC.out b hPb
      have HBW : Hid (b < w.heap.size) := Lib.hid hbl
      have HCF : ∀ wz C2, Way C w C2 wz → Hid (RAt wz b (o + k * 4) r) := fun wz C2 hz => Lib.hid ⟨hz.tn.cell HRA.out.c0 hbC, hz.tn.cell HRA.out.c1 hbC, hz.tn.cell HRA.out.c2 hbC, hz.tn.cell HRA.out.c3 hbC⟩
      have hq := (HCF wr C1 HWY.out).out
      have q0 := hq.c0; have q1 := hq.c1; have q2 := hq.c2; have q3 := hq.c3
      clear hq hd hwy hPb hbl
      obtain ⟨r1, r2, r3, r4⟩ := r
      simp only at q0 q1 q2 q3
      cases hmy : mayV ⟨r1, r2, r3, r4⟩ with
      | false =>
        simp only [hmy] at HMY
        have HH : Hid (hear M ⟨r1, r2, r3, r4⟩ = (M, 0)) := Lib.hid (by unfold hear; rw [hmy]; rfl)
        clear hmy
        have HT2 : Hid (learnL L (l.take (k + 1)) = (M, N)) := Lib.hid (by rw [HT.out, HH.out]; rfl)
        clear HT
        go_wp2_with (go_at_call 41; refine (HMY _).out.mono ?_; rintro e w3 ⟨rfl, hb⟩; have HD3 := Lib.hid (HDD.out.below hb); have HW3 := Lib.hid (HWY.out.trans (Way.of_below hb)); clear hb)
        go_roundw
        case rel => exact ⟨k + 1, by go_num, by omega, by rw [HT2.out], by rw [HT2.out]; exact Lib.hid ⟨C1, HD3.out, HW3.out⟩⟩
        case measure => simp [RowKit.intOf]; omega
      | true =>
        simp only [hmy] at HMY
        go_wp2_with (go_at_call 41; refine (HMY _).out.mono ?_; rintro e w3 ⟨rfl, hb⟩; have HD3 := Lib.hid (HDD.out.below hb); have HW3 := Lib.hid (HWY.out.trans (Way.of_below hb)); clear hb)
        obtain ⟨dv, hdt⟩ := HD3.out
        obtain ⟨ao2, cap2, e⟩ := own_slice hdt.own
        subst e
        have HDT := Lib.hid hdt
        obtain ⟨n2, hn2⟩ : ∃ n2, M.length = n2 := ⟨_, rfl⟩
        have HN2 := Lib.hid hn2
        have hn6 : n2 ≤ 1000000 := by rw [← hn2]; exact HLN.out
        have HC0 : ∀ wz : World, Below w3.heap.size w3 wz → Hid (wz.cell? ⟨a, 0, none⟩ = some (.slice ao2 n2 cap2)) := fun wz hb => Lib.hid (by rw [← hn2]; exact (hb.cell (p := ⟨a, 0, none⟩) HDT.out.alt).trans HDT.out.c0)
        have HQ : ∀ wz : World, Below w3.heap.size w3 wz → Hid (RAt wz b (o + k * 4) ⟨r1, r2, r3, r4⟩) := fun wz hb => HCF wz C1 (HW3.out.trans (Way.of_below hb))
        clear hdt hn2 q0 q1 q2 q3 HDD HWY
        go_loopw [7, 8] (fun va vj wz => ∃ (j : Nat) (x : Int), vj = .int .i64 j ∧ j ≤ n2 ∧ va = .int .i64 x ∧ Hid (AtIx M r1 j x) ∧ Hid (Below w3.heap.size w3 wz)) (fun _ vj _ => n2 - (RowKit.intOf vj).toNat)
        case atStart => exact ⟨0, -1, rfl, Nat.zero_le _, rfl, Lib.hid (atix_zero _ _), Lib.hid (Below.refl _ _)⟩
        case round =>
          obtain ⟨j, x, rfl, hj, rfl, HX, HBZ⟩ := hrel
          by_cases hjn : j < n2
          · have hjl : j < M.length := by rw [HN2.out]; exact hjn
            have hjn2 : (j : Int) < (n2 : Int) := by omega
            obtain ⟨g, rfl, hg, hga⟩ := own_rat HDT.out.own hjl
            have c0 := (HC0 wr HBZ.out).out
            have d0 := (HBZ.out.cell (p := ⟨g, j * 4, none⟩) hg).trans hga.c0
            have q0 := (HQ wr HBZ.out).out.c0
            by_cases he : M[j].i = r1
            · have HX2 := Lib.hid (atix_yes hjl he)
              clear hga hg HX
              rw [he] at d0
              clear he hjl
              go_wp2
              go_quiet (fail)
              have hbq := below_drewN wr nq
              have HBZ := Lib.hid (HBZ.out.trans (hbq.mono HBZ.out.size))
              clear hbq
              generalize wr.drewN nq = wz at *
              go_wp2
              go_roundw
              case rel => exact ⟨j + 1, j, by go_num, by omega, rfl, HX2, HBZ⟩
              case measure => simp [RowKit.intOf]; omega
            · have HX2 := Lib.hid (atix_no HX.out hjl he)
              have hne : (M[j].i == r1) = false := by simpa using he
              clear hga hg HX he
              generalize M[j].i = y at *
              clear hjl
              go_wp2
              go_quiet (fail)
              have hbq := below_drewN wr nq
              have HBZ := Lib.hid (HBZ.out.trans (hbq.mono HBZ.out.size))
              clear hbq
              generalize wr.drewN nq = wz at *
              go_wp2
              go_roundw
              case rel => exact ⟨j + 1, x, by go_num, by omega, rfl, HX2, HBZ⟩
              case measure => simp [RowKit.intOf]; omega
          · obtain rfl : j = n2 := by omega
            have HRDZ := Lib.hid (show RD C1 wr a M from ⟨_, HDT.out.below HBZ.out⟩)
            have HWZ := Lib.hid (HW3.out.trans (Way.of_below (C := C1) HBZ.out))
            have hq := (HQ wr HBZ.out).out
            have q0 := hq.c0; have q1 := hq.c1; have q2 := hq.c2; have q3 := hq.c3
            simp only at q0 q1 q2 q3
            have c0 := (HC0 wr HBZ.out).out
            clear hq
            have HXX := HX
            rcases HX.out with ⟨rfl, hno⟩ | ⟨p, rfl, hpj, hpl, hpe⟩
            · have HH : Hid (hear M ⟨r1, r2, r3, r4⟩ = (putL M ⟨r1, r2, r3, r4⟩, 1)) := Lib.hid (by
                rw [List.take_of_length_le (by rw [HN2.out]; exact Nat.le_refl _)] at hno
                unfold hear
                rw [if_pos hmy, getL_not hno])
              have HPT := Lib.hid (rput_any HRDZ.out ⟨r1, r2, r3, r4⟩ HLN.out)
              have HT2 : Hid (learnL L (l.take (k + 1)) = (putL M ⟨r1, r2, r3, r4⟩, N + 1)) := Lib.hid (by rw [HT.out, HH.out])
              clear hno HT HH hmy HX
              have hNm := HLE.out
              go_wp2_with (go_at_call 29; refine HPT.out.mono ?_; rintro e w5 ⟨rfl, C2, g1, g2⟩; have HD5 := Lib.hid g1; have HW5 := Lib.hid (HWZ.out.trans g2); clear g1 g2)
              go_roundw
              case rel => exact ⟨k + 1, by go_num, by omega, by rw [HT2.out]; go_num, by rw [HT2.out]; exact Lib.hid ⟨C2, HD5.out, HW5.out⟩⟩
              case measure => simp [RowKit.intOf]; omega
            · obtain ⟨g, rfl, hg, hga⟩ := own_rat HDT.out.own hpl
              have HG0 := Lib.hid (getL_at HRS.out hpl hpe)
              have hb0 : ¬ ((p : Int) < 0) := by omega
              have hb1 : (p : Int) < (j : Int) := by omega
              have hgw := (HDT.out.below HBZ.out).own
              have d1 := (HBZ.out.cell (p := ⟨g, p * 4 + 1, none⟩) hg).trans hga.c1
              by_cases hee : M[p].e < r2
              · have HH : Hid (hear M ⟨r1, r2, r3, r4⟩ = (M.set p ⟨r1, r2, r3, r4⟩, 1)) := Lib.hid (by
                  unfold hear
                  rw [if_pos hmy, HG0.out]
                  simp only [if_pos hee]
                  rw [setL_at HRS.out hpl hpe])
                have HT2 : Hid (learnL L (l.take (k + 1)) = (M.set p ⟨r1, r2, r3, r4⟩, N + 1)) := Lib.hid (by rw [HT.out, HH.out])
                have HGW := Lib.hid hg
                have HCG := Lib.hid (HDT.out.row g rfl)
                have HPL := Lib.hid hpl
                clear HT HH hmy HX HG0 hgw hga
                generalize M[p].e = y at *
                clear hpl hpe hg
                go_wp2
                go_quiet (fail)
                have hbq := below_drewN wr nq
                have HBZ := Lib.hid (HBZ.out.trans (hbq.mono HBZ.out.size))
                have HWZ := Lib.hid (HWZ.out.trans (Way.of_below hbq))
                clear hbq c0 d1 q0 q1 q2 q3
                generalize wr.drewN nq = wz at *
                have hq := (HQ wz HBZ.out).out
                have q0 := hq.c0; have q1 := hq.c1; have q2 := hq.c2; have q3 := hq.c3
                simp only at q0 q1 q2 q3
                have c0 := (HC0 wz HBZ.out).out
                have hrw := HDT.out.below HBZ.out
                have hoc := own_oc hrw.own HPL.out
                have e0 := hoc.c0; have e1 := hoc.c1; have e2 := hoc.c2; have e3 := hoc.c3
                have f0 := hoc.f0; have f1 := hoc.f1; have f2 := hoc.f2; have f3 := hoc.f3
                have hset := (own_set hrw.own HPL.out ⟨r1, r2, r3, r4⟩).1
                have hD9 := hrw.turned (L' := M.set p ⟨r1, r2, r3, r4⟩) rfl (tn_setR (Tn.refl (· = g) wz) (p * 4) ⟨r1, r2, r3, r4⟩) (by rw [List.length_set]; exact hset)
                have HD9 := Lib.hid (show RD C1 (setR wz g (p * 4) ⟨r1, r2, r3, r4⟩) a (M.set p ⟨r1, r2, r3, r4⟩) from ⟨_, hD9⟩)
                have HW9 := Lib.hid (show Way C w C1 (setR wz g (p * 4) ⟨r1, r2, r3, r4⟩) from ⟨HWZ.out.tn.trans (tn_setR (Tn.refl (· = g) wz) (p * 4) ⟨r1, r2, r3, r4⟩) (fun x hx e => by
                  rcases HWZ.out.new g HCG.out with h | h
                  · rw [e]; exact h
                  · omega), fun x hx => (HWZ.out.new x hx).imp_right fun ⟨h1, h2⟩ => ⟨h1, by simpa using h2⟩⟩)
                clear hq hrw hset hD9 hoc
                have hNm := HLE.out
                generalize M[p] = mp at *
                go_wp2
                go_region
                all_goals go_wp2
                all_goals
                  go_roundw
                  case rel => exact ⟨k + 1, by go_num, by omega, by rw [HT2.out]; go_num, by rw [HT2.out]; exact Lib.hid ⟨C1, HD9.out.tn (S := fun _ => False) ((Tn.refl _ _).drew) (fun _ _ e => e), ⟨HW9.out.tn.drew, HW9.out.new⟩⟩⟩
                  case measure => simp [RowKit.intOf]; omega
              · have HH : Hid (hear M ⟨r1, r2, r3, r4⟩ = (M, 0)) := Lib.hid (by
                  unfold hear
                  rw [if_pos hmy, HG0.out]
                  simp only [if_neg hee])
                have HT2 : Hid (learnL L (l.take (k + 1)) = (M, N)) := Lib.hid (by rw [HT.out, HH.out]; rfl)
                clear HT HH hmy HX hga HG0 hgw
                generalize M[p].e = y at *
                clear hpl hpe
                go_wp2
                go_quiet (fail)
                have hbq := below_drewN wr nq
                have HD9 := Lib.hid (HRDZ.out.below hbq)
                have HW9 := Lib.hid (HWZ.out.trans (Way.of_below hbq))
                clear hbq
                generalize wr.drewN nq = wz at *
                go_wp2
                go_roundw
                case rel => exact ⟨k + 1, by go_num, by omega, by rw [HT2.out], by rw [HT2.out]; exact Lib.hid ⟨C1, HD9.out, HW9.out⟩⟩
                case measure => simp [RowKit.intOf]; omega
    · obtain rfl : k = m := by omega
      have e : l.take k = l := List.take_of_length_le (by rw [HM.out]; exact Nat.le_refl _)
      have HD2 : Hid (∃ C', RD C' wr a (learnL L l).1 ∧ Way C w C' wr) := Lib.hid ⟨C1, by rw [← e]; exact hd, hwy⟩
      rw [e]
      clear e HD hd hwy
      go_wp2
      go_ret
      exact ⟨rfl, HD2.out⟩
end
end Go.Proofs.Ytfcdajkgopcmpaa
