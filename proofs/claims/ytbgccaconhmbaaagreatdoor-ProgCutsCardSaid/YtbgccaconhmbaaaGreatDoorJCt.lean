/- ProgCuts' walk, over rows wherever they lie. Conditions: values and texts as Go has them. -/
import Derived.Test.YtbgccaconhmbaaaGreatDoorJMk
import Derived.Test.YtbgccaconhmbaaaGreatDoorJPu
import Derived.Test.YtbgccaconhmbaaaGreatDoorJNl
namespace Go.Proofs.YtbgccaconhmbaaaGreatDoor
open Go.ChangeShapes Go.WideShapes Go.ChangeAt Go.RowKit Go.Deep
section
variable {P Q : Nat → Prop} {w : World} {vp vs : Value} {p : List OpV} {l : List SeenV}
set_option maxRecDepth 100000 in
set_option maxHeartbeats 1000000 in
theorem cuts_out (hp : HasO P w vp p) (hs : HasN Q w vs l) (hR : Rdy w) (hwp : ∀ o ∈ p, o.wf) (a : Int) (h : fewO p = false ∨ fewS l = false ∨ chkV p ≠ 0) :
    Calls Tryz.prog 10 #[vp, vs, .int .i64 a] w fun e w' => e = .returned (.bool true) ∧ Below w.heap.size w w' := by
  have HP := Lib.hid hp
  have HS := Lib.hid hs
  have HR := Lib.hid hR
  have HF := fun w hR => Lib.hid (first9_any w hR)
  have HA := fun w (hp : HasO P w vp p) => Lib.hid (fewO_any hp hwp)
  have HB := fun w (hs : HasN Q w vs l) => Lib.hid (fewS_any hs)
  obtain ⟨ao, cap, rfl⟩ := hasg_sl hp
  clear hp
  cases h1 : fewO p with
  | false =>
    simp only [h1] at HA
    clear h h1 hs hR hwp
    go_enter Tryz.func10, Tryz.ntmps10
    go_wp2_with (first
      | (go_at_call 12; refine (HA _ (HP.out.below HB1.out)).out.mono ?_; rintro e w2 ⟨rfl, hb⟩; have HB2 := Lib.hid (HB1.out.trans (hb.mono HB1.out.size)); clear hb)
      | (go_at_call 11; first
        | (refine (HF _ (HR.out.below HB2.out)).out.mono ?_; rintro e w3 ⟨rfl, hb⟩; have HB3 := Lib.hid (HB2.out.trans (hb.mono HB2.out.size)); clear hb)
        | (refine (HF _ HR.out).out.mono ?_; rintro e w1 ⟨rfl, hb⟩; have HB1 := Lib.hid hb; clear hb)))
    go_ret
    exact ⟨rfl, HB3.out⟩
  | true =>
    simp only [h1] at HA
    cases h2 : fewS l with
    | false =>
      simp only [h2] at HB
      clear h h1 h2 hs hR hwp
      go_enter Tryz.func10, Tryz.ntmps10
      go_wp2_with (first
        | (go_at_call 12; refine (HA _ (HP.out.below HB1.out)).out.mono ?_; rintro e w2 ⟨rfl, hb⟩; have HB2 := Lib.hid (HB1.out.trans (hb.mono HB1.out.size)); clear hb)
        | (go_at_call 22; refine (HB _ (HS.out.below HB2.out)).out.mono ?_; rintro e w3 ⟨rfl, hb⟩; have HB3 := Lib.hid (HB2.out.trans (hb.mono HB2.out.size)); clear hb)
        | (go_at_call 11; first
          | (refine (HF _ (HR.out.below HB3.out)).out.mono ?_; rintro e w4 ⟨rfl, hb⟩; have HB4 := Lib.hid (HB3.out.trans (hb.mono HB3.out.size)); clear hb)
          | (refine (HF _ HR.out).out.mono ?_; rintro e w1 ⟨rfl, hb⟩; have HB1 := Lib.hid hb; clear hb)))
      go_ret
      exact ⟨rfl, HB4.out⟩
    | true =>
      simp only [h2] at HB
      have h3 : chkV p ≠ 0 := by
        rcases h with h | h | h
        · rw [h1] at h; cases h
        · rw [h2] at h; cases h
        · exact h
      have HK : Hid (∀ {P' : Nat → Prop} {w : World} {v : Value}, HasO P' w v p → Rdy w → Calls Tryz.prog 16 #[v] w fun e w' => e = .returned (.int .i64 (chkV p)) ∧ Below w.heap.size w w') := Lib.hid (fun a b => check_any a b.stb.stp)
      have h4 : (chkV p != 0) = true := by simpa using h3
      generalize chkV p = c at *
      clear h h1 h2 hs hR hwp
      go_enter Tryz.func10, Tryz.ntmps10
      go_wp2_with (first
        | (go_at_call 12; refine (HA _ (HP.out.below HB1.out)).out.mono ?_; rintro e w2 ⟨rfl, hb⟩; have HB2 := Lib.hid (HB1.out.trans (hb.mono HB1.out.size)); clear hb)
        | (go_at_call 22; refine (HB _ (HS.out.below HB2.out)).out.mono ?_; rintro e w3 ⟨rfl, hb⟩; have HB3 := Lib.hid (HB2.out.trans (hb.mono HB2.out.size)); clear hb)
        | (go_at_call 16; refine (HK.out (HP.out.below HB3.out) (HR.out.below HB3.out)).mono ?_; rintro e w4 ⟨rfl, hb⟩; have HB4 := Lib.hid (HB3.out.trans (hb.mono HB3.out.size)); clear hb)
        | (go_at_call 11; first
          | (refine (HF _ (HR.out.below HB4.out)).out.mono ?_; rintro e w5 ⟨rfl, hb⟩; have HB5 := Lib.hid (HB4.out.trans (hb.mono HB4.out.size)); clear hb)
          | (refine (HF _ HR.out).out.mono ?_; rintro e w1 ⟨rfl, hb⟩; have HB1 := Lib.hid hb; clear hb)))
      go_ret
      exact ⟨rfl, HB5.out⟩
set_option maxRecDepth 100000 in
set_option maxHeartbeats 4000000 in
theorem cuts_pos (hp : HasO P w vp p) (hs : HasN Q w vs l) (hR : Rdy w) (hwp : ∀ o ∈ p, o.wf) (hws : ∀ s ∈ l, s.wf) (A : Nat) (_hA : (A : Int) ≤ 9223372036854775807) (h1 : fewO p = true) (h2 : fewS l = true) (h3 : chkV p = 0) :
    Calls Tryz.prog 10 #[vp, vs, .int .i64 (A : Int)] w fun e w' => e = .returned (.bool true) ∧ Below w.heap.size w w' := by
  have HP := Lib.hid hp
  have HS := Lib.hid hs
  have HR := Lib.hid hR
  have HF := fun w hR => Lib.hid (first9_any w hR)
  have HA := fun w (hp : HasO P w vp p) => Lib.hid (fewO_any hp hwp)
  have HB := fun w (hs : HasN Q w vs l) => Lib.hid (fewS_any hs)
  simp only [h1] at HA
  simp only [h2] at HB
  have hl200 : l.length ≤ 200 := by
    unfold fewS at h2
    rw [Bool.and_eq_true] at h2
    exact of_decide_eq_true h2.1
  have h40 := (chkV_ok h3).1
  have HK : Hid (∀ {P' : Nat → Prop} {w : World} {v : Value}, HasO P' w v p → Rdy w → Calls Tryz.prog 16 #[v] w fun e w' => e = .returned (.int .i64 0) ∧ Below w.heap.size w w') := Lib.hid (fun a b => by have := check_any a b.stb.stp; rwa [h3] at this)
  obtain ⟨n, hn⟩ : ∃ n, p.length = n := ⟨_, rfl⟩
  have hi : A % (n + 1) < n + 1 := Nat.mod_lt _ (Nat.succ_pos _)
  have e1 : Int.tmod (A : Int) ((n : Int) + 1) = ((A % (n + 1) : Nat) : Int) := rfl
  have e2 : (A : Int) % ((n : Int) + 1) = ((A % (n + 1) : Nat) : Int) := rfl
  have hn40 : (n : Int) ≤ 40 := by omega
  have hz : ((n : Int) + 1 == 0) = false := by rw [beq_eq_false_iff_ne]; omega
  generalize A % (n + 1) = i at *
  have hin : i ≤ n := by omega
  have HC := Lib.hid (cut_run h3 l i)
  obtain ⟨q, hq⟩ : ∃ q, p.take i = q := ⟨_, rfl⟩
  have hqc : chkV q = 0 := by rw [← hq]; exact chkV_take h3 i
  have hqw : ∀ o ∈ q, o.wf := fun o ho => hwp o (by rw [← hq] at ho; exact List.mem_of_mem_take ho)
  have hq40 : q.length ≤ 1000000 := by rw [← hq, List.length_take]; omega
  have hp40 : p.length ≤ 1000000 := by omega
  rw [hq] at HC
  have HQK : Hid (∀ {P' : Nat → Prop} {w : World} {v : Value}, HasO P' w v q → Rdy w → Calls Tryz.prog 16 #[v] w fun e w' => e = .returned (.int .i64 0) ∧ Below w.heap.size w w') := Lib.hid (fun a b => by have := check_any a b.stb.stp; rwa [hqc] at this)
  have hrs : ∀ x ∈ readsV q, x ∈ readsV p := by rw [← hq]; exact setV_sub fun y hy => keysV_take hy
  have hns : ∀ x ∈ namesV q, x ∈ namesV p := by rw [← hq]; exact setV_sub fun y hy => keysV_take hy
  have HRQ := fun {Rq : List Nm} {n : Nat} (h : readsV q = Rq) (hn : Rq.length = n) (w : World) (v : Value) (P : Nat → Prop) (hv : HasO P w v q) => Lib.hid (readsS_any hv hq40 h hn)
  have HRP := fun {Rq : List Nm} {n : Nat} (h : readsV p = Rq) (hn : Rq.length = n) (w : World) (v : Value) (P : Nat → Prop) (hv : HasO P w v p) => Lib.hid (readsS_any hv hp40 h hn)
  have HNQ := fun {Rq : List Nm} {n : Nat} (h : namesV q = Rq) (hn : Rq.length = n) (w : World) (v : Value) (P : Nat → Prop) (hv : HasO P w v q) => Lib.hid (namesS_any hv hq40 h hn)
  have HNP := fun {Rq : List Nm} {n : Nat} (h : namesV p = Rq) (hn : Rq.length = n) (w : World) (v : Value) (P : Nat → Prop) (hv : HasO P w v p) => Lib.hid (namesS_any hv hp40 h hn)
  obtain ⟨Rq, hRq⟩ : ∃ R, readsV q = R := ⟨_, rfl⟩
  obtain ⟨Rp, hRp⟩ : ∃ R, readsV p = R := ⟨_, rfl⟩
  obtain ⟨Nq, hNq⟩ : ∃ R, namesV q = R := ⟨_, rfl⟩
  obtain ⟨Np, hNp⟩ : ∃ R, namesV p = R := ⟨_, rfl⟩
  obtain ⟨Rn, hRn⟩ : ∃ n, Rq.length = n := ⟨_, rfl⟩
  obtain ⟨Rm, hRm⟩ : ∃ n, Rp.length = n := ⟨_, rfl⟩
  obtain ⟨Nn, hNn⟩ : ∃ n, Nq.length = n := ⟨_, rfl⟩
  obtain ⟨Nm', hNm⟩ : ∃ n, Np.length = n := ⟨_, rfl⟩
  replace HRQ := fun w v P hv => HRQ hRq hRn w v P hv
  replace HRP := fun w v P hv => HRP hRp hRm w v P hv
  replace HNQ := fun w v P hv => HNQ hNq hNn w v P hv
  replace HNP := fun w v P hv => HNP hNp hNm w v P hv
  have hR63 : (Rn : Int) ≤ 1000000 := by have := length_setV (keysV isRd q); have := keysV_le isRd q; rw [← hRn, ← hRq]; unfold readsV; omega
  have hN63 : (Nn : Int) ≤ 1000000 := by have := length_setV (keysV isWr q); have := keysV_le isWr q; rw [← hNn, ← hNq]; unfold namesV; omega
  rw [hRq, hRp] at hrs
  rw [hNq, hNp] at hns
  have RS := Lib.hid hrs
  have NS := Lib.hid hns
  have RL := Lib.hid hRn
  have NL := Lib.hid hNn
  have HU := fun w v P' (hp : HasO P' w v q) (hs : HasN Q w vs l) (hR : Rdy w) => Lib.hid (run_any hp hs hR.stb.stp (by omega) (fun o ho => (hqw o ho).2.2) hws)
  have HU2 := fun w (hp : HasO P w vp p) (hs : HasN Q w vs l) (hR : Rdy w) => Lib.hid (run_any hp hs hR.stb.stp (by omega) (fun o ho => (hwp o ho).2.2) hws)
  obtain ⟨ra, hra⟩ : ∃ r, runV q l = r := ⟨_, rfl⟩
  obtain ⟨rb, hrb⟩ : ∃ r, runV p l = r := ⟨_, rfl⟩
  rw [hra, hrb] at HC
  simp only [hra] at HU
  simp only [hrb] at HU2
  obtain ⟨qa, ea⟩ := ra
  obtain ⟨qb, eb⟩ := rb
  have HC : Hid (eb = 8 ∨ eb = 4 ∨ (eb ≠ 8 ∧ eb ≠ 4 ∧ (ea = 0 ∨ (ea ≠ 0 ∧ ea = eb)))) := HC
  obtain ⟨ao, cap, rfl⟩ := hasg_sl hp
  have HQT := fun w (h : HasO P w (.slice ao p.length cap) p) => Lib.hid (h.take (k := i) (by omega))
  rw [hq] at HQT
  have hcap : (n : Int) ≤ (cap : Int) := by have := cap_ge hp; omega
  rw [hn] at HP HA HU2 HQT
  rw [hn]
  clear hp hs hR hwp hws h1 h2 h3 hl200 h40 hn hi hq hqc hqw hq40 hp40 hrs hns hRq hRp hNq hNp hRn hRm hNn hNm hra hrb
  have HCAP := Lib.hid hcap
  go_enter Tryz.func10, Tryz.ntmps10
  go_wp2_with (first
    | (go_at_call 12; refine (HA _ (HP.out.below HB1.out)).out.mono ?_; rintro e w2 ⟨rfl, hb⟩; have HB2 := Lib.hid (HB1.out.trans (hb.mono HB1.out.size)); clear hb)
    | (go_at_call 22; refine (HB _ (HS.out.below HB2.out)).out.mono ?_; rintro e w3 ⟨rfl, hb⟩; have HB3 := Lib.hid (HB2.out.trans (hb.mono HB2.out.size)); clear hb)
    | (go_at_call 16; first
      | (refine (HQK.out (HQT _ (HP.out.below HB4.out)).out (HR.out.below HB4.out)).mono ?_; rintro e w5 ⟨rfl, hb⟩; have HB5 := Lib.hid (HB4.out.trans (hb.mono HB4.out.size)); have HQ5 := Lib.hid (HQT _ (HP.out.below HB5.out)).out; clear hb)
      | refine (HK.out (HP.out.below HB3.out) (HR.out.below HB3.out)).mono ?_; rintro e w4 ⟨rfl, hb⟩; have HB4 := Lib.hid (HB3.out.trans (hb.mono HB3.out.size)); clear hb)
    | (go_at_call 14; first
      | (refine (HRP _ _ _ (HP.out.below HB6.out)).out.mono ?_; rintro e w7 ⟨a7, c7, rfl, hb, hk⟩; have HB7 := Lib.hid (HB6.out.trans (hb.mono HB6.out.size)); have RA := Lib.hid (RA6.out.below hb); have RB := Lib.hid hk; clear hb hk RA6)
      | (refine (HRQ _ _ _ HQ5.out).out.mono ?_; rintro e w6 ⟨a6, c6, rfl, hb, hk⟩; have HB6 := Lib.hid (HB5.out.trans (hb.mono HB5.out.size)); have RA6 := Lib.hid hk; clear hb hk))
    | (go_at_call 11; first
      | (refine (HF _ HR.out).out.mono ?_; rintro e w1 ⟨rfl, hb⟩; have HB1 := Lib.hid hb; clear hb)))
  go_loopw [10] (fun i wr => ∃ j : Nat, j ≤ Rn ∧ i = .int .i64 j ∧ Hid (Below w7.heap.size w7 wr)) (fun i _ => Rn - (intOf i).toNat)
  case atStart => exact ⟨0, Nat.zero_le _, rfl, Lib.hid (Below.refl _ _)⟩
  case round =>
    obtain ⟨j, hj, rfl, HBj⟩ := hrel
    by_cases hjn : j < Rn
    · have hjl : j < Rq.length := by rw [RL.out]; exact hjn
      obtain ⟨bb, oo, rfl, c0⟩ := keyS_at (RA.out.below HBj.out) hjl
      have hmem : decide (Rq[j] ∈ Rp) = true := decide_eq_true (RS.out _ (List.getElem_mem hjl))
      have HH := Lib.hid (has_any (RB.out.below HBj.out) Rq[j])
      rw [hmem] at HH
      clear hmem
      generalize Rq[j] = x at *
      go_wp2_with (go_at_call 32; refine HH.out.mono ?_; rintro e wx ⟨rfl, hb⟩; have HBx := Lib.hid (HBj.out.trans (hb.mono HBj.out.size)); clear hb)
      go_roundw
      case rel => exact ⟨j + 1, by omega, by go_num, HBx⟩
      case measure => simp [intOf]; omega
    · obtain rfl : j = Rn := by omega
      go_wp2_with fail
      have HB8 := Lib.hid (HB7.out.trans (HBj.out.mono HB7.out.size))
      go_wp2_with (first
        | (go_at_call 15; first
          | (refine (HNP _ _ _ (HP.out.below HB9.out)).out.mono ?_; rintro e w10 ⟨a10, c10, rfl, hb, hk⟩; have HB10 := Lib.hid (HB9.out.trans (hb.mono HB9.out.size)); have NA := Lib.hid (NA9.out.below hb); have NB := Lib.hid hk; clear hb hk NA9)
          | (refine (HNQ _ _ _ (HQT _ (HP.out.below HB8.out)).out).out.mono ?_; rintro e w9 ⟨a9, c9, rfl, hb, hk⟩; have HB9 := Lib.hid (HB8.out.trans (hb.mono HB8.out.size)); have NA9 := Lib.hid hk; clear hb hk)))
      go_loopw [13] (fun i wr => ∃ j : Nat, j ≤ Nn ∧ i = .int .i64 j ∧ Hid (Below w10.heap.size w10 wr)) (fun i _ => Nn - (intOf i).toNat)
      case atStart => exact ⟨0, Nat.zero_le _, rfl, Lib.hid (Below.refl _ _)⟩
      case round =>
        obtain ⟨j, hj, rfl, HBj⟩ := hrel
        by_cases hjn : j < Nn
        · have hjl : j < Nq.length := by rw [NL.out]; exact hjn
          obtain ⟨bb, oo, rfl, c0⟩ := keyS_at (NA.out.below HBj.out) hjl
          have hmem : decide (Nq[j] ∈ Np) = true := decide_eq_true (NS.out _ (List.getElem_mem hjl))
          have HH := Lib.hid (has_any (NB.out.below HBj.out) Nq[j])
          rw [hmem] at HH
          clear hmem
          generalize Nq[j] = x at *
          go_wp2_with (go_at_call 32; refine HH.out.mono ?_; rintro e wx ⟨rfl, hb⟩; have HBx := Lib.hid (HBj.out.trans (hb.mono HBj.out.size)); clear hb)
          go_roundw
          case rel => exact ⟨j + 1, by omega, by go_num, HBx⟩
          case measure => simp [intOf]; omega
        · obtain rfl : j = Nn := by omega
          go_wp2_with fail
          have HB11 := Lib.hid (HB10.out.trans (HBj.out.mono HB10.out.size))
          rcases HC.out with e | e | ⟨e8, e4, e | ⟨e0, e⟩⟩
          · subst e
            clear HC
            go_wp2_with (first
              | (go_at_call 24; first
                | (refine (HU2 _ (HP.out.below HB12.out) (HS.out.below HB12.out) (HR.out.below HB12.out)).out.mono ?_; rintro e w13 ⟨v13, rfl, hb, _⟩; have HB13 := Lib.hid (HB12.out.trans (hb.mono HB12.out.size)); clear hb)
                | (refine (HU _ _ _ (HQT _ (HP.out.below HB11.out)).out (HS.out.below HB11.out) (HR.out.below HB11.out)).out.mono ?_; rintro e w12 ⟨v12, rfl, hb, _⟩; have HB12 := Lib.hid (HB11.out.trans (hb.mono HB11.out.size)); clear hb))
              | (go_at_call 11; (refine (HF _ (HR.out.below HB13.out)).out.mono ?_; rintro e w14 ⟨rfl, hb⟩; have HB14 := Lib.hid (HB13.out.trans (hb.mono HB13.out.size)); clear hb)))
            go_ret
            exact ⟨rfl, HB14.out⟩
          · subst e
            clear HC
            go_wp2_with (first
              | (go_at_call 24; first
                | (refine (HU2 _ (HP.out.below HB12.out) (HS.out.below HB12.out) (HR.out.below HB12.out)).out.mono ?_; rintro e w13 ⟨v13, rfl, hb, _⟩; have HB13 := Lib.hid (HB12.out.trans (hb.mono HB12.out.size)); clear hb)
                | (refine (HU _ _ _ (HQT _ (HP.out.below HB11.out)).out (HS.out.below HB11.out) (HR.out.below HB11.out)).out.mono ?_; rintro e w12 ⟨v12, rfl, hb, _⟩; have HB12 := Lib.hid (HB11.out.trans (hb.mono HB11.out.size)); clear hb))
              | (go_at_call 11; (refine (HF _ (HR.out.below HB13.out)).out.mono ?_; rintro e w14 ⟨rfl, hb⟩; have HB14 := Lib.hid (HB13.out.trans (hb.mono HB13.out.size)); clear hb)))
            go_ret
            exact ⟨rfl, HB14.out⟩
          · subst e
            have g8 : (eb == 8) = false := beq_eq_false_iff_ne.2 e8
            have g4 : (eb == 4) = false := beq_eq_false_iff_ne.2 e4
            clear HC e8 e4
            go_wp2_with (first
              | (go_at_call 24; first
                | (refine (HU2 _ (HP.out.below HB12.out) (HS.out.below HB12.out) (HR.out.below HB12.out)).out.mono ?_; rintro e w13 ⟨v13, rfl, hb, _⟩; have HB13 := Lib.hid (HB12.out.trans (hb.mono HB12.out.size)); clear hb)
                | (refine (HU _ _ _ (HQT _ (HP.out.below HB11.out)).out (HS.out.below HB11.out) (HR.out.below HB11.out)).out.mono ?_; rintro e w12 ⟨v12, rfl, hb, _⟩; have HB12 := Lib.hid (HB11.out.trans (hb.mono HB11.out.size)); clear hb))
              | (go_at_call 11; (refine (HF _ (HR.out.below HB13.out)).out.mono ?_; rintro e w14 ⟨rfl, hb⟩; have HB14 := Lib.hid (HB13.out.trans (hb.mono HB13.out.size)); clear hb)))
            go_ret
            exact ⟨rfl, HB14.out⟩
          · subst e
            have g8 : (ea == 8) = false := beq_eq_false_iff_ne.2 e8
            have g4 : (ea == 4) = false := beq_eq_false_iff_ne.2 e4
            have g0 : (ea == 0) = false := beq_eq_false_iff_ne.2 e0
            clear HC e8 e4 e0
            go_wp2_with (first
              | (go_at_call 24; first
                | (refine (HU2 _ (HP.out.below HB12.out) (HS.out.below HB12.out) (HR.out.below HB12.out)).out.mono ?_; rintro e w13 ⟨v13, rfl, hb, _⟩; have HB13 := Lib.hid (HB12.out.trans (hb.mono HB12.out.size)); clear hb)
                | (refine (HU _ _ _ (HQT _ (HP.out.below HB11.out)).out (HS.out.below HB11.out) (HR.out.below HB11.out)).out.mono ?_; rintro e w12 ⟨v12, rfl, hb, _⟩; have HB12 := Lib.hid (HB11.out.trans (hb.mono HB11.out.size)); clear hb))
              | (go_at_call 11; (refine (HF _ (HR.out.below HB13.out)).out.mono ?_; rintro e w14 ⟨rfl, hb⟩; have HB14 := Lib.hid (HB13.out.trans (hb.mono HB13.out.size)); clear hb)))
            go_ret
            exact ⟨rfl, HB14.out⟩
set_option maxRecDepth 100000 in
set_option maxHeartbeats 4000000 in
theorem cuts_neg (hp : HasO P w vp p) (hs : HasN Q w vs l) (hR : Rdy w) (hwp : ∀ o ∈ p, o.wf) (hws : ∀ s ∈ l, s.wf) (A : Nat) (hA : (A : Int) ≤ 9223372036854775807) (h1 : fewO p = true) (h2 : fewS l = true) (h3 : chkV p = 0) :
    Calls Tryz.prog 10 #[vp, vs, .int .i64 (-(A : Int) - 1)] w fun e w' => e = .returned (.bool true) ∧ Below w.heap.size w w' := by
  have HP := Lib.hid hp
  have HS := Lib.hid hs
  have HR := Lib.hid hR
  have HF := fun w hR => Lib.hid (first9_any w hR)
  have HA := fun w (hp : HasO P w vp p) => Lib.hid (fewO_any hp hwp)
  have HB := fun w (hs : HasN Q w vs l) => Lib.hid (fewS_any hs)
  simp only [h1] at HA
  simp only [h2] at HB
  have hl200 : l.length ≤ 200 := by
    unfold fewS at h2
    rw [Bool.and_eq_true] at h2
    exact of_decide_eq_true h2.1
  have h40 := (chkV_ok h3).1
  have HK : Hid (∀ {P' : Nat → Prop} {w : World} {v : Value}, HasO P' w v p → Rdy w → Calls Tryz.prog 16 #[v] w fun e w' => e = .returned (.int .i64 0) ∧ Below w.heap.size w w') := Lib.hid (fun a b => by have := check_any a b.stb.stp; rwa [h3] at this)
  obtain ⟨n, hn⟩ : ∃ n, p.length = n := ⟨_, rfl⟩
  have hi : A % (n + 1) < n + 1 := Nat.mod_lt _ (Nat.succ_pos _)
  have e1 : Int.tmod (A : Int) ((n : Int) + 1) = ((A % (n + 1) : Nat) : Int) := rfl
  have e2 : (A : Int) % ((n : Int) + 1) = ((A % (n + 1) : Nat) : Int) := rfl
  have hn40 : (n : Int) ≤ 40 := by omega
  have hz : ((n : Int) + 1 == 0) = false := by rw [beq_eq_false_iff_ne]; omega
  generalize A % (n + 1) = i at *
  have hin : i ≤ n := by omega
  have HC := Lib.hid (cut_run h3 l i)
  obtain ⟨q, hq⟩ : ∃ q, p.take i = q := ⟨_, rfl⟩
  have hqc : chkV q = 0 := by rw [← hq]; exact chkV_take h3 i
  have hqw : ∀ o ∈ q, o.wf := fun o ho => hwp o (by rw [← hq] at ho; exact List.mem_of_mem_take ho)
  have hq40 : q.length ≤ 1000000 := by rw [← hq, List.length_take]; omega
  have hp40 : p.length ≤ 1000000 := by omega
  rw [hq] at HC
  have HQK : Hid (∀ {P' : Nat → Prop} {w : World} {v : Value}, HasO P' w v q → Rdy w → Calls Tryz.prog 16 #[v] w fun e w' => e = .returned (.int .i64 0) ∧ Below w.heap.size w w') := Lib.hid (fun a b => by have := check_any a b.stb.stp; rwa [hqc] at this)
  have hrs : ∀ x ∈ readsV q, x ∈ readsV p := by rw [← hq]; exact setV_sub fun y hy => keysV_take hy
  have hns : ∀ x ∈ namesV q, x ∈ namesV p := by rw [← hq]; exact setV_sub fun y hy => keysV_take hy
  have HRQ := fun {Rq : List Nm} {n : Nat} (h : readsV q = Rq) (hn : Rq.length = n) (w : World) (v : Value) (P : Nat → Prop) (hv : HasO P w v q) => Lib.hid (readsS_any hv hq40 h hn)
  have HRP := fun {Rq : List Nm} {n : Nat} (h : readsV p = Rq) (hn : Rq.length = n) (w : World) (v : Value) (P : Nat → Prop) (hv : HasO P w v p) => Lib.hid (readsS_any hv hp40 h hn)
  have HNQ := fun {Rq : List Nm} {n : Nat} (h : namesV q = Rq) (hn : Rq.length = n) (w : World) (v : Value) (P : Nat → Prop) (hv : HasO P w v q) => Lib.hid (namesS_any hv hq40 h hn)
  have HNP := fun {Rq : List Nm} {n : Nat} (h : namesV p = Rq) (hn : Rq.length = n) (w : World) (v : Value) (P : Nat → Prop) (hv : HasO P w v p) => Lib.hid (namesS_any hv hp40 h hn)
  obtain ⟨Rq, hRq⟩ : ∃ R, readsV q = R := ⟨_, rfl⟩
  obtain ⟨Rp, hRp⟩ : ∃ R, readsV p = R := ⟨_, rfl⟩
  obtain ⟨Nq, hNq⟩ : ∃ R, namesV q = R := ⟨_, rfl⟩
  obtain ⟨Np, hNp⟩ : ∃ R, namesV p = R := ⟨_, rfl⟩
  obtain ⟨Rn, hRn⟩ : ∃ n, Rq.length = n := ⟨_, rfl⟩
  obtain ⟨Rm, hRm⟩ : ∃ n, Rp.length = n := ⟨_, rfl⟩
  obtain ⟨Nn, hNn⟩ : ∃ n, Nq.length = n := ⟨_, rfl⟩
  obtain ⟨Nm', hNm⟩ : ∃ n, Np.length = n := ⟨_, rfl⟩
  replace HRQ := fun w v P hv => HRQ hRq hRn w v P hv
  replace HRP := fun w v P hv => HRP hRp hRm w v P hv
  replace HNQ := fun w v P hv => HNQ hNq hNn w v P hv
  replace HNP := fun w v P hv => HNP hNp hNm w v P hv
  have hR63 : (Rn : Int) ≤ 1000000 := by have := length_setV (keysV isRd q); have := keysV_le isRd q; rw [← hRn, ← hRq]; unfold readsV; omega
  have hN63 : (Nn : Int) ≤ 1000000 := by have := length_setV (keysV isWr q); have := keysV_le isWr q; rw [← hNn, ← hNq]; unfold namesV; omega
  rw [hRq, hRp] at hrs
  rw [hNq, hNp] at hns
  have RS := Lib.hid hrs
  have NS := Lib.hid hns
  have RL := Lib.hid hRn
  have NL := Lib.hid hNn
  have HU := fun w v P' (hp : HasO P' w v q) (hs : HasN Q w vs l) (hR : Rdy w) => Lib.hid (run_any hp hs hR.stb.stp (by omega) (fun o ho => (hqw o ho).2.2) hws)
  have HU2 := fun w (hp : HasO P w vp p) (hs : HasN Q w vs l) (hR : Rdy w) => Lib.hid (run_any hp hs hR.stb.stp (by omega) (fun o ho => (hwp o ho).2.2) hws)
  obtain ⟨ra, hra⟩ : ∃ r, runV q l = r := ⟨_, rfl⟩
  obtain ⟨rb, hrb⟩ : ∃ r, runV p l = r := ⟨_, rfl⟩
  rw [hra, hrb] at HC
  simp only [hra] at HU
  simp only [hrb] at HU2
  obtain ⟨qa, ea⟩ := ra
  obtain ⟨qb, eb⟩ := rb
  have HC : Hid (eb = 8 ∨ eb = 4 ∨ (eb ≠ 8 ∧ eb ≠ 4 ∧ (ea = 0 ∨ (ea ≠ 0 ∧ ea = eb)))) := HC
  obtain ⟨ao, cap, rfl⟩ := hasg_sl hp
  have HQT := fun w (h : HasO P w (.slice ao p.length cap) p) => Lib.hid (h.take (k := i) (by omega))
  rw [hq] at HQT
  have hcap : (n : Int) ≤ (cap : Int) := by have := cap_ge hp; omega
  rw [hn] at HP HA HU2 HQT
  rw [hn]
  clear hp hs hR hwp hws h1 h2 h3 hl200 h40 hn hi hq hqc hqw hq40 hp40 hrs hns hRq hRp hNq hNp hRn hRm hNn hNm hra hrb
  have HCAP := Lib.hid hcap
  go_enter Tryz.func10, Tryz.ntmps10
  go_wp2_with (first
    | (go_at_call 12; refine (HA _ (HP.out.below HB1.out)).out.mono ?_; rintro e w2 ⟨rfl, hb⟩; have HB2 := Lib.hid (HB1.out.trans (hb.mono HB1.out.size)); clear hb)
    | (go_at_call 22; refine (HB _ (HS.out.below HB2.out)).out.mono ?_; rintro e w3 ⟨rfl, hb⟩; have HB3 := Lib.hid (HB2.out.trans (hb.mono HB2.out.size)); clear hb)
    | (go_at_call 16; first
      | (refine (HQK.out (HQT _ (HP.out.below HB4.out)).out (HR.out.below HB4.out)).mono ?_; rintro e w5 ⟨rfl, hb⟩; have HB5 := Lib.hid (HB4.out.trans (hb.mono HB4.out.size)); have HQ5 := Lib.hid (HQT _ (HP.out.below HB5.out)).out; clear hb)
      | refine (HK.out (HP.out.below HB3.out) (HR.out.below HB3.out)).mono ?_; rintro e w4 ⟨rfl, hb⟩; have HB4 := Lib.hid (HB3.out.trans (hb.mono HB3.out.size)); clear hb)
    | (go_at_call 14; first
      | (refine (HRP _ _ _ (HP.out.below HB6.out)).out.mono ?_; rintro e w7 ⟨a7, c7, rfl, hb, hk⟩; have HB7 := Lib.hid (HB6.out.trans (hb.mono HB6.out.size)); have RA := Lib.hid (RA6.out.below hb); have RB := Lib.hid hk; clear hb hk RA6)
      | (refine (HRQ _ _ _ HQ5.out).out.mono ?_; rintro e w6 ⟨a6, c6, rfl, hb, hk⟩; have HB6 := Lib.hid (HB5.out.trans (hb.mono HB5.out.size)); have RA6 := Lib.hid hk; clear hb hk))
    | (go_at_call 11; first
      | (refine (HF _ HR.out).out.mono ?_; rintro e w1 ⟨rfl, hb⟩; have HB1 := Lib.hid hb; clear hb)))
  go_loopw [10] (fun i wr => ∃ j : Nat, j ≤ Rn ∧ i = .int .i64 j ∧ Hid (Below w7.heap.size w7 wr)) (fun i _ => Rn - (intOf i).toNat)
  case atStart => exact ⟨0, Nat.zero_le _, rfl, Lib.hid (Below.refl _ _)⟩
  case round =>
    obtain ⟨j, hj, rfl, HBj⟩ := hrel
    by_cases hjn : j < Rn
    · have hjl : j < Rq.length := by rw [RL.out]; exact hjn
      obtain ⟨bb, oo, rfl, c0⟩ := keyS_at (RA.out.below HBj.out) hjl
      have hmem : decide (Rq[j] ∈ Rp) = true := decide_eq_true (RS.out _ (List.getElem_mem hjl))
      have HH := Lib.hid (has_any (RB.out.below HBj.out) Rq[j])
      rw [hmem] at HH
      clear hmem
      generalize Rq[j] = x at *
      go_wp2_with (go_at_call 32; refine HH.out.mono ?_; rintro e wx ⟨rfl, hb⟩; have HBx := Lib.hid (HBj.out.trans (hb.mono HBj.out.size)); clear hb)
      go_roundw
      case rel => exact ⟨j + 1, by omega, by go_num, HBx⟩
      case measure => simp [intOf]; omega
    · obtain rfl : j = Rn := by omega
      go_wp2_with fail
      have HB8 := Lib.hid (HB7.out.trans (HBj.out.mono HB7.out.size))
      go_wp2_with (first
        | (go_at_call 15; first
          | (refine (HNP _ _ _ (HP.out.below HB9.out)).out.mono ?_; rintro e w10 ⟨a10, c10, rfl, hb, hk⟩; have HB10 := Lib.hid (HB9.out.trans (hb.mono HB9.out.size)); have NA := Lib.hid (NA9.out.below hb); have NB := Lib.hid hk; clear hb hk NA9)
          | (refine (HNQ _ _ _ (HQT _ (HP.out.below HB8.out)).out).out.mono ?_; rintro e w9 ⟨a9, c9, rfl, hb, hk⟩; have HB9 := Lib.hid (HB8.out.trans (hb.mono HB8.out.size)); have NA9 := Lib.hid hk; clear hb hk)))
      go_loopw [13] (fun i wr => ∃ j : Nat, j ≤ Nn ∧ i = .int .i64 j ∧ Hid (Below w10.heap.size w10 wr)) (fun i _ => Nn - (intOf i).toNat)
      case atStart => exact ⟨0, Nat.zero_le _, rfl, Lib.hid (Below.refl _ _)⟩
      case round =>
        obtain ⟨j, hj, rfl, HBj⟩ := hrel
        by_cases hjn : j < Nn
        · have hjl : j < Nq.length := by rw [NL.out]; exact hjn
          obtain ⟨bb, oo, rfl, c0⟩ := keyS_at (NA.out.below HBj.out) hjl
          have hmem : decide (Nq[j] ∈ Np) = true := decide_eq_true (NS.out _ (List.getElem_mem hjl))
          have HH := Lib.hid (has_any (NB.out.below HBj.out) Nq[j])
          rw [hmem] at HH
          clear hmem
          generalize Nq[j] = x at *
          go_wp2_with (go_at_call 32; refine HH.out.mono ?_; rintro e wx ⟨rfl, hb⟩; have HBx := Lib.hid (HBj.out.trans (hb.mono HBj.out.size)); clear hb)
          go_roundw
          case rel => exact ⟨j + 1, by omega, by go_num, HBx⟩
          case measure => simp [intOf]; omega
        · obtain rfl : j = Nn := by omega
          go_wp2_with fail
          have HB11 := Lib.hid (HB10.out.trans (HBj.out.mono HB10.out.size))
          rcases HC.out with e | e | ⟨e8, e4, e | ⟨e0, e⟩⟩
          · subst e
            clear HC
            go_wp2_with (first
              | (go_at_call 24; first
                | (refine (HU2 _ (HP.out.below HB12.out) (HS.out.below HB12.out) (HR.out.below HB12.out)).out.mono ?_; rintro e w13 ⟨v13, rfl, hb, _⟩; have HB13 := Lib.hid (HB12.out.trans (hb.mono HB12.out.size)); clear hb)
                | (refine (HU _ _ _ (HQT _ (HP.out.below HB11.out)).out (HS.out.below HB11.out) (HR.out.below HB11.out)).out.mono ?_; rintro e w12 ⟨v12, rfl, hb, _⟩; have HB12 := Lib.hid (HB11.out.trans (hb.mono HB11.out.size)); clear hb))
              | (go_at_call 11; (refine (HF _ (HR.out.below HB13.out)).out.mono ?_; rintro e w14 ⟨rfl, hb⟩; have HB14 := Lib.hid (HB13.out.trans (hb.mono HB13.out.size)); clear hb)))
            go_ret
            exact ⟨rfl, HB14.out⟩
          · subst e
            clear HC
            go_wp2_with (first
              | (go_at_call 24; first
                | (refine (HU2 _ (HP.out.below HB12.out) (HS.out.below HB12.out) (HR.out.below HB12.out)).out.mono ?_; rintro e w13 ⟨v13, rfl, hb, _⟩; have HB13 := Lib.hid (HB12.out.trans (hb.mono HB12.out.size)); clear hb)
                | (refine (HU _ _ _ (HQT _ (HP.out.below HB11.out)).out (HS.out.below HB11.out) (HR.out.below HB11.out)).out.mono ?_; rintro e w12 ⟨v12, rfl, hb, _⟩; have HB12 := Lib.hid (HB11.out.trans (hb.mono HB11.out.size)); clear hb))
              | (go_at_call 11; (refine (HF _ (HR.out.below HB13.out)).out.mono ?_; rintro e w14 ⟨rfl, hb⟩; have HB14 := Lib.hid (HB13.out.trans (hb.mono HB13.out.size)); clear hb)))
            go_ret
            exact ⟨rfl, HB14.out⟩
          · subst e
            have g8 : (eb == 8) = false := beq_eq_false_iff_ne.2 e8
            have g4 : (eb == 4) = false := beq_eq_false_iff_ne.2 e4
            clear HC e8 e4
            go_wp2_with (first
              | (go_at_call 24; first
                | (refine (HU2 _ (HP.out.below HB12.out) (HS.out.below HB12.out) (HR.out.below HB12.out)).out.mono ?_; rintro e w13 ⟨v13, rfl, hb, _⟩; have HB13 := Lib.hid (HB12.out.trans (hb.mono HB12.out.size)); clear hb)
                | (refine (HU _ _ _ (HQT _ (HP.out.below HB11.out)).out (HS.out.below HB11.out) (HR.out.below HB11.out)).out.mono ?_; rintro e w12 ⟨v12, rfl, hb, _⟩; have HB12 := Lib.hid (HB11.out.trans (hb.mono HB11.out.size)); clear hb))
              | (go_at_call 11; (refine (HF _ (HR.out.below HB13.out)).out.mono ?_; rintro e w14 ⟨rfl, hb⟩; have HB14 := Lib.hid (HB13.out.trans (hb.mono HB13.out.size)); clear hb)))
            go_ret
            exact ⟨rfl, HB14.out⟩
          · subst e
            have g8 : (ea == 8) = false := beq_eq_false_iff_ne.2 e8
            have g4 : (ea == 4) = false := beq_eq_false_iff_ne.2 e4
            have g0 : (ea == 0) = false := beq_eq_false_iff_ne.2 e0
            clear HC e8 e4 e0
            go_wp2_with (first
              | (go_at_call 24; first
                | (refine (HU2 _ (HP.out.below HB12.out) (HS.out.below HB12.out) (HR.out.below HB12.out)).out.mono ?_; rintro e w13 ⟨v13, rfl, hb, _⟩; have HB13 := Lib.hid (HB12.out.trans (hb.mono HB12.out.size)); clear hb)
                | (refine (HU _ _ _ (HQT _ (HP.out.below HB11.out)).out (HS.out.below HB11.out) (HR.out.below HB11.out)).out.mono ?_; rintro e w12 ⟨v12, rfl, hb, _⟩; have HB12 := Lib.hid (HB11.out.trans (hb.mono HB11.out.size)); clear hb))
              | (go_at_call 11; (refine (HF _ (HR.out.below HB13.out)).out.mono ?_; rintro e w14 ⟨rfl, hb⟩; have HB14 := Lib.hid (HB13.out.trans (hb.mono HB13.out.size)); clear hb)))
            go_ret
            exact ⟨rfl, HB14.out⟩
/-- racelaw9.ProgCuts answers true. -/
theorem cuts_any (hp : HasO P w vp p) (hs : HasN Q w vs l) (hR : Rdy w) (hwp : ∀ o ∈ p, o.wf) (hws : ∀ s ∈ l, s.wf) (a : Int) (ha1 : -9223372036854775808 ≤ a) (ha2 : a ≤ 9223372036854775807) :
    Calls Tryz.prog 10 #[vp, vs, .int .i64 a] w fun e w' => e = .returned (.bool true) ∧ Below w.heap.size w w' := by
  by_cases h : fewO p = false ∨ fewS l = false ∨ chkV p ≠ 0
  · exact cuts_out hp hs hR hwp a h
  · have h1 : fewO p = true := by cases e : fewO p with | true => rfl | false => exact absurd (.inl e) h
    have h2 : fewS l = true := by cases e : fewS l with | true => rfl | false => exact absurd (.inr (.inl e)) h
    have h3 : chkV p = 0 := by
      by_cases h3 : chkV p = 0
      · exact h3
      · exact absurd (.inr (.inr h3)) h
    by_cases h0 : a < 0
    · obtain ⟨A, rfl, hA⟩ : ∃ A : Nat, a = -(A : Int) - 1 ∧ (A : Int) ≤ 9223372036854775807 := ⟨(-(a + 1)).toNat, by omega, by omega⟩
      exact cuts_neg hp hs hR hwp hws A hA h1 h2 h3
    · obtain ⟨A, rfl, hA⟩ : ∃ A : Nat, a = (A : Int) ∧ (A : Int) ≤ 9223372036854775807 := ⟨a.toNat, by omega, by omega⟩
      exact cuts_pos hp hs hR hwp hws A hA h1 h2 h3
end
end Go.Proofs.YtbgccaconhmbaaaGreatDoor
