/- From a cover of even ranges, split again and again: it stays a cover, and each key's place lies in just one of its ranges: racelaw4.PlaceOne answers true and leaves its arguments as they were. Conditions: none. -/
import Derived.Test.YtfdopinlmjbfaaaCp
import Derived.Test.YtfdopinlmjbfaaaCx
import Derived.Test.YtfdopinlmjbfaaaXb
import Derived.RegionTactic
import Derived.Deep.RegionHeld
import Derived.Deep.CutRange
namespace Go.Proofs.Ytfdopinlmjbfaaa
open Go.ChangeShapes Go.WideShapes Go.ChangeAt Go.RowKit
set_option maxRecDepth 100000 in
theorem placeOne_bad (w : World) (a : Int) (u v s : Value) (h : a < 1 ∨ 12 < a) :
    Calls Try.prog 8 #[.int .i64 a, u, v, s] w fun e w' => e = .returned (.bool true) ∧ Below w.heap.size w w' := by
  have H1 := fun w => Lib.hid (even_bad a h w)
  clear h
  go_enter Try.func8, Try.ntmps8
  go_wp2_with (first
    | (go_at_call 12; ((with_reducible refine (first_any _).mono ?_); rintro e w' ⟨rfl, rfl⟩))
    | (go_at_call 34; ((with_reducible refine (H1 _).out.mono ?_); rintro e w' ⟨rfl, rfl⟩)))
  go_ret
  exact ⟨rfl, Below.refl _ _⟩
theorem even_wf {n : Nat} (h0 : 0 < n) (h : n ≤ 12) : ∀ r ∈ evenV n, r.wf := by
  intro r hr
  obtain ⟨a, b, c, d, e, f⟩ := may_pts ((even_cov h0 h).may r hr)
  unfold ptB at a b
  rw [decide_eq_true_eq] at a b
  obtain ⟨i, hi, rfl⟩ := List.mem_map.1 hr
  have hi2 := List.mem_range.1 hi
  have h1 : oneB < 18446744073709551616 := by decide
  exact ⟨⟨by omega, by omega⟩, ⟨(by decide : (-9223372036854775808 : Int) ≤ 0), (by decide : (0 : Int) < 9223372036854775808)⟩, Nat.lt_of_le_of_lt a h1, Nat.lt_of_le_of_lt b h1⟩
set_option maxRecDepth 100000 in
set_option maxHeartbeats 8000000 in
theorem placeOne_ok (w : World) (n : Nat) (h0 : 0 < n) (h : n ≤ 12) (tad : Option Addr) (tn tcap : Nat) (t : List I64) (ht : XB iv ⟨0, by decide⟩ w.heap.size w tad tn tcap t)
    (po : Option Addr) (pn pcap : Nat) (ps : List F64) (hp : XB fv ⟨0, by decide⟩ w.heap.size w po pn pcap ps) (ko : Option Addr) (kn kcap : Nat) (ks : List Str) (hk : XB sv ⟨⟨#[]⟩, by decide⟩ w.heap.size w ko kn kcap ks) :
    Calls Try.prog 8 #[.int .i64 n, .slice tad tn tcap, .slice po pn pcap, .slice ko kn kcap] w fun e w' => e = .returned (.bool true) ∧ Below w.heap.size w w' := by
  have HE := fun w => Lib.hid (even_any n h0 h w)
  have HG := Lib.hid (even_gr h0 h (even_wf h0 h))
  have HL := Lib.hid (even_length n)
  have hne : ((n : Int) == 0) = false := by rw [beq_eq_false_iff_ne]; omega
  have HTT := Lib.hid ht
  have HPP := Lib.hid hp
  have HKK := Lib.hid hk
  have htn := ht.lt
  have hkn := hk.lt
  clear ht hp hk
  generalize evenV n = E at *
  go_enter Try.func8, Try.ntmps8
  go_wp2_with (first
    | (go_at_call 12; ((with_reducible refine (first_any _).mono ?_); rintro e w' ⟨rfl, rfl⟩))
    | (go_at_call 34; ((with_reducible refine (HE _).out.mono ?_); rintro e w1 ⟨v, rfl, ho, hb⟩; obtain ⟨g0, c0, hv⟩ := own_shape ho h0; subst hv; have HO := Lib.hid ho; have HB := Lib.hid hb; clear ho hb)))
  clear hne
  go_loopw [9, 11] (fun v i wr => ∃ (q m g c : Nat) (M : List RV), i = .int .i64 q ∧ q ≤ tn ∧ v = .slice (some ⟨g, 0, none⟩) m c ∧ 0 < m ∧ m ≤ 12 ∧ Hid (M.length = m) ∧ Hid (Gr M) ∧ Hid (wr.ownsRow w.heap.size 34 4 (.slice (some ⟨g, 0, none⟩) m c) m (cellsR M)) ∧ Hid (Below w.heap.size w wr)) (fun _ i _ => tn - (intOf i).toNat)
  case atStart => exact ⟨0, n, g0, c0, E, rfl, Nat.zero_le _, rfl, h0, h, HL, HG, HO, HB⟩
  case round =>
    obtain ⟨q, m, g, c, M, rfl, hq, rfl, hm0, hm12, HML, HGr, HO, HW⟩ := hrel
    by_cases hcond : q < tn ∧ q < pn ∧ q < 11 ∧ m < 12
    · obtain ⟨hqt, hqp, hq11, hm11⟩ := hcond
      obtain ⟨tb, toff, rfl, ct⟩ := (HTT.out.below HW.out).at_ hqt
      obtain ⟨pb, poff, rfl, cp⟩ := (HPP.out.below HW.out).at_ hqp
      replace ct : wr.cell? ⟨tb, toff + q, none⟩ = some (.int .i64 (t.getD q ⟨0, by decide⟩).1) := ct
      replace cp : wr.cell? ⟨pb, poff + q, none⟩ = some (.float .f64 (ps.getD q ⟨0, by decide⟩).1) := cp
      have hx := (ps.getD q ⟨0, by decide⟩).2
      generalize (t.getD q ⟨0, by decide⟩).1 = X at *
      generalize (ps.getD q ⟨0, by decide⟩).1 = x at *
      have hJ : (Int.tmod X (m : Int)).natAbs < m := by
        have a1 := Int.tmod_lt_of_pos X (show (0 : Int) < m by omega)
        have a2 := Int.lt_tmod_of_pos X (show (0 : Int) < m by omega)
        omega
      have hJ2 : (0 < (Int.tmod X (m : Int)).natAbs ∧ Int.tmod X (m : Int) = -((Int.tmod X (m : Int)).natAbs : Int)) ∨ Int.tmod X (m : Int) = ((Int.tmod X (m : Int)).natAbs : Int) := by omega
      generalize hJe : (Int.tmod X (m : Int)).natAbs = J at *
      clear hJe
      have hJM : J < M.length := by rw [HML.out]; exact hJ
      generalize hmJ : M.getD J RV.zero = r
      have hA := own_at HO.out hJM hmJ
      obtain ⟨a0, a1, a2, a3, x0, x1, x2, x3⟩ := hA
      have hwr : r.wf := by rw [← hmJ, getD_in hJM]; exact HGr.out.wf _ (List.getElem_mem hJM)
      have HWR := Lib.hid hwr
      have HSP := fun w => Lib.hid (split_any r hwr x hx ((m : Int) + 1) w)
      have HRM := Lib.hid hmJ
      have hst := run_stf
      have hwm : IntKind.i64.wrap ((m : Int) + 1) = (m : Int) + 1 := IntWalk.i64_in _ (by omega)
      have hs := HW.out.size
      generalize hS : splitV r x ((m : Int) + 1) = S at *
      have HS := Lib.hid hS
      obtain ⟨sa, sb, sf⟩ := S
      obtain ⟨sai, sae, sal, sah⟩ := sa
      obtain ⟨sbi, sbe, sbl, sbh⟩ := sb
      simp only at HSP
      obtain ⟨ri, re, rl, rh⟩ := r
      simp only at a0 a1 a2 a3
      clear hmJ hS hwr
      have hgs := Lib.hid (World.block_lt_of_cell? _ _ a0)
      have hpbs := Lib.hid (World.block_lt_of_cell? _ _ cp)
      have ka0 := Lib.hid a0; have ka1 := Lib.hid a1; have ka2 := Lib.hid a2; have ka3 := Lib.hid a3; have kcp := Lib.hid cp
      rcases hJ2 with ⟨hJ0, e1⟩ | e1
      · go_wp2
        go_cut [13, 14, 15] from 40 to 116 (fun pa pb' pf wc => ∃ ba bb, pa = .pointer (some ⟨ba, 0, none⟩) ∧ pb' = .pointer (some ⟨bb, 0, none⟩) ∧ pf = .int .i64 sf ∧ Hid (At wc ba ⟨sai, sae, sal, sah⟩) ∧ Hid (At wc bb ⟨sbi, sbe, sbl, sbh⟩) ∧ ba ≠ bb ∧ wr.heap.size ≤ ba ∧ wr.heap.size ≤ bb ∧ Hid (Below wr.heap.size wr wc))
        case first =>
          refine wp_region_held (S := (fun w' : World => w'.cell? ⟨g, J * 4, none⟩ = some (.int .i64 ri) ∧ w'.cell? ⟨g, J * 4 + 1, none⟩ = some (.int .i64 re) ∧ w'.cell? ⟨g, J * 4 + 2, none⟩ = some (.float .f64 rl) ∧ w'.cell? ⟨g, J * 4 + 3, none⟩ = some (.float .f64 rh) ∧ w'.cell? ⟨pb, poff + q, none⟩ = some (.float .f64 x))) (by kernel_rfl) ?_
          change wpAnyH _ _ _ _ _ _ _ _ (World.drew _)
          have HC := Lib.hid ((Below.refl wr.heap.size wr).drew)
          refine wpAnyH_take (i := 0) (v := ?vap_0) rfl (by kernel_rfl) (by kernel_rfl) (by kernel_rfl) (fun _ _ _ h => h) (Or.inl ⟨by rfl, ?yap_0⟩) ⟨(HC.out.cell (p := ⟨g, J * 4, none⟩) hgs.out).trans ka0.out, (HC.out.cell (p := ⟨g, J * 4 + 1, none⟩) hgs.out).trans ka1.out, (HC.out.cell (p := ⟨g, J * 4 + 2, none⟩) hgs.out).trans ka2.out, (HC.out.cell (p := ⟨g, J * 4 + 3, none⟩) hgs.out).trans ka3.out, (HC.out.cell (p := ⟨pb, poff + q, none⟩) hpbs.out).trans kcp.out⟩ ?rap_0
          case yap_0 => (intro W hSw; (try dsimp only at hSw); obtain ⟨s0, s1, s2, s3, s4⟩ := hSw; first | (go_simp; done) | (go_simp; with_reducible rfl))
          try go_simp
          refine wpAnyH_take (i := 1) (v := ?vap_1) rfl (by kernel_rfl) (by kernel_rfl) (by kernel_rfl) (fun _ _ _ h => h) (Or.inl ⟨by rfl, ?yap_1⟩) ⟨(HC.out.cell (p := ⟨g, J * 4, none⟩) hgs.out).trans ka0.out, (HC.out.cell (p := ⟨g, J * 4 + 1, none⟩) hgs.out).trans ka1.out, (HC.out.cell (p := ⟨g, J * 4 + 2, none⟩) hgs.out).trans ka2.out, (HC.out.cell (p := ⟨g, J * 4 + 3, none⟩) hgs.out).trans ka3.out, (HC.out.cell (p := ⟨pb, poff + q, none⟩) hpbs.out).trans kcp.out⟩ ?rap_1
          case yap_1 => (intro W hSw; (try dsimp only at hSw); obtain ⟨s0, s1, s2, s3, s4⟩ := hSw; first | (go_simp; done) | (go_simp; with_reducible rfl))
          try go_simp
          refine wpAnyH_take (i := 2) (v := ?vap_2) rfl (by kernel_rfl) (by kernel_rfl) (by kernel_rfl) (fun _ _ _ h => h) (Or.inl ⟨by rfl, ?yap_2⟩) ⟨(HC.out.cell (p := ⟨g, J * 4, none⟩) hgs.out).trans ka0.out, (HC.out.cell (p := ⟨g, J * 4 + 1, none⟩) hgs.out).trans ka1.out, (HC.out.cell (p := ⟨g, J * 4 + 2, none⟩) hgs.out).trans ka2.out, (HC.out.cell (p := ⟨g, J * 4 + 3, none⟩) hgs.out).trans ka3.out, (HC.out.cell (p := ⟨pb, poff + q, none⟩) hpbs.out).trans kcp.out⟩ ?rap_2
          case yap_2 => (intro W hSw; (try dsimp only at hSw); obtain ⟨s0, s1, s2, s3, s4⟩ := hSw; first | (go_simp; done) | (go_simp; with_reducible rfl))
          try go_simp
          refine wpAnyH_take (i := 3) (v := ?vap_3) rfl (by kernel_rfl) (by kernel_rfl) (by kernel_rfl) (fun _ _ _ h => h) (Or.inl ⟨by rfl, ?yap_3⟩) ⟨(HC.out.cell (p := ⟨g, J * 4, none⟩) hgs.out).trans ka0.out, (HC.out.cell (p := ⟨g, J * 4 + 1, none⟩) hgs.out).trans ka1.out, (HC.out.cell (p := ⟨g, J * 4 + 2, none⟩) hgs.out).trans ka2.out, (HC.out.cell (p := ⟨g, J * 4 + 3, none⟩) hgs.out).trans ka3.out, (HC.out.cell (p := ⟨pb, poff + q, none⟩) hpbs.out).trans kcp.out⟩ ?rap_3
          case yap_3 => (intro W hSw; (try dsimp only at hSw); obtain ⟨s0, s1, s2, s3, s4⟩ := hSw; first | (go_simp; done) | (go_simp; with_reducible rfl))
          try go_simp
          refine wpAnyH_take (i := 4) (v := ?vap_4) rfl (by kernel_rfl) (by kernel_rfl) (by kernel_rfl) (fun _ _ _ h => h) (Or.inl ⟨by rfl, ?yap_4⟩) ⟨(HC.out.cell (p := ⟨g, J * 4, none⟩) hgs.out).trans ka0.out, (HC.out.cell (p := ⟨g, J * 4 + 1, none⟩) hgs.out).trans ka1.out, (HC.out.cell (p := ⟨g, J * 4 + 2, none⟩) hgs.out).trans ka2.out, (HC.out.cell (p := ⟨g, J * 4 + 3, none⟩) hgs.out).trans ka3.out, (HC.out.cell (p := ⟨pb, poff + q, none⟩) hpbs.out).trans kcp.out⟩ ?rap_4
          case yap_4 => (intro W hSw; (try dsimp only at hSw); obtain ⟨s0, s1, s2, s3, s4⟩ := hSw; first | (go_simp; done) | (go_simp; with_reducible rfl))
          try go_simp
          refine wpAnyH_take (i := 5) (v := ?vap_5) rfl (by kernel_rfl) (by kernel_rfl) (by kernel_rfl) (fun _ _ _ h => h) (Or.inl ⟨by rfl, ?yap_5⟩) ⟨(HC.out.cell (p := ⟨g, J * 4, none⟩) hgs.out).trans ka0.out, (HC.out.cell (p := ⟨g, J * 4 + 1, none⟩) hgs.out).trans ka1.out, (HC.out.cell (p := ⟨g, J * 4 + 2, none⟩) hgs.out).trans ka2.out, (HC.out.cell (p := ⟨g, J * 4 + 3, none⟩) hgs.out).trans ka3.out, (HC.out.cell (p := ⟨pb, poff + q, none⟩) hpbs.out).trans kcp.out⟩ ?rap_5
          case yap_5 => (intro W hSw; (try dsimp only at hSw); obtain ⟨s0, s1, s2, s3, s4⟩ := hSw; first | (go_simp; done) | (go_simp; with_reducible rfl))
          try go_simp
          refine wpAnyH_take (i := 6) (v := ?vap_6) rfl (by kernel_rfl) (by kernel_rfl) (by kernel_rfl) (fun _ _ _ h => h) (Or.inl ⟨by rfl, ?yap_6⟩) ⟨(HC.out.cell (p := ⟨g, J * 4, none⟩) hgs.out).trans ka0.out, (HC.out.cell (p := ⟨g, J * 4 + 1, none⟩) hgs.out).trans ka1.out, (HC.out.cell (p := ⟨g, J * 4 + 2, none⟩) hgs.out).trans ka2.out, (HC.out.cell (p := ⟨g, J * 4 + 3, none⟩) hgs.out).trans ka3.out, (HC.out.cell (p := ⟨pb, poff + q, none⟩) hpbs.out).trans kcp.out⟩ ?rap_6
          case yap_6 => (intro W hSw; (try dsimp only at hSw); obtain ⟨s0, s1, s2, s3, s4⟩ := hSw; first | (go_simp; done) | (go_simp; with_reducible rfl))
          try go_simp
          refine wpAnyH_take (i := 7) (v := ?vap_7) rfl (by kernel_rfl) (by kernel_rfl) (by kernel_rfl) (fun _ _ _ h => h) (Or.inl ⟨by rfl, ?yap_7⟩) ⟨(HC.out.cell (p := ⟨g, J * 4, none⟩) hgs.out).trans ka0.out, (HC.out.cell (p := ⟨g, J * 4 + 1, none⟩) hgs.out).trans ka1.out, (HC.out.cell (p := ⟨g, J * 4 + 2, none⟩) hgs.out).trans ka2.out, (HC.out.cell (p := ⟨g, J * 4 + 3, none⟩) hgs.out).trans ka3.out, (HC.out.cell (p := ⟨pb, poff + q, none⟩) hpbs.out).trans kcp.out⟩ ?rap_7
          case yap_7 => (intro W hSw; (try dsimp only at hSw); obtain ⟨s0, s1, s2, s3, s4⟩ := hSw; first | (go_simp; done) | (go_simp; with_reducible rfl))
          try go_simp
          refine wpAnyH_take (i := 8) (v := ?vap_8) rfl (by kernel_rfl) (by kernel_rfl) (by kernel_rfl) (fun _ _ _ h => h) (Or.inl ⟨by rfl, ?yap_8⟩) ⟨(HC.out.cell (p := ⟨g, J * 4, none⟩) hgs.out).trans ka0.out, (HC.out.cell (p := ⟨g, J * 4 + 1, none⟩) hgs.out).trans ka1.out, (HC.out.cell (p := ⟨g, J * 4 + 2, none⟩) hgs.out).trans ka2.out, (HC.out.cell (p := ⟨g, J * 4 + 3, none⟩) hgs.out).trans ka3.out, (HC.out.cell (p := ⟨pb, poff + q, none⟩) hpbs.out).trans kcp.out⟩ ?rap_8
          case yap_8 => (intro W hSw; (try dsimp only at hSw); obtain ⟨s0, s1, s2, s3, s4⟩ := hSw; first | (go_simp; done) | (go_simp; with_reducible rfl))
          try go_simp
          refine wpAnyH_take (i := 9) (v := ?vap_9) rfl (by kernel_rfl) (by kernel_rfl) (by kernel_rfl) (fun _ _ _ h => h) (Or.inl ⟨by rfl, ?yap_9⟩) ⟨(HC.out.cell (p := ⟨g, J * 4, none⟩) hgs.out).trans ka0.out, (HC.out.cell (p := ⟨g, J * 4 + 1, none⟩) hgs.out).trans ka1.out, (HC.out.cell (p := ⟨g, J * 4 + 2, none⟩) hgs.out).trans ka2.out, (HC.out.cell (p := ⟨g, J * 4 + 3, none⟩) hgs.out).trans ka3.out, (HC.out.cell (p := ⟨pb, poff + q, none⟩) hpbs.out).trans kcp.out⟩ ?rap_9
          case yap_9 => (intro W hSw; (try dsimp only at hSw); obtain ⟨s0, s1, s2, s3, s4⟩ := hSw; first | (go_simp; done) | (go_simp; with_reducible rfl))
          try go_simp
          refine wpAnyH_take (i := 10) (v := ?vap_10) rfl (by kernel_rfl) (by kernel_rfl) (by kernel_rfl) (fun _ _ _ h => h) (Or.inl ⟨by rfl, ?yap_10⟩) ⟨(HC.out.cell (p := ⟨g, J * 4, none⟩) hgs.out).trans ka0.out, (HC.out.cell (p := ⟨g, J * 4 + 1, none⟩) hgs.out).trans ka1.out, (HC.out.cell (p := ⟨g, J * 4 + 2, none⟩) hgs.out).trans ka2.out, (HC.out.cell (p := ⟨g, J * 4 + 3, none⟩) hgs.out).trans ka3.out, (HC.out.cell (p := ⟨pb, poff + q, none⟩) hpbs.out).trans kcp.out⟩ ?rap_10
          case yap_10 => (intro W hSw; (try dsimp only at hSw); obtain ⟨s0, s1, s2, s3, s4⟩ := hSw; first | (go_simp; done) | (go_simp; with_reducible rfl))
          try go_simp
          refine wpAnyH_ready (rs := [11, 16, 17]) (by kernel_rfl) (by simp) ?_
          refine AllReadyH.cons rfl (fun K hK => ?_) (AllReadyH.cons rfl (fun K hK => ?_) (AllReadyH.cons rfl (fun K hK => ?_) AllReadyH.nil))
          · go_simp
            go_wp2_with (first | (go_at_call 22; ((with_reducible refine (HSP _).out.mono ?_); rintro e wzp11 ⟨rfl, hb⟩; have HC := Lib.hid (HC.out.trans (hb.mono HC.out.size)); clear hb)))
            refine hK.out _ _ ⟨(HC.out.cell (p := ⟨g, J * 4, none⟩) hgs.out).trans ka0.out, (HC.out.cell (p := ⟨g, J * 4 + 1, none⟩) hgs.out).trans ka1.out, (HC.out.cell (p := ⟨g, J * 4 + 2, none⟩) hgs.out).trans ka2.out, (HC.out.cell (p := ⟨g, J * 4 + 3, none⟩) hgs.out).trans ka3.out, (HC.out.cell (p := ⟨pb, poff + q, none⟩) hpbs.out).trans kcp.out⟩ (fun _ => ?_)
            clear hK K
            try go_simp
            refine wpAnyH_take (i := 12) (v := ?vp11_12) rfl (by kernel_rfl) (by kernel_rfl) (by kernel_rfl) (fun _ _ _ h => h) (Or.inl ⟨by rfl, ?yp11_12⟩) ⟨(HC.out.cell (p := ⟨g, J * 4, none⟩) hgs.out).trans ka0.out, (HC.out.cell (p := ⟨g, J * 4 + 1, none⟩) hgs.out).trans ka1.out, (HC.out.cell (p := ⟨g, J * 4 + 2, none⟩) hgs.out).trans ka2.out, (HC.out.cell (p := ⟨g, J * 4 + 3, none⟩) hgs.out).trans ka3.out, (HC.out.cell (p := ⟨pb, poff + q, none⟩) hpbs.out).trans kcp.out⟩ ?rp11_12
            case yp11_12 => (intro W hSw; (try dsimp only at hSw); obtain ⟨s0, s1, s2, s3, s4⟩ := hSw; first | (go_simp; done) | (go_simp; with_reducible rfl))
            try go_simp
            refine wpAnyH_take (i := 13) (v := ?vp11_13) rfl (by kernel_rfl) (by kernel_rfl) (by kernel_rfl) (fun _ _ _ h => h) (Or.inl ⟨by rfl, ?yp11_13⟩) ⟨(HC.out.cell (p := ⟨g, J * 4, none⟩) hgs.out).trans ka0.out, (HC.out.cell (p := ⟨g, J * 4 + 1, none⟩) hgs.out).trans ka1.out, (HC.out.cell (p := ⟨g, J * 4 + 2, none⟩) hgs.out).trans ka2.out, (HC.out.cell (p := ⟨g, J * 4 + 3, none⟩) hgs.out).trans ka3.out, (HC.out.cell (p := ⟨pb, poff + q, none⟩) hpbs.out).trans kcp.out⟩ ?rp11_13
            case yp11_13 => (intro W hSw; (try dsimp only at hSw); obtain ⟨s0, s1, s2, s3, s4⟩ := hSw; first | (go_simp; done) | (go_simp; with_reducible rfl))
            try go_simp
            refine wpAnyH_take (i := 14) (v := ?vp11_14) rfl (by kernel_rfl) (by kernel_rfl) (by kernel_rfl) (fun _ _ _ h => h) (Or.inl ⟨by rfl, ?yp11_14⟩) ⟨(HC.out.cell (p := ⟨g, J * 4, none⟩) hgs.out).trans ka0.out, (HC.out.cell (p := ⟨g, J * 4 + 1, none⟩) hgs.out).trans ka1.out, (HC.out.cell (p := ⟨g, J * 4 + 2, none⟩) hgs.out).trans ka2.out, (HC.out.cell (p := ⟨g, J * 4 + 3, none⟩) hgs.out).trans ka3.out, (HC.out.cell (p := ⟨pb, poff + q, none⟩) hpbs.out).trans kcp.out⟩ ?rp11_14
            case yp11_14 => (intro W hSw; (try dsimp only at hSw); obtain ⟨s0, s1, s2, s3, s4⟩ := hSw; first | (go_simp; done) | (go_simp; with_reducible rfl))
            try go_simp
            refine wpAnyH_take (i := 15) (v := ?vp11_15) rfl (by kernel_rfl) (by kernel_rfl) (by kernel_rfl) (fun _ _ _ h => h) (Or.inl ⟨by rfl, ?yp11_15⟩) ⟨(HC.out.cell (p := ⟨g, J * 4, none⟩) hgs.out).trans ka0.out, (HC.out.cell (p := ⟨g, J * 4 + 1, none⟩) hgs.out).trans ka1.out, (HC.out.cell (p := ⟨g, J * 4 + 2, none⟩) hgs.out).trans ka2.out, (HC.out.cell (p := ⟨g, J * 4 + 3, none⟩) hgs.out).trans ka3.out, (HC.out.cell (p := ⟨pb, poff + q, none⟩) hpbs.out).trans kcp.out⟩ ?rp11_15
            case yp11_15 => (intro W hSw; (try dsimp only at hSw); obtain ⟨s0, s1, s2, s3, s4⟩ := hSw; first | (go_simp; done) | (go_simp; with_reducible rfl))
            try go_simp
            refine wpAnyH_ready (rs := [16, 17]) (by kernel_rfl) (by simp) ?_
            refine AllReadyH.cons rfl (fun K hK => ?_) (AllReadyH.cons rfl (fun K hK => ?_) AllReadyH.nil)
            · go_simp
              have HpA := Lib.hid (show At (wzp11.alloc (.cells #[.int .i64 0, .int .i64 0, .float .f64 0, .float .f64 0] 34)) wzp11.heap.size RV.zero from at_new wzp11 RV.zero)
              have hpA := HC.out.size
              have HC := Lib.hid (HC.out.alloc HC.out.size (.cells #[.int .i64 0, .int .i64 0, .float .f64 0, .float .f64 0] 34))
              generalize hgen : wzp11.alloc (.cells #[.int .i64 0, .int .i64 0, .float .f64 0, .float .f64 0] 34) = wqp1116 at *
              clear hgen
              refine hK.out _ _ ⟨(HC.out.cell (p := ⟨g, J * 4, none⟩) hgs.out).trans ka0.out, (HC.out.cell (p := ⟨g, J * 4 + 1, none⟩) hgs.out).trans ka1.out, (HC.out.cell (p := ⟨g, J * 4 + 2, none⟩) hgs.out).trans ka2.out, (HC.out.cell (p := ⟨g, J * 4 + 3, none⟩) hgs.out).trans ka3.out, (HC.out.cell (p := ⟨pb, poff + q, none⟩) hpbs.out).trans kcp.out⟩ (fun _ => ?_)
              clear hK K
              try go_simp
              refine wpAnyH_ready (rs := [17]) (by kernel_rfl) (by simp) ?_
              refine AllReadyH.cons rfl (fun K hK => ?_) AllReadyH.nil
              · go_simp
                have HpB := Lib.hid (show At (wqp1116.alloc (.cells #[.int .i64 0, .int .i64 0, .float .f64 0, .float .f64 0] 34)) wqp1116.heap.size RV.zero from at_new wqp1116 RV.zero)
                have hpB := HC.out.size
                have npA := HpA.out.lt; have HpA := Lib.hid (HpA.out.alloc (.cells #[.int .i64 0, .int .i64 0, .float .f64 0, .float .f64 0] 34))
                have HC := Lib.hid (HC.out.alloc HC.out.size (.cells #[.int .i64 0, .int .i64 0, .float .f64 0, .float .f64 0] 34))
                generalize hgen : wqp1116.alloc (.cells #[.int .i64 0, .int .i64 0, .float .f64 0, .float .f64 0] 34) = wqp111617 at *
                clear hgen
                refine hK.out _ _ ⟨(HC.out.cell (p := ⟨g, J * 4, none⟩) hgs.out).trans ka0.out, (HC.out.cell (p := ⟨g, J * 4 + 1, none⟩) hgs.out).trans ka1.out, (HC.out.cell (p := ⟨g, J * 4 + 2, none⟩) hgs.out).trans ka2.out, (HC.out.cell (p := ⟨g, J * 4 + 3, none⟩) hgs.out).trans ka3.out, (HC.out.cell (p := ⟨pb, poff + q, none⟩) hpbs.out).trans kcp.out⟩ (fun _ => ?_)
                clear hK K
                try go_simp
                have hne : wzp11.heap.size ≠ wqp1116.heap.size := by omega
                have pA0 := HpA.out.c0; have pA1 := HpA.out.c1; have pA2 := HpA.out.c2; have pA3 := HpA.out.c3; have pA4 := HpA.out.f0; have pA5 := HpA.out.f1; have pA6 := HpA.out.f2; have pA7 := HpA.out.f3
                refine wpAnyH_ready (rs := [18]) (by kernel_rfl) (by simp) ?_
                refine AllReadyH.cons rfl (fun K hK => ?_) AllReadyH.nil
                go_simp
                have Hm := Lib.hid (show At (((((wqp111617).setCell ⟨wzp11.heap.size, 0, none⟩ (.int .i64 sai)).setCell ⟨wzp11.heap.size, 1, none⟩ (.int .i64 sae)).setCell ⟨wzp11.heap.size, 2, none⟩ (.float .f64 sal)).setCell ⟨wzp11.heap.size, 3, none⟩ (.float .f64 sah)) wzp11.heap.size ⟨sai, sae, sal, sah⟩ from HpA.out.setAll ⟨sai, sae, sal, sah⟩)
                have Ho := Lib.hid (show At (((((wqp111617).setCell ⟨wzp11.heap.size, 0, none⟩ (.int .i64 sai)).setCell ⟨wzp11.heap.size, 1, none⟩ (.int .i64 sae)).setCell ⟨wzp11.heap.size, 2, none⟩ (.float .f64 sal)).setCell ⟨wzp11.heap.size, 3, none⟩ (.float .f64 sah)) wqp1116.heap.size RV.zero from HpB.out.set_other ⟨sai, sae, sal, sah⟩ hne.symm)
                have HC := Lib.hid (show Below wr.heap.size wr (((((wqp111617).setCell ⟨wzp11.heap.size, 0, none⟩ (.int .i64 sai)).setCell ⟨wzp11.heap.size, 1, none⟩ (.int .i64 sae)).setCell ⟨wzp11.heap.size, 2, none⟩ (.float .f64 sal)).setCell ⟨wzp11.heap.size, 3, none⟩ (.float .f64 sah)) from below_set4 HC.out hpA ⟨sai, sae, sal, sah⟩)
                clear HpA HpB pA0 pA1 pA2 pA3 pA4 pA5 pA6 pA7
                have HpA := Hm; have HpB := Ho; clear Hm Ho
                generalize ((((wqp111617).setCell ⟨wzp11.heap.size, 0, none⟩ (.int .i64 sai)).setCell ⟨wzp11.heap.size, 1, none⟩ (.int .i64 sae)).setCell ⟨wzp11.heap.size, 2, none⟩ (.float .f64 sal)).setCell ⟨wzp11.heap.size, 3, none⟩ (.float .f64 sah) = wtp11161718 at *
                refine hK.out _ _ ⟨(HC.out.cell (p := ⟨g, J * 4, none⟩) hgs.out).trans ka0.out, (HC.out.cell (p := ⟨g, J * 4 + 1, none⟩) hgs.out).trans ka1.out, (HC.out.cell (p := ⟨g, J * 4 + 2, none⟩) hgs.out).trans ka2.out, (HC.out.cell (p := ⟨g, J * 4 + 3, none⟩) hgs.out).trans ka3.out, (HC.out.cell (p := ⟨pb, poff + q, none⟩) hpbs.out).trans kcp.out⟩ (fun _ => ?_)
                clear hK K
                try go_simp
                have pB0 := HpB.out.c0; have pB1 := HpB.out.c1; have pB2 := HpB.out.c2; have pB3 := HpB.out.c3; have pB4 := HpB.out.f0; have pB5 := HpB.out.f1; have pB6 := HpB.out.f2; have pB7 := HpB.out.f3
                refine wpAnyH_ready (rs := [19]) (by kernel_rfl) (by simp) ?_
                refine AllReadyH.cons rfl (fun K hK => ?_) AllReadyH.nil
                go_simp
                have Hm := Lib.hid (show At (((((wtp11161718).setCell ⟨wqp1116.heap.size, 0, none⟩ (.int .i64 sbi)).setCell ⟨wqp1116.heap.size, 1, none⟩ (.int .i64 sbe)).setCell ⟨wqp1116.heap.size, 2, none⟩ (.float .f64 sbl)).setCell ⟨wqp1116.heap.size, 3, none⟩ (.float .f64 sbh)) wqp1116.heap.size ⟨sbi, sbe, sbl, sbh⟩ from HpB.out.setAll ⟨sbi, sbe, sbl, sbh⟩)
                have Ho := Lib.hid (show At (((((wtp11161718).setCell ⟨wqp1116.heap.size, 0, none⟩ (.int .i64 sbi)).setCell ⟨wqp1116.heap.size, 1, none⟩ (.int .i64 sbe)).setCell ⟨wqp1116.heap.size, 2, none⟩ (.float .f64 sbl)).setCell ⟨wqp1116.heap.size, 3, none⟩ (.float .f64 sbh)) wzp11.heap.size ⟨sai, sae, sal, sah⟩ from HpA.out.set_other ⟨sbi, sbe, sbl, sbh⟩ hne)
                have HC := Lib.hid (show Below wr.heap.size wr (((((wtp11161718).setCell ⟨wqp1116.heap.size, 0, none⟩ (.int .i64 sbi)).setCell ⟨wqp1116.heap.size, 1, none⟩ (.int .i64 sbe)).setCell ⟨wqp1116.heap.size, 2, none⟩ (.float .f64 sbl)).setCell ⟨wqp1116.heap.size, 3, none⟩ (.float .f64 sbh)) from below_set4 HC.out hpB ⟨sbi, sbe, sbl, sbh⟩)
                clear HpB HpA pB0 pB1 pB2 pB3 pB4 pB5 pB6 pB7
                have HpB := Hm; have HpA := Ho; clear Hm Ho
                generalize ((((wtp11161718).setCell ⟨wqp1116.heap.size, 0, none⟩ (.int .i64 sbi)).setCell ⟨wqp1116.heap.size, 1, none⟩ (.int .i64 sbe)).setCell ⟨wqp1116.heap.size, 2, none⟩ (.float .f64 sbl)).setCell ⟨wqp1116.heap.size, 3, none⟩ (.float .f64 sbh) = wtp11161719 at *
                refine hK.out _ _ ⟨(HC.out.cell (p := ⟨g, J * 4, none⟩) hgs.out).trans ka0.out, (HC.out.cell (p := ⟨g, J * 4 + 1, none⟩) hgs.out).trans ka1.out, (HC.out.cell (p := ⟨g, J * 4 + 2, none⟩) hgs.out).trans ka2.out, (HC.out.cell (p := ⟨g, J * 4 + 3, none⟩) hgs.out).trans ka3.out, (HC.out.cell (p := ⟨pb, poff + q, none⟩) hpbs.out).trans kcp.out⟩ (fun _ => ?_)
                clear hK K
                try go_simp
                refine wpAnyH_take (i := 20) (v := ?vlp111617_20) rfl (by kernel_rfl) (by kernel_rfl) (by kernel_rfl) (fun _ _ _ h => h) (Or.inl ⟨by rfl, ?ylp111617_20⟩) ⟨(HC.out.cell (p := ⟨g, J * 4, none⟩) hgs.out).trans ka0.out, (HC.out.cell (p := ⟨g, J * 4 + 1, none⟩) hgs.out).trans ka1.out, (HC.out.cell (p := ⟨g, J * 4 + 2, none⟩) hgs.out).trans ka2.out, (HC.out.cell (p := ⟨g, J * 4 + 3, none⟩) hgs.out).trans ka3.out, (HC.out.cell (p := ⟨pb, poff + q, none⟩) hpbs.out).trans kcp.out⟩ ?rlp111617_20
                case ylp111617_20 => (intro W hSw; (try dsimp only at hSw); obtain ⟨s0, s1, s2, s3, s4⟩ := hSw; first | (go_simp; done) | (go_simp; with_reducible rfl))
                try go_simp
                refine wpAnyH_done (by kernel_rfl) ?_ _
                (try go_wp2_with fail)
                go_meet
                exact ⟨_, _, rfl, rfl, rfl, HpA, HpB, hne, hpA, hpB, HC⟩
            · go_simp
              have HpB := Lib.hid (show At (wzp11.alloc (.cells #[.int .i64 0, .int .i64 0, .float .f64 0, .float .f64 0] 34)) wzp11.heap.size RV.zero from at_new wzp11 RV.zero)
              have hpB := HC.out.size
              have HC := Lib.hid (HC.out.alloc HC.out.size (.cells #[.int .i64 0, .int .i64 0, .float .f64 0, .float .f64 0] 34))
              generalize hgen : wzp11.alloc (.cells #[.int .i64 0, .int .i64 0, .float .f64 0, .float .f64 0] 34) = wqp1117 at *
              clear hgen
              refine hK.out _ _ ⟨(HC.out.cell (p := ⟨g, J * 4, none⟩) hgs.out).trans ka0.out, (HC.out.cell (p := ⟨g, J * 4 + 1, none⟩) hgs.out).trans ka1.out, (HC.out.cell (p := ⟨g, J * 4 + 2, none⟩) hgs.out).trans ka2.out, (HC.out.cell (p := ⟨g, J * 4 + 3, none⟩) hgs.out).trans ka3.out, (HC.out.cell (p := ⟨pb, poff + q, none⟩) hpbs.out).trans kcp.out⟩ (fun _ => ?_)
              clear hK K
              try go_simp
              refine wpAnyH_ready (rs := [16]) (by kernel_rfl) (by simp) ?_
              refine AllReadyH.cons rfl (fun K hK => ?_) AllReadyH.nil
              · go_simp
                have HpA := Lib.hid (show At (wqp1117.alloc (.cells #[.int .i64 0, .int .i64 0, .float .f64 0, .float .f64 0] 34)) wqp1117.heap.size RV.zero from at_new wqp1117 RV.zero)
                have hpA := HC.out.size
                have npB := HpB.out.lt; have HpB := Lib.hid (HpB.out.alloc (.cells #[.int .i64 0, .int .i64 0, .float .f64 0, .float .f64 0] 34))
                have HC := Lib.hid (HC.out.alloc HC.out.size (.cells #[.int .i64 0, .int .i64 0, .float .f64 0, .float .f64 0] 34))
                generalize hgen : wqp1117.alloc (.cells #[.int .i64 0, .int .i64 0, .float .f64 0, .float .f64 0] 34) = wqp111716 at *
                clear hgen
                refine hK.out _ _ ⟨(HC.out.cell (p := ⟨g, J * 4, none⟩) hgs.out).trans ka0.out, (HC.out.cell (p := ⟨g, J * 4 + 1, none⟩) hgs.out).trans ka1.out, (HC.out.cell (p := ⟨g, J * 4 + 2, none⟩) hgs.out).trans ka2.out, (HC.out.cell (p := ⟨g, J * 4 + 3, none⟩) hgs.out).trans ka3.out, (HC.out.cell (p := ⟨pb, poff + q, none⟩) hpbs.out).trans kcp.out⟩ (fun _ => ?_)
                clear hK K
                try go_simp
                have hne : wqp1117.heap.size ≠ wzp11.heap.size := by omega
                have pA0 := HpA.out.c0; have pA1 := HpA.out.c1; have pA2 := HpA.out.c2; have pA3 := HpA.out.c3; have pA4 := HpA.out.f0; have pA5 := HpA.out.f1; have pA6 := HpA.out.f2; have pA7 := HpA.out.f3
                refine wpAnyH_ready (rs := [18]) (by kernel_rfl) (by simp) ?_
                refine AllReadyH.cons rfl (fun K hK => ?_) AllReadyH.nil
                go_simp
                have Hm := Lib.hid (show At (((((wqp111716).setCell ⟨wqp1117.heap.size, 0, none⟩ (.int .i64 sai)).setCell ⟨wqp1117.heap.size, 1, none⟩ (.int .i64 sae)).setCell ⟨wqp1117.heap.size, 2, none⟩ (.float .f64 sal)).setCell ⟨wqp1117.heap.size, 3, none⟩ (.float .f64 sah)) wqp1117.heap.size ⟨sai, sae, sal, sah⟩ from HpA.out.setAll ⟨sai, sae, sal, sah⟩)
                have Ho := Lib.hid (show At (((((wqp111716).setCell ⟨wqp1117.heap.size, 0, none⟩ (.int .i64 sai)).setCell ⟨wqp1117.heap.size, 1, none⟩ (.int .i64 sae)).setCell ⟨wqp1117.heap.size, 2, none⟩ (.float .f64 sal)).setCell ⟨wqp1117.heap.size, 3, none⟩ (.float .f64 sah)) wzp11.heap.size RV.zero from HpB.out.set_other ⟨sai, sae, sal, sah⟩ hne.symm)
                have HC := Lib.hid (show Below wr.heap.size wr (((((wqp111716).setCell ⟨wqp1117.heap.size, 0, none⟩ (.int .i64 sai)).setCell ⟨wqp1117.heap.size, 1, none⟩ (.int .i64 sae)).setCell ⟨wqp1117.heap.size, 2, none⟩ (.float .f64 sal)).setCell ⟨wqp1117.heap.size, 3, none⟩ (.float .f64 sah)) from below_set4 HC.out hpA ⟨sai, sae, sal, sah⟩)
                clear HpA HpB pA0 pA1 pA2 pA3 pA4 pA5 pA6 pA7
                have HpA := Hm; have HpB := Ho; clear Hm Ho
                generalize ((((wqp111716).setCell ⟨wqp1117.heap.size, 0, none⟩ (.int .i64 sai)).setCell ⟨wqp1117.heap.size, 1, none⟩ (.int .i64 sae)).setCell ⟨wqp1117.heap.size, 2, none⟩ (.float .f64 sal)).setCell ⟨wqp1117.heap.size, 3, none⟩ (.float .f64 sah) = wtp11171618 at *
                refine hK.out _ _ ⟨(HC.out.cell (p := ⟨g, J * 4, none⟩) hgs.out).trans ka0.out, (HC.out.cell (p := ⟨g, J * 4 + 1, none⟩) hgs.out).trans ka1.out, (HC.out.cell (p := ⟨g, J * 4 + 2, none⟩) hgs.out).trans ka2.out, (HC.out.cell (p := ⟨g, J * 4 + 3, none⟩) hgs.out).trans ka3.out, (HC.out.cell (p := ⟨pb, poff + q, none⟩) hpbs.out).trans kcp.out⟩ (fun _ => ?_)
                clear hK K
                try go_simp
                have pB0 := HpB.out.c0; have pB1 := HpB.out.c1; have pB2 := HpB.out.c2; have pB3 := HpB.out.c3; have pB4 := HpB.out.f0; have pB5 := HpB.out.f1; have pB6 := HpB.out.f2; have pB7 := HpB.out.f3
                refine wpAnyH_ready (rs := [19]) (by kernel_rfl) (by simp) ?_
                refine AllReadyH.cons rfl (fun K hK => ?_) AllReadyH.nil
                go_simp
                have Hm := Lib.hid (show At (((((wtp11171618).setCell ⟨wzp11.heap.size, 0, none⟩ (.int .i64 sbi)).setCell ⟨wzp11.heap.size, 1, none⟩ (.int .i64 sbe)).setCell ⟨wzp11.heap.size, 2, none⟩ (.float .f64 sbl)).setCell ⟨wzp11.heap.size, 3, none⟩ (.float .f64 sbh)) wzp11.heap.size ⟨sbi, sbe, sbl, sbh⟩ from HpB.out.setAll ⟨sbi, sbe, sbl, sbh⟩)
                have Ho := Lib.hid (show At (((((wtp11171618).setCell ⟨wzp11.heap.size, 0, none⟩ (.int .i64 sbi)).setCell ⟨wzp11.heap.size, 1, none⟩ (.int .i64 sbe)).setCell ⟨wzp11.heap.size, 2, none⟩ (.float .f64 sbl)).setCell ⟨wzp11.heap.size, 3, none⟩ (.float .f64 sbh)) wqp1117.heap.size ⟨sai, sae, sal, sah⟩ from HpA.out.set_other ⟨sbi, sbe, sbl, sbh⟩ hne)
                have HC := Lib.hid (show Below wr.heap.size wr (((((wtp11171618).setCell ⟨wzp11.heap.size, 0, none⟩ (.int .i64 sbi)).setCell ⟨wzp11.heap.size, 1, none⟩ (.int .i64 sbe)).setCell ⟨wzp11.heap.size, 2, none⟩ (.float .f64 sbl)).setCell ⟨wzp11.heap.size, 3, none⟩ (.float .f64 sbh)) from below_set4 HC.out hpB ⟨sbi, sbe, sbl, sbh⟩)
                clear HpB HpA pB0 pB1 pB2 pB3 pB4 pB5 pB6 pB7
                have HpB := Hm; have HpA := Ho; clear Hm Ho
                generalize ((((wtp11171618).setCell ⟨wzp11.heap.size, 0, none⟩ (.int .i64 sbi)).setCell ⟨wzp11.heap.size, 1, none⟩ (.int .i64 sbe)).setCell ⟨wzp11.heap.size, 2, none⟩ (.float .f64 sbl)).setCell ⟨wzp11.heap.size, 3, none⟩ (.float .f64 sbh) = wtp11171619 at *
                refine hK.out _ _ ⟨(HC.out.cell (p := ⟨g, J * 4, none⟩) hgs.out).trans ka0.out, (HC.out.cell (p := ⟨g, J * 4 + 1, none⟩) hgs.out).trans ka1.out, (HC.out.cell (p := ⟨g, J * 4 + 2, none⟩) hgs.out).trans ka2.out, (HC.out.cell (p := ⟨g, J * 4 + 3, none⟩) hgs.out).trans ka3.out, (HC.out.cell (p := ⟨pb, poff + q, none⟩) hpbs.out).trans kcp.out⟩ (fun _ => ?_)
                clear hK K
                try go_simp
                refine wpAnyH_take (i := 20) (v := ?vlp111716_20) rfl (by kernel_rfl) (by kernel_rfl) (by kernel_rfl) (fun _ _ _ h => h) (Or.inl ⟨by rfl, ?ylp111716_20⟩) ⟨(HC.out.cell (p := ⟨g, J * 4, none⟩) hgs.out).trans ka0.out, (HC.out.cell (p := ⟨g, J * 4 + 1, none⟩) hgs.out).trans ka1.out, (HC.out.cell (p := ⟨g, J * 4 + 2, none⟩) hgs.out).trans ka2.out, (HC.out.cell (p := ⟨g, J * 4 + 3, none⟩) hgs.out).trans ka3.out, (HC.out.cell (p := ⟨pb, poff + q, none⟩) hpbs.out).trans kcp.out⟩ ?rlp111716_20
                case ylp111716_20 => (intro W hSw; (try dsimp only at hSw); obtain ⟨s0, s1, s2, s3, s4⟩ := hSw; first | (go_simp; done) | (go_simp; with_reducible rfl))
                try go_simp
                refine wpAnyH_done (by kernel_rfl) ?_ _
                (try go_wp2_with fail)
                go_meet
                exact ⟨_, _, rfl, rfl, rfl, HpA, HpB, hne, hpA, hpB, HC⟩
          · go_simp
            have HpA := Lib.hid (show At (wr.drew.alloc (.cells #[.int .i64 0, .int .i64 0, .float .f64 0, .float .f64 0] 34)) wr.heap.size RV.zero from at_new wr.drew RV.zero)
            have hpA := HC.out.size
            have HC := Lib.hid (HC.out.alloc HC.out.size (.cells #[.int .i64 0, .int .i64 0, .float .f64 0, .float .f64 0] 34))
            rw [show wr.drew.alloc (.cells #[.int .i64 0, .int .i64 0, .float .f64 0, .float .f64 0] 34) = (wr.alloc (.cells #[.int .i64 0, .int .i64 0, .float .f64 0, .float .f64 0] 34)).drew from rfl] at HpA HC
            generalize hgen : (wr.alloc (.cells #[.int .i64 0, .int .i64 0, .float .f64 0, .float .f64 0] 34)).drew = wqp16 at *
            clear hgen
            refine hK.out _ _ ⟨(HC.out.cell (p := ⟨g, J * 4, none⟩) hgs.out).trans ka0.out, (HC.out.cell (p := ⟨g, J * 4 + 1, none⟩) hgs.out).trans ka1.out, (HC.out.cell (p := ⟨g, J * 4 + 2, none⟩) hgs.out).trans ka2.out, (HC.out.cell (p := ⟨g, J * 4 + 3, none⟩) hgs.out).trans ka3.out, (HC.out.cell (p := ⟨pb, poff + q, none⟩) hpbs.out).trans kcp.out⟩ (fun _ => ?_)
            clear hK K
            try go_simp
            refine wpAnyH_ready (rs := [11, 17]) (by kernel_rfl) (by simp) ?_
            refine AllReadyH.cons rfl (fun K hK => ?_) (AllReadyH.cons rfl (fun K hK => ?_) AllReadyH.nil)
            · go_simp
              go_wp2_with (first | (go_at_call 22; ((with_reducible refine (HSP _).out.mono ?_); rintro e wzp1611 ⟨rfl, hb⟩; have HpA := Lib.hid (HpA.out.below hb HpA.out.lt); have HC := Lib.hid (HC.out.trans (hb.mono HC.out.size)); clear hb)))
              refine hK.out _ _ ⟨(HC.out.cell (p := ⟨g, J * 4, none⟩) hgs.out).trans ka0.out, (HC.out.cell (p := ⟨g, J * 4 + 1, none⟩) hgs.out).trans ka1.out, (HC.out.cell (p := ⟨g, J * 4 + 2, none⟩) hgs.out).trans ka2.out, (HC.out.cell (p := ⟨g, J * 4 + 3, none⟩) hgs.out).trans ka3.out, (HC.out.cell (p := ⟨pb, poff + q, none⟩) hpbs.out).trans kcp.out⟩ (fun _ => ?_)
              clear hK K
              try go_simp
              refine wpAnyH_take (i := 12) (v := ?vp1611_12) rfl (by kernel_rfl) (by kernel_rfl) (by kernel_rfl) (fun _ _ _ h => h) (Or.inl ⟨by rfl, ?yp1611_12⟩) ⟨(HC.out.cell (p := ⟨g, J * 4, none⟩) hgs.out).trans ka0.out, (HC.out.cell (p := ⟨g, J * 4 + 1, none⟩) hgs.out).trans ka1.out, (HC.out.cell (p := ⟨g, J * 4 + 2, none⟩) hgs.out).trans ka2.out, (HC.out.cell (p := ⟨g, J * 4 + 3, none⟩) hgs.out).trans ka3.out, (HC.out.cell (p := ⟨pb, poff + q, none⟩) hpbs.out).trans kcp.out⟩ ?rp1611_12
              case yp1611_12 => (intro W hSw; (try dsimp only at hSw); obtain ⟨s0, s1, s2, s3, s4⟩ := hSw; first | (go_simp; done) | (go_simp; with_reducible rfl))
              try go_simp
              refine wpAnyH_take (i := 13) (v := ?vp1611_13) rfl (by kernel_rfl) (by kernel_rfl) (by kernel_rfl) (fun _ _ _ h => h) (Or.inl ⟨by rfl, ?yp1611_13⟩) ⟨(HC.out.cell (p := ⟨g, J * 4, none⟩) hgs.out).trans ka0.out, (HC.out.cell (p := ⟨g, J * 4 + 1, none⟩) hgs.out).trans ka1.out, (HC.out.cell (p := ⟨g, J * 4 + 2, none⟩) hgs.out).trans ka2.out, (HC.out.cell (p := ⟨g, J * 4 + 3, none⟩) hgs.out).trans ka3.out, (HC.out.cell (p := ⟨pb, poff + q, none⟩) hpbs.out).trans kcp.out⟩ ?rp1611_13
              case yp1611_13 => (intro W hSw; (try dsimp only at hSw); obtain ⟨s0, s1, s2, s3, s4⟩ := hSw; first | (go_simp; done) | (go_simp; with_reducible rfl))
              try go_simp
              refine wpAnyH_take (i := 14) (v := ?vp1611_14) rfl (by kernel_rfl) (by kernel_rfl) (by kernel_rfl) (fun _ _ _ h => h) (Or.inl ⟨by rfl, ?yp1611_14⟩) ⟨(HC.out.cell (p := ⟨g, J * 4, none⟩) hgs.out).trans ka0.out, (HC.out.cell (p := ⟨g, J * 4 + 1, none⟩) hgs.out).trans ka1.out, (HC.out.cell (p := ⟨g, J * 4 + 2, none⟩) hgs.out).trans ka2.out, (HC.out.cell (p := ⟨g, J * 4 + 3, none⟩) hgs.out).trans ka3.out, (HC.out.cell (p := ⟨pb, poff + q, none⟩) hpbs.out).trans kcp.out⟩ ?rp1611_14
              case yp1611_14 => (intro W hSw; (try dsimp only at hSw); obtain ⟨s0, s1, s2, s3, s4⟩ := hSw; first | (go_simp; done) | (go_simp; with_reducible rfl))
              try go_simp
              refine wpAnyH_take (i := 15) (v := ?vp1611_15) rfl (by kernel_rfl) (by kernel_rfl) (by kernel_rfl) (fun _ _ _ h => h) (Or.inl ⟨by rfl, ?yp1611_15⟩) ⟨(HC.out.cell (p := ⟨g, J * 4, none⟩) hgs.out).trans ka0.out, (HC.out.cell (p := ⟨g, J * 4 + 1, none⟩) hgs.out).trans ka1.out, (HC.out.cell (p := ⟨g, J * 4 + 2, none⟩) hgs.out).trans ka2.out, (HC.out.cell (p := ⟨g, J * 4 + 3, none⟩) hgs.out).trans ka3.out, (HC.out.cell (p := ⟨pb, poff + q, none⟩) hpbs.out).trans kcp.out⟩ ?rp1611_15
              case yp1611_15 => (intro W hSw; (try dsimp only at hSw); obtain ⟨s0, s1, s2, s3, s4⟩ := hSw; first | (go_simp; done) | (go_simp; with_reducible rfl))
              try go_simp
              refine wpAnyH_ready (rs := [17]) (by kernel_rfl) (by simp) ?_
              refine AllReadyH.cons rfl (fun K hK => ?_) AllReadyH.nil
              · go_simp
                have HpB := Lib.hid (show At (wzp1611.alloc (.cells #[.int .i64 0, .int .i64 0, .float .f64 0, .float .f64 0] 34)) wzp1611.heap.size RV.zero from at_new wzp1611 RV.zero)
                have hpB := HC.out.size
                have npA := HpA.out.lt; have HpA := Lib.hid (HpA.out.alloc (.cells #[.int .i64 0, .int .i64 0, .float .f64 0, .float .f64 0] 34))
                have HC := Lib.hid (HC.out.alloc HC.out.size (.cells #[.int .i64 0, .int .i64 0, .float .f64 0, .float .f64 0] 34))
                generalize hgen : wzp1611.alloc (.cells #[.int .i64 0, .int .i64 0, .float .f64 0, .float .f64 0] 34) = wqp161117 at *
                clear hgen
                refine hK.out _ _ ⟨(HC.out.cell (p := ⟨g, J * 4, none⟩) hgs.out).trans ka0.out, (HC.out.cell (p := ⟨g, J * 4 + 1, none⟩) hgs.out).trans ka1.out, (HC.out.cell (p := ⟨g, J * 4 + 2, none⟩) hgs.out).trans ka2.out, (HC.out.cell (p := ⟨g, J * 4 + 3, none⟩) hgs.out).trans ka3.out, (HC.out.cell (p := ⟨pb, poff + q, none⟩) hpbs.out).trans kcp.out⟩ (fun _ => ?_)
                clear hK K
                try go_simp
                have hne : wr.heap.size ≠ wzp1611.heap.size := by omega
                have pA0 := HpA.out.c0; have pA1 := HpA.out.c1; have pA2 := HpA.out.c2; have pA3 := HpA.out.c3; have pA4 := HpA.out.f0; have pA5 := HpA.out.f1; have pA6 := HpA.out.f2; have pA7 := HpA.out.f3
                refine wpAnyH_ready (rs := [18]) (by kernel_rfl) (by simp) ?_
                refine AllReadyH.cons rfl (fun K hK => ?_) AllReadyH.nil
                go_simp
                have Hm := Lib.hid (show At (((((wqp161117).setCell ⟨wr.heap.size, 0, none⟩ (.int .i64 sai)).setCell ⟨wr.heap.size, 1, none⟩ (.int .i64 sae)).setCell ⟨wr.heap.size, 2, none⟩ (.float .f64 sal)).setCell ⟨wr.heap.size, 3, none⟩ (.float .f64 sah)) wr.heap.size ⟨sai, sae, sal, sah⟩ from HpA.out.setAll ⟨sai, sae, sal, sah⟩)
                have Ho := Lib.hid (show At (((((wqp161117).setCell ⟨wr.heap.size, 0, none⟩ (.int .i64 sai)).setCell ⟨wr.heap.size, 1, none⟩ (.int .i64 sae)).setCell ⟨wr.heap.size, 2, none⟩ (.float .f64 sal)).setCell ⟨wr.heap.size, 3, none⟩ (.float .f64 sah)) wzp1611.heap.size RV.zero from HpB.out.set_other ⟨sai, sae, sal, sah⟩ hne.symm)
                have HC := Lib.hid (show Below wr.heap.size wr (((((wqp161117).setCell ⟨wr.heap.size, 0, none⟩ (.int .i64 sai)).setCell ⟨wr.heap.size, 1, none⟩ (.int .i64 sae)).setCell ⟨wr.heap.size, 2, none⟩ (.float .f64 sal)).setCell ⟨wr.heap.size, 3, none⟩ (.float .f64 sah)) from below_set4 HC.out hpA ⟨sai, sae, sal, sah⟩)
                clear HpA HpB pA0 pA1 pA2 pA3 pA4 pA5 pA6 pA7
                have HpA := Hm; have HpB := Ho; clear Hm Ho
                generalize ((((wqp161117).setCell ⟨wr.heap.size, 0, none⟩ (.int .i64 sai)).setCell ⟨wr.heap.size, 1, none⟩ (.int .i64 sae)).setCell ⟨wr.heap.size, 2, none⟩ (.float .f64 sal)).setCell ⟨wr.heap.size, 3, none⟩ (.float .f64 sah) = wtp16111718 at *
                refine hK.out _ _ ⟨(HC.out.cell (p := ⟨g, J * 4, none⟩) hgs.out).trans ka0.out, (HC.out.cell (p := ⟨g, J * 4 + 1, none⟩) hgs.out).trans ka1.out, (HC.out.cell (p := ⟨g, J * 4 + 2, none⟩) hgs.out).trans ka2.out, (HC.out.cell (p := ⟨g, J * 4 + 3, none⟩) hgs.out).trans ka3.out, (HC.out.cell (p := ⟨pb, poff + q, none⟩) hpbs.out).trans kcp.out⟩ (fun _ => ?_)
                clear hK K
                try go_simp
                have pB0 := HpB.out.c0; have pB1 := HpB.out.c1; have pB2 := HpB.out.c2; have pB3 := HpB.out.c3; have pB4 := HpB.out.f0; have pB5 := HpB.out.f1; have pB6 := HpB.out.f2; have pB7 := HpB.out.f3
                refine wpAnyH_ready (rs := [19]) (by kernel_rfl) (by simp) ?_
                refine AllReadyH.cons rfl (fun K hK => ?_) AllReadyH.nil
                go_simp
                have Hm := Lib.hid (show At (((((wtp16111718).setCell ⟨wzp1611.heap.size, 0, none⟩ (.int .i64 sbi)).setCell ⟨wzp1611.heap.size, 1, none⟩ (.int .i64 sbe)).setCell ⟨wzp1611.heap.size, 2, none⟩ (.float .f64 sbl)).setCell ⟨wzp1611.heap.size, 3, none⟩ (.float .f64 sbh)) wzp1611.heap.size ⟨sbi, sbe, sbl, sbh⟩ from HpB.out.setAll ⟨sbi, sbe, sbl, sbh⟩)
                have Ho := Lib.hid (show At (((((wtp16111718).setCell ⟨wzp1611.heap.size, 0, none⟩ (.int .i64 sbi)).setCell ⟨wzp1611.heap.size, 1, none⟩ (.int .i64 sbe)).setCell ⟨wzp1611.heap.size, 2, none⟩ (.float .f64 sbl)).setCell ⟨wzp1611.heap.size, 3, none⟩ (.float .f64 sbh)) wr.heap.size ⟨sai, sae, sal, sah⟩ from HpA.out.set_other ⟨sbi, sbe, sbl, sbh⟩ hne)
                have HC := Lib.hid (show Below wr.heap.size wr (((((wtp16111718).setCell ⟨wzp1611.heap.size, 0, none⟩ (.int .i64 sbi)).setCell ⟨wzp1611.heap.size, 1, none⟩ (.int .i64 sbe)).setCell ⟨wzp1611.heap.size, 2, none⟩ (.float .f64 sbl)).setCell ⟨wzp1611.heap.size, 3, none⟩ (.float .f64 sbh)) from below_set4 HC.out hpB ⟨sbi, sbe, sbl, sbh⟩)
                clear HpB HpA pB0 pB1 pB2 pB3 pB4 pB5 pB6 pB7
                have HpB := Hm; have HpA := Ho; clear Hm Ho
                generalize ((((wtp16111718).setCell ⟨wzp1611.heap.size, 0, none⟩ (.int .i64 sbi)).setCell ⟨wzp1611.heap.size, 1, none⟩ (.int .i64 sbe)).setCell ⟨wzp1611.heap.size, 2, none⟩ (.float .f64 sbl)).setCell ⟨wzp1611.heap.size, 3, none⟩ (.float .f64 sbh) = wtp16111719 at *
                refine hK.out _ _ ⟨(HC.out.cell (p := ⟨g, J * 4, none⟩) hgs.out).trans ka0.out, (HC.out.cell (p := ⟨g, J * 4 + 1, none⟩) hgs.out).trans ka1.out, (HC.out.cell (p := ⟨g, J * 4 + 2, none⟩) hgs.out).trans ka2.out, (HC.out.cell (p := ⟨g, J * 4 + 3, none⟩) hgs.out).trans ka3.out, (HC.out.cell (p := ⟨pb, poff + q, none⟩) hpbs.out).trans kcp.out⟩ (fun _ => ?_)
                clear hK K
                try go_simp
                refine wpAnyH_take (i := 20) (v := ?vlp161117_20) rfl (by kernel_rfl) (by kernel_rfl) (by kernel_rfl) (fun _ _ _ h => h) (Or.inl ⟨by rfl, ?ylp161117_20⟩) ⟨(HC.out.cell (p := ⟨g, J * 4, none⟩) hgs.out).trans ka0.out, (HC.out.cell (p := ⟨g, J * 4 + 1, none⟩) hgs.out).trans ka1.out, (HC.out.cell (p := ⟨g, J * 4 + 2, none⟩) hgs.out).trans ka2.out, (HC.out.cell (p := ⟨g, J * 4 + 3, none⟩) hgs.out).trans ka3.out, (HC.out.cell (p := ⟨pb, poff + q, none⟩) hpbs.out).trans kcp.out⟩ ?rlp161117_20
                case ylp161117_20 => (intro W hSw; (try dsimp only at hSw); obtain ⟨s0, s1, s2, s3, s4⟩ := hSw; first | (go_simp; done) | (go_simp; with_reducible rfl))
                try go_simp
                refine wpAnyH_done (by kernel_rfl) ?_ _
                (try go_wp2_with fail)
                go_meet
                exact ⟨_, _, rfl, rfl, rfl, HpA, HpB, hne, hpA, hpB, HC⟩
            · go_simp
              have HpB := Lib.hid (show At (wqp16.alloc (.cells #[.int .i64 0, .int .i64 0, .float .f64 0, .float .f64 0] 34)) wqp16.heap.size RV.zero from at_new wqp16 RV.zero)
              have hpB := HC.out.size
              have npA := HpA.out.lt; have HpA := Lib.hid (HpA.out.alloc (.cells #[.int .i64 0, .int .i64 0, .float .f64 0, .float .f64 0] 34))
              have HC := Lib.hid (HC.out.alloc HC.out.size (.cells #[.int .i64 0, .int .i64 0, .float .f64 0, .float .f64 0] 34))
              generalize hgen : wqp16.alloc (.cells #[.int .i64 0, .int .i64 0, .float .f64 0, .float .f64 0] 34) = wqp1617 at *
              clear hgen
              refine hK.out _ _ ⟨(HC.out.cell (p := ⟨g, J * 4, none⟩) hgs.out).trans ka0.out, (HC.out.cell (p := ⟨g, J * 4 + 1, none⟩) hgs.out).trans ka1.out, (HC.out.cell (p := ⟨g, J * 4 + 2, none⟩) hgs.out).trans ka2.out, (HC.out.cell (p := ⟨g, J * 4 + 3, none⟩) hgs.out).trans ka3.out, (HC.out.cell (p := ⟨pb, poff + q, none⟩) hpbs.out).trans kcp.out⟩ (fun _ => ?_)
              clear hK K
              try go_simp
              refine wpAnyH_ready (rs := [11]) (by kernel_rfl) (by simp) ?_
              refine AllReadyH.cons rfl (fun K hK => ?_) AllReadyH.nil
              · go_simp
                go_wp2_with (first | (go_at_call 22; ((with_reducible refine (HSP _).out.mono ?_); rintro e wzp161711 ⟨rfl, hb⟩; have HpA := Lib.hid (HpA.out.below hb HpA.out.lt); have HpB := Lib.hid (HpB.out.below hb HpB.out.lt); have HC := Lib.hid (HC.out.trans (hb.mono HC.out.size)); clear hb)))
                refine hK.out _ _ ⟨(HC.out.cell (p := ⟨g, J * 4, none⟩) hgs.out).trans ka0.out, (HC.out.cell (p := ⟨g, J * 4 + 1, none⟩) hgs.out).trans ka1.out, (HC.out.cell (p := ⟨g, J * 4 + 2, none⟩) hgs.out).trans ka2.out, (HC.out.cell (p := ⟨g, J * 4 + 3, none⟩) hgs.out).trans ka3.out, (HC.out.cell (p := ⟨pb, poff + q, none⟩) hpbs.out).trans kcp.out⟩ (fun _ => ?_)
                clear hK K
                try go_simp
                refine wpAnyH_take (i := 12) (v := ?vp161711_12) rfl (by kernel_rfl) (by kernel_rfl) (by kernel_rfl) (fun _ _ _ h => h) (Or.inl ⟨by rfl, ?yp161711_12⟩) ⟨(HC.out.cell (p := ⟨g, J * 4, none⟩) hgs.out).trans ka0.out, (HC.out.cell (p := ⟨g, J * 4 + 1, none⟩) hgs.out).trans ka1.out, (HC.out.cell (p := ⟨g, J * 4 + 2, none⟩) hgs.out).trans ka2.out, (HC.out.cell (p := ⟨g, J * 4 + 3, none⟩) hgs.out).trans ka3.out, (HC.out.cell (p := ⟨pb, poff + q, none⟩) hpbs.out).trans kcp.out⟩ ?rp161711_12
                case yp161711_12 => (intro W hSw; (try dsimp only at hSw); obtain ⟨s0, s1, s2, s3, s4⟩ := hSw; first | (go_simp; done) | (go_simp; with_reducible rfl))
                try go_simp
                refine wpAnyH_take (i := 13) (v := ?vp161711_13) rfl (by kernel_rfl) (by kernel_rfl) (by kernel_rfl) (fun _ _ _ h => h) (Or.inl ⟨by rfl, ?yp161711_13⟩) ⟨(HC.out.cell (p := ⟨g, J * 4, none⟩) hgs.out).trans ka0.out, (HC.out.cell (p := ⟨g, J * 4 + 1, none⟩) hgs.out).trans ka1.out, (HC.out.cell (p := ⟨g, J * 4 + 2, none⟩) hgs.out).trans ka2.out, (HC.out.cell (p := ⟨g, J * 4 + 3, none⟩) hgs.out).trans ka3.out, (HC.out.cell (p := ⟨pb, poff + q, none⟩) hpbs.out).trans kcp.out⟩ ?rp161711_13
                case yp161711_13 => (intro W hSw; (try dsimp only at hSw); obtain ⟨s0, s1, s2, s3, s4⟩ := hSw; first | (go_simp; done) | (go_simp; with_reducible rfl))
                try go_simp
                refine wpAnyH_take (i := 14) (v := ?vp161711_14) rfl (by kernel_rfl) (by kernel_rfl) (by kernel_rfl) (fun _ _ _ h => h) (Or.inl ⟨by rfl, ?yp161711_14⟩) ⟨(HC.out.cell (p := ⟨g, J * 4, none⟩) hgs.out).trans ka0.out, (HC.out.cell (p := ⟨g, J * 4 + 1, none⟩) hgs.out).trans ka1.out, (HC.out.cell (p := ⟨g, J * 4 + 2, none⟩) hgs.out).trans ka2.out, (HC.out.cell (p := ⟨g, J * 4 + 3, none⟩) hgs.out).trans ka3.out, (HC.out.cell (p := ⟨pb, poff + q, none⟩) hpbs.out).trans kcp.out⟩ ?rp161711_14
                case yp161711_14 => (intro W hSw; (try dsimp only at hSw); obtain ⟨s0, s1, s2, s3, s4⟩ := hSw; first | (go_simp; done) | (go_simp; with_reducible rfl))
                try go_simp
                refine wpAnyH_take (i := 15) (v := ?vp161711_15) rfl (by kernel_rfl) (by kernel_rfl) (by kernel_rfl) (fun _ _ _ h => h) (Or.inl ⟨by rfl, ?yp161711_15⟩) ⟨(HC.out.cell (p := ⟨g, J * 4, none⟩) hgs.out).trans ka0.out, (HC.out.cell (p := ⟨g, J * 4 + 1, none⟩) hgs.out).trans ka1.out, (HC.out.cell (p := ⟨g, J * 4 + 2, none⟩) hgs.out).trans ka2.out, (HC.out.cell (p := ⟨g, J * 4 + 3, none⟩) hgs.out).trans ka3.out, (HC.out.cell (p := ⟨pb, poff + q, none⟩) hpbs.out).trans kcp.out⟩ ?rp161711_15
                case yp161711_15 => (intro W hSw; (try dsimp only at hSw); obtain ⟨s0, s1, s2, s3, s4⟩ := hSw; first | (go_simp; done) | (go_simp; with_reducible rfl))
                try go_simp
                have hne : wr.heap.size ≠ wqp16.heap.size := by omega
                have pA0 := HpA.out.c0; have pA1 := HpA.out.c1; have pA2 := HpA.out.c2; have pA3 := HpA.out.c3; have pA4 := HpA.out.f0; have pA5 := HpA.out.f1; have pA6 := HpA.out.f2; have pA7 := HpA.out.f3
                refine wpAnyH_ready (rs := [18]) (by kernel_rfl) (by simp) ?_
                refine AllReadyH.cons rfl (fun K hK => ?_) AllReadyH.nil
                go_simp
                have Hm := Lib.hid (show At (((((wzp161711).setCell ⟨wr.heap.size, 0, none⟩ (.int .i64 sai)).setCell ⟨wr.heap.size, 1, none⟩ (.int .i64 sae)).setCell ⟨wr.heap.size, 2, none⟩ (.float .f64 sal)).setCell ⟨wr.heap.size, 3, none⟩ (.float .f64 sah)) wr.heap.size ⟨sai, sae, sal, sah⟩ from HpA.out.setAll ⟨sai, sae, sal, sah⟩)
                have Ho := Lib.hid (show At (((((wzp161711).setCell ⟨wr.heap.size, 0, none⟩ (.int .i64 sai)).setCell ⟨wr.heap.size, 1, none⟩ (.int .i64 sae)).setCell ⟨wr.heap.size, 2, none⟩ (.float .f64 sal)).setCell ⟨wr.heap.size, 3, none⟩ (.float .f64 sah)) wqp16.heap.size RV.zero from HpB.out.set_other ⟨sai, sae, sal, sah⟩ hne.symm)
                have HC := Lib.hid (show Below wr.heap.size wr (((((wzp161711).setCell ⟨wr.heap.size, 0, none⟩ (.int .i64 sai)).setCell ⟨wr.heap.size, 1, none⟩ (.int .i64 sae)).setCell ⟨wr.heap.size, 2, none⟩ (.float .f64 sal)).setCell ⟨wr.heap.size, 3, none⟩ (.float .f64 sah)) from below_set4 HC.out hpA ⟨sai, sae, sal, sah⟩)
                clear HpA HpB pA0 pA1 pA2 pA3 pA4 pA5 pA6 pA7
                have HpA := Hm; have HpB := Ho; clear Hm Ho
                generalize ((((wzp161711).setCell ⟨wr.heap.size, 0, none⟩ (.int .i64 sai)).setCell ⟨wr.heap.size, 1, none⟩ (.int .i64 sae)).setCell ⟨wr.heap.size, 2, none⟩ (.float .f64 sal)).setCell ⟨wr.heap.size, 3, none⟩ (.float .f64 sah) = wtp16171118 at *
                refine hK.out _ _ ⟨(HC.out.cell (p := ⟨g, J * 4, none⟩) hgs.out).trans ka0.out, (HC.out.cell (p := ⟨g, J * 4 + 1, none⟩) hgs.out).trans ka1.out, (HC.out.cell (p := ⟨g, J * 4 + 2, none⟩) hgs.out).trans ka2.out, (HC.out.cell (p := ⟨g, J * 4 + 3, none⟩) hgs.out).trans ka3.out, (HC.out.cell (p := ⟨pb, poff + q, none⟩) hpbs.out).trans kcp.out⟩ (fun _ => ?_)
                clear hK K
                try go_simp
                have pB0 := HpB.out.c0; have pB1 := HpB.out.c1; have pB2 := HpB.out.c2; have pB3 := HpB.out.c3; have pB4 := HpB.out.f0; have pB5 := HpB.out.f1; have pB6 := HpB.out.f2; have pB7 := HpB.out.f3
                refine wpAnyH_ready (rs := [19]) (by kernel_rfl) (by simp) ?_
                refine AllReadyH.cons rfl (fun K hK => ?_) AllReadyH.nil
                go_simp
                have Hm := Lib.hid (show At (((((wtp16171118).setCell ⟨wqp16.heap.size, 0, none⟩ (.int .i64 sbi)).setCell ⟨wqp16.heap.size, 1, none⟩ (.int .i64 sbe)).setCell ⟨wqp16.heap.size, 2, none⟩ (.float .f64 sbl)).setCell ⟨wqp16.heap.size, 3, none⟩ (.float .f64 sbh)) wqp16.heap.size ⟨sbi, sbe, sbl, sbh⟩ from HpB.out.setAll ⟨sbi, sbe, sbl, sbh⟩)
                have Ho := Lib.hid (show At (((((wtp16171118).setCell ⟨wqp16.heap.size, 0, none⟩ (.int .i64 sbi)).setCell ⟨wqp16.heap.size, 1, none⟩ (.int .i64 sbe)).setCell ⟨wqp16.heap.size, 2, none⟩ (.float .f64 sbl)).setCell ⟨wqp16.heap.size, 3, none⟩ (.float .f64 sbh)) wr.heap.size ⟨sai, sae, sal, sah⟩ from HpA.out.set_other ⟨sbi, sbe, sbl, sbh⟩ hne)
                have HC := Lib.hid (show Below wr.heap.size wr (((((wtp16171118).setCell ⟨wqp16.heap.size, 0, none⟩ (.int .i64 sbi)).setCell ⟨wqp16.heap.size, 1, none⟩ (.int .i64 sbe)).setCell ⟨wqp16.heap.size, 2, none⟩ (.float .f64 sbl)).setCell ⟨wqp16.heap.size, 3, none⟩ (.float .f64 sbh)) from below_set4 HC.out hpB ⟨sbi, sbe, sbl, sbh⟩)
                clear HpB HpA pB0 pB1 pB2 pB3 pB4 pB5 pB6 pB7
                have HpB := Hm; have HpA := Ho; clear Hm Ho
                generalize ((((wtp16171118).setCell ⟨wqp16.heap.size, 0, none⟩ (.int .i64 sbi)).setCell ⟨wqp16.heap.size, 1, none⟩ (.int .i64 sbe)).setCell ⟨wqp16.heap.size, 2, none⟩ (.float .f64 sbl)).setCell ⟨wqp16.heap.size, 3, none⟩ (.float .f64 sbh) = wtp16171119 at *
                refine hK.out _ _ ⟨(HC.out.cell (p := ⟨g, J * 4, none⟩) hgs.out).trans ka0.out, (HC.out.cell (p := ⟨g, J * 4 + 1, none⟩) hgs.out).trans ka1.out, (HC.out.cell (p := ⟨g, J * 4 + 2, none⟩) hgs.out).trans ka2.out, (HC.out.cell (p := ⟨g, J * 4 + 3, none⟩) hgs.out).trans ka3.out, (HC.out.cell (p := ⟨pb, poff + q, none⟩) hpbs.out).trans kcp.out⟩ (fun _ => ?_)
                clear hK K
                try go_simp
                refine wpAnyH_take (i := 20) (v := ?vlp161711_20) rfl (by kernel_rfl) (by kernel_rfl) (by kernel_rfl) (fun _ _ _ h => h) (Or.inl ⟨by rfl, ?ylp161711_20⟩) ⟨(HC.out.cell (p := ⟨g, J * 4, none⟩) hgs.out).trans ka0.out, (HC.out.cell (p := ⟨g, J * 4 + 1, none⟩) hgs.out).trans ka1.out, (HC.out.cell (p := ⟨g, J * 4 + 2, none⟩) hgs.out).trans ka2.out, (HC.out.cell (p := ⟨g, J * 4 + 3, none⟩) hgs.out).trans ka3.out, (HC.out.cell (p := ⟨pb, poff + q, none⟩) hpbs.out).trans kcp.out⟩ ?rlp161711_20
                case ylp161711_20 => (intro W hSw; (try dsimp only at hSw); obtain ⟨s0, s1, s2, s3, s4⟩ := hSw; first | (go_simp; done) | (go_simp; with_reducible rfl))
                try go_simp
                refine wpAnyH_done (by kernel_rfl) ?_ _
                (try go_wp2_with fail)
                go_meet
                exact ⟨_, _, rfl, rfl, rfl, HpA, HpB, hne, hpA, hpB, HC⟩
          · go_simp
            have HpB := Lib.hid (show At (wr.drew.alloc (.cells #[.int .i64 0, .int .i64 0, .float .f64 0, .float .f64 0] 34)) wr.heap.size RV.zero from at_new wr.drew RV.zero)
            have hpB := HC.out.size
            have HC := Lib.hid (HC.out.alloc HC.out.size (.cells #[.int .i64 0, .int .i64 0, .float .f64 0, .float .f64 0] 34))
            rw [show wr.drew.alloc (.cells #[.int .i64 0, .int .i64 0, .float .f64 0, .float .f64 0] 34) = (wr.alloc (.cells #[.int .i64 0, .int .i64 0, .float .f64 0, .float .f64 0] 34)).drew from rfl] at HpB HC
            generalize hgen : (wr.alloc (.cells #[.int .i64 0, .int .i64 0, .float .f64 0, .float .f64 0] 34)).drew = wqp17 at *
            clear hgen
            refine hK.out _ _ ⟨(HC.out.cell (p := ⟨g, J * 4, none⟩) hgs.out).trans ka0.out, (HC.out.cell (p := ⟨g, J * 4 + 1, none⟩) hgs.out).trans ka1.out, (HC.out.cell (p := ⟨g, J * 4 + 2, none⟩) hgs.out).trans ka2.out, (HC.out.cell (p := ⟨g, J * 4 + 3, none⟩) hgs.out).trans ka3.out, (HC.out.cell (p := ⟨pb, poff + q, none⟩) hpbs.out).trans kcp.out⟩ (fun _ => ?_)
            clear hK K
            try go_simp
            refine wpAnyH_ready (rs := [11, 16]) (by kernel_rfl) (by simp) ?_
            refine AllReadyH.cons rfl (fun K hK => ?_) (AllReadyH.cons rfl (fun K hK => ?_) AllReadyH.nil)
            · go_simp
              go_wp2_with (first | (go_at_call 22; ((with_reducible refine (HSP _).out.mono ?_); rintro e wzp1711 ⟨rfl, hb⟩; have HpB := Lib.hid (HpB.out.below hb HpB.out.lt); have HC := Lib.hid (HC.out.trans (hb.mono HC.out.size)); clear hb)))
              refine hK.out _ _ ⟨(HC.out.cell (p := ⟨g, J * 4, none⟩) hgs.out).trans ka0.out, (HC.out.cell (p := ⟨g, J * 4 + 1, none⟩) hgs.out).trans ka1.out, (HC.out.cell (p := ⟨g, J * 4 + 2, none⟩) hgs.out).trans ka2.out, (HC.out.cell (p := ⟨g, J * 4 + 3, none⟩) hgs.out).trans ka3.out, (HC.out.cell (p := ⟨pb, poff + q, none⟩) hpbs.out).trans kcp.out⟩ (fun _ => ?_)
              clear hK K
              try go_simp
              refine wpAnyH_take (i := 12) (v := ?vp1711_12) rfl (by kernel_rfl) (by kernel_rfl) (by kernel_rfl) (fun _ _ _ h => h) (Or.inl ⟨by rfl, ?yp1711_12⟩) ⟨(HC.out.cell (p := ⟨g, J * 4, none⟩) hgs.out).trans ka0.out, (HC.out.cell (p := ⟨g, J * 4 + 1, none⟩) hgs.out).trans ka1.out, (HC.out.cell (p := ⟨g, J * 4 + 2, none⟩) hgs.out).trans ka2.out, (HC.out.cell (p := ⟨g, J * 4 + 3, none⟩) hgs.out).trans ka3.out, (HC.out.cell (p := ⟨pb, poff + q, none⟩) hpbs.out).trans kcp.out⟩ ?rp1711_12
              case yp1711_12 => (intro W hSw; (try dsimp only at hSw); obtain ⟨s0, s1, s2, s3, s4⟩ := hSw; first | (go_simp; done) | (go_simp; with_reducible rfl))
              try go_simp
              refine wpAnyH_take (i := 13) (v := ?vp1711_13) rfl (by kernel_rfl) (by kernel_rfl) (by kernel_rfl) (fun _ _ _ h => h) (Or.inl ⟨by rfl, ?yp1711_13⟩) ⟨(HC.out.cell (p := ⟨g, J * 4, none⟩) hgs.out).trans ka0.out, (HC.out.cell (p := ⟨g, J * 4 + 1, none⟩) hgs.out).trans ka1.out, (HC.out.cell (p := ⟨g, J * 4 + 2, none⟩) hgs.out).trans ka2.out, (HC.out.cell (p := ⟨g, J * 4 + 3, none⟩) hgs.out).trans ka3.out, (HC.out.cell (p := ⟨pb, poff + q, none⟩) hpbs.out).trans kcp.out⟩ ?rp1711_13
              case yp1711_13 => (intro W hSw; (try dsimp only at hSw); obtain ⟨s0, s1, s2, s3, s4⟩ := hSw; first | (go_simp; done) | (go_simp; with_reducible rfl))
              try go_simp
              refine wpAnyH_take (i := 14) (v := ?vp1711_14) rfl (by kernel_rfl) (by kernel_rfl) (by kernel_rfl) (fun _ _ _ h => h) (Or.inl ⟨by rfl, ?yp1711_14⟩) ⟨(HC.out.cell (p := ⟨g, J * 4, none⟩) hgs.out).trans ka0.out, (HC.out.cell (p := ⟨g, J * 4 + 1, none⟩) hgs.out).trans ka1.out, (HC.out.cell (p := ⟨g, J * 4 + 2, none⟩) hgs.out).trans ka2.out, (HC.out.cell (p := ⟨g, J * 4 + 3, none⟩) hgs.out).trans ka3.out, (HC.out.cell (p := ⟨pb, poff + q, none⟩) hpbs.out).trans kcp.out⟩ ?rp1711_14
              case yp1711_14 => (intro W hSw; (try dsimp only at hSw); obtain ⟨s0, s1, s2, s3, s4⟩ := hSw; first | (go_simp; done) | (go_simp; with_reducible rfl))
              try go_simp
              refine wpAnyH_take (i := 15) (v := ?vp1711_15) rfl (by kernel_rfl) (by kernel_rfl) (by kernel_rfl) (fun _ _ _ h => h) (Or.inl ⟨by rfl, ?yp1711_15⟩) ⟨(HC.out.cell (p := ⟨g, J * 4, none⟩) hgs.out).trans ka0.out, (HC.out.cell (p := ⟨g, J * 4 + 1, none⟩) hgs.out).trans ka1.out, (HC.out.cell (p := ⟨g, J * 4 + 2, none⟩) hgs.out).trans ka2.out, (HC.out.cell (p := ⟨g, J * 4 + 3, none⟩) hgs.out).trans ka3.out, (HC.out.cell (p := ⟨pb, poff + q, none⟩) hpbs.out).trans kcp.out⟩ ?rp1711_15
              case yp1711_15 => (intro W hSw; (try dsimp only at hSw); obtain ⟨s0, s1, s2, s3, s4⟩ := hSw; first | (go_simp; done) | (go_simp; with_reducible rfl))
              try go_simp
              refine wpAnyH_ready (rs := [16]) (by kernel_rfl) (by simp) ?_
              refine AllReadyH.cons rfl (fun K hK => ?_) AllReadyH.nil
              · go_simp
                have HpA := Lib.hid (show At (wzp1711.alloc (.cells #[.int .i64 0, .int .i64 0, .float .f64 0, .float .f64 0] 34)) wzp1711.heap.size RV.zero from at_new wzp1711 RV.zero)
                have hpA := HC.out.size
                have npB := HpB.out.lt; have HpB := Lib.hid (HpB.out.alloc (.cells #[.int .i64 0, .int .i64 0, .float .f64 0, .float .f64 0] 34))
                have HC := Lib.hid (HC.out.alloc HC.out.size (.cells #[.int .i64 0, .int .i64 0, .float .f64 0, .float .f64 0] 34))
                generalize hgen : wzp1711.alloc (.cells #[.int .i64 0, .int .i64 0, .float .f64 0, .float .f64 0] 34) = wqp171116 at *
                clear hgen
                refine hK.out _ _ ⟨(HC.out.cell (p := ⟨g, J * 4, none⟩) hgs.out).trans ka0.out, (HC.out.cell (p := ⟨g, J * 4 + 1, none⟩) hgs.out).trans ka1.out, (HC.out.cell (p := ⟨g, J * 4 + 2, none⟩) hgs.out).trans ka2.out, (HC.out.cell (p := ⟨g, J * 4 + 3, none⟩) hgs.out).trans ka3.out, (HC.out.cell (p := ⟨pb, poff + q, none⟩) hpbs.out).trans kcp.out⟩ (fun _ => ?_)
                clear hK K
                try go_simp
                have hne : wzp1711.heap.size ≠ wr.heap.size := by omega
                have pA0 := HpA.out.c0; have pA1 := HpA.out.c1; have pA2 := HpA.out.c2; have pA3 := HpA.out.c3; have pA4 := HpA.out.f0; have pA5 := HpA.out.f1; have pA6 := HpA.out.f2; have pA7 := HpA.out.f3
                refine wpAnyH_ready (rs := [18]) (by kernel_rfl) (by simp) ?_
                refine AllReadyH.cons rfl (fun K hK => ?_) AllReadyH.nil
                go_simp
                have Hm := Lib.hid (show At (((((wqp171116).setCell ⟨wzp1711.heap.size, 0, none⟩ (.int .i64 sai)).setCell ⟨wzp1711.heap.size, 1, none⟩ (.int .i64 sae)).setCell ⟨wzp1711.heap.size, 2, none⟩ (.float .f64 sal)).setCell ⟨wzp1711.heap.size, 3, none⟩ (.float .f64 sah)) wzp1711.heap.size ⟨sai, sae, sal, sah⟩ from HpA.out.setAll ⟨sai, sae, sal, sah⟩)
                have Ho := Lib.hid (show At (((((wqp171116).setCell ⟨wzp1711.heap.size, 0, none⟩ (.int .i64 sai)).setCell ⟨wzp1711.heap.size, 1, none⟩ (.int .i64 sae)).setCell ⟨wzp1711.heap.size, 2, none⟩ (.float .f64 sal)).setCell ⟨wzp1711.heap.size, 3, none⟩ (.float .f64 sah)) wr.heap.size RV.zero from HpB.out.set_other ⟨sai, sae, sal, sah⟩ hne.symm)
                have HC := Lib.hid (show Below wr.heap.size wr (((((wqp171116).setCell ⟨wzp1711.heap.size, 0, none⟩ (.int .i64 sai)).setCell ⟨wzp1711.heap.size, 1, none⟩ (.int .i64 sae)).setCell ⟨wzp1711.heap.size, 2, none⟩ (.float .f64 sal)).setCell ⟨wzp1711.heap.size, 3, none⟩ (.float .f64 sah)) from below_set4 HC.out hpA ⟨sai, sae, sal, sah⟩)
                clear HpA HpB pA0 pA1 pA2 pA3 pA4 pA5 pA6 pA7
                have HpA := Hm; have HpB := Ho; clear Hm Ho
                generalize ((((wqp171116).setCell ⟨wzp1711.heap.size, 0, none⟩ (.int .i64 sai)).setCell ⟨wzp1711.heap.size, 1, none⟩ (.int .i64 sae)).setCell ⟨wzp1711.heap.size, 2, none⟩ (.float .f64 sal)).setCell ⟨wzp1711.heap.size, 3, none⟩ (.float .f64 sah) = wtp17111618 at *
                refine hK.out _ _ ⟨(HC.out.cell (p := ⟨g, J * 4, none⟩) hgs.out).trans ka0.out, (HC.out.cell (p := ⟨g, J * 4 + 1, none⟩) hgs.out).trans ka1.out, (HC.out.cell (p := ⟨g, J * 4 + 2, none⟩) hgs.out).trans ka2.out, (HC.out.cell (p := ⟨g, J * 4 + 3, none⟩) hgs.out).trans ka3.out, (HC.out.cell (p := ⟨pb, poff + q, none⟩) hpbs.out).trans kcp.out⟩ (fun _ => ?_)
                clear hK K
                try go_simp
                have pB0 := HpB.out.c0; have pB1 := HpB.out.c1; have pB2 := HpB.out.c2; have pB3 := HpB.out.c3; have pB4 := HpB.out.f0; have pB5 := HpB.out.f1; have pB6 := HpB.out.f2; have pB7 := HpB.out.f3
                refine wpAnyH_ready (rs := [19]) (by kernel_rfl) (by simp) ?_
                refine AllReadyH.cons rfl (fun K hK => ?_) AllReadyH.nil
                go_simp
                have Hm := Lib.hid (show At (((((wtp17111618).setCell ⟨wr.heap.size, 0, none⟩ (.int .i64 sbi)).setCell ⟨wr.heap.size, 1, none⟩ (.int .i64 sbe)).setCell ⟨wr.heap.size, 2, none⟩ (.float .f64 sbl)).setCell ⟨wr.heap.size, 3, none⟩ (.float .f64 sbh)) wr.heap.size ⟨sbi, sbe, sbl, sbh⟩ from HpB.out.setAll ⟨sbi, sbe, sbl, sbh⟩)
                have Ho := Lib.hid (show At (((((wtp17111618).setCell ⟨wr.heap.size, 0, none⟩ (.int .i64 sbi)).setCell ⟨wr.heap.size, 1, none⟩ (.int .i64 sbe)).setCell ⟨wr.heap.size, 2, none⟩ (.float .f64 sbl)).setCell ⟨wr.heap.size, 3, none⟩ (.float .f64 sbh)) wzp1711.heap.size ⟨sai, sae, sal, sah⟩ from HpA.out.set_other ⟨sbi, sbe, sbl, sbh⟩ hne)
                have HC := Lib.hid (show Below wr.heap.size wr (((((wtp17111618).setCell ⟨wr.heap.size, 0, none⟩ (.int .i64 sbi)).setCell ⟨wr.heap.size, 1, none⟩ (.int .i64 sbe)).setCell ⟨wr.heap.size, 2, none⟩ (.float .f64 sbl)).setCell ⟨wr.heap.size, 3, none⟩ (.float .f64 sbh)) from below_set4 HC.out hpB ⟨sbi, sbe, sbl, sbh⟩)
                clear HpB HpA pB0 pB1 pB2 pB3 pB4 pB5 pB6 pB7
                have HpB := Hm; have HpA := Ho; clear Hm Ho
                generalize ((((wtp17111618).setCell ⟨wr.heap.size, 0, none⟩ (.int .i64 sbi)).setCell ⟨wr.heap.size, 1, none⟩ (.int .i64 sbe)).setCell ⟨wr.heap.size, 2, none⟩ (.float .f64 sbl)).setCell ⟨wr.heap.size, 3, none⟩ (.float .f64 sbh) = wtp17111619 at *
                refine hK.out _ _ ⟨(HC.out.cell (p := ⟨g, J * 4, none⟩) hgs.out).trans ka0.out, (HC.out.cell (p := ⟨g, J * 4 + 1, none⟩) hgs.out).trans ka1.out, (HC.out.cell (p := ⟨g, J * 4 + 2, none⟩) hgs.out).trans ka2.out, (HC.out.cell (p := ⟨g, J * 4 + 3, none⟩) hgs.out).trans ka3.out, (HC.out.cell (p := ⟨pb, poff + q, none⟩) hpbs.out).trans kcp.out⟩ (fun _ => ?_)
                clear hK K
                try go_simp
                refine wpAnyH_take (i := 20) (v := ?vlp171116_20) rfl (by kernel_rfl) (by kernel_rfl) (by kernel_rfl) (fun _ _ _ h => h) (Or.inl ⟨by rfl, ?ylp171116_20⟩) ⟨(HC.out.cell (p := ⟨g, J * 4, none⟩) hgs.out).trans ka0.out, (HC.out.cell (p := ⟨g, J * 4 + 1, none⟩) hgs.out).trans ka1.out, (HC.out.cell (p := ⟨g, J * 4 + 2, none⟩) hgs.out).trans ka2.out, (HC.out.cell (p := ⟨g, J * 4 + 3, none⟩) hgs.out).trans ka3.out, (HC.out.cell (p := ⟨pb, poff + q, none⟩) hpbs.out).trans kcp.out⟩ ?rlp171116_20
                case ylp171116_20 => (intro W hSw; (try dsimp only at hSw); obtain ⟨s0, s1, s2, s3, s4⟩ := hSw; first | (go_simp; done) | (go_simp; with_reducible rfl))
                try go_simp
                refine wpAnyH_done (by kernel_rfl) ?_ _
                (try go_wp2_with fail)
                go_meet
                exact ⟨_, _, rfl, rfl, rfl, HpA, HpB, hne, hpA, hpB, HC⟩
            · go_simp
              have HpA := Lib.hid (show At (wqp17.alloc (.cells #[.int .i64 0, .int .i64 0, .float .f64 0, .float .f64 0] 34)) wqp17.heap.size RV.zero from at_new wqp17 RV.zero)
              have hpA := HC.out.size
              have npB := HpB.out.lt; have HpB := Lib.hid (HpB.out.alloc (.cells #[.int .i64 0, .int .i64 0, .float .f64 0, .float .f64 0] 34))
              have HC := Lib.hid (HC.out.alloc HC.out.size (.cells #[.int .i64 0, .int .i64 0, .float .f64 0, .float .f64 0] 34))
              generalize hgen : wqp17.alloc (.cells #[.int .i64 0, .int .i64 0, .float .f64 0, .float .f64 0] 34) = wqp1716 at *
              clear hgen
              refine hK.out _ _ ⟨(HC.out.cell (p := ⟨g, J * 4, none⟩) hgs.out).trans ka0.out, (HC.out.cell (p := ⟨g, J * 4 + 1, none⟩) hgs.out).trans ka1.out, (HC.out.cell (p := ⟨g, J * 4 + 2, none⟩) hgs.out).trans ka2.out, (HC.out.cell (p := ⟨g, J * 4 + 3, none⟩) hgs.out).trans ka3.out, (HC.out.cell (p := ⟨pb, poff + q, none⟩) hpbs.out).trans kcp.out⟩ (fun _ => ?_)
              clear hK K
              try go_simp
              refine wpAnyH_ready (rs := [11]) (by kernel_rfl) (by simp) ?_
              refine AllReadyH.cons rfl (fun K hK => ?_) AllReadyH.nil
              · go_simp
                go_wp2_with (first | (go_at_call 22; ((with_reducible refine (HSP _).out.mono ?_); rintro e wzp171611 ⟨rfl, hb⟩; have HpB := Lib.hid (HpB.out.below hb HpB.out.lt); have HpA := Lib.hid (HpA.out.below hb HpA.out.lt); have HC := Lib.hid (HC.out.trans (hb.mono HC.out.size)); clear hb)))
                refine hK.out _ _ ⟨(HC.out.cell (p := ⟨g, J * 4, none⟩) hgs.out).trans ka0.out, (HC.out.cell (p := ⟨g, J * 4 + 1, none⟩) hgs.out).trans ka1.out, (HC.out.cell (p := ⟨g, J * 4 + 2, none⟩) hgs.out).trans ka2.out, (HC.out.cell (p := ⟨g, J * 4 + 3, none⟩) hgs.out).trans ka3.out, (HC.out.cell (p := ⟨pb, poff + q, none⟩) hpbs.out).trans kcp.out⟩ (fun _ => ?_)
                clear hK K
                try go_simp
                refine wpAnyH_take (i := 12) (v := ?vp171611_12) rfl (by kernel_rfl) (by kernel_rfl) (by kernel_rfl) (fun _ _ _ h => h) (Or.inl ⟨by rfl, ?yp171611_12⟩) ⟨(HC.out.cell (p := ⟨g, J * 4, none⟩) hgs.out).trans ka0.out, (HC.out.cell (p := ⟨g, J * 4 + 1, none⟩) hgs.out).trans ka1.out, (HC.out.cell (p := ⟨g, J * 4 + 2, none⟩) hgs.out).trans ka2.out, (HC.out.cell (p := ⟨g, J * 4 + 3, none⟩) hgs.out).trans ka3.out, (HC.out.cell (p := ⟨pb, poff + q, none⟩) hpbs.out).trans kcp.out⟩ ?rp171611_12
                case yp171611_12 => (intro W hSw; (try dsimp only at hSw); obtain ⟨s0, s1, s2, s3, s4⟩ := hSw; first | (go_simp; done) | (go_simp; with_reducible rfl))
                try go_simp
                refine wpAnyH_take (i := 13) (v := ?vp171611_13) rfl (by kernel_rfl) (by kernel_rfl) (by kernel_rfl) (fun _ _ _ h => h) (Or.inl ⟨by rfl, ?yp171611_13⟩) ⟨(HC.out.cell (p := ⟨g, J * 4, none⟩) hgs.out).trans ka0.out, (HC.out.cell (p := ⟨g, J * 4 + 1, none⟩) hgs.out).trans ka1.out, (HC.out.cell (p := ⟨g, J * 4 + 2, none⟩) hgs.out).trans ka2.out, (HC.out.cell (p := ⟨g, J * 4 + 3, none⟩) hgs.out).trans ka3.out, (HC.out.cell (p := ⟨pb, poff + q, none⟩) hpbs.out).trans kcp.out⟩ ?rp171611_13
                case yp171611_13 => (intro W hSw; (try dsimp only at hSw); obtain ⟨s0, s1, s2, s3, s4⟩ := hSw; first | (go_simp; done) | (go_simp; with_reducible rfl))
                try go_simp
                refine wpAnyH_take (i := 14) (v := ?vp171611_14) rfl (by kernel_rfl) (by kernel_rfl) (by kernel_rfl) (fun _ _ _ h => h) (Or.inl ⟨by rfl, ?yp171611_14⟩) ⟨(HC.out.cell (p := ⟨g, J * 4, none⟩) hgs.out).trans ka0.out, (HC.out.cell (p := ⟨g, J * 4 + 1, none⟩) hgs.out).trans ka1.out, (HC.out.cell (p := ⟨g, J * 4 + 2, none⟩) hgs.out).trans ka2.out, (HC.out.cell (p := ⟨g, J * 4 + 3, none⟩) hgs.out).trans ka3.out, (HC.out.cell (p := ⟨pb, poff + q, none⟩) hpbs.out).trans kcp.out⟩ ?rp171611_14
                case yp171611_14 => (intro W hSw; (try dsimp only at hSw); obtain ⟨s0, s1, s2, s3, s4⟩ := hSw; first | (go_simp; done) | (go_simp; with_reducible rfl))
                try go_simp
                refine wpAnyH_take (i := 15) (v := ?vp171611_15) rfl (by kernel_rfl) (by kernel_rfl) (by kernel_rfl) (fun _ _ _ h => h) (Or.inl ⟨by rfl, ?yp171611_15⟩) ⟨(HC.out.cell (p := ⟨g, J * 4, none⟩) hgs.out).trans ka0.out, (HC.out.cell (p := ⟨g, J * 4 + 1, none⟩) hgs.out).trans ka1.out, (HC.out.cell (p := ⟨g, J * 4 + 2, none⟩) hgs.out).trans ka2.out, (HC.out.cell (p := ⟨g, J * 4 + 3, none⟩) hgs.out).trans ka3.out, (HC.out.cell (p := ⟨pb, poff + q, none⟩) hpbs.out).trans kcp.out⟩ ?rp171611_15
                case yp171611_15 => (intro W hSw; (try dsimp only at hSw); obtain ⟨s0, s1, s2, s3, s4⟩ := hSw; first | (go_simp; done) | (go_simp; with_reducible rfl))
                try go_simp
                have hne : wqp17.heap.size ≠ wr.heap.size := by omega
                have pA0 := HpA.out.c0; have pA1 := HpA.out.c1; have pA2 := HpA.out.c2; have pA3 := HpA.out.c3; have pA4 := HpA.out.f0; have pA5 := HpA.out.f1; have pA6 := HpA.out.f2; have pA7 := HpA.out.f3
                refine wpAnyH_ready (rs := [18]) (by kernel_rfl) (by simp) ?_
                refine AllReadyH.cons rfl (fun K hK => ?_) AllReadyH.nil
                go_simp
                have Hm := Lib.hid (show At (((((wzp171611).setCell ⟨wqp17.heap.size, 0, none⟩ (.int .i64 sai)).setCell ⟨wqp17.heap.size, 1, none⟩ (.int .i64 sae)).setCell ⟨wqp17.heap.size, 2, none⟩ (.float .f64 sal)).setCell ⟨wqp17.heap.size, 3, none⟩ (.float .f64 sah)) wqp17.heap.size ⟨sai, sae, sal, sah⟩ from HpA.out.setAll ⟨sai, sae, sal, sah⟩)
                have Ho := Lib.hid (show At (((((wzp171611).setCell ⟨wqp17.heap.size, 0, none⟩ (.int .i64 sai)).setCell ⟨wqp17.heap.size, 1, none⟩ (.int .i64 sae)).setCell ⟨wqp17.heap.size, 2, none⟩ (.float .f64 sal)).setCell ⟨wqp17.heap.size, 3, none⟩ (.float .f64 sah)) wr.heap.size RV.zero from HpB.out.set_other ⟨sai, sae, sal, sah⟩ hne.symm)
                have HC := Lib.hid (show Below wr.heap.size wr (((((wzp171611).setCell ⟨wqp17.heap.size, 0, none⟩ (.int .i64 sai)).setCell ⟨wqp17.heap.size, 1, none⟩ (.int .i64 sae)).setCell ⟨wqp17.heap.size, 2, none⟩ (.float .f64 sal)).setCell ⟨wqp17.heap.size, 3, none⟩ (.float .f64 sah)) from below_set4 HC.out hpA ⟨sai, sae, sal, sah⟩)
                clear HpA HpB pA0 pA1 pA2 pA3 pA4 pA5 pA6 pA7
                have HpA := Hm; have HpB := Ho; clear Hm Ho
                generalize ((((wzp171611).setCell ⟨wqp17.heap.size, 0, none⟩ (.int .i64 sai)).setCell ⟨wqp17.heap.size, 1, none⟩ (.int .i64 sae)).setCell ⟨wqp17.heap.size, 2, none⟩ (.float .f64 sal)).setCell ⟨wqp17.heap.size, 3, none⟩ (.float .f64 sah) = wtp17161118 at *
                refine hK.out _ _ ⟨(HC.out.cell (p := ⟨g, J * 4, none⟩) hgs.out).trans ka0.out, (HC.out.cell (p := ⟨g, J * 4 + 1, none⟩) hgs.out).trans ka1.out, (HC.out.cell (p := ⟨g, J * 4 + 2, none⟩) hgs.out).trans ka2.out, (HC.out.cell (p := ⟨g, J * 4 + 3, none⟩) hgs.out).trans ka3.out, (HC.out.cell (p := ⟨pb, poff + q, none⟩) hpbs.out).trans kcp.out⟩ (fun _ => ?_)
                clear hK K
                try go_simp
                have pB0 := HpB.out.c0; have pB1 := HpB.out.c1; have pB2 := HpB.out.c2; have pB3 := HpB.out.c3; have pB4 := HpB.out.f0; have pB5 := HpB.out.f1; have pB6 := HpB.out.f2; have pB7 := HpB.out.f3
                refine wpAnyH_ready (rs := [19]) (by kernel_rfl) (by simp) ?_
                refine AllReadyH.cons rfl (fun K hK => ?_) AllReadyH.nil
                go_simp
                have Hm := Lib.hid (show At (((((wtp17161118).setCell ⟨wr.heap.size, 0, none⟩ (.int .i64 sbi)).setCell ⟨wr.heap.size, 1, none⟩ (.int .i64 sbe)).setCell ⟨wr.heap.size, 2, none⟩ (.float .f64 sbl)).setCell ⟨wr.heap.size, 3, none⟩ (.float .f64 sbh)) wr.heap.size ⟨sbi, sbe, sbl, sbh⟩ from HpB.out.setAll ⟨sbi, sbe, sbl, sbh⟩)
                have Ho := Lib.hid (show At (((((wtp17161118).setCell ⟨wr.heap.size, 0, none⟩ (.int .i64 sbi)).setCell ⟨wr.heap.size, 1, none⟩ (.int .i64 sbe)).setCell ⟨wr.heap.size, 2, none⟩ (.float .f64 sbl)).setCell ⟨wr.heap.size, 3, none⟩ (.float .f64 sbh)) wqp17.heap.size ⟨sai, sae, sal, sah⟩ from HpA.out.set_other ⟨sbi, sbe, sbl, sbh⟩ hne)
                have HC := Lib.hid (show Below wr.heap.size wr (((((wtp17161118).setCell ⟨wr.heap.size, 0, none⟩ (.int .i64 sbi)).setCell ⟨wr.heap.size, 1, none⟩ (.int .i64 sbe)).setCell ⟨wr.heap.size, 2, none⟩ (.float .f64 sbl)).setCell ⟨wr.heap.size, 3, none⟩ (.float .f64 sbh)) from below_set4 HC.out hpB ⟨sbi, sbe, sbl, sbh⟩)
                clear HpB HpA pB0 pB1 pB2 pB3 pB4 pB5 pB6 pB7
                have HpB := Hm; have HpA := Ho; clear Hm Ho
                generalize ((((wtp17161118).setCell ⟨wr.heap.size, 0, none⟩ (.int .i64 sbi)).setCell ⟨wr.heap.size, 1, none⟩ (.int .i64 sbe)).setCell ⟨wr.heap.size, 2, none⟩ (.float .f64 sbl)).setCell ⟨wr.heap.size, 3, none⟩ (.float .f64 sbh) = wtp17161119 at *
                refine hK.out _ _ ⟨(HC.out.cell (p := ⟨g, J * 4, none⟩) hgs.out).trans ka0.out, (HC.out.cell (p := ⟨g, J * 4 + 1, none⟩) hgs.out).trans ka1.out, (HC.out.cell (p := ⟨g, J * 4 + 2, none⟩) hgs.out).trans ka2.out, (HC.out.cell (p := ⟨g, J * 4 + 3, none⟩) hgs.out).trans ka3.out, (HC.out.cell (p := ⟨pb, poff + q, none⟩) hpbs.out).trans kcp.out⟩ (fun _ => ?_)
                clear hK K
                try go_simp
                refine wpAnyH_take (i := 20) (v := ?vlp171611_20) rfl (by kernel_rfl) (by kernel_rfl) (by kernel_rfl) (fun _ _ _ h => h) (Or.inl ⟨by rfl, ?ylp171611_20⟩) ⟨(HC.out.cell (p := ⟨g, J * 4, none⟩) hgs.out).trans ka0.out, (HC.out.cell (p := ⟨g, J * 4 + 1, none⟩) hgs.out).trans ka1.out, (HC.out.cell (p := ⟨g, J * 4 + 2, none⟩) hgs.out).trans ka2.out, (HC.out.cell (p := ⟨g, J * 4 + 3, none⟩) hgs.out).trans ka3.out, (HC.out.cell (p := ⟨pb, poff + q, none⟩) hpbs.out).trans kcp.out⟩ ?rlp171611_20
                case ylp171611_20 => (intro W hSw; (try dsimp only at hSw); obtain ⟨s0, s1, s2, s3, s4⟩ := hSw; first | (go_simp; done) | (go_simp; with_reducible rfl))
                try go_simp
                refine wpAnyH_done (by kernel_rfl) ?_ _
                (try go_wp2_with fail)
                go_meet
                exact ⟨_, _, rfl, rfl, rfl, HpA, HpB, hne, hpA, hpB, HC⟩
        case rest =>
          obtain ⟨ba, bb, rfl, rfl, rfl, HpA, HpB, hne, hA, hB, HC⟩ := hcut
          have HO := Lib.hid (own_below HO.out HC.out)
          have HW := Lib.hid (HW.out.trans (HC.out.mono hs))
          have hgw := hgs.out
          clear HC
          by_cases hsf : sf = 0
          · have hM : M[J] = ⟨ri, re, rl, rh⟩ := by rw [← getD_in hJM]; exact HRM.out
            have key := HGr.out.split hJM (by rw [HML.out]; exact hm11) hx (by rw [hM, HML.out, HS.out]; exact hsf)
            have e := (split_ok (show (splitV ⟨ri, re, rl, rh⟩ x ((m : Int) + 1)).2.2 = 0 by rw [HS.out]; exact hsf)).1
            rw [HS.out] at e
            rw [hM, HML.out] at key
            simp only [Prod.mk.injEq, RV.mk.injEq] at e
            obtain ⟨⟨q1, q2, q3, q4⟩, ⟨q5, q6, q7, q8⟩, q9⟩ := e
            replace q1 := q1.symm; replace q3 := q3.symm; replace q4 := q4.symm; replace q7 := q7.symm; replace q8 := q8.symm
            subst q1; subst q2; subst q3; subst q4; subst q5; subst q6; subst q7; subst q8; subst q9
            simp only at key
            obtain ⟨ma, mb, he1, he2, hgr⟩ := key
            have hwe : IntKind.i64.wrap (re + 1) = re + 1 := IntWalk.i64_in _ (by omega)
            have HMA := fun w => Lib.hid (may_any ⟨ri, re + 1, rl, x⟩ HWR.out.2.2.1 hx w)
            have HMB := fun w => Lib.hid (may_any ⟨(m : Int) + 1, 0, x, rh⟩ hx HWR.out.2.2.2 w)
            rw [ma] at HMA
            rw [mb] at HMB
            have HGN := Lib.hid hgr
            have hJM2 := Lib.hid hJM
            clear ma mb hgr hsf
            go_wp2
            have hdr := (Below.refl wc.heap.size wc).drew
            have HO := Lib.hid (own_below HO.out hdr); have HpA := Lib.hid (HpA.out.below hdr HpA.out.lt); have HpB := Lib.hid (HpB.out.below hdr HpB.out.lt); have HW := Lib.hid (HW.out.drew)
            clear hdr
            refine wp_region_held (S := (fun w' : World => w'.cell? ⟨ba, 0, none⟩ = some (.int .i64 ri) ∧ w'.cell? ⟨ba, 1, none⟩ = some (.int .i64 (re + 1)) ∧ w'.cell? ⟨ba, 2, none⟩ = some (.float .f64 rl) ∧ w'.cell? ⟨ba, 3, none⟩ = some (.float .f64 x) ∧ w'.cell? ⟨bb, 0, none⟩ = some (.int .i64 ((m : Int) + 1)) ∧ w'.cell? ⟨bb, 1, none⟩ = some (.int .i64 0) ∧ w'.cell? ⟨bb, 2, none⟩ = some (.float .f64 x) ∧ w'.cell? ⟨bb, 3, none⟩ = some (.float .f64 rh) ∧ w'.cell? ⟨g, J * 4 + 1, none⟩ = some (.int .i64 re))) (by kernel_rfl) ?_
            change wpAnyH _ _ _ _ _ _ _ _ (World.drew _)
            refine wpAnyH_take (i := 0) (v := ?vkp_0) rfl (by kernel_rfl) (by kernel_rfl) (by kernel_rfl) (fun _ _ _ h => h) (Or.inl ⟨by rfl, ?ykp_0⟩) ⟨HpA.out.c0, HpA.out.c1, HpA.out.c2, HpA.out.c3, HpB.out.c0, HpB.out.c1, HpB.out.c2, HpB.out.c3, (own_at HO.out hJM2.out HRM.out).c1⟩ ?rkp_0
            case ykp_0 => (intro W hSw; (try dsimp only at hSw); obtain ⟨s0, s1, s2, s3, s4, s5, s6, s7, s8⟩ := hSw; first | (go_simp; done) | (go_simp; with_reducible rfl))
            try go_simp
            refine wpAnyH_ready (rs := [1]) (by kernel_rfl) (by simp) ?_
            refine AllReadyH.cons rfl (fun K hK => ?_) AllReadyH.nil
            go_simp
            go_wp2_with (first | (go_at_call 24; ((with_reducible refine (HMA _).out.mono ?_); rintro e wm1 ⟨rfl, hb⟩; have HO := Lib.hid (own_below HO.out hb); have HpA := Lib.hid (HpA.out.below hb HpA.out.lt); have HpB := Lib.hid (HpB.out.below hb HpB.out.lt); have HW := Lib.hid (HW.out.trans (hb.mono HW.out.size)); clear hb)))
            refine hK.out _ _ ⟨HpA.out.c0, HpA.out.c1, HpA.out.c2, HpA.out.c3, HpB.out.c0, HpB.out.c1, HpB.out.c2, HpB.out.c3, (own_at HO.out hJM2.out HRM.out).c1⟩ (fun _ => ?_)
            clear hK K
            try go_simp
            refine wpAnyH_take (i := 2) (v := ?vkp_2) rfl (by kernel_rfl) (by kernel_rfl) (by kernel_rfl) (fun _ _ _ h => h) (Or.inl ⟨by rfl, ?ykp_2⟩) ⟨HpA.out.c0, HpA.out.c1, HpA.out.c2, HpA.out.c3, HpB.out.c0, HpB.out.c1, HpB.out.c2, HpB.out.c3, (own_at HO.out hJM2.out HRM.out).c1⟩ ?rkp_2
            case ykp_2 => (intro W hSw; (try dsimp only at hSw); obtain ⟨s0, s1, s2, s3, s4, s5, s6, s7, s8⟩ := hSw; first | (go_simp; done) | (go_simp; with_reducible rfl))
            try go_simp
            refine wpAnyH_take (i := 3) (v := ?vkp_3) rfl (by kernel_rfl) (by kernel_rfl) (by kernel_rfl) (fun _ _ _ h => h) (Or.inl ⟨by rfl, ?ykp_3⟩) ⟨HpA.out.c0, HpA.out.c1, HpA.out.c2, HpA.out.c3, HpB.out.c0, HpB.out.c1, HpB.out.c2, HpB.out.c3, (own_at HO.out hJM2.out HRM.out).c1⟩ ?rkp_3
            case ykp_3 => (intro W hSw; (try dsimp only at hSw); obtain ⟨s0, s1, s2, s3, s4, s5, s6, s7, s8⟩ := hSw; first | (go_simp; done) | (go_simp; with_reducible rfl))
            try go_simp
            refine wpAnyH_take (i := 4) (v := ?vkp_4) rfl (by kernel_rfl) (by kernel_rfl) (by kernel_rfl) (fun _ _ _ h => h) (Or.inl ⟨by rfl, ?ykp_4⟩) ⟨HpA.out.c0, HpA.out.c1, HpA.out.c2, HpA.out.c3, HpB.out.c0, HpB.out.c1, HpB.out.c2, HpB.out.c3, (own_at HO.out hJM2.out HRM.out).c1⟩ ?rkp_4
            case ykp_4 => (intro W hSw; (try dsimp only at hSw); obtain ⟨s0, s1, s2, s3, s4, s5, s6, s7, s8⟩ := hSw; first | (go_simp; done) | (go_simp; with_reducible rfl))
            try go_simp
            refine wpAnyH_ready (rs := [5]) (by kernel_rfl) (by simp) ?_
            refine AllReadyH.cons rfl (fun K hK => ?_) AllReadyH.nil
            go_simp
            go_wp2_with (first | (go_at_call 24; ((with_reducible refine (HMB _).out.mono ?_); rintro e wm2 ⟨rfl, hb⟩; have HO := Lib.hid (own_below HO.out hb); have HpA := Lib.hid (HpA.out.below hb HpA.out.lt); have HpB := Lib.hid (HpB.out.below hb HpB.out.lt); have HW := Lib.hid (HW.out.trans (hb.mono HW.out.size)); clear hb)))
            refine hK.out _ _ ⟨HpA.out.c0, HpA.out.c1, HpA.out.c2, HpA.out.c3, HpB.out.c0, HpB.out.c1, HpB.out.c2, HpB.out.c3, (own_at HO.out hJM2.out HRM.out).c1⟩ (fun _ => ?_)
            clear hK K
            try go_simp
            refine wpAnyH_take (i := 6) (v := ?vkp_6) rfl (by kernel_rfl) (by kernel_rfl) (by kernel_rfl) (fun _ _ _ h => h) (Or.inl ⟨by rfl, ?ykp_6⟩) ⟨HpA.out.c0, HpA.out.c1, HpA.out.c2, HpA.out.c3, HpB.out.c0, HpB.out.c1, HpB.out.c2, HpB.out.c3, (own_at HO.out hJM2.out HRM.out).c1⟩ ?rkp_6
            case ykp_6 => (intro W hSw; (try dsimp only at hSw); obtain ⟨s0, s1, s2, s3, s4, s5, s6, s7, s8⟩ := hSw; first | (go_simp; done) | (go_simp; with_reducible rfl))
            try go_simp
            refine wpAnyH_take (i := 7) (v := ?vkp_7) rfl (by kernel_rfl) (by kernel_rfl) (by kernel_rfl) (fun _ _ _ h => h) (Or.inl ⟨by rfl, ?ykp_7⟩) ⟨HpA.out.c0, HpA.out.c1, HpA.out.c2, HpA.out.c3, HpB.out.c0, HpB.out.c1, HpB.out.c2, HpB.out.c3, (own_at HO.out hJM2.out HRM.out).c1⟩ ?rkp_7
            case ykp_7 => (intro W hSw; (try dsimp only at hSw); obtain ⟨s0, s1, s2, s3, s4, s5, s6, s7, s8⟩ := hSw; first | (go_simp; done) | (go_simp; with_reducible rfl))
            try go_simp
            refine wpAnyH_take (i := 8) (v := ?vkp_8) rfl (by kernel_rfl) (by kernel_rfl) (by kernel_rfl) (fun _ _ _ h => h) (Or.inl ⟨by rfl, ?ykp_8⟩) ⟨HpA.out.c0, HpA.out.c1, HpA.out.c2, HpA.out.c3, HpB.out.c0, HpB.out.c1, HpB.out.c2, HpB.out.c3, (own_at HO.out hJM2.out HRM.out).c1⟩ ?rkp_8
            case ykp_8 => (intro W hSw; (try dsimp only at hSw); obtain ⟨s0, s1, s2, s3, s4, s5, s6, s7, s8⟩ := hSw; first | (go_simp; done) | (go_simp; with_reducible rfl))
            try go_simp
            refine wpAnyH_take (i := 9) (v := ?vkp_9) rfl (by kernel_rfl) (by kernel_rfl) (by kernel_rfl) (fun _ _ _ h => h) (Or.inl ⟨by rfl, ?ykp_9⟩) ⟨HpA.out.c0, HpA.out.c1, HpA.out.c2, HpA.out.c3, HpB.out.c0, HpB.out.c1, HpB.out.c2, HpB.out.c3, (own_at HO.out hJM2.out HRM.out).c1⟩ ?rkp_9
            case ykp_9 => (intro W hSw; (try dsimp only at hSw); obtain ⟨s0, s1, s2, s3, s4, s5, s6, s7, s8⟩ := hSw; first | (go_simp; done) | (go_simp; with_reducible rfl))
            try go_simp
            refine wpAnyH_take (i := 10) (v := ?vkp_10) rfl (by kernel_rfl) (by kernel_rfl) (by kernel_rfl) (fun _ _ _ h => h) (Or.inl ⟨by rfl, ?ykp_10⟩) ⟨HpA.out.c0, HpA.out.c1, HpA.out.c2, HpA.out.c3, HpB.out.c0, HpB.out.c1, HpB.out.c2, HpB.out.c3, (own_at HO.out hJM2.out HRM.out).c1⟩ ?rkp_10
            case ykp_10 => (intro W hSw; (try dsimp only at hSw); obtain ⟨s0, s1, s2, s3, s4, s5, s6, s7, s8⟩ := hSw; first | (go_simp; done) | (go_simp; with_reducible rfl))
            try go_simp
            refine wpAnyH_take (i := 11) (v := ?vkp_11) rfl (by kernel_rfl) (by kernel_rfl) (by kernel_rfl) (fun _ _ _ h => h) (Or.inl ⟨by rfl, ?ykp_11⟩) ⟨HpA.out.c0, HpA.out.c1, HpA.out.c2, HpA.out.c3, HpB.out.c0, HpB.out.c1, HpB.out.c2, HpB.out.c3, (own_at HO.out hJM2.out HRM.out).c1⟩ ?rkp_11
            case ykp_11 => (intro W hSw; (try dsimp only at hSw); obtain ⟨s0, s1, s2, s3, s4, s5, s6, s7, s8⟩ := hSw; first | (go_simp; done) | (go_simp; with_reducible rfl))
            try go_simp
            refine wpAnyH_take (i := 12) (v := ?vkp_12) rfl (by kernel_rfl) (by kernel_rfl) (by kernel_rfl) (fun _ _ _ h => h) (Or.inl ⟨by rfl, ?ykp_12⟩) ⟨HpA.out.c0, HpA.out.c1, HpA.out.c2, HpA.out.c3, HpB.out.c0, HpB.out.c1, HpB.out.c2, HpB.out.c3, (own_at HO.out hJM2.out HRM.out).c1⟩ ?rkp_12
            case ykp_12 => (intro W hSw; (try dsimp only at hSw); obtain ⟨s0, s1, s2, s3, s4, s5, s6, s7, s8⟩ := hSw; first | (go_simp; done) | (go_simp; with_reducible rfl))
            try go_simp
            refine wpAnyH_take (i := 13) (v := ?vkp_13) rfl (by kernel_rfl) (by kernel_rfl) (by kernel_rfl) (fun _ _ _ h => h) (Or.inl ⟨by rfl, ?ykp_13⟩) ⟨HpA.out.c0, HpA.out.c1, HpA.out.c2, HpA.out.c3, HpB.out.c0, HpB.out.c1, HpB.out.c2, HpB.out.c3, (own_at HO.out hJM2.out HRM.out).c1⟩ ?rkp_13
            case ykp_13 => (intro W hSw; (try dsimp only at hSw); obtain ⟨s0, s1, s2, s3, s4, s5, s6, s7, s8⟩ := hSw; first | (go_simp; done) | (go_simp; with_reducible rfl))
            try go_simp
            refine wpAnyH_take (i := 14) (v := ?vkp_14) rfl (by kernel_rfl) (by kernel_rfl) (by kernel_rfl) (fun _ _ _ h => h) (Or.inl ⟨by rfl, ?ykp_14⟩) ⟨HpA.out.c0, HpA.out.c1, HpA.out.c2, HpA.out.c3, HpB.out.c0, HpB.out.c1, HpB.out.c2, HpB.out.c3, (own_at HO.out hJM2.out HRM.out).c1⟩ ?rkp_14
            case ykp_14 => (intro W hSw; (try dsimp only at hSw); obtain ⟨s0, s1, s2, s3, s4, s5, s6, s7, s8⟩ := hSw; first | (go_simp; done) | (go_simp; with_reducible rfl))
            try go_simp
            refine wpAnyH_take (i := 15) (v := ?vkp_15) rfl (by kernel_rfl) (by kernel_rfl) (by kernel_rfl) (fun _ _ _ h => h) (Or.inl ⟨by rfl, ?ykp_15⟩) ⟨HpA.out.c0, HpA.out.c1, HpA.out.c2, HpA.out.c3, HpB.out.c0, HpB.out.c1, HpB.out.c2, HpB.out.c3, (own_at HO.out hJM2.out HRM.out).c1⟩ ?rkp_15
            case ykp_15 => (intro W hSw; (try dsimp only at hSw); obtain ⟨s0, s1, s2, s3, s4, s5, s6, s7, s8⟩ := hSw; first | (go_simp; done) | (go_simp; with_reducible rfl))
            try go_simp
            refine wpAnyH_take (i := 16) (v := ?vkp_16) rfl (by kernel_rfl) (by kernel_rfl) (by kernel_rfl) (fun _ _ _ h => h) (Or.inl ⟨by rfl, ?ykp_16⟩) ⟨HpA.out.c0, HpA.out.c1, HpA.out.c2, HpA.out.c3, HpB.out.c0, HpB.out.c1, HpB.out.c2, HpB.out.c3, (own_at HO.out hJM2.out HRM.out).c1⟩ ?rkp_16
            case ykp_16 => (intro W hSw; (try dsimp only at hSw); obtain ⟨s0, s1, s2, s3, s4, s5, s6, s7, s8⟩ := hSw; first | (go_simp; done) | (go_simp; with_reducible rfl))
            try go_simp
            refine wpAnyH_take (i := 17) (v := ?vkp_17) rfl (by kernel_rfl) (by kernel_rfl) (by kernel_rfl) (fun _ _ _ h => h) (Or.inl ⟨by rfl, ?ykp_17⟩) ⟨HpA.out.c0, HpA.out.c1, HpA.out.c2, HpA.out.c3, HpB.out.c0, HpB.out.c1, HpB.out.c2, HpB.out.c3, (own_at HO.out hJM2.out HRM.out).c1⟩ ?rkp_17
            case ykp_17 => (intro W hSw; (try dsimp only at hSw); obtain ⟨s0, s1, s2, s3, s4, s5, s6, s7, s8⟩ := hSw; first | (go_simp; done) | (go_simp; with_reducible rfl))
            try go_simp
            refine wpAnyH_take (i := 18) (v := ?vkp_18) rfl (by kernel_rfl) (by kernel_rfl) (by kernel_rfl) (fun _ _ _ h => h) (Or.inl ⟨by rfl, ?ykp_18⟩) ⟨HpA.out.c0, HpA.out.c1, HpA.out.c2, HpA.out.c3, HpB.out.c0, HpB.out.c1, HpB.out.c2, HpB.out.c3, (own_at HO.out hJM2.out HRM.out).c1⟩ ?rkp_18
            case ykp_18 => (intro W hSw; (try dsimp only at hSw); obtain ⟨s0, s1, s2, s3, s4, s5, s6, s7, s8⟩ := hSw; first | (go_simp; done) | (go_simp; with_reducible rfl))
            try go_simp
            refine wpAnyH_done (by kernel_rfl) ?_ _
            obtain ⟨b0, b1, b2, b3, y0, y1, y2, y3⟩ := own_at HO.out hJM2.out HRM.out
            simp only at b0 b1 b2 b3
            have u0 := HpA.out.c0; have u1 := HpA.out.c1; have u2 := HpA.out.c2; have u3 := HpA.out.c3
            simp only at u0 u1 u2 u3
            go_upto_region 19 with fail
            have hO2 := own_set HO.out hJM2.out ⟨ri, re + 1, rl, x⟩
            have HO2 := Lib.hid (show ((((wm2.setCell ⟨g, J * 4, none⟩ (.int .i64 ri)).setCell ⟨g, J * 4 + 1, none⟩ (.int .i64 (re + 1))).setCell ⟨g, J * 4 + 2, none⟩ (.float .f64 rl)).setCell ⟨g, J * 4 + 3, none⟩ (.float .f64 x)).ownsRow w.heap.size 34 4 (.slice (some ⟨g, 0, none⟩) m c) m (cellsR (M.set J ⟨ri, re + 1, rl, x⟩)) from hO2.1)
            have HpB := Lib.hid (show At ((((wm2.setCell ⟨g, J * 4, none⟩ (.int .i64 ri)).setCell ⟨g, J * 4 + 1, none⟩ (.int .i64 (re + 1))).setCell ⟨g, J * 4 + 2, none⟩ (.float .f64 rl)).setCell ⟨g, J * 4 + 3, none⟩ (.float .f64 x)) bb _ from HpB.out.setR_other (J * 4) ⟨ri, re + 1, rl, x⟩ (by omega))
            have HW := Lib.hid (show Below w.heap.size w ((((wm2.setCell ⟨g, J * 4, none⟩ (.int .i64 ri)).setCell ⟨g, J * 4 + 1, none⟩ (.int .i64 (re + 1))).setCell ⟨g, J * 4 + 2, none⟩ (.float .f64 rl)).setCell ⟨g, J * 4 + 3, none⟩ (.float .f64 x)) from below_setR HW.out (HO.out.lt g rfl).1 (J * 4) ⟨ri, re + 1, rl, x⟩)
            clear hO2 HpA HO b0 b1 b2 b3 y0 y1 y2 y3 u0 u1 u2 u3
            generalize (((wm2.setCell ⟨g, J * 4, none⟩ (.int .i64 ri)).setCell ⟨g, J * 4 + 1, none⟩ (.int .i64 (re + 1))).setCell ⟨g, J * 4 + 2, none⟩ (.float .f64 rl)).setCell ⟨g, J * 4 + 3, none⟩ (.float .f64 x) = w9 at *
            have v0 := HpB.out.c0; have v1 := HpB.out.c1; have v2 := HpB.out.c2; have v3 := HpB.out.c3
            have hs9 := HW.out.size
            go_wp2_with (first
              | (at_builtin; refine wpList_append_ranges (by rfl) (.tmp 113) (.tmp 115) rfl (B := w.heap.size) (M := M.set J ⟨ri, re + 1, rl, x⟩) (n := m) rfl (HO2.out.alloc _) (by simp; omega) rfl (has_lit w9 ⟨(m : Int) + 1, 0, x, rh⟩) (by omega) ?_; intro v9 w10 ho9 hg9; have HW10 := Lib.hid ((HW.out.alloc hs9 (robj ⟨(m : Int) + 1, 0, x, rh⟩)).grown hg9 (by simp; omega) (fun k hk => (HO2.out.lt k hk).1)); obtain ⟨g9, c9, hv9⟩ := own_shape ho9 (by omega); subst hv9; have HO9 := Lib.hid ho9; clear ho9 hg9))
            go_roundw
            case rel => exact ⟨q + 1, m + 1, g9, c9, M.set J ⟨ri, re + 1, rl, x⟩ ++ [⟨(m : Int) + 1, 0, x, rh⟩], by go_num, by omega, rfl, by omega, by omega, by rw [List.length_append, List.length_set, HML.out]; exact rfl, HGN, HO9, HW10⟩
            case measure => simp [intOf]; omega
          · have hsf2 : (sf != 0) = true := bne_iff_ne.2 hsf
            go_wp2
            go_roundw
            case rel => exact ⟨q + 1, m, g, c, M, by go_num, by omega, rfl, hm0, hm12, HML, HGr, HO, HW⟩
            case measure => simp [intOf]; omega
      · go_wp2
        go_cut [13, 14, 15] from 40 to 116 (fun pa pb' pf wc => ∃ ba bb, pa = .pointer (some ⟨ba, 0, none⟩) ∧ pb' = .pointer (some ⟨bb, 0, none⟩) ∧ pf = .int .i64 sf ∧ Hid (At wc ba ⟨sai, sae, sal, sah⟩) ∧ Hid (At wc bb ⟨sbi, sbe, sbl, sbh⟩) ∧ ba ≠ bb ∧ wr.heap.size ≤ ba ∧ wr.heap.size ≤ bb ∧ Hid (Below wr.heap.size wr wc))
        case first =>
          refine wp_region_held (S := (fun w' : World => w'.cell? ⟨g, J * 4, none⟩ = some (.int .i64 ri) ∧ w'.cell? ⟨g, J * 4 + 1, none⟩ = some (.int .i64 re) ∧ w'.cell? ⟨g, J * 4 + 2, none⟩ = some (.float .f64 rl) ∧ w'.cell? ⟨g, J * 4 + 3, none⟩ = some (.float .f64 rh) ∧ w'.cell? ⟨pb, poff + q, none⟩ = some (.float .f64 x))) (by kernel_rfl) ?_
          change wpAnyH _ _ _ _ _ _ _ _ (World.drew _)
          have HC := Lib.hid ((Below.refl wr.heap.size wr).drew)
          refine wpAnyH_take (i := 0) (v := ?van_0) rfl (by kernel_rfl) (by kernel_rfl) (by kernel_rfl) (fun _ _ _ h => h) (Or.inl ⟨by rfl, ?yan_0⟩) ⟨(HC.out.cell (p := ⟨g, J * 4, none⟩) hgs.out).trans ka0.out, (HC.out.cell (p := ⟨g, J * 4 + 1, none⟩) hgs.out).trans ka1.out, (HC.out.cell (p := ⟨g, J * 4 + 2, none⟩) hgs.out).trans ka2.out, (HC.out.cell (p := ⟨g, J * 4 + 3, none⟩) hgs.out).trans ka3.out, (HC.out.cell (p := ⟨pb, poff + q, none⟩) hpbs.out).trans kcp.out⟩ ?ran_0
          case yan_0 => (intro W hSw; (try dsimp only at hSw); obtain ⟨s0, s1, s2, s3, s4⟩ := hSw; first | (go_simp; done) | (go_simp; with_reducible rfl))
          try go_simp
          refine wpAnyH_take (i := 1) (v := ?van_1) rfl (by kernel_rfl) (by kernel_rfl) (by kernel_rfl) (fun _ _ _ h => h) (Or.inl ⟨by rfl, ?yan_1⟩) ⟨(HC.out.cell (p := ⟨g, J * 4, none⟩) hgs.out).trans ka0.out, (HC.out.cell (p := ⟨g, J * 4 + 1, none⟩) hgs.out).trans ka1.out, (HC.out.cell (p := ⟨g, J * 4 + 2, none⟩) hgs.out).trans ka2.out, (HC.out.cell (p := ⟨g, J * 4 + 3, none⟩) hgs.out).trans ka3.out, (HC.out.cell (p := ⟨pb, poff + q, none⟩) hpbs.out).trans kcp.out⟩ ?ran_1
          case yan_1 => (intro W hSw; (try dsimp only at hSw); obtain ⟨s0, s1, s2, s3, s4⟩ := hSw; first | (go_simp; done) | (go_simp; with_reducible rfl))
          try go_simp
          refine wpAnyH_take (i := 2) (v := ?van_2) rfl (by kernel_rfl) (by kernel_rfl) (by kernel_rfl) (fun _ _ _ h => h) (Or.inl ⟨by rfl, ?yan_2⟩) ⟨(HC.out.cell (p := ⟨g, J * 4, none⟩) hgs.out).trans ka0.out, (HC.out.cell (p := ⟨g, J * 4 + 1, none⟩) hgs.out).trans ka1.out, (HC.out.cell (p := ⟨g, J * 4 + 2, none⟩) hgs.out).trans ka2.out, (HC.out.cell (p := ⟨g, J * 4 + 3, none⟩) hgs.out).trans ka3.out, (HC.out.cell (p := ⟨pb, poff + q, none⟩) hpbs.out).trans kcp.out⟩ ?ran_2
          case yan_2 => (intro W hSw; (try dsimp only at hSw); obtain ⟨s0, s1, s2, s3, s4⟩ := hSw; first | (go_simp; done) | (go_simp; with_reducible rfl))
          try go_simp
          refine wpAnyH_take (i := 3) (v := ?van_3) rfl (by kernel_rfl) (by kernel_rfl) (by kernel_rfl) (fun _ _ _ h => h) (Or.inl ⟨by rfl, ?yan_3⟩) ⟨(HC.out.cell (p := ⟨g, J * 4, none⟩) hgs.out).trans ka0.out, (HC.out.cell (p := ⟨g, J * 4 + 1, none⟩) hgs.out).trans ka1.out, (HC.out.cell (p := ⟨g, J * 4 + 2, none⟩) hgs.out).trans ka2.out, (HC.out.cell (p := ⟨g, J * 4 + 3, none⟩) hgs.out).trans ka3.out, (HC.out.cell (p := ⟨pb, poff + q, none⟩) hpbs.out).trans kcp.out⟩ ?ran_3
          case yan_3 => (intro W hSw; (try dsimp only at hSw); obtain ⟨s0, s1, s2, s3, s4⟩ := hSw; first | (go_simp; done) | (go_simp; with_reducible rfl))
          try go_simp
          refine wpAnyH_take (i := 4) (v := ?van_4) rfl (by kernel_rfl) (by kernel_rfl) (by kernel_rfl) (fun _ _ _ h => h) (Or.inl ⟨by rfl, ?yan_4⟩) ⟨(HC.out.cell (p := ⟨g, J * 4, none⟩) hgs.out).trans ka0.out, (HC.out.cell (p := ⟨g, J * 4 + 1, none⟩) hgs.out).trans ka1.out, (HC.out.cell (p := ⟨g, J * 4 + 2, none⟩) hgs.out).trans ka2.out, (HC.out.cell (p := ⟨g, J * 4 + 3, none⟩) hgs.out).trans ka3.out, (HC.out.cell (p := ⟨pb, poff + q, none⟩) hpbs.out).trans kcp.out⟩ ?ran_4
          case yan_4 => (intro W hSw; (try dsimp only at hSw); obtain ⟨s0, s1, s2, s3, s4⟩ := hSw; first | (go_simp; done) | (go_simp; with_reducible rfl))
          try go_simp
          refine wpAnyH_take (i := 5) (v := ?van_5) rfl (by kernel_rfl) (by kernel_rfl) (by kernel_rfl) (fun _ _ _ h => h) (Or.inl ⟨by rfl, ?yan_5⟩) ⟨(HC.out.cell (p := ⟨g, J * 4, none⟩) hgs.out).trans ka0.out, (HC.out.cell (p := ⟨g, J * 4 + 1, none⟩) hgs.out).trans ka1.out, (HC.out.cell (p := ⟨g, J * 4 + 2, none⟩) hgs.out).trans ka2.out, (HC.out.cell (p := ⟨g, J * 4 + 3, none⟩) hgs.out).trans ka3.out, (HC.out.cell (p := ⟨pb, poff + q, none⟩) hpbs.out).trans kcp.out⟩ ?ran_5
          case yan_5 => (intro W hSw; (try dsimp only at hSw); obtain ⟨s0, s1, s2, s3, s4⟩ := hSw; first | (go_simp; done) | (go_simp; with_reducible rfl))
          try go_simp
          refine wpAnyH_take (i := 6) (v := ?van_6) rfl (by kernel_rfl) (by kernel_rfl) (by kernel_rfl) (fun _ _ _ h => h) (Or.inl ⟨by rfl, ?yan_6⟩) ⟨(HC.out.cell (p := ⟨g, J * 4, none⟩) hgs.out).trans ka0.out, (HC.out.cell (p := ⟨g, J * 4 + 1, none⟩) hgs.out).trans ka1.out, (HC.out.cell (p := ⟨g, J * 4 + 2, none⟩) hgs.out).trans ka2.out, (HC.out.cell (p := ⟨g, J * 4 + 3, none⟩) hgs.out).trans ka3.out, (HC.out.cell (p := ⟨pb, poff + q, none⟩) hpbs.out).trans kcp.out⟩ ?ran_6
          case yan_6 => (intro W hSw; (try dsimp only at hSw); obtain ⟨s0, s1, s2, s3, s4⟩ := hSw; first | (go_simp; done) | (go_simp; with_reducible rfl))
          try go_simp
          refine wpAnyH_take (i := 7) (v := ?van_7) rfl (by kernel_rfl) (by kernel_rfl) (by kernel_rfl) (fun _ _ _ h => h) (Or.inl ⟨by rfl, ?yan_7⟩) ⟨(HC.out.cell (p := ⟨g, J * 4, none⟩) hgs.out).trans ka0.out, (HC.out.cell (p := ⟨g, J * 4 + 1, none⟩) hgs.out).trans ka1.out, (HC.out.cell (p := ⟨g, J * 4 + 2, none⟩) hgs.out).trans ka2.out, (HC.out.cell (p := ⟨g, J * 4 + 3, none⟩) hgs.out).trans ka3.out, (HC.out.cell (p := ⟨pb, poff + q, none⟩) hpbs.out).trans kcp.out⟩ ?ran_7
          case yan_7 => (intro W hSw; (try dsimp only at hSw); obtain ⟨s0, s1, s2, s3, s4⟩ := hSw; first | (go_simp; done) | (go_simp; with_reducible rfl))
          try go_simp
          refine wpAnyH_take (i := 8) (v := ?van_8) rfl (by kernel_rfl) (by kernel_rfl) (by kernel_rfl) (fun _ _ _ h => h) (Or.inl ⟨by rfl, ?yan_8⟩) ⟨(HC.out.cell (p := ⟨g, J * 4, none⟩) hgs.out).trans ka0.out, (HC.out.cell (p := ⟨g, J * 4 + 1, none⟩) hgs.out).trans ka1.out, (HC.out.cell (p := ⟨g, J * 4 + 2, none⟩) hgs.out).trans ka2.out, (HC.out.cell (p := ⟨g, J * 4 + 3, none⟩) hgs.out).trans ka3.out, (HC.out.cell (p := ⟨pb, poff + q, none⟩) hpbs.out).trans kcp.out⟩ ?ran_8
          case yan_8 => (intro W hSw; (try dsimp only at hSw); obtain ⟨s0, s1, s2, s3, s4⟩ := hSw; first | (go_simp; done) | (go_simp; with_reducible rfl))
          try go_simp
          refine wpAnyH_take (i := 9) (v := ?van_9) rfl (by kernel_rfl) (by kernel_rfl) (by kernel_rfl) (fun _ _ _ h => h) (Or.inl ⟨by rfl, ?yan_9⟩) ⟨(HC.out.cell (p := ⟨g, J * 4, none⟩) hgs.out).trans ka0.out, (HC.out.cell (p := ⟨g, J * 4 + 1, none⟩) hgs.out).trans ka1.out, (HC.out.cell (p := ⟨g, J * 4 + 2, none⟩) hgs.out).trans ka2.out, (HC.out.cell (p := ⟨g, J * 4 + 3, none⟩) hgs.out).trans ka3.out, (HC.out.cell (p := ⟨pb, poff + q, none⟩) hpbs.out).trans kcp.out⟩ ?ran_9
          case yan_9 => (intro W hSw; (try dsimp only at hSw); obtain ⟨s0, s1, s2, s3, s4⟩ := hSw; first | (go_simp; done) | (go_simp; with_reducible rfl))
          try go_simp
          refine wpAnyH_take (i := 10) (v := ?van_10) rfl (by kernel_rfl) (by kernel_rfl) (by kernel_rfl) (fun _ _ _ h => h) (Or.inl ⟨by rfl, ?yan_10⟩) ⟨(HC.out.cell (p := ⟨g, J * 4, none⟩) hgs.out).trans ka0.out, (HC.out.cell (p := ⟨g, J * 4 + 1, none⟩) hgs.out).trans ka1.out, (HC.out.cell (p := ⟨g, J * 4 + 2, none⟩) hgs.out).trans ka2.out, (HC.out.cell (p := ⟨g, J * 4 + 3, none⟩) hgs.out).trans ka3.out, (HC.out.cell (p := ⟨pb, poff + q, none⟩) hpbs.out).trans kcp.out⟩ ?ran_10
          case yan_10 => (intro W hSw; (try dsimp only at hSw); obtain ⟨s0, s1, s2, s3, s4⟩ := hSw; first | (go_simp; done) | (go_simp; with_reducible rfl))
          try go_simp
          refine wpAnyH_ready (rs := [11, 16, 17]) (by kernel_rfl) (by simp) ?_
          refine AllReadyH.cons rfl (fun K hK => ?_) (AllReadyH.cons rfl (fun K hK => ?_) (AllReadyH.cons rfl (fun K hK => ?_) AllReadyH.nil))
          · go_simp
            go_wp2_with (first | (go_at_call 22; ((with_reducible refine (HSP _).out.mono ?_); rintro e wzn11 ⟨rfl, hb⟩; have HC := Lib.hid (HC.out.trans (hb.mono HC.out.size)); clear hb)))
            refine hK.out _ _ ⟨(HC.out.cell (p := ⟨g, J * 4, none⟩) hgs.out).trans ka0.out, (HC.out.cell (p := ⟨g, J * 4 + 1, none⟩) hgs.out).trans ka1.out, (HC.out.cell (p := ⟨g, J * 4 + 2, none⟩) hgs.out).trans ka2.out, (HC.out.cell (p := ⟨g, J * 4 + 3, none⟩) hgs.out).trans ka3.out, (HC.out.cell (p := ⟨pb, poff + q, none⟩) hpbs.out).trans kcp.out⟩ (fun _ => ?_)
            clear hK K
            try go_simp
            refine wpAnyH_take (i := 12) (v := ?vn11_12) rfl (by kernel_rfl) (by kernel_rfl) (by kernel_rfl) (fun _ _ _ h => h) (Or.inl ⟨by rfl, ?yn11_12⟩) ⟨(HC.out.cell (p := ⟨g, J * 4, none⟩) hgs.out).trans ka0.out, (HC.out.cell (p := ⟨g, J * 4 + 1, none⟩) hgs.out).trans ka1.out, (HC.out.cell (p := ⟨g, J * 4 + 2, none⟩) hgs.out).trans ka2.out, (HC.out.cell (p := ⟨g, J * 4 + 3, none⟩) hgs.out).trans ka3.out, (HC.out.cell (p := ⟨pb, poff + q, none⟩) hpbs.out).trans kcp.out⟩ ?rn11_12
            case yn11_12 => (intro W hSw; (try dsimp only at hSw); obtain ⟨s0, s1, s2, s3, s4⟩ := hSw; first | (go_simp; done) | (go_simp; with_reducible rfl))
            try go_simp
            refine wpAnyH_take (i := 13) (v := ?vn11_13) rfl (by kernel_rfl) (by kernel_rfl) (by kernel_rfl) (fun _ _ _ h => h) (Or.inl ⟨by rfl, ?yn11_13⟩) ⟨(HC.out.cell (p := ⟨g, J * 4, none⟩) hgs.out).trans ka0.out, (HC.out.cell (p := ⟨g, J * 4 + 1, none⟩) hgs.out).trans ka1.out, (HC.out.cell (p := ⟨g, J * 4 + 2, none⟩) hgs.out).trans ka2.out, (HC.out.cell (p := ⟨g, J * 4 + 3, none⟩) hgs.out).trans ka3.out, (HC.out.cell (p := ⟨pb, poff + q, none⟩) hpbs.out).trans kcp.out⟩ ?rn11_13
            case yn11_13 => (intro W hSw; (try dsimp only at hSw); obtain ⟨s0, s1, s2, s3, s4⟩ := hSw; first | (go_simp; done) | (go_simp; with_reducible rfl))
            try go_simp
            refine wpAnyH_take (i := 14) (v := ?vn11_14) rfl (by kernel_rfl) (by kernel_rfl) (by kernel_rfl) (fun _ _ _ h => h) (Or.inl ⟨by rfl, ?yn11_14⟩) ⟨(HC.out.cell (p := ⟨g, J * 4, none⟩) hgs.out).trans ka0.out, (HC.out.cell (p := ⟨g, J * 4 + 1, none⟩) hgs.out).trans ka1.out, (HC.out.cell (p := ⟨g, J * 4 + 2, none⟩) hgs.out).trans ka2.out, (HC.out.cell (p := ⟨g, J * 4 + 3, none⟩) hgs.out).trans ka3.out, (HC.out.cell (p := ⟨pb, poff + q, none⟩) hpbs.out).trans kcp.out⟩ ?rn11_14
            case yn11_14 => (intro W hSw; (try dsimp only at hSw); obtain ⟨s0, s1, s2, s3, s4⟩ := hSw; first | (go_simp; done) | (go_simp; with_reducible rfl))
            try go_simp
            refine wpAnyH_take (i := 15) (v := ?vn11_15) rfl (by kernel_rfl) (by kernel_rfl) (by kernel_rfl) (fun _ _ _ h => h) (Or.inl ⟨by rfl, ?yn11_15⟩) ⟨(HC.out.cell (p := ⟨g, J * 4, none⟩) hgs.out).trans ka0.out, (HC.out.cell (p := ⟨g, J * 4 + 1, none⟩) hgs.out).trans ka1.out, (HC.out.cell (p := ⟨g, J * 4 + 2, none⟩) hgs.out).trans ka2.out, (HC.out.cell (p := ⟨g, J * 4 + 3, none⟩) hgs.out).trans ka3.out, (HC.out.cell (p := ⟨pb, poff + q, none⟩) hpbs.out).trans kcp.out⟩ ?rn11_15
            case yn11_15 => (intro W hSw; (try dsimp only at hSw); obtain ⟨s0, s1, s2, s3, s4⟩ := hSw; first | (go_simp; done) | (go_simp; with_reducible rfl))
            try go_simp
            refine wpAnyH_ready (rs := [16, 17]) (by kernel_rfl) (by simp) ?_
            refine AllReadyH.cons rfl (fun K hK => ?_) (AllReadyH.cons rfl (fun K hK => ?_) AllReadyH.nil)
            · go_simp
              have HpA := Lib.hid (show At (wzn11.alloc (.cells #[.int .i64 0, .int .i64 0, .float .f64 0, .float .f64 0] 34)) wzn11.heap.size RV.zero from at_new wzn11 RV.zero)
              have hpA := HC.out.size
              have HC := Lib.hid (HC.out.alloc HC.out.size (.cells #[.int .i64 0, .int .i64 0, .float .f64 0, .float .f64 0] 34))
              generalize hgen : wzn11.alloc (.cells #[.int .i64 0, .int .i64 0, .float .f64 0, .float .f64 0] 34) = wqn1116 at *
              clear hgen
              refine hK.out _ _ ⟨(HC.out.cell (p := ⟨g, J * 4, none⟩) hgs.out).trans ka0.out, (HC.out.cell (p := ⟨g, J * 4 + 1, none⟩) hgs.out).trans ka1.out, (HC.out.cell (p := ⟨g, J * 4 + 2, none⟩) hgs.out).trans ka2.out, (HC.out.cell (p := ⟨g, J * 4 + 3, none⟩) hgs.out).trans ka3.out, (HC.out.cell (p := ⟨pb, poff + q, none⟩) hpbs.out).trans kcp.out⟩ (fun _ => ?_)
              clear hK K
              try go_simp
              refine wpAnyH_ready (rs := [17]) (by kernel_rfl) (by simp) ?_
              refine AllReadyH.cons rfl (fun K hK => ?_) AllReadyH.nil
              · go_simp
                have HpB := Lib.hid (show At (wqn1116.alloc (.cells #[.int .i64 0, .int .i64 0, .float .f64 0, .float .f64 0] 34)) wqn1116.heap.size RV.zero from at_new wqn1116 RV.zero)
                have hpB := HC.out.size
                have npA := HpA.out.lt; have HpA := Lib.hid (HpA.out.alloc (.cells #[.int .i64 0, .int .i64 0, .float .f64 0, .float .f64 0] 34))
                have HC := Lib.hid (HC.out.alloc HC.out.size (.cells #[.int .i64 0, .int .i64 0, .float .f64 0, .float .f64 0] 34))
                generalize hgen : wqn1116.alloc (.cells #[.int .i64 0, .int .i64 0, .float .f64 0, .float .f64 0] 34) = wqn111617 at *
                clear hgen
                refine hK.out _ _ ⟨(HC.out.cell (p := ⟨g, J * 4, none⟩) hgs.out).trans ka0.out, (HC.out.cell (p := ⟨g, J * 4 + 1, none⟩) hgs.out).trans ka1.out, (HC.out.cell (p := ⟨g, J * 4 + 2, none⟩) hgs.out).trans ka2.out, (HC.out.cell (p := ⟨g, J * 4 + 3, none⟩) hgs.out).trans ka3.out, (HC.out.cell (p := ⟨pb, poff + q, none⟩) hpbs.out).trans kcp.out⟩ (fun _ => ?_)
                clear hK K
                try go_simp
                have hne : wzn11.heap.size ≠ wqn1116.heap.size := by omega
                have pA0 := HpA.out.c0; have pA1 := HpA.out.c1; have pA2 := HpA.out.c2; have pA3 := HpA.out.c3; have pA4 := HpA.out.f0; have pA5 := HpA.out.f1; have pA6 := HpA.out.f2; have pA7 := HpA.out.f3
                refine wpAnyH_ready (rs := [18]) (by kernel_rfl) (by simp) ?_
                refine AllReadyH.cons rfl (fun K hK => ?_) AllReadyH.nil
                go_simp
                have Hm := Lib.hid (show At (((((wqn111617).setCell ⟨wzn11.heap.size, 0, none⟩ (.int .i64 sai)).setCell ⟨wzn11.heap.size, 1, none⟩ (.int .i64 sae)).setCell ⟨wzn11.heap.size, 2, none⟩ (.float .f64 sal)).setCell ⟨wzn11.heap.size, 3, none⟩ (.float .f64 sah)) wzn11.heap.size ⟨sai, sae, sal, sah⟩ from HpA.out.setAll ⟨sai, sae, sal, sah⟩)
                have Ho := Lib.hid (show At (((((wqn111617).setCell ⟨wzn11.heap.size, 0, none⟩ (.int .i64 sai)).setCell ⟨wzn11.heap.size, 1, none⟩ (.int .i64 sae)).setCell ⟨wzn11.heap.size, 2, none⟩ (.float .f64 sal)).setCell ⟨wzn11.heap.size, 3, none⟩ (.float .f64 sah)) wqn1116.heap.size RV.zero from HpB.out.set_other ⟨sai, sae, sal, sah⟩ hne.symm)
                have HC := Lib.hid (show Below wr.heap.size wr (((((wqn111617).setCell ⟨wzn11.heap.size, 0, none⟩ (.int .i64 sai)).setCell ⟨wzn11.heap.size, 1, none⟩ (.int .i64 sae)).setCell ⟨wzn11.heap.size, 2, none⟩ (.float .f64 sal)).setCell ⟨wzn11.heap.size, 3, none⟩ (.float .f64 sah)) from below_set4 HC.out hpA ⟨sai, sae, sal, sah⟩)
                clear HpA HpB pA0 pA1 pA2 pA3 pA4 pA5 pA6 pA7
                have HpA := Hm; have HpB := Ho; clear Hm Ho
                generalize ((((wqn111617).setCell ⟨wzn11.heap.size, 0, none⟩ (.int .i64 sai)).setCell ⟨wzn11.heap.size, 1, none⟩ (.int .i64 sae)).setCell ⟨wzn11.heap.size, 2, none⟩ (.float .f64 sal)).setCell ⟨wzn11.heap.size, 3, none⟩ (.float .f64 sah) = wtn11161718 at *
                refine hK.out _ _ ⟨(HC.out.cell (p := ⟨g, J * 4, none⟩) hgs.out).trans ka0.out, (HC.out.cell (p := ⟨g, J * 4 + 1, none⟩) hgs.out).trans ka1.out, (HC.out.cell (p := ⟨g, J * 4 + 2, none⟩) hgs.out).trans ka2.out, (HC.out.cell (p := ⟨g, J * 4 + 3, none⟩) hgs.out).trans ka3.out, (HC.out.cell (p := ⟨pb, poff + q, none⟩) hpbs.out).trans kcp.out⟩ (fun _ => ?_)
                clear hK K
                try go_simp
                have pB0 := HpB.out.c0; have pB1 := HpB.out.c1; have pB2 := HpB.out.c2; have pB3 := HpB.out.c3; have pB4 := HpB.out.f0; have pB5 := HpB.out.f1; have pB6 := HpB.out.f2; have pB7 := HpB.out.f3
                refine wpAnyH_ready (rs := [19]) (by kernel_rfl) (by simp) ?_
                refine AllReadyH.cons rfl (fun K hK => ?_) AllReadyH.nil
                go_simp
                have Hm := Lib.hid (show At (((((wtn11161718).setCell ⟨wqn1116.heap.size, 0, none⟩ (.int .i64 sbi)).setCell ⟨wqn1116.heap.size, 1, none⟩ (.int .i64 sbe)).setCell ⟨wqn1116.heap.size, 2, none⟩ (.float .f64 sbl)).setCell ⟨wqn1116.heap.size, 3, none⟩ (.float .f64 sbh)) wqn1116.heap.size ⟨sbi, sbe, sbl, sbh⟩ from HpB.out.setAll ⟨sbi, sbe, sbl, sbh⟩)
                have Ho := Lib.hid (show At (((((wtn11161718).setCell ⟨wqn1116.heap.size, 0, none⟩ (.int .i64 sbi)).setCell ⟨wqn1116.heap.size, 1, none⟩ (.int .i64 sbe)).setCell ⟨wqn1116.heap.size, 2, none⟩ (.float .f64 sbl)).setCell ⟨wqn1116.heap.size, 3, none⟩ (.float .f64 sbh)) wzn11.heap.size ⟨sai, sae, sal, sah⟩ from HpA.out.set_other ⟨sbi, sbe, sbl, sbh⟩ hne)
                have HC := Lib.hid (show Below wr.heap.size wr (((((wtn11161718).setCell ⟨wqn1116.heap.size, 0, none⟩ (.int .i64 sbi)).setCell ⟨wqn1116.heap.size, 1, none⟩ (.int .i64 sbe)).setCell ⟨wqn1116.heap.size, 2, none⟩ (.float .f64 sbl)).setCell ⟨wqn1116.heap.size, 3, none⟩ (.float .f64 sbh)) from below_set4 HC.out hpB ⟨sbi, sbe, sbl, sbh⟩)
                clear HpB HpA pB0 pB1 pB2 pB3 pB4 pB5 pB6 pB7
                have HpB := Hm; have HpA := Ho; clear Hm Ho
                generalize ((((wtn11161718).setCell ⟨wqn1116.heap.size, 0, none⟩ (.int .i64 sbi)).setCell ⟨wqn1116.heap.size, 1, none⟩ (.int .i64 sbe)).setCell ⟨wqn1116.heap.size, 2, none⟩ (.float .f64 sbl)).setCell ⟨wqn1116.heap.size, 3, none⟩ (.float .f64 sbh) = wtn11161719 at *
                refine hK.out _ _ ⟨(HC.out.cell (p := ⟨g, J * 4, none⟩) hgs.out).trans ka0.out, (HC.out.cell (p := ⟨g, J * 4 + 1, none⟩) hgs.out).trans ka1.out, (HC.out.cell (p := ⟨g, J * 4 + 2, none⟩) hgs.out).trans ka2.out, (HC.out.cell (p := ⟨g, J * 4 + 3, none⟩) hgs.out).trans ka3.out, (HC.out.cell (p := ⟨pb, poff + q, none⟩) hpbs.out).trans kcp.out⟩ (fun _ => ?_)
                clear hK K
                try go_simp
                refine wpAnyH_take (i := 20) (v := ?vln111617_20) rfl (by kernel_rfl) (by kernel_rfl) (by kernel_rfl) (fun _ _ _ h => h) (Or.inl ⟨by rfl, ?yln111617_20⟩) ⟨(HC.out.cell (p := ⟨g, J * 4, none⟩) hgs.out).trans ka0.out, (HC.out.cell (p := ⟨g, J * 4 + 1, none⟩) hgs.out).trans ka1.out, (HC.out.cell (p := ⟨g, J * 4 + 2, none⟩) hgs.out).trans ka2.out, (HC.out.cell (p := ⟨g, J * 4 + 3, none⟩) hgs.out).trans ka3.out, (HC.out.cell (p := ⟨pb, poff + q, none⟩) hpbs.out).trans kcp.out⟩ ?rln111617_20
                case yln111617_20 => (intro W hSw; (try dsimp only at hSw); obtain ⟨s0, s1, s2, s3, s4⟩ := hSw; first | (go_simp; done) | (go_simp; with_reducible rfl))
                try go_simp
                refine wpAnyH_done (by kernel_rfl) ?_ _
                (try go_wp2_with fail)
                go_meet
                exact ⟨_, _, rfl, rfl, rfl, HpA, HpB, hne, hpA, hpB, HC⟩
            · go_simp
              have HpB := Lib.hid (show At (wzn11.alloc (.cells #[.int .i64 0, .int .i64 0, .float .f64 0, .float .f64 0] 34)) wzn11.heap.size RV.zero from at_new wzn11 RV.zero)
              have hpB := HC.out.size
              have HC := Lib.hid (HC.out.alloc HC.out.size (.cells #[.int .i64 0, .int .i64 0, .float .f64 0, .float .f64 0] 34))
              generalize hgen : wzn11.alloc (.cells #[.int .i64 0, .int .i64 0, .float .f64 0, .float .f64 0] 34) = wqn1117 at *
              clear hgen
              refine hK.out _ _ ⟨(HC.out.cell (p := ⟨g, J * 4, none⟩) hgs.out).trans ka0.out, (HC.out.cell (p := ⟨g, J * 4 + 1, none⟩) hgs.out).trans ka1.out, (HC.out.cell (p := ⟨g, J * 4 + 2, none⟩) hgs.out).trans ka2.out, (HC.out.cell (p := ⟨g, J * 4 + 3, none⟩) hgs.out).trans ka3.out, (HC.out.cell (p := ⟨pb, poff + q, none⟩) hpbs.out).trans kcp.out⟩ (fun _ => ?_)
              clear hK K
              try go_simp
              refine wpAnyH_ready (rs := [16]) (by kernel_rfl) (by simp) ?_
              refine AllReadyH.cons rfl (fun K hK => ?_) AllReadyH.nil
              · go_simp
                have HpA := Lib.hid (show At (wqn1117.alloc (.cells #[.int .i64 0, .int .i64 0, .float .f64 0, .float .f64 0] 34)) wqn1117.heap.size RV.zero from at_new wqn1117 RV.zero)
                have hpA := HC.out.size
                have npB := HpB.out.lt; have HpB := Lib.hid (HpB.out.alloc (.cells #[.int .i64 0, .int .i64 0, .float .f64 0, .float .f64 0] 34))
                have HC := Lib.hid (HC.out.alloc HC.out.size (.cells #[.int .i64 0, .int .i64 0, .float .f64 0, .float .f64 0] 34))
                generalize hgen : wqn1117.alloc (.cells #[.int .i64 0, .int .i64 0, .float .f64 0, .float .f64 0] 34) = wqn111716 at *
                clear hgen
                refine hK.out _ _ ⟨(HC.out.cell (p := ⟨g, J * 4, none⟩) hgs.out).trans ka0.out, (HC.out.cell (p := ⟨g, J * 4 + 1, none⟩) hgs.out).trans ka1.out, (HC.out.cell (p := ⟨g, J * 4 + 2, none⟩) hgs.out).trans ka2.out, (HC.out.cell (p := ⟨g, J * 4 + 3, none⟩) hgs.out).trans ka3.out, (HC.out.cell (p := ⟨pb, poff + q, none⟩) hpbs.out).trans kcp.out⟩ (fun _ => ?_)
                clear hK K
                try go_simp
                have hne : wqn1117.heap.size ≠ wzn11.heap.size := by omega
                have pA0 := HpA.out.c0; have pA1 := HpA.out.c1; have pA2 := HpA.out.c2; have pA3 := HpA.out.c3; have pA4 := HpA.out.f0; have pA5 := HpA.out.f1; have pA6 := HpA.out.f2; have pA7 := HpA.out.f3
                refine wpAnyH_ready (rs := [18]) (by kernel_rfl) (by simp) ?_
                refine AllReadyH.cons rfl (fun K hK => ?_) AllReadyH.nil
                go_simp
                have Hm := Lib.hid (show At (((((wqn111716).setCell ⟨wqn1117.heap.size, 0, none⟩ (.int .i64 sai)).setCell ⟨wqn1117.heap.size, 1, none⟩ (.int .i64 sae)).setCell ⟨wqn1117.heap.size, 2, none⟩ (.float .f64 sal)).setCell ⟨wqn1117.heap.size, 3, none⟩ (.float .f64 sah)) wqn1117.heap.size ⟨sai, sae, sal, sah⟩ from HpA.out.setAll ⟨sai, sae, sal, sah⟩)
                have Ho := Lib.hid (show At (((((wqn111716).setCell ⟨wqn1117.heap.size, 0, none⟩ (.int .i64 sai)).setCell ⟨wqn1117.heap.size, 1, none⟩ (.int .i64 sae)).setCell ⟨wqn1117.heap.size, 2, none⟩ (.float .f64 sal)).setCell ⟨wqn1117.heap.size, 3, none⟩ (.float .f64 sah)) wzn11.heap.size RV.zero from HpB.out.set_other ⟨sai, sae, sal, sah⟩ hne.symm)
                have HC := Lib.hid (show Below wr.heap.size wr (((((wqn111716).setCell ⟨wqn1117.heap.size, 0, none⟩ (.int .i64 sai)).setCell ⟨wqn1117.heap.size, 1, none⟩ (.int .i64 sae)).setCell ⟨wqn1117.heap.size, 2, none⟩ (.float .f64 sal)).setCell ⟨wqn1117.heap.size, 3, none⟩ (.float .f64 sah)) from below_set4 HC.out hpA ⟨sai, sae, sal, sah⟩)
                clear HpA HpB pA0 pA1 pA2 pA3 pA4 pA5 pA6 pA7
                have HpA := Hm; have HpB := Ho; clear Hm Ho
                generalize ((((wqn111716).setCell ⟨wqn1117.heap.size, 0, none⟩ (.int .i64 sai)).setCell ⟨wqn1117.heap.size, 1, none⟩ (.int .i64 sae)).setCell ⟨wqn1117.heap.size, 2, none⟩ (.float .f64 sal)).setCell ⟨wqn1117.heap.size, 3, none⟩ (.float .f64 sah) = wtn11171618 at *
                refine hK.out _ _ ⟨(HC.out.cell (p := ⟨g, J * 4, none⟩) hgs.out).trans ka0.out, (HC.out.cell (p := ⟨g, J * 4 + 1, none⟩) hgs.out).trans ka1.out, (HC.out.cell (p := ⟨g, J * 4 + 2, none⟩) hgs.out).trans ka2.out, (HC.out.cell (p := ⟨g, J * 4 + 3, none⟩) hgs.out).trans ka3.out, (HC.out.cell (p := ⟨pb, poff + q, none⟩) hpbs.out).trans kcp.out⟩ (fun _ => ?_)
                clear hK K
                try go_simp
                have pB0 := HpB.out.c0; have pB1 := HpB.out.c1; have pB2 := HpB.out.c2; have pB3 := HpB.out.c3; have pB4 := HpB.out.f0; have pB5 := HpB.out.f1; have pB6 := HpB.out.f2; have pB7 := HpB.out.f3
                refine wpAnyH_ready (rs := [19]) (by kernel_rfl) (by simp) ?_
                refine AllReadyH.cons rfl (fun K hK => ?_) AllReadyH.nil
                go_simp
                have Hm := Lib.hid (show At (((((wtn11171618).setCell ⟨wzn11.heap.size, 0, none⟩ (.int .i64 sbi)).setCell ⟨wzn11.heap.size, 1, none⟩ (.int .i64 sbe)).setCell ⟨wzn11.heap.size, 2, none⟩ (.float .f64 sbl)).setCell ⟨wzn11.heap.size, 3, none⟩ (.float .f64 sbh)) wzn11.heap.size ⟨sbi, sbe, sbl, sbh⟩ from HpB.out.setAll ⟨sbi, sbe, sbl, sbh⟩)
                have Ho := Lib.hid (show At (((((wtn11171618).setCell ⟨wzn11.heap.size, 0, none⟩ (.int .i64 sbi)).setCell ⟨wzn11.heap.size, 1, none⟩ (.int .i64 sbe)).setCell ⟨wzn11.heap.size, 2, none⟩ (.float .f64 sbl)).setCell ⟨wzn11.heap.size, 3, none⟩ (.float .f64 sbh)) wqn1117.heap.size ⟨sai, sae, sal, sah⟩ from HpA.out.set_other ⟨sbi, sbe, sbl, sbh⟩ hne)
                have HC := Lib.hid (show Below wr.heap.size wr (((((wtn11171618).setCell ⟨wzn11.heap.size, 0, none⟩ (.int .i64 sbi)).setCell ⟨wzn11.heap.size, 1, none⟩ (.int .i64 sbe)).setCell ⟨wzn11.heap.size, 2, none⟩ (.float .f64 sbl)).setCell ⟨wzn11.heap.size, 3, none⟩ (.float .f64 sbh)) from below_set4 HC.out hpB ⟨sbi, sbe, sbl, sbh⟩)
                clear HpB HpA pB0 pB1 pB2 pB3 pB4 pB5 pB6 pB7
                have HpB := Hm; have HpA := Ho; clear Hm Ho
                generalize ((((wtn11171618).setCell ⟨wzn11.heap.size, 0, none⟩ (.int .i64 sbi)).setCell ⟨wzn11.heap.size, 1, none⟩ (.int .i64 sbe)).setCell ⟨wzn11.heap.size, 2, none⟩ (.float .f64 sbl)).setCell ⟨wzn11.heap.size, 3, none⟩ (.float .f64 sbh) = wtn11171619 at *
                refine hK.out _ _ ⟨(HC.out.cell (p := ⟨g, J * 4, none⟩) hgs.out).trans ka0.out, (HC.out.cell (p := ⟨g, J * 4 + 1, none⟩) hgs.out).trans ka1.out, (HC.out.cell (p := ⟨g, J * 4 + 2, none⟩) hgs.out).trans ka2.out, (HC.out.cell (p := ⟨g, J * 4 + 3, none⟩) hgs.out).trans ka3.out, (HC.out.cell (p := ⟨pb, poff + q, none⟩) hpbs.out).trans kcp.out⟩ (fun _ => ?_)
                clear hK K
                try go_simp
                refine wpAnyH_take (i := 20) (v := ?vln111716_20) rfl (by kernel_rfl) (by kernel_rfl) (by kernel_rfl) (fun _ _ _ h => h) (Or.inl ⟨by rfl, ?yln111716_20⟩) ⟨(HC.out.cell (p := ⟨g, J * 4, none⟩) hgs.out).trans ka0.out, (HC.out.cell (p := ⟨g, J * 4 + 1, none⟩) hgs.out).trans ka1.out, (HC.out.cell (p := ⟨g, J * 4 + 2, none⟩) hgs.out).trans ka2.out, (HC.out.cell (p := ⟨g, J * 4 + 3, none⟩) hgs.out).trans ka3.out, (HC.out.cell (p := ⟨pb, poff + q, none⟩) hpbs.out).trans kcp.out⟩ ?rln111716_20
                case yln111716_20 => (intro W hSw; (try dsimp only at hSw); obtain ⟨s0, s1, s2, s3, s4⟩ := hSw; first | (go_simp; done) | (go_simp; with_reducible rfl))
                try go_simp
                refine wpAnyH_done (by kernel_rfl) ?_ _
                (try go_wp2_with fail)
                go_meet
                exact ⟨_, _, rfl, rfl, rfl, HpA, HpB, hne, hpA, hpB, HC⟩
          · go_simp
            have HpA := Lib.hid (show At (wr.drew.alloc (.cells #[.int .i64 0, .int .i64 0, .float .f64 0, .float .f64 0] 34)) wr.heap.size RV.zero from at_new wr.drew RV.zero)
            have hpA := HC.out.size
            have HC := Lib.hid (HC.out.alloc HC.out.size (.cells #[.int .i64 0, .int .i64 0, .float .f64 0, .float .f64 0] 34))
            rw [show wr.drew.alloc (.cells #[.int .i64 0, .int .i64 0, .float .f64 0, .float .f64 0] 34) = (wr.alloc (.cells #[.int .i64 0, .int .i64 0, .float .f64 0, .float .f64 0] 34)).drew from rfl] at HpA HC
            generalize hgen : (wr.alloc (.cells #[.int .i64 0, .int .i64 0, .float .f64 0, .float .f64 0] 34)).drew = wqn16 at *
            clear hgen
            refine hK.out _ _ ⟨(HC.out.cell (p := ⟨g, J * 4, none⟩) hgs.out).trans ka0.out, (HC.out.cell (p := ⟨g, J * 4 + 1, none⟩) hgs.out).trans ka1.out, (HC.out.cell (p := ⟨g, J * 4 + 2, none⟩) hgs.out).trans ka2.out, (HC.out.cell (p := ⟨g, J * 4 + 3, none⟩) hgs.out).trans ka3.out, (HC.out.cell (p := ⟨pb, poff + q, none⟩) hpbs.out).trans kcp.out⟩ (fun _ => ?_)
            clear hK K
            try go_simp
            refine wpAnyH_ready (rs := [11, 17]) (by kernel_rfl) (by simp) ?_
            refine AllReadyH.cons rfl (fun K hK => ?_) (AllReadyH.cons rfl (fun K hK => ?_) AllReadyH.nil)
            · go_simp
              go_wp2_with (first | (go_at_call 22; ((with_reducible refine (HSP _).out.mono ?_); rintro e wzn1611 ⟨rfl, hb⟩; have HpA := Lib.hid (HpA.out.below hb HpA.out.lt); have HC := Lib.hid (HC.out.trans (hb.mono HC.out.size)); clear hb)))
              refine hK.out _ _ ⟨(HC.out.cell (p := ⟨g, J * 4, none⟩) hgs.out).trans ka0.out, (HC.out.cell (p := ⟨g, J * 4 + 1, none⟩) hgs.out).trans ka1.out, (HC.out.cell (p := ⟨g, J * 4 + 2, none⟩) hgs.out).trans ka2.out, (HC.out.cell (p := ⟨g, J * 4 + 3, none⟩) hgs.out).trans ka3.out, (HC.out.cell (p := ⟨pb, poff + q, none⟩) hpbs.out).trans kcp.out⟩ (fun _ => ?_)
              clear hK K
              try go_simp
              refine wpAnyH_take (i := 12) (v := ?vn1611_12) rfl (by kernel_rfl) (by kernel_rfl) (by kernel_rfl) (fun _ _ _ h => h) (Or.inl ⟨by rfl, ?yn1611_12⟩) ⟨(HC.out.cell (p := ⟨g, J * 4, none⟩) hgs.out).trans ka0.out, (HC.out.cell (p := ⟨g, J * 4 + 1, none⟩) hgs.out).trans ka1.out, (HC.out.cell (p := ⟨g, J * 4 + 2, none⟩) hgs.out).trans ka2.out, (HC.out.cell (p := ⟨g, J * 4 + 3, none⟩) hgs.out).trans ka3.out, (HC.out.cell (p := ⟨pb, poff + q, none⟩) hpbs.out).trans kcp.out⟩ ?rn1611_12
              case yn1611_12 => (intro W hSw; (try dsimp only at hSw); obtain ⟨s0, s1, s2, s3, s4⟩ := hSw; first | (go_simp; done) | (go_simp; with_reducible rfl))
              try go_simp
              refine wpAnyH_take (i := 13) (v := ?vn1611_13) rfl (by kernel_rfl) (by kernel_rfl) (by kernel_rfl) (fun _ _ _ h => h) (Or.inl ⟨by rfl, ?yn1611_13⟩) ⟨(HC.out.cell (p := ⟨g, J * 4, none⟩) hgs.out).trans ka0.out, (HC.out.cell (p := ⟨g, J * 4 + 1, none⟩) hgs.out).trans ka1.out, (HC.out.cell (p := ⟨g, J * 4 + 2, none⟩) hgs.out).trans ka2.out, (HC.out.cell (p := ⟨g, J * 4 + 3, none⟩) hgs.out).trans ka3.out, (HC.out.cell (p := ⟨pb, poff + q, none⟩) hpbs.out).trans kcp.out⟩ ?rn1611_13
              case yn1611_13 => (intro W hSw; (try dsimp only at hSw); obtain ⟨s0, s1, s2, s3, s4⟩ := hSw; first | (go_simp; done) | (go_simp; with_reducible rfl))
              try go_simp
              refine wpAnyH_take (i := 14) (v := ?vn1611_14) rfl (by kernel_rfl) (by kernel_rfl) (by kernel_rfl) (fun _ _ _ h => h) (Or.inl ⟨by rfl, ?yn1611_14⟩) ⟨(HC.out.cell (p := ⟨g, J * 4, none⟩) hgs.out).trans ka0.out, (HC.out.cell (p := ⟨g, J * 4 + 1, none⟩) hgs.out).trans ka1.out, (HC.out.cell (p := ⟨g, J * 4 + 2, none⟩) hgs.out).trans ka2.out, (HC.out.cell (p := ⟨g, J * 4 + 3, none⟩) hgs.out).trans ka3.out, (HC.out.cell (p := ⟨pb, poff + q, none⟩) hpbs.out).trans kcp.out⟩ ?rn1611_14
              case yn1611_14 => (intro W hSw; (try dsimp only at hSw); obtain ⟨s0, s1, s2, s3, s4⟩ := hSw; first | (go_simp; done) | (go_simp; with_reducible rfl))
              try go_simp
              refine wpAnyH_take (i := 15) (v := ?vn1611_15) rfl (by kernel_rfl) (by kernel_rfl) (by kernel_rfl) (fun _ _ _ h => h) (Or.inl ⟨by rfl, ?yn1611_15⟩) ⟨(HC.out.cell (p := ⟨g, J * 4, none⟩) hgs.out).trans ka0.out, (HC.out.cell (p := ⟨g, J * 4 + 1, none⟩) hgs.out).trans ka1.out, (HC.out.cell (p := ⟨g, J * 4 + 2, none⟩) hgs.out).trans ka2.out, (HC.out.cell (p := ⟨g, J * 4 + 3, none⟩) hgs.out).trans ka3.out, (HC.out.cell (p := ⟨pb, poff + q, none⟩) hpbs.out).trans kcp.out⟩ ?rn1611_15
              case yn1611_15 => (intro W hSw; (try dsimp only at hSw); obtain ⟨s0, s1, s2, s3, s4⟩ := hSw; first | (go_simp; done) | (go_simp; with_reducible rfl))
              try go_simp
              refine wpAnyH_ready (rs := [17]) (by kernel_rfl) (by simp) ?_
              refine AllReadyH.cons rfl (fun K hK => ?_) AllReadyH.nil
              · go_simp
                have HpB := Lib.hid (show At (wzn1611.alloc (.cells #[.int .i64 0, .int .i64 0, .float .f64 0, .float .f64 0] 34)) wzn1611.heap.size RV.zero from at_new wzn1611 RV.zero)
                have hpB := HC.out.size
                have npA := HpA.out.lt; have HpA := Lib.hid (HpA.out.alloc (.cells #[.int .i64 0, .int .i64 0, .float .f64 0, .float .f64 0] 34))
                have HC := Lib.hid (HC.out.alloc HC.out.size (.cells #[.int .i64 0, .int .i64 0, .float .f64 0, .float .f64 0] 34))
                generalize hgen : wzn1611.alloc (.cells #[.int .i64 0, .int .i64 0, .float .f64 0, .float .f64 0] 34) = wqn161117 at *
                clear hgen
                refine hK.out _ _ ⟨(HC.out.cell (p := ⟨g, J * 4, none⟩) hgs.out).trans ka0.out, (HC.out.cell (p := ⟨g, J * 4 + 1, none⟩) hgs.out).trans ka1.out, (HC.out.cell (p := ⟨g, J * 4 + 2, none⟩) hgs.out).trans ka2.out, (HC.out.cell (p := ⟨g, J * 4 + 3, none⟩) hgs.out).trans ka3.out, (HC.out.cell (p := ⟨pb, poff + q, none⟩) hpbs.out).trans kcp.out⟩ (fun _ => ?_)
                clear hK K
                try go_simp
                have hne : wr.heap.size ≠ wzn1611.heap.size := by omega
                have pA0 := HpA.out.c0; have pA1 := HpA.out.c1; have pA2 := HpA.out.c2; have pA3 := HpA.out.c3; have pA4 := HpA.out.f0; have pA5 := HpA.out.f1; have pA6 := HpA.out.f2; have pA7 := HpA.out.f3
                refine wpAnyH_ready (rs := [18]) (by kernel_rfl) (by simp) ?_
                refine AllReadyH.cons rfl (fun K hK => ?_) AllReadyH.nil
                go_simp
                have Hm := Lib.hid (show At (((((wqn161117).setCell ⟨wr.heap.size, 0, none⟩ (.int .i64 sai)).setCell ⟨wr.heap.size, 1, none⟩ (.int .i64 sae)).setCell ⟨wr.heap.size, 2, none⟩ (.float .f64 sal)).setCell ⟨wr.heap.size, 3, none⟩ (.float .f64 sah)) wr.heap.size ⟨sai, sae, sal, sah⟩ from HpA.out.setAll ⟨sai, sae, sal, sah⟩)
                have Ho := Lib.hid (show At (((((wqn161117).setCell ⟨wr.heap.size, 0, none⟩ (.int .i64 sai)).setCell ⟨wr.heap.size, 1, none⟩ (.int .i64 sae)).setCell ⟨wr.heap.size, 2, none⟩ (.float .f64 sal)).setCell ⟨wr.heap.size, 3, none⟩ (.float .f64 sah)) wzn1611.heap.size RV.zero from HpB.out.set_other ⟨sai, sae, sal, sah⟩ hne.symm)
                have HC := Lib.hid (show Below wr.heap.size wr (((((wqn161117).setCell ⟨wr.heap.size, 0, none⟩ (.int .i64 sai)).setCell ⟨wr.heap.size, 1, none⟩ (.int .i64 sae)).setCell ⟨wr.heap.size, 2, none⟩ (.float .f64 sal)).setCell ⟨wr.heap.size, 3, none⟩ (.float .f64 sah)) from below_set4 HC.out hpA ⟨sai, sae, sal, sah⟩)
                clear HpA HpB pA0 pA1 pA2 pA3 pA4 pA5 pA6 pA7
                have HpA := Hm; have HpB := Ho; clear Hm Ho
                generalize ((((wqn161117).setCell ⟨wr.heap.size, 0, none⟩ (.int .i64 sai)).setCell ⟨wr.heap.size, 1, none⟩ (.int .i64 sae)).setCell ⟨wr.heap.size, 2, none⟩ (.float .f64 sal)).setCell ⟨wr.heap.size, 3, none⟩ (.float .f64 sah) = wtn16111718 at *
                refine hK.out _ _ ⟨(HC.out.cell (p := ⟨g, J * 4, none⟩) hgs.out).trans ka0.out, (HC.out.cell (p := ⟨g, J * 4 + 1, none⟩) hgs.out).trans ka1.out, (HC.out.cell (p := ⟨g, J * 4 + 2, none⟩) hgs.out).trans ka2.out, (HC.out.cell (p := ⟨g, J * 4 + 3, none⟩) hgs.out).trans ka3.out, (HC.out.cell (p := ⟨pb, poff + q, none⟩) hpbs.out).trans kcp.out⟩ (fun _ => ?_)
                clear hK K
                try go_simp
                have pB0 := HpB.out.c0; have pB1 := HpB.out.c1; have pB2 := HpB.out.c2; have pB3 := HpB.out.c3; have pB4 := HpB.out.f0; have pB5 := HpB.out.f1; have pB6 := HpB.out.f2; have pB7 := HpB.out.f3
                refine wpAnyH_ready (rs := [19]) (by kernel_rfl) (by simp) ?_
                refine AllReadyH.cons rfl (fun K hK => ?_) AllReadyH.nil
                go_simp
                have Hm := Lib.hid (show At (((((wtn16111718).setCell ⟨wzn1611.heap.size, 0, none⟩ (.int .i64 sbi)).setCell ⟨wzn1611.heap.size, 1, none⟩ (.int .i64 sbe)).setCell ⟨wzn1611.heap.size, 2, none⟩ (.float .f64 sbl)).setCell ⟨wzn1611.heap.size, 3, none⟩ (.float .f64 sbh)) wzn1611.heap.size ⟨sbi, sbe, sbl, sbh⟩ from HpB.out.setAll ⟨sbi, sbe, sbl, sbh⟩)
                have Ho := Lib.hid (show At (((((wtn16111718).setCell ⟨wzn1611.heap.size, 0, none⟩ (.int .i64 sbi)).setCell ⟨wzn1611.heap.size, 1, none⟩ (.int .i64 sbe)).setCell ⟨wzn1611.heap.size, 2, none⟩ (.float .f64 sbl)).setCell ⟨wzn1611.heap.size, 3, none⟩ (.float .f64 sbh)) wr.heap.size ⟨sai, sae, sal, sah⟩ from HpA.out.set_other ⟨sbi, sbe, sbl, sbh⟩ hne)
                have HC := Lib.hid (show Below wr.heap.size wr (((((wtn16111718).setCell ⟨wzn1611.heap.size, 0, none⟩ (.int .i64 sbi)).setCell ⟨wzn1611.heap.size, 1, none⟩ (.int .i64 sbe)).setCell ⟨wzn1611.heap.size, 2, none⟩ (.float .f64 sbl)).setCell ⟨wzn1611.heap.size, 3, none⟩ (.float .f64 sbh)) from below_set4 HC.out hpB ⟨sbi, sbe, sbl, sbh⟩)
                clear HpB HpA pB0 pB1 pB2 pB3 pB4 pB5 pB6 pB7
                have HpB := Hm; have HpA := Ho; clear Hm Ho
                generalize ((((wtn16111718).setCell ⟨wzn1611.heap.size, 0, none⟩ (.int .i64 sbi)).setCell ⟨wzn1611.heap.size, 1, none⟩ (.int .i64 sbe)).setCell ⟨wzn1611.heap.size, 2, none⟩ (.float .f64 sbl)).setCell ⟨wzn1611.heap.size, 3, none⟩ (.float .f64 sbh) = wtn16111719 at *
                refine hK.out _ _ ⟨(HC.out.cell (p := ⟨g, J * 4, none⟩) hgs.out).trans ka0.out, (HC.out.cell (p := ⟨g, J * 4 + 1, none⟩) hgs.out).trans ka1.out, (HC.out.cell (p := ⟨g, J * 4 + 2, none⟩) hgs.out).trans ka2.out, (HC.out.cell (p := ⟨g, J * 4 + 3, none⟩) hgs.out).trans ka3.out, (HC.out.cell (p := ⟨pb, poff + q, none⟩) hpbs.out).trans kcp.out⟩ (fun _ => ?_)
                clear hK K
                try go_simp
                refine wpAnyH_take (i := 20) (v := ?vln161117_20) rfl (by kernel_rfl) (by kernel_rfl) (by kernel_rfl) (fun _ _ _ h => h) (Or.inl ⟨by rfl, ?yln161117_20⟩) ⟨(HC.out.cell (p := ⟨g, J * 4, none⟩) hgs.out).trans ka0.out, (HC.out.cell (p := ⟨g, J * 4 + 1, none⟩) hgs.out).trans ka1.out, (HC.out.cell (p := ⟨g, J * 4 + 2, none⟩) hgs.out).trans ka2.out, (HC.out.cell (p := ⟨g, J * 4 + 3, none⟩) hgs.out).trans ka3.out, (HC.out.cell (p := ⟨pb, poff + q, none⟩) hpbs.out).trans kcp.out⟩ ?rln161117_20
                case yln161117_20 => (intro W hSw; (try dsimp only at hSw); obtain ⟨s0, s1, s2, s3, s4⟩ := hSw; first | (go_simp; done) | (go_simp; with_reducible rfl))
                try go_simp
                refine wpAnyH_done (by kernel_rfl) ?_ _
                (try go_wp2_with fail)
                go_meet
                exact ⟨_, _, rfl, rfl, rfl, HpA, HpB, hne, hpA, hpB, HC⟩
            · go_simp
              have HpB := Lib.hid (show At (wqn16.alloc (.cells #[.int .i64 0, .int .i64 0, .float .f64 0, .float .f64 0] 34)) wqn16.heap.size RV.zero from at_new wqn16 RV.zero)
              have hpB := HC.out.size
              have npA := HpA.out.lt; have HpA := Lib.hid (HpA.out.alloc (.cells #[.int .i64 0, .int .i64 0, .float .f64 0, .float .f64 0] 34))
              have HC := Lib.hid (HC.out.alloc HC.out.size (.cells #[.int .i64 0, .int .i64 0, .float .f64 0, .float .f64 0] 34))
              generalize hgen : wqn16.alloc (.cells #[.int .i64 0, .int .i64 0, .float .f64 0, .float .f64 0] 34) = wqn1617 at *
              clear hgen
              refine hK.out _ _ ⟨(HC.out.cell (p := ⟨g, J * 4, none⟩) hgs.out).trans ka0.out, (HC.out.cell (p := ⟨g, J * 4 + 1, none⟩) hgs.out).trans ka1.out, (HC.out.cell (p := ⟨g, J * 4 + 2, none⟩) hgs.out).trans ka2.out, (HC.out.cell (p := ⟨g, J * 4 + 3, none⟩) hgs.out).trans ka3.out, (HC.out.cell (p := ⟨pb, poff + q, none⟩) hpbs.out).trans kcp.out⟩ (fun _ => ?_)
              clear hK K
              try go_simp
              refine wpAnyH_ready (rs := [11]) (by kernel_rfl) (by simp) ?_
              refine AllReadyH.cons rfl (fun K hK => ?_) AllReadyH.nil
              · go_simp
                go_wp2_with (first | (go_at_call 22; ((with_reducible refine (HSP _).out.mono ?_); rintro e wzn161711 ⟨rfl, hb⟩; have HpA := Lib.hid (HpA.out.below hb HpA.out.lt); have HpB := Lib.hid (HpB.out.below hb HpB.out.lt); have HC := Lib.hid (HC.out.trans (hb.mono HC.out.size)); clear hb)))
                refine hK.out _ _ ⟨(HC.out.cell (p := ⟨g, J * 4, none⟩) hgs.out).trans ka0.out, (HC.out.cell (p := ⟨g, J * 4 + 1, none⟩) hgs.out).trans ka1.out, (HC.out.cell (p := ⟨g, J * 4 + 2, none⟩) hgs.out).trans ka2.out, (HC.out.cell (p := ⟨g, J * 4 + 3, none⟩) hgs.out).trans ka3.out, (HC.out.cell (p := ⟨pb, poff + q, none⟩) hpbs.out).trans kcp.out⟩ (fun _ => ?_)
                clear hK K
                try go_simp
                refine wpAnyH_take (i := 12) (v := ?vn161711_12) rfl (by kernel_rfl) (by kernel_rfl) (by kernel_rfl) (fun _ _ _ h => h) (Or.inl ⟨by rfl, ?yn161711_12⟩) ⟨(HC.out.cell (p := ⟨g, J * 4, none⟩) hgs.out).trans ka0.out, (HC.out.cell (p := ⟨g, J * 4 + 1, none⟩) hgs.out).trans ka1.out, (HC.out.cell (p := ⟨g, J * 4 + 2, none⟩) hgs.out).trans ka2.out, (HC.out.cell (p := ⟨g, J * 4 + 3, none⟩) hgs.out).trans ka3.out, (HC.out.cell (p := ⟨pb, poff + q, none⟩) hpbs.out).trans kcp.out⟩ ?rn161711_12
                case yn161711_12 => (intro W hSw; (try dsimp only at hSw); obtain ⟨s0, s1, s2, s3, s4⟩ := hSw; first | (go_simp; done) | (go_simp; with_reducible rfl))
                try go_simp
                refine wpAnyH_take (i := 13) (v := ?vn161711_13) rfl (by kernel_rfl) (by kernel_rfl) (by kernel_rfl) (fun _ _ _ h => h) (Or.inl ⟨by rfl, ?yn161711_13⟩) ⟨(HC.out.cell (p := ⟨g, J * 4, none⟩) hgs.out).trans ka0.out, (HC.out.cell (p := ⟨g, J * 4 + 1, none⟩) hgs.out).trans ka1.out, (HC.out.cell (p := ⟨g, J * 4 + 2, none⟩) hgs.out).trans ka2.out, (HC.out.cell (p := ⟨g, J * 4 + 3, none⟩) hgs.out).trans ka3.out, (HC.out.cell (p := ⟨pb, poff + q, none⟩) hpbs.out).trans kcp.out⟩ ?rn161711_13
                case yn161711_13 => (intro W hSw; (try dsimp only at hSw); obtain ⟨s0, s1, s2, s3, s4⟩ := hSw; first | (go_simp; done) | (go_simp; with_reducible rfl))
                try go_simp
                refine wpAnyH_take (i := 14) (v := ?vn161711_14) rfl (by kernel_rfl) (by kernel_rfl) (by kernel_rfl) (fun _ _ _ h => h) (Or.inl ⟨by rfl, ?yn161711_14⟩) ⟨(HC.out.cell (p := ⟨g, J * 4, none⟩) hgs.out).trans ka0.out, (HC.out.cell (p := ⟨g, J * 4 + 1, none⟩) hgs.out).trans ka1.out, (HC.out.cell (p := ⟨g, J * 4 + 2, none⟩) hgs.out).trans ka2.out, (HC.out.cell (p := ⟨g, J * 4 + 3, none⟩) hgs.out).trans ka3.out, (HC.out.cell (p := ⟨pb, poff + q, none⟩) hpbs.out).trans kcp.out⟩ ?rn161711_14
                case yn161711_14 => (intro W hSw; (try dsimp only at hSw); obtain ⟨s0, s1, s2, s3, s4⟩ := hSw; first | (go_simp; done) | (go_simp; with_reducible rfl))
                try go_simp
                refine wpAnyH_take (i := 15) (v := ?vn161711_15) rfl (by kernel_rfl) (by kernel_rfl) (by kernel_rfl) (fun _ _ _ h => h) (Or.inl ⟨by rfl, ?yn161711_15⟩) ⟨(HC.out.cell (p := ⟨g, J * 4, none⟩) hgs.out).trans ka0.out, (HC.out.cell (p := ⟨g, J * 4 + 1, none⟩) hgs.out).trans ka1.out, (HC.out.cell (p := ⟨g, J * 4 + 2, none⟩) hgs.out).trans ka2.out, (HC.out.cell (p := ⟨g, J * 4 + 3, none⟩) hgs.out).trans ka3.out, (HC.out.cell (p := ⟨pb, poff + q, none⟩) hpbs.out).trans kcp.out⟩ ?rn161711_15
                case yn161711_15 => (intro W hSw; (try dsimp only at hSw); obtain ⟨s0, s1, s2, s3, s4⟩ := hSw; first | (go_simp; done) | (go_simp; with_reducible rfl))
                try go_simp
                have hne : wr.heap.size ≠ wqn16.heap.size := by omega
                have pA0 := HpA.out.c0; have pA1 := HpA.out.c1; have pA2 := HpA.out.c2; have pA3 := HpA.out.c3; have pA4 := HpA.out.f0; have pA5 := HpA.out.f1; have pA6 := HpA.out.f2; have pA7 := HpA.out.f3
                refine wpAnyH_ready (rs := [18]) (by kernel_rfl) (by simp) ?_
                refine AllReadyH.cons rfl (fun K hK => ?_) AllReadyH.nil
                go_simp
                have Hm := Lib.hid (show At (((((wzn161711).setCell ⟨wr.heap.size, 0, none⟩ (.int .i64 sai)).setCell ⟨wr.heap.size, 1, none⟩ (.int .i64 sae)).setCell ⟨wr.heap.size, 2, none⟩ (.float .f64 sal)).setCell ⟨wr.heap.size, 3, none⟩ (.float .f64 sah)) wr.heap.size ⟨sai, sae, sal, sah⟩ from HpA.out.setAll ⟨sai, sae, sal, sah⟩)
                have Ho := Lib.hid (show At (((((wzn161711).setCell ⟨wr.heap.size, 0, none⟩ (.int .i64 sai)).setCell ⟨wr.heap.size, 1, none⟩ (.int .i64 sae)).setCell ⟨wr.heap.size, 2, none⟩ (.float .f64 sal)).setCell ⟨wr.heap.size, 3, none⟩ (.float .f64 sah)) wqn16.heap.size RV.zero from HpB.out.set_other ⟨sai, sae, sal, sah⟩ hne.symm)
                have HC := Lib.hid (show Below wr.heap.size wr (((((wzn161711).setCell ⟨wr.heap.size, 0, none⟩ (.int .i64 sai)).setCell ⟨wr.heap.size, 1, none⟩ (.int .i64 sae)).setCell ⟨wr.heap.size, 2, none⟩ (.float .f64 sal)).setCell ⟨wr.heap.size, 3, none⟩ (.float .f64 sah)) from below_set4 HC.out hpA ⟨sai, sae, sal, sah⟩)
                clear HpA HpB pA0 pA1 pA2 pA3 pA4 pA5 pA6 pA7
                have HpA := Hm; have HpB := Ho; clear Hm Ho
                generalize ((((wzn161711).setCell ⟨wr.heap.size, 0, none⟩ (.int .i64 sai)).setCell ⟨wr.heap.size, 1, none⟩ (.int .i64 sae)).setCell ⟨wr.heap.size, 2, none⟩ (.float .f64 sal)).setCell ⟨wr.heap.size, 3, none⟩ (.float .f64 sah) = wtn16171118 at *
                refine hK.out _ _ ⟨(HC.out.cell (p := ⟨g, J * 4, none⟩) hgs.out).trans ka0.out, (HC.out.cell (p := ⟨g, J * 4 + 1, none⟩) hgs.out).trans ka1.out, (HC.out.cell (p := ⟨g, J * 4 + 2, none⟩) hgs.out).trans ka2.out, (HC.out.cell (p := ⟨g, J * 4 + 3, none⟩) hgs.out).trans ka3.out, (HC.out.cell (p := ⟨pb, poff + q, none⟩) hpbs.out).trans kcp.out⟩ (fun _ => ?_)
                clear hK K
                try go_simp
                have pB0 := HpB.out.c0; have pB1 := HpB.out.c1; have pB2 := HpB.out.c2; have pB3 := HpB.out.c3; have pB4 := HpB.out.f0; have pB5 := HpB.out.f1; have pB6 := HpB.out.f2; have pB7 := HpB.out.f3
                refine wpAnyH_ready (rs := [19]) (by kernel_rfl) (by simp) ?_
                refine AllReadyH.cons rfl (fun K hK => ?_) AllReadyH.nil
                go_simp
                have Hm := Lib.hid (show At (((((wtn16171118).setCell ⟨wqn16.heap.size, 0, none⟩ (.int .i64 sbi)).setCell ⟨wqn16.heap.size, 1, none⟩ (.int .i64 sbe)).setCell ⟨wqn16.heap.size, 2, none⟩ (.float .f64 sbl)).setCell ⟨wqn16.heap.size, 3, none⟩ (.float .f64 sbh)) wqn16.heap.size ⟨sbi, sbe, sbl, sbh⟩ from HpB.out.setAll ⟨sbi, sbe, sbl, sbh⟩)
                have Ho := Lib.hid (show At (((((wtn16171118).setCell ⟨wqn16.heap.size, 0, none⟩ (.int .i64 sbi)).setCell ⟨wqn16.heap.size, 1, none⟩ (.int .i64 sbe)).setCell ⟨wqn16.heap.size, 2, none⟩ (.float .f64 sbl)).setCell ⟨wqn16.heap.size, 3, none⟩ (.float .f64 sbh)) wr.heap.size ⟨sai, sae, sal, sah⟩ from HpA.out.set_other ⟨sbi, sbe, sbl, sbh⟩ hne)
                have HC := Lib.hid (show Below wr.heap.size wr (((((wtn16171118).setCell ⟨wqn16.heap.size, 0, none⟩ (.int .i64 sbi)).setCell ⟨wqn16.heap.size, 1, none⟩ (.int .i64 sbe)).setCell ⟨wqn16.heap.size, 2, none⟩ (.float .f64 sbl)).setCell ⟨wqn16.heap.size, 3, none⟩ (.float .f64 sbh)) from below_set4 HC.out hpB ⟨sbi, sbe, sbl, sbh⟩)
                clear HpB HpA pB0 pB1 pB2 pB3 pB4 pB5 pB6 pB7
                have HpB := Hm; have HpA := Ho; clear Hm Ho
                generalize ((((wtn16171118).setCell ⟨wqn16.heap.size, 0, none⟩ (.int .i64 sbi)).setCell ⟨wqn16.heap.size, 1, none⟩ (.int .i64 sbe)).setCell ⟨wqn16.heap.size, 2, none⟩ (.float .f64 sbl)).setCell ⟨wqn16.heap.size, 3, none⟩ (.float .f64 sbh) = wtn16171119 at *
                refine hK.out _ _ ⟨(HC.out.cell (p := ⟨g, J * 4, none⟩) hgs.out).trans ka0.out, (HC.out.cell (p := ⟨g, J * 4 + 1, none⟩) hgs.out).trans ka1.out, (HC.out.cell (p := ⟨g, J * 4 + 2, none⟩) hgs.out).trans ka2.out, (HC.out.cell (p := ⟨g, J * 4 + 3, none⟩) hgs.out).trans ka3.out, (HC.out.cell (p := ⟨pb, poff + q, none⟩) hpbs.out).trans kcp.out⟩ (fun _ => ?_)
                clear hK K
                try go_simp
                refine wpAnyH_take (i := 20) (v := ?vln161711_20) rfl (by kernel_rfl) (by kernel_rfl) (by kernel_rfl) (fun _ _ _ h => h) (Or.inl ⟨by rfl, ?yln161711_20⟩) ⟨(HC.out.cell (p := ⟨g, J * 4, none⟩) hgs.out).trans ka0.out, (HC.out.cell (p := ⟨g, J * 4 + 1, none⟩) hgs.out).trans ka1.out, (HC.out.cell (p := ⟨g, J * 4 + 2, none⟩) hgs.out).trans ka2.out, (HC.out.cell (p := ⟨g, J * 4 + 3, none⟩) hgs.out).trans ka3.out, (HC.out.cell (p := ⟨pb, poff + q, none⟩) hpbs.out).trans kcp.out⟩ ?rln161711_20
                case yln161711_20 => (intro W hSw; (try dsimp only at hSw); obtain ⟨s0, s1, s2, s3, s4⟩ := hSw; first | (go_simp; done) | (go_simp; with_reducible rfl))
                try go_simp
                refine wpAnyH_done (by kernel_rfl) ?_ _
                (try go_wp2_with fail)
                go_meet
                exact ⟨_, _, rfl, rfl, rfl, HpA, HpB, hne, hpA, hpB, HC⟩
          · go_simp
            have HpB := Lib.hid (show At (wr.drew.alloc (.cells #[.int .i64 0, .int .i64 0, .float .f64 0, .float .f64 0] 34)) wr.heap.size RV.zero from at_new wr.drew RV.zero)
            have hpB := HC.out.size
            have HC := Lib.hid (HC.out.alloc HC.out.size (.cells #[.int .i64 0, .int .i64 0, .float .f64 0, .float .f64 0] 34))
            rw [show wr.drew.alloc (.cells #[.int .i64 0, .int .i64 0, .float .f64 0, .float .f64 0] 34) = (wr.alloc (.cells #[.int .i64 0, .int .i64 0, .float .f64 0, .float .f64 0] 34)).drew from rfl] at HpB HC
            generalize hgen : (wr.alloc (.cells #[.int .i64 0, .int .i64 0, .float .f64 0, .float .f64 0] 34)).drew = wqn17 at *
            clear hgen
            refine hK.out _ _ ⟨(HC.out.cell (p := ⟨g, J * 4, none⟩) hgs.out).trans ka0.out, (HC.out.cell (p := ⟨g, J * 4 + 1, none⟩) hgs.out).trans ka1.out, (HC.out.cell (p := ⟨g, J * 4 + 2, none⟩) hgs.out).trans ka2.out, (HC.out.cell (p := ⟨g, J * 4 + 3, none⟩) hgs.out).trans ka3.out, (HC.out.cell (p := ⟨pb, poff + q, none⟩) hpbs.out).trans kcp.out⟩ (fun _ => ?_)
            clear hK K
            try go_simp
            refine wpAnyH_ready (rs := [11, 16]) (by kernel_rfl) (by simp) ?_
            refine AllReadyH.cons rfl (fun K hK => ?_) (AllReadyH.cons rfl (fun K hK => ?_) AllReadyH.nil)
            · go_simp
              go_wp2_with (first | (go_at_call 22; ((with_reducible refine (HSP _).out.mono ?_); rintro e wzn1711 ⟨rfl, hb⟩; have HpB := Lib.hid (HpB.out.below hb HpB.out.lt); have HC := Lib.hid (HC.out.trans (hb.mono HC.out.size)); clear hb)))
              refine hK.out _ _ ⟨(HC.out.cell (p := ⟨g, J * 4, none⟩) hgs.out).trans ka0.out, (HC.out.cell (p := ⟨g, J * 4 + 1, none⟩) hgs.out).trans ka1.out, (HC.out.cell (p := ⟨g, J * 4 + 2, none⟩) hgs.out).trans ka2.out, (HC.out.cell (p := ⟨g, J * 4 + 3, none⟩) hgs.out).trans ka3.out, (HC.out.cell (p := ⟨pb, poff + q, none⟩) hpbs.out).trans kcp.out⟩ (fun _ => ?_)
              clear hK K
              try go_simp
              refine wpAnyH_take (i := 12) (v := ?vn1711_12) rfl (by kernel_rfl) (by kernel_rfl) (by kernel_rfl) (fun _ _ _ h => h) (Or.inl ⟨by rfl, ?yn1711_12⟩) ⟨(HC.out.cell (p := ⟨g, J * 4, none⟩) hgs.out).trans ka0.out, (HC.out.cell (p := ⟨g, J * 4 + 1, none⟩) hgs.out).trans ka1.out, (HC.out.cell (p := ⟨g, J * 4 + 2, none⟩) hgs.out).trans ka2.out, (HC.out.cell (p := ⟨g, J * 4 + 3, none⟩) hgs.out).trans ka3.out, (HC.out.cell (p := ⟨pb, poff + q, none⟩) hpbs.out).trans kcp.out⟩ ?rn1711_12
              case yn1711_12 => (intro W hSw; (try dsimp only at hSw); obtain ⟨s0, s1, s2, s3, s4⟩ := hSw; first | (go_simp; done) | (go_simp; with_reducible rfl))
              try go_simp
              refine wpAnyH_take (i := 13) (v := ?vn1711_13) rfl (by kernel_rfl) (by kernel_rfl) (by kernel_rfl) (fun _ _ _ h => h) (Or.inl ⟨by rfl, ?yn1711_13⟩) ⟨(HC.out.cell (p := ⟨g, J * 4, none⟩) hgs.out).trans ka0.out, (HC.out.cell (p := ⟨g, J * 4 + 1, none⟩) hgs.out).trans ka1.out, (HC.out.cell (p := ⟨g, J * 4 + 2, none⟩) hgs.out).trans ka2.out, (HC.out.cell (p := ⟨g, J * 4 + 3, none⟩) hgs.out).trans ka3.out, (HC.out.cell (p := ⟨pb, poff + q, none⟩) hpbs.out).trans kcp.out⟩ ?rn1711_13
              case yn1711_13 => (intro W hSw; (try dsimp only at hSw); obtain ⟨s0, s1, s2, s3, s4⟩ := hSw; first | (go_simp; done) | (go_simp; with_reducible rfl))
              try go_simp
              refine wpAnyH_take (i := 14) (v := ?vn1711_14) rfl (by kernel_rfl) (by kernel_rfl) (by kernel_rfl) (fun _ _ _ h => h) (Or.inl ⟨by rfl, ?yn1711_14⟩) ⟨(HC.out.cell (p := ⟨g, J * 4, none⟩) hgs.out).trans ka0.out, (HC.out.cell (p := ⟨g, J * 4 + 1, none⟩) hgs.out).trans ka1.out, (HC.out.cell (p := ⟨g, J * 4 + 2, none⟩) hgs.out).trans ka2.out, (HC.out.cell (p := ⟨g, J * 4 + 3, none⟩) hgs.out).trans ka3.out, (HC.out.cell (p := ⟨pb, poff + q, none⟩) hpbs.out).trans kcp.out⟩ ?rn1711_14
              case yn1711_14 => (intro W hSw; (try dsimp only at hSw); obtain ⟨s0, s1, s2, s3, s4⟩ := hSw; first | (go_simp; done) | (go_simp; with_reducible rfl))
              try go_simp
              refine wpAnyH_take (i := 15) (v := ?vn1711_15) rfl (by kernel_rfl) (by kernel_rfl) (by kernel_rfl) (fun _ _ _ h => h) (Or.inl ⟨by rfl, ?yn1711_15⟩) ⟨(HC.out.cell (p := ⟨g, J * 4, none⟩) hgs.out).trans ka0.out, (HC.out.cell (p := ⟨g, J * 4 + 1, none⟩) hgs.out).trans ka1.out, (HC.out.cell (p := ⟨g, J * 4 + 2, none⟩) hgs.out).trans ka2.out, (HC.out.cell (p := ⟨g, J * 4 + 3, none⟩) hgs.out).trans ka3.out, (HC.out.cell (p := ⟨pb, poff + q, none⟩) hpbs.out).trans kcp.out⟩ ?rn1711_15
              case yn1711_15 => (intro W hSw; (try dsimp only at hSw); obtain ⟨s0, s1, s2, s3, s4⟩ := hSw; first | (go_simp; done) | (go_simp; with_reducible rfl))
              try go_simp
              refine wpAnyH_ready (rs := [16]) (by kernel_rfl) (by simp) ?_
              refine AllReadyH.cons rfl (fun K hK => ?_) AllReadyH.nil
              · go_simp
                have HpA := Lib.hid (show At (wzn1711.alloc (.cells #[.int .i64 0, .int .i64 0, .float .f64 0, .float .f64 0] 34)) wzn1711.heap.size RV.zero from at_new wzn1711 RV.zero)
                have hpA := HC.out.size
                have npB := HpB.out.lt; have HpB := Lib.hid (HpB.out.alloc (.cells #[.int .i64 0, .int .i64 0, .float .f64 0, .float .f64 0] 34))
                have HC := Lib.hid (HC.out.alloc HC.out.size (.cells #[.int .i64 0, .int .i64 0, .float .f64 0, .float .f64 0] 34))
                generalize hgen : wzn1711.alloc (.cells #[.int .i64 0, .int .i64 0, .float .f64 0, .float .f64 0] 34) = wqn171116 at *
                clear hgen
                refine hK.out _ _ ⟨(HC.out.cell (p := ⟨g, J * 4, none⟩) hgs.out).trans ka0.out, (HC.out.cell (p := ⟨g, J * 4 + 1, none⟩) hgs.out).trans ka1.out, (HC.out.cell (p := ⟨g, J * 4 + 2, none⟩) hgs.out).trans ka2.out, (HC.out.cell (p := ⟨g, J * 4 + 3, none⟩) hgs.out).trans ka3.out, (HC.out.cell (p := ⟨pb, poff + q, none⟩) hpbs.out).trans kcp.out⟩ (fun _ => ?_)
                clear hK K
                try go_simp
                have hne : wzn1711.heap.size ≠ wr.heap.size := by omega
                have pA0 := HpA.out.c0; have pA1 := HpA.out.c1; have pA2 := HpA.out.c2; have pA3 := HpA.out.c3; have pA4 := HpA.out.f0; have pA5 := HpA.out.f1; have pA6 := HpA.out.f2; have pA7 := HpA.out.f3
                refine wpAnyH_ready (rs := [18]) (by kernel_rfl) (by simp) ?_
                refine AllReadyH.cons rfl (fun K hK => ?_) AllReadyH.nil
                go_simp
                have Hm := Lib.hid (show At (((((wqn171116).setCell ⟨wzn1711.heap.size, 0, none⟩ (.int .i64 sai)).setCell ⟨wzn1711.heap.size, 1, none⟩ (.int .i64 sae)).setCell ⟨wzn1711.heap.size, 2, none⟩ (.float .f64 sal)).setCell ⟨wzn1711.heap.size, 3, none⟩ (.float .f64 sah)) wzn1711.heap.size ⟨sai, sae, sal, sah⟩ from HpA.out.setAll ⟨sai, sae, sal, sah⟩)
                have Ho := Lib.hid (show At (((((wqn171116).setCell ⟨wzn1711.heap.size, 0, none⟩ (.int .i64 sai)).setCell ⟨wzn1711.heap.size, 1, none⟩ (.int .i64 sae)).setCell ⟨wzn1711.heap.size, 2, none⟩ (.float .f64 sal)).setCell ⟨wzn1711.heap.size, 3, none⟩ (.float .f64 sah)) wr.heap.size RV.zero from HpB.out.set_other ⟨sai, sae, sal, sah⟩ hne.symm)
                have HC := Lib.hid (show Below wr.heap.size wr (((((wqn171116).setCell ⟨wzn1711.heap.size, 0, none⟩ (.int .i64 sai)).setCell ⟨wzn1711.heap.size, 1, none⟩ (.int .i64 sae)).setCell ⟨wzn1711.heap.size, 2, none⟩ (.float .f64 sal)).setCell ⟨wzn1711.heap.size, 3, none⟩ (.float .f64 sah)) from below_set4 HC.out hpA ⟨sai, sae, sal, sah⟩)
                clear HpA HpB pA0 pA1 pA2 pA3 pA4 pA5 pA6 pA7
                have HpA := Hm; have HpB := Ho; clear Hm Ho
                generalize ((((wqn171116).setCell ⟨wzn1711.heap.size, 0, none⟩ (.int .i64 sai)).setCell ⟨wzn1711.heap.size, 1, none⟩ (.int .i64 sae)).setCell ⟨wzn1711.heap.size, 2, none⟩ (.float .f64 sal)).setCell ⟨wzn1711.heap.size, 3, none⟩ (.float .f64 sah) = wtn17111618 at *
                refine hK.out _ _ ⟨(HC.out.cell (p := ⟨g, J * 4, none⟩) hgs.out).trans ka0.out, (HC.out.cell (p := ⟨g, J * 4 + 1, none⟩) hgs.out).trans ka1.out, (HC.out.cell (p := ⟨g, J * 4 + 2, none⟩) hgs.out).trans ka2.out, (HC.out.cell (p := ⟨g, J * 4 + 3, none⟩) hgs.out).trans ka3.out, (HC.out.cell (p := ⟨pb, poff + q, none⟩) hpbs.out).trans kcp.out⟩ (fun _ => ?_)
                clear hK K
                try go_simp
                have pB0 := HpB.out.c0; have pB1 := HpB.out.c1; have pB2 := HpB.out.c2; have pB3 := HpB.out.c3; have pB4 := HpB.out.f0; have pB5 := HpB.out.f1; have pB6 := HpB.out.f2; have pB7 := HpB.out.f3
                refine wpAnyH_ready (rs := [19]) (by kernel_rfl) (by simp) ?_
                refine AllReadyH.cons rfl (fun K hK => ?_) AllReadyH.nil
                go_simp
                have Hm := Lib.hid (show At (((((wtn17111618).setCell ⟨wr.heap.size, 0, none⟩ (.int .i64 sbi)).setCell ⟨wr.heap.size, 1, none⟩ (.int .i64 sbe)).setCell ⟨wr.heap.size, 2, none⟩ (.float .f64 sbl)).setCell ⟨wr.heap.size, 3, none⟩ (.float .f64 sbh)) wr.heap.size ⟨sbi, sbe, sbl, sbh⟩ from HpB.out.setAll ⟨sbi, sbe, sbl, sbh⟩)
                have Ho := Lib.hid (show At (((((wtn17111618).setCell ⟨wr.heap.size, 0, none⟩ (.int .i64 sbi)).setCell ⟨wr.heap.size, 1, none⟩ (.int .i64 sbe)).setCell ⟨wr.heap.size, 2, none⟩ (.float .f64 sbl)).setCell ⟨wr.heap.size, 3, none⟩ (.float .f64 sbh)) wzn1711.heap.size ⟨sai, sae, sal, sah⟩ from HpA.out.set_other ⟨sbi, sbe, sbl, sbh⟩ hne)
                have HC := Lib.hid (show Below wr.heap.size wr (((((wtn17111618).setCell ⟨wr.heap.size, 0, none⟩ (.int .i64 sbi)).setCell ⟨wr.heap.size, 1, none⟩ (.int .i64 sbe)).setCell ⟨wr.heap.size, 2, none⟩ (.float .f64 sbl)).setCell ⟨wr.heap.size, 3, none⟩ (.float .f64 sbh)) from below_set4 HC.out hpB ⟨sbi, sbe, sbl, sbh⟩)
                clear HpB HpA pB0 pB1 pB2 pB3 pB4 pB5 pB6 pB7
                have HpB := Hm; have HpA := Ho; clear Hm Ho
                generalize ((((wtn17111618).setCell ⟨wr.heap.size, 0, none⟩ (.int .i64 sbi)).setCell ⟨wr.heap.size, 1, none⟩ (.int .i64 sbe)).setCell ⟨wr.heap.size, 2, none⟩ (.float .f64 sbl)).setCell ⟨wr.heap.size, 3, none⟩ (.float .f64 sbh) = wtn17111619 at *
                refine hK.out _ _ ⟨(HC.out.cell (p := ⟨g, J * 4, none⟩) hgs.out).trans ka0.out, (HC.out.cell (p := ⟨g, J * 4 + 1, none⟩) hgs.out).trans ka1.out, (HC.out.cell (p := ⟨g, J * 4 + 2, none⟩) hgs.out).trans ka2.out, (HC.out.cell (p := ⟨g, J * 4 + 3, none⟩) hgs.out).trans ka3.out, (HC.out.cell (p := ⟨pb, poff + q, none⟩) hpbs.out).trans kcp.out⟩ (fun _ => ?_)
                clear hK K
                try go_simp
                refine wpAnyH_take (i := 20) (v := ?vln171116_20) rfl (by kernel_rfl) (by kernel_rfl) (by kernel_rfl) (fun _ _ _ h => h) (Or.inl ⟨by rfl, ?yln171116_20⟩) ⟨(HC.out.cell (p := ⟨g, J * 4, none⟩) hgs.out).trans ka0.out, (HC.out.cell (p := ⟨g, J * 4 + 1, none⟩) hgs.out).trans ka1.out, (HC.out.cell (p := ⟨g, J * 4 + 2, none⟩) hgs.out).trans ka2.out, (HC.out.cell (p := ⟨g, J * 4 + 3, none⟩) hgs.out).trans ka3.out, (HC.out.cell (p := ⟨pb, poff + q, none⟩) hpbs.out).trans kcp.out⟩ ?rln171116_20
                case yln171116_20 => (intro W hSw; (try dsimp only at hSw); obtain ⟨s0, s1, s2, s3, s4⟩ := hSw; first | (go_simp; done) | (go_simp; with_reducible rfl))
                try go_simp
                refine wpAnyH_done (by kernel_rfl) ?_ _
                (try go_wp2_with fail)
                go_meet
                exact ⟨_, _, rfl, rfl, rfl, HpA, HpB, hne, hpA, hpB, HC⟩
            · go_simp
              have HpA := Lib.hid (show At (wqn17.alloc (.cells #[.int .i64 0, .int .i64 0, .float .f64 0, .float .f64 0] 34)) wqn17.heap.size RV.zero from at_new wqn17 RV.zero)
              have hpA := HC.out.size
              have npB := HpB.out.lt; have HpB := Lib.hid (HpB.out.alloc (.cells #[.int .i64 0, .int .i64 0, .float .f64 0, .float .f64 0] 34))
              have HC := Lib.hid (HC.out.alloc HC.out.size (.cells #[.int .i64 0, .int .i64 0, .float .f64 0, .float .f64 0] 34))
              generalize hgen : wqn17.alloc (.cells #[.int .i64 0, .int .i64 0, .float .f64 0, .float .f64 0] 34) = wqn1716 at *
              clear hgen
              refine hK.out _ _ ⟨(HC.out.cell (p := ⟨g, J * 4, none⟩) hgs.out).trans ka0.out, (HC.out.cell (p := ⟨g, J * 4 + 1, none⟩) hgs.out).trans ka1.out, (HC.out.cell (p := ⟨g, J * 4 + 2, none⟩) hgs.out).trans ka2.out, (HC.out.cell (p := ⟨g, J * 4 + 3, none⟩) hgs.out).trans ka3.out, (HC.out.cell (p := ⟨pb, poff + q, none⟩) hpbs.out).trans kcp.out⟩ (fun _ => ?_)
              clear hK K
              try go_simp
              refine wpAnyH_ready (rs := [11]) (by kernel_rfl) (by simp) ?_
              refine AllReadyH.cons rfl (fun K hK => ?_) AllReadyH.nil
              · go_simp
                go_wp2_with (first | (go_at_call 22; ((with_reducible refine (HSP _).out.mono ?_); rintro e wzn171611 ⟨rfl, hb⟩; have HpB := Lib.hid (HpB.out.below hb HpB.out.lt); have HpA := Lib.hid (HpA.out.below hb HpA.out.lt); have HC := Lib.hid (HC.out.trans (hb.mono HC.out.size)); clear hb)))
                refine hK.out _ _ ⟨(HC.out.cell (p := ⟨g, J * 4, none⟩) hgs.out).trans ka0.out, (HC.out.cell (p := ⟨g, J * 4 + 1, none⟩) hgs.out).trans ka1.out, (HC.out.cell (p := ⟨g, J * 4 + 2, none⟩) hgs.out).trans ka2.out, (HC.out.cell (p := ⟨g, J * 4 + 3, none⟩) hgs.out).trans ka3.out, (HC.out.cell (p := ⟨pb, poff + q, none⟩) hpbs.out).trans kcp.out⟩ (fun _ => ?_)
                clear hK K
                try go_simp
                refine wpAnyH_take (i := 12) (v := ?vn171611_12) rfl (by kernel_rfl) (by kernel_rfl) (by kernel_rfl) (fun _ _ _ h => h) (Or.inl ⟨by rfl, ?yn171611_12⟩) ⟨(HC.out.cell (p := ⟨g, J * 4, none⟩) hgs.out).trans ka0.out, (HC.out.cell (p := ⟨g, J * 4 + 1, none⟩) hgs.out).trans ka1.out, (HC.out.cell (p := ⟨g, J * 4 + 2, none⟩) hgs.out).trans ka2.out, (HC.out.cell (p := ⟨g, J * 4 + 3, none⟩) hgs.out).trans ka3.out, (HC.out.cell (p := ⟨pb, poff + q, none⟩) hpbs.out).trans kcp.out⟩ ?rn171611_12
                case yn171611_12 => (intro W hSw; (try dsimp only at hSw); obtain ⟨s0, s1, s2, s3, s4⟩ := hSw; first | (go_simp; done) | (go_simp; with_reducible rfl))
                try go_simp
                refine wpAnyH_take (i := 13) (v := ?vn171611_13) rfl (by kernel_rfl) (by kernel_rfl) (by kernel_rfl) (fun _ _ _ h => h) (Or.inl ⟨by rfl, ?yn171611_13⟩) ⟨(HC.out.cell (p := ⟨g, J * 4, none⟩) hgs.out).trans ka0.out, (HC.out.cell (p := ⟨g, J * 4 + 1, none⟩) hgs.out).trans ka1.out, (HC.out.cell (p := ⟨g, J * 4 + 2, none⟩) hgs.out).trans ka2.out, (HC.out.cell (p := ⟨g, J * 4 + 3, none⟩) hgs.out).trans ka3.out, (HC.out.cell (p := ⟨pb, poff + q, none⟩) hpbs.out).trans kcp.out⟩ ?rn171611_13
                case yn171611_13 => (intro W hSw; (try dsimp only at hSw); obtain ⟨s0, s1, s2, s3, s4⟩ := hSw; first | (go_simp; done) | (go_simp; with_reducible rfl))
                try go_simp
                refine wpAnyH_take (i := 14) (v := ?vn171611_14) rfl (by kernel_rfl) (by kernel_rfl) (by kernel_rfl) (fun _ _ _ h => h) (Or.inl ⟨by rfl, ?yn171611_14⟩) ⟨(HC.out.cell (p := ⟨g, J * 4, none⟩) hgs.out).trans ka0.out, (HC.out.cell (p := ⟨g, J * 4 + 1, none⟩) hgs.out).trans ka1.out, (HC.out.cell (p := ⟨g, J * 4 + 2, none⟩) hgs.out).trans ka2.out, (HC.out.cell (p := ⟨g, J * 4 + 3, none⟩) hgs.out).trans ka3.out, (HC.out.cell (p := ⟨pb, poff + q, none⟩) hpbs.out).trans kcp.out⟩ ?rn171611_14
                case yn171611_14 => (intro W hSw; (try dsimp only at hSw); obtain ⟨s0, s1, s2, s3, s4⟩ := hSw; first | (go_simp; done) | (go_simp; with_reducible rfl))
                try go_simp
                refine wpAnyH_take (i := 15) (v := ?vn171611_15) rfl (by kernel_rfl) (by kernel_rfl) (by kernel_rfl) (fun _ _ _ h => h) (Or.inl ⟨by rfl, ?yn171611_15⟩) ⟨(HC.out.cell (p := ⟨g, J * 4, none⟩) hgs.out).trans ka0.out, (HC.out.cell (p := ⟨g, J * 4 + 1, none⟩) hgs.out).trans ka1.out, (HC.out.cell (p := ⟨g, J * 4 + 2, none⟩) hgs.out).trans ka2.out, (HC.out.cell (p := ⟨g, J * 4 + 3, none⟩) hgs.out).trans ka3.out, (HC.out.cell (p := ⟨pb, poff + q, none⟩) hpbs.out).trans kcp.out⟩ ?rn171611_15
                case yn171611_15 => (intro W hSw; (try dsimp only at hSw); obtain ⟨s0, s1, s2, s3, s4⟩ := hSw; first | (go_simp; done) | (go_simp; with_reducible rfl))
                try go_simp
                have hne : wqn17.heap.size ≠ wr.heap.size := by omega
                have pA0 := HpA.out.c0; have pA1 := HpA.out.c1; have pA2 := HpA.out.c2; have pA3 := HpA.out.c3; have pA4 := HpA.out.f0; have pA5 := HpA.out.f1; have pA6 := HpA.out.f2; have pA7 := HpA.out.f3
                refine wpAnyH_ready (rs := [18]) (by kernel_rfl) (by simp) ?_
                refine AllReadyH.cons rfl (fun K hK => ?_) AllReadyH.nil
                go_simp
                have Hm := Lib.hid (show At (((((wzn171611).setCell ⟨wqn17.heap.size, 0, none⟩ (.int .i64 sai)).setCell ⟨wqn17.heap.size, 1, none⟩ (.int .i64 sae)).setCell ⟨wqn17.heap.size, 2, none⟩ (.float .f64 sal)).setCell ⟨wqn17.heap.size, 3, none⟩ (.float .f64 sah)) wqn17.heap.size ⟨sai, sae, sal, sah⟩ from HpA.out.setAll ⟨sai, sae, sal, sah⟩)
                have Ho := Lib.hid (show At (((((wzn171611).setCell ⟨wqn17.heap.size, 0, none⟩ (.int .i64 sai)).setCell ⟨wqn17.heap.size, 1, none⟩ (.int .i64 sae)).setCell ⟨wqn17.heap.size, 2, none⟩ (.float .f64 sal)).setCell ⟨wqn17.heap.size, 3, none⟩ (.float .f64 sah)) wr.heap.size RV.zero from HpB.out.set_other ⟨sai, sae, sal, sah⟩ hne.symm)
                have HC := Lib.hid (show Below wr.heap.size wr (((((wzn171611).setCell ⟨wqn17.heap.size, 0, none⟩ (.int .i64 sai)).setCell ⟨wqn17.heap.size, 1, none⟩ (.int .i64 sae)).setCell ⟨wqn17.heap.size, 2, none⟩ (.float .f64 sal)).setCell ⟨wqn17.heap.size, 3, none⟩ (.float .f64 sah)) from below_set4 HC.out hpA ⟨sai, sae, sal, sah⟩)
                clear HpA HpB pA0 pA1 pA2 pA3 pA4 pA5 pA6 pA7
                have HpA := Hm; have HpB := Ho; clear Hm Ho
                generalize ((((wzn171611).setCell ⟨wqn17.heap.size, 0, none⟩ (.int .i64 sai)).setCell ⟨wqn17.heap.size, 1, none⟩ (.int .i64 sae)).setCell ⟨wqn17.heap.size, 2, none⟩ (.float .f64 sal)).setCell ⟨wqn17.heap.size, 3, none⟩ (.float .f64 sah) = wtn17161118 at *
                refine hK.out _ _ ⟨(HC.out.cell (p := ⟨g, J * 4, none⟩) hgs.out).trans ka0.out, (HC.out.cell (p := ⟨g, J * 4 + 1, none⟩) hgs.out).trans ka1.out, (HC.out.cell (p := ⟨g, J * 4 + 2, none⟩) hgs.out).trans ka2.out, (HC.out.cell (p := ⟨g, J * 4 + 3, none⟩) hgs.out).trans ka3.out, (HC.out.cell (p := ⟨pb, poff + q, none⟩) hpbs.out).trans kcp.out⟩ (fun _ => ?_)
                clear hK K
                try go_simp
                have pB0 := HpB.out.c0; have pB1 := HpB.out.c1; have pB2 := HpB.out.c2; have pB3 := HpB.out.c3; have pB4 := HpB.out.f0; have pB5 := HpB.out.f1; have pB6 := HpB.out.f2; have pB7 := HpB.out.f3
                refine wpAnyH_ready (rs := [19]) (by kernel_rfl) (by simp) ?_
                refine AllReadyH.cons rfl (fun K hK => ?_) AllReadyH.nil
                go_simp
                have Hm := Lib.hid (show At (((((wtn17161118).setCell ⟨wr.heap.size, 0, none⟩ (.int .i64 sbi)).setCell ⟨wr.heap.size, 1, none⟩ (.int .i64 sbe)).setCell ⟨wr.heap.size, 2, none⟩ (.float .f64 sbl)).setCell ⟨wr.heap.size, 3, none⟩ (.float .f64 sbh)) wr.heap.size ⟨sbi, sbe, sbl, sbh⟩ from HpB.out.setAll ⟨sbi, sbe, sbl, sbh⟩)
                have Ho := Lib.hid (show At (((((wtn17161118).setCell ⟨wr.heap.size, 0, none⟩ (.int .i64 sbi)).setCell ⟨wr.heap.size, 1, none⟩ (.int .i64 sbe)).setCell ⟨wr.heap.size, 2, none⟩ (.float .f64 sbl)).setCell ⟨wr.heap.size, 3, none⟩ (.float .f64 sbh)) wqn17.heap.size ⟨sai, sae, sal, sah⟩ from HpA.out.set_other ⟨sbi, sbe, sbl, sbh⟩ hne)
                have HC := Lib.hid (show Below wr.heap.size wr (((((wtn17161118).setCell ⟨wr.heap.size, 0, none⟩ (.int .i64 sbi)).setCell ⟨wr.heap.size, 1, none⟩ (.int .i64 sbe)).setCell ⟨wr.heap.size, 2, none⟩ (.float .f64 sbl)).setCell ⟨wr.heap.size, 3, none⟩ (.float .f64 sbh)) from below_set4 HC.out hpB ⟨sbi, sbe, sbl, sbh⟩)
                clear HpB HpA pB0 pB1 pB2 pB3 pB4 pB5 pB6 pB7
                have HpB := Hm; have HpA := Ho; clear Hm Ho
                generalize ((((wtn17161118).setCell ⟨wr.heap.size, 0, none⟩ (.int .i64 sbi)).setCell ⟨wr.heap.size, 1, none⟩ (.int .i64 sbe)).setCell ⟨wr.heap.size, 2, none⟩ (.float .f64 sbl)).setCell ⟨wr.heap.size, 3, none⟩ (.float .f64 sbh) = wtn17161119 at *
                refine hK.out _ _ ⟨(HC.out.cell (p := ⟨g, J * 4, none⟩) hgs.out).trans ka0.out, (HC.out.cell (p := ⟨g, J * 4 + 1, none⟩) hgs.out).trans ka1.out, (HC.out.cell (p := ⟨g, J * 4 + 2, none⟩) hgs.out).trans ka2.out, (HC.out.cell (p := ⟨g, J * 4 + 3, none⟩) hgs.out).trans ka3.out, (HC.out.cell (p := ⟨pb, poff + q, none⟩) hpbs.out).trans kcp.out⟩ (fun _ => ?_)
                clear hK K
                try go_simp
                refine wpAnyH_take (i := 20) (v := ?vln171611_20) rfl (by kernel_rfl) (by kernel_rfl) (by kernel_rfl) (fun _ _ _ h => h) (Or.inl ⟨by rfl, ?yln171611_20⟩) ⟨(HC.out.cell (p := ⟨g, J * 4, none⟩) hgs.out).trans ka0.out, (HC.out.cell (p := ⟨g, J * 4 + 1, none⟩) hgs.out).trans ka1.out, (HC.out.cell (p := ⟨g, J * 4 + 2, none⟩) hgs.out).trans ka2.out, (HC.out.cell (p := ⟨g, J * 4 + 3, none⟩) hgs.out).trans ka3.out, (HC.out.cell (p := ⟨pb, poff + q, none⟩) hpbs.out).trans kcp.out⟩ ?rln171611_20
                case yln171611_20 => (intro W hSw; (try dsimp only at hSw); obtain ⟨s0, s1, s2, s3, s4⟩ := hSw; first | (go_simp; done) | (go_simp; with_reducible rfl))
                try go_simp
                refine wpAnyH_done (by kernel_rfl) ?_ _
                (try go_wp2_with fail)
                go_meet
                exact ⟨_, _, rfl, rfl, rfl, HpA, HpB, hne, hpA, hpB, HC⟩
        case rest =>
          obtain ⟨ba, bb, rfl, rfl, rfl, HpA, HpB, hne, hA, hB, HC⟩ := hcut
          have HO := Lib.hid (own_below HO.out HC.out)
          have HW := Lib.hid (HW.out.trans (HC.out.mono hs))
          have hgw := hgs.out
          clear HC
          by_cases hsf : sf = 0
          · have hM : M[J] = ⟨ri, re, rl, rh⟩ := by rw [← getD_in hJM]; exact HRM.out
            have key := HGr.out.split hJM (by rw [HML.out]; exact hm11) hx (by rw [hM, HML.out, HS.out]; exact hsf)
            have e := (split_ok (show (splitV ⟨ri, re, rl, rh⟩ x ((m : Int) + 1)).2.2 = 0 by rw [HS.out]; exact hsf)).1
            rw [HS.out] at e
            rw [hM, HML.out] at key
            simp only [Prod.mk.injEq, RV.mk.injEq] at e
            obtain ⟨⟨q1, q2, q3, q4⟩, ⟨q5, q6, q7, q8⟩, q9⟩ := e
            replace q1 := q1.symm; replace q3 := q3.symm; replace q4 := q4.symm; replace q7 := q7.symm; replace q8 := q8.symm
            subst q1; subst q2; subst q3; subst q4; subst q5; subst q6; subst q7; subst q8; subst q9
            simp only at key
            obtain ⟨ma, mb, he1, he2, hgr⟩ := key
            have hwe : IntKind.i64.wrap (re + 1) = re + 1 := IntWalk.i64_in _ (by omega)
            have HMA := fun w => Lib.hid (may_any ⟨ri, re + 1, rl, x⟩ HWR.out.2.2.1 hx w)
            have HMB := fun w => Lib.hid (may_any ⟨(m : Int) + 1, 0, x, rh⟩ hx HWR.out.2.2.2 w)
            rw [ma] at HMA
            rw [mb] at HMB
            have HGN := Lib.hid hgr
            have hJM2 := Lib.hid hJM
            clear ma mb hgr hsf
            go_wp2
            have hdr := (Below.refl wc.heap.size wc).drew
            have HO := Lib.hid (own_below HO.out hdr); have HpA := Lib.hid (HpA.out.below hdr HpA.out.lt); have HpB := Lib.hid (HpB.out.below hdr HpB.out.lt); have HW := Lib.hid (HW.out.drew)
            clear hdr
            refine wp_region_held (S := (fun w' : World => w'.cell? ⟨ba, 0, none⟩ = some (.int .i64 ri) ∧ w'.cell? ⟨ba, 1, none⟩ = some (.int .i64 (re + 1)) ∧ w'.cell? ⟨ba, 2, none⟩ = some (.float .f64 rl) ∧ w'.cell? ⟨ba, 3, none⟩ = some (.float .f64 x) ∧ w'.cell? ⟨bb, 0, none⟩ = some (.int .i64 ((m : Int) + 1)) ∧ w'.cell? ⟨bb, 1, none⟩ = some (.int .i64 0) ∧ w'.cell? ⟨bb, 2, none⟩ = some (.float .f64 x) ∧ w'.cell? ⟨bb, 3, none⟩ = some (.float .f64 rh) ∧ w'.cell? ⟨g, J * 4 + 1, none⟩ = some (.int .i64 re))) (by kernel_rfl) ?_
            change wpAnyH _ _ _ _ _ _ _ _ (World.drew _)
            refine wpAnyH_take (i := 0) (v := ?vkn_0) rfl (by kernel_rfl) (by kernel_rfl) (by kernel_rfl) (fun _ _ _ h => h) (Or.inl ⟨by rfl, ?ykn_0⟩) ⟨HpA.out.c0, HpA.out.c1, HpA.out.c2, HpA.out.c3, HpB.out.c0, HpB.out.c1, HpB.out.c2, HpB.out.c3, (own_at HO.out hJM2.out HRM.out).c1⟩ ?rkn_0
            case ykn_0 => (intro W hSw; (try dsimp only at hSw); obtain ⟨s0, s1, s2, s3, s4, s5, s6, s7, s8⟩ := hSw; first | (go_simp; done) | (go_simp; with_reducible rfl))
            try go_simp
            refine wpAnyH_ready (rs := [1]) (by kernel_rfl) (by simp) ?_
            refine AllReadyH.cons rfl (fun K hK => ?_) AllReadyH.nil
            go_simp
            go_wp2_with (first | (go_at_call 24; ((with_reducible refine (HMA _).out.mono ?_); rintro e wm1 ⟨rfl, hb⟩; have HO := Lib.hid (own_below HO.out hb); have HpA := Lib.hid (HpA.out.below hb HpA.out.lt); have HpB := Lib.hid (HpB.out.below hb HpB.out.lt); have HW := Lib.hid (HW.out.trans (hb.mono HW.out.size)); clear hb)))
            refine hK.out _ _ ⟨HpA.out.c0, HpA.out.c1, HpA.out.c2, HpA.out.c3, HpB.out.c0, HpB.out.c1, HpB.out.c2, HpB.out.c3, (own_at HO.out hJM2.out HRM.out).c1⟩ (fun _ => ?_)
            clear hK K
            try go_simp
            refine wpAnyH_take (i := 2) (v := ?vkn_2) rfl (by kernel_rfl) (by kernel_rfl) (by kernel_rfl) (fun _ _ _ h => h) (Or.inl ⟨by rfl, ?ykn_2⟩) ⟨HpA.out.c0, HpA.out.c1, HpA.out.c2, HpA.out.c3, HpB.out.c0, HpB.out.c1, HpB.out.c2, HpB.out.c3, (own_at HO.out hJM2.out HRM.out).c1⟩ ?rkn_2
            case ykn_2 => (intro W hSw; (try dsimp only at hSw); obtain ⟨s0, s1, s2, s3, s4, s5, s6, s7, s8⟩ := hSw; first | (go_simp; done) | (go_simp; with_reducible rfl))
            try go_simp
            refine wpAnyH_take (i := 3) (v := ?vkn_3) rfl (by kernel_rfl) (by kernel_rfl) (by kernel_rfl) (fun _ _ _ h => h) (Or.inl ⟨by rfl, ?ykn_3⟩) ⟨HpA.out.c0, HpA.out.c1, HpA.out.c2, HpA.out.c3, HpB.out.c0, HpB.out.c1, HpB.out.c2, HpB.out.c3, (own_at HO.out hJM2.out HRM.out).c1⟩ ?rkn_3
            case ykn_3 => (intro W hSw; (try dsimp only at hSw); obtain ⟨s0, s1, s2, s3, s4, s5, s6, s7, s8⟩ := hSw; first | (go_simp; done) | (go_simp; with_reducible rfl))
            try go_simp
            refine wpAnyH_take (i := 4) (v := ?vkn_4) rfl (by kernel_rfl) (by kernel_rfl) (by kernel_rfl) (fun _ _ _ h => h) (Or.inl ⟨by rfl, ?ykn_4⟩) ⟨HpA.out.c0, HpA.out.c1, HpA.out.c2, HpA.out.c3, HpB.out.c0, HpB.out.c1, HpB.out.c2, HpB.out.c3, (own_at HO.out hJM2.out HRM.out).c1⟩ ?rkn_4
            case ykn_4 => (intro W hSw; (try dsimp only at hSw); obtain ⟨s0, s1, s2, s3, s4, s5, s6, s7, s8⟩ := hSw; first | (go_simp; done) | (go_simp; with_reducible rfl))
            try go_simp
            refine wpAnyH_ready (rs := [5]) (by kernel_rfl) (by simp) ?_
            refine AllReadyH.cons rfl (fun K hK => ?_) AllReadyH.nil
            go_simp
            go_wp2_with (first | (go_at_call 24; ((with_reducible refine (HMB _).out.mono ?_); rintro e wm2 ⟨rfl, hb⟩; have HO := Lib.hid (own_below HO.out hb); have HpA := Lib.hid (HpA.out.below hb HpA.out.lt); have HpB := Lib.hid (HpB.out.below hb HpB.out.lt); have HW := Lib.hid (HW.out.trans (hb.mono HW.out.size)); clear hb)))
            refine hK.out _ _ ⟨HpA.out.c0, HpA.out.c1, HpA.out.c2, HpA.out.c3, HpB.out.c0, HpB.out.c1, HpB.out.c2, HpB.out.c3, (own_at HO.out hJM2.out HRM.out).c1⟩ (fun _ => ?_)
            clear hK K
            try go_simp
            refine wpAnyH_take (i := 6) (v := ?vkn_6) rfl (by kernel_rfl) (by kernel_rfl) (by kernel_rfl) (fun _ _ _ h => h) (Or.inl ⟨by rfl, ?ykn_6⟩) ⟨HpA.out.c0, HpA.out.c1, HpA.out.c2, HpA.out.c3, HpB.out.c0, HpB.out.c1, HpB.out.c2, HpB.out.c3, (own_at HO.out hJM2.out HRM.out).c1⟩ ?rkn_6
            case ykn_6 => (intro W hSw; (try dsimp only at hSw); obtain ⟨s0, s1, s2, s3, s4, s5, s6, s7, s8⟩ := hSw; first | (go_simp; done) | (go_simp; with_reducible rfl))
            try go_simp
            refine wpAnyH_take (i := 7) (v := ?vkn_7) rfl (by kernel_rfl) (by kernel_rfl) (by kernel_rfl) (fun _ _ _ h => h) (Or.inl ⟨by rfl, ?ykn_7⟩) ⟨HpA.out.c0, HpA.out.c1, HpA.out.c2, HpA.out.c3, HpB.out.c0, HpB.out.c1, HpB.out.c2, HpB.out.c3, (own_at HO.out hJM2.out HRM.out).c1⟩ ?rkn_7
            case ykn_7 => (intro W hSw; (try dsimp only at hSw); obtain ⟨s0, s1, s2, s3, s4, s5, s6, s7, s8⟩ := hSw; first | (go_simp; done) | (go_simp; with_reducible rfl))
            try go_simp
            refine wpAnyH_take (i := 8) (v := ?vkn_8) rfl (by kernel_rfl) (by kernel_rfl) (by kernel_rfl) (fun _ _ _ h => h) (Or.inl ⟨by rfl, ?ykn_8⟩) ⟨HpA.out.c0, HpA.out.c1, HpA.out.c2, HpA.out.c3, HpB.out.c0, HpB.out.c1, HpB.out.c2, HpB.out.c3, (own_at HO.out hJM2.out HRM.out).c1⟩ ?rkn_8
            case ykn_8 => (intro W hSw; (try dsimp only at hSw); obtain ⟨s0, s1, s2, s3, s4, s5, s6, s7, s8⟩ := hSw; first | (go_simp; done) | (go_simp; with_reducible rfl))
            try go_simp
            refine wpAnyH_take (i := 9) (v := ?vkn_9) rfl (by kernel_rfl) (by kernel_rfl) (by kernel_rfl) (fun _ _ _ h => h) (Or.inl ⟨by rfl, ?ykn_9⟩) ⟨HpA.out.c0, HpA.out.c1, HpA.out.c2, HpA.out.c3, HpB.out.c0, HpB.out.c1, HpB.out.c2, HpB.out.c3, (own_at HO.out hJM2.out HRM.out).c1⟩ ?rkn_9
            case ykn_9 => (intro W hSw; (try dsimp only at hSw); obtain ⟨s0, s1, s2, s3, s4, s5, s6, s7, s8⟩ := hSw; first | (go_simp; done) | (go_simp; with_reducible rfl))
            try go_simp
            refine wpAnyH_take (i := 10) (v := ?vkn_10) rfl (by kernel_rfl) (by kernel_rfl) (by kernel_rfl) (fun _ _ _ h => h) (Or.inl ⟨by rfl, ?ykn_10⟩) ⟨HpA.out.c0, HpA.out.c1, HpA.out.c2, HpA.out.c3, HpB.out.c0, HpB.out.c1, HpB.out.c2, HpB.out.c3, (own_at HO.out hJM2.out HRM.out).c1⟩ ?rkn_10
            case ykn_10 => (intro W hSw; (try dsimp only at hSw); obtain ⟨s0, s1, s2, s3, s4, s5, s6, s7, s8⟩ := hSw; first | (go_simp; done) | (go_simp; with_reducible rfl))
            try go_simp
            refine wpAnyH_take (i := 11) (v := ?vkn_11) rfl (by kernel_rfl) (by kernel_rfl) (by kernel_rfl) (fun _ _ _ h => h) (Or.inl ⟨by rfl, ?ykn_11⟩) ⟨HpA.out.c0, HpA.out.c1, HpA.out.c2, HpA.out.c3, HpB.out.c0, HpB.out.c1, HpB.out.c2, HpB.out.c3, (own_at HO.out hJM2.out HRM.out).c1⟩ ?rkn_11
            case ykn_11 => (intro W hSw; (try dsimp only at hSw); obtain ⟨s0, s1, s2, s3, s4, s5, s6, s7, s8⟩ := hSw; first | (go_simp; done) | (go_simp; with_reducible rfl))
            try go_simp
            refine wpAnyH_take (i := 12) (v := ?vkn_12) rfl (by kernel_rfl) (by kernel_rfl) (by kernel_rfl) (fun _ _ _ h => h) (Or.inl ⟨by rfl, ?ykn_12⟩) ⟨HpA.out.c0, HpA.out.c1, HpA.out.c2, HpA.out.c3, HpB.out.c0, HpB.out.c1, HpB.out.c2, HpB.out.c3, (own_at HO.out hJM2.out HRM.out).c1⟩ ?rkn_12
            case ykn_12 => (intro W hSw; (try dsimp only at hSw); obtain ⟨s0, s1, s2, s3, s4, s5, s6, s7, s8⟩ := hSw; first | (go_simp; done) | (go_simp; with_reducible rfl))
            try go_simp
            refine wpAnyH_take (i := 13) (v := ?vkn_13) rfl (by kernel_rfl) (by kernel_rfl) (by kernel_rfl) (fun _ _ _ h => h) (Or.inl ⟨by rfl, ?ykn_13⟩) ⟨HpA.out.c0, HpA.out.c1, HpA.out.c2, HpA.out.c3, HpB.out.c0, HpB.out.c1, HpB.out.c2, HpB.out.c3, (own_at HO.out hJM2.out HRM.out).c1⟩ ?rkn_13
            case ykn_13 => (intro W hSw; (try dsimp only at hSw); obtain ⟨s0, s1, s2, s3, s4, s5, s6, s7, s8⟩ := hSw; first | (go_simp; done) | (go_simp; with_reducible rfl))
            try go_simp
            refine wpAnyH_take (i := 14) (v := ?vkn_14) rfl (by kernel_rfl) (by kernel_rfl) (by kernel_rfl) (fun _ _ _ h => h) (Or.inl ⟨by rfl, ?ykn_14⟩) ⟨HpA.out.c0, HpA.out.c1, HpA.out.c2, HpA.out.c3, HpB.out.c0, HpB.out.c1, HpB.out.c2, HpB.out.c3, (own_at HO.out hJM2.out HRM.out).c1⟩ ?rkn_14
            case ykn_14 => (intro W hSw; (try dsimp only at hSw); obtain ⟨s0, s1, s2, s3, s4, s5, s6, s7, s8⟩ := hSw; first | (go_simp; done) | (go_simp; with_reducible rfl))
            try go_simp
            refine wpAnyH_take (i := 15) (v := ?vkn_15) rfl (by kernel_rfl) (by kernel_rfl) (by kernel_rfl) (fun _ _ _ h => h) (Or.inl ⟨by rfl, ?ykn_15⟩) ⟨HpA.out.c0, HpA.out.c1, HpA.out.c2, HpA.out.c3, HpB.out.c0, HpB.out.c1, HpB.out.c2, HpB.out.c3, (own_at HO.out hJM2.out HRM.out).c1⟩ ?rkn_15
            case ykn_15 => (intro W hSw; (try dsimp only at hSw); obtain ⟨s0, s1, s2, s3, s4, s5, s6, s7, s8⟩ := hSw; first | (go_simp; done) | (go_simp; with_reducible rfl))
            try go_simp
            refine wpAnyH_take (i := 16) (v := ?vkn_16) rfl (by kernel_rfl) (by kernel_rfl) (by kernel_rfl) (fun _ _ _ h => h) (Or.inl ⟨by rfl, ?ykn_16⟩) ⟨HpA.out.c0, HpA.out.c1, HpA.out.c2, HpA.out.c3, HpB.out.c0, HpB.out.c1, HpB.out.c2, HpB.out.c3, (own_at HO.out hJM2.out HRM.out).c1⟩ ?rkn_16
            case ykn_16 => (intro W hSw; (try dsimp only at hSw); obtain ⟨s0, s1, s2, s3, s4, s5, s6, s7, s8⟩ := hSw; first | (go_simp; done) | (go_simp; with_reducible rfl))
            try go_simp
            refine wpAnyH_take (i := 17) (v := ?vkn_17) rfl (by kernel_rfl) (by kernel_rfl) (by kernel_rfl) (fun _ _ _ h => h) (Or.inl ⟨by rfl, ?ykn_17⟩) ⟨HpA.out.c0, HpA.out.c1, HpA.out.c2, HpA.out.c3, HpB.out.c0, HpB.out.c1, HpB.out.c2, HpB.out.c3, (own_at HO.out hJM2.out HRM.out).c1⟩ ?rkn_17
            case ykn_17 => (intro W hSw; (try dsimp only at hSw); obtain ⟨s0, s1, s2, s3, s4, s5, s6, s7, s8⟩ := hSw; first | (go_simp; done) | (go_simp; with_reducible rfl))
            try go_simp
            refine wpAnyH_take (i := 18) (v := ?vkn_18) rfl (by kernel_rfl) (by kernel_rfl) (by kernel_rfl) (fun _ _ _ h => h) (Or.inl ⟨by rfl, ?ykn_18⟩) ⟨HpA.out.c0, HpA.out.c1, HpA.out.c2, HpA.out.c3, HpB.out.c0, HpB.out.c1, HpB.out.c2, HpB.out.c3, (own_at HO.out hJM2.out HRM.out).c1⟩ ?rkn_18
            case ykn_18 => (intro W hSw; (try dsimp only at hSw); obtain ⟨s0, s1, s2, s3, s4, s5, s6, s7, s8⟩ := hSw; first | (go_simp; done) | (go_simp; with_reducible rfl))
            try go_simp
            refine wpAnyH_done (by kernel_rfl) ?_ _
            obtain ⟨b0, b1, b2, b3, y0, y1, y2, y3⟩ := own_at HO.out hJM2.out HRM.out
            simp only at b0 b1 b2 b3
            have u0 := HpA.out.c0; have u1 := HpA.out.c1; have u2 := HpA.out.c2; have u3 := HpA.out.c3
            simp only at u0 u1 u2 u3
            go_upto_region 19 with fail
            have hO2 := own_set HO.out hJM2.out ⟨ri, re + 1, rl, x⟩
            have HO2 := Lib.hid (show ((((wm2.setCell ⟨g, J * 4, none⟩ (.int .i64 ri)).setCell ⟨g, J * 4 + 1, none⟩ (.int .i64 (re + 1))).setCell ⟨g, J * 4 + 2, none⟩ (.float .f64 rl)).setCell ⟨g, J * 4 + 3, none⟩ (.float .f64 x)).ownsRow w.heap.size 34 4 (.slice (some ⟨g, 0, none⟩) m c) m (cellsR (M.set J ⟨ri, re + 1, rl, x⟩)) from hO2.1)
            have HpB := Lib.hid (show At ((((wm2.setCell ⟨g, J * 4, none⟩ (.int .i64 ri)).setCell ⟨g, J * 4 + 1, none⟩ (.int .i64 (re + 1))).setCell ⟨g, J * 4 + 2, none⟩ (.float .f64 rl)).setCell ⟨g, J * 4 + 3, none⟩ (.float .f64 x)) bb _ from HpB.out.setR_other (J * 4) ⟨ri, re + 1, rl, x⟩ (by omega))
            have HW := Lib.hid (show Below w.heap.size w ((((wm2.setCell ⟨g, J * 4, none⟩ (.int .i64 ri)).setCell ⟨g, J * 4 + 1, none⟩ (.int .i64 (re + 1))).setCell ⟨g, J * 4 + 2, none⟩ (.float .f64 rl)).setCell ⟨g, J * 4 + 3, none⟩ (.float .f64 x)) from below_setR HW.out (HO.out.lt g rfl).1 (J * 4) ⟨ri, re + 1, rl, x⟩)
            clear hO2 HpA HO b0 b1 b2 b3 y0 y1 y2 y3 u0 u1 u2 u3
            generalize (((wm2.setCell ⟨g, J * 4, none⟩ (.int .i64 ri)).setCell ⟨g, J * 4 + 1, none⟩ (.int .i64 (re + 1))).setCell ⟨g, J * 4 + 2, none⟩ (.float .f64 rl)).setCell ⟨g, J * 4 + 3, none⟩ (.float .f64 x) = w9 at *
            have v0 := HpB.out.c0; have v1 := HpB.out.c1; have v2 := HpB.out.c2; have v3 := HpB.out.c3
            have hs9 := HW.out.size
            go_wp2_with (first
              | (at_builtin; refine wpList_append_ranges (by rfl) (.tmp 113) (.tmp 115) rfl (B := w.heap.size) (M := M.set J ⟨ri, re + 1, rl, x⟩) (n := m) rfl (HO2.out.alloc _) (by simp; omega) rfl (has_lit w9 ⟨(m : Int) + 1, 0, x, rh⟩) (by omega) ?_; intro v9 w10 ho9 hg9; have HW10 := Lib.hid ((HW.out.alloc hs9 (robj ⟨(m : Int) + 1, 0, x, rh⟩)).grown hg9 (by simp; omega) (fun k hk => (HO2.out.lt k hk).1)); obtain ⟨g9, c9, hv9⟩ := own_shape ho9 (by omega); subst hv9; have HO9 := Lib.hid ho9; clear ho9 hg9))
            go_roundw
            case rel => exact ⟨q + 1, m + 1, g9, c9, M.set J ⟨ri, re + 1, rl, x⟩ ++ [⟨(m : Int) + 1, 0, x, rh⟩], by go_num, by omega, rfl, by omega, by omega, by rw [List.length_append, List.length_set, HML.out]; exact rfl, HGN, HO9, HW10⟩
            case measure => simp [intOf]; omega
          · have hsf2 : (sf != 0) = true := bne_iff_ne.2 hsf
            go_wp2
            go_roundw
            case rel => exact ⟨q + 1, m, g, c, M, by go_num, by omega, rfl, hm0, hm12, HML, HGr, HO, HW⟩
            case measure => simp [intOf]; omega
    · have hcase : ¬ q < tn ∨ (q < tn ∧ ¬ q < pn) ∨ (q < tn ∧ q < pn ∧ ¬ q < 11) ∨ (q < tn ∧ q < pn ∧ q < 11 ∧ ¬ m < 12) := by omega
      have HCV := Lib.hid (check_zero.2 HGr.out.cov)
      have hrg := own_ranges (w := wr) (base := w.heap.size) (v := .slice (some ⟨g, 0, none⟩) m c) (l := M) (by rw [HML.out]; exact HO.out)
      have HCK := Lib.hid (check_any hrg HGr.out.wf)
      rw [HCV.out] at HCK
      have HC1 := fun (x : Nat) (hx : x < oneB) => Lib.hid (count_one HGr.out.cov hx)
      have HF1 := fun (x : Nat) (hx : x < oneB) => Lib.hid (find_one HGr.out.cov hx)
      have HTK := fun (x k : Nat) (hk : k < M.length) => Lib.hid (count_take (M := M) (x := x) hk)
      clear hcond hrg
      rcases hcase with hc1 | ⟨hc1, hc2⟩ | ⟨hc1, hc2, hc3⟩ | ⟨hc1, hc2, hc3, hc4⟩
      all_goals
        go_wp2_with (first
          | (go_at_call 31; ((with_reducible refine HCK.out.mono ?_); rintro e w3 ⟨rfl, hb⟩; have HO := Lib.hid (own_below HO.out hb); have HW := Lib.hid (HW.out.trans (hb.mono HW.out.size)); clear hb)))
        clear HCK
        go_loopw [16] (fun i wr => ∃ j : Nat, i = .int .i64 j ∧ j ≤ kn ∧ Hid (wr.ownsRow w.heap.size 34 4 (.slice (some ⟨g, 0, none⟩) m c) m (cellsR M)) ∧ Hid (Below w.heap.size w wr)) (fun i _ => kn - (intOf i).toNat)
        case atStart => exact ⟨0, rfl, Nat.zero_le _, HO, HW⟩
        case round =>
          obtain ⟨j, rfl, hj, HO, HW⟩ := hrel
          by_cases hj2 : j < kn ∧ j < 40
          · obtain ⟨hjk, hj40⟩ := hj2
            obtain ⟨kb, koff, rfl, ck⟩ := (HKK.out.below HW.out).at_ hjk
            replace ck : wr.cell? ⟨kb, koff + j, none⟩ = some (.string (ks.getD j ⟨⟨#[]⟩, by decide⟩).1) := ck
            have hsz := (ks.getD j ⟨⟨#[]⟩, by decide⟩).2
            generalize (ks.getD j ⟨⟨#[]⟩, by decide⟩).1 = s at *
            unfold maxLen at hsz
            by_cases h1000 : (1000 : Int) < (s.size : Int)
            · go_wp2
              go_roundw
              case rel => exact ⟨j + 1, by go_num, by omega, HO, HW⟩
              case measure => simp [intOf]; omega
            · have HOF := fun w => Lib.hid (of_any s hsz w)
              have hx1 := (of_spec s.data.toList).2
              generalize ofH s.data.toList = x at *
              have HC2 := HC1 x hx1
              obtain ⟨r, hfv, hinr⟩ := (HF1 x hx1).out
              have HFV := Lib.hid hfv
              have HINR := fun w => Lib.hid (in_any r x w)
              rw [hinr] at HINR
              clear hfv hinr hx1
              go_wp2_with (first
                | (go_at_call 13; ((with_reducible refine (HOF _).out.mono ?_); rintro e w' ⟨rfl, rfl⟩)))
              go_loopw [18, 19] (fun me i wr => ∃ p : Nat, i = .int .i64 p ∧ p ≤ m ∧ me = .int .i64 ((M.take p).countP (fun r => inV r x) : Nat) ∧ Hid (wr.ownsRow w.heap.size 34 4 (.slice (some ⟨g, 0, none⟩) m c) m (cellsR M)) ∧ Hid (Below w.heap.size w wr)) (fun _ i _ => m - (intOf i).toNat)
              case atStart => exact ⟨0, rfl, Nat.zero_le _, by simp, HO, HW⟩
              case round =>
                obtain ⟨p, rfl, hp, rfl, HO, HW⟩ := hrel
                by_cases hpm : p < m
                · have hpM : p < M.length := by rw [HML.out]; exact hpm
                  have HT := HTK x p hpM
                  have hcp : (M.take p).countP (fun r => inV r x) ≤ 12 := Nat.le_trans List.countP_le_length (by rw [List.length_take]; omega)
                  obtain ⟨b0, b1, b2, b3, _, _, _, _⟩ := own_at HO.out hpM (getD_in hpM)
                  generalize M[p] = d at *
                  obtain ⟨di, de, dl, dh⟩ := d
                  simp only at b0 b1 b2 b3
                  have HIN := fun w => Lib.hid (in_any ⟨di, de, dl, dh⟩ x w)
                  generalize (M.take p).countP (fun r => inV r x) = cp at *
                  cases hin : inV ⟨di, de, dl, dh⟩ x
                  all_goals
                    rw [hin] at HIN HT
                    clear hin
                    go_wp2_with (first
                      | (go_at_call 26; ((with_reducible refine (HIN _).out.mono ?_); rintro e w5 ⟨rfl, hb⟩; have HO := Lib.hid (own_below HO.out hb); have HW := Lib.hid (HW.out.trans (hb.mono HW.out.size)); clear hb)))
                    go_roundw
                    case rel => exact ⟨p + 1, by go_num, by omega, by rw [HT.out]; go_num, HO, HW⟩
                    case measure => simp [intOf]; omega
                · obtain rfl : m = p := by omega
                  have hfull : M.take m = M := List.take_of_length_le (by rw [HML.out]; exact Nat.le_refl _)
                  have h1 : (M.take m).countP (fun r => inV r x) = 1 := by rw [hfull]; exact HC2.out
                  rw [h1]
                  have hrg := own_ranges (w := wr) (base := w.heap.size) (v := .slice (some ⟨g, 0, none⟩) m c) (l := M) (by rw [HML.out]; exact HO.out)
                  have hfi := find_any x hrg (by rw [HML.out]; omega)
                  rw [HFV.out] at hfi
                  have HFI := Lib.hid hfi
                  obtain ⟨ri, re, rl, rh⟩ := r
                  clear h1 hfull hrg hfi
                  have hst := run_stf
                  go_wp2_with (first
                    | (go_at_call 29; ((with_reducible refine HFI.out.mono ?_); rintro e w6 ⟨rfl, hb⟩; have hbb := hb.alloc hb.size (robj ⟨ri, re, rl, rh⟩); have HO := Lib.hid (own_below HO.out hbb); have HW := Lib.hid (HW.out.trans (hbb.mono HW.out.size)); have HR := Lib.hid (at_new w6 ⟨ri, re, rl, rh⟩); have r0 := HR.out.c0; have r1 := HR.out.c1; have r2 := HR.out.c2; have r3 := HR.out.c3; clear hb hbb))
                    | (go_at_call 26; ((with_reducible refine (HINR _).out.mono ?_); rintro e w7 ⟨rfl, hb⟩; have HO := Lib.hid (own_below HO.out hb); have HW := Lib.hid (HW.out.trans (hb.mono HW.out.size)); clear hb)))
                  go_roundw
                  case rel => exact ⟨j + 1, by go_num, by omega, HO, HW⟩
                  case measure => simp [intOf]; omega
          · have hj3 : (j < kn ∧ ¬ j < 40) ∨ ¬ j < kn := by omega
            clear hj2
            rcases hj3 with ⟨_, hj4⟩ | hj4
            all_goals
              go_wp2_with (first
                | (go_at_call 12; ((with_reducible refine (first_any _).mono ?_); rintro e w' ⟨rfl, rfl⟩)))
              go_ret
              exact ⟨rfl, HW.out⟩
theorem open_introw {H : Type} {enc : TypeId × Value → H} {w : World} {base : Nat} {held : Bool} {fuel : Nat} {v : Value} {x : DataW H × List MemPlace} (h : DataW.trod enc Try.prog w base (fun _ => true) held fuel 50 [v] = some x) : ∃ l, ∃ ao cap, v = .slice ao l.length cap ∧ XB iv ⟨0, by decide⟩ w.heap.size w ao l.length cap l := by
  obtain ⟨ao, cap, l, h1, h2⟩ := open_ints h
  exact ⟨l, ao, cap, h1, h2⟩
theorem open_flrow {H : Type} {enc : TypeId × Value → H} {w : World} {base : Nat} {held : Bool} {fuel : Nat} {v : Value} {x : DataW H × List MemPlace} (h : DataW.trod enc Try.prog w base (fun _ => true) held fuel 51 [v] = some x) : ∃ l, ∃ ao cap, v = .slice ao l.length cap ∧ XB fv ⟨0, by decide⟩ w.heap.size w ao l.length cap l := by
  obtain ⟨ao, cap, l, h1, h2⟩ := open_floats h
  exact ⟨l, ao, cap, h1, h2⟩
theorem open_strow {H : Type} {enc : TypeId × Value → H} {w : World} {base : Nat} {held : Bool} {fuel : Nat} {v : Value} {x : DataW H × List MemPlace} (h : DataW.trod enc Try.prog w base (fun _ => true) held fuel 52 [v] = some x) : ∃ l, ∃ ao cap, v = .slice ao l.length cap ∧ XB sv ⟨⟨#[]⟩, by decide⟩ w.heap.size w ao l.length cap l := by
  obtain ⟨ao, cap, l, h1, h2⟩ := open_strings h
  exact ⟨l, ao, cap, h1, h2⟩
theorem placeOne_walk (W : World) (a : Int) (_ : -9223372036854775808 ≤ a) (_ : a ≤ 9223372036854775807) (u : Value) (t : List I64) (ht : ∃ ao cap, u = .slice ao t.length cap ∧ XB iv ⟨0, by decide⟩ W.heap.size W ao t.length cap t)
    (v : Value) (ps : List F64) (hp : ∃ ao cap, v = .slice ao ps.length cap ∧ XB fv ⟨0, by decide⟩ W.heap.size W ao ps.length cap ps) (s : Value) (ks : List Str) (hk : ∃ ao cap, s = .slice ao ks.length cap ∧ XB sv ⟨⟨#[]⟩, by decide⟩ W.heap.size W ao ks.length cap ks) :
    Calls Try.prog 8 #[.int .i64 a, u, v, s] W fun e w' => e = .returned (.bool true) ∧ Below W.heap.size W w' := by
  by_cases h : a < 1 ∨ 12 < a
  · exact placeOne_bad W a u v s h
  · obtain ⟨n, rfl⟩ : ∃ n : Nat, a = (n : Int) := ⟨a.toNat, by omega⟩
    obtain ⟨ao, ac, rfl, hx⟩ := ht
    obtain ⟨bo, bc, rfl, hy⟩ := hp
    obtain ⟨co, cc, rfl, hz⟩ := hk
    exact placeOne_ok W n (by omega) (by omega) ao _ ac t hx bo _ bc ps hy co _ cc ks hz

set_option maxRecDepth 100000 in
theorem placeOne_lifted (os : Os) (started : os.Started) (H : Type) (enc : TypeId × Value → H) :
    ReturnsInHanded {} Try.checked os 8 .any (Rows.placeOneSpec.pre6 enc Try.prog Try.f8 [] false) (Rows.placeOneSpec.post enc Try.prog Try.f8 false true false false) := by
  refine returnsInHanded_of_change (C := Try.checked) own started (by kernel_rfl) Try.func8
    (ChangeSpec.witness6 (enc := enc) (C := Try.checked) false ⟨#[], #[.int .i64 0, .slice none 0 0, .slice none 0 0, .slice none 0 0], []⟩ 8 (by kernel_rfl) (by kernel_rfl) (by kernel_rfl) (by kernel_rfl)) ?_
  intro W base args ds gs before hval0 hW _ _
  have hval : ∀ (j : Nat) t v, Try.f8.params[j]? = some t → args[j]? = some v → Value.okWide Try.prog W .any base t v := hval0
  have hW' := hW
  obtain ⟨p, q, hA0, hV, rfl, hfz, hnd⟩ := hW
  have hA : DataW.TrodAll enc Try.prog W 0 (fun _ => true) true Try.f8.params.toList args.toList ds p := hA0
  rw [Try.params8] at hA hval
  obtain ⟨v0, v1, v2, v3, d0, d1, d2, d3, p0, p1, p2, p3, rfl, rfl, rfl, h0, h1, h2, h3⟩ := trodAll_four hA
  obtain ⟨a0, rfl, rfl, rfl, wf0⟩ := open_int Try.underlying3 (hval 0 3 v0 rfl rfl) h0
  obtain ⟨b1, len1, cap1, rfl⟩ := okWide_slice Try.underlying50 (hval 1 50 v1 rfl rfl)
  have k1 := h1
  obtain ⟨fuel1, g1⟩ := h1
  obtain ⟨b2, len2, cap2, rfl⟩ := okWide_slice Try.underlying51 (hval 2 51 v2 rfl rfl)
  have k2 := h2
  obtain ⟨fuel2, g2⟩ := h2
  obtain ⟨b3, len3, cap3, rfl⟩ := okWide_slice Try.underlying52 (hval 3 52 v3 rfl rfl)
  have k3 := h3
  obtain ⟨fuel3, g3⟩ := h3
  obtain ⟨rfl, rfl⟩ := trodVars_none hV
  clear hA0 hval0
  simp only [List.append_nil] at hW'
  have hlt : ∀ x ∈ [] ++ p1 ++ p2 ++ p3, x.block < W.heap.size := fun x hx => hW'.lt x (by simpa using hx)
  have hwf0 := wf0
  simp [Lit.wf, IntKind.min, IntKind.max, IntKind.signed, IntKind.bits] at hwf0
  obtain ⟨xs1, r1⟩ := open_introw g1
  obtain ⟨xs2, r2⟩ := open_flrow g2
  obtain ⟨xs3, r3⟩ := open_strow g3
  refine Calls.mono (?walk : Calls _ _ _ _ fun e w' => e = .returned (.bool true) ∧ Below W.heap.size W w') fun e W' ⟨he, hw⟩ => ?_
  case walk =>
    exact placeOne_walk W a0 (by omega) (by omega) _ xs1 r1 _ xs2 r2 _ xs3 r3
  subst he
  exact ⟨_, rfl, post_of_below (pa := [] ++ (p1 ++ (p2 ++ p3))) (pv := []) hW' (fun _ _ _ => trodAll_mk1 (shut_bool Try.underlying4 _)) (fun sp hsp => trodAll_mk4 (shut_int Try.underlying3 wf0) (WideElems.Trod_stays laidOut (by kernel_rfl) (of_decide_eq_true (by kernel_rfl)) k1 (fun x hx => hw.same (hlt x (by first | (simp [hx]; done) | exact nomatch hx))) (fun x hx => hsp x (by first | (simp [hx]; done) | exact nomatch hx))) (WideElems.Trod_stays laidOut (by kernel_rfl) (of_decide_eq_true (by kernel_rfl)) k2 (fun x hx => hw.same (hlt x (by first | (simp [hx]; done) | exact nomatch hx))) (fun x hx => hsp x (by first | (simp [hx]; done) | exact nomatch hx))) (WideElems.Trod_stays laidOut (by kernel_rfl) (of_decide_eq_true (by kernel_rfl)) k3 (fun x hx => hw.same (hlt x (by first | (simp [hx]; done) | exact nomatch hx))) (fun x hx => hsp x (by first | (simp [hx]; done) | exact nomatch hx)))) (fun _ _ => rfl) (by simp) hw (ok_one (by kernel_rfl) rfl (okWide_bool_mk Try.underlying4 _))⟩
/-- THE ROW. -/
theorem placeOne_holds : Rows.PlaceOneSaid :=
  OpenClaim.holds_of_wide 8 Try.f8 rfl rfl rfl rfl rfl rfl rfl ⟨rfl, rfl, rfl, rfl, rfl⟩ rfl rfl rfl rfl rfl (by kernel_rfl) Try.func8 (by kernel_rfl)
    (of_decide_eq_true (by kernel_rfl)) (by unfold Func.isWrapper; first | (rw [if_pos (by decide +kernel)]; kernel_rfl) | (rw [if_neg (by decide +kernel)]; exact ⟨rfl, rfl⟩))
    (fun os started H enc _ => placeOne_lifted os started H enc)
#print axioms placeOne_holds
end Go.Proofs.Ytfdopinlmjbfaaa
