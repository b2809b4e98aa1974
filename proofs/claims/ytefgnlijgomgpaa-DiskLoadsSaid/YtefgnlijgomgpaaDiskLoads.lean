/- racelaw6.DiskLoads answers true, whatever came in: files are a disk, or refused, as the document says; it goes on as the document's. Conditions: none. -/
import Derived.Test.YtefgnlijgomgpaaNd
import Derived.Test.YtefgnlijgomgpaaNe
namespace Go.Proofs.Ytefgnlijgomgpaa
open Go.ChangeShapes Go.WideShapes Go.ChangeAt Go.RowKit
/-- How much files bear. -/
def weiF (l : List FV) : Nat := (l.map fun p => min p.name.length 20001 + min p.data.length 20001).sum
theorem weiF_take {l : List FV} {k : Nat} (h : k < l.length) : weiF (l.take (k + 1)) = weiF (l.take k) + (min l[k].name.length 20001 + min l[k].data.length 20001) := by
  unfold weiF
  rw [List.take_succ_eq_append_getElem h, List.map_append, List.sum_append]
  simp
theorem weiF_le (l : List FV) : weiF l ≤ l.length * 40002 := by
  induction l with
  | nil => simp [weiF]
  | cons p r ih =>
    have e : weiF (p :: r) = (min p.name.length 20001 + min p.data.length 20001) + weiF r := rfl
    rw [e, List.length_cons]
    omega
theorem weiF_tot : ∀ (l : List FV), weiF l ≤ 20000 → totF l ≤ weiF l
  | [], _ => Nat.le_refl _
  | p :: r, h => by
    have e : weiF (p :: r) = (min p.name.length 20001 + min p.data.length 20001) + weiF r := rfl
    have e2 : totF (p :: r) = p.data.length + totF r := by unfold totF; simp
    have := weiF_tot r (by omega)
    omega
theorem chk_ex (l : List FV) : ∃ e, Chk l e := by
  have h : ∀ j, j ≤ l.length → good l j ∨ ∃ e, Chk l e := by
    intro j
    induction j with
    | zero => exact fun _ => .inl fun _ _ h => absurd h (Nat.not_lt_zero _)
    | succ j ih =>
      intro hj
      rcases ih (by omega) with hg | he
      · by_cases h0 : errOf (l.take j) l[j] = 0
        · exact .inl (good_succ hg (by omega) h0)
        · exact .inr ⟨_, .inl ⟨h0, j, by omega, hg, rfl⟩⟩
      · exact .inr he
  rcases h l.length (Nat.le_refl _) with hg | he
  · exact ⟨_, .inr ⟨hg, rfl⟩⟩
  · exact he
theorem loads_bad {l : List FV} {P : Nat → World → Prop} {e : Ending} {w' : World} {er : Nat} (h : Loads l P e w') (hc : Chk l er) (h0 : er ≠ 0) : e = .returned (.tuple #[.pointer none, .int .i64 (er : Int)]) := by
  obtain ⟨er', hc', h1 | h1⟩ := h
  · rw [chk_one hc hc']; exact h1.2
  · rw [h1.1] at hc'; exact absurd (chk_one hc hc') h0
theorem loads_ok {l : List FV} {P : Nat → World → Prop} {e : Ending} {w' : World} (h : Loads l P e w') (hc : Chk l 0) : ∃ a, e = .returned (.tuple #[ptr a, .int .i64 0]) ∧ P a w' := by
  obtain ⟨er', hc', h1 | h1⟩ := h
  · exact absurd (chk_one hc' hc) h1.1
  · exact h1.2
theorem Two.tn {B : Nat} {w w' : World} {a c : Nat} {S C P : Nat → Prop} {d e : Dk} (h : Two B w a S d c C e) (ht : Tn P w w') (hp : ∀ k, P k → k < B) : Two B w' a S d c C e :=
  ⟨h.dk.tn ht (fun k hk e => by have := h.sb k hk; have := hp k e; omega), h.rk.tn ht (fun k hk e => by have := h.cb k hk; have := hp k e; omega), h.sb, h.cb, h.sc⟩
set_option maxRecDepth 100000 in
set_option maxHeartbeats 16000000 in
theorem diskLoads_walk (w : World) (fo : Option Addr) (fcap : Nat) (l : List FV) (hf : SF (fun k => k < w.heap.size) w fo l.length fcap l)
    (ao : Option Addr) (cap : Nat) (m : List Do) (hm : SO (fun k => k < w.heap.size) w ao m.length cap m) :
    Calls Try.prog 4 #[.slice fo l.length fcap, .slice ao m.length cap] w fun e w' => e = .returned (.bool true) ∧ Below w.heap.size w w' := by
  have HSF := Lib.hid hf
  have H := Lib.hid hm
  have hlt := hm.lt
  have hflt := hf.lt
  clear hf hm
  go_enter Try.func4, Try.ntmps4
  go_wp2_with (go_at_call 10; (with_reducible refine (first_any _).mono ?_); rintro e w1 ⟨rfl, hb⟩; have HB1 := Lib.hid hb; clear hb)
  go_loopw [5, 6] (fun s i wr => ∃ k : Nat, k ≤ l.length ∧ k ≤ 300 ∧ i = .int .i64 k ∧ s = .int .i64 (weiF (l.take k) : Nat) ∧ Hid (Below w.heap.size w wr)) (fun _ i _ => 300 - (intOf i).toNat)
  case atStart => exact ⟨0, Nat.zero_le _, Nat.zero_le _, rfl, rfl, HB1.out⟩
  case round =>
    obtain ⟨k, hk, hk4, rfl, rfl, HB2⟩ := hrel
    have hw := weiF_le (l.take k)
    rw [List.length_take] at hw
    by_cases hlt2 : k < l.length ∧ k < 300
    · obtain ⟨hkl, hk300⟩ := hlt2
      obtain ⟨b, off, rfl, _, f1, wf1⟩ := (HSF.out.below HB2.out).at_ hkl
      have HW := Lib.hid (weiF_take hkl)
      have c0 := f1.c0
      obtain ⟨bo, bc, c1, s1⟩ := f1.c1
      have n1 := wf1.name
      have n2 := s1.lt
      unfold maxLen at n1
      clear s1 f1 wf1
      generalize l[k].name = nm at *
      generalize l[k].data.length = bl at *
      have m1 : min (nm.length : Int) 20001 = ((min nm.length 20001 : Nat) : Int) := by omega
      have m3 : min (bl : Int) 20001 = ((min bl 20001 : Nat) : Int) := by omega
      go_wp2
      go_quiet (fail)
      have HB3 := Lib.hid (HB2.out.trans ((below_drewN wr nq).mono HB2.out.size))
      generalize wr.drewN nq = w2 at *
      go_wp2
      go_roundw
      case rel => exact ⟨k + 1, by omega, by omega, by go_num, by rw [HW.out]; congr 1; omega, HB3⟩
      case measure => simp [intOf]; omega
    · by_cases h300 : 300 < l.length
      · have hk3 : ¬ (k : Int) < 300 := by omega
        have hl3 : (300 : Int) < (l.length : Int) := by omega
        have hkl : (k : Int) < (l.length : Int) := by omega
        clear hw hlt2
        generalize weiF (l.take k) = s at *
        go_wp2_with (go_at_call 10; (with_reducible refine (first_any wr).mono ?_); rintro e w3 ⟨rfl, hb⟩; have HB3 := Lib.hid (HB2.out.trans (hb.mono HB2.out.size)); clear hb)
        go_ret
        exact ⟨rfl, HB3.out⟩
      have hl3 : ¬ (300 : Int) < (l.length : Int) := by omega
      obtain rfl : k = l.length := by omega
      rw [List.take_length]
      clear hw hlt2 hk
      by_cases hwe : 20000 < weiF l
      · have hw3 : (20000 : Int) < (weiF l : Int) := by omega
        go_wp2_with (go_at_call 10; (with_reducible refine (first_any wr).mono ?_); rintro e w3 ⟨rfl, hb⟩; have HB3 := Lib.hid (HB2.out.trans (hb.mono HB2.out.size)); clear hb)
        go_ret
        exact ⟨rfl, HB3.out⟩
      have hw3 : ¬ (20000 : Int) < (weiF l : Int) := by omega
      cases hfm : fewB m with
      | false =>
        have HF := Lib.hid hfm
        clear hfm
        go_wp2_with (first
          | (go_at_call 11; (with_reducible refine (few_any (H.out.below HB2.out)).mono ?_); rw [HF.out]; rintro e w3 ⟨rfl, hb⟩; have HB3 := Lib.hid (HB2.out.trans (hb.mono HB2.out.size)); clear hb)
          | (go_at_call 10; (with_reducible refine (first_any w3).mono ?_); rintro e w4 ⟨rfl, hb⟩; have HB4 := Lib.hid (HB3.out.trans (hb.mono HB3.out.size)); clear hb))
        go_ret
        exact ⟨rfl, HB4.out⟩
      | true =>
      have HF := Lib.hid hfm
      have hsm := few_small hfm H.out.wf
      have hmlen := (few_yes hfm).1
      have HSM := Lib.hid hsm
      have htot : totF l ≤ 4194304 := Nat.le_trans (weiF_tot l (by omega)) (by omega)
      have HTOT := Lib.hid htot
      clear hfm hsm htot
      go_wp2_with (go_at_call 11; (with_reducible refine (few_any (H.out.below HB2.out)).mono ?_); rw [HF.out]; rintro e w3 ⟨rfl, hb⟩; have HB3 := Lib.hid (HB2.out.trans (hb.mono HB2.out.size)); clear hb)
      clear hw3 hwe HB1 HB2
      go_loopw [7, 8] (fun o i wr => ∃ j : Nat, j ≤ l.length ∧ i = .int .i64 j ∧ Hid (∃ us, FO (fun k => w.heap.size ≤ k) wr o us (l.take j)) ∧ Hid (Below w.heap.size w wr)) (fun _ i _ => l.length - (intOf i).toNat)
      case atStart => exact ⟨0, Nat.zero_le _, rfl, ⟨[], FO.nil _ _⟩, HB3⟩
      case round =>
        obtain ⟨j, hj, rfl, HFI, HBW⟩ := hrel
        obtain ⟨us, hfo⟩ := HFI.out
        have hln : (l.take j).length = j := by rw [List.length_take]; omega
        obtain ⟨fo, fc, hfv⟩ := own_slice hfo.own
        rw [hln] at hfv
        subst hfv
        have HFO := Lib.hid hfo
        have HLN := Lib.hid hln
        clear HFI hfo hln
        by_cases hlt3 : j < l.length
        · obtain ⟨b, off, rfl, hbl, f1, wf1⟩ := HSF.out.at_ hlt3
          have HBL := Lib.hid hbl
          have hdl2 : l[j].data.length ≤ 140737488355328 := by
            have h1 := totF_take hlt3
            have h2 := totF_le l (j + 1)
            have h3 := HTOT.out
            omega
          have HT : Hid (l.take (j + 1) = l.take j ++ [l[j]]) := List.take_succ_eq_append_getElem hlt3
          generalize l[j] = p at *
          have HQ0 := Lib.hid f1.c0
          have HQ2 := Lib.hid f1.c2
          obtain ⟨bo, bc, hq1, s1⟩ := f1.c1
          have HQ1 := Lib.hid hq1
          have HBD := Lib.hid (HBW.out.trans ((Below.refl _ wr).drew.mono HBW.out.size))
          have HSB := Lib.hid (s1.below HBD.out)
          clear f1 wf1 hq1 s1 hbl
          go_upto_region 14 with (fail)
          have c0 := (HBD.out.cell (p := ⟨b, off + j * 3, none⟩) HBL.out).trans HQ0.out
          have c1 := (HBD.out.cell (p := ⟨b, off + j * 3 + 1, none⟩) HBL.out).trans HQ1.out
          have c2 := (HBD.out.cell (p := ⟨b, off + j * 3 + 2, none⟩) HBL.out).trans HQ2.out
          refine wp_region_held (S := (fun w' => w'.cell? ⟨b, off + j * 3, none⟩ = some (nmv p.name) ∧ w'.cell? ⟨b, off + j * 3 + 1, none⟩ = some (.slice bo p.data.length bc) ∧ w'.cell? ⟨b, off + j * 3 + 2, none⟩ = some (.int .i64 p.safe))) (by kernel_rfl) ?_
          change wpAnyH _ _ _ _ _ _ _ _ (World.drew _)
          refine wpAnyH_take (i := 0) (v := ?vf_0) rfl (by kernel_rfl) (by kernel_rfl) (by kernel_rfl) (fun _ _ _ h => h) (Or.inl ⟨by rfl, ?yf_0⟩) ⟨c0, c1, c2⟩ ?rf_0
          case yf_0 => (intro W hSw; (try dsimp only at hSw); obtain ⟨_, _, _⟩ := hSw; first | (go_simp; done) | (go_simp; with_reducible rfl))
          try go_simp
          refine wpAnyH_take (i := 1) (v := ?vf_1) rfl (by kernel_rfl) (by kernel_rfl) (by kernel_rfl) (fun _ _ _ h => h) (Or.inl ⟨by rfl, ?yf_1⟩) ⟨c0, c1, c2⟩ ?rf_1
          case yf_1 => (intro W hSw; (try dsimp only at hSw); obtain ⟨_, _, _⟩ := hSw; first | (go_simp; done) | (go_simp; with_reducible rfl))
          try go_simp
          refine wpAnyH_take (i := 2) (v := ?vf_2) rfl (by kernel_rfl) (by kernel_rfl) (by kernel_rfl) (fun _ _ _ h => h) (Or.inl ⟨by rfl, ?yf_2⟩) ⟨c0, c1, c2⟩ ?rf_2
          case yf_2 => (intro W hSw; (try dsimp only at hSw); obtain ⟨_, _, _⟩ := hSw; first | (go_simp; done) | (go_simp; with_reducible rfl))
          try go_simp
          refine wpAnyH_take (i := 3) (v := ?vf_3) rfl (by kernel_rfl) (by kernel_rfl) (by kernel_rfl) (fun _ _ _ h => h) (Or.inl ⟨by rfl, ?yf_3⟩) ⟨c0, c1, c2⟩ ?rf_3
          case yf_3 => (intro W hSw; (try dsimp only at hSw); obtain ⟨_, _, _⟩ := hSw; first | (go_simp; done) | (go_simp; with_reducible rfl))
          try go_simp
          refine wpAnyH_take (i := 4) (v := ?vf_4) rfl (by kernel_rfl) (by kernel_rfl) (by kernel_rfl) (fun _ _ _ h => h) (Or.inl ⟨by rfl, ?yf_4⟩) ⟨c0, c1, c2⟩ ?rf_4
          case yf_4 => (intro W hSw; (try dsimp only at hSw); obtain ⟨_, _, _⟩ := hSw; first | (go_simp; done) | (go_simp; with_reducible rfl))
          try go_simp
          refine wpAnyH_take (i := 5) (v := ?vf_5) rfl (by kernel_rfl) (by kernel_rfl) (by kernel_rfl) (fun _ _ _ h => h) (Or.inl ⟨by rfl, ?yf_5⟩) ⟨c0, c1, c2⟩ ?rf_5
          case yf_5 => (intro W hSw; (try dsimp only at hSw); obtain ⟨_, _, _⟩ := hSw; first | (go_simp; done) | (go_simp; with_reducible rfl))
          try go_simp
          refine wpAnyH_take (i := 6) (v := ?vf_6) rfl (by kernel_rfl) (by kernel_rfl) (by kernel_rfl) (fun _ _ _ h => h) (Or.inl ⟨by rfl, ?yf_6⟩) ⟨c0, c1, c2⟩ ?rf_6
          case yf_6 => (intro W hSw; (try dsimp only at hSw); obtain ⟨_, _, _⟩ := hSw; first | (go_simp; done) | (go_simp; with_reducible rfl))
          try go_simp
          refine wpAnyH_take (i := 7) (v := ?vf_7) rfl (by kernel_rfl) (by kernel_rfl) (by kernel_rfl) (fun _ _ _ h => h) (Or.inl ⟨by rfl, ?yf_7⟩) ⟨c0, c1, c2⟩ ?rf_7
          case yf_7 => (intro W hSw; (try dsimp only at hSw); obtain ⟨_, _, _⟩ := hSw; first | (go_simp; done) | (go_simp; with_reducible rfl))
          try go_simp
          refine wpAnyH_take (i := 8) (v := ?vf_8) rfl (by kernel_rfl) (by kernel_rfl) (by kernel_rfl) (fun _ _ _ h => h) (Or.inl ⟨by rfl, ?yf_8⟩) ⟨c0, c1, c2⟩ ?rf_8
          case yf_8 => (intro W hSw; (try dsimp only at hSw); obtain ⟨_, _, _⟩ := hSw; first | (go_simp; done) | (go_simp; with_reducible rfl))
          try go_simp
          refine wpAnyH_take (i := 9) (v := ?vf_9) rfl (by kernel_rfl) (by kernel_rfl) (by kernel_rfl) (fun _ _ _ h => h) (Or.inl ⟨by rfl, ?yf_9⟩) ⟨c0, c1, c2⟩ ?rf_9
          case yf_9 => (intro W hSw; (try dsimp only at hSw); obtain ⟨_, _, _⟩ := hSw; first | (go_simp; done) | (go_simp; with_reducible rfl))
          try go_simp
          refine wpAnyH_take (i := 10) (v := ?vf_10) rfl (by kernel_rfl) (by kernel_rfl) (by kernel_rfl) (fun _ _ _ h => h) (Or.inl ⟨by rfl, ?yf_10⟩) ⟨c0, c1, c2⟩ ?rf_10
          case yf_10 => (intro W hSw; (try dsimp only at hSw); obtain ⟨_, _, _⟩ := hSw; first | (go_simp; done) | (go_simp; with_reducible rfl))
          try go_simp
          refine wpAnyH_take (i := 12) (v := ?vf_12) rfl (by kernel_rfl) (by kernel_rfl) (by kernel_rfl) (fun _ _ _ h => h) (Or.inl ⟨by rfl, ?yf_12⟩) ⟨c0, c1, c2⟩ ?rf_12
          case yf_12 => (intro W hSw; (try dsimp only at hSw); obtain ⟨_, _, _⟩ := hSw; first | (go_simp; done) | (go_simp; with_reducible rfl))
          try go_simp
          refine wpAnyH_take (i := 13) (v := ?vf_13) rfl (by kernel_rfl) (by kernel_rfl) (by kernel_rfl) (fun _ _ _ h => h) (Or.inl ⟨by rfl, ?yf_13⟩) ⟨c0, c1, c2⟩ ?rf_13
          case yf_13 => (intro W hSw; (try dsimp only at hSw); obtain ⟨_, _, _⟩ := hSw; first | (go_simp; done) | (go_simp; with_reducible rfl))
          try go_simp
          refine wpAnyH_take (i := 14) (v := ?vf_14) rfl (by kernel_rfl) (by kernel_rfl) (by kernel_rfl) (fun _ _ _ h => h) (Or.inl ⟨by rfl, ?yf_14⟩) ⟨c0, c1, c2⟩ ?rf_14
          case yf_14 => (intro W hSw; (try dsimp only at hSw); obtain ⟨_, _, _⟩ := hSw; first | (go_simp; done) | (go_simp; with_reducible rfl))
          try go_simp
          refine wpAnyH_take (i := 15) (v := ?vf_15) rfl (by kernel_rfl) (by kernel_rfl) (by kernel_rfl) (fun _ _ _ h => h) (Or.inl ⟨by rfl, ?yf_15⟩) ⟨c0, c1, c2⟩ ?rf_15
          case yf_15 => (intro W hSw; (try dsimp only at hSw); obtain ⟨_, _, _⟩ := hSw; first | (go_simp; done) | (go_simp; with_reducible rfl))
          try go_simp
          refine wpAnyH_take (i := 16) (v := ?vf_16) rfl (by kernel_rfl) (by kernel_rfl) (by kernel_rfl) (fun _ _ _ h => h) (Or.inl ⟨by rfl, ?yf_16⟩) ⟨c0, c1, c2⟩ ?rf_16
          case yf_16 => (intro W hSw; (try dsimp only at hSw); obtain ⟨_, _, _⟩ := hSw; first | (go_simp; done) | (go_simp; with_reducible rfl))
          try go_simp
          refine wpAnyH_ready (rs := [11]) (by kernel_rfl) (by simp) ?_
          refine AllReadyH.cons rfl (fun K hK => ?_) AllReadyH.nil
          go_simp
          (go_wp2_with (first | (go_at_call 19; (refine (copyBytes_any HSB.out hdl2).mono ?_); rintro e w4 ⟨co, cc, rfl, ho, hb⟩; have HO4 := Lib.hid ho; have HBC := Lib.hid hb; have HB4 := Lib.hid (HBD.out.trans (hb.mono HBD.out.size)); have p0 := (HB4.out.cell (p := ⟨b, off + j * 3, none⟩) HBL.out).trans HQ0.out; have p1 := (HB4.out.cell (p := ⟨b, off + j * 3 + 1, none⟩) HBL.out).trans HQ1.out; have p2 := (HB4.out.cell (p := ⟨b, off + j * 3 + 2, none⟩) HBL.out).trans HQ2.out; clear ho hb)))
          refine hK.out _ _ ⟨p0, p1, p2⟩ (fun _ => ?_)
          clear hK K
          try go_simp
          refine wpAnyH_take (i := 17) (v := ?vf_17) rfl (by kernel_rfl) (by kernel_rfl) (by kernel_rfl) (fun _ _ _ h => h) (Or.inl ⟨by rfl, ?yf_17⟩) ⟨p0, p1, p2⟩ ?rf_17
          case yf_17 => (intro W hSw; (try dsimp only at hSw); obtain ⟨_, _, _⟩ := hSw; first | (go_simp; done) | (go_simp; with_reducible rfl))
          try go_simp
          have HB5 := Lib.hid (HB4.out.trans ((below1 w4 (.cells #[nmv p.name, .slice co p.data.length cc, .int .i64 p.safe] 43)).mono HB4.out.size))
          have q0 := (HB5.out.cell (p := ⟨b, off + j * 3, none⟩) HBL.out).trans HQ0.out
          have q1 := (HB5.out.cell (p := ⟨b, off + j * 3 + 1, none⟩) HBL.out).trans HQ1.out
          have q2 := (HB5.out.cell (p := ⟨b, off + j * 3 + 2, none⟩) HBL.out).trans HQ2.out
          refine wpAnyH_ready (rs := [18]) (by kernel_rfl) (by simp) ?_
          refine AllReadyH.cons rfl (fun K hK => ?_) AllReadyH.nil
          go_simp
          refine hK.out _ _ ⟨q0, q1, q2⟩ (fun _ => ?_)
          clear hK K
          try go_simp
          refine wpAnyH_ready (rs := [19]) (by kernel_rfl) (by simp) ?_
          refine AllReadyH.cons rfl (fun K hK => ?_) AllReadyH.nil
          have HBE := Lib.hid ((Below.refl _ wr).drew.trans (HBC.out.trans ((below1 w4 (.cells #[nmv p.name, .slice co p.data.length cc, .int .i64 p.safe] 43)).mono HBC.out.size)))
          have hfo3 := HFO.out.below HBE.out
          have hu3 := own_below HO4.out (below1 w4 (.cells #[nmv p.name, .slice co p.data.length cc, .int .i64 p.safe] 43))
          refine oper_append_file (wanted_none rfl _) (.tmp 64) (.tmp 82) rfl rfl (u := (p.name, .slice co p.data.length cc, p.safe)) (by have h9 := hfo3.own; rw [HLN.out] at h9; exact h9) rfl (heap_alloc_new w4 _) rfl (by omega) ?_
          intro v3 w6 ho3 hg3 hl3
          have hg4 : (w4.alloc (.cells #[nmv p.name, .slice co p.data.length cc, .int .i64 p.safe] 43)).grownBy w6 (Value.slice fo j fc).ownBlock := hg3
          have hl4 : v3.ownBlock = (Value.slice fo j fc).ownBlock ∨ v3.ownBlock = some (w4.alloc (.cells #[nmv p.name, .slice co p.data.length cc, .int .i64 p.safe] 43)).heap.size := hl3
          have hz3 : w.heap.size ≤ (w4.alloc (.cells #[nmv p.name, .slice co p.data.length cc, .int .i64 p.safe] 43)).heap.size := HB5.out.size
          have hfo4 := hfo3.snoc (q := p) (u := .slice co p.data.length cc) hg4 (by rw [HLN.out]; exact ho3) hl4 (own_mono hu3 (Nat.zero_le _)) (fun k hk => Nat.le_trans HBD.out.size (HO4.out.lt k hk).1) hz3
          have HB6 := Lib.hid (HB5.out.grown hg4 hz3 (fun k hk => hfo3.row k hk))
          have r0 := (HB6.out.cell (p := ⟨b, off + j * 3, none⟩) HBL.out).trans HQ0.out
          have r1 := (HB6.out.cell (p := ⟨b, off + j * 3 + 1, none⟩) HBL.out).trans HQ1.out
          have r2 := (HB6.out.cell (p := ⟨b, off + j * 3 + 2, none⟩) HBL.out).trans HQ2.out
          have HFO4 := Lib.hid hfo4
          obtain ⟨o3, c3, rfl⟩ := own_slice ho3
          clear hfo4 hfo3 hu3 ho3 hg3 hg4 hl3 hl4 hz3 q0 q1 q2 p0 p1 p2 c0 c1 c2
          try go_simp
          refine hK.out _ _ ⟨r0, r1, r2⟩ (fun _ => ?_)
          clear hK K
          try go_simp
          refine wpAnyH_take (i := 20) (v := ?vf_20) rfl (by kernel_rfl) (by kernel_rfl) (by kernel_rfl) (fun _ _ _ h => h) (Or.inl ⟨by rfl, ?yf_20⟩) ⟨r0, r1, r2⟩ ?rf_20
          case yf_20 => (intro W hSw; (try dsimp only at hSw); obtain ⟨_, _, _⟩ := hSw; first | (go_simp; done) | (go_simp; with_reducible rfl))
          try go_simp
          refine wpAnyH_done (by kernel_rfl) ?_ _
          try go_wp2
          go_roundw
          case rel => exact ⟨j + 1, by omega, by go_num, ⟨_, by rw [HT.out]; exact HFO4.out⟩, HB6⟩
          case measure => simp [intOf]; omega
        · obtain rfl : j = l.length := by omega
          rw [List.take_length] at HFO
          have HFI := Lib.hid (HFO.out.mono (D := fun k => w.heap.size ≤ k ∧ k < wr.heap.size) (fun k hk h => ⟨h, hk⟩))
          obtain ⟨fo2, fc2, hfe, hsfi⟩ := HFO.out.sf HSF.out.wf
          injection hfe with e1 e2 e3
          subst e1; subst e3
          have HSFI := Lib.hid hsfi
          have HBZ := HBW
          obtain ⟨er, hck⟩ := chk_ex l
          have HCK := Lib.hid hck
          clear HFO hsfi hck e2 HLN
          by_cases her : er = 0
          · subst her
            go_wp2_with (first
              | (go_at_call 20; (refine (load_any HSFI.out (by omega) HTOT.out).mono ?_); rintro e w5 ⟨hres, hb⟩; obtain ⟨a, rfl, hone⟩ := loads_ok hres HCK.out; have HONE := Lib.hid hone; have HBL5 := Lib.hid hb; have HB5 := Lib.hid (HBW.out.trans (hb.mono HBW.out.size)); have HSFI5 := Lib.hid (HSFI.out.below hb); clear hres hb hone)
              | (go_at_call 21; (refine (rload_any (HSF.out.below HB5.out) (by omega) HTOT.out).mono ?_); rintro e w6 ⟨hres, hb⟩; obtain ⟨c, rfl, C, hcw, hrk⟩ := loads_ok hres HCK.out; have HRK := Lib.hid hrk; have HCW := Lib.hid hcw; have HBL6 := Lib.hid hb; have HB6 := Lib.hid (HB5.out.trans (hb.mono HB5.out.size)); have HSFI6 := Lib.hid (HSFI5.out.below hb); clear hres hb hrk hcw)
              | (go_at_call 22; (refine (same_any HSFI6.out (HSF.out.below HB6.out)).mono ?_); rintro e w7 ⟨rfl, qz, hq⟩; rw [sameF_self]; have HB67 := Lib.hid (below_of_drew hq); have HB7 := Lib.hid (HB6.out.trans ((below_of_drew hq).mono HB6.out.size)); clear hq))
            obtain ⟨Sx, hsx, hdk⟩ := HONE.out
            have h2 : Two wr.heap.size w6 a Sx ⟨ents l, false, 0, 0⟩ c C ⟨ents l, false, 0, 0⟩ := ⟨hdk.below HBL6.out, HRK.out, hsx, fun k hk => Nat.le_trans HBL5.out.size (HCW.out k hk), fun k hk e => by have := hdk.lt k hk; have := HCW.out k e; omega⟩
            have HTW := Lib.hid (h2.below HB67.out)
            have HWR : Hid (Wr (fun k => w.heap.size ≤ k ∧ k < wr.heap.size) w7 fo (l)) := fo_wr (((HFI.out.below HBL5.out).below HBL6.out).below HB67.out) (fun k hk => hk)
            have HWZ : Hid (w.heap.size ≤ wr.heap.size) := HBZ.out.size
            clear h2 hsx hdk HONE HRK HCW HSFI HSFI5 HSFI6 HBL5 HBL6 HB67 HB5 HB6 HFI HBW
            generalize wr.heap.size = z at *
            go_loopw [13, 14] (fun i _ wr => ∃ k : Nat, k ≤ l.length ∧ i = .int .i64 k ∧ Hid (Wr (fun k => w.heap.size ≤ k ∧ k < z) wr fo l) ∧ Hid (Tn (fun k => w.heap.size ≤ k ∧ k < z) w7 wr)) (fun i _ _ => l.length - (intOf i).toNat)
            case atStart => exact ⟨0, Nat.zero_le _, rfl, HWR, Tn.refl _ _⟩
            case round =>
              obtain ⟨k, hk, rfl, HW, HTx⟩ := hrel
              by_cases hlt4 : k < l.length
              · obtain ⟨g, _, _, _, hfo, _, _, _⟩ := HW.out k hlt4
                subst hfo
                obtain ⟨L, hL⟩ : ∃ L, l[k].data.length = L := ⟨_, rfl⟩
                have HL := Lib.hid hL
                have hL4 : L ≤ 4194304 := by
                  have h1 := totF_take hlt4
                  have h2 := totF_le l (k + 1)
                  have h3 := HTOT.out
                  omega
                obtain ⟨wo, rfl⟩ : ∃ wo, wo = wr := ⟨_, rfl⟩
                clear hL
                go_wp2
                go_loopw [14] (fun j wi => ∃ m : Nat, m ≤ L ∧ j = .int .i64 m ∧ Hid (Wr (fun k => w.heap.size ≤ k ∧ k < z) wi (some (⟨g, 0, none⟩ : Addr)) l) ∧ Hid (Tn (fun k => w.heap.size ≤ k ∧ k < z) w7 wi)) (fun j _ => L - (intOf j).toNat)
                case atStart => exact ⟨0, Nat.zero_le _, rfl, HW, HTx⟩
                case round =>
                  obtain ⟨m, hm, rfl, HWi, HTi⟩ := hrel
                  obtain ⟨g', bo, bc, oc, hgg, h2, h3, h4⟩ := HWi.out k hlt4
                  injection hgg with hgg
                  injection hgg with hgg
                  subst hgg
                  rw [HL.out] at h2 h4
                  by_cases hml : m < L
                  · obtain ⟨b, u, cur, rfl, hlo, hb, hc⟩ := h4 m hml
                    have fz := frozen_zero (o := m) hb
                    have HW2 := Lib.hid (HWi.out.set (o := m) hb (.int .u8 88))
                    have HT2 := Lib.hid (HTi.out.setCell (p := ⟨b, m, none⟩) (fun _ => hlo) (.int .u8 88))
                    clear h3 h4 hlo hb
                    go_wp2
                    go_roundw
                    case rel => exact ⟨m + 1, by omega, by go_num, HW2, HT2⟩
                    case measure => simp [intOf]; omega
                  · clear h3 h4
                    go_wp2
                    go_roundw
                    case rel => exact ⟨k + 1, by omega, by go_num, HWi, HTi⟩
                    case measure => simp [intOf]; omega
              · have HTT := Lib.hid (HTW.out.tn HTx.out (fun k hk => hk.2))
                have HBy := Lib.hid (HB7.out.trans (HTx.out.below HB7.out.size (fun k hk => hk.1)))
                clear HW HTx HTW HWR HB7
                go_wp2_with (go_at_call 15; (refine (same_disks HTT.out.dk HTT.out.rk).mono ?_); rintro e w8 ⟨rfl, hb⟩; have HT8 := Lib.hid (HTT.out.below hb); have HB8 := Lib.hid (HBy.out.trans (hb.mono HBy.out.size)); clear hb)
                go_loopw [15] (fun i wr => ∃ k : Nat, k ≤ m.length ∧ i = .int .i64 k ∧ Hid (∃ S C, Two z wr a S ((⟨ents l, false, 0, 0⟩ : Dk).run (m.take k)) c C ((⟨ents l, false, 0, 0⟩ : Dk).run (m.take k))) ∧ Hid (Below w.heap.size w wr)) (fun i _ => m.length - (intOf i).toNat)
                case atStart => exact ⟨0, Nat.zero_le _, rfl, ⟨_, _, HT8.out⟩, HB8⟩
                case round =>
                  obtain ⟨k, hk, rfl, HD, HBW⟩ := hrel
                  by_cases hlt5 : k < m.length
                  · obtain ⟨b, off, rfl, hbw, ho, _⟩ := H.out.at_ hlt5
                    have hsk := HSM.out _ (List.getElem_mem hlt5)
                    have HRT := Lib.hid (run_take (⟨ents l, false, 0, 0⟩ : Dk) m hlt5)
                    have HDN : Hid (((⟨ents l, false, 0, 0⟩ : Dk).run (m.take k)).done < 9223372036854775807) := by
                      have h1 := done_run (⟨ents l, false, 0, 0⟩ : Dk) (m.take k)
                      rw [List.length_take] at h1
                      have h2 : ((⟨ents l, false, 0, 0⟩ : Dk).run (m.take k)).done ≤ 300 := by simp only at h1; omega
                      exact Nat.lt_of_le_of_lt h2 (by decide)
                    obtain ⟨S, C, hkk⟩ := HD.out
                    generalize hx : (⟨ents l, false, 0, 0⟩ : Dk).run (m.take k) = x at *
                    generalize hp : m[k] = p at *
                    have HQ0 := Lib.hid ho.c0
                    have HQ1 := Lib.hid ho.c1
                    have HQ2 := Lib.hid ho.c2
                    have HQ3 := Lib.hid ho.c3
                    obtain ⟨a4, k4, hq4, s4⟩ := ho.c4
                    obtain ⟨a5, k5, hq5, s5⟩ := ho.c5
                    have HQ4 := Lib.hid hq4
                    have HQ5 := Lib.hid hq5
                    have HS4 := Lib.hid s4
                    have HS5 := Lib.hid s5
                    have HSK := Lib.hid hsk
                    have HTU := Lib.hid hkk
                    have HSW : Hid (∀ j, S j → w.heap.size ≤ j) := fun j hj => Nat.le_trans HWZ.out (hkk.sb j hj)
                    have HEW : Hid (∀ j, C j → w.heap.size ≤ j) := fun j hj => Nat.le_trans HWZ.out (hkk.cb j hj)
                    have HCA : Hid (∀ k, (fun k => k < w.heap.size) k → ¬ S k) := fun j hj e => Nat.not_lt.2 (HSW.out j e) hj
                    have HCE : Hid (∀ k, (fun k => k < w.heap.size) k → ¬ C k) := fun j hj e => Nat.not_lt.2 (HEW.out j e) hj
                    have HWS : Hid (z ≤ wr.heap.size) := by have h1 := hkk.sb _ hkk.dk.sa; have h2 := hkk.dk.lt _ hkk.dk.sa; show _ ≤ _; omega
                    have HBL := Lib.hid hbw
                    have HDR := Lib.hid (Below.refl wr.heap.size wr).drew
                    have HBD := Lib.hid (HBW.out.trans ((Below.refl _ wr).drew.mono HBW.out.size))
                    clear ho hsk hkk HD hbw hx hp hq4 hq5 s4 s5
                    go_upto_region 33 with (fail)
                    have c0 := (HBD.out.cell (p := ⟨b, off + k * 6, none⟩) HBL.out).trans HQ0.out
                    have c1 := (HBD.out.cell (p := ⟨b, off + k * 6 + 1, none⟩) HBL.out).trans HQ1.out
                    have c2 := (HBD.out.cell (p := ⟨b, off + k * 6 + 2, none⟩) HBL.out).trans HQ2.out
                    have c3 := (HBD.out.cell (p := ⟨b, off + k * 6 + 3, none⟩) HBL.out).trans HQ3.out
                    have c4 := (HBD.out.cell (p := ⟨b, off + k * 6 + 4, none⟩) HBL.out).trans HQ4.out
                    have c5 := (HBD.out.cell (p := ⟨b, off + k * 6 + 5, none⟩) HBL.out).trans HQ5.out
                    refine wp_region_held (S := (fun w' => w'.cell? ⟨b, off + k * 6, none⟩ = some (.int .i64 p.kind) ∧ w'.cell? ⟨b, off + k * 6 + 1, none⟩ = some (.int .i64 p.n) ∧ w'.cell? ⟨b, off + k * 6 + 2, none⟩ = some (nmv p.name) ∧ w'.cell? ⟨b, off + k * 6 + 3, none⟩ = some (nmv p.to) ∧ w'.cell? ⟨b, off + k * 6 + 4, none⟩ = some (.slice a4 p.b.length k4) ∧ w'.cell? ⟨b, off + k * 6 + 5, none⟩ = some (.slice a5 p.picks.length k5))) (by kernel_rfl) ?_
                    change wpAnyH _ _ _ _ _ _ _ _ (World.drew _)
                    refine wpAnyH_take (i := 0) (v := ?vg_0) rfl (by kernel_rfl) (by kernel_rfl) (by kernel_rfl) (fun _ _ _ h => h) (Or.inl ⟨by rfl, ?yg_0⟩) ⟨c0, c1, c2, c3, c4, c5⟩ ?rg_0
                    case yg_0 => (intro W hSw; (try dsimp only at hSw); obtain ⟨_, _, _, _, _, _⟩ := hSw; first | (go_simp; done) | (go_simp; with_reducible rfl))
                    try go_simp
                    refine wpAnyH_take (i := 1) (v := ?vg_1) rfl (by kernel_rfl) (by kernel_rfl) (by kernel_rfl) (fun _ _ _ h => h) (Or.inl ⟨by rfl, ?yg_1⟩) ⟨c0, c1, c2, c3, c4, c5⟩ ?rg_1
                    case yg_1 => (intro W hSw; (try dsimp only at hSw); obtain ⟨_, _, _, _, _, _⟩ := hSw; first | (go_simp; done) | (go_simp; with_reducible rfl))
                    try go_simp
                    refine wpAnyH_take (i := 2) (v := ?vg_2) rfl (by kernel_rfl) (by kernel_rfl) (by kernel_rfl) (fun _ _ _ h => h) (Or.inl ⟨by rfl, ?yg_2⟩) ⟨c0, c1, c2, c3, c4, c5⟩ ?rg_2
                    case yg_2 => (intro W hSw; (try dsimp only at hSw); obtain ⟨_, _, _, _, _, _⟩ := hSw; first | (go_simp; done) | (go_simp; with_reducible rfl))
                    try go_simp
                    refine wpAnyH_take (i := 3) (v := ?vg_3) rfl (by kernel_rfl) (by kernel_rfl) (by kernel_rfl) (fun _ _ _ h => h) (Or.inl ⟨by rfl, ?yg_3⟩) ⟨c0, c1, c2, c3, c4, c5⟩ ?rg_3
                    case yg_3 => (intro W hSw; (try dsimp only at hSw); obtain ⟨_, _, _, _, _, _⟩ := hSw; first | (go_simp; done) | (go_simp; with_reducible rfl))
                    try go_simp
                    refine wpAnyH_take (i := 4) (v := ?vg_4) rfl (by kernel_rfl) (by kernel_rfl) (by kernel_rfl) (fun _ _ _ h => h) (Or.inl ⟨by rfl, ?yg_4⟩) ⟨c0, c1, c2, c3, c4, c5⟩ ?rg_4
                    case yg_4 => (intro W hSw; (try dsimp only at hSw); obtain ⟨_, _, _, _, _, _⟩ := hSw; first | (go_simp; done) | (go_simp; with_reducible rfl))
                    try go_simp
                    refine wpAnyH_take (i := 6) (v := ?vg_6) rfl (by kernel_rfl) (by kernel_rfl) (by kernel_rfl) (fun _ _ _ h => h) (Or.inl ⟨by rfl, ?yg_6⟩) ⟨c0, c1, c2, c3, c4, c5⟩ ?rg_6
                    case yg_6 => (intro W hSw; (try dsimp only at hSw); obtain ⟨_, _, _, _, _, _⟩ := hSw; first | (go_simp; done) | (go_simp; with_reducible rfl))
                    try go_simp
                    refine wpAnyH_take (i := 7) (v := ?vg_7) rfl (by kernel_rfl) (by kernel_rfl) (by kernel_rfl) (fun _ _ _ h => h) (Or.inl ⟨by rfl, ?yg_7⟩) ⟨c0, c1, c2, c3, c4, c5⟩ ?rg_7
                    case yg_7 => (intro W hSw; (try dsimp only at hSw); obtain ⟨_, _, _, _, _, _⟩ := hSw; first | (go_simp; done) | (go_simp; with_reducible rfl))
                    try go_simp
                    refine wpAnyH_take (i := 8) (v := ?vg_8) rfl (by kernel_rfl) (by kernel_rfl) (by kernel_rfl) (fun _ _ _ h => h) (Or.inl ⟨by rfl, ?yg_8⟩) ⟨c0, c1, c2, c3, c4, c5⟩ ?rg_8
                    case yg_8 => (intro W hSw; (try dsimp only at hSw); obtain ⟨_, _, _, _, _, _⟩ := hSw; first | (go_simp; done) | (go_simp; with_reducible rfl))
                    try go_simp
                    refine wpAnyH_take (i := 9) (v := ?vg_9) rfl (by kernel_rfl) (by kernel_rfl) (by kernel_rfl) (fun _ _ _ h => h) (Or.inl ⟨by rfl, ?yg_9⟩) ⟨c0, c1, c2, c3, c4, c5⟩ ?rg_9
                    case yg_9 => (intro W hSw; (try dsimp only at hSw); obtain ⟨_, _, _, _, _, _⟩ := hSw; first | (go_simp; done) | (go_simp; with_reducible rfl))
                    try go_simp
                    refine wpAnyH_take (i := 10) (v := ?vg_10) rfl (by kernel_rfl) (by kernel_rfl) (by kernel_rfl) (fun _ _ _ h => h) (Or.inl ⟨by rfl, ?yg_10⟩) ⟨c0, c1, c2, c3, c4, c5⟩ ?rg_10
                    case yg_10 => (intro W hSw; (try dsimp only at hSw); obtain ⟨_, _, _, _, _, _⟩ := hSw; first | (go_simp; done) | (go_simp; with_reducible rfl))
                    try go_simp
                    refine wpAnyH_ready (rs := [5]) (by kernel_rfl) (by simp) ?_
                    refine AllReadyH.cons rfl (fun K hK => ?_) AllReadyH.nil
                    go_simp
                    (go_wp2_with (first | (go_at_call 13; (refine (does_any (HTU.out.below HDR.out).dk HSK.out (HS4.out.below HBD.out) (HS5.out.below HBD.out) HCA.out HDN.out).mono ?_); rintro e w15 ⟨rfl, hd, ht⟩; have HT5 := Lib.hid ((HTU.out.below HDR.out).ta (Nat.le_trans HWS.out HDR.out.size) hd ht); have HB15 := Lib.hid (HBD.out.trans (ht.below HBD.out.size HSW.out)); have HWS5 := Lib.hid (Nat.le_trans HWS.out ht.size); have h0 := (HB15.out.cell (p := ⟨b, off + k * 6, none⟩) HBL.out).trans HQ0.out; have h1 := (HB15.out.cell (p := ⟨b, off + k * 6 + 1, none⟩) HBL.out).trans HQ1.out; have h2 := (HB15.out.cell (p := ⟨b, off + k * 6 + 2, none⟩) HBL.out).trans HQ2.out; have h3 := (HB15.out.cell (p := ⟨b, off + k * 6 + 3, none⟩) HBL.out).trans HQ3.out; have h4 := (HB15.out.cell (p := ⟨b, off + k * 6 + 4, none⟩) HBL.out).trans HQ4.out; have h5 := (HB15.out.cell (p := ⟨b, off + k * 6 + 5, none⟩) HBL.out).trans HQ5.out; clear hd ht)))
                    refine hK.out _ _ ⟨h0, h1, h2, h3, h4, h5⟩ (fun _ => ?_)
                    clear hK K
                    try go_simp
                    refine wpAnyH_ready (rs := [11]) (by kernel_rfl) (by simp) ?_
                    refine AllReadyH.cons rfl (fun K hK => ?_) AllReadyH.nil
                    go_simp
                    (go_wp2_with (first | (go_at_call 14; (refine (model_any HT5.out.rk HSK.out (HS4.out.below HB15.out) (HS5.out.below HB15.out) HCE.out HDN.out).mono ?_); rintro e w16 ⟨rfl, hd, ht⟩; have HT6 := Lib.hid (HT5.out.tb HWS5.out hd ht); have HB16 := Lib.hid (HB15.out.trans (ht.below HB15.out.size HEW.out)); have hne : ((((x.step p).2 : Nat) : Int) != (((x.step p).2 : Nat) : Int)) = false := bne_self_eq_false' _; have g0 := (HB16.out.cell (p := ⟨b, off + k * 6, none⟩) HBL.out).trans HQ0.out; have g1 := (HB16.out.cell (p := ⟨b, off + k * 6 + 1, none⟩) HBL.out).trans HQ1.out; have g2 := (HB16.out.cell (p := ⟨b, off + k * 6 + 2, none⟩) HBL.out).trans HQ2.out; have g3 := (HB16.out.cell (p := ⟨b, off + k * 6 + 3, none⟩) HBL.out).trans HQ3.out; have g4 := (HB16.out.cell (p := ⟨b, off + k * 6 + 4, none⟩) HBL.out).trans HQ4.out; have g5 := (HB16.out.cell (p := ⟨b, off + k * 6 + 5, none⟩) HBL.out).trans HQ5.out; clear hd ht)))
                    refine hK.out _ _ ⟨g0, g1, g2, g3, g4, g5⟩ (fun _ => ?_)
                    clear hK K
                    try go_simp
                    refine wpAnyH_take (i := 12) (v := ?vg_12) rfl (by kernel_rfl) (by kernel_rfl) (by kernel_rfl) (fun _ _ _ h => h) (Or.inl ⟨by rfl, ?yg_12⟩) ⟨g0, g1, g2, g3, g4, g5⟩ ?rg_12
                    case yg_12 => (intro W hSw; (try dsimp only at hSw); obtain ⟨_, _, _, _, _, _⟩ := hSw; first | (go_simp; done) | (go_simp; with_reducible rfl))
                    try go_simp
                    refine wpAnyH_take (i := 13) (v := ?vg_13) rfl (by kernel_rfl) (by kernel_rfl) (by kernel_rfl) (fun _ _ _ h => h) (Or.inl ⟨by rfl, ?yg_13⟩) ⟨g0, g1, g2, g3, g4, g5⟩ ?rg_13
                    case yg_13 => (intro W hSw; (try dsimp only at hSw); obtain ⟨_, _, _, _, _, _⟩ := hSw; first | (go_simp; done) | (go_simp; with_reducible rfl))
                    try go_simp
                    refine wpAnyH_take (i := 14) (v := ?vg_14) rfl (by kernel_rfl) (by kernel_rfl) (by kernel_rfl) (fun _ _ _ h => h) (Or.inl ⟨by rfl, ?yg_14⟩) ⟨g0, g1, g2, g3, g4, g5⟩ ?rg_14
                    case yg_14 => (intro W hSw; (try dsimp only at hSw); obtain ⟨_, _, _, _, _, _⟩ := hSw; first | (go_simp; done) | (go_simp; with_reducible rfl))
                    try go_simp
                    refine wpAnyH_take (i := 15) (v := ?vg_15) rfl (by kernel_rfl) (by kernel_rfl) (by kernel_rfl) (fun _ _ _ h => h) (Or.inl ⟨by rfl, ?yg_15⟩) ⟨g0, g1, g2, g3, g4, g5⟩ ?rg_15
                    case yg_15 => (intro W hSw; (try dsimp only at hSw); obtain ⟨_, _, _, _, _, _⟩ := hSw; first | (go_simp; done) | (go_simp; with_reducible rfl))
                    try go_simp
                    refine wpAnyH_ready (rs := [16]) (by kernel_rfl) (by simp) ?_
                    refine AllReadyH.cons rfl (fun K hK => ?_) AllReadyH.nil
                    go_simp
                    (go_wp2_with (first | (go_at_call 15; (refine (same_disks HT6.out.dk HT6.out.rk).mono ?_); rintro e w17 ⟨rfl, hb⟩; have HT7 := Lib.hid (HT6.out.below hb); have HB17 := Lib.hid (HB16.out.trans (hb.mono HB16.out.size)); have j0 := (HB17.out.cell (p := ⟨b, off + k * 6, none⟩) HBL.out).trans HQ0.out; have j1 := (HB17.out.cell (p := ⟨b, off + k * 6 + 1, none⟩) HBL.out).trans HQ1.out; have j2 := (HB17.out.cell (p := ⟨b, off + k * 6 + 2, none⟩) HBL.out).trans HQ2.out; have j3 := (HB17.out.cell (p := ⟨b, off + k * 6 + 3, none⟩) HBL.out).trans HQ3.out; have j4 := (HB17.out.cell (p := ⟨b, off + k * 6 + 4, none⟩) HBL.out).trans HQ4.out; have j5 := (HB17.out.cell (p := ⟨b, off + k * 6 + 5, none⟩) HBL.out).trans HQ5.out; clear hb)))
                    refine hK.out _ _ ⟨j0, j1, j2, j3, j4, j5⟩ (fun _ => ?_)
                    clear hK K
                    try go_simp
                    refine wpAnyH_take (i := 17) (v := ?vg_17) rfl (by kernel_rfl) (by kernel_rfl) (by kernel_rfl) (fun _ _ _ h => h) (Or.inl ⟨by rfl, ?yg_17⟩) ⟨j0, j1, j2, j3, j4, j5⟩ ?rg_17
                    case yg_17 => (intro W hSw; (try dsimp only at hSw); obtain ⟨_, _, _, _, _, _⟩ := hSw; first | (go_simp; done) | (go_simp; with_reducible rfl))
                    try go_simp
                    refine wpAnyH_take (i := 18) (v := ?vg_18) rfl (by kernel_rfl) (by kernel_rfl) (by kernel_rfl) (fun _ _ _ h => h) (Or.inl ⟨by rfl, ?yg_18⟩) ⟨j0, j1, j2, j3, j4, j5⟩ ?rg_18
                    case yg_18 => (intro W hSw; (try dsimp only at hSw); obtain ⟨_, _, _, _, _, _⟩ := hSw; first | (go_simp; done) | (go_simp; with_reducible rfl))
                    try go_simp
                    refine wpAnyH_done (by kernel_rfl) ?_ _
                    generalize (x.step p).1 = y at *
                    clear j0 j1 j2 j3 j4 j5
                    try go_wp2
                    go_roundw
                    case rel => exact ⟨k + 1, by omega, by go_num, by rw [HRT.out]; exact ⟨_, _, HT7.out⟩, HB17⟩
                    case measure => simp [intOf]; omega
                  · obtain rfl : k = m.length := by omega
                    clear HD
                    go_wp2_with (go_at_call 10; (refine (first_any wr).mono ?_); rintro e w14 ⟨rfl, hb⟩; have HB14 := Lib.hid (HBW.out.trans (hb.mono HBW.out.size)); clear hb)
                    go_ret
                    exact ⟨rfl, HB14.out⟩
          · have her2 : ((er : Int) == 0) = false := by simpa using her
            go_wp2_with (first
              | (go_at_call 20; (refine (load_any HSFI.out (by omega) HTOT.out).mono ?_); rintro e w5 ⟨hres, hb⟩; obtain rfl := loads_bad hres HCK.out her; have HB5 := Lib.hid (HBW.out.trans (hb.mono HBW.out.size)); have HSFI5 := Lib.hid (HSFI.out.below hb); clear hres hb)
              | (go_at_call 21; (refine (rload_any (HSF.out.below HB5.out) (by omega) HTOT.out).mono ?_); rintro e w6 ⟨hres, hb⟩; obtain rfl := loads_bad hres HCK.out her; have HB6 := Lib.hid (HB5.out.trans (hb.mono HB5.out.size)); have HSFI6 := Lib.hid (HSFI5.out.below hb); have hne := bne_self_eq_false' (er : Int); clear hres hb)
              | (go_at_call 22; (refine (same_any HSFI6.out (HSF.out.below HB6.out)).mono ?_); rintro e w7 ⟨rfl, qz, hq⟩; rw [sameF_self]; have HB67 := Lib.hid (below_of_drew hq); have HB7 := Lib.hid (HB6.out.trans ((below_of_drew hq).mono HB6.out.size)); clear hq)
              | (go_at_call 10; (with_reducible refine (first_any w7).mono ?_); rintro e w8 ⟨rfl, hb⟩; have HB8 := Lib.hid (HB7.out.trans (hb.mono HB7.out.size)); clear hb))
            go_ret
            exact ⟨rfl, HB8.out⟩

set_option maxRecDepth 100000 in
theorem diskLoads_lifted (os : Os) (started : os.Started) (H : Type) (enc : TypeId × Value → H) :
    ReturnsInHanded {} Try.checked os 4 .any (Rows.diskLoadsSpec.pre6 enc Try.prog Try.f4 [] false) (Rows.diskLoadsSpec.post enc Try.prog Try.f4 false true false false) := by
  refine returnsInHanded_of_change (C := Try.checked) own started (by kernel_rfl) Try.func4
    (ChangeSpec.witness6 (enc := enc) (C := Try.checked) false ⟨#[], #[.slice none 0 0, .slice none 0 0], []⟩ 8 (by kernel_rfl) (by kernel_rfl) (by kernel_rfl) (by kernel_rfl)) ?_
  intro W base args ds gs before hval0 hW _ _
  have hval : ∀ (j : Nat) t v, Try.f4.params[j]? = some t → args[j]? = some v → Value.okWide Try.prog W .any base t v := hval0
  have hW' := hW
  obtain ⟨p, q, hA0, hV, rfl, hfz, hnd⟩ := hW
  have hA : DataW.TrodAll enc Try.prog W 0 (fun _ => true) true Try.f4.params.toList args.toList ds p := hA0
  rw [Try.params4] at hA hval
  obtain ⟨v0, v1, d0, d1, p0, p1, rfl, rfl, rfl, h0, h1⟩ := trodAll_two hA
  obtain ⟨b0, len0, cap0, rfl⟩ := okWide_slice Try.underlying28 (hval 0 28 v0 rfl rfl)
  have k0 := h0
  obtain ⟨fuel0, g0⟩ := h0
  obtain ⟨b1, len1, cap1, rfl⟩ := okWide_slice Try.underlying22 (hval 1 22 v1 rfl rfl)
  have k1 := h1
  obtain ⟨fuel1, g1⟩ := h1
  obtain ⟨rfl, rfl⟩ := trodVars_none hV
  clear hA0 hval0
  simp only [List.append_nil] at hW'
  have hlt : ∀ x ∈ p0 ++ p1, x.block < W.heap.size := fun x hx => hW'.lt x (by simpa using hx)
  obtain ⟨ao0, c0, xs0, hv0, r0⟩ := open_sf g0
  obtain ⟨ao1, c1, xs1, hv1, r1⟩ := open_so g1
  refine Calls.mono (?walk : Calls _ _ _ _ fun e w' => e = .returned (.bool true) ∧ Below W.heap.size W w') fun e W' ⟨he, hw⟩ => ?_
  case walk =>
    rw [hv0]
    rw [hv1]
    exact diskLoads_walk W ao0 c0 xs0 r0 ao1 c1 xs1 r1
  subst he
  exact ⟨_, rfl, post_of_below (pa := p0 ++ p1) (pv := []) hW' (fun _ _ _ => trodAll_mk1 (shut_bool Try.underlying4 _)) (fun sp hsp => trodAll_mk2 (WideElems.Trod_stays laidOut (by kernel_rfl) (of_decide_eq_true (by kernel_rfl)) k0 (fun x hx => hw.same (hlt x (by first | (simp [hx]; done) | exact nomatch hx))) (fun x hx => hsp x (by first | (simp [hx]; done) | exact nomatch hx))) (WideElems.Trod_stays laidOut (by kernel_rfl) (of_decide_eq_true (by kernel_rfl)) k1 (fun x hx => hw.same (hlt x (by first | (simp [hx]; done) | exact nomatch hx))) (fun x hx => hsp x (by first | (simp [hx]; done) | exact nomatch hx)))) (fun _ _ => rfl) (by simp) hw (ok_one (by kernel_rfl) rfl (okWide_bool_mk Try.underlying4 _))⟩
/-- THE ROW. -/
theorem diskLoads_holds : Rows.DiskLoadsSaid :=
  OpenClaim.holds_of_wide 4 Try.f4 rfl rfl rfl rfl rfl rfl rfl ⟨rfl, rfl, rfl, rfl, rfl⟩ rfl rfl rfl rfl rfl (by kernel_rfl) Try.func4 (by kernel_rfl)
    (of_decide_eq_true (by kernel_rfl)) (by unfold Func.isWrapper; first | (rw [if_pos (by decide +kernel)]; kernel_rfl) | (rw [if_neg (by decide +kernel)]; exact ⟨rfl, rfl⟩))
    (fun os started H enc _ => diskLoads_lifted os started H enc)
#print axioms diskLoads_holds
end Go.Proofs.Ytefgnlijgomgpaa
