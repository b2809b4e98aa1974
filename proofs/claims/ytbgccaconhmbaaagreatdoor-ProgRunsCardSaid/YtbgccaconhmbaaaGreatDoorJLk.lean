/- ProgRuns' walk. Conditions: values and texts as Go has them. -/
import Derived.Test.YtbgccaconhmbaaaGreatDoorJRx
import Derived.Test.YtbgccaconhmbaaaGreatDoorJKc
namespace Go.Proofs.YtbgccaconhmbaaaGreatDoor
open Go.ChangeShapes Go.WideShapes Go.ChangeAt Go.RowKit Go.Deep
section
variable {P Q : Nat → Prop} {w : World} {vp vs : Value} {p : List OpV} {l : List SeenV}
theorem ran_row {w w' : World} {v : Value} {W : Ent DV} (h : w'.ownsRow w.heap.size 54 4 v W.length (cellsG wrC W)) : HasW (fun k => w.heap.size ≤ k) w' v W := own_hasG wrC_len h
set_option maxRecDepth 100000 in
set_option maxHeartbeats 4000000 in
/-- racelaw9.ProgRuns answers true. -/
theorem runs_any (hp : HasO P w vp p) (hs : HasN Q w vs l) (hR : Rdy w) (hwp : ∀ o ∈ p, o.wf) (hws : ∀ s ∈ l, s.wf) :
    Calls Tryz.prog 4 #[vp, vs] w fun e w' => e = .returned (.bool true) ∧ Below w.heap.size w w' := by
  have HP := Lib.hid hp
  have HS := Lib.hid hs
  have HR := Lib.hid hR
  have HF := fun w hR => Lib.hid (first9_any w hR)
  have HA := fun w (hp : HasO P w vp p) => Lib.hid (fewO_any hp hwp)
  have HA2 := fun w (hs : HasN Q w vs l) => Lib.hid (fewS_any hs)
  obtain ⟨ao, cap, rfl⟩ := hasg_sl hp
  obtain ⟨aq, caq, rfl⟩ := hasg_sl hs
  clear hp hs hR
  cases h1 : fewO p with
  | false =>
    simp only [h1] at HA
    clear h1 hwp hws HA2
    go_enter Tryz.func4, Tryz.ntmps4
    go_wp2_with (first
      | (go_at_call 12; refine (HA _ (HP.out.below HB1.out)).out.mono ?_; rintro e w2 ⟨rfl, hb⟩; have HB2 := Lib.hid (HB1.out.trans (hb.mono HB1.out.size)); clear hb)
      | (go_at_call 11; first
        | (refine (HF _ (HR.out.below HB2.out)).out.mono ?_; rintro e w3 ⟨rfl, hb⟩; have HB3 := Lib.hid (HB2.out.trans (hb.mono HB2.out.size)); clear hb)
        | (refine (HF _ HR.out).out.mono ?_; rintro e w1 ⟨rfl, hb⟩; have HB1 := Lib.hid hb; clear hb)))
    go_ret
    exact ⟨rfl, HB3.out⟩
  | true =>
    simp only [h1] at HA
    cases h2 : fewS l with
    | false =>
      simp only [h2] at HA2
      clear h1 h2 hwp hws
      go_enter Tryz.func4, Tryz.ntmps4
      go_wp2_with (first
        | (go_at_call 12; refine (HA _ (HP.out.below HB1.out)).out.mono ?_; rintro e w2 ⟨rfl, hb⟩; have HB2 := Lib.hid (HB1.out.trans (hb.mono HB1.out.size)); clear hb)
        | (go_at_call 22; refine (HA2 _ (HS.out.below HB2.out)).out.mono ?_; rintro e w3 ⟨rfl, hb⟩; have HB3 := Lib.hid (HB2.out.trans (hb.mono HB2.out.size)); clear hb)
        | (go_at_call 11; first
          | (refine (HF _ (HR.out.below HB3.out)).out.mono ?_; rintro e w4 ⟨rfl, hb⟩; have HB4 := Lib.hid (HB3.out.trans (hb.mono HB3.out.size)); clear hb)
          | (refine (HF _ HR.out).out.mono ?_; rintro e w1 ⟨rfl, hb⟩; have HB1 := Lib.hid hb; clear hb)))
      go_ret
      exact ⟨rfl, HB4.out⟩
    | true =>
      simp only [h2] at HA2
      have hl := fewO_len h1
      have hl6 : p.length ≤ 1000000 := by omega
      have hm := fewS_len h2
      have hm6 : l.length ≤ 1000000 := by omega
      have hwv : ∀ o ∈ p, o.v.wf := fun o ho => (hwp o ho).2.2
      have HCP := fun w (hp : HasO P w (.slice ao p.length cap) p) => Lib.hid (copyOps_any hp hl6)
      have HCS := fun w (hs : HasN Q w (.slice aq l.length caq) l) => Lib.hid (copySeen_any hs hm6)
      have HRU := fun (P Q : Nat → Prop) (w : World) (va vb : Value) (ha : HasO P w va p) (hb : HasN Q w vb l) (hS : Stp w) => Lib.hid (run_any ha hb hS hm6 hwv hws)
      have HRR := fun w (hp : HasO P w (.slice ao p.length cap) p) (hs : HasN Q w (.slice aq l.length caq) l) => Lib.hid (rrun_any hp hs hm6 hwv hws)
      have HOO := fun (P' Q : Nat → Prop) (w : World) (va vb : Value) (ha : HasO P' w va p) (hb : HasO Q w vb p) => Lib.hid (ops_any ha hb)
      have HNN := fun (P' Q : Nat → Prop) (w : World) (va vb : Value) (ha : HasN P' w va l) (hb : HasN Q w vb l) => Lib.hid (seen_any ha hb)
      simp only [allO_self] at HOO
      simp only [allN_self] at HNN
      obtain ⟨R, hR⟩ : ∃ R, runV p l = R := ⟨_, rfl⟩
      simp only [hR] at HRU HRR
      obtain ⟨W, e0⟩ := R
      have HWW := fun (P' Q : Nat → Prop) (w : World) (va vb : Value) (ha : HasW P' w va W) (hb : HasW Q w vb W) => Lib.hid (writes_any ha hb)
      simp only [allW_self] at HWW
      unfold Ran at HRU HRR
      dsimp only at HRU HRR
      obtain ⟨n, hn⟩ : ∃ n, p.length = n := ⟨_, rfl⟩
      obtain ⟨m, hmm⟩ : ∃ n, l.length = n := ⟨_, rfl⟩
      rw [hn] at HP HA HCP HRR
      rw [hmm] at HS HA2 HCS
      simp only [hmm] at HRR
      rw [hn, hmm]
      have HL := Lib.hid hn
      have HM := Lib.hid hmm
      clear h1 h2 hwp hws hl hl6 hm hm6 hwv hR hn hmm
      go_enter Tryz.func4, Tryz.ntmps4
      go_wp2_with (first
        | (go_at_call 12; refine (HA _ (HP.out.below HB1.out)).out.mono ?_; rintro e w2 ⟨rfl, hb⟩; have HB2 := Lib.hid (HB1.out.trans (hb.mono HB1.out.size)); clear hb)
        | (go_at_call 22; refine (HA2 _ (HS.out.below HB2.out)).out.mono ?_; rintro e w3 ⟨rfl, hb⟩; have HB3 := Lib.hid (HB2.out.trans (hb.mono HB2.out.size)); clear hb)
        | (go_at_call 13; refine (HCP _ (HP.out.below HB3.out)).out.mono ?_; rintro e w4 ⟨u4, rfl, hb, ho⟩; have HB4 := Lib.hid (HB3.out.trans (hb.mono HB3.out.size)); have HI4 : Hid (HasO (fun k => w3.heap.size ≤ k) w4 u4 p) := Lib.hid (own_hasG opC_len (by rw [HL.out]; exact ho)); clear hb ho)
        | (go_at_call 23; refine (HCS _ (HS.out.below HB4.out)).out.mono ?_; rintro e w5 ⟨u5, rfl, hb, ho⟩; have HB5 := Lib.hid (HB4.out.trans (hb.mono HB4.out.size)); have HI5 := Lib.hid (HI4.out.below hb); have HJ5 : Hid (HasN (fun k => w4.heap.size ≤ k) w5 u5 l) := Lib.hid (own_hasG snC_len (by rw [HM.out]; exact ho)); clear hb ho)
        | (go_at_call 24; refine (HRU _ _ _ _ _ HI5.out HJ5.out (HR.out.below HB5.out).stb.stp).out.mono ?_; rintro e w6 ⟨u6, rfl, hb, ho⟩; have HB6 := Lib.hid (HB5.out.trans (hb.mono HB5.out.size)); have HI6 := Lib.hid (HI5.out.below hb); have HJ6 := Lib.hid (HJ5.out.below hb); have HW6 := Lib.hid (ran_row ho); clear hb ho)
        | (go_at_call 25; refine (HRR _ (HP.out.below HB6.out) (HS.out.below HB6.out)).out.mono ?_; rintro e w7 ⟨u7, rfl, hb, ho⟩; have HB7 := Lib.hid (HB6.out.trans (hb.mono HB6.out.size)); have HI7 := Lib.hid (HI6.out.below hb); have HJ7 := Lib.hid (HJ6.out.below hb); have HW7 := Lib.hid (HW6.out.below hb); have HX7 := Lib.hid (ran_row ho); clear hb ho)
        | (go_at_call 11; first
          | (refine (HF _ (HR.out.below HB7.out)).out.mono ?_; rintro e w8 ⟨rfl, hb⟩; have HB8 := Lib.hid (HB7.out.trans (hb.mono HB7.out.size)); have HI8 := Lib.hid (HI7.out.below hb); have HJ8 := Lib.hid (HJ7.out.below hb); have HW8 := Lib.hid (HW7.out.below hb); have HX8 := Lib.hid (HX7.out.below hb); clear hb)
          | (refine (HF _ HR.out).out.mono ?_; rintro e w1 ⟨rfl, hb⟩; have HB1 := Lib.hid hb; clear hb))
        | (go_at_call 26; refine (HWW _ _ _ _ _ HW8.out HX8.out).out.mono ?_; rintro e w9 ⟨rfl, hb⟩; have HB9 := Lib.hid (HB8.out.trans (hb.mono HB8.out.size)); have HI9 := Lib.hid (HI8.out.below hb); have HJ9 := Lib.hid (HJ8.out.below hb); clear hb)
        | (go_at_call 21; refine (HOO _ _ _ _ _ HI9.out (HP.out.below HB9.out)).out.mono ?_; rintro e w10 ⟨rfl, hb⟩; have HB10 := Lib.hid (HB9.out.trans (hb.mono HB9.out.size)); have HI10 := Lib.hid (HI9.out.below hb); have HJ10 := Lib.hid (HJ9.out.below hb); clear hb)
        | (go_at_call 27; refine (HNN _ _ _ _ _ HJ10.out (HS.out.below HB10.out)).out.mono ?_; rintro e w11 ⟨rfl, hb⟩; have HB11 := Lib.hid (HB10.out.trans (hb.mono HB10.out.size)); clear hb))
      go_ret
      exact ⟨rfl, HB11.out⟩
end
end Go.Proofs.YtbgccaconhmbaaaGreatDoor
