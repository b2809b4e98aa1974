/- NetPlays' walk. Conditions: none of its own. -/
import Derived.Test.YtcgbjpmmbbldpaaLf
namespace Go.Proofs.Ytcgbjpmmbbldpaa
open Go.ChangeShapes Go.WideShapes Go.ChangeAt Go.RowKit Go.Deep
section
variable {w : World}
set_option maxRecDepth 100000 in
set_option maxHeartbeats 4000000 in
/-- racelaw13.NetPlays answers true. -/
theorem plays_any (most : Int) {ao : Option Addr} {n cap : Nat} {l : List OpN} (h : SO (· < w.heap.size) w ao n cap l) :
    Calls Try.prog 3 #[.int .i64 most, .slice ao n cap] w fun e w' => e = .returned (.bool true) ∧ Below w.heap.size w w' := by
  have HF := fun w => Lib.hid (first13_any w)
  have HS := Lib.hid h
  by_cases hm : 1 ≤ most ∧ most ≤ 4096
  · have HNN := fun w => Lib.hid (nnew_yes most hm.1 hm.2 w)
    have HNX := fun w => Lib.hid (rnew_yes most hm.1 hm.2 w)
    have HFW := fun w (h : SO (· < w.heap.size) w ao n cap l) => Lib.hid (few_any h)
    have HFW : ∀ w' : World, SO (· < w.heap.size) w' ao n cap l → Hid (Calls Try.prog 10 #[.slice ao n cap] w' fun e w'' => e = .returned (.bool (fewB l)) ∧ Below w'.heap.size w' w'') := fun w' h => Lib.hid (few_any h)
    have HMO := Lib.hid hm.2
    cases hf : fewB l with
    | false =>
      simp only [hf] at HFW
      clear h hm hf
      go_enter Try.func3, Try.ntmps3
      go_wp2_with (first
        | (go_at_call 8; refine (HNN _).out.mono ?_; rintro e w2 ⟨an, C1, rfl, hk, hc, hb⟩; have HB2 := Lib.hid (HB1.out.trans (hb.mono HB1.out.size)); have HK2 := Lib.hid hk; have HC2 := Lib.hid hc; have HS2 := Lib.hid hb.size; clear hk hc hb)
        | (go_at_call 9; refine (HNX _).out.mono ?_; rintro e w3 ⟨rfl, hk, hb⟩; have HB3 := Lib.hid (HB2.out.trans (hb.mono HB2.out.size)); have HK3 := Lib.hid (HK2.out.below hb); have HX3 := Lib.hid hk; clear hk hb)
        | (go_at_call 10; refine (HFW _ (HS.out.low HB3.out)).out.mono ?_; rintro e w4 ⟨rfl, hb⟩; have HB4 := Lib.hid (HB3.out.trans (hb.mono HB3.out.size)); have HK4 := Lib.hid (HK3.out.below hb); have HX4 := Lib.hid (HX3.out.below hb); clear hb)
        | (go_at_call 7; first | (have hi9 := HB4; (refine (HF _).out.mono ?_; rintro e w5 ⟨rfl, hb⟩; have HB5 := Lib.hid (HB4.out.trans (hb.mono HB4.out.size)); clear hb)) | (refine (HF _).out.mono ?_; rintro e w1 ⟨rfl, hb⟩; have HB1 := Lib.hid (hb); clear hb))
        | fail)
      go_ret
      exact ⟨rfl, HB5.out⟩
    | true =>
      simp only [hf] at HFW
      have HFY := Lib.hid (few_yes hf)
      have hlt := h.lt
      have HLEN := Lib.hid h.len
      clear h hm hf
      go_enter Try.func3, Try.ntmps3
      go_wp2_with (first
        | (go_at_call 8; refine (HNN _).out.mono ?_; rintro e w2 ⟨an, C1, rfl, hk, hc, hb⟩; have HB2 := Lib.hid (HB1.out.trans (hb.mono HB1.out.size)); have HK2 := Lib.hid hk; have HC2 := Lib.hid hc; have HS2 := Lib.hid hb.size; clear hk hc hb)
        | (go_at_call 9; refine (HNX _).out.mono ?_; rintro e w3 ⟨rfl, hk, hb⟩; have HB3 := Lib.hid (HB2.out.trans (hb.mono HB2.out.size)); have HK3 := Lib.hid (HK2.out.below hb); have HX3 := Lib.hid hk; clear hk hb)
        | (go_at_call 10; refine (HFW _ (HS.out.low HB3.out)).out.mono ?_; rintro e w4 ⟨rfl, hb⟩; have HB4 := Lib.hid (HB3.out.trans (hb.mono HB3.out.size)); have HK4 := Lib.hid (HK3.out.below hb); have HX4 := Lib.hid (HX3.out.below hb); clear hb)
        | (go_at_call 7; first | (refine (HF _).out.mono ?_; rintro e w1 ⟨rfl, hb⟩; have HB1 := Lib.hid (hb); clear hb))
        | fail)
      obtain ⟨ax, hax⟩ : ∃ ax, w2.heap.size = ax := ⟨_, rfl⟩
      rw [hax] at HX4
      rw [hax]
      have HNB : Hid (NB w.heap.size w4 an ax most []) := Lib.hid ⟨C1, _, HK4.out, HX4.out, fun k h1 h2 => by have := HK2.out.lt k h1; omega, fun k h1 => Nat.le_trans HB1.out.size (HC2.out k h1), fun k h1 => by have := HB1.out.size; have := HS2.out; omega, HB4.out.size⟩
      clear HK3 HX3 HK4 HX4 HK2 HC2 HS2 HB3 HB2 HB1 HNN HNX HFW hax
      go_loopw [9] (fun vi wr => ∃ (k : Nat) (L : List MV), vi = .int .i64 k ∧ k ≤ n ∧ Hid (NB w.heap.size wr an ax most L) ∧ Hid (Okn L) ∧ Hid (Below w.heap.size w wr)) (fun vi _ => n - (intOf vi).toNat)
      case atStart => exact ⟨0, [], rfl, Nat.zero_le _, HNB, Lib.hid Okn.nil, HB4⟩
      case round =>
        clear HNB HB4
        obtain ⟨k, L, rfl, hk, HN, HOK, HB⟩ := hrel
        by_cases hlt2 : k < n
        · have hkl : k < l.length := by rw [← HLEN.out]; exact hlt2
          obtain ⟨b, off, rfl, hbl, ho⟩ := (HS.out.low HB.out).at_ hkl
          have hdl := wei_mem HFY.out.2 _ (List.getElem_mem hkl)
          have c0 := ho.c0; have c1 := ho.c1; have c2 := ho.c2
          obtain ⟨po, pc, c3, hsb⟩ := ho.c3
          clear ho
          generalize l[k] = o at *
          have HD := Lib.hid (does_any HN.out HOK.out hsb hdl)
          have HOK2 := Lib.hid (HOK.out.step HMO.out hdl)
          generalize stepN most L o = L' at *
          have HST := fun w' hn => Lib.hid (stands_any (w := w') (n := an) (x := ax) (room := most) (l := L') (B := w.heap.size) hn HOK2.out)
          obtain ⟨o1, o2, o3, o4⟩ := o
          simp only at c0 c1 c2 c3
          clear hsb hdl
          go_wp2_with (first
            | (go_at_call 11; refine HD.out.mono ?_; rintro e w5 ⟨rfl, hn, hb⟩; have HN5 := Lib.hid hn; have HB5 := Lib.hid (HB.out.trans hb); clear hn hb)
            | (go_at_call 12; refine (HST _ HN5.out).out.mono ?_; rintro e w6 ⟨rfl, hn, hb⟩; have HN6 := Lib.hid hn; have HB6 := Lib.hid (HB5.out.trans hb); clear hn hb)
            | fail)
          go_roundw
          case rel => exact ⟨k + 1, L', by go_num, by omega, HN6, HOK2, HB6⟩
          case measure => simp [intOf]; omega
        · go_wp2_with (first
            | (go_at_call 7; refine (HF _).out.mono ?_; rintro e w7 ⟨rfl, hb⟩; have HB7 := Lib.hid (HB.out.trans (hb.mono HB.out.size)); clear hb)
            | fail)
          go_ret
          exact ⟨rfl, HB7.out⟩
  · have HNN := fun w => Lib.hid (nnew_no most hm w)
    have HNX := fun w => Lib.hid (rnew_no most hm w)
    clear h hm
    go_enter Try.func3, Try.ntmps3
    go_wp2_with (first
      | (go_at_call 8; refine (HNN _).out.mono ?_; rintro e w2 ⟨rfl, hb⟩; have HB2 := Lib.hid (HB1.out.trans (hb.mono HB1.out.size)); clear hb)
      | (go_at_call 9; refine (HNX _).out.mono ?_; rintro e w3 ⟨rfl, rfl⟩)
      | (go_at_call 7; first | (have hi9 := HB2; (refine (HF _).out.mono ?_; rintro e w4 ⟨rfl, hb⟩; have HB4 := Lib.hid (HB2.out.trans (hb.mono HB2.out.size)); clear hb)) | (refine (HF _).out.mono ?_; rintro e w1 ⟨rfl, hb⟩; have HB1 := Lib.hid (hb); clear hb))
      | fail)
    go_ret
    exact ⟨rfl, HB4.out⟩
end
end Go.Proofs.Ytcgbjpmmbbldpaa
