/- ProgTexts' walk. Conditions: values and texts as Go has them. -/
import Derived.Test.YtbgccaconhmbaaaGreatDoorJLb
import Derived.Test.YtbgccaconhmbaaaGreatDoorJRp
namespace Go.Proofs.YtbgccaconhmbaaaGreatDoor
open Go.ChangeShapes Go.WideShapes Go.ChangeAt Go.RowKit Go.Deep
theorem r9parseS_any {l : List UInt8} {p : List OpV} {x : Int} (h : parseV l = (p, x)) {n : Nat} (hn : p.length = n) (hl : l.length ≤ 20000) (w : World) :
    Calls Tryz.prog 29 #[.string ⟨l.toArray⟩] w (PrsS w p n x) :=
  (r9parse_any ⟨l.toArray⟩ (by rw [Lib.size_eq]; exact hl) w).mono fun e w' ⟨v, h1, h2, h3⟩ => by
    rw [show (⟨l.toArray⟩ : ByteArray).data.toList = l from rfl, h] at h1 h3
    have h4 := own_hasG opC_len h3
    obtain ⟨ao, cap, rfl⟩ := own_sl h3
    simp only at h1 h4
    rw [hn] at h1 h4
    exact ⟨ao, cap, h1, h2, h4⟩
theorem few_print {p : List OpV} (h : fewO p = true) (hwp : ∀ o ∈ p, o.wf) : (∀ o ∈ p, Pok o) ∧ (∀ o ∈ p, o.key.length ≤ 20000 ∧ o.v.s.length ≤ 20000) ∧ p.length ≤ 200 ∧ (printT p).length ≤ 13000000 := by
  obtain ⟨h1, h2⟩ := fewO_yes h
  have h3 := weiO_mem h2
  have h4 : ∀ o ∈ p, Pok o := fun o ho => ⟨by have := h3 o ho; omega, by have := h3 o ho; omega, (hwp o ho).2.2.2.1⟩
  refine ⟨h4, h3, h1, ?_⟩
  have := join_len (n := 60060) (p.map stepT) fun x hx => by
    obtain ⟨o, ho, rfl⟩ := List.mem_map.1 hx
    have := step_len (h4 o ho) (h3 o ho).1 (h3 o ho).2
    omega
  rw [List.length_map] at this
  unfold printT
  omega
section
variable {P : Nat → Prop} {w : World} {vp : Value} {p : List OpV}
set_option maxRecDepth 100000 in
set_option maxHeartbeats 1000000 in
theorem textsO_out (hp : HasO P w vp p) (hR : Rdy w) (hwp : ∀ o ∈ p, o.wf) (s : List UInt8) (h : fewO p = false ∨ (fewO p = true ∧ 20000 < s.length)) :
    Calls Tryz.prog 5 #[vp, .string ⟨s.toArray⟩] w fun e w' => e = .returned (.bool true) ∧ Below w.heap.size w w' := by
  have HP := Lib.hid hp
  have HR := Lib.hid hR
  have HF := fun w hR => Lib.hid (first9_any w hR)
  have HA := fun w (hp : HasO P w vp p) => Lib.hid (fewO_any hp hwp)
  obtain ⟨ao, cap, rfl⟩ := hasg_sl hp
  clear hp hR hwp
  rcases h with h | ⟨h, hl⟩
  all_goals
    simp only [h] at HA
    clear h
  · go_enter Tryz.func5, Tryz.ntmps5
    go_wp2_with (first
      | (go_at_call 11; first
        | (refine ((HF _ (HR.out.below HB2.out)).out).mono ?_; rintro e w3 ⟨rfl, hb⟩; have HB3 := Lib.hid (HB2.out.trans (hb.mono HB2.out.size)); clear hb)
        | (refine ((HF _ HR.out).out).mono ?_; rintro e w1 ⟨rfl, hb⟩; have HB1 := Lib.hid hb; clear hb))
      | (go_at_call 12; refine ((HA _ (HP.out.below HB1.out)).out).mono ?_; rintro e w2 ⟨rfl, hb⟩; have HB2 := Lib.hid (HB1.out.trans (hb.mono HB1.out.size)); clear hb))
    go_ret
    exact ⟨rfl, HB3.out⟩
  · have hl2 : (s.length : Int) > 20000 := by omega
    clear hl
    go_enter Tryz.func5, Tryz.ntmps5
    go_wp2_with (first
      | (go_at_call 11; first
        | (refine ((HF _ (HR.out.below HB2.out)).out).mono ?_; rintro e w3 ⟨rfl, hb⟩; have HB3 := Lib.hid (HB2.out.trans (hb.mono HB2.out.size)); clear hb)
        | (refine ((HF _ HR.out).out).mono ?_; rintro e w1 ⟨rfl, hb⟩; have HB1 := Lib.hid hb; clear hb))
      | (go_at_call 12; refine ((HA _ (HP.out.below HB1.out)).out).mono ?_; rintro e w2 ⟨rfl, hb⟩; have HB2 := Lib.hid (HB1.out.trans (hb.mono HB1.out.size)); clear hb))
    go_ret
    exact ⟨rfl, HB3.out⟩
set_option maxRecDepth 100000 in
set_option maxHeartbeats 4000000 in
theorem textsO_in (hp : HasO P w vp p) (hR : Rdy w) (hwp : ∀ o ∈ p, o.wf) (s : List UInt8) (hs : s.length ≤ 20000) (h1 : fewO p = true) :
    Calls Tryz.prog 5 #[vp, .string ⟨s.toArray⟩] w fun e w' => e = .returned (.bool true) ∧ Below w.heap.size w w' := by
  have HP := Lib.hid hp
  have HR := Lib.hid hR
  have HF := fun w hR => Lib.hid (first9_any w hR)
  have HA := fun w (hp : HasO P w vp p) => Lib.hid (fewO_any hp hwp)
  simp only [h1] at HA
  obtain ⟨r, hr⟩ : ∃ r, parseV s = r := ⟨_, rfl⟩
  obtain ⟨q, x⟩ := r
  obtain ⟨m, hm⟩ : ∃ m, q.length = m := ⟨_, rfl⟩
  have HPS := fun w (hR : Rdy w) => Lib.hid (parseS_any hr hm hs w hR)
  have HPT := fun w => Lib.hid (r9parseS_any hr hm hs w)
  obtain ⟨g1, g2, g3, g4⟩ := few_print h1 hwp
  obtain ⟨T, hT⟩ : ∃ T, printT p = T := ⟨_, rfl⟩
  have HPP : Hid (∀ {P' : Nat → Prop} {w : World} {v : Value}, HasO P' w v p → Rdy w → Calls Tryz.prog 30 #[v] w fun e w' => e = .returned (.string ⟨T.toArray⟩) ∧ Below w.heap.size w w') := Lib.hid (fun a b => by rw [← hT]; exact pprint_any a g1 (by omega) (by omega) b.stb.stp b.tab)
  have HPR : Hid (∀ {P' : Nat → Prop} {w : World} {v : Value}, HasO P' w v p → Calls Tryz.prog 31 #[v] w fun e w' => e = .returned (.string ⟨T.toArray⟩) ∧ Below w.heap.size w w') := Lib.hid (fun a => by rw [← hT]; exact r9print_any a hwp g2 g3)
  have HOQ : Hid (∀ {P' Q' : Nat → Prop} {w : World} {va vb : Value}, HasO P' w va q → HasO Q' w vb q → Calls Tryz.prog 21 #[va, vb] w fun e w' => e = .returned (.bool true) ∧ Below w.heap.size w w') := Lib.hid (fun a b => by have := ops_any a b; rwa [allO_self] at this)
  have hs2 : ¬ (s.length : Int) > 20000 := by omega
  obtain ⟨n, hn⟩ : ∃ n, p.length = n := ⟨_, rfl⟩
  obtain ⟨ao, cap, rfl⟩ := hasg_sl hp
  rw [hn] at HP HA
  rw [hn]
  clear hp hR hwp h1 hr hm hn hs g1 g2 g3 g4 hT
  go_enter Tryz.func5, Tryz.ntmps5
  go_wp2_with (first
    | (go_at_call 11; first
      | (refine ((HF _ (HR.out.below HB4.out)).out).mono ?_; rintro e w5 ⟨rfl, hb⟩; have HB5 := Lib.hid (HB4.out.trans (hb.mono HB4.out.size)); have HQ5 := Lib.hid (HQ4.out.below hb); have HT5 := Lib.hid (HT4.out.below hb); clear hb)
      | (refine ((HF _ HR.out).out).mono ?_; rintro e w1 ⟨rfl, hb⟩; have HB1 := Lib.hid hb; clear hb))
    | (go_at_call 12; refine ((HA _ (HP.out.below HB1.out)).out).mono ?_; rintro e w2 ⟨rfl, hb⟩; have HB2 := Lib.hid (HB1.out.trans (hb.mono HB1.out.size)); clear hb)
    | (go_at_call 28; refine ((HPS _ (HR.out.below HB2.out)).out).mono ?_; rintro e w3 ⟨a3, c3, rfl, hb, hk⟩; have HB3 := Lib.hid (HB2.out.trans (hb.mono HB2.out.size)); have HQ3 := Lib.hid (hk); clear hb hk)
    | (go_at_call 29; refine ((HPT _).out).mono ?_; rintro e w4 ⟨a4, c4, rfl, hb, hk⟩; have HB4 := Lib.hid (HB3.out.trans (hb.mono HB3.out.size)); have HQ4 := Lib.hid (HQ3.out.below hb); have HT4 := Lib.hid (hk); clear hb hk)
    | (go_at_call 30; refine (HPP.out (HP.out.below HB5.out) (HR.out.below HB5.out)).mono ?_; rintro e w6 ⟨rfl, hb⟩; have HB6 := Lib.hid (HB5.out.trans (hb.mono HB5.out.size)); have HQ6 := Lib.hid (HQ5.out.below hb); have HT6 := Lib.hid (HT5.out.below hb); clear hb)
    | (go_at_call 31; refine (HPR.out (HP.out.below HB6.out)).mono ?_; rintro e w7 ⟨rfl, hb⟩; have HB7 := Lib.hid (HB6.out.trans (hb.mono HB6.out.size)); have HQ7 := Lib.hid (HQ6.out.below hb); have HT7 := Lib.hid (HT6.out.below hb); clear hb)
    | (go_at_call 21; refine (HOQ.out HQ7.out HT7.out).mono ?_; rintro e w8 ⟨rfl, hb⟩; have HB8 := Lib.hid (HB7.out.trans (hb.mono HB7.out.size)); clear hb))
  go_ret
  exact ⟨rfl, HB8.out⟩
/-- racelaw9.ProgTexts answers true. -/
theorem textsO_any (hp : HasO P w vp p) (hR : Rdy w) (hwp : ∀ o ∈ p, o.wf) (s : List UInt8) :
    Calls Tryz.prog 5 #[vp, .string ⟨s.toArray⟩] w fun e w' => e = .returned (.bool true) ∧ Below w.heap.size w w' := by
  cases h1 : fewO p with
  | false => exact textsO_out hp hR hwp s (.inl h1)
  | true =>
    by_cases hs : 20000 < s.length
    · exact textsO_out hp hR hwp s (.inr ⟨h1, hs⟩)
    · exact textsO_in hp hR hwp s (by omega) h1
end
end Go.Proofs.YtbgccaconhmbaaaGreatDoor
