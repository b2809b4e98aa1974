/- Each record is read by its number, and by From as long as it is safe; nothing else is: racelaw7.WalTells answers true and leaves its arguments as they were. Conditions: the library's tables and errors hold what their initialisers lay. -/
import Derived.Test.YtkilkhnoldfhcaaGreatDoorLx
import Derived.Test.YtkilkhnoldfhcaaGreatDoorFrT
namespace Go.Proofs.YtkilkhnoldfhcaaGreatDoor
open Go.ChangeShapes Go.WideShapes Go.ChangeAt Go.RowKit
section
variable {C : Nat → Prop} {w w0 w1 : World} {B : Nat}
theorem ro_rb {ao : Option Addr} {n cap : Nat} {us : List Value} {L : List (List UInt8)} (h : RO C w (.slice ao n cap) us L) (hn : n = L.length) : Fr.RB w.heap.size w ao n cap L := by
  have ho := h.own
  rcases ho.2 with ⟨e, h0⟩ | ⟨g, c, cur, e, _, hg, h1, h2, _⟩
  · injection e with e1 e2 e3
    subst e1 e2 e3
    exact ⟨hn, Nat.le_refl _, by decide, fun _ => rfl, .inl rfl⟩
  · injection e with e1 e2 e3
    subst e1 e3
    refine ⟨hn, by omega, h2, (fun e => by cases e), ?_⟩
    by_cases hz : n = 0
    · exact .inl hz
    refine .inr ⟨g, 0, rfl, (Array.getElem?_eq_some_iff.1 hg).1, fun i hi => ?_⟩
    have hiL : i < L.length := by omega
    obtain ⟨co, cc, c0, o0⟩ := ro_get h rfl hiL
    have e : L.getD i [] = L[i] := by rw [List.getD_eq_getElem?_getD, List.getElem?_eq_getElem hiL]; rfl
    rw [Nat.zero_add, e]
    exact ⟨co, _, cc, c0, fr_sb (own_sb o0)⟩
theorem AO.get {g n cap : Nat} {us : List Value} {all : List (List UInt8)} (h : AO B w w1 (.slice (some ⟨g, 0, none⟩) n cap) us all) {i : Nat} (hi : i < all.length) : ∃ ao' cap', w1.cell? ⟨g, i, none⟩ = some (.slice ao' all[i].length cap') ∧ SB (fun k => k < B) w ao' all[i].length cap' all[i] := by
  have hu : i < us.length := by rw [h.len]; exact hi
  obtain ⟨ao', cap', e, hs⟩ := h.at_ i hu hi
  refine ⟨ao', cap', ?_, hs⟩
  rw [← e]
  have := h.own.cells (g := g) rfl i us[i] (List.getElem?_eq_getElem hu)
  rw [Addr.add_lit, Nat.zero_add] at this
  exact this
/-- A part of the records that were taken. -/
theorem ao_rb {g n cap : Nat} {us : List Value} {all : List (List UInt8)} (h : AO B w w1 (.slice (some ⟨g, 0, none⟩) n cap) us all) (hn : n = all.length) (hb : Below w.heap.size w w1) {lo k : Nat} (hk : lo + k ≤ n) : Fr.RB w1.heap.size w1 (some ⟨g, lo, none⟩) k (cap - lo) ((all.drop lo).take k) := by
  have ho := h.own
  rcases ho.2 with ⟨e, h0⟩ | ⟨g', c, cur, e, _, hg, h1, h2, _⟩
  · cases e
  · injection e with e1 e2 e3
    injection e1 with e1
    injection e1 with e1
    subst e1 e3
    have hl : ((all.drop lo).take k).length = k := by rw [List.length_take, List.length_drop]; omega
    refine ⟨hl.symm, by omega, by omega, (fun e => by cases e), ?_⟩
    by_cases hz : k = 0
    · exact .inl hz
    refine .inr ⟨g, lo, rfl, (Array.getElem?_eq_some_iff.1 hg).1, fun i hi => ?_⟩
    have hiL : lo + i < all.length := by omega
    obtain ⟨co, cc, c0, s0⟩ := h.get hiL
    have e : ((all.drop lo).take k).getD i [] = all[lo + i] := by
      rw [List.getD_eq_getElem?_getD, List.getElem?_take, if_pos hi, List.getElem?_drop, List.getElem?_eq_getElem hiL]
      rfl
    rw [e]
    exact ⟨co, _, cc, c0, fr_sb (s0.below hb)⟩
theorem rb_nil (w : World) (ao : Option Addr) : Fr.RB w.heap.size w ao 0 0 [] := ⟨rfl, Nat.le_refl _, by decide, fun _ => rfl, .inl rfl⟩
theorem ao_shape {ro : Option Addr} {n rc : Nat} {us : List Value} {all : List (List UInt8)} (h : AO B w w1 (.slice ro n rc) us all) : (ro = none ∧ all.length = 0 ∧ rc = 0) ∨ ∃ g, ro = some ⟨g, 0, none⟩ := by
  have ho := h.own
  rcases ho.2 with ⟨e, h0⟩ | ⟨g, c, cur, e, _⟩
  · injection e with e1 e2 e3
    exact .inl ⟨e1, h0, e3⟩
  · injection e with e1 e2 e3
    exact .inr ⟨g, e1⟩
theorem SW.mono {E : Nat → Prop} {ao : Option Addr} {n cap : Nat} {l : List Wo} (h : SW C w ao n cap l) (hd : ∀ k, C k → E k) : SW E w ao n cap l := by
  refine ⟨h.len, h.le, h.max, h.wf, ?_⟩
  rcases h.cells with h0 | ⟨b, off, rfl, hB, hc⟩
  · exact .inl h0
  · refine .inr ⟨b, off, rfl, hd b hB, fun i hi => ?_⟩
    have ho := hc i hi
    obtain ⟨a3, k3, h3, s3⟩ := ho.c3
    obtain ⟨a5, k5, h5, s5⟩ := ho.c5
    refine ⟨ho.c0, ho.c1, ho.c2, ⟨a3, k3, h3, s3.mono (fun k _ hk => hd k hk)⟩, ho.c4, ⟨a5, k5, h5, ⟨s5.len, s5.le, s5.max, s5.wf, ?_⟩⟩⟩
    rcases s5.cells with h0 | ⟨b5, o5, rfl, hB5, hc5⟩
    · exact .inl h0
    · exact .inr ⟨b5, o5, rfl, hd b5 hB5, hc5⟩
end
set_option maxRecDepth 100000 in
set_option maxHeartbeats 8000000 in
theorem tells_not (W : World) (seg : Int) (ao : Option Addr) (cap : Nat) (l : List Wo) (hl : SW (fun k => k < W.heap.size) W ao l.length cap l) (u v : Value) (hT : Tabs W) (hc : fewW l = false ∨ (fewW l = true ∧ (seg < 64 ∨ 262144 < seg))) :
    Calls Tryz.prog 9 #[.int .i64 seg, .slice ao l.length cap, u, v] W fun e w' => e = .returned (.bool true) ∧ Below W.heap.size W w' := by
  have HT := Lib.hid hT
  have HL := Lib.hid hl
  have HB := Lib.hid (Below.refl W.heap.size W)
  have HF := fun w h => Lib.hid (feww_any (C := fun k => k < W.heap.size) (w := w) (ao := ao) (n := l.length) (cap := cap) (l := l) h)
  clear hT hl
  have A11 := fun w (h : Below W.heap.size W w) => Lib.hid (first7 w (HT.out.below h))
  rcases hc with h | ⟨h, h2⟩
  · rw [h] at HF
    clear h
    go_enter Tryz.func9, Tryz.ntmps9
    go_wp2_with (first
      | (go_at_call 11; (refine (A11 _ HB.out).out.mono ?_); rintro e w1 ⟨rfl, hb⟩; have HB := Lib.hid (HB.out.trans (hb.mono HB.out.size)); clear hb)
      | (go_at_call 12; (refine (HF _ (HL.out.below HB.out)).out.mono ?_); rintro e w1 ⟨rfl, hb⟩; have HB := Lib.hid (HB.out.trans (hb.mono HB.out.size)); clear hb))
    go_ret
    exact ⟨rfl, HB.out⟩
  · rw [h] at HF
    clear h
    rcases (show seg < 64 ∨ (¬ seg < 64 ∧ 262144 < seg) by omega) with h3 | ⟨h3, h4⟩
    · have d1 : decide (seg < 64) = true := decide_eq_true h3
      clear h2 h3
      go_enter Tryz.func9, Tryz.ntmps9
      go_wp2_with (first
        | (go_at_call 11; (refine (A11 _ HB.out).out.mono ?_); rintro e w1 ⟨rfl, hb⟩; have HB := Lib.hid (HB.out.trans (hb.mono HB.out.size)); clear hb)
        | (go_at_call 12; (refine (HF _ (HL.out.below HB.out)).out.mono ?_); rintro e w1 ⟨rfl, hb⟩; have HB := Lib.hid (HB.out.trans (hb.mono HB.out.size)); clear hb))
      go_ret
      exact ⟨rfl, HB.out⟩
    · have d1 : decide (seg < 64) = false := decide_eq_false h3
      have d2 : decide (262144 < seg) = true := decide_eq_true h4
      clear h2 h3 h4
      go_enter Tryz.func9, Tryz.ntmps9
      go_wp2_with (first
        | (go_at_call 11; (refine (A11 _ HB.out).out.mono ?_); rintro e w1 ⟨rfl, hb⟩; have HB := Lib.hid (HB.out.trans (hb.mono HB.out.size)); clear hb)
        | (go_at_call 12; (refine (HF _ (HL.out.below HB.out)).out.mono ?_); rintro e w1 ⟨rfl, hb⟩; have HB := Lib.hid (HB.out.trans (hb.mono HB.out.size)); clear hb))
      go_ret
      exact ⟨rfl, HB.out⟩
set_option maxRecDepth 100000 in
set_option maxHeartbeats 16000000 in
theorem tells_main (W : World) (full : Nat) (hf : 64 ≤ full ∧ full ≤ 262144) (ao : Option Addr) (cap : Nat) (l : List Wo) (hl : SW (fun k => k < W.heap.size) W ao l.length cap l) (n most : Int) (hn1 : -9223372036854775808 ≤ n) (hn2 : n ≤ 9223372036854775807) (hT : Tabs W) (hfew : fewW l = true) :
    Calls Tryz.prog 9 #[.int .i64 (full : Int), .slice ao l.length cap, .int .i64 n, .int .i64 most] W fun e w' => e = .returned (.bool true) ∧ Below W.heap.size W w' := by
  have HT := Lib.hid hT
  have HL := Lib.hid hl
  have HB := Lib.hid (Below.refl W.heap.size W)
  have HF := fun w h => Lib.hid (feww_any (C := fun k => k < W.heap.size) (w := w) (ao := ao) (n := l.length) (cap := cap) (l := l) h)
  rw [hfew] at HF
  have A11 := fun w (h : Below W.heap.size W w) => Lib.hid (first7 w (HT.out.below h))
  have HOP := Lib.hid (fun w (h : Tabs w) (h2 : SW (fun k => k < w.heap.size) w ao l.length cap l) => opened_any w h full hf h2 hfew)
  have hin := opIn_all (full := full) hfew l.length (Nat.le_refl _)
  rw [List.take_length] at hin
  have hl200 := (feww_yes hfew).1
  have d1 : decide ((full : Int) < 64) = false := decide_eq_false (by omega)
  have d2 : decide (262144 < (full : Int)) = false := decide_eq_false (by omega)
  clear hT hl hfew hf
  generalize opFold full l = s at *
  obtain ⟨lg, d, all⟩ := s
  have HCH := Lib.hid hin.ch
  have hal : all.length ≤ 200 := Nat.le_trans hin.len hl200
  have hsf := hin.ch.safe
  simp only at HOP HCH hal hsf
  clear hin
  obtain ⟨N, hN⟩ : ∃ N, N = 1 + all.length := ⟨_, rfl⟩
  have hwN : IntKind.i64.wrap ((all.length : Int) + 1) = (N : Int) := by rw [wrap_in (by omega)]; omega
  have hne : ((N : Int) != (N : Int)) = false := by simp
  have d3 : decide (all.length < lg.safe) = false := decide_eq_false (by omega)
  have d3' : ¬ all.length < lg.safe := by omega
  have d4 : decide ((lg.safe : Int) < 0) = false := decide_eq_false (by omega)
  have A31 : ∀ {C : Nat → Prop} {w : World} {a dp : Nat} {v : Value} {us : List Value}, LAt C w a dp lg v us → Calls Tryz.prog 31 #[ptr a] w fun e w' => e = .returned (.int .i64 1) ∧ w = w' := fun {C w a dp v us} h => (first_any h HCH.out.ok).mono fun e w' he => ⟨he.1.trans (by show Ending.returned (.int .i64 ((lg.low : Nat) : Int)) = _; rw [HCH.out.low]; rfl), he.2⟩
  have A29 : ∀ {C : Nat → Prop} {w : World} {a dp : Nat} {v : Value} {us : List Value}, LAt C w a dp lg v us → Calls Tryz.prog 29 #[ptr a] w fun e w' => e = .returned (.int .i64 (N : Int)) ∧ Below w.heap.size w w' := fun {C w a dp v us} h => (next_any h HCH.out.ok).mono fun e w' he => ⟨he.1.trans (by rw [HCH.out.next, ← hN]), he.2⟩
  have HN := Lib.hid hN
  clear hN
  go_enter Tryz.func9, Tryz.ntmps9
  go_upto_region 9 with (first
    | (go_at_call 11; (refine (A11 _ HB.out).out.mono ?_); rintro e w1 ⟨rfl, hb⟩; have HB := Lib.hid (HB.out.trans (hb.mono HB.out.size)); clear hb)
    | (go_at_call 12; (refine (HF _ (HL.out.below HB.out)).out.mono ?_); rintro e w1 ⟨rfl, hb⟩; have HB := Lib.hid (HB.out.trans (hb.mono HB.out.size)); clear hb)
    | (go_at_call 38; (refine (HOP.out _ (HT.out.below HB.out) ((HL.out.below HB.out).mono (fun k hk => Nat.lt_of_lt_of_le hk HB.out.size))).mono ?_); rintro e w2 ⟨a, dp, C, S, v, us, rfl, hw, ha, hb⟩; have HB0 := HB; have HB := Lib.hid (HB.out.trans (hb.mono HB.out.size)); have HW := Lib.hid hw; have HA := Lib.hid ha; have HB2 := Lib.hid hb; obtain ⟨ro, rc, rfl⟩ := own_slice ha.own; clear hw ha hb)
    | (go_at_call 31; (obtain ⟨v1, us1, hl1⟩ := HW.out.lk; refine (A31 hl1).mono ?_); rintro e w3 ⟨rfl, rfl⟩; clear hl1)
    | (go_at_call 30; (obtain ⟨v1, us1, hl1⟩ := HW.out.lk; refine (safe_any hl1).mono ?_); rintro e w3 ⟨rfl, rfl⟩; clear hl1)
    | (go_at_call 29; (obtain ⟨v1, us1, hl1⟩ := HW.out.lk; refine (A29 hl1).mono ?_); rintro e w3 ⟨rfl, hb⟩; have HB := Lib.hid (HB.out.trans (hb.mono HB.out.size)); have HB2 := Lib.hid (HB2.out.trans (hb.mono HB2.out.size)); have HW := Lib.hid (HW.out.below hb); have HA := Lib.hid (HA.out.below hb); clear hb hl1))
  rcases ao_shape HA.out with ⟨rfl, hz, rfl⟩ | ⟨g, rfl⟩
  · have HZ := Lib.hid hz
    clear hz
    go_loopw [12] (fun vi wr => ∃ i : Nat, vi = .int .i64 (i : Int) ∧ i ≤ all.length ∧ Hid (WL w1.heap.size wr a C lg dp S d) ∧ Hid (AO w1.heap.size w1 wr (.slice none all.length 0) us all) ∧ Hid (Below w1.heap.size w1 wr) ∧ Hid (Below W.heap.size W wr)) (fun vi _ => all.length - (RowKit.intOf vi).toNat)
    case atStart => exact ⟨0, rfl, Nat.zero_le _, HW, HA, HB2, HB⟩
    case round =>
      clear HW HA HB2 HB
      obtain ⟨i, rfl, hi, HW, HA, HB2, HB⟩ := hrel
      by_cases hlt : i < all.length
      · skip
        exact absurd hlt (by have := HZ.out; omega)
      · skip
        obtain rfl : i = all.length := by omega
        have hil : ¬ ((all.length : Nat) : Int) < (all.length : Int) := by omega
        have hil2 : decide (((all.length : Nat) : Int) < (all.length : Int)) = false := decide_eq_false hil
        have HR0 : Hid (lg.read 0 = none) := Lib.hid (by rw [HCH.out.read, if_pos (by decide)])
        have HRN : Hid (lg.read (N : Int) = none) := Lib.hid (by have hN := HN.out; rw [HCH.out.read, if_neg (by omega), List.getElem?_eq_none (by omega)])
        have HMN : Hid ((lg.rests n).length ≤ 1000000) := Lib.hid (by rw [HCH.out.rests, List.length_drop]; omega)
        have HSF : Hid (lg.safe ≤ 1000000000) := Lib.hid (by omega)
        have HFR := Lib.hid (HCH.out.from n most)
        clear hi hil
        as_aux_lemma =>
          go_upto_region 15 with (go_at_call 39; (obtain ⟨v1, us1, hl1⟩ := HW.out.lk; refine (lread_any hl1 HCH.out.ok 0).mono ?_); rw [HR0.out]; rintro e w3 ⟨⟨v3, r3, rfl, rfl, rfl⟩, hb⟩; have HB := Lib.hid (HB.out.trans (hb.mono HB.out.size)); have HB2 := Lib.hid (HB2.out.trans (hb.mono HB2.out.size)); have HW := Lib.hid (HW.out.below hb); have HA := Lib.hid (HA.out.below hb); clear hb hl1)
          go_upto_region 18 with (go_at_call 39; (obtain ⟨v1, us1, hl1⟩ := HW.out.lk; refine (lread_any hl1 HCH.out.ok (N : Int)).mono ?_); rw [HRN.out]; rintro e w4 ⟨⟨v3, r3, rfl, rfl, rfl⟩, hb⟩; have HB := Lib.hid (HB.out.trans (hb.mono HB.out.size)); have HB2 := Lib.hid (HB2.out.trans (hb.mono HB2.out.size)); have HW := Lib.hid (HW.out.below hb); have HA := Lib.hid (HA.out.below hb); clear hb hl1)
          go_upto_region 19 with (go_at_call 33; (obtain ⟨v1, us1, hl1⟩ := HW.out.lk; refine (lfrom_any hl1 HCH.out.ok HSF.out n most HMN.out).mono ?_); rw [HFR.out]; rintro e w5 ⟨⟨v5, r5, rfl, hr⟩, hb⟩; have HR5 := Lib.hid hr; have HB := Lib.hid (HB.out.trans (hb.mono HB.out.size)); have HB2 := Lib.hid (HB2.out.trans (hb.mono HB2.out.size)); have HW := Lib.hid (HW.out.below hb); have HA := Lib.hid (HA.out.below hb); clear hb hl1 hr)
          by_cases hc : n < ((1 : Nat) : Int) ∨ (lg.safe : Int) + 1 < n
          · rw [if_pos hc] at HR5
            obtain ⟨rfl, rfl⟩ := HR5.out
            clear HR5
            by_cases hc1 : n < 1
            · have t1 : decide (n < 1) = true := decide_eq_true hc1
              clear hc hc1
              go_wp2_with (first
                | (go_at_call 11; (refine (A11 _ HB.out).out.mono ?_); rintro e w6 ⟨rfl, hb⟩; have HB := Lib.hid (HB.out.trans (hb.mono HB.out.size)); have HB2 := Lib.hid (HB2.out.trans (hb.mono HB2.out.size)); have HW := Lib.hid (HW.out.below hb); have HA := Lib.hid (HA.out.below hb); clear hb))
              go_ret
              exact ⟨rfl, HB.out⟩
            · have hc2 : (lg.safe : Int) + 1 < n := by omega
              have t1 : decide (n < 1) = false := decide_eq_false hc1
              have t2 : decide ((lg.safe : Int) + 1 < n) = true := decide_eq_true hc2
              have hws : IntKind.i64.wrap ((lg.safe : Int) + 1) = (lg.safe : Int) + 1 := by rw [wrap_in (by omega)]
              clear hc hc1 hc2
              go_wp2_with (first
                | (go_at_call 30; (obtain ⟨v1, us1, hl1⟩ := HW.out.lk; refine (safe_any hl1).mono ?_); rintro e w3 ⟨rfl, rfl⟩; clear hl1)
                | (go_at_call 11; (refine (A11 _ HB.out).out.mono ?_); rintro e w6 ⟨rfl, hb⟩; have HB := Lib.hid (HB.out.trans (hb.mono HB.out.size)); have HB2 := Lib.hid (HB2.out.trans (hb.mono HB2.out.size)); have HW := Lib.hid (HW.out.below hb); have HA := Lib.hid (HA.out.below hb); clear hb))
              go_ret
              exact ⟨rfl, HB.out⟩
          · rw [if_neg hc] at HR5
            obtain ⟨⟨us5, hr5⟩, rfl⟩ := HR5.out
            clear HR5
            obtain ⟨j, hj⟩ : ∃ j : Nat, n = (j : Int) + 1 := ⟨(n - 1).toNat, by omega⟩
            subst hj
            obtain ⟨k, hk⟩ : ∃ k : Nat, min (max most 0) ((lg.safe : Int) - ((j : Int) + 1) + 1) = (k : Int) := ⟨(min (max most 0) ((lg.safe : Int) - ((j : Int) + 1) + 1)).toNat, by omega⟩
            obtain ⟨m, hm⟩ : ∃ m, m = j + k := ⟨_, rfl⟩
            have hE : (all.drop ((j : Int) + 1 - ((1 : Nat) : Int)).toNat).take (min most ((lg.safe : Int) + 1 - ((j : Int) + 1))).toNat = (all.drop j).take (m - j) := by
              rw [show ((j : Int) + 1 - ((1 : Nat) : Int)).toNat = j by omega, show (min most ((lg.safe : Int) + 1 - ((j : Int) + 1))).toNat = m - j by omega]
            rw [hE] at hr5
            have hma : m ≤ all.length := by omega
            have hjm : j ≤ m := by omega
            have t1 : decide ((j : Int) + 1 < 1) = false := decide_eq_false (by omega)
            have t2 : decide ((lg.safe : Int) + 1 < (j : Int) + 1) = false := decide_eq_false (by omega)
            have hws : IntKind.i64.wrap ((lg.safe : Int) + 1) = (lg.safe : Int) + 1 := by rw [wrap_in (by omega)]
            have hw1 : IntKind.i64.wrap ((lg.safe : Int) - ((j : Int) + 1)) = (lg.safe : Int) - ((j : Int) + 1) := by rw [wrap_in (by omega)]
            have hw2 : IntKind.i64.wrap ((lg.safe : Int) - ((j : Int) + 1) + 1) = (lg.safe : Int) - ((j : Int) + 1) + 1 := by rw [wrap_in (by omega)]
            have hw3 : IntKind.i64.wrap ((j : Int) + 1 - 1) = (j : Int) := by rw [wrap_in (by omega)]; omega
            have hw6 : IntKind.i64.wrap (j : Int) = (j : Int) := by rw [wrap_in (by omega)]
            have hw4 : IntKind.i64.wrap ((j : Int) + (k : Int)) = (m : Int) := by rw [wrap_in (by omega)]; omega
            have hz := HZ.out
            obtain rfl : j = 0 := by omega
            obtain rfl : k = 0 := by omega
            obtain rfl : m = 0 := by omega
            have hsf0 : lg.safe = 0 := by omega
            have hsw : IntKind.i64.wrap (lg.safe : Int) = 0 := by rw [hsf0]; rfl
            have hmn : min (max most 0) (0 : Int) = 0 := by omega
            have hnil : (all.drop 0).take (0 - 0) = [] := by simp
            rw [hnil] at hr5
            have hlen0 : ([] : List (List UInt8)).length = 0 := rfl
            obtain ⟨fo, fc, hv5⟩ := own_slice hr5.own
            rw [hlen0] at hv5
            subst hv5
            have HRO := Lib.hid hr5
            simp only [Int.natCast_zero, Int.zero_add] at t1 t2 hw1
            clear hk hw2 hsf0 hc hE hr5 hm hma hjm hal hsf hn1 hn2 hl200 hnil hlen0 hz hw3 hw4 hw6
            go_upto_region 22 with (go_at_call 30; (obtain ⟨v1, us1, hl1⟩ := HW.out.lk; refine (safe_any hl1).mono ?_); rintro e w3 ⟨rfl, rfl⟩; clear hl1)
            go_wp2_with (first
              | (go_at_call 11; (refine (A11 _ HB.out).out.mono ?_); rintro e w6 ⟨rfl, hb⟩; have HB := Lib.hid (HB.out.trans (hb.mono HB.out.size)); have HB2 := Lib.hid (HB2.out.trans (hb.mono HB2.out.size)); have HW := Lib.hid (HW.out.below hb); have HA := Lib.hid (HA.out.below hb); have HRO := Lib.hid (HRO.out.below hb); clear hb)
              | (go_at_call 34; (refine (Fr.rows_any (ro_rb HRO.out rfl) (rb_nil _ none)).mono ?_); rw [beq_self_eq_true]; rintro e w7 ⟨rfl, q, hq⟩; have HB := Lib.hid (HB.out.trans ((below_of_drew hq).mono HB.out.size)); clear hq))
            go_ret
            exact ⟨rfl, HB.out⟩
  · skip
    go_loopw [12] (fun vi wr => ∃ i : Nat, vi = .int .i64 (i : Int) ∧ i ≤ all.length ∧ Hid (WL w1.heap.size wr a C lg dp S d) ∧ Hid (AO w1.heap.size w1 wr (.slice (some ⟨g, 0, none⟩) all.length rc) us all) ∧ Hid (Below w1.heap.size w1 wr) ∧ Hid (Below W.heap.size W wr)) (fun vi _ => all.length - (RowKit.intOf vi).toNat)
    case atStart => exact ⟨0, rfl, Nat.zero_le _, HW, HA, HB2, HB⟩
    case round =>
      clear HW HA HB2 HB
      obtain ⟨i, rfl, hi, HW, HA, HB2, HB⟩ := hrel
      by_cases hlt : i < all.length
      · skip
        have hil : (i : Int) < (all.length : Int) := by omega
        have hil2 : decide ((i : Int) < (all.length : Int)) = true := decide_eq_true hil
        have hwi : IntKind.i64.wrap ((i : Int) + 1) = (i : Int) + 1 := by rw [wrap_in (by omega)]
        have HRD : Hid (lg.read ((i : Int) + 1) = some all[i]) := Lib.hid (by rw [HCH.out.read, if_neg (by omega), show ((i : Int) + 1 - ((1 : Nat) : Int)).toNat = i by omega, List.getElem?_eq_getElem hlt])
        have HGT := Lib.hid (fun w3 (h : Below wr.heap.size wr w3) => (HA.out.below h).get hlt)
        have HLT := Lib.hid hlt
        generalize all[i] = p at *
        clear hlt hi
        as_aux_lemma =>
          go_wp2_with (first
            | (go_at_call 39; (obtain ⟨v1, us1, hl1⟩ := HW.out.lk; refine (lread_any hl1 HCH.out.ok ((i : Int) + 1)).mono ?_); rw [HRD.out]; rintro e w3 ⟨⟨v3, r3, rfl, ho, rfl⟩, hb⟩; obtain ⟨co, cc, rfl⟩ := own_slice ho; have HO := Lib.hid ho; obtain ⟨a4, k4, c4, s4⟩ := HGT.out w3 hb; have HB := Lib.hid (HB.out.trans (hb.mono HB.out.size)); have HB2 := Lib.hid (HB2.out.trans (hb.mono HB2.out.size)); have HW := Lib.hid (HW.out.below hb); have HA := Lib.hid (HA.out.below hb); have HS4 := Lib.hid (s4.below HB2.out); clear hb hl1 ho s4)
            | (go_at_call 40; (refine (bytes_any (own_sb HO.out) HS4.out).mono ?_); rw [beq_self_eq_true]; rintro e w4 ⟨rfl, rfl⟩))
          have hlt2 := HLT.out
          exact ⟨⟨i + 1, congrArg (Value.int .i64) (by omega), hlt2, HW, HA, HB2, HB⟩, by simp [RowKit.intOf]; omega⟩
      · skip
        obtain rfl : i = all.length := by omega
        have hil : ¬ ((all.length : Nat) : Int) < (all.length : Int) := by omega
        have hil2 : decide (((all.length : Nat) : Int) < (all.length : Int)) = false := decide_eq_false hil
        have HR0 : Hid (lg.read 0 = none) := Lib.hid (by rw [HCH.out.read, if_pos (by decide)])
        have HRN : Hid (lg.read (N : Int) = none) := Lib.hid (by have hN := HN.out; rw [HCH.out.read, if_neg (by omega), List.getElem?_eq_none (by omega)])
        have HMN : Hid ((lg.rests n).length ≤ 1000000) := Lib.hid (by rw [HCH.out.rests, List.length_drop]; omega)
        have HSF : Hid (lg.safe ≤ 1000000000) := Lib.hid (by omega)
        have HFR := Lib.hid (HCH.out.from n most)
        clear hi hil
        as_aux_lemma =>
          go_upto_region 15 with (go_at_call 39; (obtain ⟨v1, us1, hl1⟩ := HW.out.lk; refine (lread_any hl1 HCH.out.ok 0).mono ?_); rw [HR0.out]; rintro e w3 ⟨⟨v3, r3, rfl, rfl, rfl⟩, hb⟩; have HB := Lib.hid (HB.out.trans (hb.mono HB.out.size)); have HB2 := Lib.hid (HB2.out.trans (hb.mono HB2.out.size)); have HW := Lib.hid (HW.out.below hb); have HA := Lib.hid (HA.out.below hb); clear hb hl1)
          go_upto_region 18 with (go_at_call 39; (obtain ⟨v1, us1, hl1⟩ := HW.out.lk; refine (lread_any hl1 HCH.out.ok (N : Int)).mono ?_); rw [HRN.out]; rintro e w4 ⟨⟨v3, r3, rfl, rfl, rfl⟩, hb⟩; have HB := Lib.hid (HB.out.trans (hb.mono HB.out.size)); have HB2 := Lib.hid (HB2.out.trans (hb.mono HB2.out.size)); have HW := Lib.hid (HW.out.below hb); have HA := Lib.hid (HA.out.below hb); clear hb hl1)
          go_upto_region 19 with (go_at_call 33; (obtain ⟨v1, us1, hl1⟩ := HW.out.lk; refine (lfrom_any hl1 HCH.out.ok HSF.out n most HMN.out).mono ?_); rw [HFR.out]; rintro e w5 ⟨⟨v5, r5, rfl, hr⟩, hb⟩; have HR5 := Lib.hid hr; have HB := Lib.hid (HB.out.trans (hb.mono HB.out.size)); have HB2 := Lib.hid (HB2.out.trans (hb.mono HB2.out.size)); have HW := Lib.hid (HW.out.below hb); have HA := Lib.hid (HA.out.below hb); clear hb hl1 hr)
          by_cases hc : n < ((1 : Nat) : Int) ∨ (lg.safe : Int) + 1 < n
          · rw [if_pos hc] at HR5
            obtain ⟨rfl, rfl⟩ := HR5.out
            clear HR5
            by_cases hc1 : n < 1
            · have t1 : decide (n < 1) = true := decide_eq_true hc1
              clear hc hc1
              go_wp2_with (first
                | (go_at_call 11; (refine (A11 _ HB.out).out.mono ?_); rintro e w6 ⟨rfl, hb⟩; have HB := Lib.hid (HB.out.trans (hb.mono HB.out.size)); have HB2 := Lib.hid (HB2.out.trans (hb.mono HB2.out.size)); have HW := Lib.hid (HW.out.below hb); have HA := Lib.hid (HA.out.below hb); clear hb))
              go_ret
              exact ⟨rfl, HB.out⟩
            · have hc2 : (lg.safe : Int) + 1 < n := by omega
              have t1 : decide (n < 1) = false := decide_eq_false hc1
              have t2 : decide ((lg.safe : Int) + 1 < n) = true := decide_eq_true hc2
              have hws : IntKind.i64.wrap ((lg.safe : Int) + 1) = (lg.safe : Int) + 1 := by rw [wrap_in (by omega)]
              clear hc hc1 hc2
              go_wp2_with (first
                | (go_at_call 30; (obtain ⟨v1, us1, hl1⟩ := HW.out.lk; refine (safe_any hl1).mono ?_); rintro e w3 ⟨rfl, rfl⟩; clear hl1)
                | (go_at_call 11; (refine (A11 _ HB.out).out.mono ?_); rintro e w6 ⟨rfl, hb⟩; have HB := Lib.hid (HB.out.trans (hb.mono HB.out.size)); have HB2 := Lib.hid (HB2.out.trans (hb.mono HB2.out.size)); have HW := Lib.hid (HW.out.below hb); have HA := Lib.hid (HA.out.below hb); clear hb))
              go_ret
              exact ⟨rfl, HB.out⟩
          · rw [if_neg hc] at HR5
            obtain ⟨⟨us5, hr5⟩, rfl⟩ := HR5.out
            clear HR5
            obtain ⟨j, hj⟩ : ∃ j : Nat, n = (j : Int) + 1 := ⟨(n - 1).toNat, by omega⟩
            subst hj
            obtain ⟨k, hk⟩ : ∃ k : Nat, min (max most 0) ((lg.safe : Int) - ((j : Int) + 1) + 1) = (k : Int) := ⟨(min (max most 0) ((lg.safe : Int) - ((j : Int) + 1) + 1)).toNat, by omega⟩
            obtain ⟨m, hm⟩ : ∃ m, m = j + k := ⟨_, rfl⟩
            have hE : (all.drop ((j : Int) + 1 - ((1 : Nat) : Int)).toNat).take (min most ((lg.safe : Int) + 1 - ((j : Int) + 1))).toNat = (all.drop j).take (m - j) := by
              rw [show ((j : Int) + 1 - ((1 : Nat) : Int)).toNat = j by omega, show (min most ((lg.safe : Int) + 1 - ((j : Int) + 1))).toNat = m - j by omega]
            rw [hE] at hr5
            have hma : m ≤ all.length := by omega
            have hjm : j ≤ m := by omega
            have t1 : decide ((j : Int) + 1 < 1) = false := decide_eq_false (by omega)
            have t2 : decide ((lg.safe : Int) + 1 < (j : Int) + 1) = false := decide_eq_false (by omega)
            have hws : IntKind.i64.wrap ((lg.safe : Int) + 1) = (lg.safe : Int) + 1 := by rw [wrap_in (by omega)]
            have hw1 : IntKind.i64.wrap ((lg.safe : Int) - ((j : Int) + 1)) = (lg.safe : Int) - ((j : Int) + 1) := by rw [wrap_in (by omega)]
            have hw2 : IntKind.i64.wrap ((lg.safe : Int) - ((j : Int) + 1) + 1) = (lg.safe : Int) - ((j : Int) + 1) + 1 := by rw [wrap_in (by omega)]
            have hw3 : IntKind.i64.wrap ((j : Int) + 1 - 1) = (j : Int) := by rw [wrap_in (by omega)]; omega
            have hw6 : IntKind.i64.wrap (j : Int) = (j : Int) := by rw [wrap_in (by omega)]
            have hw4 : IntKind.i64.wrap ((j : Int) + (k : Int)) = (m : Int) := by rw [wrap_in (by omega)]; omega
            obtain ⟨fo, fc, hv5⟩ := own_slice hr5.own
            have hln : m - j = ((all.drop j).take (m - j)).length := by rw [List.length_take, List.length_drop]; omega
            rw [← hln] at hv5
            subst hv5
            have HRO := Lib.hid hr5
            have HLN := Lib.hid hln
            have hcap : all.length ≤ rc := own_cap HA.out.own
            have HK2 := Lib.hid (show j + (m - j) ≤ all.length by omega)
            have hmr : m ≤ rc := by omega
            have hz1 : rc = j → m - j = 0 ∧ k = 0 := fun e => by omega
            clear hc hE hr5 hm hma hcap hal hsf hn1 hn2 hl200 hln
            by_cases hc : rc = j
            · obtain ⟨hz, hk0⟩ := hz1 hc
              have HNIL : Hid ((all.drop j).take (m - j) = []) := Lib.hid (by rw [hz, List.take_zero])
              obtain rfl : m = j := by omega
              subst hk0
              clear hw4
              rw [Int.natCast_zero] at hk
              have HRO : Hid (RO _ w5 (.slice fo (m - m) fc) us5 []) := Lib.hid (by have := HRO.out; rwa [HNIL.out] at this)
              have HLN : Hid (m - m = ([] : List (List UInt8)).length) := Lib.hid (Nat.sub_self m)
              subst hc
              clear hz1 hz HNIL hmr hjm
              rw [Nat.sub_self] at HRO HLN
              go_upto_region 22 with (go_at_call 30; (obtain ⟨v1, us1, hl1⟩ := HW.out.lk; refine (safe_any hl1).mono ?_); rintro e w3 ⟨rfl, rfl⟩; clear hl1)
              go_wp2_with (first
                | (go_at_call 11; (refine (A11 _ HB.out).out.mono ?_); rintro e w6 ⟨rfl, hb⟩; have HB := Lib.hid (HB.out.trans (hb.mono HB.out.size)); have HB2 := Lib.hid (HB2.out.trans (hb.mono HB2.out.size)); have HW := Lib.hid (HW.out.below hb); have HA := Lib.hid (HA.out.below hb); have HRO := Lib.hid (HRO.out.below hb); clear hb)
                | (go_at_call 34; (refine (Fr.rows_any (ro_rb HRO.out HLN.out) (rb_nil _ _)).mono ?_); rw [beq_self_eq_true]; rintro e w7 ⟨rfl, q, hq⟩; have HB := Lib.hid (HB.out.trans ((below_of_drew hq).mono HB.out.size)); clear hq))
              go_ret
              exact ⟨rfl, HB.out⟩
            · have hc2 : ¬ j = rc := fun e => hc e.symm
              clear hz1
              go_upto_region 22 with (go_at_call 30; (obtain ⟨v1, us1, hl1⟩ := HW.out.lk; refine (safe_any hl1).mono ?_); rintro e w3 ⟨rfl, rfl⟩; clear hl1)
              go_wp2_with (first
                | (go_at_call 11; (refine (A11 _ HB.out).out.mono ?_); rintro e w6 ⟨rfl, hb⟩; have HB := Lib.hid (HB.out.trans (hb.mono HB.out.size)); have HB2 := Lib.hid (HB2.out.trans (hb.mono HB2.out.size)); have HW := Lib.hid (HW.out.below hb); have HA := Lib.hid (HA.out.below hb); have HRO := Lib.hid (HRO.out.below hb); clear hb)
                | (go_at_call 34; (refine (Fr.rows_any (ro_rb HRO.out HLN.out) (ao_rb HA.out rfl HB2.out HK2.out)).mono ?_); rw [beq_self_eq_true]; rintro e w7 ⟨rfl, q, hq⟩; have HB := Lib.hid (HB.out.trans ((below_of_drew hq).mono HB.out.size)); clear hq))
              go_ret
              exact ⟨rfl, HB.out⟩
theorem walTells_walk (W : World) (seg : Int) (_ : -9223372036854775808 ≤ seg) (_ : seg ≤ 9223372036854775807) (ao : Option Addr) (cap : Nat) (l : List Wo) (hl : SW (fun k => k < W.heap.size) W ao l.length cap l) (n : Int) (hn1 : -9223372036854775808 ≤ n) (hn2 : n ≤ 9223372036854775807) (most : Int) (_ : -9223372036854775808 ≤ most) (_ : most ≤ 9223372036854775807) (hT : Tabs W) :
    Calls Tryz.prog 9 #[.int .i64 seg, .slice ao l.length cap, .int .i64 n, .int .i64 most] W fun e w' => e = .returned (.bool true) ∧ Below W.heap.size W w' := by
  cases hf : fewW l with
  | false => exact tells_not W seg ao cap l hl _ _ hT (.inl hf)
  | true =>
    by_cases hs : seg < 64 ∨ 262144 < seg
    · exact tells_not W seg ao cap l hl _ _ hT (.inr ⟨hf, hs⟩)
    · have h := tells_main W seg.toNat (by omega) ao cap l hl n most hn1 hn2 hT hf
      rw [show ((seg.toNat : Nat) : Int) = seg by omega] at h
      exact h

set_option maxRecDepth 100000 in
theorem walTells_lifted (os : Os) (started : os.Started) (H : Type) (enc : TypeId × Value → H) :
    ReturnsInHanded {} Tryz.checked os 9 .any (fun w args => (Rows.walTellsSpec.pre enc Tryz.prog Tryz.f9 [] false w args ∧ laidMetH Tryz.prog laid7 w) ∧ sizedMet enc Tryz.prog Tryz.f9 (OpenSpec.ofChange Rows.walTellsSpec) false w args)
      (Rows.walTellsSpec.post enc Tryz.prog Tryz.f9 false true false false) := by
  refine returnsInHanded_of_change_and (C := Tryz.checked) (X := fun w _ => laidMetH Tryz.prog laid7 w) (fun _ _ _ hh h => h.of_heap hh) own started (by kernel_rfl) Tryz.func9
    (ChangeSpec.witness_shaped (enc := enc) (C := Tryz.checked) (os := os) (X := fun w _ => laidMetH Tryz.prog laid7 w) false (World.doorLaid Tryz.prog 400 os) #[.int .i64 0, .slice none 0 0, .int .i64 0, .int .i64 0] 8 rfl (World.shaped_of_RefB (by kernel_rfl) (by kernel_rfl)) (by kernel_rfl) (by kernel_rfl) (by kernel_rfl) (door_met os _)) ?_
  intro W base args ds gs before hval0 hW _ _ hL _
  have hval : ∀ (j : Nat) t v, Tryz.f9.params[j]? = some t → args[j]? = some v → Value.okWide Tryz.prog W .any base t v := hval0
  have hW' := hW
  obtain ⟨p, q, hA0, hV, rfl, hfz, hnd⟩ := hW
  have hA : DataW.TrodAll enc Tryz.prog W 0 (fun _ => true) true Tryz.f9.params.toList args.toList ds p := hA0
  rw [Tryz.params9] at hA hval
  obtain ⟨v0, v1, v2, v3, d0, d1, d2, d3, p0, p1, p2, p3, rfl, rfl, rfl, h0, h1, h2, h3⟩ := trodAll_four hA
  obtain ⟨rfl, rfl⟩ := trodVars_none hV
  clear hA0 hval0
  simp only [List.append_nil] at hW'
  have hlt : ∀ x ∈ p0 ++ p1 ++ p2 ++ p3, x.block < W.heap.size := fun x hx => hW'.lt x (by simpa using hx)
  have hT := tabs_of_laid hL
  have k0 := h0
  obtain ⟨a0, rfl, rfl, rfl, wf0⟩ := open_int Tryz.underlying3 (hval 0 3 v0 rfl rfl) h0
  have hwf0 := wf0
  simp [Lit.wf, IntKind.min, IntKind.max, IntKind.signed, IntKind.bits] at hwf0
  have k1 := h1
  obtain ⟨b1, len1, cap1, rfl⟩ := okWide_slice Tryz.underlying22 (hval 1 22 v1 rfl rfl)
  obtain ⟨fuel1, g1⟩ := h1
  obtain ⟨ao1, c1, xs1, hv1, r1⟩ := open_sw g1
  have k2 := h2
  obtain ⟨a2, rfl, rfl, rfl, wf2⟩ := open_int Tryz.underlying3 (hval 2 3 v2 rfl rfl) h2
  have hwf2 := wf2
  simp [Lit.wf, IntKind.min, IntKind.max, IntKind.signed, IntKind.bits] at hwf2
  have k3 := h3
  obtain ⟨a3, rfl, rfl, rfl, wf3⟩ := open_int Tryz.underlying3 (hval 3 3 v3 rfl rfl) h3
  have hwf3 := wf3
  simp [Lit.wf, IntKind.min, IntKind.max, IntKind.signed, IntKind.bits] at hwf3
  refine Calls.mono (?walk : Calls _ _ _ _ fun e w' => e = .returned (.bool true) ∧ Below W.heap.size W w') fun e W' ⟨he, hw⟩ => ?_
  case walk =>
    rw [hv1]
    exact walTells_walk W a0 (by omega) (by omega) ao1 c1 xs1 r1 a2 (by omega) (by omega) a3 (by omega) (by omega) hT
  subst he
  exact ⟨_, rfl, post_of_below (pa := [] ++ (p1 ++ ([] ++ []))) (pv := []) hW' (fun _ _ _ => trodAll_mk1 (shut_bool Tryz.underlying4 _)) (fun sp hsp => trodAll_mk4 (WideElems.Trod_stays laidOut (by kernel_rfl) (of_decide_eq_true (by kernel_rfl)) k0 (fun x hx => hw.same (hlt x (nomatch hx))) (fun x hx => hsp x (nomatch hx))) (WideElems.Trod_stays laidOut (by kernel_rfl) (of_decide_eq_true (by kernel_rfl)) k1 (fun x hx => hw.same (hlt x (by simp [hx]))) (fun x hx => hsp x (by simp [hx]))) (WideElems.Trod_stays laidOut (by kernel_rfl) (of_decide_eq_true (by kernel_rfl)) k2 (fun x hx => hw.same (hlt x (nomatch hx))) (fun x hx => hsp x (nomatch hx))) (WideElems.Trod_stays laidOut (by kernel_rfl) (of_decide_eq_true (by kernel_rfl)) k3 (fun x hx => hw.same (hlt x (nomatch hx))) (fun x hx => hsp x (nomatch hx)))) (fun _ _ => rfl) (by simp) hw (ok_one (by kernel_rfl) rfl (okWide_bool_mk Tryz.underlying4 _))⟩
theorem walTells_holds : Rows.WalTellsSaid :=
  OpenClaim.holds_of_wide 9 Tryz.f9 rfl rfl rfl rfl rfl rfl rfl ⟨rfl, rfl, rfl, rfl, rfl⟩ rfl rfl rfl rfl rfl (by kernel_rfl) Tryz.func9 (by kernel_rfl)
    (of_decide_eq_true (by kernel_rfl)) (by unfold Func.isWrapper; first | (rw [if_pos (by decide +kernel)]; kernel_rfl) | (rw [if_neg (by decide +kernel)]; exact ⟨rfl, rfl⟩))
    (fun os started H enc _ => walTells_lifted os started H enc)
/-- THE TIED CARD. -/
theorem walTells_card : Rows.WalTellsCardSaid :=
  Claim7.holds_tied_plain_at .later [] [.data, .data, .data, .sentinel, .sentinel] true (true, "e9ab51ce47dcc3953fa184c943e4ea011639904eb8e571ed572ebda56f291a89") true
    walTells_holds (fun _ h => by cases h) (by kernel_rfl) (fun _ h => by cases h) walTells_row_tie rfl ⟨rfl, rfl⟩ (by kernel_rfl) rfl
    (fun f fn hf hfn => by
      obtain rfl : f = 9 := Option.some.inj ((show Tryz.prog.funcNamed "headrace/racelaw7.WalTells" = some 9 by kernel_rfl).symm.trans hf) |>.symm
      obtain rfl : fn = Tryz.f9 := (Option.some.inj (Tryz.func9.symm.trans hfn)).symm
      exact ⟨by kernel_rfl, fun j t ht => by
        rw [Tryz.params9] at ht
        have hm : t ∈ [3, 22, 3, 3] := by simpa using Array.mem_of_getElem? ht
        have hall : ([3, 22, 3, 3].all fun u => !Tryz.prog.wantsStandIn u) = true := by kernel_rfl
        exact (show Tryz.prog.wantsStandIn t = false by simpa using List.all_eq_true.1 hall t hm)⟩)
    (by kernel_rfl)
#print axioms walTells_card
end Go.Proofs.YtkilkhnoldfhcaaGreatDoor
