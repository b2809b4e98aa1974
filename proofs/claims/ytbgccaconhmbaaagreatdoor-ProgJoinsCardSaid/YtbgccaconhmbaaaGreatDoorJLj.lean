/- ProgJoins' walk. Conditions: values and texts as Go has them. -/
import Derived.Test.YtbgccaconhmbaaaGreatDoorJSh
import Derived.Test.YtbgccaconhmbaaaGreatDoorJKy
namespace Go.Proofs.YtbgccaconhmbaaaGreatDoor
open Go.ChangeShapes Go.WideShapes Go.ChangeAt Go.RowKit Go.Deep
theorem one_ops (l : List OpV) : ∀ u ∈ cellsG opC l, u.oneCell' = true := by
  intro u hu
  unfold cellsG at hu
  obtain ⟨s, _, hs⟩ := List.mem_flatMap.1 hu
  exact one_op s u hs
theorem hasg_none {α : Type} {f : α → List Value} {sz : Nat} {P : Nat → Prop} {w : World} {ao : Option Addr} {n cap : Nat} {l : List α} (h : HasG f sz P w (.slice ao n cap) l) : ao = none → n = 0 ∧ cap = 0 := by
  intro e
  obtain ⟨ao', cap', hv, _, _, h3, _⟩ := h
  injection hv with e1 e2 e3
  subst e1 e2 e3
  obtain ⟨h4, h5⟩ := h3 e
  exact ⟨by rw [h5]; rfl, h4⟩
theorem seen_hit {l : List SeenV} {k : Nm} {j : Nat} (hj : j < l.length) (h : ∀ s ∈ l.take j, s.key ≠ k) (he : l[j].key = k) : seenO l k = some l[j].v := by
  unfold seenO
  have : l.find? (fun s => s.key == k) = some l[j] := by
    rw [List.find?_eq_some_iff_getElem]
    refine ⟨by simpa using he, j, hj, rfl, fun i hi => ?_⟩
    have : l[i] ∈ l.take j := List.mem_take_iff_getElem.2 ⟨i, by omega, rfl⟩
    simpa using h _ this
  rw [this]
  rfl
def Fnd (l : List SeenV) (k : Nm) (j : Nat) (b : Bool) : Prop := if b = true then (seenO l k).isSome = true ∧ mayV (seenF l k) = true else ∀ s ∈ l.take j, s.key ≠ k
theorem ovr_wf {W : Ent DV} {l : List SeenV} (hW : ∀ q ∈ W, q.1.length ≤ 24 ∧ q.2.wf) (hl : ∀ s ∈ l, s.wf) : ∀ s ∈ ovr W l, s.wf := by
  intro s hs
  rcases List.mem_append.1 hs with hs | hs
  · obtain ⟨q, hq, rfl⟩ := List.mem_map.1 hs
    have h := hW q hq
    exact ⟨Nat.le_trans h.1 (by decide), h.2, ⟨by show (-9223372036854775808 : Int) ≤ 0; decide, by show (0 : Int) < _; decide⟩, ⟨by show (-9223372036854775808 : Int) ≤ 0; decide, by show (0 : Int) < _; decide⟩, ⟨by show (-9223372036854775808 : Int) ≤ 0; decide, by show (0 : Int) < _; decide⟩⟩
  · exact hl s hs
theorem names_short {p : List OpV} {k : Nm} (h : k ∈ namesV p) : k.length ≤ 24 := by
  unfold namesV at h
  obtain ⟨o, _, _, h2, rfl⟩ := mem_keysV.1 (mem_setV.1 h)
  exact (keyV_pos h2).2
theorem as_snoc {W : Ent DV} {i : Nat} (h : i < W.length) : (W.take (i + 1)).map asSeen = (W.take i).map asSeen ++ [asSeen W[i]] := by
  rw [take_snocW h, List.map_append]; rfl
theorem mrg_step_left {a : Nm × DV} {w x : Ent DV} (h : x = [] ∨ ∃ b r, x = b :: r ∧ a.1 < b.1) : mrg (a :: w) x = a :: mrg w x := by
  rcases h with rfl | ⟨b, r, rfl, h⟩
  · rw [mrg_left, mrg_left]
  · rw [mrg_cons, if_pos h]
theorem mrg_step_right {b : Nm × DV} {w x : Ent DV} (h : w = [] ∨ ∃ a r, w = a :: r ∧ b.1 < a.1) : mrg w (b :: x) = b :: mrg w x := by
  rcases h with rfl | ⟨a, r, rfl, h⟩
  · rw [mrg_nil, mrg_nil]
  · rw [mrg_cons, if_neg (fun e => nm_irrefl _ (nm_trans e h)), if_pos h]
theorem mrg_step_both {a b : Nm × DV} {w x : Ent DV} (h : a.1 = b.1) : mrg (a :: w) (b :: x) = b :: mrg w x := by
  rw [mrg_cons, if_neg (by rw [h]; exact nm_irrefl _), if_neg (by rw [h]; exact nm_irrefl _)]
section
variable {P Q S : Nat → Prop} {w : World} {vp vq vs : Value} {p q : List OpV} {l : List SeenV}
set_option maxRecDepth 100000 in
set_option maxHeartbeats 1000000 in
theorem joins_out (hp : HasO P w vp p) (hq : HasO Q w vq q) (hs : HasN S w vs l) (hR : Rdy w) (hwp : ∀ o ∈ p, o.wf) (hwq : ∀ o ∈ q, o.wf) (h : fewO p = false ∨ fewO q = false ∨ fewS l = false ∨ 20 < p.length ∨ 20 < q.length) :
    Calls Tryz.prog 8 #[vp, vq, vs] w fun e w' => e = .returned (.bool true) ∧ Below w.heap.size w w' := by
  have HP := Lib.hid hp
  have HQ := Lib.hid hq
  have HS := Lib.hid hs
  have HR := Lib.hid hR
  have HF := fun w hR => Lib.hid (first9_any w hR)
  have HA := fun w (hp : HasO P w vp p) => Lib.hid (fewO_any hp hwp)
  have HA2 := fun w (hq : HasO Q w vq q) => Lib.hid (fewO_any hq hwq)
  have HB := fun w (hs : HasN S w vs l) => Lib.hid (fewS_any hs)
  obtain ⟨ap, cp, rfl⟩ := hasg_sl hp
  obtain ⟨aq, cq, rfl⟩ := hasg_sl hq
  clear hp hq hs hR hwp hwq
  cases h1 : fewO p with
  | false =>
    simp only [h1] at HA
    clear h h1
    go_enter Tryz.func8, Tryz.ntmps8
    go_wp2_with (first
      | (go_at_call 11; first
        | (refine ((HF _ (HR.out.below HB2.out)).out).mono ?_; rintro e w3 ⟨rfl, hb⟩; have HB3 := Lib.hid (HB2.out.trans (hb.mono HB2.out.size)); clear hb)
        | (refine ((HF _ HR.out).out).mono ?_; rintro e w1 ⟨rfl, hb⟩; have HB1 := Lib.hid hb; clear hb))
      | (go_at_call 12; refine ((HA _ (HP.out.below HB1.out)).out).mono ?_; rintro e w2 ⟨rfl, hb⟩; have HB2 := Lib.hid (HB1.out.trans (hb.mono HB1.out.size)); clear hb))
    go_ret
    exact ⟨rfl, HB3.out⟩
  | true =>
    simp only [h1] at HA
    cases h2 : fewO q with
    | false =>
      simp only [h2] at HA2
      clear h h1 h2
      go_enter Tryz.func8, Tryz.ntmps8
      go_wp2_with (first
        | (go_at_call 11; first
          | (refine ((HF _ (HR.out.below HB3.out)).out).mono ?_; rintro e w4 ⟨rfl, hb⟩; have HB4 := Lib.hid (HB3.out.trans (hb.mono HB3.out.size)); clear hb)
          | (refine ((HF _ HR.out).out).mono ?_; rintro e w1 ⟨rfl, hb⟩; have HB1 := Lib.hid hb; clear hb))
        | (go_at_call 12; first
          | (refine ((HA2 _ (HQ.out.below HB2.out)).out).mono ?_; rintro e w3 ⟨rfl, hb⟩; have HB3 := Lib.hid (HB2.out.trans (hb.mono HB2.out.size)); clear hb)
          | (refine ((HA _ (HP.out.below HB1.out)).out).mono ?_; rintro e w2 ⟨rfl, hb⟩; have HB2 := Lib.hid (HB1.out.trans (hb.mono HB1.out.size)); clear hb)))
      go_ret
      exact ⟨rfl, HB4.out⟩
    | true =>
      simp only [h2] at HA2
      cases h3 : fewS l with
      | false =>
        simp only [h3] at HB
        clear h h1 h2 h3
        go_enter Tryz.func8, Tryz.ntmps8
        go_wp2_with (first
          | (go_at_call 11; first
            | (refine ((HF _ (HR.out.below HB4.out)).out).mono ?_; rintro e w5 ⟨rfl, hb⟩; have HB5 := Lib.hid (HB4.out.trans (hb.mono HB4.out.size)); clear hb)
            | (refine ((HF _ HR.out).out).mono ?_; rintro e w1 ⟨rfl, hb⟩; have HB1 := Lib.hid hb; clear hb))
          | (go_at_call 12; first
            | (refine ((HA2 _ (HQ.out.below HB2.out)).out).mono ?_; rintro e w3 ⟨rfl, hb⟩; have HB3 := Lib.hid (HB2.out.trans (hb.mono HB2.out.size)); clear hb)
            | (refine ((HA _ (HP.out.below HB1.out)).out).mono ?_; rintro e w2 ⟨rfl, hb⟩; have HB2 := Lib.hid (HB1.out.trans (hb.mono HB1.out.size)); clear hb))
          | (go_at_call 22; refine ((HB _ (HS.out.below HB3.out)).out).mono ?_; rintro e w4 ⟨rfl, hb⟩; have HB4 := Lib.hid (HB3.out.trans (hb.mono HB3.out.size)); clear hb))
        go_ret
        exact ⟨rfl, HB5.out⟩
      | true =>
        simp only [h3] at HB
        have h4 : 20 < p.length ∨ (¬ 20 < p.length ∧ 20 < q.length) := by
          rcases h with h | h | h | h | h
          · rw [h1] at h; cases h
          · rw [h2] at h; cases h
          · rw [h3] at h; cases h
          · exact .inl h
          · by_cases h5 : 20 < p.length
            · exact .inl h5
            · exact .inr ⟨h5, h⟩
        clear h h1 h2 h3
        rcases h4 with h4 | ⟨h4, h5⟩
        · have g4 : (p.length : Int) > 20 := by omega
          generalize p.length = pn at *
          clear h4
          go_enter Tryz.func8, Tryz.ntmps8
          go_wp2_with (first
            | (go_at_call 11; first
              | (refine ((HF _ (HR.out.below HB4.out)).out).mono ?_; rintro e w5 ⟨rfl, hb⟩; have HB5 := Lib.hid (HB4.out.trans (hb.mono HB4.out.size)); clear hb)
              | (refine ((HF _ HR.out).out).mono ?_; rintro e w1 ⟨rfl, hb⟩; have HB1 := Lib.hid hb; clear hb))
            | (go_at_call 12; first
              | (refine ((HA2 _ (HQ.out.below HB2.out)).out).mono ?_; rintro e w3 ⟨rfl, hb⟩; have HB3 := Lib.hid (HB2.out.trans (hb.mono HB2.out.size)); clear hb)
              | (refine ((HA _ (HP.out.below HB1.out)).out).mono ?_; rintro e w2 ⟨rfl, hb⟩; have HB2 := Lib.hid (HB1.out.trans (hb.mono HB1.out.size)); clear hb))
            | (go_at_call 22; refine ((HB _ (HS.out.below HB3.out)).out).mono ?_; rintro e w4 ⟨rfl, hb⟩; have HB4 := Lib.hid (HB3.out.trans (hb.mono HB3.out.size)); clear hb))
          go_ret
          exact ⟨rfl, HB5.out⟩
        · have g4 : ¬ (p.length : Int) > 20 := by omega
          have g5 : (q.length : Int) > 20 := by omega
          generalize p.length = pn at *
          generalize q.length = qn at *
          clear h4 h5
          go_enter Tryz.func8, Tryz.ntmps8
          go_wp2_with (first
            | (go_at_call 11; first
              | (refine ((HF _ (HR.out.below HB4.out)).out).mono ?_; rintro e w5 ⟨rfl, hb⟩; have HB5 := Lib.hid (HB4.out.trans (hb.mono HB4.out.size)); clear hb)
              | (refine ((HF _ HR.out).out).mono ?_; rintro e w1 ⟨rfl, hb⟩; have HB1 := Lib.hid hb; clear hb))
            | (go_at_call 12; first
              | (refine ((HA2 _ (HQ.out.below HB2.out)).out).mono ?_; rintro e w3 ⟨rfl, hb⟩; have HB3 := Lib.hid (HB2.out.trans (hb.mono HB2.out.size)); clear hb)
              | (refine ((HA _ (HP.out.below HB1.out)).out).mono ?_; rintro e w2 ⟨rfl, hb⟩; have HB2 := Lib.hid (HB1.out.trans (hb.mono HB1.out.size)); clear hb))
            | (go_at_call 22; refine ((HB _ (HS.out.below HB3.out)).out).mono ?_; rintro e w4 ⟨rfl, hb⟩; have HB4 := Lib.hid (HB3.out.trans (hb.mono HB3.out.size)); clear hb))
          go_ret
          exact ⟨rfl, HB5.out⟩
set_option maxRecDepth 100000 in
set_option maxHeartbeats 4000000 in
theorem joins_badp (hp : HasO P w vp p) (hq : HasO Q w vq q) (hs : HasN S w vs l) (hR : Rdy w) (hwp : ∀ o ∈ p, o.wf) (hwq : ∀ o ∈ q, o.wf) (h1 : fewO p = true) (h2 : fewO q = true) (h3 : fewS l = true) (h4 : p.length ≤ 20) (h5 : q.length ≤ 20) (hc : chkV p ≠ 0) :
    Calls Tryz.prog 8 #[vp, vq, vs] w fun e w' => e = .returned (.bool true) ∧ Below w.heap.size w w' := by
  have HP := Lib.hid hp
  have HQ := Lib.hid hq
  have HS := Lib.hid hs
  have HR := Lib.hid hR
  have HF := fun w hR => Lib.hid (first9_any w hR)
  have HA := fun w (hp : HasO P w vp p) => Lib.hid (fewO_any hp hwp)
  have HA2 := fun w (hq : HasO Q w vq q) => Lib.hid (fewO_any hq hwq)
  have HB := fun w (hs : HasN S w vs l) => Lib.hid (fewS_any hs)
  simp only [h1] at HA
  simp only [h2] at HA2
  simp only [h3] at HB
  have hst := run_stf
  obtain ⟨j0, ji, jz0, jz1, jz2⟩ := info_parts info_op
  have HCP := fun w (hp : HasO P w vp p) => Lib.hid (copyOps_any hp (by omega))
  have HKP : Hid (∀ {P' : Nat → Prop} {w : World} {v : Value}, HasO P' w v p → Rdy w → Calls Tryz.prog 16 #[v] w fun e w' => e = .returned (.int .i64 (chkV p)) ∧ Below w.heap.size w w') := Lib.hid (fun a b => check_any a b.stb.stp)
  have HKQ : Hid (∀ {P' : Nat → Prop} {w : World} {v : Value}, HasO P' w v q → Rdy w → Calls Tryz.prog 16 #[v] w fun e w' => e = .returned (.int .i64 (chkV q)) ∧ Below w.heap.size w w') := Lib.hid (fun a b => check_any a b.stb.stp)
  have HKB : Hid (∀ {P' : Nat → Prop} {w : World} {v : Value}, HasO P' w v (p ++ q) → Rdy w → Calls Tryz.prog 16 #[v] w fun e w' => e = .returned (.int .i64 (chkV (p ++ q))) ∧ Below w.heap.size w w') := Lib.hid (fun a b => check_any a b.stb.stp)
  obtain ⟨ap, cp, rfl⟩ := hasg_sl hp
  obtain ⟨aq, cq, rfl⟩ := hasg_sl hq
  obtain ⟨ao, cap, rfl⟩ := hasg_sl hs
  obtain ⟨pn, hpn⟩ : ∃ n, p.length = n := ⟨_, rfl⟩
  obtain ⟨qn, hqn⟩ : ∃ n, q.length = n := ⟨_, rfl⟩
  obtain ⟨ln, hln⟩ : ∃ n, l.length = n := ⟨_, rfl⟩
  have g4 : ¬ (pn : Int) > 20 := by omega
  have g5 : ¬ (qn : Int) > 20 := by omega
  have HAO := Lib.hid (hasg_none hq)
  have HAL := Lib.hid (show (cellsG opC q).length = q.length * 5 from length_cellsG opC_len q)
  have HA1 := Lib.hid (show pn + qn ≤ maxLen by unfold maxLen; omega)
  have HA22 := Lib.hid (show (pn + qn) * 56 ≤ 140737488355328 by omega)
  have HPN := Lib.hid hpn
  have HQN := Lib.hid hqn
  have HLN := Lib.hid hln
  rw [hpn] at HP HA HCP
  rw [hqn] at HQ HA2 HAO HAL
  rw [hln] at HS HB
  rw [hpn, hqn, hln]
  clear hp hq hs hR hwp hwq h1 h2 h3 h4 h5 hpn hqn hln
  have hz : (chkV p != 0) = true := by simpa using hc
  clear hc
  generalize chkV p = z at *
  go_enter Tryz.func8, Tryz.ntmps8
  go_wp2_with (first
    | (go_at_call 11; first
      | (refine ((HF _ (HR.out.below HB7.out)).out).mono ?_; rintro e w8 ⟨rfl, hb⟩; have HB8 := Lib.hid (HB7.out.trans (hb.mono HB7.out.size)); have HV8 := Lib.hid (HV7.out.below hb); clear hb)
      | (refine ((HF _ HR.out).out).mono ?_; rintro e w1 ⟨rfl, hb⟩; have HB1 := Lib.hid hb; clear hb))
    | (go_at_call 12; first
      | (refine ((HA2 _ (HQ.out.below HB2.out)).out).mono ?_; rintro e w3 ⟨rfl, hb⟩; have HB3 := Lib.hid (HB2.out.trans (hb.mono HB2.out.size)); clear hb)
      | (refine ((HA _ (HP.out.below HB1.out)).out).mono ?_; rintro e w2 ⟨rfl, hb⟩; have HB2 := Lib.hid (HB1.out.trans (hb.mono HB1.out.size)); clear hb))
    | (go_at_call 22; refine ((HB _ (HS.out.below HB3.out)).out).mono ?_; rintro e w4 ⟨rfl, hb⟩; have HB4 := Lib.hid (HB3.out.trans (hb.mono HB3.out.size)); clear hb)
    | (go_at_call 13; refine ((HCP _ (HP.out.below HB4.out)).out).mono ?_; rintro e w5 ⟨u5, rfl, hb, ho⟩; have HB5 := Lib.hid (HB4.out.trans (hb.mono HB4.out.size)); have HO5 := Lib.hid (ho); have HB5s := Lib.hid hb.size; clear hb ho)
    | (go_at_call 16; refine (HKP.out (HP.out.below HB6.out) (HR.out.below HB6.out)).mono ?_; rintro e w7 ⟨rfl, hb⟩; have HB7 := Lib.hid (HB6.out.trans (hb.mono HB6.out.size)); have HV7 := Lib.hid (HV6.out.below hb); clear hb)
    | (at_builtin; have q4 := (HQ.out.below HB5.out).news opC_len; have q2 := HB5s.out; refine wpList_append_row9 rfl (.tmp 50) (.tmp 51) 22 rfl w4.heap.size 59 j0 (oagg OpV.zero) 5 56 under_ops ji jz0 jz1 jz2 rfl (by decide) _ _ _ rfl HO5.out aq qn cq (cellsG opC q) rfl HAO.out HAL.out q4 (one_ops q) HA1.out HA22.out q2 ?_; clear q2 q4; intro v6 w6 hown' hgrow; have HB6 := Lib.hid (HB5.out.grown hgrow HB5.out.size (fun z hz => Nat.le_trans HB4.out.size (HO5.out.lt z hz).1)); have HV6 : Hid (HasO (fun k => w4.heap.size ≤ k) w6 v6 (p ++ q)) := Lib.hid (own_hasG opC_len (by rw [List.length_append, cellsG_append, HPN.out, HQN.out]; exact hown')); clear hown' hgrow))
  go_ret
  exact ⟨rfl, HB8.out⟩
set_option maxRecDepth 100000 in
set_option maxHeartbeats 4000000 in
theorem joins_badq (hp : HasO P w vp p) (hq : HasO Q w vq q) (hs : HasN S w vs l) (hR : Rdy w) (hwp : ∀ o ∈ p, o.wf) (hwq : ∀ o ∈ q, o.wf) (h1 : fewO p = true) (h2 : fewO q = true) (h3 : fewS l = true) (h4 : p.length ≤ 20) (h5 : q.length ≤ 20) (hc : chkV p = 0 ∧ chkV q ≠ 0) :
    Calls Tryz.prog 8 #[vp, vq, vs] w fun e w' => e = .returned (.bool true) ∧ Below w.heap.size w w' := by
  have HP := Lib.hid hp
  have HQ := Lib.hid hq
  have HS := Lib.hid hs
  have HR := Lib.hid hR
  have HF := fun w hR => Lib.hid (first9_any w hR)
  have HA := fun w (hp : HasO P w vp p) => Lib.hid (fewO_any hp hwp)
  have HA2 := fun w (hq : HasO Q w vq q) => Lib.hid (fewO_any hq hwq)
  have HB := fun w (hs : HasN S w vs l) => Lib.hid (fewS_any hs)
  simp only [h1] at HA
  simp only [h2] at HA2
  simp only [h3] at HB
  have hst := run_stf
  obtain ⟨j0, ji, jz0, jz1, jz2⟩ := info_parts info_op
  have HCP := fun w (hp : HasO P w vp p) => Lib.hid (copyOps_any hp (by omega))
  have HKP : Hid (∀ {P' : Nat → Prop} {w : World} {v : Value}, HasO P' w v p → Rdy w → Calls Tryz.prog 16 #[v] w fun e w' => e = .returned (.int .i64 (chkV p)) ∧ Below w.heap.size w w') := Lib.hid (fun a b => check_any a b.stb.stp)
  have HKQ : Hid (∀ {P' : Nat → Prop} {w : World} {v : Value}, HasO P' w v q → Rdy w → Calls Tryz.prog 16 #[v] w fun e w' => e = .returned (.int .i64 (chkV q)) ∧ Below w.heap.size w w') := Lib.hid (fun a b => check_any a b.stb.stp)
  have HKB : Hid (∀ {P' : Nat → Prop} {w : World} {v : Value}, HasO P' w v (p ++ q) → Rdy w → Calls Tryz.prog 16 #[v] w fun e w' => e = .returned (.int .i64 (chkV (p ++ q))) ∧ Below w.heap.size w w') := Lib.hid (fun a b => check_any a b.stb.stp)
  obtain ⟨ap, cp, rfl⟩ := hasg_sl hp
  obtain ⟨aq, cq, rfl⟩ := hasg_sl hq
  obtain ⟨ao, cap, rfl⟩ := hasg_sl hs
  obtain ⟨pn, hpn⟩ : ∃ n, p.length = n := ⟨_, rfl⟩
  obtain ⟨qn, hqn⟩ : ∃ n, q.length = n := ⟨_, rfl⟩
  obtain ⟨ln, hln⟩ : ∃ n, l.length = n := ⟨_, rfl⟩
  have g4 : ¬ (pn : Int) > 20 := by omega
  have g5 : ¬ (qn : Int) > 20 := by omega
  have HAO := Lib.hid (hasg_none hq)
  have HAL := Lib.hid (show (cellsG opC q).length = q.length * 5 from length_cellsG opC_len q)
  have HA1 := Lib.hid (show pn + qn ≤ maxLen by unfold maxLen; omega)
  have HA22 := Lib.hid (show (pn + qn) * 56 ≤ 140737488355328 by omega)
  have HPN := Lib.hid hpn
  have HQN := Lib.hid hqn
  have HLN := Lib.hid hln
  rw [hpn] at HP HA HCP
  rw [hqn] at HQ HA2 HAO HAL
  rw [hln] at HS HB
  rw [hpn, hqn, hln]
  clear hp hq hs hR hwp hwq h1 h2 h3 h4 h5 hpn hqn hln
  have hz : (chkV q != 0) = true := by simpa using hc.2
  simp only [hc.1] at HKP
  clear hc
  generalize chkV q = z at *
  go_enter Tryz.func8, Tryz.ntmps8
  go_wp2_with (first
    | (go_at_call 11; first
      | (refine ((HF _ (HR.out.below HB8.out)).out).mono ?_; rintro e w9 ⟨rfl, hb⟩; have HB9 := Lib.hid (HB8.out.trans (hb.mono HB8.out.size)); have HV9 := Lib.hid (HV8.out.below hb); clear hb)
      | (refine ((HF _ HR.out).out).mono ?_; rintro e w1 ⟨rfl, hb⟩; have HB1 := Lib.hid hb; clear hb))
    | (go_at_call 12; first
      | (refine ((HA2 _ (HQ.out.below HB2.out)).out).mono ?_; rintro e w3 ⟨rfl, hb⟩; have HB3 := Lib.hid (HB2.out.trans (hb.mono HB2.out.size)); clear hb)
      | (refine ((HA _ (HP.out.below HB1.out)).out).mono ?_; rintro e w2 ⟨rfl, hb⟩; have HB2 := Lib.hid (HB1.out.trans (hb.mono HB1.out.size)); clear hb))
    | (go_at_call 22; refine ((HB _ (HS.out.below HB3.out)).out).mono ?_; rintro e w4 ⟨rfl, hb⟩; have HB4 := Lib.hid (HB3.out.trans (hb.mono HB3.out.size)); clear hb)
    | (go_at_call 13; refine ((HCP _ (HP.out.below HB4.out)).out).mono ?_; rintro e w5 ⟨u5, rfl, hb, ho⟩; have HB5 := Lib.hid (HB4.out.trans (hb.mono HB4.out.size)); have HO5 := Lib.hid (ho); have HB5s := Lib.hid hb.size; clear hb ho)
    | (go_at_call 16; first
      | (refine (HKQ.out (HQ.out.below HB7.out) (HR.out.below HB7.out)).mono ?_; rintro e w8 ⟨rfl, hb⟩; have HB8 := Lib.hid (HB7.out.trans (hb.mono HB7.out.size)); have HV8 := Lib.hid (HV7.out.below hb); clear hb)
      | (refine (HKP.out (HP.out.below HB6.out) (HR.out.below HB6.out)).mono ?_; rintro e w7 ⟨rfl, hb⟩; have HB7 := Lib.hid (HB6.out.trans (hb.mono HB6.out.size)); have HV7 := Lib.hid (HV6.out.below hb); clear hb))
    | (at_builtin; have q4 := (HQ.out.below HB5.out).news opC_len; have q2 := HB5s.out; refine wpList_append_row9 rfl (.tmp 50) (.tmp 51) 22 rfl w4.heap.size 59 j0 (oagg OpV.zero) 5 56 under_ops ji jz0 jz1 jz2 rfl (by decide) _ _ _ rfl HO5.out aq qn cq (cellsG opC q) rfl HAO.out HAL.out q4 (one_ops q) HA1.out HA22.out q2 ?_; clear q2 q4; intro v6 w6 hown' hgrow; have HB6 := Lib.hid (HB5.out.grown hgrow HB5.out.size (fun z hz => Nat.le_trans HB4.out.size (HO5.out.lt z hz).1)); have HV6 : Hid (HasO (fun k => w4.heap.size ≤ k) w6 v6 (p ++ q)) := Lib.hid (own_hasG opC_len (by rw [List.length_append, cellsG_append, HPN.out, HQN.out]; exact hown')); clear hown' hgrow))
  go_ret
  exact ⟨rfl, HB9.out⟩
set_option maxRecDepth 100000 in
set_option maxHeartbeats 4000000 in
theorem joins_badb (hp : HasO P w vp p) (hq : HasO Q w vq q) (hs : HasN S w vs l) (hR : Rdy w) (hwp : ∀ o ∈ p, o.wf) (hwq : ∀ o ∈ q, o.wf) (h1 : fewO p = true) (h2 : fewO q = true) (h3 : fewS l = true) (h4 : p.length ≤ 20) (h5 : q.length ≤ 20) (hc : chkV p = 0 ∧ chkV q = 0 ∧ chkV (p ++ q) ≠ 0) :
    Calls Tryz.prog 8 #[vp, vq, vs] w fun e w' => e = .returned (.bool true) ∧ Below w.heap.size w w' := by
  have HP := Lib.hid hp
  have HQ := Lib.hid hq
  have HS := Lib.hid hs
  have HR := Lib.hid hR
  have HF := fun w hR => Lib.hid (first9_any w hR)
  have HA := fun w (hp : HasO P w vp p) => Lib.hid (fewO_any hp hwp)
  have HA2 := fun w (hq : HasO Q w vq q) => Lib.hid (fewO_any hq hwq)
  have HB := fun w (hs : HasN S w vs l) => Lib.hid (fewS_any hs)
  simp only [h1] at HA
  simp only [h2] at HA2
  simp only [h3] at HB
  have hst := run_stf
  obtain ⟨j0, ji, jz0, jz1, jz2⟩ := info_parts info_op
  have HCP := fun w (hp : HasO P w vp p) => Lib.hid (copyOps_any hp (by omega))
  have HKP : Hid (∀ {P' : Nat → Prop} {w : World} {v : Value}, HasO P' w v p → Rdy w → Calls Tryz.prog 16 #[v] w fun e w' => e = .returned (.int .i64 (chkV p)) ∧ Below w.heap.size w w') := Lib.hid (fun a b => check_any a b.stb.stp)
  have HKQ : Hid (∀ {P' : Nat → Prop} {w : World} {v : Value}, HasO P' w v q → Rdy w → Calls Tryz.prog 16 #[v] w fun e w' => e = .returned (.int .i64 (chkV q)) ∧ Below w.heap.size w w') := Lib.hid (fun a b => check_any a b.stb.stp)
  have HKB : Hid (∀ {P' : Nat → Prop} {w : World} {v : Value}, HasO P' w v (p ++ q) → Rdy w → Calls Tryz.prog 16 #[v] w fun e w' => e = .returned (.int .i64 (chkV (p ++ q))) ∧ Below w.heap.size w w') := Lib.hid (fun a b => check_any a b.stb.stp)
  obtain ⟨ap, cp, rfl⟩ := hasg_sl hp
  obtain ⟨aq, cq, rfl⟩ := hasg_sl hq
  obtain ⟨ao, cap, rfl⟩ := hasg_sl hs
  obtain ⟨pn, hpn⟩ : ∃ n, p.length = n := ⟨_, rfl⟩
  obtain ⟨qn, hqn⟩ : ∃ n, q.length = n := ⟨_, rfl⟩
  obtain ⟨ln, hln⟩ : ∃ n, l.length = n := ⟨_, rfl⟩
  have g4 : ¬ (pn : Int) > 20 := by omega
  have g5 : ¬ (qn : Int) > 20 := by omega
  have HAO := Lib.hid (hasg_none hq)
  have HAL := Lib.hid (show (cellsG opC q).length = q.length * 5 from length_cellsG opC_len q)
  have HA1 := Lib.hid (show pn + qn ≤ maxLen by unfold maxLen; omega)
  have HA22 := Lib.hid (show (pn + qn) * 56 ≤ 140737488355328 by omega)
  have HPN := Lib.hid hpn
  have HQN := Lib.hid hqn
  have HLN := Lib.hid hln
  rw [hpn] at HP HA HCP
  rw [hqn] at HQ HA2 HAO HAL
  rw [hln] at HS HB
  rw [hpn, hqn, hln]
  clear hp hq hs hR hwp hwq h1 h2 h3 h4 h5 hpn hqn hln
  have hz : (chkV (p ++ q) != 0) = true := by simpa using hc.2.2
  simp only [hc.1] at HKP
  simp only [hc.2.1] at HKQ
  clear hc
  generalize chkV (p ++ q) = z at *
  go_enter Tryz.func8, Tryz.ntmps8
  go_wp2_with (first
    | (go_at_call 11; first
      | (refine ((HF _ (HR.out.below HB9.out)).out).mono ?_; rintro e w10 ⟨rfl, hb⟩; have HB10 := Lib.hid (HB9.out.trans (hb.mono HB9.out.size)); have HV10 := Lib.hid (HV9.out.below hb); clear hb)
      | (refine ((HF _ HR.out).out).mono ?_; rintro e w1 ⟨rfl, hb⟩; have HB1 := Lib.hid hb; clear hb))
    | (go_at_call 12; first
      | (refine ((HA2 _ (HQ.out.below HB2.out)).out).mono ?_; rintro e w3 ⟨rfl, hb⟩; have HB3 := Lib.hid (HB2.out.trans (hb.mono HB2.out.size)); clear hb)
      | (refine ((HA _ (HP.out.below HB1.out)).out).mono ?_; rintro e w2 ⟨rfl, hb⟩; have HB2 := Lib.hid (HB1.out.trans (hb.mono HB1.out.size)); clear hb))
    | (go_at_call 22; refine ((HB _ (HS.out.below HB3.out)).out).mono ?_; rintro e w4 ⟨rfl, hb⟩; have HB4 := Lib.hid (HB3.out.trans (hb.mono HB3.out.size)); clear hb)
    | (go_at_call 13; refine ((HCP _ (HP.out.below HB4.out)).out).mono ?_; rintro e w5 ⟨u5, rfl, hb, ho⟩; have HB5 := Lib.hid (HB4.out.trans (hb.mono HB4.out.size)); have HO5 := Lib.hid (ho); have HB5s := Lib.hid hb.size; clear hb ho)
    | (go_at_call 16; first
      | (refine (HKB.out HV8.out (HR.out.below HB8.out)).mono ?_; rintro e w9 ⟨rfl, hb⟩; have HB9 := Lib.hid (HB8.out.trans (hb.mono HB8.out.size)); have HV9 := Lib.hid (HV8.out.below hb); clear hb)
      | (refine (HKQ.out (HQ.out.below HB7.out) (HR.out.below HB7.out)).mono ?_; rintro e w8 ⟨rfl, hb⟩; have HB8 := Lib.hid (HB7.out.trans (hb.mono HB7.out.size)); have HV8 := Lib.hid (HV7.out.below hb); clear hb)
      | (refine (HKP.out (HP.out.below HB6.out) (HR.out.below HB6.out)).mono ?_; rintro e w7 ⟨rfl, hb⟩; have HB7 := Lib.hid (HB6.out.trans (hb.mono HB6.out.size)); have HV7 := Lib.hid (HV6.out.below hb); clear hb))
    | (at_builtin; have q4 := (HQ.out.below HB5.out).news opC_len; have q2 := HB5s.out; refine wpList_append_row9 rfl (.tmp 50) (.tmp 51) 22 rfl w4.heap.size 59 j0 (oagg OpV.zero) 5 56 under_ops ji jz0 jz1 jz2 rfl (by decide) _ _ _ rfl HO5.out aq qn cq (cellsG opC q) rfl HAO.out HAL.out q4 (one_ops q) HA1.out HA22.out q2 ?_; clear q2 q4; intro v6 w6 hown' hgrow; have HB6 := Lib.hid (HB5.out.grown hgrow HB5.out.size (fun z hz => Nat.le_trans HB4.out.size (HO5.out.lt z hz).1)); have HV6 : Hid (HasO (fun k => w4.heap.size ≤ k) w6 v6 (p ++ q)) := Lib.hid (own_hasG opC_len (by rw [List.length_append, cellsG_append, HPN.out, HQN.out]; exact hown')); clear hown' hgrow))
  go_ret
  exact ⟨rfl, HB10.out⟩
set_option maxRecDepth 100000 in
set_option maxHeartbeats 16000000 in
theorem joins_go (hp : HasO P w vp p) (hq : HasO Q w vq q) (hs : HasN S w vs l) (hR : Rdy w) (hwp : ∀ o ∈ p, o.wf) (hwq : ∀ o ∈ q, o.wf) (hws : ∀ s ∈ l, s.wf) (h1 : fewO p = true) (h2 : fewO q = true) (h3 : fewS l = true) (h4 : p.length ≤ 20) (h5 : q.length ≤ 20) (hcp : chkV p = 0) (hcq : chkV q = 0) (hcb : chkV (p ++ q) = 0) :
    Calls Tryz.prog 8 #[vp, vq, vs] w fun e w' => e = .returned (.bool true) ∧ Below w.heap.size w w' := by
  have HP := Lib.hid hp
  have HQ := Lib.hid hq
  have HS := Lib.hid hs
  have HR := Lib.hid hR
  have HF := fun w hR => Lib.hid (first9_any w hR)
  have HA := fun w (hp : HasO P w vp p) => Lib.hid (fewO_any hp hwp)
  have HA2 := fun w (hq : HasO Q w vq q) => Lib.hid (fewO_any hq hwq)
  have HB := fun w (hs : HasN S w vs l) => Lib.hid (fewS_any hs)
  simp only [h1] at HA
  simp only [h2] at HA2
  simp only [h3] at HB
  have hst := run_stf
  obtain ⟨j0, ji, jz0, jz1, jz2⟩ := info_parts info_op
  have HCP := fun w (hp : HasO P w vp p) => Lib.hid (copyOps_any hp (by omega))
  have HKP : Hid (∀ {P' : Nat → Prop} {w : World} {v : Value}, HasO P' w v p → Rdy w → Calls Tryz.prog 16 #[v] w fun e w' => e = .returned (.int .i64 (chkV p)) ∧ Below w.heap.size w w') := Lib.hid (fun a b => check_any a b.stb.stp)
  have HKQ : Hid (∀ {P' : Nat → Prop} {w : World} {v : Value}, HasO P' w v q → Rdy w → Calls Tryz.prog 16 #[v] w fun e w' => e = .returned (.int .i64 (chkV q)) ∧ Below w.heap.size w w') := Lib.hid (fun a b => check_any a b.stb.stp)
  have HKB : Hid (∀ {P' : Nat → Prop} {w : World} {v : Value}, HasO P' w v (p ++ q) → Rdy w → Calls Tryz.prog 16 #[v] w fun e w' => e = .returned (.int .i64 (chkV (p ++ q))) ∧ Below w.heap.size w w') := Lib.hid (fun a b => check_any a b.stb.stp)
  have hRD := fun {Rq : List Nm} {n : Nat} (h : readsV (p ++ q) = Rq) (hn : Rq.length = n) (w : World) (v : Value) (P : Nat → Prop) (hv : HasO P w v (p ++ q)) => Lib.hid (readsS_any hv (by rw [List.length_append]; omega) h hn)
  obtain ⟨Rq, hRq⟩ : ∃ R, readsV (p ++ q) = R := ⟨_, rfl⟩
  obtain ⟨Rn, hRn⟩ : ∃ n, Rq.length = n := ⟨_, rfl⟩
  have HRD := fun w v P hv => hRD hRq hRn w v P hv
  clear hRD
  have hwb : ∀ o ∈ p ++ q, o.wf := fun o ho => by
    rcases List.mem_append.1 ho with ho | ho
    · exact hwp o ho
    · exact hwq o ho
  have hR40 : Rn ≤ 40 := by have := length_setV (keysV isRd (p ++ q)); have := keysV_le isRd (p ++ q); rw [← hRn, ← hRq]; unfold readsV; rw [List.length_append] at *; omega
  have hl200 := fewS_len h3
  have hpq40 : (p ++ q).length ≤ 1000000 := by rw [List.length_append]; omega
  have HUP := fun (w : World) (hp : HasO P w vp p) (hs : HasN S w vs l) (hR : Rdy w) => Lib.hid (run_any hp hs hR.stb.stp (by omega) (fun o ho => (hwp o ho).2.2) hws)
  have HUB := fun (w : World) (v : Value) (Q' : Nat → Prop) (hp : HasO Q' w v (p ++ q)) (hs : HasN S w vs l) (hR : Rdy w) => Lib.hid (run_any hp hs hR.stb.stp (by omega) (fun o ho => (hwb o ho).2.2) hws)
  have HWP := Lib.hid hwp
  have HWQ := Lib.hid hwq
  have HWS := Lib.hid hws
  have HRN := Lib.hid hRn
  have HRQ := Lib.hid hRq
  obtain ⟨ap, cp, rfl⟩ := hasg_sl hp
  obtain ⟨aq, cq, rfl⟩ := hasg_sl hq
  obtain ⟨ao, cap, rfl⟩ := hasg_sl hs
  obtain ⟨pn, hpn⟩ : ∃ n, p.length = n := ⟨_, rfl⟩
  obtain ⟨qn, hqn⟩ : ∃ n, q.length = n := ⟨_, rfl⟩
  obtain ⟨ln, hln⟩ : ∃ n, l.length = n := ⟨_, rfl⟩
  have g4 : ¬ (pn : Int) > 20 := by omega
  have g5 : ¬ (qn : Int) > 20 := by omega
  have HAO := Lib.hid (hasg_none hq)
  have HAL := Lib.hid (show (cellsG opC q).length = q.length * 5 from length_cellsG opC_len q)
  have HA1 := Lib.hid (show pn + qn ≤ maxLen by unfold maxLen; omega)
  have HA22 := Lib.hid (show (pn + qn) * 56 ≤ 140737488355328 by omega)
  have HPN := Lib.hid hpn
  have HQN := Lib.hid hqn
  have HLN := Lib.hid hln
  simp only [hcp] at HKP
  simp only [hcq] at HKQ
  simp only [hcb] at HKB
  have HCP0 := Lib.hid hcp
  have HCQ0 := Lib.hid hcq
  have HCB0 := Lib.hid hcb
  rw [hpn] at HP HA HCP HUP
  rw [hqn] at HQ HA2 HAO HAL
  rw [hln] at HS HB HUP HUB
  rw [hpn, hqn, hln]
  have hl200' : ln ≤ 200 := by omega
  clear hp hq hs hR hwp hwq hws h1 h2 h3 h4 h5 hpn hqn hln hcp hcq hcb hRq hRn hwb hl200 hpq40
  go_enter Tryz.func8, Tryz.ntmps8
  go_wp2_with (first
    | (go_at_call 11; refine ((HF _ HR.out).out).mono ?_; rintro e w1 ⟨rfl, hb⟩; have HB1 := Lib.hid hb; clear hb)
    | (go_at_call 12; first
      | (refine ((HA2 _ (HQ.out.below HB2.out)).out).mono ?_; rintro e w3 ⟨rfl, hb⟩; have HB3 := Lib.hid (HB2.out.trans (hb.mono HB2.out.size)); clear hb)
      | (refine ((HA _ (HP.out.below HB1.out)).out).mono ?_; rintro e w2 ⟨rfl, hb⟩; have HB2 := Lib.hid (HB1.out.trans (hb.mono HB1.out.size)); clear hb))
    | (go_at_call 22; refine ((HB _ (HS.out.below HB3.out)).out).mono ?_; rintro e w4 ⟨rfl, hb⟩; have HB4 := Lib.hid (HB3.out.trans (hb.mono HB3.out.size)); clear hb)
    | (go_at_call 13; refine ((HCP _ (HP.out.below HB4.out)).out).mono ?_; rintro e w5 ⟨u5, rfl, hb, ho⟩; have HB5 := Lib.hid (HB4.out.trans (hb.mono HB4.out.size)); have HO5 := Lib.hid (ho); have HB5s := Lib.hid hb.size; clear hb ho)
    | (go_at_call 16; first
      | (refine (HKB.out HV8.out (HR.out.below HB8.out)).mono ?_; rintro e w9 ⟨rfl, hb⟩; have HB9 := Lib.hid (HB8.out.trans (hb.mono HB8.out.size)); have HV9 := Lib.hid (HV8.out.below hb); clear hb)
      | (refine (HKQ.out (HQ.out.below HB7.out) (HR.out.below HB7.out)).mono ?_; rintro e w8 ⟨rfl, hb⟩; have HB8 := Lib.hid (HB7.out.trans (hb.mono HB7.out.size)); have HV8 := Lib.hid (HV7.out.below hb); clear hb)
      | (refine (HKP.out (HP.out.below HB6.out) (HR.out.below HB6.out)).mono ?_; rintro e w7 ⟨rfl, hb⟩; have HB7 := Lib.hid (HB6.out.trans (hb.mono HB6.out.size)); have HV7 := Lib.hid (HV6.out.below hb); clear hb))
    | (go_at_call 14; refine ((HRD _ _ _ HV9.out).out).mono ?_; rintro e w10 ⟨a10, c10, rfl, hb, hk⟩; have HB10 := Lib.hid (HB9.out.trans (hb.mono HB9.out.size)); have HV10 := Lib.hid (HV9.out.below hb); have RA10 := Lib.hid (hk); clear hb hk)
    | (at_builtin; have q4 := (HQ.out.below HB5.out).news opC_len; have q2 := HB5s.out; refine wpList_append_row9 rfl (.tmp 50) (.tmp 51) 22 rfl w4.heap.size 59 j0 (oagg OpV.zero) 5 56 under_ops ji jz0 jz1 jz2 rfl (by decide) _ _ _ rfl HO5.out aq qn cq (cellsG opC q) rfl HAO.out HAL.out q4 (one_ops q) HA1.out HA22.out q2 ?_; clear q2 q4; intro v6 w6 hown' hgrow; have HB6 := Lib.hid (HB5.out.grown hgrow HB5.out.size (fun z hz => Nat.le_trans HB4.out.size (HO5.out.lt z hz).1)); have HV6 : Hid (HasO (fun k => w4.heap.size ≤ k) w6 v6 (p ++ q)) := Lib.hid (own_hasG opC_len (by rw [List.length_append, cellsG_append, HPN.out, HQN.out]; exact hown')); clear hown' hgrow))
  go_loopw [9, 10, 11] (fun vi _ _ wr => ∃ i : Nat, vi = .int .i64 i ∧ i ≤ Rn ∧ Hid (∀ k ∈ Rq.take i, (seenO l k).isSome = true ∧ mayV (seenF l k) = true) ∧ Hid (Below w10.heap.size w10 wr)) (fun vi _ _ _ => Rn - (intOf vi).toNat)
  case atStart => exact ⟨0, rfl, Nat.zero_le _, Lib.hid (fun k hk => by cases hk), Lib.hid (Below.refl _ _)⟩
  case round =>
    obtain ⟨i, rfl, hi2, HI, HBi⟩ := hrel
    by_cases hlt : i < Rn
    · have hi' : i < Rq.length := by rw [HRN.out]; exact hlt
      obtain ⟨b2, o2, rfl, hb2, _, hc2⟩ := hasg_at RA10.out hi'
      have c2 := hc2 0 _ rfl
      rw [Nat.mul_one, Nat.add_zero] at c2
      have C2 := Lib.hid c2
      have HIN : Hid ((seenO l Rq[i]).isSome = true ∧ mayV (seenF l Rq[i]) = true → ∀ k ∈ Rq.take (i + 1), (seenO l k).isSome = true ∧ mayV (seenF l k) = true) := Lib.hid (fun h k hk => by
        rw [List.take_add_one, List.getElem?_eq_getElem hi'] at hk
        rcases List.mem_append.1 hk with hk | hk
        · exact HI.out k hk
        · obtain rfl : k = Rq[i] := by simpa using hk
          exact h)
      clear hc2 c2 HI
      generalize Rq[i] = key at *
      clear hi'
      obtain ⟨wy, rfl⟩ : ∃ wy, wy = wr := ⟨_, rfl⟩
      go_wp2_with fail
      go_loopw [10, 11] (fun vo vj wr2 => ∃ (j : Nat) (b : Bool), vj = .int .i64 j ∧ vo = .bool b ∧ j ≤ ln ∧ Hid (Below w10.heap.size w10 wr2) ∧ Hid (Fnd l key j b)) (fun _ vj _ => ln - (intOf vj).toNat)
      case atStart => exact ⟨0, false, rfl, rfl, Nat.zero_le _, HBi, Lib.hid (by intro s hs; cases hs)⟩
      case round =>
        obtain ⟨j, fnd, rfl, rfl, hj, HBj, HK⟩ := hrel
        have HBu := Lib.hid (HB10.out.trans (HBj.out.mono HB10.out.size))
        cases fnd with
        | true =>
          have HX := Lib.hid (HIN.out HK.out)
          by_cases hltj : j < ln
          all_goals
            go_wp2_with fail
            go_roundw
            case rel => exact ⟨i + 1, by go_num, by omega, HX, HBj⟩
            case measure => simp [intOf]; omega
        | false =>
          by_cases hltj : j < ln
          · have hj' : j < l.length := by rw [HLN.out]; exact hltj
            obtain ⟨b, o, rfl, hb, _, hc⟩ := hasg_at (HS.out.below HBu.out) hj'
            have HG := Lib.hid hc.sn
            have HFS := Lib.hid (fun he => seen_hit hj' HK.out he)
            have HKN : Hid (l[j].key ≠ key → Fnd l key (j + 1) false) := Lib.hid (fun h => (by
              intro s hs
              rw [take_snocN hj'] at hs
              rcases List.mem_append.1 hs with h1 | h1
              · exact HK.out s h1
              · rw [List.mem_singleton.1 h1]; exact h))
            clear hc
            generalize l[j] = r at *
            have r0 := HG.out.c0; have r1 := HG.out.c1; have r2 := HG.out.c2; have r3 := HG.out.c3
            have c2 : wr.cell? ⟨b2, o2 + i, none⟩ = some (.string ⟨key.toArray⟩) := (HBj.out.cell (p := ⟨b2, o2 + i, none⟩) hb2).trans C2.out
            obtain ⟨rk, ⟨vk, vx, vs⟩, ra, rb, rc⟩ := r
            simp only at HFS HKN
            by_cases hkk : rk = key
            · subst hkk
              have HFE := Lib.hid (HFS.out rfl)
              have HMY := fun w => Lib.hid (rmay_any ⟨vk, vx, vs⟩ w)
              have HFD : Hid (mayV ⟨vk, vx, vs⟩ = true → Fnd l rk (j + 1) true) := Lib.hid (fun h => ⟨by rw [HFE.out]; rfl, by unfold seenF; rw [HFE.out]; exact h⟩)
              clear HKN HFS
              generalize mayV ⟨vk, vx, vs⟩ = mv at *
              go_wp2_with fail
              go_quiet (fail)
              have HB2 := Lib.hid (HBj.out.trans ((below_drewN wr nq).mono HBj.out.size))
              have HG2 := Lib.hid (HG.out.below (below_drewN wr nq) hb)
              have r0 := HG2.out.c0; have r1 := HG2.out.c1; have r2 := HG2.out.c2; have r3 := HG2.out.c3
              generalize wr.drewN nq = w2 at *
              cases mv with
              | true =>
                have HFT := Lib.hid (HFD.out rfl)
                clear HFD HIN
                go_wp2_with (go_at_call 33; refine (HMY _).out.mono ?_; rintro e w3 ⟨rfl, hb3⟩; have HB3 := Lib.hid (HB2.out.trans (hb3.mono HB2.out.size)); clear hb3)
                go_roundw
                case rel => exact ⟨j + 1, true, by go_num, rfl, by omega, HB3, HFT⟩
                case measure => simp [intOf]; omega
              | false =>
                clear HFD HIN
                go_wp2_with (first
                  | (go_at_call 33; refine (HMY _).out.mono ?_; rintro e w3 ⟨rfl, hb3⟩; have HB11 := Lib.hid (HB10.out.trans ((HB2.out.trans (hb3.mono HB2.out.size)).mono HB10.out.size)); clear hb3)
                  | (go_at_call 11; refine (HF _ (HR.out.below HB11.out)).out.mono ?_; rintro e w12 ⟨rfl, hb⟩; have HB12 := Lib.hid (HB11.out.trans (hb.mono HB11.out.size)); clear hb))
                go_ret
                exact ⟨rfl, HB12.out⟩
            · have hne : (rk == key) = false := beq_eq_false_iff_ne.2 hkk
              have hnd : decide (rk = key) = false := decide_eq_false hkk
              have HKN := Lib.hid (HKN.out hkk)
              clear HFS hkk
              go_wp2_with fail
              go_quiet (fail)
              have HB2 := Lib.hid (HBj.out.trans ((below_drewN wr nq).mono HBj.out.size))
              generalize wr.drewN nq = w2 at *
              go_wp2_with fail
              go_roundw
              case rel => exact ⟨j + 1, false, by go_num, rfl, by omega, HB2, HKN⟩
              case measure => simp [intOf]; omega
          · obtain rfl : j = ln := by omega
            have HB11 := HBu
            clear HIN HK
            go_wp2_with (go_at_call 11; refine (HF _ (HR.out.below HB11.out)).out.mono ?_; rintro e w12 ⟨rfl, hb⟩; have HB12 := Lib.hid (HB11.out.trans (hb.mono HB11.out.size)); clear hb)
            go_ret
            exact ⟨rfl, HB12.out⟩
    · obtain rfl : i = Rn := by omega
      have hsaw : saw l (readsV (p ++ q)) = 0 := saw_zero.2 fun k hk => HI.out k (by rw [List.take_of_length_le (by rw [HRN.out]; exact Nat.le_refl _), ← HRQ.out]; exact hk)
      have hj := join_run HWP.out HWS.out HCP0.out HCQ0.out HCB0.out hsaw
      have hmay := fun h => runV_may (p := p) (l := l) HWP.out HWS.out h
      obtain ⟨r1, hr1⟩ : ∃ r, runV p l = r := ⟨_, rfl⟩
      obtain ⟨r2, hr2⟩ : ∃ r, runV (p ++ q) l = r := ⟨_, rfl⟩
      simp only [hr1] at HUP hj hmay
      simp only [hr2] at HUB hj
      obtain ⟨W, ee⟩ := r1
      obtain ⟨A, gg⟩ := r2
      simp only at HUP HUB hj hmay
      obtain ⟨Wn, hWn⟩ : ∃ n, W.length = n := ⟨_, rfl⟩
      obtain ⟨An, hAn⟩ : ∃ n, A.length = n := ⟨_, rfl⟩
      have HWN := Lib.hid hWn
      have HAN := Lib.hid hAn
      obtain ⟨w11, rfl⟩ : ∃ w11, w11 = wr := ⟨_, rfl⟩
      have HB11 := Lib.hid (HB10.out.trans (HBi.out.mono HB10.out.size))
      have HV11 := Lib.hid (HV10.out.below HBi.out)
      clear hr1 hr2 hsaw HI
      by_cases he : ee = 0
      · have hjj := hj.2 he
        have hm := hmay he
        clear hmay hj
        subst he
        have hj1 := hjj.1
        have hj2 := hjj.2
        clear hjj
        obtain ⟨m1, m2, m3⟩ := hm
        have hW16 : Wn ≤ 16 := by rw [← hWn, ← length_names, m3]; exact (chkV_ok HCP0.out).2.2.2
        have hwo : ∀ s ∈ ovr W l, s.wf := ovr_wf (fun x hx => ⟨names_short (p := p) (by rw [← m3]; exact List.mem_map.2 ⟨x, hx, rfl⟩), (m1 x hx).1⟩) HWS.out
        have hol : (ovr W l).length ≤ 1000000 := by unfold ovr; rw [List.length_append, List.length_map, hWn, HLN.out]; omega
        have HUQ := fun (w : World) (v : Value) (Q' : Nat → Prop) (hp : HasO Q w (.slice aq qn cq) q) (hs : HasN Q' w v (ovr W l)) (hR : Rdy w) => Lib.hid (run_any hp hs hR.stb.stp hol (fun o ho => (HWQ.out o ho).2.2) hwo)
        have hmx := fun h => runV_may (p := q) (l := ovr W l) HWQ.out hwo h
        obtain ⟨r3, hr3⟩ : ∃ r, runV q (ovr W l) = r := ⟨_, rfl⟩
        simp only [hr3] at HUQ hj1 hj2 hmx
        obtain ⟨X, ff⟩ := r3
        simp only at HUQ hj1 hj2 hmx
        obtain ⟨Xn, hXn⟩ : ∃ n, X.length = n := ⟨_, rfl⟩
        have HXN := Lib.hid hXn
        have HX16b : Hid (ff = 0 → Xn ≤ 16) := Lib.hid (fun h => by rw [← hXn, ← length_names, (hmx h).2.2]; exact (chkV_ok HCQ0.out).2.2.2)
        clear hmx
        have HJ1 := Lib.hid hj1
        have HJ2 := Lib.hid hj2
        have HAN0 := Lib.hid hAn
        obtain ⟨i0, ii, iz0, iz1, iz2⟩ := info_parts info_sn
        clear hr3 hwo hol m1 m2 m3 hj1 hj2
        go_wp2_with (first
          | (go_at_call 24; first
            | (refine (HUB _ _ _ HV12.out (HS.out.below HB12.out) (HR.out.below HB12.out)).out.mono ?_; rintro e w13 ⟨v13, rfl, hb, ho⟩; obtain ⟨a13, c13, rfl⟩ := own_sl ho; have HB13 := Lib.hid (HB12.out.trans (hb.mono HB12.out.size)); have HW13 := Lib.hid ((HW12.out.below hb).weaken (Q := fun k => k < w13.heap.size) (fun b h _ => h)); have HA13 : Hid (HasW (fun k => k < w13.heap.size) w13 (.slice a13 An c13) A) := Lib.hid (by have h := own_hasG wrC_len ho; first | (simp only [HAN.out] at h; exact h.weaken (fun b h _ => h)) | exact h.weaken (fun b h _ => h)); clear hb ho)
            | (refine (HUP _ (HP.out.below HB11.out) (HS.out.below HB11.out) (HR.out.below HB11.out)).out.mono ?_; rintro e w12 ⟨v12, rfl, hb, ho⟩; obtain ⟨a12, c12, rfl⟩ := own_sl ho; have HB12 := Lib.hid (HB11.out.trans (hb.mono HB11.out.size)); have HV12 := Lib.hid (HV11.out.below hb); have HW12 : Hid (HasW (fun k => w11.heap.size ≤ k) w12 (.slice a12 Wn c12) W) := Lib.hid (by have h := own_hasG wrC_len ho; first | (simp only [HWN.out] at h; exact h) | exact h); clear hb ho))
          | (go_at_call 11; refine (HF _ (HR.out.below HB13.out)).out.mono ?_; rintro e w14 ⟨rfl, hb⟩; have HB14 := Lib.hid (HB13.out.trans (hb.mono HB13.out.size)); clear hb))
        go_loopw [16, 17] (fun vt vi wr => ∃ i : Nat, vi = .int .i64 i ∧ i ≤ Wn ∧ Hid (Below w13.heap.size w13 wr) ∧ Hid (wr.ownsRow w13.heap.size 52 7 vt i (cellsG snC ((W.take i).map asSeen)))) (fun _ vi _ => Wn - (intOf vi).toNat)
        case atStart => exact ⟨0, rfl, Nat.zero_le _, Lib.hid (Below.refl _ _), Lib.hid (World.ownsRow_nil _ _ _ _)⟩
        case round =>
          obtain ⟨t, rfl, ht, HBt, HT⟩ := hrel
          by_cases hltt : t < Wn
          · have ht' : t < W.length := by rw [HWN.out]; exact hltt
            obtain ⟨b, o, rfl, hb, _, hc⟩ := hasg_at (HW13.out.below HBt.out) ht'
            have HG := Lib.hid hc.wr
            have HTS := Lib.hid (as_snoc ht')
            clear hc
            generalize W[t] = r at *
            clear ht'
            obtain ⟨x1, ⟨x2, x3, x4⟩⟩ := r
            have r0 := HG.out.c0; have r1 := HG.out.c1; have r2 := HG.out.c2; have r3 := HG.out.c3
            have HBd := Lib.hid ((Below.refl wr.heap.size wr).drew)
            have HTl := Lib.hid (show (W.take t).length = t by rw [List.length_take, HWN.out]; omega)
            go_wp2_with fail
            go_region_law (refine step_append_at rfl (.tmp 137) (.tmp 149) 32 rfl w13.heap.size 52 i0 (snagg default) 7 72 under_sns ii iz0 iz1 iz2 rfl (by decide) _ _ _ (by simp [Act.eval]) (own_below HT.out (HBd.out.alloc HBd.out.size _)) ⟨wr.heap.size, 0, none⟩ 1 1 (snC ⟨x1, ⟨x2, x3, x4⟩, 0, 0, 0⟩) (by simp [Act.eval]) rfl (cells_sn _ ⟨x1, ⟨x2, x3, x4⟩, 0, 0, 0⟩ _ (by simp)) (one_sn _) (by unfold maxLen; omega) (by omega) (by have := HBt.out.size; simp; omega) ?_; intro v2 w3 hown' hgrow hat; have HO3 := Lib.hid hown'; have HB3 := Lib.hid (((HBt.out.trans (HBd.out.mono HBt.out.size)).alloc (HBt.out.trans (HBd.out.mono HBt.out.size)).size _).grown hgrow ((HBt.out.trans (HBd.out.mono HBt.out.size)).alloc (HBt.out.trans (HBd.out.mono HBt.out.size)).size _).size fun q hq => (HT.out.lt q hq).1); clear hown' hgrow hat)
            all_goals go_wp2
            all_goals refine ⟨⟨t + 1, rfl, by omega, HB3, ?_⟩, ?_⟩
            · rw [HTS.out, cellsG_append, cellsG_one]; exact HO3
            · simp [intOf]; omega
            · rw [HTS.out, cellsG_append, cellsG_one]; exact HO3
            · simp [intOf]; omega
          · obtain rfl : t = Wn := by omega
            rw [List.take_of_length_le (by rw [HWN.out]; exact Nat.le_refl _)] at HT
            obtain ⟨w14, rfl⟩ : ∃ w14, w14 = wr := ⟨_, rfl⟩
            obtain ⟨sa, sc, hu⟩ := own_sl HT.out
            subst hu
            have HB14 := Lib.hid (HB13.out.trans (HBt.out.mono HB13.out.size))
            have HB14s := Lib.hid HBt.out.size
            have HW14 := Lib.hid (HW13.out.below HBt.out)
            have HA14 := Lib.hid (HA13.out.below HBt.out)
            have HSO := Lib.hid (hasg_none HS.out)
            have HSL := Lib.hid (show (cellsG snC l).length = ln * 7 by rw [length_cellsG snC_len, HLN.out])
            have HA1 := Lib.hid (show t + ln ≤ maxLen by unfold maxLen; omega)
            have HA2 := Lib.hid (show (t + ln) * 72 ≤ 140737488355328 by omega)
            by_cases hf : ff = 0
            · have hj2 := HJ2.out hf
              have hX16 := HX16b.out hf
              clear HX16b
              subst hf
              clear HJ1 HJ2
              obtain ⟨hg, ha1, ha2, ha3, ha4⟩ := hj2
              subst hg
              have HMR := Lib.hid (join_all ha1 ha2 ha3 ha4)
              clear ha1 ha2 ha3 ha4
              go_wp2_with (first
                | (at_builtin; have q4 := (HS.out.below HB14.out).news snC_len; have q2 := HB14s.out; refine wpList_append_row9 rfl (.tmp 153) (.tmp 154) 32 rfl w13.heap.size 52 i0 (snagg default) 7 72 under_sns ii iz0 iz1 iz2 rfl (by decide) _ _ _ rfl HT.out ao ln cap (cellsG snC l) rfl HSO.out HSL.out q4 (one_sns l) HA1.out HA2.out q2 ?_; clear q2 q4; intro v15 w15 hown' hgrow; have HB15 := Lib.hid (HB14.out.grown hgrow HB14.out.size (fun z hz => Nat.le_trans HB13.out.size (HT.out.lt z hz).1)); have HN15 : Hid (HasN (fun k => w13.heap.size ≤ k) w15 v15 (ovr W l)) := Lib.hid (own_hasG snC_len (by unfold ovr; rw [List.length_append, List.length_map, HWN.out, HLN.out, cellsG_append]; exact hown')); have HW15 := Lib.hid (HW14.out.grown hgrow (fun b hb e => Nat.not_lt.2 (HT.out.lt b e.symm).1 hb)); have HA15 := Lib.hid (HA14.out.grown hgrow (fun b hb e => Nat.not_lt.2 (HT.out.lt b e.symm).1 hb)); clear hown' hgrow)
                | (go_at_call 24; refine (HUQ _ _ _ (HQ.out.below HB15.out) HN15.out (HR.out.below HB15.out)).out.mono ?_; rintro e w16 ⟨v16, rfl, hb, ho⟩; obtain ⟨a16, c16, rfl⟩ := own_sl ho; have HB16 := Lib.hid (HB15.out.trans (hb.mono HB15.out.size)); have HW16 := Lib.hid ((HW15.out.below hb).weaken (Q := fun k => k < w16.heap.size) (fun b h _ => h)); have HA16 := Lib.hid ((HA15.out.below hb).weaken (Q := fun k => k < w16.heap.size) (fun b h _ => h)); have HX16 : Hid (HasW (fun k => k < w16.heap.size) w16 (.slice a16 Xn c16) X) := Lib.hid (by have h := own_hasG wrC_len ho; first | (simp only [HXN.out] at h; exact h.weaken (fun b h _ => h)) | exact h.weaken (fun b h _ => h)); clear hb ho)
                | (go_at_call 11; refine (HF _ (HR.out.below HB16.out)).out.mono ?_; rintro e w17 ⟨rfl, hb⟩; have HB17 := Lib.hid (HB16.out.trans (hb.mono HB16.out.size)); clear hb))
              obtain ⟨k0, ki, kz0, kz1, kz2⟩ := info_parts info_wr
              go_loopw [20, 21, 22] (fun vL vi vk wr => ∃ (ia kb : Nat) (Lw : Ent DV), vi = .int .i64 ia ∧ vk = .int .i64 kb ∧ ia ≤ t ∧ kb ≤ Xn ∧ Hid (Lw ++ mrg (W.drop ia) (X.drop kb) = A ∧ Lw.length ≤ ia + kb) ∧ Hid (Below w16.heap.size w16 wr) ∧ Hid (wr.ownsRow w16.heap.size 54 4 vL Lw.length (cellsG wrC Lw))) (fun _ vi vk _ => (t - (intOf vi).toNat) + (Xn - (intOf vk).toNat))
              case atStart => exact ⟨0, 0, [], rfl, rfl, Nat.zero_le _, Nat.zero_le _, Lib.hid ⟨HMR.out.symm, Nat.le_refl _⟩, Lib.hid (Below.refl _ _), Lib.hid (World.ownsRow_nil _ _ _ _)⟩
              case round =>
                obtain ⟨ia, kb, Lw, rfl, rfl, hia, hkb, HE, HBm, HL⟩ := hrel
                have hlen := HE.out.2
                have HM1 := Lib.hid (show Lw.length + 1 ≤ maxLen by unfold maxLen; omega)
                have HM2 := Lib.hid (show (Lw.length + 1) * 48 ≤ 140737488355328 by omega)
                by_cases hx : ia < t
                · have hx' : ia < W.length := by rw [HWN.out]; exact hx
                  obtain ⟨xbk, xo, rfl, xb, _, xh⟩ := hasg_at (HW16.out.below HBm.out) hx'
                  have xH := Lib.hid xh.wr
                  have hdx := List.drop_eq_getElem_cons hx'
                  clear xh
                  generalize W[ia] = x at *
                  obtain ⟨x1, ⟨x2, x3, x4⟩⟩ := x
                  have xc0 := xH.out.c0; have xc1 := xH.out.c1; have xc2 := xH.out.c2; have xc3 := xH.out.c3
                  by_cases hy : kb < Xn
                  · have hy' : kb < X.length := by rw [HXN.out]; exact hy
                    obtain ⟨ybk, yo, rfl, yb, _, yh⟩ := hasg_at (HX16.out.below HBm.out) hy'
                    have yH := Lib.hid yh.wr
                    have hdy := List.drop_eq_getElem_cons hy'
                    clear yh
                    generalize X[kb] = y at *
                    obtain ⟨y1, ⟨y2, y3, y4⟩⟩ := y
                    have yc0 := yH.out.c0; have yc1 := yH.out.c1; have yc2 := yH.out.c2; have yc3 := yH.out.c3
                    have nia1 : ((ia : Int) == (t : Int)) = false := by rw [beq_eq_false_iff_ne]; omega
                    have nia2 : (ia == t) = false := by rw [beq_eq_false_iff_ne]; omega
                    have nia3 : decide (ia = t) = false := decide_eq_false (by omega)
                    have nia4 : decide (ia < t) = true := decide_eq_true (by omega)
                    have nkb1 : ((kb : Int) == (Xn : Int)) = false := by rw [beq_eq_false_iff_ne]; omega
                    have nkb2 : (kb == Xn) = false := by rw [beq_eq_false_iff_ne]; omega
                    have nkb3 : decide (kb = Xn) = false := decide_eq_false (by omega)
                    have nkb4 : decide (kb < Xn) = true := decide_eq_true (by omega)
                    rcases nm_cases x1 y1 with hc | hc | hc
                    · have hst : mrg (((x1, ⟨x2, x3, x4⟩) : Nm × DV) :: W.drop (ia + 1)) (X.drop kb) = ((x1, ⟨x2, x3, x4⟩) : Nm × DV) :: mrg (W.drop (ia + 1)) (X.drop kb) := mrg_step_left (.inr ⟨_, _, hdy, hc⟩)
                      have HE3 : (Lw ++ [(x1, (⟨x2, x3, x4⟩ : DV))]) ++ mrg (W.drop (ia + 1)) (X.drop (kb + 0)) = A ∧ (Lw ++ [(x1, (⟨x2, x3, x4⟩ : DV))]).length ≤ ia + 1 + (kb + 0) := ⟨by rw [← HE.out.1, hdx, hst]; simp, by rw [List.length_append, List.length_singleton]; omega⟩
                      have HE2 := Lib.hid HE3
                      clear HE3 hst
                      have g1 : Op.bytesLess x1 y1 = true := by rw [less_eq]; exact decide_eq_true hc
                      have g2 : Op.bytesLess y1 x1 = false := by rw [less_eq]; exact decide_eq_false fun e => nm_irrefl _ (nm_trans e hc)
                      have g3 : (x1 == y1) = false := beq_eq_false_iff_ne.2 (nm_ne hc)
                      clear hc hdx hdy hx' hy' HE
                      go_wp2_with fail
                      go_quiet (fail)
                      have HBm := Lib.hid (HBm.out.trans ((below_drewN wr nq).mono HBm.out.size))
                      have HL := Lib.hid (own_below HL.out (below_drewN wr nq))
                      have xH := Lib.hid (xH.out.below (below_drewN wr nq) xb)
                      have xb : xbk < (wr.drewN nq).heap.size := xb
                      have xc0 := xH.out.c0; have xc1 := xH.out.c1; have xc2 := xH.out.c2; have xc3 := xH.out.c3
                      have yH := Lib.hid (yH.out.below (below_drewN wr nq) yb)
                      have yb : ybk < (wr.drewN nq).heap.size := yb
                      have yc0 := yH.out.c0; have yc1 := yH.out.c1; have yc2 := yH.out.c2; have yc3 := yH.out.c3
                      generalize wr.drewN nq = wq at *
                      go_wp2_with (at_builtin; refine wpList_append_own _ rfl (.tmp 217) (.tmp 222) 35 rfl w16.heap.size 54 k0 (wrAgg ([], DV.none)) 4 48 under_wrs ki kz0 kz1 kz2 rfl (by decide) _ _ _ rfl (HL.out.alloc _) ⟨wq.heap.size, 0, none⟩ 1 1 (wrC (x1, ⟨x2, x3, x4⟩)) rfl rfl (cells_wr _ (x1, ⟨x2, x3, x4⟩) _ rfl) (one_wr _) HM1.out HM2.out (by have := HBm.out.size; simp; omega) ?_; intro v2 wz hown' hgrow _; have HO3 := Lib.hid hown'; have HB3 := Lib.hid ((HBm.out.alloc HBm.out.size _).grown hgrow (HBm.out.alloc HBm.out.size _).size fun z hz => (HL.out.lt z hz).1); clear hown' hgrow)
                      go_roundw
                      case rel => exact ⟨ia + 1, kb + 0, Lw ++ [((x1, ⟨x2, x3, x4⟩) : Nm × DV)], by go_num, rfl, by omega, by omega, HE2, HB3, by rw [List.length_append, cellsG_append, cellsG_one]; exact HO3⟩
                      case measure => simp [intOf]; omega
                    · have hst : mrg (((x1, ⟨x2, x3, x4⟩) : Nm × DV) :: W.drop (ia + 1)) (((y1, ⟨y2, y3, y4⟩) : Nm × DV) :: X.drop (kb + 1)) = ((y1, ⟨y2, y3, y4⟩) : Nm × DV) :: mrg (W.drop (ia + 1)) (X.drop (kb + 1)) := mrg_step_both hc
                      have HE3 : (Lw ++ [(y1, (⟨y2, y3, y4⟩ : DV))]) ++ mrg (W.drop (ia + 1)) (X.drop (kb + 1)) = A ∧ (Lw ++ [(y1, (⟨y2, y3, y4⟩ : DV))]).length ≤ ia + 1 + (kb + 1) := ⟨by rw [← HE.out.1, hdx, hdy, hst]; simp, by rw [List.length_append, List.length_singleton]; omega⟩
                      have HE2 := Lib.hid HE3
                      clear HE3 hst
                      have g1 : Op.bytesLess x1 y1 = false := by rw [less_eq, hc]; exact decide_eq_false (nm_irrefl _)
                      have g2 : Op.bytesLess y1 x1 = false := by rw [less_eq, hc]; exact decide_eq_false (nm_irrefl _)
                      clear hc hdx hdy hx' hy' HE
                      go_wp2_with fail
                      go_quiet (fail)
                      have HBm := Lib.hid (HBm.out.trans ((below_drewN wr nq).mono HBm.out.size))
                      have HL := Lib.hid (own_below HL.out (below_drewN wr nq))
                      have xH := Lib.hid (xH.out.below (below_drewN wr nq) xb)
                      have xb : xbk < (wr.drewN nq).heap.size := xb
                      have xc0 := xH.out.c0; have xc1 := xH.out.c1; have xc2 := xH.out.c2; have xc3 := xH.out.c3
                      have yH := Lib.hid (yH.out.below (below_drewN wr nq) yb)
                      have yb : ybk < (wr.drewN nq).heap.size := yb
                      have yc0 := yH.out.c0; have yc1 := yH.out.c1; have yc2 := yH.out.c2; have yc3 := yH.out.c3
                      generalize wr.drewN nq = wq at *
                      go_wp2_with fail
                      go_quiet (fail)
                      have HBm := Lib.hid (HBm.out.trans ((below_drewN wq nq).mono HBm.out.size))
                      have HL := Lib.hid (own_below HL.out (below_drewN wq nq))
                      have xH := Lib.hid (xH.out.below (below_drewN wq nq) xb)
                      have xb : xbk < (wq.drewN nq).heap.size := xb
                      have xc0 := xH.out.c0; have xc1 := xH.out.c1; have xc2 := xH.out.c2; have xc3 := xH.out.c3
                      have yH := Lib.hid (yH.out.below (below_drewN wq nq) yb)
                      have yb : ybk < (wq.drewN nq).heap.size := yb
                      have yc0 := yH.out.c0; have yc1 := yH.out.c1; have yc2 := yH.out.c2; have yc3 := yH.out.c3
                      generalize wq.drewN nq = wp at *
                      go_wp2_with (at_builtin; refine wpList_append_own _ rfl (.tmp 182) (.tmp 187) 35 rfl w16.heap.size 54 k0 (wrAgg ([], DV.none)) 4 48 under_wrs ki kz0 kz1 kz2 rfl (by decide) _ _ _ rfl (HL.out.alloc _) ⟨wp.heap.size, 0, none⟩ 1 1 (wrC (y1, ⟨y2, y3, y4⟩)) rfl rfl (cells_wr _ (y1, ⟨y2, y3, y4⟩) _ rfl) (one_wr _) HM1.out HM2.out (by have := HBm.out.size; simp; omega) ?_; intro v2 wz hown' hgrow _; have HO3 := Lib.hid hown'; have HB3 := Lib.hid ((HBm.out.alloc HBm.out.size _).grown hgrow (HBm.out.alloc HBm.out.size _).size fun z hz => (HL.out.lt z hz).1); clear hown' hgrow)
                      go_roundw
                      case rel => exact ⟨ia + 1, kb + 1, Lw ++ [((y1, ⟨y2, y3, y4⟩) : Nm × DV)], by go_num, by go_num, by omega, by omega, HE2, HB3, by rw [List.length_append, cellsG_append, cellsG_one]; exact HO3⟩
                      case measure => simp [intOf]; omega
                    · have hst : mrg (W.drop ia) (((y1, ⟨y2, y3, y4⟩) : Nm × DV) :: X.drop (kb + 1)) = ((y1, ⟨y2, y3, y4⟩) : Nm × DV) :: mrg (W.drop ia) (X.drop (kb + 1)) := mrg_step_right (.inr ⟨_, _, hdx, hc⟩)
                      have HE3 : (Lw ++ [(y1, (⟨y2, y3, y4⟩ : DV))]) ++ mrg (W.drop (ia + 0)) (X.drop (kb + 1)) = A ∧ (Lw ++ [(y1, (⟨y2, y3, y4⟩ : DV))]).length ≤ ia + 0 + (kb + 1) := ⟨by rw [← HE.out.1, hdy, hst]; simp, by rw [List.length_append, List.length_singleton]; omega⟩
                      have HE2 := Lib.hid HE3
                      clear HE3 hst
                      have g1 : Op.bytesLess y1 x1 = true := by rw [less_eq]; exact decide_eq_true hc
                      have g2 : Op.bytesLess x1 y1 = false := by rw [less_eq]; exact decide_eq_false fun e => nm_irrefl _ (nm_trans e hc)
                      have g3 : (y1 == x1) = false := beq_eq_false_iff_ne.2 (nm_ne hc)
                      clear hc hdx hdy hx' hy' HE
                      go_wp2_with fail
                      go_quiet (fail)
                      have HBm := Lib.hid (HBm.out.trans ((below_drewN wr nq).mono HBm.out.size))
                      have HL := Lib.hid (own_below HL.out (below_drewN wr nq))
                      have xH := Lib.hid (xH.out.below (below_drewN wr nq) xb)
                      have xb : xbk < (wr.drewN nq).heap.size := xb
                      have xc0 := xH.out.c0; have xc1 := xH.out.c1; have xc2 := xH.out.c2; have xc3 := xH.out.c3
                      have yH := Lib.hid (yH.out.below (below_drewN wr nq) yb)
                      have yb : ybk < (wr.drewN nq).heap.size := yb
                      have yc0 := yH.out.c0; have yc1 := yH.out.c1; have yc2 := yH.out.c2; have yc3 := yH.out.c3
                      generalize wr.drewN nq = wq at *
                      go_wp2_with fail
                      go_quiet (fail)
                      have HBm := Lib.hid (HBm.out.trans ((below_drewN wq nq).mono HBm.out.size))
                      have HL := Lib.hid (own_below HL.out (below_drewN wq nq))
                      have xH := Lib.hid (xH.out.below (below_drewN wq nq) xb)
                      have xb : xbk < (wq.drewN nq).heap.size := xb
                      have xc0 := xH.out.c0; have xc1 := xH.out.c1; have xc2 := xH.out.c2; have xc3 := xH.out.c3
                      have yH := Lib.hid (yH.out.below (below_drewN wq nq) yb)
                      have yb : ybk < (wq.drewN nq).heap.size := yb
                      have yc0 := yH.out.c0; have yc1 := yH.out.c1; have yc2 := yH.out.c2; have yc3 := yH.out.c3
                      generalize wq.drewN nq = wp at *
                      go_wp2_with (at_builtin; refine wpList_append_own _ rfl (.tmp 244) (.tmp 249) 35 rfl w16.heap.size 54 k0 (wrAgg ([], DV.none)) 4 48 under_wrs ki kz0 kz1 kz2 rfl (by decide) _ _ _ rfl (HL.out.alloc _) ⟨wp.heap.size, 0, none⟩ 1 1 (wrC (y1, ⟨y2, y3, y4⟩)) rfl rfl (cells_wr _ (y1, ⟨y2, y3, y4⟩) _ rfl) (one_wr _) HM1.out HM2.out (by have := HBm.out.size; simp; omega) ?_; intro v2 wz hown' hgrow _; have HO3 := Lib.hid hown'; have HB3 := Lib.hid ((HBm.out.alloc HBm.out.size _).grown hgrow (HBm.out.alloc HBm.out.size _).size fun z hz => (HL.out.lt z hz).1); clear hown' hgrow)
                      go_roundw
                      case rel => exact ⟨ia + 0, kb + 1, Lw ++ [((y1, ⟨y2, y3, y4⟩) : Nm × DV)], rfl, by go_num, by omega, by omega, HE2, HB3, by rw [List.length_append, cellsG_append, cellsG_one]; exact HO3⟩
                      case measure => simp [intOf]; omega
                  · obtain rfl : kb = Xn := by omega
                    have hXd : X.drop kb = [] := List.drop_of_length_le (by rw [HXN.out]; exact Nat.le_refl _)
                    have hst : mrg (((x1, ⟨x2, x3, x4⟩) : Nm × DV) :: W.drop (ia + 1)) (X.drop kb) = ((x1, ⟨x2, x3, x4⟩) : Nm × DV) :: mrg (W.drop (ia + 1)) (X.drop kb) := mrg_step_left (.inl hXd)
                    have HE3 : (Lw ++ [(x1, (⟨x2, x3, x4⟩ : DV))]) ++ mrg (W.drop (ia + 1)) (X.drop (kb + 0)) = A ∧ (Lw ++ [(x1, (⟨x2, x3, x4⟩ : DV))]).length ≤ ia + 1 + (kb + 0) := ⟨by rw [← HE.out.1, hdx, hst]; simp, by rw [List.length_append, List.length_singleton]; omega⟩
                    have HE2 := Lib.hid HE3
                    clear HE3 hst
                    have nia1 : ((ia : Int) == (t : Int)) = false := by rw [beq_eq_false_iff_ne]; omega
                    have nia2 : (ia == t) = false := by rw [beq_eq_false_iff_ne]; omega
                    have nia3 : decide (ia = t) = false := decide_eq_false (by omega)
                    have nia4 : decide (ia < t) = true := decide_eq_true (by omega)
                    have nkb5 : decide ((kb : Nat) < kb) = false := decide_eq_false (by omega)
                    have nkb6 : ((kb : Int) == (kb : Int)) = true := beq_self_eq_true _
                    clear hdx hx' HE hXd
                    go_wp2_with fail
                    go_quiet (fail)
                    have HBm := Lib.hid (HBm.out.trans ((below_drewN wr nq).mono HBm.out.size))
                    have HL := Lib.hid (own_below HL.out (below_drewN wr nq))
                    have xH := Lib.hid (xH.out.below (below_drewN wr nq) xb)
                    have xb : xbk < (wr.drewN nq).heap.size := xb
                    have xc0 := xH.out.c0; have xc1 := xH.out.c1; have xc2 := xH.out.c2; have xc3 := xH.out.c3
                    generalize wr.drewN nq = wq at *
                    go_wp2_with (at_builtin; refine wpList_append_own _ rfl (.tmp 217) (.tmp 222) 35 rfl w16.heap.size 54 k0 (wrAgg ([], DV.none)) 4 48 under_wrs ki kz0 kz1 kz2 rfl (by decide) _ _ _ rfl (HL.out.alloc _) ⟨wq.heap.size, 0, none⟩ 1 1 (wrC (x1, ⟨x2, x3, x4⟩)) rfl rfl (cells_wr _ (x1, ⟨x2, x3, x4⟩) _ rfl) (one_wr _) HM1.out HM2.out (by have := HBm.out.size; simp; omega) ?_; intro v2 wz hown' hgrow _; have HO3 := Lib.hid hown'; have HB3 := Lib.hid ((HBm.out.alloc HBm.out.size _).grown hgrow (HBm.out.alloc HBm.out.size _).size fun z hz => (HL.out.lt z hz).1); clear hown' hgrow)
                    go_roundw
                    case rel => exact ⟨ia + 1, kb + 0, Lw ++ [((x1, ⟨x2, x3, x4⟩) : Nm × DV)], by go_num, rfl, by omega, by omega, HE2, HB3, by rw [List.length_append, cellsG_append, cellsG_one]; exact HO3⟩
                    case measure => simp [intOf]; omega
                · obtain rfl : ia = t := by omega
                  have hWd : W.drop ia = [] := List.drop_of_length_le (by rw [HWN.out]; exact Nat.le_refl _)
                  by_cases hy : kb < Xn
                  · have hy' : kb < X.length := by rw [HXN.out]; exact hy
                    obtain ⟨ybk, yo, rfl, yb, _, yh⟩ := hasg_at (HX16.out.below HBm.out) hy'
                    have yH := Lib.hid yh.wr
                    have hdy := List.drop_eq_getElem_cons hy'
                    clear yh
                    generalize X[kb] = y at *
                    obtain ⟨y1, ⟨y2, y3, y4⟩⟩ := y
                    have yc0 := yH.out.c0; have yc1 := yH.out.c1; have yc2 := yH.out.c2; have yc3 := yH.out.c3
                    have hst : mrg (W.drop ia) (((y1, ⟨y2, y3, y4⟩) : Nm × DV) :: X.drop (kb + 1)) = ((y1, ⟨y2, y3, y4⟩) : Nm × DV) :: mrg (W.drop ia) (X.drop (kb + 1)) := mrg_step_right (.inl hWd)
                    have HE3 : (Lw ++ [(y1, (⟨y2, y3, y4⟩ : DV))]) ++ mrg (W.drop (ia + 0)) (X.drop (kb + 1)) = A ∧ (Lw ++ [(y1, (⟨y2, y3, y4⟩ : DV))]).length ≤ ia + 0 + (kb + 1) := ⟨by rw [← HE.out.1, hdy, hst]; simp, by rw [List.length_append, List.length_singleton]; omega⟩
                    have HE2 := Lib.hid HE3
                    clear HE3 hst
                    have nkb1 : ((kb : Int) == (Xn : Int)) = false := by rw [beq_eq_false_iff_ne]; omega
                    have nkb2 : (kb == Xn) = false := by rw [beq_eq_false_iff_ne]; omega
                    have nkb3 : decide (kb = Xn) = false := decide_eq_false (by omega)
                    have nkb4 : decide (kb < Xn) = true := decide_eq_true (by omega)
                    have nia5 : decide ((ia : Nat) < ia) = false := decide_eq_false (by omega)
                    have nia6 : ((ia : Int) == (ia : Int)) = true := beq_self_eq_true _
                    clear hdy hy' HE hWd
                    go_wp2_with fail
                    go_quiet (fail)
                    have HBm := Lib.hid (HBm.out.trans ((below_drewN wr nq).mono HBm.out.size))
                    have HL := Lib.hid (own_below HL.out (below_drewN wr nq))
                    have yH := Lib.hid (yH.out.below (below_drewN wr nq) yb)
                    have yb : ybk < (wr.drewN nq).heap.size := yb
                    have yc0 := yH.out.c0; have yc1 := yH.out.c1; have yc2 := yH.out.c2; have yc3 := yH.out.c3
                    generalize wr.drewN nq = wq at *
                    go_wp2_with fail
                    go_quiet (fail)
                    have HBm := Lib.hid (HBm.out.trans ((below_drewN wq nq).mono HBm.out.size))
                    have HL := Lib.hid (own_below HL.out (below_drewN wq nq))
                    have yH := Lib.hid (yH.out.below (below_drewN wq nq) yb)
                    have yb : ybk < (wq.drewN nq).heap.size := yb
                    have yc0 := yH.out.c0; have yc1 := yH.out.c1; have yc2 := yH.out.c2; have yc3 := yH.out.c3
                    generalize wq.drewN nq = wp at *
                    go_wp2_with (at_builtin; refine wpList_append_own _ rfl (.tmp 244) (.tmp 249) 35 rfl w16.heap.size 54 k0 (wrAgg ([], DV.none)) 4 48 under_wrs ki kz0 kz1 kz2 rfl (by decide) _ _ _ rfl (HL.out.alloc _) ⟨wp.heap.size, 0, none⟩ 1 1 (wrC (y1, ⟨y2, y3, y4⟩)) rfl rfl (cells_wr _ (y1, ⟨y2, y3, y4⟩) _ rfl) (one_wr _) HM1.out HM2.out (by have := HBm.out.size; simp; omega) ?_; intro v2 wz hown' hgrow _; have HO3 := Lib.hid hown'; have HB3 := Lib.hid ((HBm.out.alloc HBm.out.size _).grown hgrow (HBm.out.alloc HBm.out.size _).size fun z hz => (HL.out.lt z hz).1); clear hown' hgrow)
                    go_roundw
                    case rel => exact ⟨ia + 0, kb + 1, Lw ++ [((y1, ⟨y2, y3, y4⟩) : Nm × DV)], rfl, by go_num, by omega, by omega, HE2, HB3, by rw [List.length_append, cellsG_append, cellsG_one]; exact HO3⟩
                    case measure => simp [intOf]; omega
                  · obtain rfl : kb = Xn := by omega
                    have hXd : X.drop kb = [] := List.drop_of_length_le (by rw [HXN.out]; exact Nat.le_refl _)
                    have hLA : Lw = A := by rw [← HE.out.1, hWd, hXd, mrg_nil, List.append_nil]
                    subst hLA
                    have hLn : Lw.length = An := hAn
                    rw [hLn] at HL
                    have HLa := Lib.hid (own_hasG' wrC_len hLn HL.out)
                    obtain ⟨la, lc, hu⟩ := own_sl HL.out
                    subst hu
                    have HB17 := Lib.hid (HB16.out.trans (HBm.out.mono HB16.out.size))
                    have HA17 := Lib.hid (HA16.out.below HBm.out)
                    have HWW : Hid (∀ {A' B' : Nat → Prop} {w : World} {va vb : Value}, HasW A' w va Lw → HasW B' w vb Lw → Calls Tryz.prog 26 #[va, vb] w fun e w' => e = .returned (.bool true) ∧ Below w.heap.size w w') := Lib.hid (fun a b => by have := writes_any a b; rwa [allW_self] at this)
                    clear HE hlen HM1 HM2 HMR
                    go_wp2_with (first
                      | (go_at_call 11; refine (HF _ (HR.out.below HB17.out)).out.mono ?_; rintro e w18 ⟨rfl, hb⟩; have HB18 := Lib.hid (HB17.out.trans (hb.mono HB17.out.size)); have HA18 := Lib.hid (HA17.out.below hb); have HL18 := Lib.hid (HLa.out.below hb); clear hb)
                      | (go_at_call 26; refine (HWW.out HA18.out HL18.out).mono ?_; rintro e w19 ⟨rfl, hb⟩; have HB19 := Lib.hid (HB18.out.trans (hb.mono HB18.out.size)); clear hb))
                    go_ret
                    exact ⟨rfl, HB19.out⟩
            · obtain ⟨hA, hg⟩ := Prod.mk.inj (HJ1.out hf)
              subst hA hg
              have hAn0 : 0 = An := hAn
              subst hAn0
              have hf1 : (gg == 0) = false := beq_eq_false_iff_ne.2 hf
              have hf2 : (gg != 0) = true := by simpa using hf
              clear HJ1 HJ2 HX16b hf
              go_wp2_with (first
                | (at_builtin; have q4 := (HS.out.below HB14.out).news snC_len; have q2 := HB14s.out; refine wpList_append_row9 rfl (.tmp 153) (.tmp 154) 32 rfl w13.heap.size 52 i0 (snagg default) 7 72 under_sns ii iz0 iz1 iz2 rfl (by decide) _ _ _ rfl HT.out ao ln cap (cellsG snC l) rfl HSO.out HSL.out q4 (one_sns l) HA1.out HA2.out q2 ?_; clear q2 q4; intro v15 w15 hown' hgrow; have HB15 := Lib.hid (HB14.out.grown hgrow HB14.out.size (fun z hz => Nat.le_trans HB13.out.size (HT.out.lt z hz).1)); have HN15 : Hid (HasN (fun k => w13.heap.size ≤ k) w15 v15 (ovr W l)) := Lib.hid (own_hasG snC_len (by unfold ovr; rw [List.length_append, List.length_map, HWN.out, HLN.out, cellsG_append]; exact hown')); have HW15 := Lib.hid (HW14.out.grown hgrow (fun b hb e => Nat.not_lt.2 (HT.out.lt b e.symm).1 hb)); have HA15 := Lib.hid (HA14.out.grown hgrow (fun b hb e => Nat.not_lt.2 (HT.out.lt b e.symm).1 hb)); clear hown' hgrow)
                | (go_at_call 24; refine (HUQ _ _ _ (HQ.out.below HB15.out) HN15.out (HR.out.below HB15.out)).out.mono ?_; rintro e w16 ⟨v16, rfl, hb, ho⟩; obtain ⟨a16, c16, rfl⟩ := own_sl ho; have HB16 := Lib.hid (HB15.out.trans (hb.mono HB15.out.size)); have HW16 := Lib.hid ((HW15.out.below hb).weaken (Q := fun k => k < w16.heap.size) (fun b h _ => h)); have HA16 := Lib.hid ((HA15.out.below hb).weaken (Q := fun k => k < w16.heap.size) (fun b h _ => h)); have HX16 : Hid (HasW (fun k => k < w16.heap.size) w16 (.slice a16 Xn c16) X) := Lib.hid (by have h := own_hasG wrC_len ho; first | (simp only [HXN.out] at h; exact h.weaken (fun b h _ => h)) | exact h.weaken (fun b h _ => h)); clear hb ho)
                | (go_at_call 11; refine (HF _ (HR.out.below HB16.out)).out.mono ?_; rintro e w17 ⟨rfl, hb⟩; have HB17 := Lib.hid (HB16.out.trans (hb.mono HB16.out.size)); clear hb))
              go_ret
              exact ⟨rfl, HB17.out⟩
      · obtain ⟨hA, hg⟩ := Prod.mk.inj (hj.1 he)
        subst hA hg
        have hAn0 : 0 = An := hAn
        subst hAn0
        have he1 : (gg == 0) = false := beq_eq_false_iff_ne.2 he
        have he2 : (gg != 0) = true := by simpa using he
        clear hj hmay hWn hAn he
        go_wp2_with (first
          | (go_at_call 24; first
            | (refine (HUB _ _ _ HV12.out (HS.out.below HB12.out) (HR.out.below HB12.out)).out.mono ?_; rintro e w13 ⟨v13, rfl, hb, ho⟩; obtain ⟨a13, c13, rfl⟩ := own_sl ho; have HB13 := Lib.hid (HB12.out.trans (hb.mono HB12.out.size)); have HW13 := Lib.hid ((HW12.out.below hb).weaken (Q := fun k => k < w13.heap.size) (fun b h _ => h)); have HA13 : Hid (HasW (fun k => k < w13.heap.size) w13 (.slice a13 0 c13) []) := Lib.hid (by have h := own_hasG wrC_len ho; first | (simp only [HAN.out] at h; exact h.weaken (fun b h _ => h)) | exact h.weaken (fun b h _ => h)); clear hb ho)
            | (refine (HUP _ (HP.out.below HB11.out) (HS.out.below HB11.out) (HR.out.below HB11.out)).out.mono ?_; rintro e w12 ⟨v12, rfl, hb, ho⟩; obtain ⟨a12, c12, rfl⟩ := own_sl ho; have HB12 := Lib.hid (HB11.out.trans (hb.mono HB11.out.size)); have HV12 := Lib.hid (HV11.out.below hb); have HW12 : Hid (HasW (fun k => w11.heap.size ≤ k) w12 (.slice a12 Wn c12) W) := Lib.hid (by have h := own_hasG wrC_len ho; first | (simp only [HWN.out] at h; exact h) | exact h); clear hb ho))
          | (go_at_call 11; refine (HF _ (HR.out.below HB13.out)).out.mono ?_; rintro e w14 ⟨rfl, hb⟩; have HB14 := Lib.hid (HB13.out.trans (hb.mono HB13.out.size)); clear hb))
        go_ret
        exact ⟨rfl, HB14.out⟩
/-- racelaw9.ProgJoins answers true. -/
theorem joins_any (hp : HasO P w vp p) (hq : HasO Q w vq q) (hs : HasN S w vs l) (hR : Rdy w) (hwp : ∀ o ∈ p, o.wf) (hwq : ∀ o ∈ q, o.wf) (hws : ∀ s ∈ l, s.wf) :
    Calls Tryz.prog 8 #[vp, vq, vs] w fun e w' => e = .returned (.bool true) ∧ Below w.heap.size w w' := by
  by_cases h : fewO p = false ∨ fewO q = false ∨ fewS l = false ∨ 20 < p.length ∨ 20 < q.length
  · exact joins_out hp hq hs hR hwp hwq h
  · have h1 : fewO p = true := by cases e : fewO p with | true => rfl | false => exact absurd (.inl e) h
    have h2 : fewO q = true := by cases e : fewO q with | true => rfl | false => exact absurd (.inr (.inl e)) h
    have h3 : fewS l = true := by cases e : fewS l with | true => rfl | false => exact absurd (.inr (.inr (.inl e))) h
    have h4 : p.length ≤ 20 := Nat.not_lt.1 fun e => h (.inr (.inr (.inr (.inl e))))
    have h5 : q.length ≤ 20 := Nat.not_lt.1 fun e => h (.inr (.inr (.inr (.inr e))))
    by_cases hcp : chkV p = 0
    · by_cases hcq : chkV q = 0
      · by_cases hcb : chkV (p ++ q) = 0
        · exact joins_go hp hq hs hR hwp hwq hws h1 h2 h3 h4 h5 hcp hcq hcb
        · exact joins_badb hp hq hs hR hwp hwq h1 h2 h3 h4 h5 ⟨hcp, hcq, hcb⟩
      · exact joins_badq hp hq hs hR hwp hwq h1 h2 h3 h4 h5 ⟨hcp, hcq⟩
    · exact joins_badp hp hq hs hR hwp hwq h1 h2 h3 h4 h5 hcp
end
end Go.Proofs.YtbgccaconhmbaaaGreatDoor
