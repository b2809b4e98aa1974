/- Elements of rows by their place; rows behind an append elsewhere; what ProgReads puts together, piece by piece. Conditions: none of its own. ProgReads' walk. Conditions: values and texts as Go has them. -/
import Derived.Test.YtbgccaconhmbaaaGreatDoorJJo
import Derived.Test.YtbgccaconhmbaaaGreatDoorJSe
import Derived.Test.YtbgccaconhmbaaaGreatDoorJPu
import Derived.Test.YtbgccaconhmbaaaGreatDoorJNl
import Derived.Test.YtbgccaconhmbaaaGreatDoorJKy
namespace Go.Proofs.YtbgccaconhmbaaaGreatDoor
open Go.ChangeShapes Go.WideShapes Go.ChangeAt Go.RowKit Go.Deep
theorem hasg_at {α : Type} {f : α → List Value} {sz : Nat} {P : Nat → Prop} {w : World} {ao : Option Addr} {n cap : Nat} {l : List α} (h : HasG f sz P w (.slice ao n cap) l) {k : Nat} (hk : k < l.length) :
    ∃ b o, ao = some ⟨b, o, none⟩ ∧ b < w.heap.size ∧ P b ∧ Lies f w b (o + k * sz) l[k] := by
  obtain ⟨ao', cap', hv, _, _, _, h4⟩ := h
  injection hv with e1 e2 e3
  subst e1 e2 e3
  obtain ⟨b, o, h4, h5, h6, hc⟩ := h4.resolve_left (fun e => by rw [e] at hk; exact absurd hk (Nat.not_lt_zero _))
  exact ⟨b, o, h4, h6, h5, hc k hk⟩
theorem Lies.grown {α : Type} {f : α → List Value} {w w' : World} {b o : Nat} {x : α} {row : Option Nat} (h : Lies f w b o x) (hg : w.grownBy w' row) (hb : b < w.heap.size) (hne : some b ≠ row) : Lies f w' b o x :=
  fun j u hu => (World.cell?_of_block (a := ⟨b, o + j, none⟩) (hg.block b hb hne)).trans (h j u hu)
theorem HasG.grown {α : Type} {f : α → List Value} {sz : Nat} {P : Nat → Prop} {w w' : World} {v : Value} {l : List α} {row : Option Nat} (h : HasG f sz P w v l) (hg : w.grownBy w' row) (hne : ∀ b, P b → some b ≠ row) : HasG f sz P w' v l := by
  obtain ⟨ao, cap, hv, h1, h2, h3, h4⟩ := h
  refine ⟨ao, cap, hv, h1, h2, h3, ?_⟩
  rcases h4 with h4 | ⟨b, o, h4, h5, h6, h7⟩
  · exact .inl h4
  · exact .inr ⟨b, o, h4, h5, Nat.lt_of_lt_of_le h6 hg.size, fun i hi => (h7 i hi).grown hg h6 (hne b h5)⟩
theorem hasg_len {α : Type} {f : α → List Value} {sz : Nat} {P : Nat → Prop} {w : World} {ao : Option Addr} {n cap : Nat} {l : List α} (h : HasG f sz P w (.slice ao n cap) l) : l.length = n := by
  obtain ⟨ao', cap', hv, _⟩ := h
  injection hv with e1 e2 e3
  exact e2.symm
theorem other_snoc (ks : List Nm) {m : List SeenV} {k : Nat} (h : k < m.length) : otherV ks (m.take (k + 1)) = otherV ks (m.take k) ++ (if m[k].key ∈ ks then [] else [m[k]]) := by
  rw [take_snocN h]
  unfold otherV
  rw [List.filter_append]
  congr 1
  by_cases hm : m[k].key ∈ ks
  · rw [if_pos hm]; simp [hm]
  · rw [if_neg hm]; simp [hm]
theorem other_len (ks : List Nm) (m : List SeenV) : (otherV ks m).length ≤ m.length := List.length_filter_le _ _
/-- The first so many of turnV. -/
def trnV (ks : List Nm) (l : List SeenV) (i : Nat) : List SeenV := (ks.reverse.take i).flatMap (headV l)
theorem trn_zero (ks : List Nm) (l : List SeenV) : trnV ks l 0 = [] := rfl
theorem trn_all (ks : List Nm) (l : List SeenV) {i : Nat} (h : ks.length = i) : trnV ks l i = turnV ks l := by
  unfold trnV turnV
  rw [List.take_of_length_le (by rw [List.length_reverse]; omega)]
theorem trn_snoc (ks : List Nm) (l : List SeenV) {i : Nat} (h : i < ks.length) : trnV ks l (i + 1) = trnV ks l i ++ headV l (ks[ks.length - 1 - i]'(by omega)) := by
  unfold trnV
  have hr : i < ks.reverse.length := by rw [List.length_reverse]; exact h
  rw [List.take_add_one, List.getElem?_eq_getElem hr, Option.toList, List.flatMap_append, List.getElem_reverse]
  simp
theorem first_len (l : List SeenV) (k : Nm) : (headV l k).length ≤ 1 := by
  unfold headV
  cases l.find? (fun s => s.key == k) <;> simp
theorem trn_len (ks : List Nm) (l : List SeenV) : ∀ i, (trnV ks l i).length ≤ i := by
  intro i
  have : ∀ xs : List Nm, (xs.flatMap (headV l)).length ≤ xs.length := by
    intro xs
    induction xs with
    | nil => exact Nat.le_refl _
    | cons x xs ih =>
      have := first_len l x
      rw [List.flatMap_cons, List.length_append, List.length_cons]
      omega
  have h := this (ks.reverse.take i)
  have h2 : (ks.reverse.take i).length ≤ i := by rw [List.length_take]; exact Nat.min_le_left _ _
  unfold trnV
  omega
theorem first_none {l : List SeenV} {k : Nm} (h : ∀ s ∈ l, s.key ≠ k) : headV l k = [] := by
  unfold headV
  rw [List.find?_eq_none.2 fun s hs => by simpa using h s hs]
theorem first_some {l : List SeenV} {k : Nm} {j : Nat} (hj : j < l.length) (h : ∀ s ∈ l.take j, s.key ≠ k) (he : l[j].key = k) : headV l k = [⟨l[j].key, l[j].v, 0, 0, 0⟩] := by
  unfold headV
  have : l.find? (fun s => s.key == k) = some l[j] := by
    rw [List.find?_eq_some_iff_getElem]
    refine ⟨by simpa using he, j, hj, rfl, fun i hi => ?_⟩
    have : l[i] ∈ l.take j := List.mem_take_iff_getElem.2 ⟨i, by omega, rfl⟩
    simpa using h _ this
  rw [this]
theorem turn_wf {ks : List Nm} {l : List SeenV} (h : ∀ s ∈ l, s.wf) : ∀ s ∈ turnV ks l, s.wf := by
  intro s hs
  obtain ⟨k, _, hs⟩ := List.mem_flatMap.1 hs
  unfold headV at hs
  cases e : l.find? (fun s => s.key == k) with
  | none => rw [e] at hs; cases hs
  | some r =>
    rw [e] at hs
    obtain rfl := List.mem_singleton.1 hs
    have hr := h r (List.mem_of_find?_eq_some e)
    exact ⟨hr.1, hr.2.1, ⟨by show (-9223372036854775808 : Int) ≤ 0; decide, by show (0 : Int) < _; decide⟩, ⟨by show (-9223372036854775808 : Int) ≤ 0; decide, by show (0 : Int) < _; decide⟩, ⟨by show (-9223372036854775808 : Int) ≤ 0; decide, by show (0 : Int) < _; decide⟩⟩
theorem one_sns (l : List SeenV) : ∀ u ∈ cellsG snC l, u.oneCell' = true := by
  intro u hu
  unfold cellsG at hu
  obtain ⟨s, _, hs⟩ := List.mem_flatMap.1 hu
  exact one_sn s u hs
theorem own_hao {w : World} {base : Nat} {e : TypeId} {size : Nat} {ao : Option Addr} {n c m : Nat} {xs : List Value} (h : w.ownsRow base e size (.slice ao n c) m xs) : ao = none → n = 0 ∧ c = 0 := by
  rintro rfl
  rcases h.2 with ⟨h1, _⟩ | ⟨g, cap, cur, h1, _⟩
  · injection h1 with e1 e2 e3
    exact ⟨e2, e3⟩
  · injection h1 with e1 e2 e3
    cases e1
theorem own_hasG' {α : Type} {f : α → List Value} {sz : Nat} (hf : ∀ x, (f x).length = sz) {w : World} {base : Nat} {e : TypeId} {v : Value} {l : List α} {n : Nat} (hn : l.length = n) (h : w.ownsRow base e sz v n (cellsG f l)) : HasG f sz (fun k => base ≤ k) w v l := own_hasG hf (by rw [hn]; exact h)
theorem fewS_len {l : List SeenV} (h : fewS l = true) : l.length ≤ 200 := by
  unfold fewS at h
  rw [Bool.and_eq_true] at h
  exact of_decide_eq_true h.1
theorem fewO_le {p : List OpV} (h : fewO p = true) : p.length ≤ 200 := by
  unfold fewO at h
  rw [Bool.and_eq_true] at h
  exact of_decide_eq_true h.1
end Go.Proofs.YtbgccaconhmbaaaGreatDoor
namespace Go.Proofs.YtbgccaconhmbaaaGreatDoor
open Go.ChangeShapes Go.WideShapes Go.ChangeAt Go.RowKit Go.Deep
section
variable {P Q M : Nat → Prop} {w : World} {vp vs vm : Value} {p : List OpV} {l m : List SeenV}
set_option maxRecDepth 100000 in
set_option maxHeartbeats 1000000 in
theorem reads_out (hp : HasO P w vp p) (hs : HasN Q w vs l) (hm : HasN M w vm m) (hR : Rdy w) (hwp : ∀ o ∈ p, o.wf) (h : fewO p = false ∨ fewS l = false ∨ fewS m = false) :
    Calls Tryz.prog 7 #[vp, vs, vm] w fun e w' => e = .returned (.bool true) ∧ Below w.heap.size w w' := by
  have HP := Lib.hid hp
  have HS := Lib.hid hs
  have HM := Lib.hid hm
  have HR := Lib.hid hR
  have HF := fun w hR => Lib.hid (first9_any w hR)
  have HA := fun w (hp : HasO P w vp p) => Lib.hid (fewO_any hp hwp)
  have HB := fun w (hs : HasN Q w vs l) => Lib.hid (fewS_any hs)
  have HC := fun w (hm : HasN M w vm m) => Lib.hid (fewS_any hm)
  clear hp hs hm hR hwp
  have h3 : ∃ x, x = (0 : Nat) := ⟨_, rfl⟩
  cases h1 : fewO p with
  | false =>
    have h2 := h
    simp only [h1] at HA
    clear h
    clear h1 h2 h3
    go_enter Tryz.func7, Tryz.ntmps7
    go_wp2_with (first
      | (go_at_call 11; first
        | (refine ((HF _ (HR.out.below HB2.out)).out).mono ?_; rintro e w3 ⟨rfl, hb⟩; have HB3 := Lib.hid (HB2.out.trans (hb.mono HB2.out.size)); clear hb)
        | (refine ((HF _ HR.out).out).mono ?_; rintro e w1 ⟨rfl, hb⟩; have HB1 := Lib.hid hb; clear hb))
      | (go_at_call 12; refine ((HA _ (HP.out.below HB1.out)).out).mono ?_; rintro e w2 ⟨rfl, hb⟩; have HB2 := Lib.hid (HB1.out.trans (hb.mono HB1.out.size)); clear hb))
    go_ret
    exact ⟨rfl, HB3.out⟩
  | true =>
    simp only [h1] at HA
    cases h2 : fewS l with
    | false =>
      simp only [h2] at HB
      clear h
      clear h1 h2 h3
      go_enter Tryz.func7, Tryz.ntmps7
      go_wp2_with (first
        | (go_at_call 11; first
          | (refine ((HF _ (HR.out.below HB3.out)).out).mono ?_; rintro e w4 ⟨rfl, hb⟩; have HB4 := Lib.hid (HB3.out.trans (hb.mono HB3.out.size)); clear hb)
          | (refine ((HF _ HR.out).out).mono ?_; rintro e w1 ⟨rfl, hb⟩; have HB1 := Lib.hid hb; clear hb))
        | (go_at_call 12; refine ((HA _ (HP.out.below HB1.out)).out).mono ?_; rintro e w2 ⟨rfl, hb⟩; have HB2 := Lib.hid (HB1.out.trans (hb.mono HB1.out.size)); clear hb)
        | (go_at_call 22; refine ((HB _ (HS.out.below HB2.out)).out).mono ?_; rintro e w3 ⟨rfl, hb⟩; have HB3 := Lib.hid (HB2.out.trans (hb.mono HB2.out.size)); clear hb))
      go_ret
      exact ⟨rfl, HB4.out⟩
    | true =>
      simp only [h2] at HB
      have h4 : fewS m = false := by
        rcases h with h | h | h
        · rw [h1] at h; cases h
        · rw [h2] at h; cases h
        · exact h
      simp only [h4] at HC
      clear h h4
      clear h1 h2 h3
      go_enter Tryz.func7, Tryz.ntmps7
      go_wp2_with (first
        | (go_at_call 11; first
          | (refine ((HF _ (HR.out.below HB4.out)).out).mono ?_; rintro e w5 ⟨rfl, hb⟩; have HB5 := Lib.hid (HB4.out.trans (hb.mono HB4.out.size)); clear hb)
          | (refine ((HF _ HR.out).out).mono ?_; rintro e w1 ⟨rfl, hb⟩; have HB1 := Lib.hid hb; clear hb))
        | (go_at_call 12; refine ((HA _ (HP.out.below HB1.out)).out).mono ?_; rintro e w2 ⟨rfl, hb⟩; have HB2 := Lib.hid (HB1.out.trans (hb.mono HB1.out.size)); clear hb)
        | (go_at_call 22; first
          | (refine ((HC _ (HM.out.below HB3.out)).out).mono ?_; rintro e w4 ⟨rfl, hb⟩; have HB4 := Lib.hid (HB3.out.trans (hb.mono HB3.out.size)); clear hb)
          | (refine ((HB _ (HS.out.below HB2.out)).out).mono ?_; rintro e w3 ⟨rfl, hb⟩; have HB3 := Lib.hid (HB2.out.trans (hb.mono HB2.out.size)); clear hb)))
      go_ret
      exact ⟨rfl, HB5.out⟩
set_option maxRecDepth 100000 in
set_option maxHeartbeats 16000000 in
theorem reads_go (hp : HasO P w vp p) (hs : HasN Q w vs l) (hm : HasN M w vm m) (hR : Rdy w) (hwp : ∀ o ∈ p, o.wf) (hws : ∀ s ∈ l, s.wf) (hwm : ∀ s ∈ m, s.wf) (h1 : fewO p = true) (h2 : fewS l = true) (h3 : fewS m = true) :
    Calls Tryz.prog 7 #[vp, vs, vm] w fun e w' => e = .returned (.bool true) ∧ Below w.heap.size w w' := by
  have HP := Lib.hid hp
  have HS := Lib.hid hs
  have HM := Lib.hid hm
  have HR := Lib.hid hR
  have HF := fun w hR => Lib.hid (first9_any w hR)
  have HA := fun w (hp : HasO P w vp p) => Lib.hid (fewO_any hp hwp)
  have HB := fun w (hs : HasN Q w vs l) => Lib.hid (fewS_any hs)
  have HC := fun w (hm : HasN M w vm m) => Lib.hid (fewS_any hm)
  simp only [h1] at HA
  simp only [h2] at HB
  simp only [h3] at HC
  have hst := run_stf
  obtain ⟨i0, hi, hz0, hz1, hz2⟩ := info_parts info_sn
  have hp200 := fewO_le h1
  have hp6 : p.length ≤ 1000000 := by omega
  have hl200 := fewS_len h2
  have hm200 := fewS_len h3
  obtain ⟨Rq, hRq⟩ : ∃ R, readsV p = R := ⟨_, rfl⟩
  obtain ⟨Nq, hNq⟩ : ∃ R, namesV p = R := ⟨_, rfl⟩
  obtain ⟨Rn, hRn⟩ : ∃ n, Rq.length = n := ⟨_, rfl⟩
  obtain ⟨Nn, hNn⟩ : ∃ n, Nq.length = n := ⟨_, rfl⟩
  have HRD := fun (w : World) (v : Value) (P : Nat → Prop) (hv : HasO P w v p) => Lib.hid (readsS_any hv hp6 hRq hRn)
  have HND := fun (w : World) (v : Value) (P : Nat → Prop) (hv : HasO P w v p) => Lib.hid (namesS_any hv hp6 hNq hNn)
  have hR200 : Rn ≤ 200 := by have := length_setV (keysV isRd p); have := keysV_le isRd p; rw [← hRn, ← hRq]; unfold readsV; omega
  have hN200 : Nn ≤ 200 := by have := length_setV (keysV isWr p); have := keysV_le isWr p; rw [← hNn, ← hNq]; unfold namesV; omega
  obtain ⟨ao, cap, rfl⟩ := hasg_sl hs
  obtain ⟨am, capm, rfl⟩ := hasg_sl hm
  obtain ⟨ln, hln⟩ : ∃ n, l.length = n := ⟨_, rfl⟩
  obtain ⟨mn, hmn⟩ : ∃ n, m.length = n := ⟨_, rfl⟩
  rw [hln] at HS HB hl200
  rw [hmn] at HM HC hm200
  rw [hln, hmn]
  have HLN := Lib.hid hln
  have HMN := Lib.hid hmn
  have HRN := Lib.hid hRn
  have HNN := Lib.hid hNn
  have HWP := Lib.hid hwp
  have HWS := Lib.hid hws
  have HWM := Lib.hid hwm
  have HRQ := Lib.hid hRq
  have HNQ := Lib.hid hNq
  clear hp hs hm hR hwp hws hwm h1 h2 h3 hp200 hRq hNq hRn hNn hln hmn
  go_enter Tryz.func7, Tryz.ntmps7
  go_wp2_with (first
    | (go_at_call 11; refine ((HF _ HR.out).out).mono ?_; rintro e w1 ⟨rfl, hb⟩; have HB1 := Lib.hid hb; clear hb)
    | (go_at_call 12; refine ((HA _ (HP.out.below HB1.out)).out).mono ?_; rintro e w2 ⟨rfl, hb⟩; have HB2 := Lib.hid (HB1.out.trans (hb.mono HB1.out.size)); clear hb)
    | (go_at_call 22; first
      | (refine ((HC _ (HM.out.below HB3.out)).out).mono ?_; rintro e w4 ⟨rfl, hb⟩; have HB4 := Lib.hid (HB3.out.trans (hb.mono HB3.out.size)); clear hb)
      | (refine ((HB _ (HS.out.below HB2.out)).out).mono ?_; rintro e w3 ⟨rfl, hb⟩; have HB3 := Lib.hid (HB2.out.trans (hb.mono HB2.out.size)); clear hb))
    | (go_at_call 14; refine ((HRD _ _ _ (HP.out.below HB4.out)).out).mono ?_; rintro e w5 ⟨a5, c5, rfl, hb, hk⟩; have HB5 := Lib.hid (HB4.out.trans (hb.mono HB4.out.size)); have RA5 := Lib.hid (hk); clear hb hk)
    | (go_at_call 15; refine ((HND _ _ _ (HP.out.below HB5.out)).out).mono ?_; rintro e w6 ⟨a6, c6, rfl, hb, hk⟩; have HB6 := Lib.hid (HB5.out.trans (hb.mono HB5.out.size)); have RA6 := Lib.hid (RA5.out.below hb); have NA6 := Lib.hid (hk); clear hb hk))
  have NA6 := Lib.hid (NA6.out.weaken (Q := fun k => k < w6.heap.size) (fun b h _ => h))
  go_loopw [9, 10] (fun vo vi wr => ∃ k : Nat, vi = .int .i64 k ∧ k ≤ mn ∧ Hid (Below w6.heap.size w6 wr) ∧ Hid (wr.ownsRow w6.heap.size 52 7 vo (otherV Rq (m.take k)).length (cellsG snC (otherV Rq (m.take k))))) (fun _ vi _ => mn - (intOf vi).toNat)
  case atStart => exact ⟨0, rfl, Nat.zero_le _, Lib.hid (Below.refl _ _), Lib.hid (World.ownsRow_nil _ _ _ _)⟩
  case round =>
    obtain ⟨k, rfl, hk, HBk, HO⟩ := hrel
    have HBt := Lib.hid (HB6.out.trans (HBk.out.mono HB6.out.size))
    by_cases hlt : k < mn
    · have hk' : k < m.length := by rw [HMN.out]; exact hlt
      obtain ⟨b, o, rfl, hb, _, hc⟩ := hasg_at (HM.out.below HBt.out) hk'
      have HG := Lib.hid hc.sn
      have HOS := Lib.hid (other_snoc Rq hk')
      have HOL := Lib.hid (Nat.le_trans (other_len Rq (m.take k)) (by rw [List.length_take]; exact Nat.min_le_left _ _))
      have HH := Lib.hid (has_any (RA6.out.below HBk.out) m[k].key)
      clear hc
      generalize m[k] = r at *
      generalize otherV Rq (m.take k) = O at *
      have hol := HOL.out
      have r0 := HG.out.c0
      by_cases hmem : r.key ∈ Rq
      · rw [if_pos hmem] at HOS
        rw [decide_eq_true hmem] at HH
        obtain ⟨key, ⟨vk, vx, vs⟩, ra, rb, rc⟩ := r
        clear hmem
        go_wp2_with (go_at_call 32; refine HH.out.mono ?_; rintro e wx ⟨rfl, hb⟩; have HBx := Lib.hid (HBk.out.trans (hb.mono HBk.out.size)); have HOx := Lib.hid (own_below HO.out hb); clear hb)
        go_roundw
        case rel => exact ⟨k + 1, by go_num, by omega, HBx, by rw [HOS.out, List.append_nil]; exact HOx⟩
        case measure => simp [intOf]; omega
      · rw [if_neg hmem] at HOS
        rw [decide_eq_false hmem] at HH
        obtain ⟨key, ⟨vk, vx, vs⟩, ra, rb, rc⟩ := r
        clear hmem
        go_wp2_with (first
          | (go_at_call 32; refine HH.out.mono ?_; rintro e wx ⟨rfl, hbx⟩; have HBx := Lib.hid (HBk.out.trans (hbx.mono HBk.out.size)); have HOx := Lib.hid (own_below HO.out hbx); have HGx := Lib.hid (HG.out.below hbx hb); have x0 := HGx.out.c0; have x1 := HGx.out.c1; have x2 := HGx.out.c2; have x3 := HGx.out.c3; have x4 := HGx.out.c4; have x5 := HGx.out.c5; have x6 := HGx.out.c6; clear hbx)
          | (at_builtin; refine wpList_append_own _ rfl (.tmp 53) (.tmp 58) 32 rfl w6.heap.size 52 i0 (snagg default) 7 72 under_sns hi hz0 hz1 hz2 rfl (by decide) _ _ _ rfl (HOx.out.alloc _) ⟨wx.heap.size, 0, none⟩ 1 1 (snC ⟨key, ⟨vk, vx, vs⟩, ra, rb, rc⟩) rfl rfl (cells_sn _ ⟨key, ⟨vk, vx, vs⟩, ra, rb, rc⟩ _ rfl) (one_sn _) (by unfold maxLen; omega) (by omega) (by have := HBx.out.size; simp at this ⊢; omega) ?_; intro v2 w3 hown' hgrow _; have HO3 := Lib.hid hown'; have HG3 := Lib.hid hgrow; clear hown' hgrow))
        go_roundw
        case rel => exact ⟨k + 1, by go_num, by omega, Lib.hid ((HBx.out.alloc HBx.out.size _).grown HG3.out (HBx.out.alloc HBx.out.size _).size fun q hq => (HOx.out.lt q hq).1), by rw [HOS.out, List.length_append, cellsG_append, cellsG_one]; exact HO3⟩
        case measure => simp [intOf]; omega
    · obtain rfl : k = mn := by omega
      rw [List.take_of_length_le (by rw [HMN.out]; exact Nat.le_refl _)] at HO
      have HOL := Lib.hid (other_len Rq m)
      generalize hOO : otherV Rq m = O at *
      have HOO := Lib.hid hOO
      clear hOO hlt
      obtain ⟨w7, rfl⟩ : ∃ w7, w7 = wr := ⟨_, rfl⟩
      have HB7 := HBt
      have RA7 := Lib.hid (RA6.out.below HBk.out)
      have NA7 := Lib.hid (NA6.out.below HBk.out)
      go_wp2_with fail
      go_loopw [11, 12] (fun vt vi wr => ∃ i : Nat, vi = .int .i64 i ∧ i ≤ Rn ∧ Hid (Below w7.heap.size w7 wr) ∧ Hid (wr.ownsRow w7.heap.size 52 7 vt (trnV Rq l i).length (cellsG snC (trnV Rq l i)))) (fun _ vi _ => Rn - (intOf vi).toNat)
      case atStart => exact ⟨0, rfl, Nat.zero_le _, Lib.hid (Below.refl _ _), Lib.hid (World.ownsRow_nil _ _ _ _)⟩
      case round =>
        obtain ⟨i, rfl, hi2, HBi, HT⟩ := hrel
        by_cases hlt : i < Rn
        · have hi' : i < Rq.length := by rw [HRN.out]; exact hlt
          have hi3 : Rn - 1 - i < Rq.length := by rw [HRN.out]; omega
          have HTS := Lib.hid (trn_snoc Rq l hi')
          have HTL := Lib.hid (trn_len Rq l i)
          obtain ⟨b2, o2, rfl, hb2, _, hc2⟩ := hasg_at RA7.out hi3
          have c2 := hc2 0 _ rfl
          rw [Nat.mul_one, Nat.add_zero] at c2
          have C2 := Lib.hid c2
          have hke : Rq[Rq.length - 1 - i]'(by omega) = Rq[Rn - 1 - i]'hi3 := getElem_congr_idx (by rw [HRN.out])
          rw [hke] at HTS
          clear hke hc2 c2
          generalize Rq[Rn - 1 - i] = key at *
          generalize trnV Rq l i = T at *
          have htl := HTL.out
          obtain ⟨ix, hix⟩ : ∃ ix, Rn - 1 - i = ix := ⟨_, rfl⟩
          rw [hix] at C2
          have s1 : (Rn : Int) - 1 - (i : Int) = (ix : Int) := by omega
          have s0 : IntKind.i64.wrap ((Rn : Int) - 1) = (Rn : Int) - 1 := by rw [IntKind.wrap_i64]; omega
          have s2 : IntKind.i64.wrap ((Rn : Int) - 1 - (i : Int)) = (ix : Int) := by rw [s1, IntKind.wrap_i64]; omega
          have s3 : ix < Rn := by omega
          obtain ⟨w8, rfl⟩ : ∃ w8, w8 = wr := ⟨_, rfl⟩
          clear hix hi3 hi'
          go_wp2_with fail
          go_loopw [11, 13] (fun vt vj wr2 => ∃ j : Nat, vj = .int .i64 j ∧ j ≤ ln ∧ Hid (∀ s ∈ l.take j, s.key ≠ key) ∧ Hid (Below w7.heap.size w7 wr2) ∧ Hid (wr2.ownsRow w7.heap.size 52 7 vt T.length (cellsG snC T))) (fun _ vj _ => ln - (intOf vj).toNat)
          case atStart => exact ⟨0, rfl, Nat.zero_le _, Lib.hid (fun s hs => by cases hs), HBi, HT⟩
          case round =>
            obtain ⟨j, rfl, hj, HK, HBj, HTj⟩ := hrel
            have HBu := Lib.hid (HB7.out.trans (HBj.out.mono HB7.out.size))
            by_cases hltj : j < ln
            · have hj' : j < l.length := by rw [HLN.out]; exact hltj
              obtain ⟨b, o, rfl, hb, _, hc⟩ := hasg_at (HS.out.below HBu.out) hj'
              have HG := Lib.hid hc.sn
              have HFS := Lib.hid (fun he => first_some hj' HK.out he)
              have HKN : Hid (l[j].key ≠ key → ∀ s ∈ l.take (j + 1), s.key ≠ key) := Lib.hid (fun h s hs => by
                rw [take_snocN hj'] at hs
                rcases List.mem_append.1 hs with h1 | h1
                · exact HK.out s h1
                · rw [List.mem_singleton.1 h1]; exact h)
              clear hc
              generalize l[j] = r at *
              have r0 := HG.out.c0; have r1 := HG.out.c1; have r2 := HG.out.c2; have r3 := HG.out.c3
              have c2 : wr.cell? ⟨b2, o2 + ix, none⟩ = some (.string ⟨key.toArray⟩) := (HBj.out.cell (p := ⟨b2, o2 + ix, none⟩) hb2).trans C2.out
              obtain ⟨rk, ⟨vk, vx, vs⟩, ra, rb, rc⟩ := r
              simp only at HFS HKN
              by_cases hkk : rk = key
              · subst hkk
                have HFE := Lib.hid (HFS.out rfl)
                clear HKN HFS
                go_wp2_with fail
                go_quiet (fail)
                have HB2 := Lib.hid (HBj.out.trans ((below_drewN wr nq).mono HBj.out.size))
                have HT2 := Lib.hid (own_below HTj.out (below_drewN wr nq))
                have HG2 := Lib.hid (HG.out.below (below_drewN wr nq) hb)
                have r0 := HG2.out.c0; have r1 := HG2.out.c1; have r2 := HG2.out.c2; have r3 := HG2.out.c3
                generalize wr.drewN nq = w2 at *
                have HBd := Lib.hid ((Below.refl w2.heap.size w2).drew)
                go_wp2_with fail
                go_region_law (refine step_append_at rfl (.tmp 86) (.tmp 98) 32 rfl w7.heap.size 52 i0 (snagg default) 7 72 under_sns hi hz0 hz1 hz2 rfl (by decide) _ _ _ (by simp [Act.eval]) (own_below HT2.out (HBd.out.alloc HBd.out.size _)) ⟨w2.heap.size, 0, none⟩ 1 1 (snC ⟨rk, ⟨vk, vx, vs⟩, 0, 0, 0⟩) (by simp [Act.eval]) rfl (cells_sn _ ⟨rk, ⟨vk, vx, vs⟩, 0, 0, 0⟩ _ (by simp)) (one_sn _) (by unfold maxLen; omega) (by omega) (by have := HB2.out.size; simp; omega) ?_; intro v2 w3 hown' hgrow hat; have HO3 := Lib.hid hown'; have HB3 := Lib.hid (((HB2.out.trans (HBd.out.mono HB2.out.size)).alloc (HB2.out.trans (HBd.out.mono HB2.out.size)).size _).grown hgrow ((HB2.out.trans (HBd.out.mono HB2.out.size)).alloc (HB2.out.trans (HBd.out.mono HB2.out.size)).size _).size fun q hq => (HT2.out.lt q hq).1); clear hown' hgrow hat)
                all_goals go_wp2
                all_goals refine ⟨⟨i + 1, rfl, by omega, HB3, ?_⟩, ?_⟩
                · rw [HTS.out, HFE.out, List.length_append, cellsG_append, cellsG_one]; exact HO3
                · simp [intOf]; omega
                · rw [HTS.out, HFE.out, List.length_append, cellsG_append, cellsG_one]; exact HO3
                · simp [intOf]; omega
              · have hne : (rk == key) = false := beq_eq_false_iff_ne.2 hkk
                have hnd : decide (rk = key) = false := decide_eq_false hkk
                have HKN := Lib.hid (HKN.out hkk)
                clear HFS hkk
                go_wp2_with fail
                go_quiet (fail)
                have HB2 := Lib.hid (HBj.out.trans ((below_drewN wr nq).mono HBj.out.size))
                have HT2 := Lib.hid (own_below HTj.out (below_drewN wr nq))
                generalize wr.drewN nq = w2 at *
                go_wp2_with fail
                go_roundw
                case rel => exact ⟨j + 1, by go_num, by omega, HKN, HB2, HT2⟩
                case measure => simp [intOf]; omega
            · obtain rfl : j = ln := by omega
              have HFN := Lib.hid (first_none (l := l) (k := key) (by have := HK.out; rwa [List.take_of_length_le (by rw [HLN.out]; exact Nat.le_refl _)] at this))
              go_wp2_with fail
              go_roundw
              case rel => exact ⟨i + 1, by go_num, by omega, HBj, by rw [HTS.out, HFN.out, List.append_nil]; exact HTj⟩
              case measure => simp [intOf]; omega
        · obtain rfl : i = Rn := by omega
          have hTT := trn_all Rq l HRN.out
          rw [hTT] at HT
          have HTL := Lib.hid (trn_len Rq l i)
          rw [hTT] at HTL
          have hall : runV p (O ++ turnV Rq l) = runV p l := by rw [← HOO.out, ← HRQ.out]; exact run_turned p l m
          have hwa : ∀ s ∈ O ++ turnV Rq l, s.wf := by
            intro s hs
            rcases List.mem_append.1 hs with hs | hs
            · rw [← HOO.out] at hs
              exact HWM.out s (List.mem_filter.1 hs).1
            · exact turn_wf HWS.out s hs
          generalize turnV Rq l = T at *
          obtain ⟨w8, rfl⟩ : ∃ w8, w8 = wr := ⟨_, rfl⟩
          have HB8 := Lib.hid (HB7.out.trans (HBi.out.mono HB7.out.size))
          have HO8 := Lib.hid (own_below HO.out HBi.out)
          have HOlt := Lib.hid (fun q hq => Nat.lt_of_lt_of_le (HO.out.lt q hq).2 HBi.out.size)
          have NA8 := Lib.hid (NA7.out.below HBi.out)
          have HO9s := Lib.hid (Nat.le_trans HBk.out.size HBi.out.size)
          have hol := HOL.out
          have htl := HTL.out
          have hOTl : (O ++ T).length ≤ 1000000 := by rw [List.length_append]; rw [HMN.out] at hol; omega
          have HUP := fun (w : World) (hp : HasO P w vp p) (hs : HasN Q w (.slice ao ln cap) l) (hR : Rdy w) => Lib.hid (run_any hp hs hR.stb.stp (by rw [HLN.out]; omega) (fun o ho => (HWP.out o ho).2.2) HWS.out)
          have HUQ := fun (w : World) (v : Value) (Q' : Nat → Prop) (hp : HasO P w vp p) (hs : HasN Q' w v (O ++ T)) (hR : Rdy w) => Lib.hid (run_any hp hs hR.stb.stp hOTl (fun o ho => (HWP.out o ho).2.2) hwa)
          simp only [hall] at HUQ
          have hmay := fun h => runV_may (p := p) (l := l) HWP.out HWS.out h
          have hbad := fun h => run_bad (p := p) (l := l) h
          obtain ⟨r, hr⟩ : ∃ r, runV p l = r := ⟨_, rfl⟩
          simp only [hr] at HUP HUQ hmay hbad
          obtain ⟨W, ee⟩ := r
          simp only at HUP HUQ hmay hbad
          have HOTL := Lib.hid hOTl
          obtain ⟨Wn, hWn⟩ : ∃ n, W.length = n := ⟨_, rfl⟩
          have HWN := Lib.hid hWn
          have HWW : Hid (∀ {A B : Nat → Prop} {w : World} {va vb : Value}, HasW A w va W → HasW B w vb W → Calls Tryz.prog 26 #[va, vb] w fun e w' => e = .returned (.bool true) ∧ Below w.heap.size w w') := Lib.hid (fun a b => by have := writes_any a b; rwa [allW_self] at this)
          obtain ⟨ta, tc, hu⟩ := own_sl HT.out
          subst hu
          obtain ⟨oa, oc, hu⟩ := own_sl HO.out
          subst hu
          obtain ⟨Tn, hTn⟩ : ∃ n, T.length = n := ⟨_, rfl⟩
          rw [hTn] at HT HTL htl
          rw [hTn]
          obtain ⟨On, hOnn⟩ : ∃ n, O.length = n := ⟨_, rfl⟩
          rw [hOnn] at HO8 HOL hol HOlt
          rw [hOnn]
          have HON := Lib.hid hOnn
          have HTN := Lib.hid hTn
          have hOn : On + Tn ≤ 400 := by rw [HMN.out] at hol; omega
          have HA1 := Lib.hid (show On + Tn ≤ maxLen by unfold maxLen; omega)
          have HA2 := Lib.hid (show (On + Tn) * 72 ≤ 140737488355328 by omega)
          have HA3 := Lib.hid (show (cellsG snC T).length = Tn * 7 by rw [length_cellsG snC_len, HTN.out])
          clear hall hwa hOTl hr hTT hTn hOnn hol htl hOn
          by_cases he : ee = 0
          · obtain ⟨m1, m2, m3⟩ := hmay he
            have hWN : Wn = Nn := by rw [← HWN.out, ← length_names, m3, HNQ.out, HNN.out]
            have HM1 := Lib.hid m1
            have HM2 := Lib.hid m2
            have HM3 := Lib.hid (m3.trans HNQ.out)
            subst he
            subst hWN
            have hW200 : (Wn : Int) ≤ 200 := by omega
            clear hmay hbad m1 m2 m3
            go_wp2_with (first
              | (go_at_call 24; first
                | (refine (HUQ _ _ _ (HP.out.below HB10.out) HN10.out (HR.out.below HB10.out)).out.mono ?_; rintro e w11 ⟨v11, rfl, hb, ho⟩; obtain ⟨a11, c11, rfl⟩ := own_sl ho; have HB11 := Lib.hid (HB10.out.trans (hb.mono HB10.out.size)); have HW11 := Lib.hid (HW10.out.below hb); have NA11 := Lib.hid (NA10.out.below hb); have HX11 : Hid (HasW (fun k => w10.heap.size ≤ k) w11 (.slice a11 Wn c11) W) := Lib.hid (by have h := own_hasG wrC_len ho; first | (simp only [HWN.out] at h; exact h) | exact h); clear hb ho)
                | (refine (HUP _ (HP.out.below HB8.out) (HS.out.below HB8.out) (HR.out.below HB8.out)).out.mono ?_; rintro e w9 ⟨v9, rfl, hb, ho⟩; obtain ⟨a9, c9, rfl⟩ := own_sl ho; have HB9 := Lib.hid (HB8.out.trans (hb.mono HB8.out.size)); have HO9 := Lib.hid (own_below HO8.out hb); have HT9 := Lib.hid (own_below HT.out hb); have HB9s := Lib.hid hb.size; have NA9 := Lib.hid (NA8.out.below hb); have HW9 : Hid (HasW (fun k => w8.heap.size ≤ k) w9 (.slice a9 Wn c9) W) := Lib.hid (by have h := own_hasG wrC_len ho; first | (simp only [HWN.out] at h; exact h) | exact h); clear hb ho))
              | (at_builtin; have q1 := own_hao HT9.out; have q2 := Nat.le_trans HO9s.out HB9s.out; have q4 := (own_hasG' snC_len HTN.out HT9.out).news snC_len; refine wpList_append_row9 rfl (.tmp 108) (.tmp 109) 32 rfl w6.heap.size 52 i0 (snagg default) 7 72 under_sns hi hz0 hz1 hz2 rfl (by decide) _ _ _ rfl HO9.out ta Tn tc (cellsG snC T) rfl q1 HA3.out q4 (one_sns T) HA1.out HA2.out q2 ?_; clear q1 q2 q4; intro v10 w10 hown' hgrow; have HB10 := Lib.hid (HB9.out.grown hgrow HB9.out.size (fun q hq => Nat.le_trans HB6.out.size (HO9.out.lt q hq).1)); have HN10 : Hid (HasN (fun k => w6.heap.size ≤ k) w10 v10 (O ++ T)) := Lib.hid (own_hasG snC_len (by rw [List.length_append, cellsG_append, HTN.out, HON.out]; exact hown')); have HW10 := Lib.hid (HW9.out.grown hgrow (fun b hb e => Nat.not_lt.2 hb (HOlt.out b e.symm))); have NA10 := Lib.hid (NA9.out.grown hgrow (fun b hb e => Nat.not_lt.2 (HO9.out.lt b e.symm).1 hb)); clear hown' hgrow)
              | (go_at_call 26; refine (HWW.out HW11.out HX11.out).mono ?_; rintro e w12 ⟨rfl, hb⟩; have HB12 := Lib.hid (HB11.out.trans (hb.mono HB11.out.size)); have HW12 := Lib.hid (HW11.out.below hb); have NA12 := Lib.hid (NA11.out.below hb); clear hb))
            go_loopw [18] (fun vi wr => ∃ t : Nat, vi = .int .i64 t ∧ t ≤ Wn ∧ Hid (Below w12.heap.size w12 wr)) (fun vi _ => Wn - (intOf vi).toNat)
            case atStart => exact ⟨0, rfl, Nat.zero_le _, Lib.hid (Below.refl _ _)⟩
            case round =>
              obtain ⟨t, rfl, ht, HBq⟩ := hrel
              by_cases hltt : t < Wn
              · have ht' : t < W.length := by rw [HWN.out]; exact hltt
                obtain ⟨b, o, rfl, hbl, _, hc⟩ := hasg_at (HW12.out.below HBq.out) ht'
                have HX := Lib.hid hc.wr
                have NA := Lib.hid (NA12.out.below HBq.out)
                have hmemb : decide (W[t].1 ∈ Nq) = true := decide_eq_true (by rw [← HM3.out]; exact List.mem_map.2 ⟨W[t], List.getElem_mem ht', rfl⟩)
                have HH := fun (w : World) (h : HasS (fun k => k < w6.heap.size) w (.slice a6 Wn c6) Nq) => Lib.hid (has_any h W[t].1)
                have HMY := fun w => Lib.hid (rmay_any W[t].2 w)
                simp only [(HM1.out _ (List.getElem_mem ht')).2] at HMY
                simp only [hmemb] at HH
                clear hmemb hc
                by_cases ht0 : t = 0
                · subst ht0
                  have HY := HX
                  generalize W[0] = x at *
                  obtain ⟨x1, ⟨x2, x3, x4⟩⟩ := x
                  have e0 := HX.out.c0; have e1 := HX.out.c1; have e2 := HX.out.c2; have e3 := HX.out.c3
                  go_wp2_with fail
                  have HX := Lib.hid (HX.out.below (Below.refl wr.heap.size wr).drew hbl)
                  have HY := Lib.hid (HY.out.below (Below.refl wr.heap.size wr).drew hbl)
                  have NA := Lib.hid (NA.out.below (Below.refl wr.heap.size wr).drew)
                  have HBq := Lib.hid HBq.out.drew
                  have hsz : wr.heap.size ≤ wr.drew.heap.size := Nat.le_refl _
                  refine wp_region_held (S := (fun w' => w'.cell? ⟨b, o, none⟩ = some (.string ⟨x1.toArray⟩) ∧ w'.cell? ⟨b, o + 1, none⟩ = some (.int .i64 x2) ∧ w'.cell? ⟨b, o + 2, none⟩ = some (.float .f64 x3) ∧ w'.cell? ⟨b, o + 3, none⟩ = some (.string ⟨x4.toArray⟩))) (by kernel_rfl) ?_
                  change wpAnyH _ _ _ _ _ _ _ _ (World.drew _)
                  refine wpAnyH_take (i := 0) (v := ?vz_0) rfl (by kernel_rfl) (by kernel_rfl) (by kernel_rfl) (fun _ _ _ h => h) (Or.inl ⟨by rfl, ?yz_0⟩) ⟨HX.out.c0, HX.out.c1, HX.out.c2, HX.out.c3⟩ ?rz_0
                  case yz_0 => (intro W hSw; (try dsimp only at hSw); obtain ⟨_, _, _, _⟩ := hSw; first | (go_simp; done) | (go_simp; with_reducible rfl))
                  try go_simp
                  refine wpAnyH_take (i := 1) (v := ?vz_1) rfl (by kernel_rfl) (by kernel_rfl) (by kernel_rfl) (fun _ _ _ h => h) (Or.inl ⟨by rfl, ?yz_1⟩) ⟨HX.out.c0, HX.out.c1, HX.out.c2, HX.out.c3⟩ ?rz_1
                  case yz_1 => (intro W hSw; (try dsimp only at hSw); obtain ⟨_, _, _, _⟩ := hSw; first | (go_simp; done) | (go_simp; with_reducible rfl))
                  try go_simp
                  refine wpAnyH_take (i := 2) (v := ?vz_2) rfl (by kernel_rfl) (by kernel_rfl) (by kernel_rfl) (fun _ _ _ h => h) (Or.inl ⟨by rfl, ?yz_2⟩) ⟨HX.out.c0, HX.out.c1, HX.out.c2, HX.out.c3⟩ ?rz_2
                  case yz_2 => (intro W hSw; (try dsimp only at hSw); obtain ⟨_, _, _, _⟩ := hSw; first | (go_simp; done) | (go_simp; with_reducible rfl))
                  try go_simp
                  refine wpAnyH_take (i := 3) (v := ?vz_3) rfl (by kernel_rfl) (by kernel_rfl) (by kernel_rfl) (fun _ _ _ h => h) (Or.inl ⟨by rfl, ?yz_3⟩) ⟨HX.out.c0, HX.out.c1, HX.out.c2, HX.out.c3⟩ ?rz_3
                  case yz_3 => (intro W hSw; (try dsimp only at hSw); obtain ⟨_, _, _, _⟩ := hSw; first | (go_simp; done) | (go_simp; with_reducible rfl))
                  try go_simp
                  refine wpAnyH_take (i := 4) (v := ?vz_4) rfl (by kernel_rfl) (by kernel_rfl) (by kernel_rfl) (fun _ _ _ h => h) (Or.inl ⟨by rfl, ?yz_4⟩) ⟨HX.out.c0, HX.out.c1, HX.out.c2, HX.out.c3⟩ ?rz_4
                  case yz_4 => (intro W hSw; (try dsimp only at hSw); obtain ⟨_, _, _, _⟩ := hSw; first | (go_simp; done) | (go_simp; with_reducible rfl))
                  try go_simp
                  refine wpAnyH_take (i := 5) (v := ?vz_5) rfl (by kernel_rfl) (by kernel_rfl) (by kernel_rfl) (fun _ _ _ h => h) (Or.inl ⟨by rfl, ?yz_5⟩) ⟨HX.out.c0, HX.out.c1, HX.out.c2, HX.out.c3⟩ ?rz_5
                  case yz_5 => (intro W hSw; (try dsimp only at hSw); obtain ⟨_, _, _, _⟩ := hSw; first | (go_simp; done) | (go_simp; with_reducible rfl))
                  try go_simp
                  refine wpAnyH_ready (rs := [6]) (by kernel_rfl) (by simp) ?_
                  refine AllReadyH.cons rfl (fun K hK => ?_) AllReadyH.nil
                  go_simp
                  (go_wp2_with (first | (go_at_call 32; refine (HH _ NA.out).out.mono ?_; rintro e w6 ⟨rfl, hb6⟩; have HX := Lib.hid (HX.out.below hb6 hbl); have HY := Lib.hid (HY.out.below hb6 hbl); have NA := Lib.hid (NA.out.below hb6); have HBq := Lib.hid (HBq.out.trans (hb6.mono HBq.out.size)); have hbl := Nat.lt_of_lt_of_le hbl hb6.size; clear hb6)))
                  refine hK.out _ _ ⟨HX.out.c0, HX.out.c1, HX.out.c2, HX.out.c3⟩ (fun _ => ?_)
                  clear hK K
                  try go_simp
                  refine wpAnyH_take (i := 7) (v := ?vz_7) rfl (by kernel_rfl) (by kernel_rfl) (by kernel_rfl) (fun _ _ _ h => h) (Or.inl ⟨by rfl, ?yz_7⟩) ⟨HX.out.c0, HX.out.c1, HX.out.c2, HX.out.c3⟩ ?rz_7
                  case yz_7 => (intro W hSw; (try dsimp only at hSw); obtain ⟨_, _, _, _⟩ := hSw; first | (go_simp; done) | (go_simp; with_reducible rfl))
                  try go_simp
                  refine wpAnyH_take (i := 8) (v := ?vz_8) rfl (by kernel_rfl) (by kernel_rfl) (by kernel_rfl) (fun _ _ _ h => h) (Or.inl ⟨by rfl, ?yz_8⟩) ⟨HX.out.c0, HX.out.c1, HX.out.c2, HX.out.c3⟩ ?rz_8
                  case yz_8 => (intro W hSw; (try dsimp only at hSw); obtain ⟨_, _, _, _⟩ := hSw; first | (go_simp; done) | (go_simp; with_reducible rfl))
                  try go_simp
                  refine wpAnyH_take (i := 9) (v := ?vz_9) rfl (by kernel_rfl) (by kernel_rfl) (by kernel_rfl) (fun _ _ _ h => h) (Or.inl ⟨by rfl, ?yz_9⟩) ⟨HX.out.c0, HX.out.c1, HX.out.c2, HX.out.c3⟩ ?rz_9
                  case yz_9 => (intro W hSw; (try dsimp only at hSw); obtain ⟨_, _, _, _⟩ := hSw; first | (go_simp; done) | (go_simp; with_reducible rfl))
                  try go_simp
                  refine wpAnyH_take (i := 10) (v := ?vz_10) rfl (by kernel_rfl) (by kernel_rfl) (by kernel_rfl) (fun _ _ _ h => h) (Or.inl ⟨by rfl, ?yz_10⟩) ⟨HX.out.c0, HX.out.c1, HX.out.c2, HX.out.c3⟩ ?rz_10
                  case yz_10 => (intro W hSw; (try dsimp only at hSw); obtain ⟨_, _, _, _⟩ := hSw; first | (go_simp; done) | (go_simp; with_reducible rfl))
                  try go_simp
                  refine wpAnyH_take (i := 11) (v := ?vz_11) rfl (by kernel_rfl) (by kernel_rfl) (by kernel_rfl) (fun _ _ _ h => h) (Or.inl ⟨by rfl, ?yz_11⟩) ⟨HX.out.c0, HX.out.c1, HX.out.c2, HX.out.c3⟩ ?rz_11
                  case yz_11 => (intro W hSw; (try dsimp only at hSw); obtain ⟨_, _, _, _⟩ := hSw; first | (go_simp; done) | (go_simp; with_reducible rfl))
                  try go_simp
                  refine wpAnyH_take (i := 12) (v := undef) rfl (by kernel_rfl) (by kernel_rfl) (by kernel_rfl) (fun _ _ _ h => h) (Or.inr ⟨by rfl, rfl⟩) ⟨HX.out.c0, HX.out.c1, HX.out.c2, HX.out.c3⟩ ?rz_12
                  try go_simp
                  refine wpAnyH_take (i := 13) (v := undef) rfl (by kernel_rfl) (by kernel_rfl) (by kernel_rfl) (fun _ _ _ h => h) (Or.inr ⟨by rfl, rfl⟩) ⟨HX.out.c0, HX.out.c1, HX.out.c2, HX.out.c3⟩ ?rz_13
                  try go_simp
                  refine wpAnyH_take (i := 14) (v := undef) rfl (by kernel_rfl) (by kernel_rfl) (by kernel_rfl) (fun _ _ _ h => h) (Or.inr ⟨by rfl, rfl⟩) ⟨HX.out.c0, HX.out.c1, HX.out.c2, HX.out.c3⟩ ?rz_14
                  try go_simp
                  refine wpAnyH_take (i := 15) (v := undef) rfl (by kernel_rfl) (by kernel_rfl) (by kernel_rfl) (fun _ _ _ h => h) (Or.inr ⟨by rfl, rfl⟩) ⟨HX.out.c0, HX.out.c1, HX.out.c2, HX.out.c3⟩ ?rz_15
                  try go_simp
                  refine wpAnyH_take (i := 16) (v := undef) rfl (by kernel_rfl) (by kernel_rfl) (by kernel_rfl) (fun _ _ _ h => h) (Or.inr ⟨by rfl, rfl⟩) ⟨HX.out.c0, HX.out.c1, HX.out.c2, HX.out.c3⟩ ?rz_16
                  try go_simp
                  refine wpAnyH_take (i := 17) (v := undef) rfl (by kernel_rfl) (by kernel_rfl) (by kernel_rfl) (fun _ _ _ h => h) (Or.inr ⟨by rfl, rfl⟩) ⟨HX.out.c0, HX.out.c1, HX.out.c2, HX.out.c3⟩ ?rz_17
                  try go_simp
                  refine wpAnyH_take (i := 18) (v := undef) rfl (by kernel_rfl) (by kernel_rfl) (by kernel_rfl) (fun _ _ _ h => h) (Or.inr ⟨by rfl, rfl⟩) ⟨HX.out.c0, HX.out.c1, HX.out.c2, HX.out.c3⟩ ?rz_18
                  try go_simp
                  refine wpAnyH_take (i := 19) (v := undef) rfl (by kernel_rfl) (by kernel_rfl) (by kernel_rfl) (fun _ _ _ h => h) (Or.inr ⟨by rfl, rfl⟩) ⟨HX.out.c0, HX.out.c1, HX.out.c2, HX.out.c3⟩ ?rz_19
                  try go_simp
                  refine wpAnyH_take (i := 20) (v := undef) rfl (by kernel_rfl) (by kernel_rfl) (by kernel_rfl) (fun _ _ _ h => h) (Or.inr ⟨by rfl, rfl⟩) ⟨HX.out.c0, HX.out.c1, HX.out.c2, HX.out.c3⟩ ?rz_20
                  try go_simp
                  refine wpAnyH_take (i := 21) (v := undef) rfl (by kernel_rfl) (by kernel_rfl) (by kernel_rfl) (fun _ _ _ h => h) (Or.inr ⟨by rfl, rfl⟩) ⟨HX.out.c0, HX.out.c1, HX.out.c2, HX.out.c3⟩ ?rz_21
                  try go_simp
                  refine wpAnyH_take (i := 22) (v := undef) rfl (by kernel_rfl) (by kernel_rfl) (by kernel_rfl) (fun _ _ _ h => h) (Or.inr ⟨by rfl, rfl⟩) ⟨HX.out.c0, HX.out.c1, HX.out.c2, HX.out.c3⟩ ?rz_22
                  try go_simp
                  refine wpAnyH_take (i := 23) (v := undef) rfl (by kernel_rfl) (by kernel_rfl) (by kernel_rfl) (fun _ _ _ h => h) (Or.inr ⟨by rfl, rfl⟩) ⟨HX.out.c0, HX.out.c1, HX.out.c2, HX.out.c3⟩ ?rz_23
                  try go_simp
                  refine wpAnyH_take (i := 24) (v := ?vz_24) rfl (by kernel_rfl) (by kernel_rfl) (by kernel_rfl) (fun _ _ _ h => h) (Or.inl ⟨by rfl, ?yz_24⟩) ⟨HX.out.c0, HX.out.c1, HX.out.c2, HX.out.c3⟩ ?rz_24
                  case yz_24 => (intro W hSw; (try dsimp only at hSw); obtain ⟨_, _, _, _⟩ := hSw; first | (go_simp; done) | (go_simp; with_reducible rfl))
                  try go_simp
                  refine wpAnyH_take (i := 25) (v := ?vz_25) rfl (by kernel_rfl) (by kernel_rfl) (by kernel_rfl) (fun _ _ _ h => h) (Or.inl ⟨by rfl, ?yz_25⟩) ⟨HX.out.c0, HX.out.c1, HX.out.c2, HX.out.c3⟩ ?rz_25
                  case yz_25 => (intro W hSw; (try dsimp only at hSw); obtain ⟨_, _, _, _⟩ := hSw; first | (go_simp; done) | (go_simp; with_reducible rfl))
                  try go_simp
                  refine wpAnyH_take (i := 26) (v := ?vz_26) rfl (by kernel_rfl) (by kernel_rfl) (by kernel_rfl) (fun _ _ _ h => h) (Or.inl ⟨by rfl, ?yz_26⟩) ⟨HX.out.c0, HX.out.c1, HX.out.c2, HX.out.c3⟩ ?rz_26
                  case yz_26 => (intro W hSw; (try dsimp only at hSw); obtain ⟨_, _, _, _⟩ := hSw; first | (go_simp; done) | (go_simp; with_reducible rfl))
                  try go_simp
                  refine wpAnyH_take (i := 27) (v := ?vz_27) rfl (by kernel_rfl) (by kernel_rfl) (by kernel_rfl) (fun _ _ _ h => h) (Or.inl ⟨by rfl, ?yz_27⟩) ⟨HX.out.c0, HX.out.c1, HX.out.c2, HX.out.c3⟩ ?rz_27
                  case yz_27 => (intro W hSw; (try dsimp only at hSw); obtain ⟨_, _, _, _⟩ := hSw; first | (go_simp; done) | (go_simp; with_reducible rfl))
                  try go_simp
                  refine wpAnyH_take (i := 28) (v := ?vz_28) rfl (by kernel_rfl) (by kernel_rfl) (by kernel_rfl) (fun _ _ _ h => h) (Or.inl ⟨by rfl, ?yz_28⟩) ⟨HX.out.c0, HX.out.c1, HX.out.c2, HX.out.c3⟩ ?rz_28
                  case yz_28 => (intro W hSw; (try dsimp only at hSw); obtain ⟨_, _, _, _⟩ := hSw; first | (go_simp; done) | (go_simp; with_reducible rfl))
                  try go_simp
                  refine wpAnyH_take (i := 29) (v := ?vz_29) rfl (by kernel_rfl) (by kernel_rfl) (by kernel_rfl) (fun _ _ _ h => h) (Or.inl ⟨by rfl, ?yz_29⟩) ⟨HX.out.c0, HX.out.c1, HX.out.c2, HX.out.c3⟩ ?rz_29
                  case yz_29 => (intro W hSw; (try dsimp only at hSw); obtain ⟨_, _, _, _⟩ := hSw; first | (go_simp; done) | (go_simp; with_reducible rfl))
                  try go_simp
                  refine wpAnyH_take (i := 30) (v := ?vz_30) rfl (by kernel_rfl) (by kernel_rfl) (by kernel_rfl) (fun _ _ _ h => h) (Or.inl ⟨by rfl, ?yz_30⟩) ⟨HX.out.c0, HX.out.c1, HX.out.c2, HX.out.c3⟩ ?rz_30
                  case yz_30 => (intro W hSw; (try dsimp only at hSw); obtain ⟨_, _, _, _⟩ := hSw; first | (go_simp; done) | (go_simp; with_reducible rfl))
                  try go_simp
                  refine wpAnyH_take (i := 31) (v := ?vz_31) rfl (by kernel_rfl) (by kernel_rfl) (by kernel_rfl) (fun _ _ _ h => h) (Or.inl ⟨by rfl, ?yz_31⟩) ⟨HX.out.c0, HX.out.c1, HX.out.c2, HX.out.c3⟩ ?rz_31
                  case yz_31 => (intro W hSw; (try dsimp only at hSw); obtain ⟨_, _, _, _⟩ := hSw; first | (go_simp; done) | (go_simp; with_reducible rfl))
                  try go_simp
                  refine wpAnyH_ready (rs := [32]) (by kernel_rfl) (by simp) ?_
                  refine AllReadyH.cons rfl (fun K hK => ?_) AllReadyH.nil
                  go_simp
                  (go_wp2_with (first | (go_at_call 33; refine (HMY _).out.mono ?_; rintro e w6 ⟨rfl, hb6⟩; have HX := Lib.hid (HX.out.below hb6 hbl); have HY := Lib.hid (HY.out.below hb6 hbl); have NA := Lib.hid (NA.out.below hb6); have HBq := Lib.hid (HBq.out.trans (hb6.mono HBq.out.size)); have hbl := Nat.lt_of_lt_of_le hbl hb6.size; clear hb6)))
                  refine hK.out _ _ ⟨HX.out.c0, HX.out.c1, HX.out.c2, HX.out.c3⟩ (fun _ => ?_)
                  clear hK K
                  try go_simp
                  refine wpAnyH_take (i := 33) (v := ?vz_33) rfl (by kernel_rfl) (by kernel_rfl) (by kernel_rfl) (fun _ _ _ h => h) (Or.inl ⟨by rfl, ?yz_33⟩) ⟨HX.out.c0, HX.out.c1, HX.out.c2, HX.out.c3⟩ ?rz_33
                  case yz_33 => (intro W hSw; (try dsimp only at hSw); obtain ⟨_, _, _, _⟩ := hSw; first | (go_simp; done) | (go_simp; with_reducible rfl))
                  try go_simp
                  refine wpAnyH_take (i := 34) (v := ?vz_34) rfl (by kernel_rfl) (by kernel_rfl) (by kernel_rfl) (fun _ _ _ h => h) (Or.inl ⟨by rfl, ?yz_34⟩) ⟨HX.out.c0, HX.out.c1, HX.out.c2, HX.out.c3⟩ ?rz_34
                  case yz_34 => (intro W hSw; (try dsimp only at hSw); obtain ⟨_, _, _, _⟩ := hSw; first | (go_simp; done) | (go_simp; with_reducible rfl))
                  try go_simp
                  refine wpAnyH_done (by kernel_rfl) ?_ _
                  go_wp2
                  go_roundw
                  case rel => exact ⟨1, by go_num, by omega, HBq⟩
                  case measure => simp [intOf]; omega
                · have ht1 : t - 1 < W.length := by omega
                  obtain ⟨b2, o2, hbo, _, _, hc⟩ := hasg_at (HW12.out.below HBq.out) ht1
                  injection hbo with hbo
                  injection hbo with h1 h2
                  subst h1 h2
                  have HY := Lib.hid hc.wr
                  have hlt2 : W[t - 1].1 < W[t].1 := List.pairwise_iff_getElem.1 HM2.out (t - 1) t ht1 ht' (by omega)
                  generalize W[t] = x at *
                  generalize W[t - 1] = y at *
                  obtain ⟨x1, ⟨x2, x3, x4⟩⟩ := x
                  obtain ⟨y1, y2⟩ := y
                  have e0 := HX.out.c0; have e1 := HX.out.c1; have e2 := HX.out.c2; have e3 := HX.out.c3
                  have d0 := HY.out.c0
                  have g1 : Op.bytesLess x1 y1 = false := by rw [less_eq]; exact decide_eq_false fun e => nm_irrefl _ (nm_trans e hlt2)
                  have g2 : Op.bytesLess y1 x1 = true := by rw [less_eq]; exact decide_eq_true hlt2
                  have g3 : (x1 == y1) = false := beq_eq_false_iff_ne.2 fun e => nm_ne hlt2 e.symm
                  have s1 : IntKind.i64.wrap ((t : Int) - 1) = ((t - 1 : Nat) : Int) := by rw [IntKind.wrap_i64]; omega
                  have s2 : (t : Int) - 1 = ((t - 1 : Nat) : Int) := by omega
                  have ht2 : decide ((t : Int) > 0) = true := decide_eq_true (by omega)
                  have ht3 : (t : Int) > 0 := by omega
                  have ht4 : 0 < t := by omega
                  have ht7 : t - 1 < Wn := by omega
                  have ht5 : decide (0 < t) = true := decide_eq_true ht4
                  have ht6 : decide ((0 : Int) < (t : Int)) = true := decide_eq_true ht3
                  clear s2
                  clear hlt2 hc
                  go_wp2_with fail
                  have HX := Lib.hid (HX.out.below (Below.refl wr.heap.size wr).drew hbl)
                  have HY := Lib.hid (HY.out.below (Below.refl wr.heap.size wr).drew hbl)
                  have NA := Lib.hid (NA.out.below (Below.refl wr.heap.size wr).drew)
                  have HBq := Lib.hid HBq.out.drew
                  have hsz : wr.heap.size ≤ wr.drew.heap.size := Nat.le_refl _
                  refine wp_region_held (S := (fun w' => w'.cell? ⟨b, o + t * 4, none⟩ = some (.string ⟨x1.toArray⟩) ∧ w'.cell? ⟨b, o + t * 4 + 1, none⟩ = some (.int .i64 x2) ∧ w'.cell? ⟨b, o + t * 4 + 2, none⟩ = some (.float .f64 x3) ∧ w'.cell? ⟨b, o + t * 4 + 3, none⟩ = some (.string ⟨x4.toArray⟩) ∧ w'.cell? ⟨b, o + (t - 1) * 4, none⟩ = some (.string ⟨y1.toArray⟩))) (by kernel_rfl) ?_
                  change wpAnyH _ _ _ _ _ _ _ _ (World.drew _)
                  refine wpAnyH_take (i := 0) (v := ?vy_0) rfl (by kernel_rfl) (by kernel_rfl) (by kernel_rfl) (fun _ _ _ h => h) (Or.inl ⟨by rfl, ?yy_0⟩) ⟨HX.out.c0, HX.out.c1, HX.out.c2, HX.out.c3, HY.out.c0⟩ ?ry_0
                  case yy_0 => (intro W hSw; (try dsimp only at hSw); obtain ⟨_, _, _, _, _⟩ := hSw; first | (go_simp; done) | (go_simp; with_reducible rfl))
                  try go_simp
                  refine wpAnyH_take (i := 1) (v := ?vy_1) rfl (by kernel_rfl) (by kernel_rfl) (by kernel_rfl) (fun _ _ _ h => h) (Or.inl ⟨by rfl, ?yy_1⟩) ⟨HX.out.c0, HX.out.c1, HX.out.c2, HX.out.c3, HY.out.c0⟩ ?ry_1
                  case yy_1 => (intro W hSw; (try dsimp only at hSw); obtain ⟨_, _, _, _, _⟩ := hSw; first | (go_simp; done) | (go_simp; with_reducible rfl))
                  try go_simp
                  refine wpAnyH_take (i := 2) (v := ?vy_2) rfl (by kernel_rfl) (by kernel_rfl) (by kernel_rfl) (fun _ _ _ h => h) (Or.inl ⟨by rfl, ?yy_2⟩) ⟨HX.out.c0, HX.out.c1, HX.out.c2, HX.out.c3, HY.out.c0⟩ ?ry_2
                  case yy_2 => (intro W hSw; (try dsimp only at hSw); obtain ⟨_, _, _, _, _⟩ := hSw; first | (go_simp; done) | (go_simp; with_reducible rfl))
                  try go_simp
                  refine wpAnyH_take (i := 3) (v := ?vy_3) rfl (by kernel_rfl) (by kernel_rfl) (by kernel_rfl) (fun _ _ _ h => h) (Or.inl ⟨by rfl, ?yy_3⟩) ⟨HX.out.c0, HX.out.c1, HX.out.c2, HX.out.c3, HY.out.c0⟩ ?ry_3
                  case yy_3 => (intro W hSw; (try dsimp only at hSw); obtain ⟨_, _, _, _, _⟩ := hSw; first | (go_simp; done) | (go_simp; with_reducible rfl))
                  try go_simp
                  refine wpAnyH_take (i := 4) (v := ?vy_4) rfl (by kernel_rfl) (by kernel_rfl) (by kernel_rfl) (fun _ _ _ h => h) (Or.inl ⟨by rfl, ?yy_4⟩) ⟨HX.out.c0, HX.out.c1, HX.out.c2, HX.out.c3, HY.out.c0⟩ ?ry_4
                  case yy_4 => (intro W hSw; (try dsimp only at hSw); obtain ⟨_, _, _, _, _⟩ := hSw; first | (go_simp; done) | (go_simp; with_reducible rfl))
                  try go_simp
                  refine wpAnyH_take (i := 5) (v := ?vy_5) rfl (by kernel_rfl) (by kernel_rfl) (by kernel_rfl) (fun _ _ _ h => h) (Or.inl ⟨by rfl, ?yy_5⟩) ⟨HX.out.c0, HX.out.c1, HX.out.c2, HX.out.c3, HY.out.c0⟩ ?ry_5
                  case yy_5 => (intro W hSw; (try dsimp only at hSw); obtain ⟨_, _, _, _, _⟩ := hSw; first | (go_simp; done) | (go_simp; with_reducible rfl))
                  try go_simp
                  refine wpAnyH_ready (rs := [6]) (by kernel_rfl) (by simp) ?_
                  refine AllReadyH.cons rfl (fun K hK => ?_) AllReadyH.nil
                  go_simp
                  (go_wp2_with (first | (go_at_call 32; refine (HH _ NA.out).out.mono ?_; rintro e w6 ⟨rfl, hb6⟩; have HX := Lib.hid (HX.out.below hb6 hbl); have HY := Lib.hid (HY.out.below hb6 hbl); have NA := Lib.hid (NA.out.below hb6); have HBq := Lib.hid (HBq.out.trans (hb6.mono HBq.out.size)); have hbl := Nat.lt_of_lt_of_le hbl hb6.size; clear hb6)))
                  refine hK.out _ _ ⟨HX.out.c0, HX.out.c1, HX.out.c2, HX.out.c3, HY.out.c0⟩ (fun _ => ?_)
                  clear hK K
                  try go_simp
                  refine wpAnyH_take (i := 7) (v := ?vy_7) rfl (by kernel_rfl) (by kernel_rfl) (by kernel_rfl) (fun _ _ _ h => h) (Or.inl ⟨by rfl, ?yy_7⟩) ⟨HX.out.c0, HX.out.c1, HX.out.c2, HX.out.c3, HY.out.c0⟩ ?ry_7
                  case yy_7 => (intro W hSw; (try dsimp only at hSw); obtain ⟨_, _, _, _, _⟩ := hSw; first | (go_simp; done) | (go_simp; with_reducible rfl))
                  try go_simp
                  refine wpAnyH_take (i := 8) (v := ?vy_8) rfl (by kernel_rfl) (by kernel_rfl) (by kernel_rfl) (fun _ _ _ h => h) (Or.inl ⟨by rfl, ?yy_8⟩) ⟨HX.out.c0, HX.out.c1, HX.out.c2, HX.out.c3, HY.out.c0⟩ ?ry_8
                  case yy_8 => (intro W hSw; (try dsimp only at hSw); obtain ⟨_, _, _, _, _⟩ := hSw; first | (go_simp; done) | (go_simp; with_reducible rfl))
                  try go_simp
                  refine wpAnyH_take (i := 9) (v := ?vy_9) rfl (by kernel_rfl) (by kernel_rfl) (by kernel_rfl) (fun _ _ _ h => h) (Or.inl ⟨by rfl, ?yy_9⟩) ⟨HX.out.c0, HX.out.c1, HX.out.c2, HX.out.c3, HY.out.c0⟩ ?ry_9
                  case yy_9 => (intro W hSw; (try dsimp only at hSw); obtain ⟨_, _, _, _, _⟩ := hSw; first | (go_simp; done) | (go_simp; with_reducible rfl))
                  try go_simp
                  refine wpAnyH_take (i := 10) (v := ?vy_10) rfl (by kernel_rfl) (by kernel_rfl) (by kernel_rfl) (fun _ _ _ h => h) (Or.inl ⟨by rfl, ?yy_10⟩) ⟨HX.out.c0, HX.out.c1, HX.out.c2, HX.out.c3, HY.out.c0⟩ ?ry_10
                  case yy_10 => (intro W hSw; (try dsimp only at hSw); obtain ⟨_, _, _, _, _⟩ := hSw; first | (go_simp; done) | (go_simp; with_reducible rfl))
                  try go_simp
                  refine wpAnyH_take (i := 11) (v := ?vy_11) rfl (by kernel_rfl) (by kernel_rfl) (by kernel_rfl) (fun _ _ _ h => h) (Or.inl ⟨by rfl, ?yy_11⟩) ⟨HX.out.c0, HX.out.c1, HX.out.c2, HX.out.c3, HY.out.c0⟩ ?ry_11
                  case yy_11 => (intro W hSw; (try dsimp only at hSw); obtain ⟨_, _, _, _, _⟩ := hSw; first | (go_simp; done) | (go_simp; with_reducible rfl))
                  try go_simp
                  refine wpAnyH_take (i := 12) (v := ?vy_12) rfl (by kernel_rfl) (by kernel_rfl) (by kernel_rfl) (fun _ _ _ h => h) (Or.inl ⟨by rfl, ?yy_12⟩) ⟨HX.out.c0, HX.out.c1, HX.out.c2, HX.out.c3, HY.out.c0⟩ ?ry_12
                  case yy_12 => (intro W hSw; (try dsimp only at hSw); obtain ⟨_, _, _, _, _⟩ := hSw; first | (go_simp; done) | (go_simp; with_reducible rfl))
                  try go_simp
                  refine wpAnyH_take (i := 13) (v := ?vy_13) rfl (by kernel_rfl) (by kernel_rfl) (by kernel_rfl) (fun _ _ _ h => h) (Or.inl ⟨by rfl, ?yy_13⟩) ⟨HX.out.c0, HX.out.c1, HX.out.c2, HX.out.c3, HY.out.c0⟩ ?ry_13
                  case yy_13 => (intro W hSw; (try dsimp only at hSw); obtain ⟨_, _, _, _, _⟩ := hSw; first | (go_simp; done) | (go_simp; with_reducible rfl))
                  try go_simp
                  refine wpAnyH_take (i := 14) (v := ?vy_14) rfl (by kernel_rfl) (by kernel_rfl) (by kernel_rfl) (fun _ _ _ h => h) (Or.inl ⟨by rfl, ?yy_14⟩) ⟨HX.out.c0, HX.out.c1, HX.out.c2, HX.out.c3, HY.out.c0⟩ ?ry_14
                  case yy_14 => (intro W hSw; (try dsimp only at hSw); obtain ⟨_, _, _, _, _⟩ := hSw; first | (go_simp; done) | (go_simp; with_reducible rfl))
                  try go_simp
                  refine wpAnyH_take (i := 15) (v := ?vy_15) rfl (by kernel_rfl) (by kernel_rfl) (by kernel_rfl) (fun _ _ _ h => h) (Or.inl ⟨by rfl, ?yy_15⟩) ⟨HX.out.c0, HX.out.c1, HX.out.c2, HX.out.c3, HY.out.c0⟩ ?ry_15
                  case yy_15 => (intro W hSw; (try dsimp only at hSw); obtain ⟨_, _, _, _, _⟩ := hSw; first | (go_simp; done) | (go_simp; with_reducible rfl))
                  try go_simp
                  refine wpAnyH_take (i := 16) (v := ?vy_16) rfl (by kernel_rfl) (by kernel_rfl) (by kernel_rfl) (fun _ _ _ h => h) (Or.inl ⟨by rfl, ?yy_16⟩) ⟨HX.out.c0, HX.out.c1, HX.out.c2, HX.out.c3, HY.out.c0⟩ ?ry_16
                  case yy_16 => (intro W hSw; (try dsimp only at hSw); obtain ⟨_, _, _, _, _⟩ := hSw; first | (go_simp; done) | (go_simp; with_reducible rfl))
                  try go_simp
                  refine wpAnyH_take (i := 17) (v := ?vy_17) rfl (by kernel_rfl) (by kernel_rfl) (by kernel_rfl) (fun _ _ _ h => h) (Or.inl ⟨by rfl, ?yy_17⟩) ⟨HX.out.c0, HX.out.c1, HX.out.c2, HX.out.c3, HY.out.c0⟩ ?ry_17
                  case yy_17 => (intro W hSw; (try dsimp only at hSw); obtain ⟨_, _, _, _, _⟩ := hSw; first | (go_simp; done) | (go_simp; with_reducible rfl))
                  try go_simp
                  refine wpAnyH_take (i := 18) (v := ?vy_18) rfl (by kernel_rfl) (by kernel_rfl) (by kernel_rfl) (fun _ _ _ h => h) (Or.inl ⟨by rfl, ?yy_18⟩) ⟨HX.out.c0, HX.out.c1, HX.out.c2, HX.out.c3, HY.out.c0⟩ ?ry_18
                  case yy_18 => (intro W hSw; (try dsimp only at hSw); obtain ⟨_, _, _, _, _⟩ := hSw; first | (go_simp; done) | (go_simp; with_reducible rfl))
                  try go_simp
                  refine wpAnyH_take (i := 19) (v := ?vy_19) rfl (by kernel_rfl) (by kernel_rfl) (by kernel_rfl) (fun _ _ _ h => h) (Or.inl ⟨by rfl, ?yy_19⟩) ⟨HX.out.c0, HX.out.c1, HX.out.c2, HX.out.c3, HY.out.c0⟩ ?ry_19
                  case yy_19 => (intro W hSw; (try dsimp only at hSw); obtain ⟨_, _, _, _, _⟩ := hSw; first | (go_simp; done) | (go_simp; with_reducible rfl))
                  try go_simp
                  refine wpAnyH_take (i := 20) (v := ?vy_20) rfl (by kernel_rfl) (by kernel_rfl) (by kernel_rfl) (fun _ _ _ h => h) (Or.inl ⟨by rfl, ?yy_20⟩) ⟨HX.out.c0, HX.out.c1, HX.out.c2, HX.out.c3, HY.out.c0⟩ ?ry_20
                  case yy_20 => (intro W hSw; (try dsimp only at hSw); obtain ⟨_, _, _, _, _⟩ := hSw; first | (go_simp; done) | (go_simp; with_reducible rfl))
                  try go_simp
                  refine wpAnyH_take (i := 21) (v := ?vy_21) rfl (by kernel_rfl) (by kernel_rfl) (by kernel_rfl) (fun _ _ _ h => h) (Or.inl ⟨by rfl, ?yy_21⟩) ⟨HX.out.c0, HX.out.c1, HX.out.c2, HX.out.c3, HY.out.c0⟩ ?ry_21
                  case yy_21 => (intro W hSw; (try dsimp only at hSw); obtain ⟨_, _, _, _, _⟩ := hSw; first | (go_simp; done) | (go_simp; with_reducible rfl))
                  try go_simp
                  refine wpAnyH_take (i := 22) (v := ?vy_22) rfl (by kernel_rfl) (by kernel_rfl) (by kernel_rfl) (fun _ _ _ h => h) (Or.inl ⟨by rfl, ?yy_22⟩) ⟨HX.out.c0, HX.out.c1, HX.out.c2, HX.out.c3, HY.out.c0⟩ ?ry_22
                  case yy_22 => (intro W hSw; (try dsimp only at hSw); obtain ⟨_, _, _, _, _⟩ := hSw; first | (go_simp; done) | (go_simp; with_reducible rfl))
                  try go_simp
                  refine wpAnyH_take (i := 23) (v := ?vy_23) rfl (by kernel_rfl) (by kernel_rfl) (by kernel_rfl) (fun _ _ _ h => h) (Or.inl ⟨by rfl, ?yy_23⟩) ⟨HX.out.c0, HX.out.c1, HX.out.c2, HX.out.c3, HY.out.c0⟩ ?ry_23
                  case yy_23 => (intro W hSw; (try dsimp only at hSw); obtain ⟨_, _, _, _, _⟩ := hSw; first | (go_simp; done) | (go_simp; with_reducible rfl))
                  try go_simp
                  refine wpAnyH_take (i := 24) (v := ?vy_24) rfl (by kernel_rfl) (by kernel_rfl) (by kernel_rfl) (fun _ _ _ h => h) (Or.inl ⟨by rfl, ?yy_24⟩) ⟨HX.out.c0, HX.out.c1, HX.out.c2, HX.out.c3, HY.out.c0⟩ ?ry_24
                  case yy_24 => (intro W hSw; (try dsimp only at hSw); obtain ⟨_, _, _, _, _⟩ := hSw; first | (go_simp; done) | (go_simp; with_reducible rfl))
                  try go_simp
                  refine wpAnyH_take (i := 25) (v := ?vy_25) rfl (by kernel_rfl) (by kernel_rfl) (by kernel_rfl) (fun _ _ _ h => h) (Or.inl ⟨by rfl, ?yy_25⟩) ⟨HX.out.c0, HX.out.c1, HX.out.c2, HX.out.c3, HY.out.c0⟩ ?ry_25
                  case yy_25 => (intro W hSw; (try dsimp only at hSw); obtain ⟨_, _, _, _, _⟩ := hSw; first | (go_simp; done) | (go_simp; with_reducible rfl))
                  try go_simp
                  refine wpAnyH_take (i := 26) (v := ?vy_26) rfl (by kernel_rfl) (by kernel_rfl) (by kernel_rfl) (fun _ _ _ h => h) (Or.inl ⟨by rfl, ?yy_26⟩) ⟨HX.out.c0, HX.out.c1, HX.out.c2, HX.out.c3, HY.out.c0⟩ ?ry_26
                  case yy_26 => (intro W hSw; (try dsimp only at hSw); obtain ⟨_, _, _, _, _⟩ := hSw; first | (go_simp; done) | (go_simp; with_reducible rfl))
                  try go_simp
                  refine wpAnyH_take (i := 27) (v := ?vy_27) rfl (by kernel_rfl) (by kernel_rfl) (by kernel_rfl) (fun _ _ _ h => h) (Or.inl ⟨by rfl, ?yy_27⟩) ⟨HX.out.c0, HX.out.c1, HX.out.c2, HX.out.c3, HY.out.c0⟩ ?ry_27
                  case yy_27 => (intro W hSw; (try dsimp only at hSw); obtain ⟨_, _, _, _, _⟩ := hSw; first | (go_simp; done) | (go_simp; with_reducible rfl))
                  try go_simp
                  refine wpAnyH_take (i := 28) (v := ?vy_28) rfl (by kernel_rfl) (by kernel_rfl) (by kernel_rfl) (fun _ _ _ h => h) (Or.inl ⟨by rfl, ?yy_28⟩) ⟨HX.out.c0, HX.out.c1, HX.out.c2, HX.out.c3, HY.out.c0⟩ ?ry_28
                  case yy_28 => (intro W hSw; (try dsimp only at hSw); obtain ⟨_, _, _, _, _⟩ := hSw; first | (go_simp; done) | (go_simp; with_reducible rfl))
                  try go_simp
                  refine wpAnyH_take (i := 29) (v := ?vy_29) rfl (by kernel_rfl) (by kernel_rfl) (by kernel_rfl) (fun _ _ _ h => h) (Or.inl ⟨by rfl, ?yy_29⟩) ⟨HX.out.c0, HX.out.c1, HX.out.c2, HX.out.c3, HY.out.c0⟩ ?ry_29
                  case yy_29 => (intro W hSw; (try dsimp only at hSw); obtain ⟨_, _, _, _, _⟩ := hSw; first | (go_simp; done) | (go_simp; with_reducible rfl))
                  try go_simp
                  refine wpAnyH_take (i := 30) (v := ?vy_30) rfl (by kernel_rfl) (by kernel_rfl) (by kernel_rfl) (fun _ _ _ h => h) (Or.inl ⟨by rfl, ?yy_30⟩) ⟨HX.out.c0, HX.out.c1, HX.out.c2, HX.out.c3, HY.out.c0⟩ ?ry_30
                  case yy_30 => (intro W hSw; (try dsimp only at hSw); obtain ⟨_, _, _, _, _⟩ := hSw; first | (go_simp; done) | (go_simp; with_reducible rfl))
                  try go_simp
                  refine wpAnyH_take (i := 31) (v := ?vy_31) rfl (by kernel_rfl) (by kernel_rfl) (by kernel_rfl) (fun _ _ _ h => h) (Or.inl ⟨by rfl, ?yy_31⟩) ⟨HX.out.c0, HX.out.c1, HX.out.c2, HX.out.c3, HY.out.c0⟩ ?ry_31
                  case yy_31 => (intro W hSw; (try dsimp only at hSw); obtain ⟨_, _, _, _, _⟩ := hSw; first | (go_simp; done) | (go_simp; with_reducible rfl))
                  try go_simp
                  refine wpAnyH_ready (rs := [32]) (by kernel_rfl) (by simp) ?_
                  refine AllReadyH.cons rfl (fun K hK => ?_) AllReadyH.nil
                  go_simp
                  (go_wp2_with (first | (go_at_call 33; refine (HMY _).out.mono ?_; rintro e w6 ⟨rfl, hb6⟩; have HX := Lib.hid (HX.out.below hb6 hbl); have HY := Lib.hid (HY.out.below hb6 hbl); have NA := Lib.hid (NA.out.below hb6); have HBq := Lib.hid (HBq.out.trans (hb6.mono HBq.out.size)); have hbl := Nat.lt_of_lt_of_le hbl hb6.size; clear hb6)))
                  refine hK.out _ _ ⟨HX.out.c0, HX.out.c1, HX.out.c2, HX.out.c3, HY.out.c0⟩ (fun _ => ?_)
                  clear hK K
                  try go_simp
                  refine wpAnyH_take (i := 33) (v := ?vy_33) rfl (by kernel_rfl) (by kernel_rfl) (by kernel_rfl) (fun _ _ _ h => h) (Or.inl ⟨by rfl, ?yy_33⟩) ⟨HX.out.c0, HX.out.c1, HX.out.c2, HX.out.c3, HY.out.c0⟩ ?ry_33
                  case yy_33 => (intro W hSw; (try dsimp only at hSw); obtain ⟨_, _, _, _, _⟩ := hSw; first | (go_simp; done) | (go_simp; with_reducible rfl))
                  try go_simp
                  refine wpAnyH_take (i := 34) (v := ?vy_34) rfl (by kernel_rfl) (by kernel_rfl) (by kernel_rfl) (fun _ _ _ h => h) (Or.inl ⟨by rfl, ?yy_34⟩) ⟨HX.out.c0, HX.out.c1, HX.out.c2, HX.out.c3, HY.out.c0⟩ ?ry_34
                  case yy_34 => (intro W hSw; (try dsimp only at hSw); obtain ⟨_, _, _, _, _⟩ := hSw; first | (go_simp; done) | (go_simp; with_reducible rfl))
                  try go_simp
                  refine wpAnyH_done (by kernel_rfl) ?_ _
                  go_wp2
                  go_roundw
                  case rel => exact ⟨t + 1, by go_num, by omega, HBq⟩
                  case measure => simp [intOf]; omega
              · obtain rfl : t = Wn := by omega
                have HB13 := Lib.hid (HB12.out.trans (HBq.out.mono HB12.out.size))
                go_wp2_with (go_at_call 11; refine (HF _ (HR.out.below HB13.out)).out.mono ?_; rintro e w14 ⟨rfl, hb⟩; have HB14 := Lib.hid (HB13.out.trans (hb.mono HB13.out.size)); clear hb)
                go_ret
                exact ⟨rfl, HB14.out⟩
          · have hW := hbad he
            subst hW
            have hWn : 0 = Wn := HWN.out
            subst hWn
            have he1 : (ee == 0) = false := beq_eq_false_iff_ne.2 he
            have he2 : (ee != 0) = true := by simpa using he
            clear hmay hbad he
            go_wp2_with (first
              | (go_at_call 24; first
                | (refine (HUQ _ _ _ (HP.out.below HB10.out) HN10.out (HR.out.below HB10.out)).out.mono ?_; rintro e w11 ⟨v11, rfl, hb, ho⟩; obtain ⟨a11, c11, rfl⟩ := own_sl ho; have HB11 := Lib.hid (HB10.out.trans (hb.mono HB10.out.size)); have HW11 := Lib.hid (HW10.out.below hb); have NA11 := Lib.hid (NA10.out.below hb); have HX11 : Hid (HasW (fun k => w10.heap.size ≤ k) w11 (.slice a11 0 c11) []) := Lib.hid (by have h := own_hasG wrC_len ho; first | (simp only [HWN.out] at h; exact h) | exact h); clear hb ho)
                | (refine (HUP _ (HP.out.below HB8.out) (HS.out.below HB8.out) (HR.out.below HB8.out)).out.mono ?_; rintro e w9 ⟨v9, rfl, hb, ho⟩; obtain ⟨a9, c9, rfl⟩ := own_sl ho; have HB9 := Lib.hid (HB8.out.trans (hb.mono HB8.out.size)); have HO9 := Lib.hid (own_below HO8.out hb); have HT9 := Lib.hid (own_below HT.out hb); have HB9s := Lib.hid hb.size; have NA9 := Lib.hid (NA8.out.below hb); have HW9 : Hid (HasW (fun k => w8.heap.size ≤ k) w9 (.slice a9 0 c9) []) := Lib.hid (by have h := own_hasG wrC_len ho; first | (simp only [HWN.out] at h; exact h) | exact h); clear hb ho))
              | (at_builtin; have q1 := own_hao HT9.out; have q2 := Nat.le_trans HO9s.out HB9s.out; have q4 := (own_hasG' snC_len HTN.out HT9.out).news snC_len; refine wpList_append_row9 rfl (.tmp 108) (.tmp 109) 32 rfl w6.heap.size 52 i0 (snagg default) 7 72 under_sns hi hz0 hz1 hz2 rfl (by decide) _ _ _ rfl HO9.out ta Tn tc (cellsG snC T) rfl q1 HA3.out q4 (one_sns T) HA1.out HA2.out q2 ?_; clear q1 q2 q4; intro v10 w10 hown' hgrow; have HB10 := Lib.hid (HB9.out.grown hgrow HB9.out.size (fun q hq => Nat.le_trans HB6.out.size (HO9.out.lt q hq).1)); have HN10 : Hid (HasN (fun k => w6.heap.size ≤ k) w10 v10 (O ++ T)) := Lib.hid (own_hasG snC_len (by rw [List.length_append, cellsG_append, HTN.out, HON.out]; exact hown')); have HW10 := Lib.hid (HW9.out.grown hgrow (fun b hb e => Nat.not_lt.2 hb (HOlt.out b e.symm))); have NA10 := Lib.hid (NA9.out.grown hgrow (fun b hb e => Nat.not_lt.2 (HO9.out.lt b e.symm).1 hb)); clear hown' hgrow)
              | (go_at_call 26; refine (HWW.out HW11.out HX11.out).mono ?_; rintro e w12 ⟨rfl, hb⟩; have HB12 := Lib.hid (HB11.out.trans (hb.mono HB11.out.size)); have HW12 := Lib.hid (HW11.out.below hb); have NA12 := Lib.hid (NA11.out.below hb); clear hb))
            go_loopw [18] (fun vi wr => vi = .int .i64 0 ∧ Hid (Below w12.heap.size w12 wr)) (fun _ _ => 0)
            case atStart => exact ⟨rfl, Lib.hid (Below.refl _ _)⟩
            case round =>
              obtain ⟨rfl, HBq⟩ := hrel
              have HB13 := Lib.hid (HB12.out.trans (HBq.out.mono HB12.out.size))
              go_wp2_with (go_at_call 11; refine (HF _ (HR.out.below HB13.out)).out.mono ?_; rintro e w14 ⟨rfl, hb⟩; have HB14 := Lib.hid (HB13.out.trans (hb.mono HB13.out.size)); clear hb)
              go_ret
              exact ⟨rfl, HB14.out⟩
/-- racelaw9.ProgReads answers true. -/
theorem reads_law (hp : HasO P w vp p) (hs : HasN Q w vs l) (hm : HasN M w vm m) (hR : Rdy w) (hwp : ∀ o ∈ p, o.wf) (hws : ∀ s ∈ l, s.wf) (hwm : ∀ s ∈ m, s.wf) :
    Calls Tryz.prog 7 #[vp, vs, vm] w fun e w' => e = .returned (.bool true) ∧ Below w.heap.size w w' := by
  by_cases h : fewO p = false ∨ fewS l = false ∨ fewS m = false
  · exact reads_out hp hs hm hR hwp h
  · have h1 : fewO p = true := by cases e : fewO p with | true => rfl | false => exact absurd (.inl e) h
    have h2 : fewS l = true := by cases e : fewS l with | true => rfl | false => exact absurd (.inr (.inl e)) h
    have h3 : fewS m = true := by cases e : fewS m with | true => rfl | false => exact absurd (.inr (.inr e)) h
    exact reads_go hp hs hm hR hwp hws hwm h1 h2 h3
end
end Go.Proofs.YtbgccaconhmbaaaGreatDoor
