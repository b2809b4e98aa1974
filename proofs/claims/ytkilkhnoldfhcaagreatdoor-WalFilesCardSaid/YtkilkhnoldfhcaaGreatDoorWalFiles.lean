/- A log's files are named by the numbers of their first records, and have the frames of their records: racelaw7.WalFiles answers true and leaves its arguments as they were. Conditions: the library's tables and errors hold what their initialisers lay. -/
import Derived.Test.YtkilkhnoldfhcaaGreatDoorLya
namespace Go.Proofs.YtkilkhnoldfhcaaGreatDoor
open Go.ChangeShapes Go.WideShapes Go.ChangeAt Go.RowKit
section
variable {C : Nat → Prop} {w w0 w1 : World} {B : Nat}
theorem AO.get {g n cap : Nat} {us : List Value} {all : List (List UInt8)} (h : AO B w w1 (.slice (some ⟨g, 0, none⟩) n cap) us all) {i : Nat} (hi : i < all.length) : ∃ ao' cap', w1.cell? ⟨g, i, none⟩ = some (.slice ao' all[i].length cap') ∧ SB (fun k => k < B) w ao' all[i].length cap' all[i] := by
  have hu : i < us.length := by rw [h.len]; exact hi
  obtain ⟨ao', cap', e, hs⟩ := h.at_ i hu hi
  refine ⟨ao', cap', ?_, hs⟩
  rw [← e]
  have := h.own.cells (g := g) rfl i us[i] (List.getElem?_eq_getElem hu)
  rw [Addr.add_lit, Nat.zero_add] at this
  exact this
theorem ao_shape {ro : Option Addr} {n rc : Nat} {us : List Value} {all : List (List UInt8)} (h : AO B w w1 (.slice ro n rc) us all) : (ro = none ∧ all.length = 0 ∧ rc = 0) ∨ ∃ g, ro = some ⟨g, 0, none⟩ := by
  have ho := h.own
  rcases ho.2 with ⟨e, h0⟩ | ⟨g, c, cur, e, _⟩
  · injection e with e1 e2 e3
    exact .inl ⟨e1, h0, e3⟩
  · injection e with e1 e2 e3
    exact .inr ⟨g, e1⟩
theorem SW.mono {E : Nat → Prop} {ao : Option Addr} {n cap : Nat} {l : List Wo} (h : SW C w ao n cap l) (hd : ∀ k, C k → E k) : SW E w ao n cap l := by
  refine ⟨h.len, h.le, h.max, h.wf, ?_⟩
  rcases h.cells with h0 | ⟨b, off, rfl, hB, hc⟩
  · exact .inl h0
  · refine .inr ⟨b, off, rfl, hd b hB, fun i hi => ?_⟩
    have ho := hc i hi
    obtain ⟨a3, k3, h3, s3⟩ := ho.c3
    obtain ⟨a5, k5, h5, s5⟩ := ho.c5
    refine ⟨ho.c0, ho.c1, ho.c2, ⟨a3, k3, h3, s3.mono (fun k _ hk => hd k hk)⟩, ho.c4, ⟨a5, k5, h5, ⟨s5.len, s5.le, s5.max, s5.wf, ?_⟩⟩⟩
    rcases s5.cells with h0 | ⟨b5, o5, rfl, hB5, hc5⟩
    · exact .inl h0
    · exact .inr ⟨b5, o5, rfl, hd b5 hB5, hc5⟩
theorem mir_at {lg : Lg} {d : Dk} (h : Mir lg d) {i : Nat} (hi : i < (fvs d.f).length) : ∃ hs : i < lg.segs.length, (fvs d.f)[i].name = segN lg.dir lg.segs[i].first ∧ (fvs d.f)[i].data = Fr.joinV lg.segs[i].recs := by
  have hd : i < d.f.length := by simpa [fvs] using hi
  have hl : d.f.length = lg.segs.length := by simpa using congrArg List.length h.files
  have hs : i < lg.segs.length := by omega
  have h1 := congrArg (fun x => x[i]?) h.files
  simp only [List.getElem?_map, List.getElem?_eq_getElem hd, List.getElem?_eq_getElem hs, Option.map_some, Option.some.injEq, Prod.mk.injEq] at h1
  have e : (fvs d.f)[i] = fv d.f[i] := List.getElem_map fv
  rw [e]
  exact ⟨hs, h1.1, h1.2⟩
theorem linked_at : ∀ (r : List Sg) (g : Sg), linked (g :: r) → ∀ (i : Nat) (h : i < (g :: r).length), (g :: r)[i].first = g.first + (allR ((g :: r).take i)).length
  | _, _, _, 0, _ => rfl
  | [], _, _, i + 1, h => by simp at h
  | g2 :: r, g, ⟨h1, h2⟩, i + 1, h => by
    have ih := linked_at r g2 h2 i (by simpa using h)
    have h3 : g2.first = g.first + g.recs.length := h1
    have e : (g :: g2 :: r).take (i + 1) = g :: (g2 :: r).take i := rfl
    rw [List.getElem_cons_succ, ih, e, allR_cons, List.length_append]
    omega
theorem allR_at {l : List Sg} {i : Nat} (hi : i < l.length) : allR l = allR (l.take i) ++ (l[i].recs ++ allR (l.drop (i + 1))) := by
  have e : l = l.take i ++ l[i] :: l.drop (i + 1) := by rw [List.getElem_cons_drop, List.take_append_drop]
  generalize hx : l[i] = x at *
  conv => lhs; rw [e]
  rw [allR_append, allR_cons]
theorem joinV_length (L : List (List UInt8)) : (Fr.joinV L).length = wt L := by
  induction L with
  | nil => rfl
  | cons x s ih =>
    have e2 : Fr.joinV (x :: s) = Fr.frameV x ++ Fr.joinV s := rfl
    have e3 : wt (x :: s) = (x.length + 12) + wt s := by simp [wt]
    rw [e2, List.length_append, Fr.frame_length, ih, e3]
theorem wt_take {L : List (List UInt8)} {j : Nat} (h : j < L.length) : wt (L.take (j + 1)) = wt (L.take j) + (L[j].length + 12) := by
  rw [List.take_add_one, List.getElem?_eq_getElem h, wt_append]
  show _ + wt [L[j]] = _
  rw [wt_one]
theorem wt_take_le (L : List (List UInt8)) (j : Nat) : wt (L.take j) ≤ wt L := by
  conv => rhs; rw [← List.take_append_drop j L]
  rw [wt_append]
  exact Nat.le_add_right _ _
theorem wt_take_lt {L : List (List UInt8)} {j : Nat} (h : j < L.length) : wt (L.take j) < wt L ∧ wt (L.take j) ≤ wt L.dropLast := by
  refine ⟨?_, ?_⟩
  · have h1 := wt_take h
    have h2 := wt_take_le L (j + 1)
    omega
  · have e : L.take j = L.dropLast.take j := by
      rw [List.dropLast_eq_take, List.take_take, Nat.min_eq_left (by omega)]
    rw [e]
    exact wt_take_le _ _
theorem files_step {lg : Lg} {all : List (List UInt8)} (hc : Ch lg 1 all) (hf : Fu lg) {i : Nat} (hi : i < lg.segs.length) :
    lg.segs[i].first = (allR (lg.segs.take i)).length + 1 ∧ (allR (lg.segs.take i)).length + lg.segs[i].recs.length ≤ all.length ∧
    (∀ j, j < lg.segs[i].recs.length → wt (lg.segs[i].recs.take j) < wt lg.segs[i].recs ∧ wt (lg.segs[i].recs.take j) < lg.full ∧ ∃ h : (allR (lg.segs.take i)).length + j < all.length, wt (lg.segs[i].recs.take (j + 1)) = wt (lg.segs[i].recs.take j) + (all[(allR (lg.segs.take i)).length + j].length + 12)) ∧
    wt lg.segs[i].recs ≤ wt all ∧ (allR (lg.segs.take (i + 1))).length = (allR (lg.segs.take i)).length + lg.segs[i].recs.length ∧ (i + 1 < lg.segs.length → lg.full ≤ wt lg.segs[i].recs) := by
  obtain ⟨g, r, e1, e2, e3, e4⟩ := hc.cons
  have hall : all = allR (lg.segs.take i) ++ (lg.segs[i].recs ++ allR (lg.segs.drop (i + 1))) := by rw [← allR_at hi, e1, e3]
  have hti := hf.tight _ (List.getElem_mem hi)
  have hlen : all.length = (allR (lg.segs.take i)).length + (lg.segs[i].recs.length + (allR (lg.segs.drop (i + 1))).length) := by
    have := congrArg List.length hall
    rw [List.length_append, List.length_append] at this
    exact this
  refine ⟨?_, by omega, fun j hj => ⟨(wt_take_lt hj).1, ?_, by omega, ?_⟩, ?_, ?_, fun h => ?_⟩
  · have hi2 : i < (g :: r).length := by rw [← e1]; exact hi
    have := linked_at r g e2 i hi2
    simp only [e1]
    rw [this, e4]
    omega
  · rcases hti with h | h
    · rw [h] at hj; simp at hj
    · exact Nat.lt_of_le_of_lt (wt_take_lt hj).2 h
  · have e : all[(allR (lg.segs.take i)).length + j]'(by omega) = lg.segs[i].recs[j] := by
      have h1 : all[(allR (lg.segs.take i)).length + j]? = some lg.segs[i].recs[j] := by
        rw [hall, List.getElem?_append_right (Nat.le_add_right _ _), Nat.add_sub_cancel_left, List.getElem?_append_left hj, List.getElem?_eq_getElem hj]
      rw [List.getElem?_eq_getElem (by omega)] at h1
      exact Option.some.inj h1
    rw [wt_take hj, e]
  · rw [hall, wt_append, wt_append]
    omega
  · rw [List.take_add_one, List.getElem?_eq_getElem hi, allR_append, List.length_append]
    show _ + (allR [lg.segs[i]]).length = _
    rw [allR_one]
  · have hd : lg.segs[i] ∈ lg.segs.dropLast := by
      rw [List.dropLast_eq_take]
      exact List.mem_take_iff_getElem.2 ⟨i, by omega, rfl⟩
    exact hf.full _ hd
end
set_option maxRecDepth 100000 in
set_option maxHeartbeats 8000000 in
theorem files_not (W : World) (seg : Int) (ao : Option Addr) (cap : Nat) (l : List Wo) (hl : SW (fun k => k < W.heap.size) W ao l.length cap l) (hT : Tabs W) (hc : fewW l = false ∨ (fewW l = true ∧ (seg < 64 ∨ 262144 < seg))) :
    Calls Tryz.prog 10 #[.int .i64 seg, .slice ao l.length cap] W fun e w' => e = .returned (.bool true) ∧ Below W.heap.size W w' := by
  have HT := Lib.hid hT
  have HL := Lib.hid hl
  have HB := Lib.hid (Below.refl W.heap.size W)
  have HF := fun w h => Lib.hid (feww_any (C := fun k => k < W.heap.size) (w := w) (ao := ao) (n := l.length) (cap := cap) (l := l) h)
  clear hT hl
  have A11 := fun w (h : Below W.heap.size W w) => Lib.hid (first7 w (HT.out.below h))
  rcases hc with h | ⟨h, h2⟩
  · rw [h] at HF
    clear h
    go_enter Tryz.func10, Tryz.ntmps10
    go_wp2_with (first
      | (go_at_call 11; (refine (A11 _ HB.out).out.mono ?_); rintro e w1 ⟨rfl, hb⟩; have HB := Lib.hid (HB.out.trans (hb.mono HB.out.size)); clear hb)
      | (go_at_call 12; (refine (HF _ (HL.out.below HB.out)).out.mono ?_); rintro e w1 ⟨rfl, hb⟩; have HB := Lib.hid (HB.out.trans (hb.mono HB.out.size)); clear hb))
    go_ret
    exact ⟨rfl, HB.out⟩
  · rw [h] at HF
    clear h
    rcases (show seg < 64 ∨ (¬ seg < 64 ∧ 262144 < seg) by omega) with h3 | ⟨h3, h4⟩
    · have d1 : decide (seg < 64) = true := decide_eq_true h3
      clear h2 h3
      go_enter Tryz.func10, Tryz.ntmps10
      go_wp2_with (first
        | (go_at_call 11; (refine (A11 _ HB.out).out.mono ?_); rintro e w1 ⟨rfl, hb⟩; have HB := Lib.hid (HB.out.trans (hb.mono HB.out.size)); clear hb)
        | (go_at_call 12; (refine (HF _ (HL.out.below HB.out)).out.mono ?_); rintro e w1 ⟨rfl, hb⟩; have HB := Lib.hid (HB.out.trans (hb.mono HB.out.size)); clear hb))
      go_ret
      exact ⟨rfl, HB.out⟩
    · have d1 : decide (seg < 64) = false := decide_eq_false h3
      have d2 : decide (262144 < seg) = true := decide_eq_true h4
      clear h2 h3 h4
      go_enter Tryz.func10, Tryz.ntmps10
      go_wp2_with (first
        | (go_at_call 11; (refine (A11 _ HB.out).out.mono ?_); rintro e w1 ⟨rfl, hb⟩; have HB := Lib.hid (HB.out.trans (hb.mono HB.out.size)); clear hb)
        | (go_at_call 12; (refine (HF _ (HL.out.below HB.out)).out.mono ?_); rintro e w1 ⟨rfl, hb⟩; have HB := Lib.hid (HB.out.trans (hb.mono HB.out.size)); clear hb))
      go_ret
      exact ⟨rfl, HB.out⟩
set_option maxRecDepth 100000 in
set_option maxHeartbeats 16000000 in
theorem files_main (W : World) (full : Nat) (hf : 64 ≤ full ∧ full ≤ 262144) (ao : Option Addr) (cap : Nat) (l : List Wo) (hl : SW (fun k => k < W.heap.size) W ao l.length cap l) (hT : Tabs W) (hfew : fewW l = true) :
    Calls Tryz.prog 10 #[.int .i64 (full : Int), .slice ao l.length cap] W fun e w' => e = .returned (.bool true) ∧ Below W.heap.size W w' := by
  have HT := Lib.hid hT
  have HL := Lib.hid hl
  have HB := Lib.hid (Below.refl W.heap.size W)
  have HF := fun w h => Lib.hid (feww_any (C := fun k => k < W.heap.size) (w := w) (ao := ao) (n := l.length) (cap := cap) (l := l) h)
  rw [hfew] at HF
  have A11 := fun w (h : Below W.heap.size W w) => Lib.hid (first7 w (HT.out.below h))
  have HOP := Lib.hid (fun w (h : Tabs w) (h2 : SW (fun k => k < w.heap.size) w ao l.length cap l) => opened_any w h full hf h2 hfew)
  have hin := opIn_all (full := full) hfew l.length (Nat.le_refl _)
  have hmi := opMir_all (full := full) hf.1 hfew l.length (Nat.le_refl _)
  rw [List.take_length] at hin hmi
  have hl200 := (feww_yes hfew).1
  have hw20 := (feww_yes hfew).2
  have d1 : decide ((full : Int) < 64) = false := decide_eq_false (by omega)
  have d2 : decide (262144 < (full : Int)) = false := decide_eq_false (by omega)
  have HFL := Lib.hid hf
  clear hT hl hfew hf
  generalize opFold full l = s at *
  obtain ⟨lg, d, all⟩ := s
  have HCH := Lib.hid hin.ch
  have hal : all.length ≤ 200 := Nat.le_trans hin.len hl200
  have hdir := hin.dir
  have hful := hin.full
  have hwt : wt all ≤ 1000000 := by have := hin.wt; simp only at this; omega
  obtain ⟨HFU, HMI⟩ := hmi
  have HFU := Lib.hid HFU
  have HMI := Lib.hid HMI
  have HDIR := Lib.hid hdir
  have HFUL := Lib.hid hful
  simp only at HOP HCH hal HFU HMI HDIR HFUL
  have HAL := Lib.hid hal
  have HWT := Lib.hid hwt
  clear hin hdir hful hwt hal hl200 hw20
  obtain ⟨F, hF⟩ : ∃ F, F = (fvs d.f).length := ⟨_, rfl⟩
  have hFs : F = lg.segs.length := by rw [hF]; simpa [fvs] using congrArg List.length HMI.out.files
  have HFS := Lib.hid hFs
  have HFE := Lib.hid hF
  have hF0 : 0 < F := by rw [hFs]; exact HCH.out.ok.ne
  have hF9 : F ≤ 1000000 := by rw [hFs]; exact HCH.out.ok.few
  clear hF hFs
  go_enter Tryz.func10, Tryz.ntmps10
  go_upto_region 9 with (first
    | (go_at_call 11; (refine (A11 _ HB.out).out.mono ?_); rintro e w1 ⟨rfl, hb⟩; have HB := Lib.hid (HB.out.trans (hb.mono HB.out.size)); clear hb)
    | (go_at_call 12; (refine (HF _ (HL.out.below HB.out)).out.mono ?_); rintro e w1 ⟨rfl, hb⟩; have HB := Lib.hid (HB.out.trans (hb.mono HB.out.size)); clear hb)
    | (go_at_call 38; (refine (HOP.out _ (HT.out.below HB.out) ((HL.out.below HB.out).mono (fun k hk => Nat.lt_of_lt_of_le hk HB.out.size))).mono ?_); rintro e w2 ⟨a, dp, C, S, v, us, rfl, hw, ha, hb⟩; have HB := Lib.hid (HB.out.trans (hb.mono HB.out.size)); have HW := Lib.hid hw; have HA := Lib.hid ha; obtain ⟨ro, rc, rfl⟩ := own_slice ha.own; clear hw ha hb)
    | (go_at_call 35; (refine (dk_files HW.out.dk).mono ?_); rw [← HFE.out]; rintro e w3 ⟨fo, fc, rfl, hs, hb⟩; have HS := Lib.hid hs; have HB := Lib.hid (HB.out.trans (hb.mono HB.out.size)); have HA := Lib.hid (HA.out.below hb); clear hs hb))
  obtain ⟨b, off, hfo, HBL, HSTEP⟩ : ∃ b off, fo = some ⟨b, off, none⟩ ∧ Hid (b < w3.heap.size) ∧ Hid (∀ i, i < F → ∃ recs : List (List UInt8), w3.cell? ⟨b, off + i * 3, none⟩ = some (nmv (segN dLog ((allR (lg.segs.take i)).length + 1))) ∧ (∃ a1 k1, w3.cell? ⟨b, off + i * 3 + 1, none⟩ = some (.slice a1 (wt recs) k1)) ∧ (allR (lg.segs.take i)).length + recs.length ≤ all.length ∧
      (∀ j, j < recs.length → wt (recs.take j) < wt recs ∧ wt (recs.take j) < full ∧ ∃ h : (allR (lg.segs.take i)).length + j < all.length, wt (recs.take (j + 1)) = wt (recs.take j) + (all[(allR (lg.segs.take i)).length + j].length + 12)) ∧
      wt recs ≤ wt all ∧ (allR (lg.segs.take (i + 1))).length = (allR (lg.segs.take i)).length + recs.length ∧ (i + 1 < F → full ≤ wt recs)) := by
    rcases HS.out.cells with h0 | ⟨b, off, hfo, _, hc⟩
    · omega
    · refine ⟨b, off, hfo, Lib.hid (World.block_lt_of_cell? _ _ (hc 0 (by have := HFE.out; omega)).c0), Lib.hid (fun i hi => ?_)⟩
      have hfat := hc i (by have := HFE.out; omega)
      obtain ⟨hs, hnm, hdt⟩ := mir_at HMI.out (show i < (fvs d.f).length by have := HFE.out; omega)
      obtain ⟨f1, f2, f3, f4, f5, f6⟩ := files_step HCH.out HFU.out hs
      obtain ⟨a1, k1, c1, _⟩ := hfat.c1
      have c0 := hfat.c0
      rw [hnm, HDIR.out, f1] at c0
      rw [hdt, joinV_length] at c1
      rw [HFUL.out] at f3 f6
      exact ⟨lg.segs[i].recs, c0, ⟨a1, k1, c1⟩, f2, f3, f4, f5, fun h => f6 (by have := HFS.out; omega)⟩
  subst hfo
  rcases ao_shape HA.out with ⟨rfl, hz, rfl⟩ | ⟨g, rfl⟩
  · have HZ := Lib.hid hz
    clear hz
    go_wp2
    go_loopw [9, 10] (fun vat vi wr => ∃ (i at_ : Nat), vi = .int .i64 (i : Int) ∧ vat = .int .i64 (at_ : Int) ∧ i ≤ F ∧ Hid (at_ = (allR (lg.segs.take i)).length) ∧ Hid (Below w3.heap.size w3 wr) ∧ Hid (Below W.heap.size W wr)) (fun _ vi _ => F - (RowKit.intOf vi).toNat)
    case atStart => exact ⟨0, 0, rfl, rfl, Nat.zero_le _, Lib.hid rfl, Lib.hid (Below.refl _ _), HB⟩
    case round =>
      clear HB
      obtain ⟨i, at_, rfl, rfl, hi, HAT, HX, HB⟩ := hrel
      by_cases hlt : i < F
      · have hil : (i : Int) < (F : Int) := by omega
        have hil2 : decide (i < F) = true := decide_eq_true hlt
        have HST := Lib.hid (HSTEP.out i hlt)
        obtain ⟨recs, c0, ⟨a1, k1, c1⟩, hrl, htk, hwl, hti, hfu⟩ := HST.out
        have q0 := (HX.out.cell (p := ⟨b, off + i * 3, none⟩) HBL.out).trans c0
        have q1 := (HX.out.cell (p := ⟨b, off + i * 3 + 1, none⟩) HBL.out).trans c1
        have hat := HAT.out
        have hall2 := HAL.out
        rw [← hat] at q0 hrl htk hti
        have h1 : IntKind.i64.wrap ((at_ : Int) + 1) = (at_ : Int) + 1 := by rw [wrap_in (by omega)]
        have hwi : IntKind.i64.wrap ((i : Int) + 1) = (i : Int) + 1 := by rw [wrap_in (by omega)]
        have hwF : IntKind.i64.wrap ((F : Int) - 1) = (F : Int) - 1 := by rw [wrap_in (by omega)]
        have HNM : Hid (nameV dLog ((at_ : Int) + 1) = (segN dLog (at_ + 1), 0)) := Lib.hid (by
          unfold nameV
          rw [if_neg (by decide), if_neg (by omega), show ((at_ : Int) + 1).toNat = at_ + 1 by omega])
        have HNA := fun w h => Lib.hid (name_any w h dLog (Nat.le_trans (by decide : 3 ≤ 1000) (by decide)) ((at_ : Int) + 1) (by omega) (by omega))
        rw [HNM.out] at HNA
        have HTK := Lib.hid htk
        have HRL := Lib.hid hrl
        have HTI := Lib.hid hti
        have HFF := Lib.hid hfu
        have HLT := Lib.hid hlt
        have HC1 := Lib.hid c1
        have hwR : wt recs ≤ 1000000 := by have := HWT.out; omega
        generalize hD : wt recs = D at *
        have HDD := Lib.hid hD
        clear hrl htk hwl hti hfu hat hD HST c0 c1 hlt hall2
        go_upto_region 16 with (go_at_call 21; (refine (HNA wr (HT.out.below HB.out)).out.mono ?_); rintro e w4 ⟨rfl, hb⟩; have HB := Lib.hid (HB.out.trans (hb.mono HB.out.size)); have HX := Lib.hid (HX.out.trans (hb.mono HX.out.size)); have q0 := (hb.cell (p := ⟨b, off + i * 3, none⟩) (World.block_lt_of_cell? _ _ q0)).trans q0; clear hb)
        go_wp2
        clear q0 q1
        go_loopw [9, 13] (fun vat vn wx => ∃ (j m q : Nat), vat = .int .i64 (m : Int) ∧ vn = .int .i64 (q : Int) ∧ j ≤ recs.length ∧ Hid (m = at_ + j) ∧ Hid (q = wt (recs.take j)) ∧ Hid (Below w3.heap.size w3 wx) ∧ Hid (Below W.heap.size W wx)) (fun vat _ _ => at_ + recs.length - (RowKit.intOf vat).toNat)
        case atStart => exact ⟨0, at_, 0, rfl, rfl, Nat.zero_le _, Lib.hid rfl, Lib.hid rfl, HX, HB⟩
        case round =>
          clear HX HB
          obtain ⟨j, m, q, rfl, rfl, hj, HM, HQ, HX, HB⟩ := hrel
          have q1 := (HX.out.cell (p := ⟨b, off + i * 3 + 1, none⟩) HBL.out).trans HC1.out
          by_cases hjl : j < recs.length
          · skip
            obtain ⟨_, _, t3, _⟩ := HTK.out j hjl
            exact absurd t3 (by have := HZ.out; omega)
          · have hjr : j = recs.length := by omega
            have hqD : q = D := by rw [HQ.out, hjr, List.take_length]; exact HDD.out
            subst hqD
            have hne : ((q : Int) != (q : Int)) = false := by simp
            have hqq : decide (q < q) = false := decide_eq_false (Nat.lt_irrefl q)
            have HMN : Hid (m = (allR (lg.segs.take (i + 1))).length) := Lib.hid (by rw [HTI.out, HM.out, hjr])
            have HQL := Lib.hid hj
            clear hjl hj hjr hwR
            by_cases hlast : i + 1 < F
            · have hfull := HFF.out hlast
              have d4 : decide ((i : Int) < (F : Int) - 1) = true := decide_eq_true (by omega)
              have d5 : decide (q < full) = false := decide_eq_false (by omega)
              clear hlast hfull
              go_wp2
              have hlt2 := HLT.out
              exact ⟨⟨i + 1, m, congrArg (Value.int .i64) (by omega), rfl, hlt2, HMN, HX, HB⟩, by simp [RowKit.intOf]; omega⟩
            · have d4 : decide ((i : Int) < (F : Int) - 1) = false := decide_eq_false (by omega)
              clear hlast
              go_wp2
              have hlt2 := HLT.out
              exact ⟨⟨i + 1, m, congrArg (Value.int .i64) (by omega), rfl, hlt2, HMN, HX, HB⟩, by simp [RowKit.intOf]; omega⟩
      · have hiF : i = F := by omega
        subst hiF
        have hfin : at_ = all.length := by
          obtain ⟨g', r', e1, e2, e3, e4⟩ := HCH.out.cons
          rw [HAT.out, HFS.out, List.take_length, e1, e3]
        subst hfin
        have hii : decide (i < i) = false := decide_eq_false (Nat.lt_irrefl i)
        have h1i : decide ((1 : Int) ≤ (i : Int)) = true := decide_eq_true (by omega)
        go_wp2_with (go_at_call 11; (refine (A11 _ HB.out).out.mono ?_); rintro e w6 ⟨rfl, hb⟩; have HB := Lib.hid (HB.out.trans (hb.mono HB.out.size)); clear hb)
        go_ret
        exact ⟨rfl, HB.out⟩
  · skip
    go_wp2
    go_loopw [9, 10] (fun vat vi wr => ∃ (i at_ : Nat), vi = .int .i64 (i : Int) ∧ vat = .int .i64 (at_ : Int) ∧ i ≤ F ∧ Hid (at_ = (allR (lg.segs.take i)).length) ∧ Hid (Below w3.heap.size w3 wr) ∧ Hid (Below W.heap.size W wr)) (fun _ vi _ => F - (RowKit.intOf vi).toNat)
    case atStart => exact ⟨0, 0, rfl, rfl, Nat.zero_le _, Lib.hid rfl, Lib.hid (Below.refl _ _), HB⟩
    case round =>
      clear HB
      obtain ⟨i, at_, rfl, rfl, hi, HAT, HX, HB⟩ := hrel
      by_cases hlt : i < F
      · have hil : (i : Int) < (F : Int) := by omega
        have hil2 : decide (i < F) = true := decide_eq_true hlt
        have HST := Lib.hid (HSTEP.out i hlt)
        obtain ⟨recs, c0, ⟨a1, k1, c1⟩, hrl, htk, hwl, hti, hfu⟩ := HST.out
        have q0 := (HX.out.cell (p := ⟨b, off + i * 3, none⟩) HBL.out).trans c0
        have q1 := (HX.out.cell (p := ⟨b, off + i * 3 + 1, none⟩) HBL.out).trans c1
        have hat := HAT.out
        have hall2 := HAL.out
        rw [← hat] at q0 hrl htk hti
        have h1 : IntKind.i64.wrap ((at_ : Int) + 1) = (at_ : Int) + 1 := by rw [wrap_in (by omega)]
        have hwi : IntKind.i64.wrap ((i : Int) + 1) = (i : Int) + 1 := by rw [wrap_in (by omega)]
        have hwF : IntKind.i64.wrap ((F : Int) - 1) = (F : Int) - 1 := by rw [wrap_in (by omega)]
        have HNM : Hid (nameV dLog ((at_ : Int) + 1) = (segN dLog (at_ + 1), 0)) := Lib.hid (by
          unfold nameV
          rw [if_neg (by decide), if_neg (by omega), show ((at_ : Int) + 1).toNat = at_ + 1 by omega])
        have HNA := fun w h => Lib.hid (name_any w h dLog (Nat.le_trans (by decide : 3 ≤ 1000) (by decide)) ((at_ : Int) + 1) (by omega) (by omega))
        rw [HNM.out] at HNA
        have HTK := Lib.hid htk
        have HRL := Lib.hid hrl
        have HTI := Lib.hid hti
        have HFF := Lib.hid hfu
        have HLT := Lib.hid hlt
        have HC1 := Lib.hid c1
        have hwR : wt recs ≤ 1000000 := by have := HWT.out; omega
        generalize hD : wt recs = D at *
        have HDD := Lib.hid hD
        clear hrl htk hwl hti hfu hat hD HST c0 c1 hlt hall2
        go_upto_region 16 with (go_at_call 21; (refine (HNA wr (HT.out.below HB.out)).out.mono ?_); rintro e w4 ⟨rfl, hb⟩; have HB := Lib.hid (HB.out.trans (hb.mono HB.out.size)); have HX := Lib.hid (HX.out.trans (hb.mono HX.out.size)); have q0 := (hb.cell (p := ⟨b, off + i * 3, none⟩) (World.block_lt_of_cell? _ _ q0)).trans q0; clear hb)
        go_wp2
        clear q0 q1
        go_loopw [9, 13] (fun vat vn wx => ∃ (j m q : Nat), vat = .int .i64 (m : Int) ∧ vn = .int .i64 (q : Int) ∧ j ≤ recs.length ∧ Hid (m = at_ + j) ∧ Hid (q = wt (recs.take j)) ∧ Hid (Below w3.heap.size w3 wx) ∧ Hid (Below W.heap.size W wx)) (fun vat _ _ => at_ + recs.length - (RowKit.intOf vat).toNat)
        case atStart => exact ⟨0, at_, 0, rfl, rfl, Nat.zero_le _, Lib.hid rfl, Lib.hid rfl, HX, HB⟩
        case round =>
          clear HX HB
          obtain ⟨j, m, q, rfl, rfl, hj, HM, HQ, HX, HB⟩ := hrel
          have q1 := (HX.out.cell (p := ⟨b, off + i * 3 + 1, none⟩) HBL.out).trans HC1.out
          by_cases hjl : j < recs.length
          · skip
            obtain ⟨t1, t2, t3, t4⟩ := HTK.out j hjl
            rw [← HQ.out] at t1 t2 t4
            have hma : m < all.length := by rw [HM.out]; exact t3
            simp only [← HM.out] at t4
            obtain ⟨a5, k5, c5, _⟩ := (HA.out.below HX.out).get hma
            have hpl : all[m].length ≤ 1000000 := by have := wt_take_le recs (j + 1); rw [t4, HDD.out] at this; omega
            have HT4 := Lib.hid t4
            generalize all[m].length = pl at *
            obtain ⟨q2, hq2⟩ : ∃ q2, q2 = q + (pl + 12) := ⟨_, rfl⟩
            have hq6 : q ≤ 1000000 := by omega
            have hal9 := HAL.out
            have e1 : decide (q < D) = true := decide_eq_true t1
            have e2 : decide (m < all.length) = true := decide_eq_true hma
            have e3 : decide (full ≤ q) = false := decide_eq_false (by omega)
            have e4 : (m : Int) < (all.length : Int) := by omega
            have w1' : IntKind.i64.wrap ((q : Int) + 12) = (q : Int) + 12 := by rw [wrap_in (by omega)]
            have w2' : IntKind.i64.wrap ((q : Int) + 12 + (pl : Int)) = (q2 : Int) := by rw [wrap_in (by omega)]; omega
            have w3' : IntKind.i64.wrap ((m : Int) + 1) = (m : Int) + 1 := by rw [wrap_in (by omega)]
            have HQ2 := Lib.hid hq2
            have HJL := Lib.hid hjl
            clear t1 t2 t3 t4 hpl hq2 hq6 hal9 hjl hj
            go_wp2
            have hjl := HJL.out
            have hq2 := HQ2.out
            have hm := HM.out
            exact ⟨⟨j + 1, m + 1, q2, congrArg (Value.int .i64) (by omega), rfl, hjl, Lib.hid (by omega), Lib.hid (by rw [HT4.out]; exact hq2), HX, HB⟩, by simp [RowKit.intOf]; omega⟩
          · have hjr : j = recs.length := by omega
            have hqD : q = D := by rw [HQ.out, hjr, List.take_length]; exact HDD.out
            subst hqD
            have hne : ((q : Int) != (q : Int)) = false := by simp
            have hqq : decide (q < q) = false := decide_eq_false (Nat.lt_irrefl q)
            have HMN : Hid (m = (allR (lg.segs.take (i + 1))).length) := Lib.hid (by rw [HTI.out, HM.out, hjr])
            have HQL := Lib.hid hj
            clear hjl hj hjr hwR
            by_cases hlast : i + 1 < F
            · have hfull := HFF.out hlast
              have d4 : decide ((i : Int) < (F : Int) - 1) = true := decide_eq_true (by omega)
              have d5 : decide (q < full) = false := decide_eq_false (by omega)
              clear hlast hfull
              go_wp2
              have hlt2 := HLT.out
              exact ⟨⟨i + 1, m, congrArg (Value.int .i64) (by omega), rfl, hlt2, HMN, HX, HB⟩, by simp [RowKit.intOf]; omega⟩
            · have d4 : decide ((i : Int) < (F : Int) - 1) = false := decide_eq_false (by omega)
              clear hlast
              go_wp2
              have hlt2 := HLT.out
              exact ⟨⟨i + 1, m, congrArg (Value.int .i64) (by omega), rfl, hlt2, HMN, HX, HB⟩, by simp [RowKit.intOf]; omega⟩
      · have hiF : i = F := by omega
        subst hiF
        have hfin : at_ = all.length := by
          obtain ⟨g', r', e1, e2, e3, e4⟩ := HCH.out.cons
          rw [HAT.out, HFS.out, List.take_length, e1, e3]
        subst hfin
        have hii : decide (i < i) = false := decide_eq_false (Nat.lt_irrefl i)
        have h1i : decide ((1 : Int) ≤ (i : Int)) = true := decide_eq_true (by omega)
        go_wp2_with (go_at_call 11; (refine (A11 _ HB.out).out.mono ?_); rintro e w6 ⟨rfl, hb⟩; have HB := Lib.hid (HB.out.trans (hb.mono HB.out.size)); clear hb)
        go_ret
        exact ⟨rfl, HB.out⟩
theorem walFiles_walk (W : World) (seg : Int) (_ : -9223372036854775808 ≤ seg) (_ : seg ≤ 9223372036854775807) (ao : Option Addr) (cap : Nat) (l : List Wo) (hl : SW (fun k => k < W.heap.size) W ao l.length cap l) (hT : Tabs W) :
    Calls Tryz.prog 10 #[.int .i64 seg, .slice ao l.length cap] W fun e w' => e = .returned (.bool true) ∧ Below W.heap.size W w' := by
  cases hf : fewW l with
  | false => exact files_not W seg ao cap l hl hT (.inl hf)
  | true =>
    by_cases hs : seg < 64 ∨ 262144 < seg
    · exact files_not W seg ao cap l hl hT (.inr ⟨hf, hs⟩)
    · have h := files_main W seg.toNat (by omega) ao cap l hl hT hf
      rw [show ((seg.toNat : Nat) : Int) = seg by omega] at h
      exact h

set_option maxRecDepth 100000 in
theorem walFiles_lifted (os : Os) (started : os.Started) (H : Type) (enc : TypeId × Value → H) :
    ReturnsInHanded {} Tryz.checked os 10 .any (fun w args => (Rows.walFilesSpec.pre enc Tryz.prog Tryz.f10 [] false w args ∧ laidMetH Tryz.prog laid7 w) ∧ sizedMet enc Tryz.prog Tryz.f10 (OpenSpec.ofChange Rows.walFilesSpec) false w args)
      (Rows.walFilesSpec.post enc Tryz.prog Tryz.f10 false true false false) := by
  refine returnsInHanded_of_change_and (C := Tryz.checked) (X := fun w _ => laidMetH Tryz.prog laid7 w) (fun _ _ _ hh h => h.of_heap hh) own started (by kernel_rfl) Tryz.func10
    (ChangeSpec.witness_shaped (enc := enc) (C := Tryz.checked) (os := os) (X := fun w _ => laidMetH Tryz.prog laid7 w) false (World.doorLaid Tryz.prog 400 os) #[.int .i64 0, .slice none 0 0] 8 rfl (World.shaped_of_RefB (by kernel_rfl) (by kernel_rfl)) (by kernel_rfl) (by kernel_rfl) (by kernel_rfl) (door_met os _)) ?_
  intro W base args ds gs before hval0 hW _ _ hL _
  have hval : ∀ (j : Nat) t v, Tryz.f10.params[j]? = some t → args[j]? = some v → Value.okWide Tryz.prog W .any base t v := hval0
  have hW' := hW
  obtain ⟨p, q, hA0, hV, rfl, hfz, hnd⟩ := hW
  have hA : DataW.TrodAll enc Tryz.prog W 0 (fun _ => true) true Tryz.f10.params.toList args.toList ds p := hA0
  rw [Tryz.params10] at hA hval
  obtain ⟨v0, v1, d0, d1, p0, p1, rfl, rfl, rfl, h0, h1⟩ := trodAll_two hA
  obtain ⟨rfl, rfl⟩ := trodVars_none hV
  clear hA0 hval0
  simp only [List.append_nil] at hW'
  have hlt : ∀ x ∈ p0 ++ p1, x.block < W.heap.size := fun x hx => hW'.lt x (by simpa using hx)
  have hT := tabs_of_laid hL
  have k0 := h0
  obtain ⟨a0, rfl, rfl, rfl, wf0⟩ := open_int Tryz.underlying3 (hval 0 3 v0 rfl rfl) h0
  have hwf0 := wf0
  simp [Lit.wf, IntKind.min, IntKind.max, IntKind.signed, IntKind.bits] at hwf0
  have k1 := h1
  obtain ⟨b1, len1, cap1, rfl⟩ := okWide_slice Tryz.underlying22 (hval 1 22 v1 rfl rfl)
  obtain ⟨fuel1, g1⟩ := h1
  obtain ⟨ao1, c1, xs1, hv1, r1⟩ := open_sw g1
  refine Calls.mono (?walk : Calls _ _ _ _ fun e w' => e = .returned (.bool true) ∧ Below W.heap.size W w') fun e W' ⟨he, hw⟩ => ?_
  case walk =>
    rw [hv1]
    exact walFiles_walk W a0 (by omega) (by omega) ao1 c1 xs1 r1 hT
  subst he
  exact ⟨_, rfl, post_of_below (pa := [] ++ p1) (pv := []) hW' (fun _ _ _ => trodAll_mk1 (shut_bool Tryz.underlying4 _)) (fun sp hsp => trodAll_mk2 (WideElems.Trod_stays laidOut (by kernel_rfl) (of_decide_eq_true (by kernel_rfl)) k0 (fun x hx => hw.same (hlt x (nomatch hx))) (fun x hx => hsp x (nomatch hx))) (WideElems.Trod_stays laidOut (by kernel_rfl) (of_decide_eq_true (by kernel_rfl)) k1 (fun x hx => hw.same (hlt x (by simp [hx]))) (fun x hx => hsp x (by simp [hx])))) (fun _ _ => rfl) (by simp) hw (ok_one (by kernel_rfl) rfl (okWide_bool_mk Tryz.underlying4 _))⟩
theorem walFiles_holds : Rows.WalFilesSaid :=
  OpenClaim.holds_of_wide 10 Tryz.f10 rfl rfl rfl rfl rfl rfl rfl ⟨rfl, rfl, rfl, rfl, rfl⟩ rfl rfl rfl rfl rfl (by kernel_rfl) Tryz.func10 (by kernel_rfl)
    (of_decide_eq_true (by kernel_rfl)) (by unfold Func.isWrapper; first | (rw [if_pos (by decide +kernel)]; kernel_rfl) | (rw [if_neg (by decide +kernel)]; exact ⟨rfl, rfl⟩))
    (fun os started H enc _ => walFiles_lifted os started H enc)
/-- THE TIED CARD. -/
theorem walFiles_card : Rows.WalFilesCardSaid :=
  Claim7.holds_tied_plain_at .later [] [.data, .data, .data, .sentinel, .sentinel] true (true, "e9ab51ce47dcc3953fa184c943e4ea011639904eb8e571ed572ebda56f291a89") true
    walFiles_holds (fun _ h => by cases h) (by kernel_rfl) (fun _ h => by cases h) walFiles_row_tie rfl ⟨rfl, rfl⟩ (by kernel_rfl) rfl
    (fun f fn hf hfn => by
      obtain rfl : f = 10 := Option.some.inj ((show Tryz.prog.funcNamed "headrace/racelaw7.WalFiles" = some 10 by kernel_rfl).symm.trans hf) |>.symm
      obtain rfl : fn = Tryz.f10 := (Option.some.inj (Tryz.func10.symm.trans hfn)).symm
      exact ⟨by kernel_rfl, fun j t ht => by
        rw [Tryz.params10] at ht
        have hm : t ∈ [3, 22] := by simpa using Array.mem_of_getElem? ht
        have hall : ([3, 22].all fun u => !Tryz.prog.wantsStandIn u) = true := by kernel_rfl
        exact (show Tryz.prog.wantsStandIn t = false by simpa using List.all_eq_true.1 hall t hm)⟩)
    (by kernel_rfl)
#print axioms walFiles_card
end Go.Proofs.YtkilkhnoldfhcaaGreatDoor
