/- ProgNeeds' walk, over rows wherever they lie. Conditions: values and texts as Go has them. Elements of rows by their place; rows behind an append elsewhere; what ProgReads puts together, piece by piece. Conditions: none of its own. -/
import Derived.Test.YtbgccaconhmbaaaGreatDoorJMk
import Derived.Test.YtbgccaconhmbaaaGreatDoorJPu
namespace Go.Proofs.YtbgccaconhmbaaaGreatDoor
open Go.ChangeShapes Go.WideShapes Go.ChangeAt Go.RowKit Go.Deep
theorem allW_self : ∀ l : Ent DV, allW l l = true
  | [] => rfl
  | a :: l => by
    rw [allW, allW_self l, Bool.and_true]
    unfold oneW
    rw [sameV_self]; simp
theorem cells_two (w : World) (x : Nat) (n : Nat) (hn : n = w.heap.size) : ∀ j u, (cellsG opC (needP x))[j]? = some u → (w.alloc (.cells #[.int .i64 4, .string ⟨#[]⟩, .int .i64 1, .float .f64 x, .string ⟨#[]⟩, .int .i64 13, .string ⟨#[]⟩, .int .i64 0, .float .f64 0, .string ⟨#[]⟩] 59)).cell? ((⟨n, 0, none⟩ : Addr).add j) = some u := by
  subst hn
  intro j u hu
  rw [Addr.add_lit]
  match j, hu with
  | 0, hu => obtain rfl := Option.some.inj hu; simp [World.cell?_alloc_new]
  | 1, hu => obtain rfl := Option.some.inj hu; simp [World.cell?_alloc_new]
  | 2, hu => obtain rfl := Option.some.inj hu; simp [World.cell?_alloc_new]
  | 3, hu => obtain rfl := Option.some.inj hu; simp [World.cell?_alloc_new]
  | 4, hu => obtain rfl := Option.some.inj hu; simp [World.cell?_alloc_new]
  | 5, hu => obtain rfl := Option.some.inj hu; simp [World.cell?_alloc_new]
  | 6, hu => obtain rfl := Option.some.inj hu; simp [World.cell?_alloc_new]
  | 7, hu => obtain rfl := Option.some.inj hu; simp [World.cell?_alloc_new, DV.none]
  | 8, hu => obtain rfl := Option.some.inj hu; simp [World.cell?_alloc_new, DV.none]
  | 9, hu => obtain rfl := Option.some.inj hu; simp [World.cell?_alloc_new, DV.none]
  | j + 10, hu => cases hu
theorem one_two (x : Nat) : ∀ u ∈ cellsG opC (needP x), u.oneCell' = true := by
  intro u hu
  simp only [cellsG, needP, List.flatMap_cons, List.flatMap_nil, List.append_nil, List.mem_append] at hu
  rcases hu with hu | hu
  · exact one_op _ u hu
  · exact one_op _ u hu
theorem need_wf {p : List OpV} (h : ∀ o ∈ p, o.v.wf) {x : Nat} (hx : x < 18446744073709551616) : ∀ o ∈ p ++ needP x, o.v.wf := by
  intro o ho
  rcases List.mem_append.1 ho with ho | ho
  · exact h o ho
  · simp only [needP, List.mem_cons, List.not_mem_nil, or_false] at ho
    rcases ho with rfl | rfl
    · exact num_wf hx
    · exact none_wf
theorem hasg_sl {α : Type} {f : α → List Value} {sz : Nat} {P : Nat → Prop} {w : World} {v : Value} {l : List α} (h : HasG f sz P w v l) : ∃ ao cap, v = .slice ao l.length cap := by
  obtain ⟨ao, cap, h, _⟩ := h
  exact ⟨ao, cap, h⟩
section
variable {P Q : Nat → Prop} {w : World} {vp vs : Value} {p : List OpV} {l : List SeenV}
set_option maxRecDepth 100000 in
set_option maxHeartbeats 1000000 in
theorem needs_out (hp : HasO P w vp p) (hs : HasN Q w vs l) (hR : Rdy w) (hwp : ∀ o ∈ p, o.wf) (h : fewO p = false ∨ fewS l = false ∨ 38 < p.length) :
    Calls Tryz.prog 9 #[vp, vs] w fun e w' => e = .returned (.bool true) ∧ Below w.heap.size w w' := by
  have HP := Lib.hid hp
  have HS := Lib.hid hs
  have HR := Lib.hid hR
  have HF := fun w hR => Lib.hid (first9_any w hR)
  have HA := fun w (hp : HasO P w vp p) => Lib.hid (fewO_any hp hwp)
  have HB := fun w (hs : HasN Q w vs l) => Lib.hid (fewS_any hs)
  obtain ⟨ao, cap, rfl⟩ := hasg_sl hp
  clear hp
  cases h1 : fewO p with
  | false =>
    simp only [h1] at HA
    clear h h1 hs hR hwp
    go_enter Tryz.func9, Tryz.ntmps9
    go_wp2_with (first
      | (go_at_call 12; refine (HA _ (HP.out.below HB1.out)).out.mono ?_; rintro e w2 ⟨rfl, hb⟩; have HB2 := Lib.hid (HB1.out.trans (hb.mono HB1.out.size)); clear hb)
      | (go_at_call 11; first
        | (refine (HF _ (HR.out.below HB2.out)).out.mono ?_; rintro e w3 ⟨rfl, hb⟩; have HB3 := Lib.hid (HB2.out.trans (hb.mono HB2.out.size)); clear hb)
        | (refine (HF _ HR.out).out.mono ?_; rintro e w1 ⟨rfl, hb⟩; have HB1 := Lib.hid hb; clear hb)))
    go_ret
    exact ⟨rfl, HB3.out⟩
  | true =>
    simp only [h1] at HA
    cases h2 : fewS l with
    | false =>
      simp only [h2] at HB
      clear h h1 h2 hs hR hwp
      go_enter Tryz.func9, Tryz.ntmps9
      go_wp2_with (first
        | (go_at_call 12; refine (HA _ (HP.out.below HB1.out)).out.mono ?_; rintro e w2 ⟨rfl, hb⟩; have HB2 := Lib.hid (HB1.out.trans (hb.mono HB1.out.size)); clear hb)
        | (go_at_call 22; refine (HB _ (HS.out.below HB2.out)).out.mono ?_; rintro e w3 ⟨rfl, hb⟩; have HB3 := Lib.hid (HB2.out.trans (hb.mono HB2.out.size)); clear hb)
        | (go_at_call 11; first
          | (refine (HF _ (HR.out.below HB3.out)).out.mono ?_; rintro e w4 ⟨rfl, hb⟩; have HB4 := Lib.hid (HB3.out.trans (hb.mono HB3.out.size)); clear hb)
          | (refine (HF _ HR.out).out.mono ?_; rintro e w1 ⟨rfl, hb⟩; have HB1 := Lib.hid hb; clear hb)))
      go_ret
      exact ⟨rfl, HB4.out⟩
    | true =>
      simp only [h2] at HB
      have h3 : (38 : Int) < (p.length : Int) := by
        rcases h with h | h | h
        · rw [h1] at h; cases h
        · rw [h2] at h; cases h
        · omega
      generalize p.length = n at *
      clear h h1 h2 hs hR hwp
      go_enter Tryz.func9, Tryz.ntmps9
      go_wp2_with (first
        | (go_at_call 12; refine (HA _ (HP.out.below HB1.out)).out.mono ?_; rintro e w2 ⟨rfl, hb⟩; have HB2 := Lib.hid (HB1.out.trans (hb.mono HB1.out.size)); clear hb)
        | (go_at_call 22; refine (HB _ (HS.out.below HB2.out)).out.mono ?_; rintro e w3 ⟨rfl, hb⟩; have HB3 := Lib.hid (HB2.out.trans (hb.mono HB2.out.size)); clear hb)
        | (go_at_call 11; first
          | (refine (HF _ (HR.out.below HB3.out)).out.mono ?_; rintro e w4 ⟨rfl, hb⟩; have HB4 := Lib.hid (HB3.out.trans (hb.mono HB3.out.size)); clear hb)
          | (refine (HF _ HR.out).out.mono ?_; rintro e w1 ⟨rfl, hb⟩; have HB1 := Lib.hid hb; clear hb)))
      go_ret
      exact ⟨rfl, HB4.out⟩
set_option maxRecDepth 100000 in
set_option maxHeartbeats 1000000 in
theorem needs_bad (hp : HasO P w vp p) (hs : HasN Q w vs l) (hR : Rdy w) (hwp : ∀ o ∈ p, o.wf) (hws : ∀ s ∈ l, s.wf) (h1 : fewO p = true) (h2 : fewS l = true) (h3 : p.length ≤ 38) (hb : (runV p l).2 ≠ 0) :
    Calls Tryz.prog 9 #[vp, vs] w fun e w' => e = .returned (.bool true) ∧ Below w.heap.size w w' := by
  have HP := Lib.hid hp
  have HS := Lib.hid hs
  have HR := Lib.hid hR
  have HF := fun w hR => Lib.hid (first9_any w hR)
  have HA := fun w (hp : HasO P w vp p) => Lib.hid (fewO_any hp hwp)
  have HB := fun w (hs : HasN Q w vs l) => Lib.hid (fewS_any hs)
  simp only [h1] at HA
  simp only [h2] at HB
  have hl200 : l.length ≤ 200 := by
    unfold fewS at h2
    rw [Bool.and_eq_true] at h2
    exact of_decide_eq_true h2.1
  have HU := fun w (hp : HasO P w vp p) (hs : HasN Q w vs l) (hR : Rdy w) => Lib.hid (run_any hp hs hR.stb.stp (by omega) (fun o ho => (hwp o ho).2.2) hws)
  have hb1 := run_bad hb
  have hbb : ((runV p l).2 != 0) = true := by simpa using hb
  obtain ⟨r1, r2⟩ : ∃ r, runV p l = r := ⟨_, rfl⟩
  rw [r2] at hb1 hbb
  simp only [r2] at HU
  obtain ⟨q, e⟩ := r1
  simp only at hb1 hbb
  subst hb1
  obtain ⟨ao, cap, rfl⟩ := hasg_sl hp
  clear hp
  have h4 : ¬ (38 : Int) < (p.length : Int) := by omega
  generalize p.length = n at *
  clear h1 h2 hs hR hwp hws hb r2 hl200 h3
  go_enter Tryz.func9, Tryz.ntmps9
  go_wp2_with (first
    | (go_at_call 12; refine (HA _ (HP.out.below HB1.out)).out.mono ?_; rintro e w2 ⟨rfl, hb⟩; have HB2 := Lib.hid (HB1.out.trans (hb.mono HB1.out.size)); clear hb)
    | (go_at_call 22; refine (HB _ (HS.out.below HB2.out)).out.mono ?_; rintro e w3 ⟨rfl, hb⟩; have HB3 := Lib.hid (HB2.out.trans (hb.mono HB2.out.size)); clear hb)
    | (go_at_call 24; refine (HU _ (HP.out.below HB3.out) (HS.out.below HB3.out) (HR.out.below HB3.out)).out.mono ?_; rintro e w4 ⟨v4, rfl, hb, ho⟩; have HB4 := Lib.hid (HB3.out.trans (hb.mono HB3.out.size)); obtain ⟨a4, c4, rfl⟩ := own_sl ho; clear hb ho)
    | (go_at_call 11; first
      | (refine (HF _ (HR.out.below HB4.out)).out.mono ?_; rintro e w5 ⟨rfl, hb⟩; have HB5 := Lib.hid (HB4.out.trans (hb.mono HB4.out.size)); clear hb)
      | (refine (HF _ HR.out).out.mono ?_; rintro e w1 ⟨rfl, hb⟩; have HB1 := Lib.hid hb; clear hb)))
  go_ret
  exact ⟨rfl, HB5.out⟩
set_option maxRecDepth 100000 in
set_option maxHeartbeats 2000000 in
theorem needs_long (hp : HasO P w vp p) (hs : HasN Q w vs l) (hR : Rdy w) (hwp : ∀ o ∈ p, o.wf) (hws : ∀ s ∈ l, s.wf) (h1 : fewO p = true) (h2 : fewS l = true) (h3 : p.length ≤ 38) (hb : (runV p l).2 = 0) (hc : chkV (p ++ needP 0) = 2) :
    Calls Tryz.prog 9 #[vp, vs] w fun e w' => e = .returned (.bool true) ∧ Below w.heap.size w w' := by
  have HP := Lib.hid hp
  have HS := Lib.hid hs
  have HR := Lib.hid hR
  have HF := fun w hR => Lib.hid (first9_any w hR)
  have HA := fun w (hp : HasO P w vp p) => Lib.hid (fewO_any hp hwp)
  have HB := fun w (hs : HasN Q w vs l) => Lib.hid (fewS_any hs)
  simp only [h1] at HA
  simp only [h2] at HB
  have hl200 : l.length ≤ 200 := by
    unfold fewS at h2
    rw [Bool.and_eq_true] at h2
    exact of_decide_eq_true h2.1
  have HU := fun w (hp : HasO P w vp p) (hs : HasN Q w vs l) (hR : Rdy w) => Lib.hid (run_any hp hs hR.stb.stp (by omega) (fun o ho => (hwp o ho).2.2) hws)
  have HCP := fun w (hp : HasO P w vp p) => Lib.hid (copyOps_any hp (by omega))
  obtain ⟨r, hr⟩ : ∃ r, (runV p l).1 = r := ⟨_, rfl⟩
  have hrr : runV p l = (r, 0) := by rw [← hr, ← hb]
  simp only [hrr] at HU
  obtain ⟨i0, hi, hz0, hz1, hz2⟩ := info_parts info_op
  have hst := run_stf
  have HK : Hid (∀ {P' : Nat → Prop} {w : World} {v : Value}, HasO P' w v (p ++ needP 0) → Rdy w → Calls Tryz.prog 16 #[v] w fun e w' => e = .returned (.int .i64 (chkV (p ++ needP 0))) ∧ Below w.heap.size w w') := Lib.hid (fun a b => check_any a b.stb.stp)
  rw [hc] at HK
  obtain ⟨ao, cap, rfl⟩ := hasg_sl hp
  clear hp
  have h4 : ¬ (38 : Int) < (p.length : Int) := by omega
  obtain ⟨n, hn⟩ : ∃ n, p.length = n := ⟨_, rfl⟩
  rw [hn] at HP HA HU HCP h4 h3
  rw [hn]
  have HL := Lib.hid hn
  clear h1 h2 hs hR hwp hws hb hr hrr hl200 hn hc
  go_enter Tryz.func9, Tryz.ntmps9
  go_wp2_with (first
    | (go_at_call 12; refine (HA _ (HP.out.below HB1.out)).out.mono ?_; rintro e w2 ⟨rfl, hb⟩; have HB2 := Lib.hid (HB1.out.trans (hb.mono HB1.out.size)); clear hb)
    | (go_at_call 22; refine (HB _ (HS.out.below HB2.out)).out.mono ?_; rintro e w3 ⟨rfl, hb⟩; have HB3 := Lib.hid (HB2.out.trans (hb.mono HB2.out.size)); clear hb)
    | (at_builtin; refine wpList_append_own _ rfl (.tmp 44) (.tmp 48) 22 rfl w4.heap.size 59 i0 (oagg OpV.zero) 5 56 under_ops hi hz0 hz1 hz2 rfl (by decide) _ _ _ rfl (HO5.out.alloc _) ⟨w5.heap.size, 0, none⟩ 2 2 (cellsG opC (needP 0)) rfl rfl (cells_two _ 0 _ rfl) (one_two 0) (by unfold maxLen; omega) (by omega) (by have := HG5.out; simp; omega) ?_; intro v6 w6 hown' hgrow _; have HB6 := Lib.hid ((HB5.out.alloc HB5.out.size _).grown hgrow (HB5.out.alloc HB5.out.size _).size (fun q hq => Nat.le_trans HB4.out.size (HO5.out.lt q hq).1)); have HN6 : Hid (HasO (fun k => w4.heap.size ≤ k) w6 v6 (p ++ needP 0)) := Lib.hid (own_hasG opC_len (by rw [List.length_append, HL.out, cellsG_append]; exact hown')); clear hown' hgrow)
    | (at_builtin; refine wpList_append_own _ rfl (.tmp 51) (.tmp 55) 22 rfl w6.heap.size 59 i0 (oagg OpV.zero) 5 56 under_ops hi hz0 hz1 hz2 rfl (by decide) _ _ _ rfl (HO7.out.alloc _) ⟨w7.heap.size, 0, none⟩ 2 2 (cellsG opC (needP 4607182418800017408)) rfl rfl (cells_two _ 4607182418800017408 _ rfl) (one_two 4607182418800017408) (by unfold maxLen; omega) (by omega) (by have := HG7.out; simp; omega) ?_; intro v8 w8 hown' hgrow _; have HB68 : Hid (Below w6.heap.size w6 w8) := Lib.hid ((HB67.out.alloc HB67.out.size _).grown hgrow (HB67.out.alloc HB67.out.size _).size (fun q hq => (HO7.out.lt q hq).1)); have HB8 := Lib.hid (HB6.out.trans (HB68.out.mono HB6.out.size)); have HN8 : Hid (HasO (fun k => w6.heap.size ≤ k) w8 v8 (p ++ needP 4607182418800017408)) := Lib.hid (own_hasG opC_len (by rw [List.length_append, HL.out, cellsG_append]; exact hown')); have HN68 := Lib.hid (HN6.out.below HB68.out); clear hown' hgrow)
    | (go_at_call 13; first
      | (refine (HCP _ (HP.out.below HB6.out)).out.mono ?_; rintro e w7 ⟨u7, rfl, hb, ho⟩; have HB67 := Lib.hid hb; have HG7 := Lib.hid hb.size; have HO7 := Lib.hid ho; clear hb ho)
      | (refine (HCP _ (HP.out.below HB4.out)).out.mono ?_; rintro e w5 ⟨u5, rfl, hb, ho⟩; have HB5 := Lib.hid (HB4.out.trans (hb.mono HB4.out.size)); have HG5 := Lib.hid hb.size; have HO5 := Lib.hid ho; clear hb ho))
    | (go_at_call 24; refine (HU _ (HP.out.below HB3.out) (HS.out.below HB3.out) (HR.out.below HB3.out)).out.mono ?_; rintro e w4 ⟨v4, rfl, hb, ho⟩; have HB4 := Lib.hid (HB3.out.trans (hb.mono HB3.out.size)); clear hb ho)
    | (go_at_call 16; first
      | (refine (HK.out (HN68.out.below HB810.out) (HR.out.below HB10.out)).mono ?_; rintro e w11 ⟨rfl, hb⟩; have HB11 := Lib.hid (HB10.out.trans (hb.mono HB10.out.size)); clear hb)
      | (refine (HK.out HN68.out (HR.out.below HB8.out)).mono ?_; rintro e w9 ⟨rfl, hb⟩; have HB9 := Lib.hid (HB8.out.trans (hb.mono HB8.out.size)); have HB89 := Lib.hid hb; clear hb))
    | (go_at_call 11; first
      | (refine (HF _ (HR.out.below HB9.out)).out.mono ?_; rintro e w10 ⟨rfl, hb⟩; have HB10 := Lib.hid (HB9.out.trans (hb.mono HB9.out.size)); have HB810 := Lib.hid (HB89.out.trans (hb.mono HB89.out.size)); clear hb)
      | (refine (HF _ HR.out).out.mono ?_; rintro e w1 ⟨rfl, hb⟩; have HB1 := Lib.hid hb; clear hb)))
  go_ret
  exact ⟨rfl, HB11.out⟩
set_option maxRecDepth 100000 in
set_option maxHeartbeats 2000000 in
theorem needs_good (hp : HasO P w vp p) (hs : HasN Q w vs l) (hR : Rdy w) (hwp : ∀ o ∈ p, o.wf) (hws : ∀ s ∈ l, s.wf) (h1 : fewO p = true) (h2 : fewS l = true) (h3 : p.length ≤ 38) (hb : (runV p l).2 = 0) (hc : chkV (p ++ needP 0) = 0) (hc2 : chkV (p ++ needP 4607182418800017408) = 0) :
    Calls Tryz.prog 9 #[vp, vs] w fun e w' => e = .returned (.bool true) ∧ Below w.heap.size w w' := by
  have HP := Lib.hid hp
  have HS := Lib.hid hs
  have HR := Lib.hid hR
  have HF := fun w hR => Lib.hid (first9_any w hR)
  have HA := fun w (hp : HasO P w vp p) => Lib.hid (fewO_any hp hwp)
  have HB := fun w (hs : HasN Q w vs l) => Lib.hid (fewS_any hs)
  simp only [h1] at HA
  simp only [h2] at HB
  have hl200 : l.length ≤ 200 := by
    unfold fewS at h2
    rw [Bool.and_eq_true] at h2
    exact of_decide_eq_true h2.1
  have HU := fun w (hp : HasO P w vp p) (hs : HasN Q w vs l) (hR : Rdy w) => Lib.hid (run_any hp hs hR.stb.stp (by omega) (fun o ho => (hwp o ho).2.2) hws)
  have HCP := fun w (hp : HasO P w vp p) => Lib.hid (copyOps_any hp (by omega))
  obtain ⟨r, hr⟩ : ∃ r, (runV p l).1 = r := ⟨_, rfl⟩
  have hrr : runV p l = (r, 0) := by rw [← hr, ← hb]
  simp only [hrr] at HU
  obtain ⟨i0, hi, hz0, hz1, hz2⟩ := info_parts info_op
  have hst := run_stf
  have HK : Hid (∀ {P' : Nat → Prop} {w : World} {v : Value}, HasO P' w v (p ++ needP 0) → Rdy w → Calls Tryz.prog 16 #[v] w fun e w' => e = .returned (.int .i64 (chkV (p ++ needP 0))) ∧ Below w.heap.size w w') := Lib.hid (fun a b => check_any a b.stb.stp)
  rw [hc] at HK
  have hwp2 : ∀ o ∈ p, o.v.wf := fun o ho => (hwp o ho).2.2
  have HUN : Hid (∀ {P' : Nat → Prop} {w : World} {v : Value}, HasO P' w v (p ++ needP 0) → HasN Q w vs l → Rdy w → Calls Tryz.prog 24 #[v, vs] w (Ran w ([], 22))) := Lib.hid (fun a b c => by
    have := run_any a b c.stb.stp (by omega) (need_wf hwp2 (by decide)) hws
    rwa [run_no hb hc] at this)
  have HUY : Hid (∀ {P' : Nat → Prop} {w : World} {v : Value}, HasO P' w v (p ++ needP 4607182418800017408) → HasN Q w vs l → Rdy w → Calls Tryz.prog 24 #[v, vs] w (Ran w (r, 0))) := Lib.hid (fun a b c => by
    have := run_any a b c.stb.stp (by omega) (need_wf hwp2 (by decide)) hws
    rwa [run_yes hb hc2, hr] at this)
  have HWW : Hid (∀ {P1 P2 : Nat → Prop} {w : World} {va vb : Value}, HasW P1 w va r → HasW P2 w vb r → Calls Tryz.prog 26 #[va, vb] w fun e w' => e = .returned (.bool true) ∧ Below w.heap.size w w') := Lib.hid (fun a b => by
    have := writes_any a b
    rwa [allW_self] at this)
  obtain ⟨ao, cap, rfl⟩ := hasg_sl hp
  clear hp
  have h4 : ¬ (38 : Int) < (p.length : Int) := by omega
  obtain ⟨n, hn⟩ : ∃ n, p.length = n := ⟨_, rfl⟩
  rw [hn] at HP HA HU HCP h4 h3
  rw [hn]
  have HL := Lib.hid hn
  clear h1 h2 hs hR hwp hws hb hr hrr hl200 hn hc hc2 hwp2
  go_enter Tryz.func9, Tryz.ntmps9
  go_wp2_with (first
    | (go_at_call 12; refine (HA _ (HP.out.below HB1.out)).out.mono ?_; rintro e w2 ⟨rfl, hb⟩; have HB2 := Lib.hid (HB1.out.trans (hb.mono HB1.out.size)); clear hb)
    | (go_at_call 22; refine (HB _ (HS.out.below HB2.out)).out.mono ?_; rintro e w3 ⟨rfl, hb⟩; have HB3 := Lib.hid (HB2.out.trans (hb.mono HB2.out.size)); clear hb)
    | (at_builtin; refine wpList_append_own _ rfl (.tmp 44) (.tmp 48) 22 rfl w4.heap.size 59 i0 (oagg OpV.zero) 5 56 under_ops hi hz0 hz1 hz2 rfl (by decide) _ _ _ rfl (HO5.out.alloc _) ⟨w5.heap.size, 0, none⟩ 2 2 (cellsG opC (needP 0)) rfl rfl (cells_two _ 0 _ rfl) (one_two 0) (by unfold maxLen; omega) (by omega) (by have := HG5.out; simp; omega) ?_; intro v6 w6 hown' hgrow _; have HB6 := Lib.hid ((HB5.out.alloc HB5.out.size _).grown hgrow (HB5.out.alloc HB5.out.size _).size (fun q hq => Nat.le_trans HB4.out.size (HO5.out.lt q hq).1)); have HB46 : Hid (Below w4.heap.size w4 w6) := Lib.hid ((HB45.out.alloc HB45.out.size _).grown hgrow (HB45.out.alloc HB45.out.size _).size (fun q hq => (HO5.out.lt q hq).1)); have HN6 : Hid (HasO (fun k => w4.heap.size ≤ k) w6 v6 (p ++ needP 0)) := Lib.hid (own_hasG opC_len (by rw [List.length_append, HL.out, cellsG_append]; exact hown')); clear hown' hgrow)
    | (at_builtin; refine wpList_append_own _ rfl (.tmp 51) (.tmp 55) 22 rfl w6.heap.size 59 i0 (oagg OpV.zero) 5 56 under_ops hi hz0 hz1 hz2 rfl (by decide) _ _ _ rfl (HO7.out.alloc _) ⟨w7.heap.size, 0, none⟩ 2 2 (cellsG opC (needP 4607182418800017408)) rfl rfl (cells_two _ 4607182418800017408 _ rfl) (one_two 4607182418800017408) (by unfold maxLen; omega) (by omega) (by have := HG7.out; simp; omega) ?_; intro v8 w8 hown' hgrow _; have HB68 : Hid (Below w6.heap.size w6 w8) := Lib.hid ((HB67.out.alloc HB67.out.size _).grown hgrow (HB67.out.alloc HB67.out.size _).size (fun q hq => (HO7.out.lt q hq).1)); have HB8 := Lib.hid (HB6.out.trans (HB68.out.mono HB6.out.size)); have HN8 : Hid (HasO (fun k => w6.heap.size ≤ k) w8 v8 (p ++ needP 4607182418800017408)) := Lib.hid (own_hasG opC_len (by rw [List.length_append, HL.out, cellsG_append]; exact hown')); have HN68 := Lib.hid (HN6.out.below HB68.out); clear hown' hgrow)
    | (go_at_call 13; first
      | (refine (HCP _ (HP.out.below HB6.out)).out.mono ?_; rintro e w7 ⟨u7, rfl, hb, ho⟩; have HB67 := Lib.hid hb; have HG7 := Lib.hid hb.size; have HO7 := Lib.hid ho; clear hb ho)
      | (refine (HCP _ (HP.out.below HB4.out)).out.mono ?_; rintro e w5 ⟨u5, rfl, hb, ho⟩; have HB5 := Lib.hid (HB4.out.trans (hb.mono HB4.out.size)); have HG5 := Lib.hid hb.size; have HB45 := Lib.hid hb; have HO5 := Lib.hid ho; clear hb ho))
    | (go_at_call 24; first
      | (refine (HUY.out (HN8.out.below HB810.out) (HS.out.below HB10.out) (HR.out.below HB10.out)).mono ?_; rintro e w11 ⟨v11, rfl, hb, ho⟩; have HB11 := Lib.hid (HB10.out.trans (hb.mono HB10.out.size)); have HW11 : Hid (HasW (fun k => w10.heap.size ≤ k) w11 v11 r) := Lib.hid (own_hasG wrC_len ho); have HB4b := Lib.hid (HB46.out.trans ((HB68.out.trans ((HB810.out.trans (hb.mono HB810.out.size)).mono HB68.out.size)).mono HB46.out.size)); clear hb ho)
      | (refine (HUN.out (HN68.out.below HB89.out) (HS.out.below HB9.out) (HR.out.below HB9.out)).mono ?_; rintro e w10 ⟨v10, rfl, hb, ho⟩; have HB10 := Lib.hid (HB9.out.trans (hb.mono HB9.out.size)); have HB810 := Lib.hid (HB89.out.trans (hb.mono HB89.out.size)); obtain ⟨a10, c10, rfl⟩ := own_sl ho; clear hb ho)
      | (refine (HU _ (HP.out.below HB3.out) (HS.out.below HB3.out) (HR.out.below HB3.out)).out.mono ?_; rintro e w4 ⟨v4, rfl, hb, ho⟩; have HB4 := Lib.hid (HB3.out.trans (hb.mono HB3.out.size)); have HW4 : Hid (HasW (fun k => w3.heap.size ≤ k) w4 v4 r) := Lib.hid (own_hasG wrC_len ho); clear hb ho))
    | (go_at_call 16; refine (HK.out HN68.out (HR.out.below HB8.out)).mono ?_; rintro e w9 ⟨rfl, hb⟩; have HB9 := Lib.hid (HB8.out.trans (hb.mono HB8.out.size)); have HB89 := Lib.hid hb; clear hb)
    | (go_at_call 11; first
      | (refine (HF _ (HR.out.below HB11.out)).out.mono ?_; rintro e w12 ⟨rfl, hb⟩; have HB12 := Lib.hid (HB11.out.trans (hb.mono HB11.out.size)); have HW4c := Lib.hid ((HW4.out.below HB4b.out).below hb); have HW11c := Lib.hid (HW11.out.below hb); clear hb)
      | (refine (HF _ HR.out).out.mono ?_; rintro e w1 ⟨rfl, hb⟩; have HB1 := Lib.hid hb; clear hb))
    | (go_at_call 26; refine (HWW.out HW11c.out HW4c.out).mono ?_; rintro e w13 ⟨rfl, hb⟩; have HB13 := Lib.hid (HB12.out.trans (hb.mono HB12.out.size)); clear hb))
  go_ret
  exact ⟨rfl, HB13.out⟩
/-- racelaw9.ProgNeeds answers true. -/
theorem needs_any (hp : HasO P w vp p) (hs : HasN Q w vs l) (hR : Rdy w) (hwp : ∀ o ∈ p, o.wf) (hws : ∀ s ∈ l, s.wf) :
    Calls Tryz.prog 9 #[vp, vs] w fun e w' => e = .returned (.bool true) ∧ Below w.heap.size w w' := by
  by_cases h : fewO p = false ∨ fewS l = false ∨ 38 < p.length
  · exact needs_out hp hs hR hwp h
  · have h1 : fewO p = true := by cases e : fewO p with | true => rfl | false => exact absurd (.inl e) h
    have h2 : fewS l = true := by cases e : fewS l with | true => rfl | false => exact absurd (.inr (.inl e)) h
    have h3 : p.length ≤ 38 := by
      by_cases h3 : 38 < p.length
      · exact absurd (.inr (.inr h3)) h
      · omega
    by_cases hb : (runV p l).2 = 0
    · have hg := (run_good hb).1
      have e0 := chkV_need hg h3 may_zero
      have e1 := chkV_need hg h3 may_one
      by_cases hd : 16 < dep 0 p + 1
      · rw [if_pos hd] at e0
        exact needs_long hp hs hR hwp hws h1 h2 h3 hb e0
      · rw [if_neg hd] at e0 e1
        exact needs_good hp hs hR hwp hws h1 h2 h3 hb e0 e1
    · exact needs_bad hp hs hR hwp hws h1 h2 h3 hb
end
end Go.Proofs.YtbgccaconhmbaaaGreatDoor
namespace Go.Proofs.YtbgccaconhmbaaaGreatDoor
open Go.ChangeShapes Go.WideShapes Go.ChangeAt Go.RowKit Go.Deep
theorem hasg_at {α : Type} {f : α → List Value} {sz : Nat} {P : Nat → Prop} {w : World} {ao : Option Addr} {n cap : Nat} {l : List α} (h : HasG f sz P w (.slice ao n cap) l) {k : Nat} (hk : k < l.length) :
    ∃ b o, ao = some ⟨b, o, none⟩ ∧ b < w.heap.size ∧ P b ∧ Lies f w b (o + k * sz) l[k] := by
  obtain ⟨ao', cap', hv, _, _, _, h4⟩ := h
  injection hv with e1 e2 e3
  subst e1 e2 e3
  obtain ⟨b, o, h4, h5, h6, hc⟩ := h4.resolve_left (fun e => by rw [e] at hk; exact absurd hk (Nat.not_lt_zero _))
  exact ⟨b, o, h4, h6, h5, hc k hk⟩
theorem Lies.grown {α : Type} {f : α → List Value} {w w' : World} {b o : Nat} {x : α} {row : Option Nat} (h : Lies f w b o x) (hg : w.grownBy w' row) (hb : b < w.heap.size) (hne : some b ≠ row) : Lies f w' b o x :=
  fun j u hu => (World.cell?_of_block (a := ⟨b, o + j, none⟩) (hg.block b hb hne)).trans (h j u hu)
theorem HasG.grown {α : Type} {f : α → List Value} {sz : Nat} {P : Nat → Prop} {w w' : World} {v : Value} {l : List α} {row : Option Nat} (h : HasG f sz P w v l) (hg : w.grownBy w' row) (hne : ∀ b, P b → some b ≠ row) : HasG f sz P w' v l := by
  obtain ⟨ao, cap, hv, h1, h2, h3, h4⟩ := h
  refine ⟨ao, cap, hv, h1, h2, h3, ?_⟩
  rcases h4 with h4 | ⟨b, o, h4, h5, h6, h7⟩
  · exact .inl h4
  · exact .inr ⟨b, o, h4, h5, Nat.lt_of_lt_of_le h6 hg.size, fun i hi => (h7 i hi).grown hg h6 (hne b h5)⟩
theorem hasg_len {α : Type} {f : α → List Value} {sz : Nat} {P : Nat → Prop} {w : World} {ao : Option Addr} {n cap : Nat} {l : List α} (h : HasG f sz P w (.slice ao n cap) l) : l.length = n := by
  obtain ⟨ao', cap', hv, _⟩ := h
  injection hv with e1 e2 e3
  exact e2.symm
theorem other_snoc (ks : List Nm) {m : List SeenV} {k : Nat} (h : k < m.length) : otherV ks (m.take (k + 1)) = otherV ks (m.take k) ++ (if m[k].key ∈ ks then [] else [m[k]]) := by
  rw [take_snocN h]
  unfold otherV
  rw [List.filter_append]
  congr 1
  by_cases hm : m[k].key ∈ ks
  · rw [if_pos hm]; simp [hm]
  · rw [if_neg hm]; simp [hm]
theorem other_len (ks : List Nm) (m : List SeenV) : (otherV ks m).length ≤ m.length := List.length_filter_le _ _
/-- The first so many of turnV. -/
def trnV (ks : List Nm) (l : List SeenV) (i : Nat) : List SeenV := (ks.reverse.take i).flatMap (headV l)
theorem trn_zero (ks : List Nm) (l : List SeenV) : trnV ks l 0 = [] := rfl
theorem trn_all (ks : List Nm) (l : List SeenV) {i : Nat} (h : ks.length = i) : trnV ks l i = turnV ks l := by
  unfold trnV turnV
  rw [List.take_of_length_le (by rw [List.length_reverse]; omega)]
theorem trn_snoc (ks : List Nm) (l : List SeenV) {i : Nat} (h : i < ks.length) : trnV ks l (i + 1) = trnV ks l i ++ headV l (ks[ks.length - 1 - i]'(by omega)) := by
  unfold trnV
  have hr : i < ks.reverse.length := by rw [List.length_reverse]; exact h
  rw [List.take_add_one, List.getElem?_eq_getElem hr, Option.toList, List.flatMap_append, List.getElem_reverse]
  simp
theorem first_len (l : List SeenV) (k : Nm) : (headV l k).length ≤ 1 := by
  unfold headV
  cases l.find? (fun s => s.key == k) <;> simp
theorem trn_len (ks : List Nm) (l : List SeenV) : ∀ i, (trnV ks l i).length ≤ i := by
  intro i
  have : ∀ xs : List Nm, (xs.flatMap (headV l)).length ≤ xs.length := by
    intro xs
    induction xs with
    | nil => exact Nat.le_refl _
    | cons x xs ih =>
      have := first_len l x
      rw [List.flatMap_cons, List.length_append, List.length_cons]
      omega
  have h := this (ks.reverse.take i)
  have h2 : (ks.reverse.take i).length ≤ i := by rw [List.length_take]; exact Nat.min_le_left _ _
  unfold trnV
  omega
theorem first_none {l : List SeenV} {k : Nm} (h : ∀ s ∈ l, s.key ≠ k) : headV l k = [] := by
  unfold headV
  rw [List.find?_eq_none.2 fun s hs => by simpa using h s hs]
theorem first_some {l : List SeenV} {k : Nm} {j : Nat} (hj : j < l.length) (h : ∀ s ∈ l.take j, s.key ≠ k) (he : l[j].key = k) : headV l k = [⟨l[j].key, l[j].v, 0, 0, 0⟩] := by
  unfold headV
  have : l.find? (fun s => s.key == k) = some l[j] := by
    rw [List.find?_eq_some_iff_getElem]
    refine ⟨by simpa using he, j, hj, rfl, fun i hi => ?_⟩
    have : l[i] ∈ l.take j := List.mem_take_iff_getElem.2 ⟨i, by omega, rfl⟩
    simpa using h _ this
  rw [this]
theorem turn_wf {ks : List Nm} {l : List SeenV} (h : ∀ s ∈ l, s.wf) : ∀ s ∈ turnV ks l, s.wf := by
  intro s hs
  obtain ⟨k, _, hs⟩ := List.mem_flatMap.1 hs
  unfold headV at hs
  cases e : l.find? (fun s => s.key == k) with
  | none => rw [e] at hs; cases hs
  | some r =>
    rw [e] at hs
    obtain rfl := List.mem_singleton.1 hs
    have hr := h r (List.mem_of_find?_eq_some e)
    exact ⟨hr.1, hr.2.1, ⟨by show (-9223372036854775808 : Int) ≤ 0; decide, by show (0 : Int) < _; decide⟩, ⟨by show (-9223372036854775808 : Int) ≤ 0; decide, by show (0 : Int) < _; decide⟩, ⟨by show (-9223372036854775808 : Int) ≤ 0; decide, by show (0 : Int) < _; decide⟩⟩
theorem one_sns (l : List SeenV) : ∀ u ∈ cellsG snC l, u.oneCell' = true := by
  intro u hu
  unfold cellsG at hu
  obtain ⟨s, _, hs⟩ := List.mem_flatMap.1 hu
  exact one_sn s u hs
theorem own_hao {w : World} {base : Nat} {e : TypeId} {size : Nat} {ao : Option Addr} {n c m : Nat} {xs : List Value} (h : w.ownsRow base e size (.slice ao n c) m xs) : ao = none → n = 0 ∧ c = 0 := by
  rintro rfl
  rcases h.2 with ⟨h1, _⟩ | ⟨g, cap, cur, h1, _⟩
  · injection h1 with e1 e2 e3
    exact ⟨e2, e3⟩
  · injection h1 with e1 e2 e3
    cases e1
theorem own_hasG' {α : Type} {f : α → List Value} {sz : Nat} (hf : ∀ x, (f x).length = sz) {w : World} {base : Nat} {e : TypeId} {v : Value} {l : List α} {n : Nat} (hn : l.length = n) (h : w.ownsRow base e sz v n (cellsG f l)) : HasG f sz (fun k => base ≤ k) w v l := own_hasG hf (by rw [hn]; exact h)
theorem fewS_len {l : List SeenV} (h : fewS l = true) : l.length ≤ 200 := by
  unfold fewS at h
  rw [Bool.and_eq_true] at h
  exact of_decide_eq_true h.1
theorem fewO_le {p : List OpV} (h : fewO p = true) : p.length ≤ 200 := by
  unfold fewO at h
  rw [Bool.and_eq_true] at h
  exact of_decide_eq_true h.1
end Go.Proofs.YtbgccaconhmbaaaGreatDoor
