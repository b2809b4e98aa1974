/- Files that a caller hands become a disk, or are refused: what disk.Load and the document's Load answer. Conditions: none of their own. -/
import Derived.Test.YtkilkhnoldfhcaaGreatDoorMj
namespace Go.Proofs.YtkilkhnoldfhcaaGreatDoor
open Go.ChangeShapes Go.WideShapes Go.ChangeAt Go.RowKit Go.Deep
section
variable {H : Type} {enc : TypeId × Value → H} {w : World} {base : Nat} {held : Bool}
set_option maxRecDepth 100000 in
theorem file_cells {n : Nat} {b o : Nat} {cs : List Value} {y : DataW H × List MemPlace} (h1 : w.cells? base ⟨b, o, none⟩ 3 = some cs) (h : DataW.trod enc Tryz.prog w base (fun _ => true) held n 43 cs = some y) :
    ∃ p : FV, p.wf ∧ FAt (fun k => k < w.heap.size) w b o p := by
  obtain ⟨_, hlen, hcell⟩ := World.cells?_some h1
  obtain ⟨xs, k, hk, hxy, _, hxl, hf⟩ := DataW.trod_struct Tryz.underlying43 h
  match xs, hxl, cs, hlen with
  | [y0, y1, y2], _, [v0, v1, v2], _ =>
    have g0 := hf 0 _ rfl
    have g1 := hf 1 _ rfl
    have g2 := hf 2 _ rfl
    have q1 : Tryz.prog.cellsOf 9 = 1 := by kernel_rfl
    have q2 : Tryz.prog.cellsOf 36 = 1 := by kernel_rfl
    have q3 : Tryz.prog.cellsOf 3 = 1 := by kernel_rfl
    simp [q1, q2, q3] at g0 g1 g2
    have e0 := hcell 0 (by omega)
    have e1 := hcell 1 (by omega)
    have e2 := hcell 2 (by omega)
    rw [add_plain] at e0 e1 e2
    obtain ⟨s0, f0, rfl, wf0⟩ := DataW.trod_string Tryz.underlying9 g0
    obtain ⟨a1, p1, x1, f1, r1⟩ := open_sb g1
    obtain ⟨k2, f2, rfl, wf2⟩ := DataW.trod_int Tryz.underlying3 g2
    simp at f0 f1 f2
    subst f0 f1 f2
    simp [Lit.wf, IntKind.min, IntKind.max, IntKind.signed, IntKind.bits] at wf2
    refine ⟨⟨s0.data.toList, x1, k2⟩, ⟨?_, ⟨by simp only; omega, by simp only; omega⟩⟩, by simpa using e0, ⟨a1, p1, by simpa using e1, r1⟩, by simpa using e2⟩
    rw [Array.length_toList]; exact wf0
set_option maxRecDepth 100000 in
theorem open_sf {fuel : Nat} {v : Value} {x : DataW H × List MemPlace} (h : DataW.trod enc Tryz.prog w base (fun _ => true) held fuel 29 [v] = some x) :
    ∃ ao cap l, v = .slice ao l.length cap ∧ SF (fun k => k < w.heap.size) w ao l.length cap l := by
  rcases open_slice Tryz.underlying29 h with ⟨h0, _⟩ | ⟨a, len, cap, m, n, D, Pl, h0, hb, hl, hm, hmm, rfl, hx⟩
  · exact ⟨none, 0, [], by simpa using h0, rfl, Nat.le_refl _, by decide, fun _ h => (nomatch h), .inl rfl⟩
  simp only [if_true] at hmm
  subst hmm
  have q : Tryz.prog.cellsOf 43 = 3 := by kernel_rfl
  rw [q] at hx
  obtain ⟨b, o, spot⟩ := a
  by_cases h1 : len = 0
  · subst h1
    exact ⟨some ⟨b, o, spot⟩, m, [], by simpa using h0, rfl, Nat.zero_le _, hm, fun _ h => (nomatch h), .inl rfl⟩
  have hspot : spot = none := by
    obtain ⟨cs, h2, _⟩ := hx 0 (by omega)
    obtain ⟨_, hlen, hcell⟩ := World.cells?_some h2
    have := hcell 0 (by omega)
    match cs, hlen with
    | v0 :: _, _ => simpa [Addr.add] using World.cell?_spot (show w.cell? _ = some v0 from this)
  subst hspot
  obtain ⟨R, hR⟩ := choose_lt (α := FV) (n := m) (p := fun i r => r.wf ∧ FAt (fun k => k < w.heap.size) w b (o + i * 3) r) (fun i hi => by
    obtain ⟨cs, h2, h3⟩ := hx i hi
    rw [add_plain] at h2
    exact file_cells h2 h3)
  have hlen : ((List.range len).map R).length = len := by simp
  refine ⟨some ⟨b, o, none⟩, m, (List.range len).map R, by simpa using h0, rfl, by rw [hlen]; exact hl, hm, ?_, .inr ⟨b, o, rfl, ?_, fun i hi => ?_⟩⟩
  · intro r hr
    obtain ⟨i, hi, rfl⟩ := List.mem_map.1 hr
    exact (hR i (by have := List.mem_range.1 hi; omega)).1
  · exact World.block_lt_of_cell? _ _ (hR 0 (by omega)).2.c0
  · have hi' : i < len := by simpa using hi
    rw [List.getElem_map, List.getElem_range]
    exact (hR i (by omega)).2
end
theorem chk_one {l : List FV} {e e' : Nat} (h : Chk l e) (h' : Chk l e') : e = e' := by
  rcases h with ⟨h0, j, hj, hg, he⟩ | ⟨hg, he⟩
  · rcases h' with ⟨h0', j', hj', hg', he'⟩ | ⟨hg', he'⟩
    · rcases Nat.lt_trichotomy j j' with k | k | k
      · exact absurd (he.symm.trans (hg' j hj k)) h0
      · subst k; exact he.symm.trans he'
      · exact absurd (he'.symm.trans (hg j' hj' k)) h0'
    · exact absurd (he.symm.trans (hg' j hj hj)) h0
  · rcases h' with ⟨h0', j', hj', hg', he'⟩ | ⟨hg', he'⟩
    · exact absurd (he'.symm.trans (hg j' hj' hj')) h0'
    · rw [he, he']
theorem good_succ {l : List FV} {j : Nat} (h : good l j) (hj : j < l.length) (he : errOf (l.take j) l[j] = 0) : good l (j + 1) := fun i hi hij => by
  by_cases e : i = j
  · subst e; exact he
  · exact h i hi (by omega)
theorem ents_nil : Ents [] (ents []) := ⟨rising_nil, fun _ => rfl, rfl, rfl, fun _ h => (nomatch h)⟩
theorem ents_take {l : List FV} : ∀ {j : Nat}, j ≤ l.length → good l j → Ents (l.take j) (ents (l.take j))
  | 0, _, _ => by rw [List.take_zero]; exact ents_nil
  | j + 1, hj, hg => by
    have ih := ents_take (l := l) (j := j) (by omega) (fun i hi hij => hg i hi (by omega))
    rw [List.take_succ_eq_append_getElem (by omega)]
    exact ih.snoc (hg j (by omega) (by omega))
theorem ents_step {l : List FV} {j : Nat} (hj : j < l.length) : ents (l.take (j + 1)) = put (ents (l.take j)) l[j].name ⟨l[j].data, l[j].safe.toNat⟩ := by
  rw [List.take_succ_eq_append_getElem hj, ents_snoc]
theorem cells43 {w : World} {b : Nat} {v0 v1 v2 : Value} (h : w.heap[b]? = some (.cells #[v0, v1, v2] 43 (0, 0))) : w.cell? ⟨b, 0, none⟩ = some v0 ∧ w.cell? ⟨b, 1, none⟩ = some v1 ∧ w.cell? ⟨b, 2, none⟩ = some v2 := by
  refine ⟨?_, ?_, ?_⟩ <;> simp [World.cell?, h]
set_option maxRecDepth 100000 in
set_option maxHeartbeats 4000000 in
theorem check_any {D : Nat → Prop} {w : World} {ao : Option Addr} {n cap : Nat} {l : List FV} (hs : SF D w ao n cap l) (hl : l.length ≤ 100000) (ht : totF l ≤ 4194304) :
    Calls Tryz.prog 55 #[.slice ao n cap] w fun e w' => ∃ er : Nat, e = .returned (.int .i64 (er : Int)) ∧ Chk l er ∧ Below w.heap.size w w' := by
  obtain rfl : n = l.length := hs.len
  have HSF := Lib.hid hs
  have HTOT := Lib.hid ht
  have hmm := @run_makeMap Tryz.prog
  clear hs ht
  go_enter Tryz.func55, Tryz.ntmps55
  go_wp2
  have hm0 : IAt (w.alloc (.map #[] 0)) w.heap.size ([] : Ent Nat) := World.ownsMap_made w Tryz.prog 9 intE
  go_loopw [4, 5, 6, 7, 14] (fun _ _ _ _ i wr => ∃ j : Nat, j ≤ l.length ∧ i = .int .i64 j ∧ Hid (good l j) ∧ Hid (∃ L, Seen (l.take j) L ∧ IAt wr w.heap.size L) ∧ Hid (Below w.heap.size w wr)) (fun _ _ _ _ i _ => l.length - (intOf i).toNat)
  case atStart => exact ⟨0, Nat.zero_le _, rfl, fun _ _ h => absurd h (Nat.not_lt_zero _), ⟨[], ⟨fun _ => rfl, Nat.zero_le _⟩, hm0⟩, below1 _ _⟩
  case round =>
    obtain ⟨j, hj, rfl, HG, HM, HB⟩ := hrel
    by_cases hlt : j < l.length
    · obtain ⟨b, off, rfl, _, f1, wf1⟩ := (HSF.out.below HB.out).at_ hlt
      have c0 := f1.c0
      have c2 := f1.c2
      obtain ⟨bo, bc, c1, s1⟩ := f1.c1
      have hdl := s1.lt
      obtain ⟨L, hseen, hm⟩ := HM.out
      have hnl := wf1.name
      have hns := wf1.safe
      have hn9 : (l[j].name).length ≤ 9223372036854775807 := by unfold maxLen at hnl; omega
      have HT : Hid (l.take (j + 1) = l.take j ++ [l[j]]) := List.take_succ_eq_append_getElem hlt
      have HGS : Hid (errOf (l.take j) l[j] = 0 → good l (j + 1)) := fun he => good_succ HG.out hlt he
      have HBAD : Hid (∀ e : Nat, e ≠ 0 → errOf (l.take j) l[j] = e → Chk l e) := fun e h0 he => .inl ⟨h0, j, hlt, HG.out, he⟩
      generalize l[j] = p at *
      have HSEEN := Lib.hid hseen
      have HMM := Lib.hid hm
      have HNL := Lib.hid hnl
      have HN9 := Lib.hid hn9
      clear HM hseen hm f1 wf1 hnl hn9 hm0 s1
      go_upto_region 5 with (fail)
      have HBB := Lib.hid (below1 wr (.cells #[nmv p.name, .slice bo p.data.length bc, .int .i64 p.safe] 43))
      have HBX := Lib.hid (heap_alloc_new wr (.cells #[nmv p.name, .slice bo p.data.length bc, .int .i64 p.safe] 43))
      generalize wr.alloc (.cells #[nmv p.name, .slice bo p.data.length bc, .int .i64 p.safe] 43) = wB at *
      obtain ⟨b0, b1, b2⟩ := cells43 HBX.out
      have HMB := Lib.hid (HMM.out.below HBB.out)
      obtain ⟨lv, hlk⟩ := HMB.out.look HNL.out
      rw [HSEEN.out.1] at hlk
      have HB2 := Lib.hid (HB.out.trans (HBB.out.mono HB.out.size))
      clear c0 c1 c2
      cases hnm : isNm p.name with
      | false =>
        have HN := Lib.hid hnm
        have HC := HBAD.out 10 (by decide) (by unfold errOf; rw [hnm]; rfl)
        clear hnm hlk
        go_wp2_with (go_at_call 85; (with_reducible refine (isName_any _ _ HN9.out).mono ?_); rw [HN.out]; rintro e w' ⟨rfl, rfl⟩)
        go_ret
        exact ⟨10, rfl, HC, HB2.out⟩
      | true =>
      have HN := Lib.hid hnm
      cases hany : (l.take j).any fun q => q.name == p.name with
      | true =>
        have HC := HBAD.out 9 (by decide) (by unfold errOf; rw [hnm, hany]; rfl)
        rw [hany] at hlk
        clear hnm hany
        go_wp2_with (go_at_call 85; (with_reducible refine (isName_any _ _ HN9.out).mono ?_); rw [HN.out]; rintro e w' ⟨rfl, rfl⟩)
        go_ret
        exact ⟨9, rfl, HC, HB2.out⟩
      | false =>
      rw [hany] at hlk
      by_cases hsf : p.safe < 0 ∨ (p.data.length : Int) < p.safe
      · have HC := HBAD.out 1 (by decide) (by unfold errOf; rw [hnm, hany, if_pos hsf]; rfl)
        clear hnm hany
        by_cases hs0 : p.safe < 0
        · clear hsf
          go_wp2_with (go_at_call 85; (with_reducible refine (isName_any _ _ HN9.out).mono ?_); rw [HN.out]; rintro e w' ⟨rfl, rfl⟩)
          go_ret
          exact ⟨1, rfl, HC, HB2.out⟩
        · have hs1 : (p.data.length : Int) < p.safe := by omega
          have hd0 : decide (p.safe < 0) = false := decide_eq_false hs0
          clear hsf
          go_wp2_with (go_at_call 85; (with_reducible refine (isName_any _ _ HN9.out).mono ?_); rw [HN.out]; rintro e w' ⟨rfl, rfl⟩)
          go_ret
          exact ⟨1, rfl, HC, HB2.out⟩
      · have HG2 := Lib.hid (HGS.out (by unfold errOf; rw [hnm, hany, if_neg hsf]; rfl))
        have hs0 : ¬ p.safe < 0 := by omega
        have hs1 : ¬ (p.data.length : Int) < p.safe := by omega
        have hd0 : decide (p.safe < 0) = false := decide_eq_false hs0
        have hd1 : decide ((p.data.length : Int) < p.safe) = false := decide_eq_false hs1
        have hLl : L.length < maxLen := by have h1 := HSEEN.out.2; rw [List.length_take] at h1; unfold maxLen; omega
        obtain ⟨w3, hst, hm3, ht3⟩ := HMB.out.store HNL.out hLl j
        have HM3 := Lib.hid hm3
        have HB3 := Lib.hid (HB2.out.trans (ht3.below HB2.out.size (fun k hk => by subst hk; exact Nat.le_refl _)))
        have HS3 := Lib.hid (HSEEN.out.snoc p j)
        clear hnm hany hsf hm3 ht3 hLl
        go_wp2_with (go_at_call 85; (with_reducible refine (isName_any _ _ HN9.out).mono ?_); rw [HN.out]; rintro e w' ⟨rfl, rfl⟩)
        go_roundw
        case rel => exact ⟨j + 1, by omega, by go_num, HG2, ⟨_, by rw [HT.out]; exact HS3.out, HM3.out⟩, HB3⟩
        case measure => simp [intOf]; omega
    · obtain rfl : j = l.length := by omega
      by_cases hmany : 64 < l.length
      · have hm64 : (64 : Int) < (l.length : Int) := by omega
        go_wp2
        go_ret
        exact ⟨3, rfl, .inr ⟨HG.out, by rw [if_pos hmany]⟩, HB.out⟩
      · have hm64 : ¬ (64 : Int) < (l.length : Int) := by omega
        clear HM hm0
        go_wp2
        go_loopw [8, 10, 52] (fun r _ i wt => ∃ j : Nat, j ≤ l.length ∧ i = .int .i64 j ∧ r = .int .i64 (4194304 - (totF (l.take j) : Int)) ∧ Hid (Below w.heap.size w wt)) (fun _ _ i _ => l.length - (intOf i).toNat)
        case atStart => exact ⟨0, Nat.zero_le _, rfl, rfl, HB⟩
        case round =>
          obtain ⟨j, hj, rfl, rfl, HBt⟩ := hrel
          by_cases hlt : j < l.length
          · obtain ⟨b, off, rfl, _, f1, wf1⟩ := (HSF.out.below HBt.out).at_ hlt
            have c0 := f1.c0
            have c2 := f1.c2
            obtain ⟨bo, bc, c1, s1⟩ := f1.c1
            have htk := totF_take hlt
            have hle := totF_le l (j + 1)
            have htot := HTOT.out
            rw [htk] at hle
            have hsub : IntKind.i64.wrap (4194304 - (totF (l.take j) : Int) - (l[j].data.length : Int)) = 4194304 - (totF (l.take (j + 1)) : Int) := by rw [htk, wrap_in (by omega)]; omega
            have hnl : ¬ 4194304 - (totF (l.take j) : Int) < (l[j].data.length : Int) := by omega
            have HTK := Lib.hid htk
            clear htk hle htot f1 wf1 s1
            generalize hT2 : totF (l.take (j + 1)) = T2 at *
            have HT2 := Lib.hid hT2
            clear hT2
            generalize totF (l.take j) = T at *
            generalize l[j] = p at *
            have HB4 := Lib.hid (HBt.out.trans ((below1 wr (.cells #[nmv p.name, .slice bo p.data.length bc, .int .i64 p.safe] 43)).mono HBt.out.size))
            go_wp2
            go_roundw
            case rel => exact ⟨j + 1, by omega, by go_num, by rw [HT2.out], HB4⟩
            case measure => simp [intOf]; omega
          · obtain rfl : j = l.length := by omega
            go_wp2
            go_ret
            exact ⟨0, rfl, .inr ⟨HG.out, by rw [if_neg hmany, if_neg (by have := HTOT.out; omega)]⟩, HBt.out⟩
theorem chk_ok {l : List FV} (h : Chk l 0) : good l l.length ∧ l.length ≤ 64 := by
  rcases h with ⟨h0, _⟩ | ⟨hg, he⟩
  · exact absurd rfl h0
  · refine ⟨hg, ?_⟩
    by_cases h1 : 64 < l.length
    · rw [if_pos h1] at he; cases he
    · omega
theorem good_mono {l : List FV} {i j : Nat} (h : good l j) (hij : i ≤ j) : good l i := fun k hk hki => h k hk (by omega)
set_option maxRecDepth 100000 in
set_option maxHeartbeats 4000000 in
theorem load_any {D : Nat → Prop} {w : World} {ao : Option Addr} {n cap : Nat} {l : List FV} (hs : SF D w ao n cap l) (hl : l.length ≤ 100000) (ht : totF l ≤ 4194304) :
    Calls Tryz.prog 17 #[.slice ao n cap] w fun e w' => Loads l (fun a w' => OneD w.heap.size w' a ⟨ents l, false, 0, 0⟩) e w' ∧ Below w.heap.size w w' := by
  obtain rfl : n = l.length := hs.len
  have HSF := Lib.hid hs
  have HTOT := Lib.hid ht
  clear hs ht
  go_enter Tryz.func17, Tryz.ntmps17
  go_upto_region 2 with (go_at_call 55; (refine (check_any HSF.out hl HTOT.out).mono ?_); rintro e w1 ⟨er, rfl, hck, hb⟩; have HCK := Lib.hid hck; have HB1 := Lib.hid hb; clear hck hb)
  by_cases her : er = 0
  · subst her
    obtain ⟨hgood, hl64⟩ := chk_ok HCK.out
    have HGD := Lib.hid hgood
    clear hgood
    go_wp2_with (go_at_call 13; (refine (new_any _).mono ?_); rintro e w2 ⟨rfl, hb, hd⟩; have HD2 := Lib.hid hd; have HB2 := Lib.hid hb; clear hd hb)
    have HB12 := Lib.hid (HB1.out.trans (HB2.out.mono HB1.out.size))
    have HD0 : Hid (OneD w.heap.size w2 (w1.heap.size + 1) ⟨ents (l.take 0), false, 0, 0⟩) := ⟨_, fun k hk => Nat.le_trans HB1.out.size hk.1, HD2.out⟩
    clear HB2 HD2 HB1
    go_loopw [7, 16] (fun _ i wr => ∃ j : Nat, j ≤ l.length ∧ i = .int .i64 j ∧ Hid (OneD w.heap.size wr (w1.heap.size + 1) ⟨ents (l.take j), false, 0, 0⟩) ∧ Hid (Below w.heap.size w wr)) (fun _ i _ => l.length - (intOf i).toNat)
    case atStart => exact ⟨0, Nat.zero_le _, rfl, HD0, HB12⟩
    case round =>
      obtain ⟨j, hj, rfl, HD, HB⟩ := hrel
      by_cases hlt : j < l.length
      · obtain ⟨b, off, rfl, _, f1, wf1⟩ := (HSF.out.below HB.out).at_ hlt
        have c0 := f1.c0
        have c2 := f1.c2
        obtain ⟨bo, bc, c1, s1⟩ := f1.c1
        have hdl := s1.lt
        have herr := HGD.out j hlt hlt
        obtain ⟨e1, e2, e3, e4⟩ := err_zero herr
        have HST : Hid (ents (l.take (j + 1)) = put (ents (l.take j)) l[j].name ⟨l[j].data, l[j].safe.toNat⟩) := ents_step hlt
        have hen := ents_take (l := l) hj (good_mono HGD.out hj)
        have hen1 := ents_take (l := l) (j := j + 1) (by omega) (good_mono HGD.out (by omega))
        have hle := totF_le l (j + 1)
        have hok := hen1.ok (n := 64) (by rw [List.length_take]; omega) (by have := HTOT.out; omega)
        have HOK := Lib.hid hok
        have hlr : (refs (ents (l.take j)) (fun _ => 0)).length < maxLen := by rw [length_refs, hen.len, List.length_take]; unfold maxLen; omega
        have hdt : l[j].data.length ≤ 4194304 := by
          have h1 := totF_take hlt
          have h2 := HTOT.out
          omega
        have HGN := Lib.hid (hen.none e2)
        obtain ⟨Sx, hSx, m, ρ, δ, hdk⟩ := HD.out
        have hnl : (l[j].name).length ≤ 281474976710656 := by unfold isNm at e1; simp at e1; omega
        generalize l[j] = p at *
        have hdl2 : p.data.length ≤ 140737488355328 := by omega
        have HLR : Hid ((refs (ents (l.take j)) ρ).length < maxLen) := by rw [length_refs] at hlr ⊢; exact hlr
        have HNL := Lib.hid hnl
        have HSB1 := Lib.hid s1
        have HDK := Lib.hid hdk
        have HSX := Lib.hid hSx
        have HSAFE : Hid (((p.safe.toNat : Nat) : Int) = p.safe) := Int.toNat_of_nonneg e3
        clear hdk hSx HD f1 wf1 s1 herr e1 e2 e3 e4 hen hen1 hle hok hlr hdt hnl
        go_upto_region 8 with (fail)
        have HBB := Lib.hid (below1 wr (.cells #[nmv p.name, .slice bo p.data.length bc, .int .i64 p.safe] 43))
        have HBX := Lib.hid (heap_alloc_new wr (.cells #[nmv p.name, .slice bo p.data.length bc, .int .i64 p.safe] 43))
        have hbz : wr.heap.size < (wr.alloc (.cells #[nmv p.name, .slice bo p.data.length bc, .int .i64 p.safe] 43)).heap.size := by simp
        have HBS1 := Lib.hid hbz
        clear hbz
        generalize wr.alloc (.cells #[nmv p.name, .slice bo p.data.length bc, .int .i64 p.safe] 43) = wB at *
        obtain ⟨hq0, hq1, hq2⟩ := cells43 HBX.out
        have HQ0 := Lib.hid hq0
        have HQ1 := Lib.hid hq1
        have HQ2 := Lib.hid hq2
        clear c0 c1 c2 hq0 hq1 hq2
        have c0 : wB.drew.cell? ⟨wr.heap.size, 0, none⟩ = some (nmv p.name) := HQ0.out
        have c1 : wB.drew.cell? ⟨wr.heap.size, 1, none⟩ = some (.slice bo p.data.length bc) := HQ1.out
        have c2 : wB.drew.cell? ⟨wr.heap.size, 2, none⟩ = some (.int .i64 p.safe) := HQ2.out
        have HBS : Hid (wr.heap.size < wB.drew.heap.size) := HBS1.out
        have HSB := Lib.hid ((HSB1.out.below HBB.out).below (Below.refl _ wB).drew)
        have HDB := Lib.hid ((HDK.out.below HBB.out).below (Below.refl _ wB).drew)
        have HMW : Hid (¬ wr.heap.size = m) := fun e => by have := HDK.out.lt m HDK.out.sm; omega
        refine wp_region_held (S := (fun w' => w'.cell? ⟨wr.heap.size, 0, none⟩ = some (nmv p.name) ∧ w'.cell? ⟨wr.heap.size, 1, none⟩ = some (.slice bo p.data.length bc) ∧ w'.cell? ⟨wr.heap.size, 2, none⟩ = some (.int .i64 p.safe))) (by kernel_rfl) ?_
        change wpAnyH _ _ _ _ _ _ _ _ (World.drew _)
        refine wpAnyH_take (i := 0) (v := ?vf_0) rfl (by kernel_rfl) (by kernel_rfl) (by kernel_rfl) (fun _ _ _ h => h) (Or.inl ⟨by rfl, ?yf_0⟩) ⟨c0, c1, c2⟩ ?rf_0
        case yf_0 => (intro W hSw; (try dsimp only at hSw); obtain ⟨q0, q1, q2⟩ := hSw; first | (go_simp; done) | (go_simp; with_reducible rfl))
        try go_simp
        refine wpAnyH_take (i := 1) (v := ?vf_1) rfl (by kernel_rfl) (by kernel_rfl) (by kernel_rfl) (fun _ _ _ h => h) (Or.inl ⟨by rfl, ?yf_1⟩) ⟨c0, c1, c2⟩ ?rf_1
        case yf_1 => (intro W hSw; (try dsimp only at hSw); obtain ⟨q0, q1, q2⟩ := hSw; first | (go_simp; done) | (go_simp; with_reducible rfl))
        try go_simp
        refine wpAnyH_take (i := 2) (v := ?vf_2) rfl (by kernel_rfl) (by kernel_rfl) (by kernel_rfl) (fun _ _ _ h => h) (Or.inl ⟨by rfl, ?yf_2⟩) ⟨c0, c1, c2⟩ ?rf_2
        case yf_2 => (intro W hSw; (try dsimp only at hSw); obtain ⟨q0, q1, q2⟩ := hSw; first | (go_simp; done) | (go_simp; with_reducible rfl))
        try go_simp
        refine wpAnyH_take (i := 3) (v := ?vf_3) rfl (by kernel_rfl) (by kernel_rfl) (by kernel_rfl) (fun _ _ _ h => h) (Or.inl ⟨by rfl, ?yf_3⟩) ⟨c0, c1, c2⟩ ?rf_3
        case yf_3 => (intro W hSw; (try dsimp only at hSw); obtain ⟨q0, q1, q2⟩ := hSw; first | (go_simp; done) | (go_simp; with_reducible rfl))
        try go_simp
        refine wpAnyH_take (i := 4) (v := ?vf_4) rfl (by kernel_rfl) (by kernel_rfl) (by kernel_rfl) (fun _ _ _ h => h) (Or.inl ⟨by rfl, ?yf_4⟩) ⟨c0, c1, c2⟩ ?rf_4
        case yf_4 => (intro W hSw; (try dsimp only at hSw); obtain ⟨q0, q1, q2⟩ := hSw; first | (go_simp; done) | (go_simp; with_reducible rfl))
        try go_simp
        refine wpAnyH_take (i := 6) (v := ?vf_6) rfl (by kernel_rfl) (by kernel_rfl) (by kernel_rfl) (fun _ _ _ h => h) (Or.inl ⟨by rfl, ?yf_6⟩) ⟨c0, c1, c2⟩ ?rf_6
        case yf_6 => (intro W hSw; (try dsimp only at hSw); obtain ⟨q0, q1, q2⟩ := hSw; first | (go_simp; done) | (go_simp; with_reducible rfl))
        try go_simp
        refine wpAnyH_take (i := 7) (v := ?vf_7) rfl (by kernel_rfl) (by kernel_rfl) (by kernel_rfl) (fun _ _ _ h => h) (Or.inl ⟨by rfl, ?yf_7⟩) ⟨c0, c1, c2⟩ ?rf_7
        case yf_7 => (intro W hSw; (try dsimp only at hSw); obtain ⟨q0, q1, q2⟩ := hSw; first | (go_simp; done) | (go_simp; with_reducible rfl))
        try go_simp
        refine wpAnyH_ready (rs := [5]) (by kernel_rfl) (by simp) ?_
        refine AllReadyH.cons rfl (fun K hK => ?_) AllReadyH.nil
        go_simp
        (go_wp2_with (first | (go_at_call 57; (refine (clone_any HSB.out hdl2).mono ?_); rintro e w4 ⟨v4, rfl, ho, hb⟩; obtain ⟨co, cc, rfl⟩ := own_slice ho; have HO4 := Lib.hid ho; have HB4 := Lib.hid hb; have p0 := (hb.cell (p := ⟨wr.heap.size, 0, none⟩) HBS.out).trans HQ0.out; have p1 := (hb.cell (p := ⟨wr.heap.size, 1, none⟩) HBS.out).trans HQ1.out; have p2 := (hb.cell (p := ⟨wr.heap.size, 2, none⟩) HBS.out).trans HQ2.out; have HZ4 := Lib.hid (Nat.lt_of_lt_of_le HBS.out hb.size); clear ho hb)))
        refine hK.out _ _ ⟨p0, p1, p2⟩ (fun _ => ?_)
        clear hK K
        try go_simp
        refine wpAnyH_take (i := 8) (v := ?vf_8) rfl (by kernel_rfl) (by kernel_rfl) (by kernel_rfl) (fun _ _ _ h => h) (Or.inl ⟨by rfl, ?yf_8⟩) ⟨p0, p1, p2⟩ ?rf_8
        case yf_8 => (intro W hSw; (try dsimp only at hSw); obtain ⟨q0, q1, q2⟩ := hSw; first | (go_simp; done) | (go_simp; with_reducible rfl))
        try go_simp
        have r0 := ((below1 w4 (.cells #[.slice co p.data.length cc, .int .i64 p.safe] 95)).cell (p := ⟨wr.heap.size, 0, none⟩) HZ4.out).trans p0
        have r1 := ((below1 w4 (.cells #[.slice co p.data.length cc, .int .i64 p.safe] 95)).cell (p := ⟨wr.heap.size, 1, none⟩) HZ4.out).trans p1
        have r2 := ((below1 w4 (.cells #[.slice co p.data.length cc, .int .i64 p.safe] 95)).cell (p := ⟨wr.heap.size, 2, none⟩) HZ4.out).trans p2
        refine wpAnyH_ready (rs := [9]) (by kernel_rfl) (by simp) ?_
        refine AllReadyH.cons rfl (fun K hK => ?_) AllReadyH.nil
        go_simp
        refine hK.out _ _ ⟨r0, r1, r2⟩ (fun _ => ?_)
        clear hK K
        try go_simp
        have HBX4 := Lib.hid (below1 w4 (.cells #[.slice co p.data.length cc, .int .i64 p.safe] 95))
        have HNW4 := Lib.hid (heap_alloc_new w4 (.cells #[.slice co p.data.length cc, .int .i64 p.safe] 95))
        have hz5 : w4.heap.size < (w4.alloc (.cells #[.slice co p.data.length cc, .int .i64 p.safe] 95)).heap.size := by simp
        have HZ5 := Lib.hid hz5
        clear hz5
        generalize w4.alloc (.cells #[.slice co p.data.length cc, .int .i64 p.safe] 95) = wX at *
        have HDX := Lib.hid ((HDB.out.below HB4.out).below HBX4.out)
        have HZX : Hid (wr.heap.size < wX.heap.size) := Nat.lt_trans HZ4.out HZ5.out
        refine wpAnyH_ready (rs := [10]) (by kernel_rfl) (by simp) ?_
        refine AllReadyH.cons rfl (fun K hK => ?_) AllReadyH.nil
        go_simp
        (go_wp2_with (first | (go_at_call 56; (refine (put_walk (L := refs (ents (l.take j)) ρ) HDX.out.c0 HDX.out.map HLR.out HNL.out _).mono ?_); rintro e w5 ⟨rfl, w51, hb2, ht2, hm2⟩; have HB51 := Lib.hid hb2; have HT51 := Lib.hid ht2; have HM51 := Lib.hid hm2; have s0 := ht2.cell ((hb2.cell (p := ⟨wr.heap.size, 0, none⟩) HZX.out).trans r0) HMW.out; have s1 := ht2.cell ((hb2.cell (p := ⟨wr.heap.size, 1, none⟩) HZX.out).trans r1) HMW.out; have s2 := ht2.cell ((hb2.cell (p := ⟨wr.heap.size, 2, none⟩) HZX.out).trans r2) HMW.out; clear hb2 ht2 hm2)))
        refine hK.out _ _ ⟨s0, s1, s2⟩ (fun _ => ?_)
        clear hK K
        try go_simp
        refine wpAnyH_done (by kernel_rfl) ?_ _
        have hbel : Below w.heap.size w wX := HB.out.trans ((HBB.out.trans (((Below.refl _ wB).drew.trans (HB4.out.trans (HBX4.out.mono HB4.out.size))).mono HBB.out.size)).mono HB.out.size)
        have h51 := Nat.le_trans HB51.out.size HT51.out.size
        have hxs := hbel.size
        have hnew : ∀ k, (Value.slice co p.data.length cc).ownBlock = some k → wB.heap.size ≤ k ∧ k < w4.heap.size := fun k hk => HO4.out.lt k hk
        have hwr := HBS1.out
        have hwb : wB.heap.size ≤ w4.heap.size := HB4.out.size
        have hdn := HDX.out.put_of (x := ⟨p.data, p.safe.toNat⟩) (v := .slice co p.data.length cc) (b := w4.heap.size) (d' := ⟨ents (l.take (j + 1)), false, 0, 0⟩) HB51.out HT51.out HM51.out (by rw [HSAFE.out]; exact HNW4.out) (own_mono (own_below HO4.out HBX4.out) (Nat.zero_le _))
          (fun q hq _ e => by have := HDK.out.lt _ (HDK.out.sf q hq); omega) (fun q hq _ k hk e => by have := HDK.out.lt _ (HDK.out.sr q hq k e); have := (hnew k hk).1; omega)
          HOK.out HST.out rfl rfl rfl (U := fun k => Sx k ∨ (wB.heap.size ≤ k ∧ k < w5.heap.size)) (fun k hk => .inl hk) (.inr ⟨hwb, by have := HZ5.out; omega⟩) (fun k hk => .inr ⟨(hnew k hk).1, by have := (hnew k hk).2; have := HZ5.out; omega⟩)
          (fun k hk => by
            rcases hk with hk | hk
            · have := HDK.out.lt k hk; have := HZ5.out; omega
            · exact hk.2)
        have hmw : w.heap.size ≤ m := HSX.out m HDK.out.sm
        have HB6 : Hid (Below w.heap.size w w5) := (hbel.trans (HB51.out.mono hbel.size)).trans (HT51.out.below (Nat.le_trans hbel.size HB51.out.size) (fun k hk => by subst hk; exact hmw))
        have HD6 : Hid (OneD w.heap.size w5 (w1.heap.size + 1) ⟨ents (l.take (j + 1)), false, 0, 0⟩) := ⟨_, fun k hk => by
          rcases hk with hk | hk
          · exact HSX.out k hk
          · have := HB.out.size; omega, _, _, _, hdn⟩
        clear hdn hnew hbel r0 r1 r2 p0 p1 p2 c0 c1 c2 s0 s1 s2
        go_wp2
        go_roundw
        case rel => exact ⟨j + 1, by omega, by go_num, HD6, HB6⟩
        case measure => simp [intOf]; omega
      · obtain rfl : j = l.length := by omega
        rw [List.take_length] at HD
        go_wp2
        go_ret2
        exact ⟨⟨0, HCK.out, .inr ⟨rfl, _, rfl, HD.out⟩⟩, HB.out⟩
  · have her2 : ((er : Int) == 0) = false := by simpa using her
    go_wp2
    go_ret2
    exact ⟨⟨er, HCK.out, .inl ⟨her, rfl⟩⟩, HB1.out⟩
theorem rput_int {C : Nat → Prop} {w : World} {a : Nat} {d : Dk} {v : Value} {us : List (Nm × Value × Int)} {s : Nm} {x : Fi} {z : Int} {u : Value} (h : RAt C w a d v us) (hn : get d.f s = none) (hu : w.ownsRow 0 5 1 u x.data.length (bys x.data)) (hok : Okr { d with f := put d.f s x }) (hz : ((x.safe : Nat) : Int) = z) :
    Calls Tryz.prog 60 #[ptr a, .agg #[nmv s, u, .int .i64 z]] w fun e w' => e = .returned (.tuple #[]) ∧ RK (Gw (fun k => C k ∨ u.ownBlock = some k) w w') w' a { d with f := put d.f s x } ∧ Tn C w w' := hz ▸ rput_any h hn hu hok
set_option maxRecDepth 100000 in
set_option maxHeartbeats 4000000 in
theorem rload_any {D : Nat → Prop} {w : World} {ao : Option Addr} {n cap : Nat} {l : List FV} (hs : SF D w ao n cap l) (hl : l.length ≤ 1000) (ht : totF l ≤ 4194304) :
    Calls Tryz.prog 18 #[.slice ao n cap] w fun e w' => Loads l (fun a w' => ∃ C, (∀ k, C k → w.heap.size ≤ k) ∧ RK C w' a ⟨ents l, false, 0, 0⟩) e w' ∧ Below w.heap.size w w' := by
  obtain rfl : n = l.length := hs.len
  have HSF := Lib.hid hs
  have HTOT := Lib.hid ht
  clear hs ht
  go_enter Tryz.func18, Tryz.ntmps18
  go_wp2
  have hr0 : RK (· = w.heap.size) (w.alloc (.cells #[.slice none 0 0, .bool false, .int .i64 0, .int .i64 0] 31)) w.heap.size ⟨ents (l.take 0), false, 0, 0⟩ := ⟨.slice none 0 0, [], ok_zero, Nat.zero_le _, heap_alloc_new w _, FO.nil _ _, rfl, fun k hk => by subst hk; simp⟩
  have HR0 : Hid (∃ C, (∀ k, C k → w.heap.size ≤ k) ∧ RK C (w.alloc (.cells #[.slice none 0 0, .bool false, .int .i64 0, .int .i64 0] 31)) w.heap.size ⟨ents (l.take 0), false, 0, 0⟩) := ⟨_, fun k hk => Nat.le_of_eq hk.symm, hr0⟩
  have HB0 := Lib.hid (below1 w (.cells #[.slice none 0 0, .bool false, .int .i64 0, .int .i64 0] 31))
  clear hr0
  go_loopw [5, 6] (fun i _ wr => ∃ j : Nat, j ≤ l.length ∧ i = .int .i64 j ∧ Hid (good l j) ∧ Hid (∃ C, (∀ k, C k → w.heap.size ≤ k) ∧ RK C wr w.heap.size ⟨ents (l.take j), false, 0, 0⟩) ∧ Hid (Below w.heap.size w wr)) (fun i _ _ => l.length - (intOf i).toNat)
  case atStart => exact ⟨0, Nat.zero_le _, rfl, fun _ _ h => absurd h (Nat.not_lt_zero _), HR0, HB0⟩
  case round =>
    obtain ⟨j, hj, rfl, HG, HD, HB⟩ := hrel
    by_cases hlt : j < l.length
    · obtain ⟨b, off, rfl, _, f1, wf1⟩ := (HSF.out.below HB.out).at_ hlt
      have c0 := f1.c0
      have c2 := f1.c2
      obtain ⟨bo, bc, c1, s1⟩ := f1.c1
      have hdl := s1.lt
      have HGS : Hid (errOf (l.take j) l[j] = 0 → good l (j + 1)) := fun he => good_succ HG.out hlt he
      have HBAD : Hid (∀ e : Nat, e ≠ 0 → errOf (l.take j) l[j] = e → Chk l e) := fun e h0 he => .inl ⟨h0, j, hlt, HG.out, he⟩
      have HST : Hid (ents (l.take (j + 1)) = put (ents (l.take j)) l[j].name ⟨l[j].data, l[j].safe.toNat⟩) := ents_step hlt
      have hen := ents_take (l := l) hj HG.out
      have HEN := Lib.hid hen
      have HOK1 : Hid (errOf (l.take j) l[j] = 0 → Okr ⟨ents (l.take (j + 1)), false, 0, 0⟩) := fun he => by
        have hen1 := ents_take (l := l) (j := j + 1) (by omega) (good_succ HG.out hlt he)
        have hle := totF_le l (j + 1)
        exact hen1.ok (by rw [List.length_take]; omega) (by have := HTOT.out; omega)
      have hdt : l[j].data.length ≤ 4194304 := by
        have h1 := totF_take hlt
        have h2 := HTOT.out
        have h3 := totF_le l (j + 1)
        omega
      obtain ⟨C, hC, v, us, hrk⟩ := HD.out
      generalize l[j] = p at *
      have hdl2 : p.data.length ≤ 140737488355328 := by omega
      have HNM := Lib.hid wf1.name
      have HSB1 := Lib.hid s1
      have HRK := Lib.hid hrk
      have HCW := Lib.hid hC
      clear hrk hC HD f1 wf1 s1 hen hdt
      go_upto_region 6 with (fail)
      have HBB := Lib.hid (below1 wr (.cells #[nmv p.name, .slice bo p.data.length bc, .int .i64 p.safe] 43))
      have HBX := Lib.hid (heap_alloc_new wr (.cells #[nmv p.name, .slice bo p.data.length bc, .int .i64 p.safe] 43))
      have hbz : wr.heap.size < (wr.alloc (.cells #[nmv p.name, .slice bo p.data.length bc, .int .i64 p.safe] 43)).heap.size := by simp
      have HBS1 := Lib.hid hbz
      clear hbz
      generalize wr.alloc (.cells #[nmv p.name, .slice bo p.data.length bc, .int .i64 p.safe] 43) = wB at *
      obtain ⟨b0, b1, b2⟩ := cells43 HBX.out
      have HQ0 := Lib.hid b0
      have HQ1 := Lib.hid b1
      have HQ2 := Lib.hid b2
      have HRK2 := Lib.hid (HRK.out.below HBB.out)
      have HB2 := Lib.hid (HB.out.trans (HBB.out.mono HB.out.size))
      clear c0 c1 c2
      cases hnm : isNm p.name with
      | false =>
        have HN := Lib.hid hnm
        have HC := HBAD.out 10 (by decide) (by unfold errOf; rw [hnm]; rfl)
        clear hnm
        go_wp2_with (go_at_call 58; (with_reducible refine (rname_any _ _ HNM.out).mono ?_); rw [HN.out]; rintro e w' ⟨rfl, rfl⟩)
        go_ret2
        exact ⟨⟨10, HC, .inl ⟨by decide, rfl⟩⟩, HB2.out⟩
      | true =>
      have HN := Lib.hid hnm
      cases hany : (l.take j).any fun q => q.name == p.name with
      | true =>
        have HC := HBAD.out 9 (by decide) (by unfold errOf; rw [hnm, hany]; rfl)
        have hhas := HEN.out.has p.name
        rw [hany, has_get] at hhas
        obtain ⟨y, hy⟩ := Option.isSome_iff_exists.1 hhas
        obtain ⟨k1, hk1, hs1, hne1⟩ := get_pos HEN.out.rising hy
        have HS1 := Lib.hid hs1
        have HNE1 := Lib.hid hne1
        clear hnm hany hhas hy hs1 hne1
        go_wp2_with (first
          | (go_at_call 58; (with_reducible refine (rname_any _ _ HNM.out).mono ?_); rw [HN.out]; rintro e w' ⟨rfl, rfl⟩)
          | (go_at_call 59; (with_reducible refine (rat_some HRK2.out hk1 HS1.out HNE1.out).mono ?_); rintro e w' ⟨rfl, rfl⟩))
        go_ret2
        exact ⟨⟨9, HC, .inl ⟨by decide, rfl⟩⟩, HB2.out⟩
      | false =>
      have HGN := Lib.hid (HEN.out.none hany)
      by_cases hsf : p.safe < 0 ∨ (p.data.length : Int) < p.safe
      · have HC := HBAD.out 1 (by decide) (by unfold errOf; rw [hnm, hany, if_pos hsf]; rfl)
        clear hnm hany
        by_cases hs0 : p.safe < 0
        · clear hsf
          go_wp2_with (first
            | (go_at_call 58; (with_reducible refine (rname_any _ _ HNM.out).mono ?_); rw [HN.out]; rintro e w' ⟨rfl, rfl⟩)
            | (go_at_call 59; (with_reducible refine (rat_none HRK2.out HGN.out).mono ?_); rintro e w' ⟨rfl, rfl⟩))
          go_ret2
          exact ⟨⟨1, HC, .inl ⟨by decide, rfl⟩⟩, HB2.out⟩
        · have hs1 : (p.data.length : Int) < p.safe := by omega
          have hd0 : decide (p.safe < 0) = false := decide_eq_false hs0
          clear hsf
          go_wp2_with (first
            | (go_at_call 58; (with_reducible refine (rname_any _ _ HNM.out).mono ?_); rw [HN.out]; rintro e w' ⟨rfl, rfl⟩)
            | (go_at_call 59; (with_reducible refine (rat_none HRK2.out HGN.out).mono ?_); rintro e w' ⟨rfl, rfl⟩))
          go_ret2
          exact ⟨⟨1, HC, .inl ⟨by decide, rfl⟩⟩, HB2.out⟩
      · have he0 : errOf (l.take j) p = 0 := by unfold errOf; rw [hnm, hany, if_neg hsf]; rfl
        have HG2 := Lib.hid (HGS.out he0)
        have hok := HOK1.out he0
        rw [HST.out] at hok
        have HOK := Lib.hid hok
        have hs0 : ¬ p.safe < 0 := by omega
        have hs1 : ¬ (p.data.length : Int) < p.safe := by omega
        have hd0 : decide (p.safe < 0) = false := decide_eq_false hs0
        have hd1 : decide ((p.data.length : Int) < p.safe) = false := decide_eq_false hs1
        have HSAFE : Hid (((p.safe.toNat : Nat) : Int) = p.safe) := Int.toNat_of_nonneg (by omega)
        clear hnm hany hsf he0 hok
        go_upto_region 12 with (first
          | (go_at_call 58; (with_reducible refine (rname_any _ _ HNM.out).mono ?_); rw [HN.out]; rintro e w' ⟨rfl, rfl⟩)
          | (go_at_call 59; (with_reducible refine (rat_none HRK2.out HGN.out).mono ?_); rintro e w' ⟨rfl, rfl⟩))
        clear b0 b1 b2
        have c0 : wB.drew.cell? ⟨wr.heap.size, 0, none⟩ = some (nmv p.name) := HQ0.out
        have c1 : wB.drew.cell? ⟨wr.heap.size, 1, none⟩ = some (.slice bo p.data.length bc) := HQ1.out
        have c2 : wB.drew.cell? ⟨wr.heap.size, 2, none⟩ = some (.int .i64 p.safe) := HQ2.out
        have HBS : Hid (wr.heap.size < wB.drew.heap.size) := HBS1.out
        have HSB := Lib.hid ((HSB1.out.below HBB.out).below (Below.refl _ wB).drew)
        have HRB := Lib.hid (HRK2.out.below (Below.refl _ wB).drew)
        have HMW : Hid (¬ C wr.heap.size) := fun e => by have := HRK.out.lt _ e; omega
        go_region_held (fun w' => w'.cell? ⟨wr.heap.size, 0, none⟩ = some (nmv p.name) ∧ w'.cell? ⟨wr.heap.size, 1, none⟩ = some (.slice bo p.data.length bc) ∧ w'.cell? ⟨wr.heap.size, 2, none⟩ = some (.int .i64 p.safe)) (first | exact ⟨c0, c1, c2⟩ | exact ⟨p0, p1, p2⟩ | exact ⟨s0, s1, s2⟩) (first
          | (go_at_call 26; (refine (copyBytes_any HSB.out hdl2).mono ?_); rintro e w4 ⟨co, cc, rfl, ho, hb⟩; have HO4 := Lib.hid ho; have HB4 := Lib.hid hb; have HRX := Lib.hid (HRB.out.below hb); have HZX := Lib.hid (Nat.lt_of_lt_of_le HBS.out hb.size); have p0 := (hb.cell (p := ⟨wr.heap.size, 0, none⟩) HBS.out).trans HQ0.out; have p1 := (hb.cell (p := ⟨wr.heap.size, 1, none⟩) HBS.out).trans HQ1.out; have p2 := (hb.cell (p := ⟨wr.heap.size, 2, none⟩) HBS.out).trans HQ2.out; clear ho hb)
          | (go_at_call 60; (refine (rput_int HRX.out HGN.out (own_mono HO4.out (Nat.zero_le _)) HOK.out HSAFE.out).mono ?_); rintro e w5 ⟨rfl, hr, ht⟩; have HR5 := Lib.hid hr; have HT5 := Lib.hid ht; have s0 := ht.cell p0 HMW.out; have s1 := ht.cell p1 HMW.out; have s2 := ht.cell p2 HMW.out; clear hr ht))
        have hb4 : Below w.heap.size w w4 := HB2.out.trans (((Below.refl _ wB).drew.trans HB4.out).mono HB2.out.size)
        have HB6 : Hid (Below w.heap.size w w5) := hb4.trans (HT5.out.below hb4.size HCW.out)
        have hnew : ∀ k, (Value.slice co p.data.length cc).ownBlock = some k → wB.heap.size ≤ k := fun k hk => (HO4.out.lt k hk).1
        have hwb := HB2.out.size
        have hr5 := HR5.out
        have HR6 : Hid (∃ C, (∀ k, C k → w.heap.size ≤ k) ∧ RK C w5 w.heap.size ⟨ents (l.take (j + 1)), false, 0, 0⟩) := by
          refine ⟨_, fun k hk => ?_, by rw [HST.out]; exact hr5⟩
          rcases hk with (hk | hk) | hk
          · exact HCW.out k hk
          · exact Nat.le_trans hwb (hnew k hk)
          · exact Nat.le_trans hb4.size hk.1
        clear hr5 hnew hb4 p0 p1 p2 c0 c1 c2 s0 s1 s2
        go_wp2
        go_roundw
        case rel => exact ⟨j + 1, by omega, by go_num, HG2, HR6, HB6⟩
        case measure => simp [intOf]; omega
    · obtain rfl : j = l.length := by omega
      rw [List.take_length] at HD
      have hen := ents_take (l := l) (Nat.le_refl _) HG.out
      rw [List.take_length] at hen
      have htf : totF (fvs (ents l)) = totF l := by rw [totF_fvs, hen.tot]
      have HTF := Lib.hid htf
      have hroom := HTOT.out
      obtain ⟨C, hC, v, us, hrk⟩ := HD.out
      have HRK := Lib.hid hrk
      have HC := Lib.hid hC
      clear hrk hC HD hen htf
      by_cases hmany : 64 < l.length
      · have hm64 : (64 : Int) < (l.length : Int) := by omega
        go_wp2
        go_ret2
        exact ⟨⟨3, .inr ⟨HG.out, by rw [if_pos hmany]⟩, .inl ⟨by decide, rfl⟩⟩, HB.out⟩
      · have hm64 : ¬ (64 : Int) < (l.length : Int) := by omega
        have hnf : ¬ (4194304 : Int) < (totF l : Int) := by omega
        go_wp2_with (go_at_call 61; (with_reducible refine (rsize_any HRK.out).mono ?_); rw [HTF.out]; rintro e w' ⟨rfl, rfl⟩)
        go_ret2
        exact ⟨⟨0, .inr ⟨HG.out, by rw [if_neg hmany, if_neg (by omega)]⟩, .inr ⟨rfl, _, rfl, C, HC.out, v, us, HRK.out⟩⟩, HB.out⟩
end Go.Proofs.YtkilkhnoldfhcaaGreatDoor
