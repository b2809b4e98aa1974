/- A map of ranges listed by their numbers; New, List. Conditions: none of its own. -/
import Derived.Test.YtfcdajkgopcmpaaDo
import Derived.Test.YtfcdajkgopcmpaaDj
import Derived.Test.YtfcdajkgopcmpaaDg
import Derived.Test.YtfcdajkgopcmpaaCp
namespace Go.Proofs.Ytfcdajkgopcmpaa
open Go.ChangeShapes Go.WideShapes Go.ChangeAt Go.RowKit Go.Deep Go.Maps Go.Sort Go.Shelf
theorem may_len {L : List RV} (h : Rise L) (hm : ∀ q ∈ L, mayV q = true) : L.length ≤ 12 := by
  have key : ∀ (L : List RV) (lo : Int), Rise L → (∀ q ∈ L, lo < q.i ∧ q.i ≤ 12) → (L.length : Int) ≤ 12 - lo ∨ L = [] := by
    intro L
    induction L with
    | nil => intro lo _ _; exact .inr rfl
    | cons r L ih =>
      intro lo hr hq
      have h1 := hq r List.mem_cons_self
      have h2 := List.pairwise_cons.1 hr
      rcases ih r.i h2.2 (fun q hq2 => ⟨h2.1 q hq2, (hq q (List.mem_cons_of_mem _ hq2)).2⟩) with h | h
      · left; rw [List.length_cons]; omega
      · left; subst h; simp; omega
  rcases key L 0 h (fun q hq => by obtain ⟨_, _, _, h1, h2, _⟩ := may_pts (hm q hq); omega) with h | h
  · omega
  · subst h; simp
theorem id_wide {r : RV} (h : mayV r = true) : -9223372036854775808 ≤ r.i ∧ r.i < 9223372036854775808 := by
  obtain ⟨_, _, _, h1, h2, _⟩ := may_pts h; omega
section
variable {C S P : Nat → Prop} {w w' : World} {a m : Nat} {L l : List RV} {v : Value}
theorem MAt.below {w w' : World} {m : Nat} {L : List RV} (h : MAt w m L) (hb : Below w.heap.size w w') : MAt w' m L := h.tn (Tn.of_below (S := fun _ => False) hb) (fun e => e)
theorem MAt.find {w : World} {m : Nat} {L : List RV} (h : MAt w m L) {k : Int} (hk : -9223372036854775808 ≤ k ∧ k < 9223372036854775808) :
    (Instr.lookup 70 (.map (some m)) (.int .i64 k) false).run Try.prog w = .ok (ragg ((getL L k).getD RV.zero)) w := by
  obtain ⟨v, ps, hrun, hv⟩ := World.ownsMap.lookup h law_int under_map (zero_range w) (zd := rdat RV.zero) (zp := []) rfl (key_int hk)
  rw [atKey_dmap] at hv
  cases hg : getL L k with
  | none => rw [hg] at hv; rw [rangeE_inv hv] at hrun; exact hrun
  | some r => rw [hg] at hv; rw [rangeE_inv hv] at hrun; exact hrun
theorem keys_row {w : World} {B : Nat} {v : Value} {xs : List Int} (h : w.ownsRow B 3 1 v xs.length (xs.map encZ)) {k : Nat} (hk : k < xs.length) : ∃ g cap, v = .slice (some ⟨g, 0, none⟩) xs.length cap ∧ w.cell? ⟨g, k, none⟩ = some (.int .i64 xs[k]) := by
  obtain ⟨g, cap, rfl⟩ := own_shape h (by omega)
  refine ⟨g, cap, rfl, ?_⟩
  have := h.cells (g := g) rfl k (encZ xs[k]) (by simp [hk])
  rw [Addr.add_lit] at this
  simpa using this
/-- slices.Sorted(maps.Keys(m)). -/
theorem sorted_any (h : MAt w m L) (hr : Rise L) (h12 : L.length ≤ 12) :
    Calls Try.prog 49 #[.func (.func 62) #[] #[.pointer (some ⟨w.heap.size, 0, none⟩)]] (w.alloc (.cells #[.map (some m)] 70)) fun e w' =>
      ∃ kao kcap, e = .returned (.slice kao L.length kcap) ∧ w'.ownsRow (w.heap.size + 1) 3 1 (.slice kao L.length kcap) (L.map (·.i)).length ((L.map (·.i)).map encZ) ∧ Below w.heap.size w w' := by
  refine ((callsIn_wide (n := 5)).1 (sorted_keysI m _ _ rangeE w h (by rw [size_dmap]; unfold maxLen; omega) (by rw [size_dmap]; omega))).mono ?_
  rintro e w3 ⟨u, ss, rfl, hS, hrow, _, hb⟩
  rw [keys_dmap] at hS
  rw [sort_ids hr hS, hS.length_eq] at hrow
  obtain ⟨kao, kcap, rfl⟩ := own_slice hrow
  rw [List.length_map] at hrow ⊢
  refine ⟨kao, kcap, rfl, ?_, ((Below.refl _ w).alloc (Nat.le_refl _) _).trans (hb.mono (by simp))⟩
  simpa using hrow
set_option maxRecDepth 100000 in
set_option maxHeartbeats 4000000 in
theorem asc_any (h : MAt w m L) (hr : Rise L) (hm : ∀ q ∈ L, mayV q = true) :
    Calls Try.prog 38 #[.map (some m)] w fun e w' => ∃ ao cap, e = .returned (.slice ao L.length cap) ∧ w'.ownsRow w.heap.size 37 4 (.slice ao L.length cap) L.length (cellsR L) ∧ Below w.heap.size w w' := by
  obtain ⟨i0, hi, hz0, hz1, hz2⟩ := info34s
  have h12 := may_len hr hm
  have HM := Lib.hid h
  have HRS := Lib.hid hr
  have HMY := Lib.hid hm
  have hln := World.ownsMap.len h under_map
  rw [size_dmap] at hln
  obtain ⟨n, hn⟩ : ∃ n, L.length = n := ⟨_, rfl⟩
  have HN := Lib.hid hn
  have HSRT0 := fun ww (hh : MAt ww m L) => sorted_any hh hr h12
  rw [hn] at hln h12 HSRT0 ⊢
  have HMK := fun ww : World => Lib.hid (run_make_own ww ww.heap.size 22 37 i0 _ 4 Try.underlying22 hi hz0 hz1 .i64 .i64 n (by rw [hz2]; omega) (by unfold maxLen; omega) (Nat.le_refl _))
  obtain ⟨w1, hmk, ho1, hg1⟩ := (HMK w).out
  have HO1 := Lib.hid ho1
  have HB1 : Hid (Below w.heap.size w w1) := Lib.hid ((Below.refl _ w).grown hg1 (Nat.le_refl _) (fun k hk => by cases hk))
  have HSRT := Lib.hid (HSRT0 w1 (HM.out.below HB1.out))
  have HMT : Hid (m < w.heap.size) := Lib.hid h.lt
  clear h hr hm hn ho1 hg1 HMK HSRT0
  go_enter Try.func38, Try.ntmps38
  go_wp2_with (first
    | (go_at_call 51; refine ((callsIn_wide (n := 5)).1 (maps_keysI _ _)).mono ?_; rintro e w2 ⟨rfl, rfl⟩)
    | (go_at_call 49; refine HSRT.out.mono ?_; rintro e w3 ⟨kao, kcap, rfl, hrow, hb⟩; have HKR := Lib.hid hrow; have HB2 := Lib.hid hb; clear hrow hb))
  go_loopw [3, 13] (fun vs vi wr => ∃ k : Nat, vi = .int .i64 k ∧ k ≤ n ∧ Hid (wr.ownsRow w.heap.size 37 4 vs k (cellsR (L.take k))) ∧ Hid (MAt wr m L) ∧ Hid (wr.ownsRow (w1.heap.size + 1) 3 1 (.slice kao n kcap) (L.map (·.i)).length ((L.map (·.i)).map encZ)) ∧ Hid (Below w.heap.size w wr)) (fun _ vi _ => n - (RowKit.intOf vi).toNat)
  case atStart =>
    refine ⟨0, rfl, Nat.zero_le _, Lib.hid ?_, Lib.hid ((HM.out.below HB1.out).below HB2.out), HKR, Lib.hid (HB1.out.trans (HB2.out.mono HB1.out.size))⟩
    exact own_mono (own_below HO1.out HB2.out) (Nat.le_refl _)
  case round =>
    obtain ⟨k, rfl, hk, HO, HMr, HKr, HW⟩ := hrel
    by_cases hlt : k < n
    · have hlt2 : (k : Int) < (n : Int) := by omega
      have hkl : k < L.length := by rw [HN.out]; exact hlt
      obtain ⟨g, cap, e9, hkc⟩ := keys_row HKr.out (k := k) (by rw [List.length_map]; exact hkl)
      rw [List.getElem_map] at hkc
      simp only [Value.slice.injEq] at e9
      obtain ⟨rfl, h9, rfl⟩ := e9
      clear h9
      have hfd := HMr.out.find (id_wide (HMY.out _ (List.getElem_mem hkl)))
      rw [getL_mem HRS.out (List.getElem_mem hkl)] at hfd
      have HT : Hid (L.take (k + 1) = L.take k ++ [L[k]]) := Lib.hid (List.take_succ_eq_append_getElem hkl)
      have hs := HW.out.size
      simp only [Option.getD_some] at hfd
      obtain ⟨q, hq⟩ : ∃ q, L[k] = q := ⟨_, rfl⟩
      rw [hq] at hfd hkc HT
      clear hkl hq
      obtain ⟨q1, q2, q3, q4⟩ := q
      simp only at hfd hkc
      go_wp2_with (first
        | (at_builtin; refine wpList_append_own _ rfl (.tmp 17) (.tmp 21) 22 rfl w.heap.size 37 i0 _ 4 32 Try.underlying22 hi hz0 hz1 hz2 rfl (by decide) _ k _ rfl (HO.out.alloc _) ⟨wr.heap.size, 0, none⟩ 1 1 (cellsR [⟨q1, q2, q3, q4⟩]) rfl rfl (news_lit wr ⟨q1, q2, q3, q4⟩) (cellsR_one _) (by unfold maxLen; omega) (by omega) (by simp; omega) ?_; intro v2 w2 hown hg _; have HO2 := Lib.hid hown; have HG2 := Lib.hid hg; clear hown hg))
      have HT2 : Hid (Tn (fun b => u3.ownBlock = some b) wr w2) := Lib.hid (((Tn.refl _ wr).alloc _).grown HG2.out (fun k hk _ => hk))
      have HM2 : Hid (MAt w2 m L) := Lib.hid (HMr.out.tn HT2.out (fun e => by have := (HO.out.lt m e).1; have := HMT.out; omega))
      have HK2 := Lib.hid (own_tn HKr.out HT2.out (own_apart HKr.out HO.out (by decide)))
      have HW2 : Hid (Below w.heap.size w w2) := Lib.hid ((HW.out.alloc hs _).grown HG2.out (by simp; omega) (fun k hk => (HO.out.lt k hk).1))
      go_roundw
      case rel => exact ⟨k + 1, by go_num, by omega, by rw [HT.out, cells_snoc]; exact HO2, HM2, HK2, HW2⟩
      case measure => simp [RowKit.intOf]; omega
    · obtain rfl : k = n := by omega
      have e : L.take k = L := List.take_of_length_le (by rw [HN.out]; exact Nat.le_refl _)
      rw [e] at HO
      obtain ⟨ao, cap, rfl⟩ := own_slice HO.out
      go_wp2
      go_ret
      exact ⟨ao, cap, rfl, HO.out, HW.out⟩
set_option maxRecDepth 100000 in
theorem dlist_any (h : DKm C w a L) :
    Calls Try.prog 18 #[ptr a] w fun e w' => ∃ ao cap, e = .returned (.slice ao L.length cap) ∧ w'.ownsRow w.heap.size 37 4 (.slice ao L.length cap) L.length (cellsR L) ∧ Below w.heap.size w w' := by
  obtain ⟨m, h⟩ := h
  have c0 := h.c0
  have HA := Lib.hid (asc_any h.map h.rise h.may)
  clear h
  go_enter Try.func18, Try.ntmps18
  go_wp2_with (go_at_call 38; refine HA.out.mono ?_; rintro e w2 ⟨ao, cap, rfl, h1, h2⟩; have HO := Lib.hid h1; have HB := Lib.hid h2; clear h1 h2)
  go_ret
  exact ⟨ao, cap, rfl, HO.out, HB.out⟩
theorem dkt_new (w : World) : DKt (fun k => w.heap.size ≤ k ∧ k ≤ w.heap.size + 1) ((w.alloc (.map #[] 0)).alloc (.cells #[.map (some w.heap.size)] 72)) (w.heap.size + 1) [] w.heap.size := by
  refine ⟨?_, ?_, List.Pairwise.nil, (fun q h => by cases h), ⟨by omega, by omega⟩, ⟨by omega, by omega⟩, fun k hk => by simp; omega⟩
  · have := heap_alloc_new (w.alloc (.map #[] 0)) (.cells #[.map (some w.heap.size)] 72)
    simpa using this
  · exact MAt.below (World.ownsMap_made w Try.prog 3 rangeE) (below1 _ _)
set_option maxRecDepth 100000 in
theorem dnew_no (h : HasR P w v l) (hw : ∀ r ∈ l, r.wf) (hc : checkV l ≠ 0) : Calls Try.prog 9 #[v] w fun e w' => e = .returned (.tuple #[.pointer none, .int .i64 (checkV l)]) ∧ Below w.heap.size w w' := by
  have HC := Lib.hid (check_any h hw)
  obtain ⟨ao, cap, rfl, _⟩ := hasR_len h
  have hne : (checkV l != 0) = true := by simpa using hc
  clear h hw
  generalize checkV l = c at *
  go_enter Try.func9, Try.ntmps9
  go_wp2_with (go_at_call 28; refine HC.out.mono ?_; rintro e w1 ⟨rfl, hb⟩; have HB := Lib.hid hb; clear hb)
  go_ret2
  exact ⟨rfl, HB.out⟩
set_option maxRecDepth 100000 in
set_option maxHeartbeats 4000000 in
theorem dnew_yes (h : HasR P w v l) (hw : ∀ r ∈ l, r.wf) (hc : checkV l = 0) : Calls Try.prog 9 #[v] w fun e w' => ∃ a C, e = .returned (.tuple #[ptr a, .int .i64 0]) ∧ DKm C w' a (newL l) ∧ (∀ k, C k → w.heap.size ≤ k) ∧ Below w.heap.size w w' := by
  have HC := Lib.hid (check_any h hw)
  rw [hc] at HC
  have hmm := @run_makeMap Try.prog
  have HLN := fun (w1 : World) (hb : Below w.heap.size w w1) => Lib.hid (dlearnm_any ⟨_, dkt_new w1⟩ (P := fun k => P k ∧ k < w.heap.size) (v := v) (l := l) (by
    obtain ⟨ao, cap, e, h1, h2, h3, h4⟩ := h
    refine ⟨ao, cap, e, h1, h2, h3, ?_⟩
    rcases h4 with h4 | ⟨b, o, h4, h5, h6, h7⟩
    · exact .inl h4
    · have hb2 : Below w.heap.size w ((w1.alloc (.map #[] 0)).alloc (.cells #[.map (some w1.heap.size)] 72)) := hb.trans ((below2 w1 _ _).mono hb.size)
      exact .inr ⟨b, o, h4, ⟨h5, h6⟩, Nat.lt_of_lt_of_le h6 hb2.size, fun i hi => (h7 i hi).below hb2 h6⟩) (fun k hk hc => by have := hb.size; omega) hw (by have := check_small hc; simp; omega))
  simp only [learn_new hc] at HLN
  obtain ⟨ao, cap, rfl, hcp, hcm⟩ := hasR_len h
  clear h hw hc
  generalize newL l = NL at *
  generalize l.length = n at *
  go_enter Try.func9, Try.ntmps9
  go_wp2_with (first
    | (go_at_call 28; refine HC.out.mono ?_; rintro e w1 ⟨rfl, hb⟩; have HB := Lib.hid hb; clear hb)
    | (go_at_call 19; refine (HLN w1 HB.out).out.mono ?_; rintro e w2 ⟨rfl, hd, hwy⟩; have HD := Lib.hid hd; have HW := Lib.hid hwy; clear hd hwy))
  go_ret2
  refine ⟨_, _, rfl, HD.out, fun k hk => Nat.le_trans HB.out.size hk.1, ?_⟩
  have h2 := (below2 w1 (.map #[] 0) (.cells #[.map (some w1.heap.size)] 72))
  exact (HB.out.trans (h2.mono HB.out.size)).trans ((HW.out.tn.below (B := w1.heap.size) h2.size (fun k hk => hk.1)).mono HB.out.size)
end
end Go.Proofs.Ytfcdajkgopcmpaa
