/- A map of ranges listed by their numbers; New, List. Conditions: none of its own. slices.Reverse at ranges; Route. Conditions: none of its own. The directory in memory: what its calls answer and leave. Conditions: none of its own. racelaw14.first. Conditions: none. -/
import Derived.Test.YtfcdajkgopcmpaaJDo
import Derived.Test.YtfcdajkgopcmpaaJDj
import Derived.Test.YtfcdajkgopcmpaaJDe
import Derived.Test.YtfcdajkgopcmpaaJCo
import Derived.Test.YtfcdajkgopcmpaaJE
namespace Go.Proofs.Ytfcdajkgopcmpaa
open Go.ChangeShapes Go.WideShapes Go.ChangeAt Go.RowKit Go.Deep Go.Maps Go.Sort Go.Shelf
theorem may_len {L : List RV} (h : Rise L) (hm : ∀ q ∈ L, mayV q = true) : L.length ≤ 12 := by
  have key : ∀ (L : List RV) (lo : Int), Rise L → (∀ q ∈ L, lo < q.i ∧ q.i ≤ 12) → (L.length : Int) ≤ 12 - lo ∨ L = [] := by
    intro L
    induction L with
    | nil => intro lo _ _; exact .inr rfl
    | cons r L ih =>
      intro lo hr hq
      have h1 := hq r List.mem_cons_self
      have h2 := List.pairwise_cons.1 hr
      rcases ih r.i h2.2 (fun q hq2 => ⟨h2.1 q hq2, (hq q (List.mem_cons_of_mem _ hq2)).2⟩) with h | h
      · left; rw [List.length_cons]; omega
      · left; subst h; simp; omega
  rcases key L 0 h (fun q hq => by obtain ⟨_, _, _, h1, h2, _⟩ := may_pts (hm q hq); omega) with h | h
  · omega
  · subst h; simp
theorem id_wide {r : RV} (h : mayV r = true) : -9223372036854775808 ≤ r.i ∧ r.i < 9223372036854775808 := by
  obtain ⟨_, _, _, h1, h2, _⟩ := may_pts h; omega
section
variable {C S P : Nat → Prop} {w w' : World} {a m : Nat} {L l : List RV} {v : Value}
theorem MAt.below {w w' : World} {m : Nat} {L : List RV} (h : MAt w m L) (hb : Below w.heap.size w w') : MAt w' m L := h.tn (Tn.of_below (S := fun _ => False) hb) (fun e => e)
theorem MAt.find {w : World} {m : Nat} {L : List RV} (h : MAt w m L) {k : Int} (hk : -9223372036854775808 ≤ k ∧ k < 9223372036854775808) :
    (Instr.lookup 70 (.map (some m)) (.int .i64 k) false).run Try.prog w = .ok (ragg ((getL L k).getD RV.zero)) w := by
  obtain ⟨v, ps, hrun, hv⟩ := World.ownsMap.lookup h law_int under_map (zero_range w) (zd := rdat RV.zero) (zp := []) rfl (key_int hk)
  rw [atKey_dmap] at hv
  cases hg : getL L k with
  | none => rw [hg] at hv; rw [rangeE_inv hv] at hrun; exact hrun
  | some r => rw [hg] at hv; rw [rangeE_inv hv] at hrun; exact hrun
theorem keys_row {w : World} {B : Nat} {v : Value} {xs : List Int} (h : w.ownsRow B 3 1 v xs.length (xs.map encZ)) {k : Nat} (hk : k < xs.length) : ∃ g cap, v = .slice (some ⟨g, 0, none⟩) xs.length cap ∧ w.cell? ⟨g, k, none⟩ = some (.int .i64 xs[k]) := by
  obtain ⟨g, cap, rfl⟩ := own_shape h (by omega)
  refine ⟨g, cap, rfl, ?_⟩
  have := h.cells (g := g) rfl k (encZ xs[k]) (by simp [hk])
  rw [Addr.add_lit] at this
  simpa using this
/-- slices.Sorted(maps.Keys(m)). -/
theorem sorted_any (h : MAt w m L) (hr : Rise L) (h12 : L.length ≤ 12) :
    Calls Try.prog 49 #[.func (.func 62) #[] #[.pointer (some ⟨w.heap.size, 0, none⟩)]] (w.alloc (.cells #[.map (some m)] 70)) fun e w' =>
      ∃ kao kcap, e = .returned (.slice kao L.length kcap) ∧ w'.ownsRow (w.heap.size + 1) 3 1 (.slice kao L.length kcap) (L.map (·.i)).length ((L.map (·.i)).map encZ) ∧ Below w.heap.size w w' := by
  refine ((callsIn_wide (n := 5)).1 (sorted_keysI m _ _ rangeE w h (by rw [size_dmap]; unfold maxLen; omega) (by rw [size_dmap]; omega))).mono ?_
  rintro e w3 ⟨u, ss, rfl, hS, hrow, _, hb⟩
  rw [keys_dmap] at hS
  rw [sort_ids hr hS, hS.length_eq] at hrow
  obtain ⟨kao, kcap, rfl⟩ := own_slice hrow
  rw [List.length_map] at hrow ⊢
  refine ⟨kao, kcap, rfl, ?_, ((Below.refl _ w).alloc (Nat.le_refl _) _).trans (hb.mono (by simp))⟩
  simpa using hrow
set_option maxRecDepth 100000 in
set_option maxHeartbeats 4000000 in
theorem asc_any (h : MAt w m L) (hr : Rise L) (hm : ∀ q ∈ L, mayV q = true) :
    Calls Try.prog 38 #[.map (some m)] w fun e w' => ∃ ao cap, e = .returned (.slice ao L.length cap) ∧ w'.ownsRow w.heap.size 37 4 (.slice ao L.length cap) L.length (cellsR L) ∧ Below w.heap.size w w' := by
  obtain ⟨i0, hi, hz0, hz1, hz2⟩ := info34s
  have h12 := may_len hr hm
  have HM := Lib.hid h
  have HRS := Lib.hid hr
  have HMY := Lib.hid hm
  have hln := World.ownsMap.len h under_map
  rw [size_dmap] at hln
  obtain ⟨n, hn⟩ : ∃ n, L.length = n := ⟨_, rfl⟩
  have HN := Lib.hid hn
  have HSRT0 := fun ww (hh : MAt ww m L) => sorted_any hh hr h12
  rw [hn] at hln h12 HSRT0 ⊢
  have HMK := fun ww : World => Lib.hid (run_make_own ww ww.heap.size 22 37 i0 _ 4 Try.underlying22 hi hz0 hz1 .i64 .i64 n (by rw [hz2]; omega) (by unfold maxLen; omega) (Nat.le_refl _))
  obtain ⟨w1, hmk, ho1, hg1⟩ := (HMK w).out
  have HO1 := Lib.hid ho1
  have HB1 : Hid (Below w.heap.size w w1) := Lib.hid ((Below.refl _ w).grown hg1 (Nat.le_refl _) (fun k hk => by cases hk))
  have HSRT := Lib.hid (HSRT0 w1 (HM.out.below HB1.out))
  have HMT : Hid (m < w.heap.size) := Lib.hid h.lt
  clear h hr hm hn ho1 hg1 HMK HSRT0
  go_enter Try.func38, Try.ntmps38
  go_wp2_with (first
    | (go_at_call 51; refine ((callsIn_wide (n := 5)).1 (maps_keysI _ _)).mono ?_; rintro e w2 ⟨rfl, rfl⟩)
    | (go_at_call 49; refine HSRT.out.mono ?_; rintro e w3 ⟨kao, kcap, rfl, hrow, hb⟩; have HKR := Lib.hid hrow; have HB2 := Lib.hid hb; clear hrow hb))
  go_loopw [3, 13] (fun vs vi wr => ∃ k : Nat, vi = .int .i64 k ∧ k ≤ n ∧ Hid (wr.ownsRow w.heap.size 37 4 vs k (cellsR (L.take k))) ∧ Hid (MAt wr m L) ∧ Hid (wr.ownsRow (w1.heap.size + 1) 3 1 (.slice kao n kcap) (L.map (·.i)).length ((L.map (·.i)).map encZ)) ∧ Hid (Below w.heap.size w wr)) (fun _ vi _ => n - (RowKit.intOf vi).toNat)
  case atStart =>
    refine ⟨0, rfl, Nat.zero_le _, Lib.hid ?_, Lib.hid ((HM.out.below HB1.out).below HB2.out), HKR, Lib.hid (HB1.out.trans (HB2.out.mono HB1.out.size))⟩
    exact own_mono (own_below HO1.out HB2.out) (Nat.le_refl _)
  case round =>
    obtain ⟨k, rfl, hk, HO, HMr, HKr, HW⟩ := hrel
    by_cases hlt : k < n
    · have hlt2 : (k : Int) < (n : Int) := by omega
      have hkl : k < L.length := by rw [HN.out]; exact hlt
      obtain ⟨g, cap, e9, hkc⟩ := keys_row HKr.out (k := k) (by rw [List.length_map]; exact hkl)
      rw [List.getElem_map] at hkc
      simp only [Value.slice.injEq] at e9
      obtain ⟨rfl, h9, rfl⟩ := e9
      clear h9
      have hfd := HMr.out.find (id_wide (HMY.out _ (List.getElem_mem hkl)))
      rw [getL_mem HRS.out (List.getElem_mem hkl)] at hfd
      have HT : Hid (L.take (k + 1) = L.take k ++ [L[k]]) := Lib.hid (List.take_succ_eq_append_getElem hkl)
      have hs := HW.out.size
      simp only [Option.getD_some] at hfd
      obtain ⟨q, hq⟩ : ∃ q, L[k] = q := ⟨_, rfl⟩
      rw [hq] at hfd hkc HT
      clear hkl hq
      obtain ⟨q1, q2, q3, q4⟩ := q
      simp only at hfd hkc
      go_wp2_with (first
        | (at_builtin; refine wpList_append_own _ rfl (.tmp 17) (.tmp 21) 22 rfl w.heap.size 37 i0 _ 4 32 Try.underlying22 hi hz0 hz1 hz2 rfl (by decide) _ k _ rfl (HO.out.alloc _) ⟨wr.heap.size, 0, none⟩ 1 1 (cellsR [⟨q1, q2, q3, q4⟩]) rfl rfl (news_lit wr ⟨q1, q2, q3, q4⟩) (cellsR_one _) (by unfold maxLen; omega) (by omega) (by simp; omega) ?_; intro v2 w2 hown hg _; have HO2 := Lib.hid hown; have HG2 := Lib.hid hg; clear hown hg))
      have HT2 : Hid (Tn (fun b => u3.ownBlock = some b) wr w2) := Lib.hid (((Tn.refl _ wr).alloc _).grown HG2.out (fun k hk _ => hk))
      have HM2 : Hid (MAt w2 m L) := Lib.hid (HMr.out.tn HT2.out (fun e => by have := (HO.out.lt m e).1; have := HMT.out; omega))
      have HK2 := Lib.hid (own_tn HKr.out HT2.out (own_apart HKr.out HO.out (by decide)))
      have HW2 : Hid (Below w.heap.size w w2) := Lib.hid ((HW.out.alloc hs _).grown HG2.out (by simp; omega) (fun k hk => (HO.out.lt k hk).1))
      go_roundw
      case rel => exact ⟨k + 1, by go_num, by omega, by rw [HT.out, cells_snoc]; exact HO2, HM2, HK2, HW2⟩
      case measure => simp [RowKit.intOf]; omega
    · obtain rfl : k = n := by omega
      have e : L.take k = L := List.take_of_length_le (by rw [HN.out]; exact Nat.le_refl _)
      rw [e] at HO
      obtain ⟨ao, cap, rfl⟩ := own_slice HO.out
      go_wp2
      go_ret
      exact ⟨ao, cap, rfl, HO.out, HW.out⟩
set_option maxRecDepth 100000 in
theorem dlist_any (h : DKm C w a L) :
    Calls Try.prog 18 #[ptr a] w fun e w' => ∃ ao cap, e = .returned (.slice ao L.length cap) ∧ w'.ownsRow w.heap.size 37 4 (.slice ao L.length cap) L.length (cellsR L) ∧ Below w.heap.size w w' := by
  obtain ⟨m, h⟩ := h
  have c0 := h.c0
  have HA := Lib.hid (asc_any h.map h.rise h.may)
  clear h
  go_enter Try.func18, Try.ntmps18
  go_wp2_with (go_at_call 38; refine HA.out.mono ?_; rintro e w2 ⟨ao, cap, rfl, h1, h2⟩; have HO := Lib.hid h1; have HB := Lib.hid h2; clear h1 h2)
  go_ret
  exact ⟨ao, cap, rfl, HO.out, HB.out⟩
theorem dkt_new (w : World) : DKt (fun k => w.heap.size ≤ k ∧ k ≤ w.heap.size + 1) ((w.alloc (.map #[] 0)).alloc (.cells #[.map (some w.heap.size)] 72)) (w.heap.size + 1) [] w.heap.size := by
  refine ⟨?_, ?_, List.Pairwise.nil, (fun q h => by cases h), ⟨by omega, by omega⟩, ⟨by omega, by omega⟩, fun k hk => by simp; omega⟩
  · have := heap_alloc_new (w.alloc (.map #[] 0)) (.cells #[.map (some w.heap.size)] 72)
    simpa using this
  · exact MAt.below (World.ownsMap_made w Try.prog 3 rangeE) (below1 _ _)
set_option maxRecDepth 100000 in
theorem dnew_no (h : HasR P w v l) (hw : ∀ r ∈ l, r.wf) (hc : checkV l ≠ 0) : Calls Try.prog 9 #[v] w fun e w' => e = .returned (.tuple #[.pointer none, .int .i64 (checkV l)]) ∧ Below w.heap.size w w' := by
  have HC := Lib.hid (check_any h hw)
  obtain ⟨ao, cap, rfl, _⟩ := hasR_len h
  have hne : (checkV l != 0) = true := by simpa using hc
  clear h hw
  generalize checkV l = c at *
  go_enter Try.func9, Try.ntmps9
  go_wp2_with (go_at_call 28; refine HC.out.mono ?_; rintro e w1 ⟨rfl, hb⟩; have HB := Lib.hid hb; clear hb)
  go_ret2
  exact ⟨rfl, HB.out⟩
set_option maxRecDepth 100000 in
set_option maxHeartbeats 4000000 in
theorem dnew_yes (h : HasR P w v l) (hw : ∀ r ∈ l, r.wf) (hc : checkV l = 0) : Calls Try.prog 9 #[v] w fun e w' => ∃ a C, e = .returned (.tuple #[ptr a, .int .i64 0]) ∧ DKm C w' a (newL l) ∧ (∀ k, C k → w.heap.size ≤ k) ∧ Below w.heap.size w w' := by
  have HC := Lib.hid (check_any h hw)
  rw [hc] at HC
  have hmm := @run_makeMap Try.prog
  have HLN := fun (w1 : World) (hb : Below w.heap.size w w1) => Lib.hid (dlearnm_any ⟨_, dkt_new w1⟩ (P := fun k => P k ∧ k < w.heap.size) (v := v) (l := l) (by
    obtain ⟨ao, cap, e, h1, h2, h3, h4⟩ := h
    refine ⟨ao, cap, e, h1, h2, h3, ?_⟩
    rcases h4 with h4 | ⟨b, o, h4, h5, h6, h7⟩
    · exact .inl h4
    · have hb2 : Below w.heap.size w ((w1.alloc (.map #[] 0)).alloc (.cells #[.map (some w1.heap.size)] 72)) := hb.trans ((below2 w1 _ _).mono hb.size)
      exact .inr ⟨b, o, h4, ⟨h5, h6⟩, Nat.lt_of_lt_of_le h6 hb2.size, fun i hi => (h7 i hi).below hb2 h6⟩) (fun k hk hc => by have := hb.size; omega) hw (by have := check_small hc; simp; omega))
  simp only [learn_new hc] at HLN
  obtain ⟨ao, cap, rfl, hcp, hcm⟩ := hasR_len h
  clear h hw hc
  generalize newL l = NL at *
  generalize l.length = n at *
  go_enter Try.func9, Try.ntmps9
  go_wp2_with (first
    | (go_at_call 28; refine HC.out.mono ?_; rintro e w1 ⟨rfl, hb⟩; have HB := Lib.hid hb; clear hb)
    | (go_at_call 19; refine (HLN w1 HB.out).out.mono ?_; rintro e w2 ⟨rfl, hd, hwy⟩; have HD := Lib.hid hd; have HW := Lib.hid hwy; clear hd hwy))
  go_ret2
  refine ⟨_, _, rfl, HD.out, fun k hk => Nat.le_trans HB.out.size hk.1, ?_⟩
  have h2 := (below2 w1 (.map #[] 0) (.cells #[.map (some w1.heap.size)] 72))
  exact (HB.out.trans (h2.mono HB.out.size)).trans ((HW.out.tn.below (B := w1.heap.size) h2.size (fun k hk => hk.1)).mono HB.out.size)
end
end Go.Proofs.Ytfcdajkgopcmpaa
namespace Go.Proofs.Ytfcdajkgopcmpaa
open Go.ChangeShapes Go.WideShapes Go.ChangeAt Go.RowKit Go.Deep
structure Rv (M X : List RV) (k : Nat) : Prop where
  len : X.length = M.length
  val : ∀ p, p < M.length → X.getD p RV.zero = if p < k ∨ M.length ≤ p + k then M.getD (M.length - 1 - p) RV.zero else M.getD p RV.zero
theorem getD_set9 (X : List RV) (i p : Nat) (a : RV) (hi : i < X.length) : (X.set i a).getD p RV.zero = if p = i then a else X.getD p RV.zero := by
  simp only [List.getD_eq_getElem?_getD, List.getElem?_set]
  by_cases h : p = i
  · subst h; simp [hi]
  · rw [if_neg h, if_neg (fun e => h e.symm)]
theorem Rv.zero (M : List RV) : Rv M M 0 := ⟨rfl, fun p hp => by rw [if_neg (by omega)]⟩
theorem Rv.step {M X : List RV} {k : Nat} (h : Rv M X k) (hk : 2 * k + 1 < M.length) {a b : RV} (ha : X.getD k RV.zero = a) (hb : X.getD (M.length - 1 - k) RV.zero = b) : Rv M ((X.set k b).set (M.length - 1 - k) a) (k + 1) := by
  refine ⟨by rw [List.length_set, List.length_set]; exact h.len, fun p hp => ?_⟩
  have hl := h.len
  rw [getD_set9 _ _ _ _ (by rw [List.length_set]; omega), getD_set9 _ _ _ _ (by omega)]
  have h1 := h.val k (by omega)
  have h2 := h.val (M.length - 1 - k) (by omega)
  rw [if_neg (by omega)] at h1 h2
  rw [← ha, ← hb, h1, h2]
  by_cases e1 : p = M.length - 1 - k
  · rw [if_pos e1, if_pos (by omega), e1, show M.length - 1 - (M.length - 1 - k) = k by omega]
  · rw [if_neg e1]
    by_cases e2 : p = k
    · rw [if_pos e2, if_pos (by omega), e2]
    · rw [if_neg e2, h.val p hp]
      by_cases e3 : p < k ∨ M.length ≤ p + k
      · rw [if_pos e3, if_pos (by omega)]
      · rw [if_neg e3, if_neg (by omega)]
theorem Rv.all {M X : List RV} {k : Nat} (h : Rv M X k) (hk : ¬ 2 * k + 1 < M.length) : X = M.reverse := by
  refine List.ext_getElem (by rw [h.len, List.length_reverse]) fun p h1 h2 => ?_
  have hp : p < M.length := by rw [← h.len]; exact h1
  have e := h.val p hp
  rw [List.getElem_reverse]
  rw [getD_in h1] at e
  rw [e]
  split
  · rw [getD_in (by omega)]
  · rw [getD_in hp]
    congr 1
    omega
section
variable {C S P : Nat → Prop} {w w' : World} {a m : Nat} {L l : List RV} {v : Value}
set_option maxRecDepth 100000 in
set_option maxHeartbeats 4000000 in
theorem reverse_any {B n cap : Nat} {ao : Option Addr} {M : List RV} (h : w.ownsRow B 37 4 (.slice ao n cap) n (cellsR M)) (hn : M.length = n) (h12 : n ≤ 12) (hB : B ≤ w.heap.size) :
    Calls Try.prog 31 #[.slice ao n cap] w fun e w' => e = .returned (.tuple #[]) ∧ w'.ownsRow B 37 4 (.slice ao n cap) n (cellsR M.reverse) ∧ Below B w w' := by
  have hst := run_stf
  have H := Lib.hid h
  have HN := Lib.hid hn
  have hBB := Lib.hid hB
  clear h hn hB
  go_enter Try.func31, Try.ntmps31
  go_wp2
  go_loopw [2, 3] (fun vi vj wr => ∃ (k : Nat) (X : List RV), vi = .int .i64 k ∧ vj = .int .i64 ((n : Int) - 1 - k) ∧ k ≤ n ∧ Hid (Rv M X k) ∧ Hid (wr.ownsRow B 37 4 (.slice ao n cap) n (cellsR X)) ∧ Hid (Below B w wr)) (fun vi _ _ => n - (RowKit.intOf vi).toNat)
  case atStart => exact ⟨0, M, rfl, by simp, Nat.zero_le _, Rv.zero M, H, Below.refl _ _⟩
  case round =>
    obtain ⟨k, X, rfl, rfl, hk, HRV, HO, HW⟩ := hrel
    by_cases hlt : 2 * k + 1 < n
    · have hlt2 : (k : Int) < (n : Int) - 1 - k := by omega
      obtain ⟨g, cap2, e9⟩ := own_shape HO.out (by omega)
      simp only [Value.slice.injEq, true_and] at e9
      obtain ⟨rfl, rfl⟩ := e9
      have hXL : X.length = n := by rw [HRV.out.len]; exact HN.out
      have HXL := Lib.hid hXL
      have HST := Lib.hid (fun a b => HRV.out.step (a := a) (b := b) (by rw [HN.out]; exact hlt))
      rw [HN.out] at HST
      obtain ⟨A, hA⟩ : ∃ A, X.getD k RV.zero = A := ⟨_, rfl⟩
      obtain ⟨D, hD⟩ : ∃ D, X.getD (n - 1 - k) RV.zero = D := ⟨_, rfl⟩
      have HST2 := Lib.hid (HST.out A D hA hD)
      have oA := own_at HO.out (by omega) hA
      have oD := own_at HO.out (by omega) hD
      have hJ : (n : Int) - 1 - k = ((n - 1 - k : Nat) : Int) := by omega
      rw [hJ] at hlt2 ⊢
      have HS1 := (own_set HO.out (j := k) (by omega) D)
      have HS2 := Lib.hid ((own_set HS1.1 (j := n - 1 - k) (by rw [List.length_set]; omega) A).1)
      have HWS := Lib.hid (below_setR (below_setR HW.out (HO.out.lt g rfl).1 (k * 4) D) (HO.out.lt g rfl).1 ((n - 1 - k) * 4) A)
      have hne : k ≠ n - 1 - k := by omega
      have hkn : k < n := by omega
      have hJn : n - 1 - k < n := by omega
      clear hXL hA hD HS1 HST
      generalize n - 1 - k = J at *
      obtain ⟨a1, a2, a3, a4⟩ := A
      obtain ⟨d1, d2, d3, d4⟩ := D
      obtain ⟨a0, b0, c0, e0, f0, g0, h0, i0⟩ := oA
      obtain ⟨a5, b5, c5, e5, f5, g5, h5, i5⟩ := oD
      simp only at a0 b0 c0 e0 a5 b5 c5 e5
      go_wp2
      go_region
      dsimp only [setR] at HS2 HWS
      generalize ((((((((wr.setCell ⟨g, k * 4, none⟩ (.int .i64 d1)).setCell ⟨g, k * 4 + 1, none⟩ (.int .i64 d2)).setCell ⟨g, k * 4 + 2, none⟩ (.float .f64 d3)).setCell ⟨g, k * 4 + 3, none⟩ (.float .f64 d4)).setCell ⟨g, J * 4, none⟩ (.int .i64 a1)).setCell ⟨g, J * 4 + 1, none⟩ (.int .i64 a2)).setCell ⟨g, J * 4 + 2, none⟩ (.float .f64 a3)).setCell ⟨g, J * 4 + 3, none⟩ (.float .f64 a4)) = w2 at *
      have HS3 : Hid (w2.drew.ownsRow B 37 4 (.slice (some ⟨g, 0, none⟩) n cap) n (cellsR ((X.set k ⟨d1, d2, d3, d4⟩).set J ⟨a1, a2, a3, a4⟩))) := Lib.hid HS2.out
      have HW3 := Lib.hid HWS.out.drew
      have HJ9 : Hid ((J : Int) - 1 = (n : Int) - 1 - ((k + 1 : Nat) : Int)) := Lib.hid (by omega)
      go_wp2
      rw [HJ9.out]
      go_roundw
      case rel => exact ⟨k + 1, _, by go_num, rfl, by omega, HST2, HS3, HW3⟩
      case measure => simp [RowKit.intOf]; omega
    · have hlt2 : ¬ (k : Int) < (n : Int) - 1 - k := by omega
      have e := HRV.out.all (by rw [HN.out]; exact hlt)
      subst e
      go_wp2
      go_end0
      exact ⟨rfl, HO.out, HW.out⟩
theorem key_list (s : List UInt8) (w : World) : Calls Try.prog 30 #[.string ⟨s.toArray⟩] w fun e w' => e = .returned (.bool (keyB ⟨s.toArray⟩)) ∧ w = w' := by
  have e0 : keyB ⟨s.toArray⟩ = (decide (1 ≤ s.length) && decide (s.length ≤ 24)) := rfl
  cases hs : s == []
  · have h1 : 1 ≤ s.length := by
      cases s with
      | nil => simp at hs
      | cons => simp
    have e : keyB ⟨s.toArray⟩ = decide ((s.length : Int) ≤ 24) := by
      rw [e0, decide_eq_true h1, Bool.true_and]
      by_cases h : s.length ≤ 24
      · rw [decide_eq_true h, decide_eq_true (by omega)]
      · rw [decide_eq_false h, decide_eq_false (by omega)]
    rw [e]
    have h2 : (s != []) = true := by simp [bne, hs]
    clear e e0
    go_enter Try.func30, Try.ntmps30
    go_wp2
    go_ret
    exact ⟨rfl, rfl⟩
  · have h0 : s = [] := by simpa using hs
    subst h0
    clear e0
    go_enter Try.func30, Try.ntmps30
    go_wp2
    go_ret
    exact ⟨rfl, rfl⟩
theorem key_any (s : ByteArray) (w : World) : Calls Try.prog 30 #[.string s] w fun e w' => e = .returned (.bool (keyB s)) ∧ w = w' := key_list s.data.toList w
theorem route_yes {L : List RV} {s : ByteArray} (h : keyB s = true) : routeL L s = findV L.reverse (ofH s.data.toList) := by
  unfold routeL
  rw [if_pos h, find_rev]
set_option maxRecDepth 100000 in
set_option maxHeartbeats 4000000 in
theorem droute_any (h : DKm C w a L) (s : ByteArray) (hs : s.size ≤ 9223372036854775807) :
    Calls Try.prog 12 #[ptr a, .string s] w fun e w' => e = .returned (.tuple #[ragg (routeL L s).1, .bool (routeL L s).2]) ∧ Below w.heap.size w w' := by
  have hst := run_stf
  have HCK := fun w => Lib.hid (key_any s w)
  have HP := Lib.hid (at_new w RV.zero)
  have HW := Lib.hid (below1 w (robj RV.zero))
  have h12 : L.length ≤ 12 := by obtain ⟨m, h⟩ := h; exact may_len h.rise h.may
  have HL := Lib.hid (dlist_any (show DKm C (w.alloc (robj RV.zero)) a L from by obtain ⟨m, h⟩ := h; exact ⟨m, h.below HW.out⟩))
  obtain ⟨n, hn⟩ : ∃ n, L.length = n := ⟨_, rfl⟩
  have HN := Lib.hid hn
  rw [hn] at HL h12
  clear h hn
  dsimp only [robj, RV.zero] at HL HW HP
  cases hkb : keyB s with
  | false =>
    have HRT : Hid (routeL L s = (RV.zero, false)) := Lib.hid (by unfold routeL; rw [hkb]; rfl)
    simp only [hkb] at HCK
    rw [HRT.out]
    clear hkb HRT HL
    have f0 := HP.out.f0; have f1 := HP.out.f1; have f2 := HP.out.f2; have f3 := HP.out.f3
    have y0 := HP.out.c0; have y1 := HP.out.c1; have y2 := HP.out.c2; have y3 := HP.out.c3
    go_enter Try.func12, Try.ntmps12
    go_wp2_with (go_at_call 30; refine (HCK _).out.mono ?_; rintro e w3 ⟨rfl, rfl⟩)
    exact bodyPost_ret (res_two rfl _ rfl HP.out) rfl ⟨rfl, HW.out⟩
  | true =>
    have HOF := fun w => Lib.hid (of_any s hs w)
    rw [route_yes hkb]
    simp only [hkb] at HCK
    clear hkb
    generalize ofH s.data.toList = X at *
    go_enter Try.func12, Try.ntmps12
    go_wp2_with (first
      | (go_at_call 30; refine (HCK _).out.mono ?_; rintro e w3 ⟨rfl, rfl⟩)
      | (go_at_call 18; refine HL.out.mono ?_; rintro e w4 ⟨ao, cap, rfl, h1, h2⟩; have HO4 := Lib.hid h1; have HB4 := Lib.hid h2; have HW4 := Lib.hid (HW.out.trans (h2.mono HW.out.size)); have HP4 := Lib.hid (HP.out.below h2 HP.out.lt); clear h1 h2)
      | (go_at_call 31; refine (reverse_any HO4.out HN.out h12 HB4.out.size).mono ?_; rintro e w5 ⟨rfl, h1, h2⟩; have HO5 := Lib.hid h1; have HW5 := Lib.hid (HW4.out.trans (h2.mono HW.out.size)); have HP5 := Lib.hid (HP4.out.below h2 HP.out.lt); clear h1 h2)
      | (go_at_call 33; refine (HOF _).out.mono ?_; rintro e w6 ⟨rfl, rfl⟩)
      | (go_at_call 32; refine (find_any X (own_ranges (l := L.reverse) (by rw [List.length_reverse, HN.out]; exact HO5.out)) (by rw [List.length_reverse, HN.out]; omega)).mono ?_; rintro e w7 ⟨rfl, h2⟩; have HW7 := Lib.hid (HW5.out.trans (h2.mono HW5.out.size)); have HP7 := Lib.hid (HP5.out.below h2 HP5.out.lt); have f0 := HP7.out.f0; have f1 := HP7.out.f1; have f2 := HP7.out.f2; have f3 := HP7.out.f3; have y0 := HP7.out.c0; have y1 := HP7.out.c1; have y2 := HP7.out.c2; have y3 := HP7.out.c3; clear h2)
      | fail)
    exact bodyPost_ret (res_two rfl _ rfl (HP7.out.setAll (findV L.reverse X).1)) rfl ⟨rfl, below_set4 HW7.out (Nat.le_refl _) (findV L.reverse X).1⟩
end
end Go.Proofs.Ytfcdajkgopcmpaa
namespace Go.Proofs.Ytfcdajkgopcmpaa
open Go.ChangeShapes Go.WideShapes Go.ChangeAt Go.RowKit Go.Deep
section
variable {C S P : Nat → Prop} {w w' : World} {a : Nat} {L l : List RV} {v : Value}
theorem DKm.tn (h : DKm C w a L) (ht : Tn S w w') (hd : ∀ k, C k → ¬ S k) : DKm C w' a L := let ⟨m, h⟩ := h; ⟨m, h.tn ht hd⟩
theorem DKm.below (h : DKm C w a L) (hb : Below w.heap.size w w') : DKm C w' a L := h.tn (Tn.of_below (S := fun _ => False) hb) (fun _ _ e => e)
theorem DKm.lt (h : DKm C w a L) : ∀ k, C k → k < w.heap.size := let ⟨_, h⟩ := h; h.lt
theorem DKm.rise (h : DKm C w a L) : Rise L := let ⟨_, h⟩ := h; h.rise
theorem DKm.may (h : DKm C w a L) : ∀ q ∈ L, mayV q = true := let ⟨_, h⟩ := h; h.may
theorem DKm.ca (h : DKm C w a L) : C a := let ⟨_, h⟩ := h; h.ca
theorem DKm.few (h : DKm C w a L) : L.length ≤ 12 := may_len h.rise h.may
theorem dlearn_any (h : DKm C w a L) (hv : HasR P w v l) (hPC : ∀ k, P k → ¬ C k) (hw : ∀ r ∈ l, r.wf) (hl : L.length + l.length ≤ 1000000) :
    Calls Try.prog 19 #[ptr a, v] w fun e w' => e = .returned (.int .i64 ((learnL L l).2 : Nat)) ∧ ∃ C', DKm C' w' a (learnL L l).1 ∧ Way C w C' w' :=
  (dlearnm_any h hv hPC hw hl).mono fun _ _ ⟨h1, h2, h3⟩ => ⟨h1, C, h2, h3⟩
end
end Go.Proofs.Ytfcdajkgopcmpaa
namespace Go.Proofs.Ytfcdajkgopcmpaa
open Go.ChangeShapes Go.WideShapes Go.ChangeAt Go.RowKit Go.Deep
def ex1 : List RV := [⟨1, 0, 0, 4602678819172646912⟩, ⟨2, 0, 4602678819172646912, 4607182418800017408⟩]
def ex2 : List RV := [⟨1, 1, 0, 4598175219545276416⟩, ⟨3, 0, 4598175219545276416, 4602678819172646912⟩]
def ex3 : List RV := [⟨2, -1, 0, 4607182418800017408⟩]
def ex4 : List RV := [⟨1, 1, 0, 4598175219545276416⟩, ⟨2, 0, 4602678819172646912, 4607182418800017408⟩, ⟨3, 0, 4598175219545276416, 4602678819172646912⟩]
theorem ex_check : checkV ex1 = 0 := by decide +kernel
theorem ex_new : newL ex1 = ex1 := by kernel_rfl
theorem ex_learn : learnL ex1 ex2 = (ex4, 2) := by kernel_rfl
theorem ex_learn2 : learnL ex4 ex3 = (ex4, 0) := by kernel_rfl
theorem ex_none : routeL ex4 ⟨#[]⟩ = (RV.zero, false) := by kernel_rfl
theorem ex_k : routeL ex4 ⟨#[107]⟩ = (⟨1, 1, 0, 4598175219545276416⟩, true) := by kernel_rfl
theorem ex_wf : (∀ r ∈ ex1, r.wf) ∧ (∀ r ∈ ex2, r.wf) ∧ (∀ r ∈ ex3, r.wf) := by
  refine ⟨?_, ?_, ?_⟩ <;> intro r hr <;> simp [ex1, ex2, ex3] at hr
  · rcases hr with rfl | rfl <;> (unfold RV.wf; decide)
  · rcases hr with rfl | rfl <;> (unfold RV.wf; decide)
  · subst hr; unfold RV.wf; decide
abbrev robj2 (r q : RV) : Obj := .cells #[.int .i64 r.i, .int .i64 r.e, .float .f64 r.lo, .float .f64 r.hi, .int .i64 q.i, .int .i64 q.e, .float .f64 q.lo, .float .f64 q.hi] 37
theorem has_two (w : World) (r q : RV) : HasR (· = w.heap.size) (w.alloc (robj2 r q)) (.slice (some ⟨w.heap.size, 0, none⟩) 2 2) [r, q] := by
  refine ⟨_, 2, rfl, Nat.le_refl _, by decide, (fun e => by cases e), .inr ⟨w.heap.size, 0, rfl, rfl, by simp, fun i hi => ?_⟩⟩
  match i, hi with
  | 0, _ => exact ⟨by simp [World.cell?_alloc_new], by simp [World.cell?_alloc_new], by simp [World.cell?_alloc_new], by simp [World.cell?_alloc_new]⟩
  | 1, _ => exact ⟨by simp [World.cell?_alloc_new], by simp [World.cell?_alloc_new], by simp [World.cell?_alloc_new], by simp [World.cell?_alloc_new]⟩
  | i + 2, hi => exact absurd hi (by simp)
theorem has_one (w : World) (r : RV) : HasR (· = w.heap.size) (w.alloc (robj r)) (.slice (some ⟨w.heap.size, 0, none⟩) 1 1) [r] := by
  obtain ⟨x1, x2, x3, x4, x5, x6, x7⟩ := has_lit w r
  refine ⟨x1, x2, x3, x4, x5, x6, x7.imp_right fun ⟨y1, y2, y3, y4, y5, y6⟩ => ⟨y1, y2, y3, ?_, y5, y6⟩⟩
  injection x3 with e1 _ _
  rw [y3] at e1
  injection e1 with e1
  injection e1 with e1
  exact e1.symm
section
variable {w : World}
set_option maxRecDepth 100000 in
set_option maxHeartbeats 4000000 in
theorem first14_any (w : World) : Calls Try.prog 7 #[] w fun e w' => e = .returned (.bool true) ∧ Below w.heap.size w w' := by
  have hst := run_stf
  have HN := Lib.hid (dnew_yes (has_two w ⟨1, 0, 0, 4602678819172646912⟩ ⟨2, 0, 4602678819172646912, 4607182418800017408⟩) ex_wf.1 ex_check)
  simp only [show [(⟨1, 0, 0, 4602678819172646912⟩ : RV), ⟨2, 0, 4602678819172646912, 4607182418800017408⟩] = ex1 from rfl, ex_new] at HN
  have HB0 := Lib.hid (below1 w (robj2 ⟨1, 0, 0, 4602678819172646912⟩ ⟨2, 0, 4602678819172646912, 4607182418800017408⟩))
  have HL1 := fun w' C a (h : DKm C w' a ex1) => Lib.hid (dlearn_any (h.below (below1 w' (robj2 ⟨1, 1, 0, 4598175219545276416⟩ ⟨3, 0, 4598175219545276416, 4602678819172646912⟩))) (has_two w' ⟨1, 1, 0, 4598175219545276416⟩ ⟨3, 0, 4598175219545276416, 4602678819172646912⟩) (fun k e hc => by have := h.lt k hc; omega) ex_wf.2.1 (by decide))
  simp only [show [(⟨1, 1, 0, 4598175219545276416⟩ : RV), ⟨3, 0, 4598175219545276416, 4602678819172646912⟩] = ex2 from rfl, ex_learn] at HL1
  dsimp only [robj2] at HL1 HN
  have HL2 := fun w' C a (h : DKm C w' a ex4) => Lib.hid (dlearn_any (h.below (below1 w' (robj ⟨2, -1, 0, 4607182418800017408⟩))) (has_one w' ⟨2, -1, 0, 4607182418800017408⟩) (fun k e hc => by have := h.lt k hc; omega) ex_wf.2.2 (by decide))
  simp only [show [(⟨2, -1, 0, 4607182418800017408⟩ : RV)] = ex3 from rfl, ex_learn2] at HL2
  dsimp only [robj] at HL2
  have HR1 := fun w' C a (h : DKm C w' a ex4) => Lib.hid (droute_any h ⟨#[]⟩ (by decide))
  simp only [ex_none] at HR1
  have HR2 := fun w' C a (h : DKm C w' a ex4) => Lib.hid (droute_any h ⟨#[107]⟩ (by decide))
  simp only [ex_k] at HR2
  have HLS := fun w' C a (h : DKm C w' a ex4) => Lib.hid (dlist_any h)
  simp only [show ex4.length = 3 from rfl] at HLS
  go_enter Try.func7, Try.ntmps7
  go_wp2_with (first
    | (go_at_call 9; refine HN.out.mono ?_; rintro e w1 ⟨a, C1, rfl, hd, hc, hb⟩; have HD := Lib.hid hd; have HC : Hid (∀ k, C1 k → w.heap.size ≤ k) := Lib.hid (fun k hk => Nat.le_trans HB0.out.size (hc k hk)); have HB := Lib.hid (HB0.out.trans (hb.mono HB0.out.size)); clear hd hc hb)
    | (go_at_call 19; first
      | (with_reducible refine (HL1 w1 _ _ HD.out).out.mono ?_; rintro e w2 ⟨rfl, C2, hd, hw⟩; have hb := HB.out.alloc HB.out.size (robj2 ⟨1, 1, 0, 4598175219545276416⟩ ⟨3, 0, 4598175219545276416, 4602678819172646912⟩); have HB := Lib.hid (hb.trans (hw.tn.below hb.size HC.out)); have HC : Hid (∀ k, C2 k → w.heap.size ≤ k) := Lib.hid (fun k hk => by rcases hw.new k hk with h | h; exact HC.out k h; exact Nat.le_trans hb.size h.1); have HD := Lib.hid hd; clear hd hw hb)
      | (with_reducible refine (HL2 w2 _ _ HD.out).out.mono ?_; rintro e w3 ⟨rfl, C3, hd, hw⟩; have hb := HB.out.alloc HB.out.size (robj ⟨2, -1, 0, 4607182418800017408⟩); have HB := Lib.hid (hb.trans (hw.tn.below hb.size HC.out)); have HD := Lib.hid hd; clear hd hw hb))
    | (go_at_call 12; first
      | (with_reducible refine (HR1 w3 _ _ HD.out).out.mono ?_; rintro e w4 ⟨rfl, hb⟩; have HD := Lib.hid ((HD.out.below hb).below (below1 _ (robj RV.zero))); have HB := Lib.hid ((HB.out.trans (hb.mono HB.out.size)).alloc (Nat.le_trans HB.out.size hb.size) (robj RV.zero)); clear hb)
      | (with_reducible refine (HR2 _ _ _ HD.out).out.mono ?_; rintro e w5 ⟨rfl, hb⟩; have HD := Lib.hid ((HD.out.below hb).below (below1 _ (robj ⟨1, 1, 0, 4598175219545276416⟩))); have HB := Lib.hid ((HB.out.trans (hb.mono HB.out.size)).alloc (Nat.le_trans HB.out.size hb.size) (robj ⟨1, 1, 0, 4598175219545276416⟩)); clear hb))
    | (go_at_call 18; refine (HLS _ _ _ HD.out).out.mono ?_; rintro e w6 ⟨lo, lc, rfl, _, hb⟩; have HB := Lib.hid (HB.out.trans (hb.mono HB.out.size)); clear hb)
    | fail)
  go_ret
  exact ⟨rfl, HB.out⟩
end
end Go.Proofs.Ytfcdajkgopcmpaa
