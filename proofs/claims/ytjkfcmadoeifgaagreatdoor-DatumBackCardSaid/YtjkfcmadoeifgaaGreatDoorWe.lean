/- Package wire in memory (W1, W2, W3, W4): ported. Conditions: those of each law. -/
import Derived.Test.YtjkfcmadoeifgaaGreatDoorWd
import Derived.OwnWalk
import Derived.Lib.AppendStr
import Derived.Laws.AppendOwnNone
import Derived.Deep.RegionLaw
import Derived.Lib.SliceRun
namespace Go.Proofs.YtjkfcmadoeifgaaGreatDoor
section
open Go.RowKit
theorem under31 : Tryz.prog.underlying 32 = some (.slice 5) := by kernel_rfl
section
variable {w w1 : World} {p : Nat} {v v' : Value} {l : List UInt8}
/-- An append and a store: the Writer has written more. -/
theorem Wr.step (h : Wr w p v l) {a : World} {m : List UInt8} (ha : Fr (fun _ => False) w a) (hown : w1.ownsRow 0 5 1 v' (l.length + m.length) (bys l ++ bys m)) (hg : a.grownBy w1 v.ownBlock)
    (hat : v'.ownBlock = v.ownBlock ∨ v'.ownBlock = some a.heap.size) :
    w1.heap[p]? = some (.cells #[v] 66 (0, 0)) ∧ Wr (w1.setCell ⟨p, 0, none⟩ v') p v' (l ++ m) ∧ Fr (foot p v) w (w1.setCell ⟨p, 0, none⟩ v') ∧ Moved w v v' := by
  have hf1 : Fr (foot p v) w w1 := (ha.mono (fun _ _ h => h.elim)).grown hg (fun k _ hk => .inr hk)
  have hap := h.apart
  have hcell : w1.heap[p]? = some (.cells #[v] 66 (0, 0)) := by
    rw [hg.block p (Nat.lt_of_lt_of_le h.lt ha.size) (fun e => hap e.symm)]
    exact ha.heap h.cell id
  have hne : ∀ k, v'.ownBlock = some k → ¬ k = p := by
    intro k hk e
    subst e
    rcases hown.2 with ⟨rfl, _⟩ | ⟨g, cap, cur, rfl, _, hh, _⟩
    · simp [Value.ownBlock] at hk
    · simp [Value.ownBlock] at hk
      subst hk
      have := hcell.symm.trans hh
      simp at this
  refine ⟨hcell, ⟨heap_setCell_self hcell v', ?_⟩, hf1.setCell (fun _ => .inl rfl) v', ?_⟩
  · have := (fr_set1 (p := p) w1 0 v').own hown hne
    rw [List.length_append, bys_append]
    exact this
  · rcases hat with hat | hat
    · exact .inl hat
    · refine .inr fun k hk => ?_
      rw [hat] at hk
      simp at hk
      have := ha.size
      omega
theorem fr_alloc (w : World) (o : Obj) : Fr (fun _ => False) w (w.alloc o) := (Fr.refl _ w).alloc o
end
set_option maxRecDepth 100000 in
theorem wint_any {w : World} {p : Nat} {v : Value} {l : List UInt8} (h : Wr w p v l) (n : Int) (h1 : -9223372036854775808 ≤ n) (h2 : n < 9223372036854775808) (hroom : l.length + 10 ≤ 140737488355328) :
    Calls Tryz.prog 43 #[.pointer (some ⟨p, 0, none⟩), .int .i64 n] w fun e w' => e = .returned (.tuple #[]) ∧ ∃ v', Wr w' p v' (l ++ vb (foldN n)) ∧ Fr (foot p v) w w' ∧ Moved w v v' := by
  obtain ⟨i0, hi, hz0, hz1, hz2⟩ := info_parts info5
  have hvl := vb_len_le _ (foldN_lt h1 h2)
  have hu64 := foldN_lt h1 h2
  have H := Lib.hid h; clear h
  generalize hU : foldN n = U0 at *
  have HU := Lib.hid hU; clear hU
  go_enter Tryz.func43, Tryz.ntmps43
  go_wp2_with (go_at_call 74; refine (fold_any n h1 h2 _).mono ?_; rw [HU.out]; rintro x w ⟨rfl, rfl⟩)
  go_loopw [4] (fun u wr => ∃ (U : Nat) (l' : List UInt8) (v' : Value), u = .int .u64 U ∧ U < 18446744073709551616 ∧ Hid (Wr wr p v' l') ∧ Hid (l' ++ vb U = l ++ vb U0 ∧ (vb U).length + l'.length ≤ 140737488355328) ∧ Hid (Fr (foot p v) w wr) ∧ Hid (Moved w v v')) (fun u _ => (intOf u).toNat)
  case atStart => exact ⟨U0, l, v, rfl, hu64, H.out, ⟨rfl, by omega⟩, Fr.refl _ _, .inl rfl⟩
  case round =>
    obtain ⟨U, l', v', rfl, hU64, HW, HE, HF, HM⟩ := hrel
    have c0 := cell_in (o := 0) HW.out.cell rfl
    have f0 := free_in HW.out.cell 0
    have ho := HW.out.own
    have hvp := vb_pos U
    have hlen := HE.out.2
    by_cases hbig : 127 < U
    · have hb := band_127 hU64
      have HVB := Lib.hid (vb_hi (u := U) (by omega))
      have hvl2 : (vb U).length = (vb (U / 128)).length + 1 := by rw [HVB.out]; simp
      obtain ⟨g, hg, hgl⟩ : ∃ g : Nat, U % 128 = g ∧ g < 128 := ⟨_, rfl, by omega⟩
      rw [hg] at hb HVB
      have hb2 := bor8_128 hgl
      have hby : ((g + 128 : Nat) : Int) = ((UInt8.ofNat (g + 128)).toNat : Int) := by rw [ofNat_toNat (by omega)]
      rw [hby] at hb2
      have HD : Hid (((U : Int) / 128) = ((U / 128 : Nat) : Int)) := (Int.natCast_ediv _ _).symm
      clear hg hby
      generalize UInt8.ofNat (g + 128) = y at *
      go_wp2_with (first
        | (at_builtin; refine wpList_append_own_at _ rfl (.tmp 13) (.tmp 18) 32 rfl 0 5 i0 (.int .u8 0) 1 1 under31 hi hz0 hz1 hz2 rfl (by decide) _ _ _ rfl (ho.alloc _) ⟨wr.heap.size, 0, none⟩ 1 1 (bys [y]) rfl rfl (cell_one_new _ _ _) (by intro u hu; simp [bys] at hu; subst hu; rfl) (by unfold maxLen; omega) (by omega) (Nat.zero_le _) ?_; intro v2 w2 hown' hgrow _ hat; obtain ⟨g2, cap2, rfl⟩ := own_shape hown' (by omega); have hs := HW.out.step (m := [y]) (fr_alloc _ _) hown' hgrow hat; have HS := Lib.hid hs; have e0 := cell_in (o := 0) hs.1 rfl; have ff0 := free_in hs.1 0; clear hs hown' hgrow hat))
      refine ⟨⟨U / 128, l' ++ [y], _, by rw [← HD.out], by omega, HS.out.2.1, ⟨?_, ?_⟩, HF.out.again HS.out.2.2.1 HM.out, HM.out.trans HS.out.2.2.2 HF.out.size⟩, ?_⟩
      · rw [List.append_assoc, List.singleton_append, ← HVB.out]; exact HE.out.1
      · rw [List.length_append]; simp; omega
      · simp [intOf]; omega
    · obtain ⟨y, rfl⟩ : ∃ y : UInt8, U = y.toNat := ⟨UInt8.ofNat U, (ofNat_toNat (by omega)).symm⟩
      have hVB : vb y.toNat = [y] := by rw [vb_lo (by omega), ofNat_self]
      have hl1 : (vb y.toNat).length = 1 := by rw [hVB]; rfl
      have HVB := Lib.hid hVB
      clear hVB
      go_wp2_with (first
        | (at_builtin; refine wpList_append_own_at _ rfl (.tmp 28) (.tmp 31) 32 rfl 0 5 i0 (.int .u8 0) 1 1 under31 hi hz0 hz1 hz2 rfl (by decide) _ _ _ rfl (ho.alloc _) ⟨wr.heap.size, 0, none⟩ 1 1 (bys [y]) rfl rfl (cell_one_new _ _ _) (by intro u hu; simp [bys] at hu; subst hu; rfl) (by unfold maxLen; omega) (by omega) (Nat.zero_le _) ?_; intro v2 w2 hown' hgrow _ hat; obtain ⟨g2, cap2, rfl⟩ := own_shape hown' (by omega); have hs := HW.out.step (m := [y]) (fr_alloc _ _) hown' hgrow hat; have HS := Lib.hid hs; have e0 := cell_in (o := 0) hs.1 rfl; have ff0 := free_in hs.1 0; clear hs hown' hgrow hat))
      go_returns
      refine ⟨rfl, _, ?_, HF.out.again HS.out.2.2.1 HM.out, HM.out.trans HS.out.2.2.2 HF.out.size⟩
      have := HE.out.1
      rw [HVB.out] at this
      rw [← this]
      exact HS.out.2.1
end
section
open Go.RowKit
set_option maxRecDepth 100000 in
theorem wtext_any {w : World} {p : Nat} {v : Value} {l : List UInt8} (h : Wr w p v l) (s : List UInt8) (hroom : l.length + 10 + s.length ≤ 140737488355328) :
    Calls Tryz.prog 45 #[.pointer (some ⟨p, 0, none⟩), .string ⟨s.toArray⟩] w fun e w' => e = .returned (.tuple #[]) ∧ ∃ v', Wr w' p v' (l ++ (vb (foldN (s.length : Int)) ++ s)) ∧ Fr (foot p v) w w' ∧ Moved w v v' := by
  obtain ⟨i0, hi, hz0, hz1, hz2⟩ := info_parts info5
  have HW := Lib.hid h
  clear h
  have hvl := vb_len_le _ (foldN_lt (n := (s.length : Int)) (by omega) (by omega))
  have hsz : (⟨s.toArray⟩ : ByteArray).size = s.length := rfl
  go_enter Tryz.func45, Tryz.ntmps45
  go_wp2_with (first
    | (go_at_call 43; refine (wint_any HW.out (s.length : Int) (by omega) (by omega) (by omega)).mono ?_; rintro x w1 ⟨rfl, v1, h1, f1, m1⟩; have hl2 : (l ++ vb (foldN (s.length : Int))).length ≤ l.length + 10 := (by rw [List.length_append]; omega); generalize hl1 : l ++ vb (foldN (s.length : Int)) = l1 at h1 hl2; have HL1 := Lib.hid hl1; clear hl1; have c1 := cell_in (o := 0) h1.cell rfl; have ho1 := h1.own; have H1 := Lib.hid h1; have F1 := Lib.hid f1; have M1 := Lib.hid m1; clear h1 f1 m1)
    | (at_builtin; refine wpList_append_string_at _ rfl (.tmp 12) (.tmp 13) 32 9 rfl 0 5 i0 under31 (by kernel_rfl) hi hz0 hz1 hz2 _ _ _ rfl ho1 ⟨s.toArray⟩ rfl (by rw [hsz]; unfold maxLen; omega) (by rw [hsz]; omega) (Nat.zero_le _) ?_; intro v2 w2 hown' hgrow hat; rw [hsz] at hown'; obtain ⟨g2, cap2, rfl⟩ := own_shape hown' (by have e := congrArg List.length HL1.out; rw [List.length_append] at e; have := vb_pos (foldN (s.length : Int)); omega); have hs := H1.out.step (m := s) (Fr.refl _ _) hown' hgrow hat; have HS := Lib.hid hs; have e0 := cell_in (o := 0) hs.1 rfl; have ff0 := free_in hs.1 0; clear hs hown' hgrow hat))
  go_returns
  exact ⟨rfl, _, by rw [← List.append_assoc, HL1.out]; exact HS.out.2.1, F1.out.again HS.out.2.2.1 M1.out, M1.out.trans HS.out.2.2.2 F1.out.size⟩
end
section
open Go.RowKit
set_option maxRecDepth 100000 in
theorem wfloat_any {w : World} {p : Nat} {v : Value} {l : List UInt8} (h : Wr w p v l) (x : Nat) (hx : x < 18446744073709551616) (hroom : l.length + 8 ≤ 140737488355328) :
    Calls Tryz.prog 44 #[.pointer (some ⟨p, 0, none⟩), .float .f64 x] w fun e w' => e = .returned (.tuple #[]) ∧ ∃ v', Wr w' p v' (l ++ w8 8 (canon x)) ∧ Fr (foot p v) w w' ∧ Moved w v v' := by
  obtain ⟨i0, hi, hz0, hz1, hz2⟩ := info_parts info5
  have H := Lib.hid h; clear h
  have hU64 := canon_lt hx
  have hb := bits_any x
  generalize hU : canon x = U at *
  have HB := Lib.hid hb; clear hb
  clear hU
  go_enter Tryz.func44, Tryz.ntmps44
  go_wp2_with (go_at_call 66; refine (HB.out _).mono ?_; rintro x w ⟨rfl, rfl⟩)
  go_loopw [5] (fun i wr => ∃ (k : Nat) (l' : List UInt8) (v' : Value), i = .int .i64 (k * 8 : Nat) ∧ k ≤ 8 ∧ Hid (Wr wr p v' l') ∧ Hid (l' ++ w8 (8 - k) (U / 2 ^ (k * 8)) = l ++ w8 8 U ∧ l'.length = l.length + k) ∧ Hid (Fr (foot p v) w wr) ∧ Hid (Moved w v v')) (fun i _ => 8 - (intOf i).toNat / 8)
  case atStart => exact ⟨0, l, v, rfl, by decide, H.out, ⟨by simp, rfl⟩, Fr.refl _ _, .inl rfl⟩
  case round =>
    obtain ⟨k, l', v', rfl, hk, HW, HE, HF, HM⟩ := hrel
    by_cases hlt : k < 8
    · have c0 := cell_in (o := 0) HW.out.cell rfl
      have f0 := free_in HW.out.cell 0
      have ca : ∀ X : Obj, (wr.alloc X).cell? ⟨p, 0, none⟩ = some v' := fun X => (World.cell?_of_block (a := ⟨p, 0, none⟩) (Below.heap_alloc wr X p HW.out.lt)).trans c0
      have ho := HW.out.own
      have hlen : l'.length + 1 ≤ 140737488355328 := by have := HE.out.2; omega
      generalize hs : k * 8 = s at *
      have hs63 : s ≤ 56 := by omega
      have HS8 := Lib.hid hs
      have hw8 : w8 (8 - k) (U / 2 ^ s) = UInt8.ofNat (U / 2 ^ s % 256) :: w8 (8 - (k + 1)) (U / 2 ^ (s + 8)) := by
        rw [show 8 - k = (8 - (k + 1)) + 1 by omega, w8, Nat.pow_add, ← Nat.div_div_eq_div_mul]
      have HW8 := Lib.hid hw8
      obtain ⟨y, hy⟩ : ∃ y, y = UInt8.ofNat (U / 2 ^ s % 256) := ⟨_, rfl⟩
      have hwr : IntKind.u8.wrap ((U : Int) / 2 ^ s) = (y.toNat : Int) := by
        rw [hy, ofNat_toNat (by omega), show ((U : Int) / 2 ^ s) = ((U / 2 ^ s : Nat) : Int) by simp]
        simp [IntKind.wrap, IntKind.bits, IntKind.signed]
      have HY := Lib.hid hy
      clear hs hw8 hy
      go_wp2
      go_region_law (refine step_append_at rfl (.tmp 16) (.tmp 21) 32 rfl 0 5 i0 (.int .u8 0) 1 1 under31 hi hz0 hz1 hz2 rfl (by decide) _ _ _ (by simp [Act.eval]) (Fr.own (((Fr.refl (fun _ => False) wr).drew).alloc _) ho (fun _ _ h => h)) ⟨wr.heap.size, 0, none⟩ 1 1 (bys [y]) (by simp [Act.eval]) rfl (cell_one_new wr _ _) (by intro u hu; simp [bys] at hu; subst hu; rfl) (by unfold maxLen; omega) (by omega) (Nat.zero_le _) ?_; intro v2 w2 hown' hgrow hat; obtain ⟨g2, cap2, rfl⟩ := own_shape hown' (by omega); have hs := HW.out.step (m := [y]) ((fr_alloc wr _).drew) hown' hgrow hat; have HS := Lib.hid hs; have e0 := cell_in (o := 0) hs.1 rfl; have ff0 := free_in hs.1 0; clear hs hown' hgrow hat)
      all_goals go_wp2
      all_goals (refine ⟨⟨k + 1, l' ++ [y], _, by rw [← HS8.out]; simp; omega, by omega, HS.out.2.1, ⟨?_, ?_⟩, HF.out.again HS.out.2.2.1 HM.out, HM.out.trans HS.out.2.2.2 HF.out.size⟩, ?_⟩)
      all_goals have h8 := HS8.out
      all_goals first
        | (simp [intOf]; omega)
        | (rw [List.length_append, HE.out.2]; simp; omega)
        | (have e := HE.out.1
           rw [HW8.out, ← HY.out] at e
           rw [List.append_assoc, List.singleton_append, show (k + 1) * 8 = s + 8 by omega]
           exact e)
    · obtain rfl : k = 8 := by omega
      have hfin : Hid (l' = l ++ w8 8 U) := by
        have := HE.out.1
        show l' = _
        simpa [w8] using this
      go_wp2
      go_returns
      refine ⟨rfl, v', ?_, HF.out, HM.out⟩
      rw [← hfin.out]
      exact HW.out
end
section
open Go.RowKit
theorem own_has {w : World} {base : Nat} {v : Value} {l : List UInt8} (h : w.ownsRow base 5 1 v l.length (bys l)) : HasB (fun k => base ≤ k ∧ k < w.heap.size) w v l := by
  rcases h.2 with ⟨rfl, hn⟩ | ⟨g, cap, cur, rfl, hb, hg, hn, hm, hcs, ht⟩
  · have hl : l = [] := List.eq_nil_of_length_eq_zero hn
    subst hl
    exact ⟨none, 0, rfl, Nat.le_refl _, by decide, fun _ => ⟨rfl, rfl⟩, .inl rfl⟩
  · refine ⟨some ⟨g, 0, none⟩, cap, rfl, hn, hm, (fun e => by cases e), ?_⟩
    by_cases hl : l = []
    · exact .inl hl
    · refine .inr ⟨g, 0, rfl, ⟨hb, lt_of_block hg⟩, lt_of_block hg, fun i hi => ?_⟩
      have := h.cells (g := g) rfl i (.int .u8 ((l.getD i 0).toNat : Int)) (by
        unfold bys
        rw [List.getElem?_map, List.getElem?_eq_getElem hi, List.getD_eq_getElem?_getD, List.getElem?_eq_getElem hi]
        rfl)
      rwa [Addr.add_lit] at this
theorem own_plain {w : World} {base : Nat} {v : Value} {n : Nat} {xs : List Value} (h : w.ownsRow base 5 1 v n xs) : Plain v := by
  rcases h.2 with ⟨rfl, _⟩ | ⟨g, cap, cur, rfl, _⟩
  · exact .inl rfl
  · exact .inr ⟨g, 0, n, cap, rfl⟩
/-- The cells that a slice of bytes lends to an append. -/
theorem HasB.news {K : Nat → Prop} {w : World} {ad : Addr} {n c : Nat} {l : List UInt8} (h : HasB K w (.slice (some ad) n c) l) : ∀ j u, (bys l)[j]? = some u → w.cell? (ad.add j) = some u := by
  intro j u hu
  obtain ⟨ao, cap, h1, _, _, _, h5⟩ := h
  simp at h1
  obtain ⟨rfl, _, _⟩ := h1
  have hj : j < l.length := by
    rcases Nat.lt_or_ge j l.length with h | h
    · exact h
    · rw [List.getElem?_eq_none (by rw [bys_length]; exact h)] at hu; cases hu
  rcases h5 with h5 | ⟨b, off, e, _, _, hc⟩
  · rw [h5] at hj; simp at hj
  · simp at e
    subst e
    rw [Addr.add_lit, hc j hj]
    unfold bys at hu
    rw [List.getElem?_map, List.getElem?_eq_getElem hj] at hu
    rw [List.getD_eq_getElem?_getD, List.getElem?_eq_getElem hj]
    simpa using hu
set_option maxRecDepth 100000 in
theorem clone_any {K : Nat → Prop} {w : World} {v : Value} {l : List UInt8} (h : HasB K w v l) (hroom : l.length ≤ 140737488355328) :
    Calls Tryz.prog 42 #[v] w fun e w' => ∃ v', e = .returned v' ∧ w'.ownsRow w.heap.size 5 1 v' l.length (bys l) ∧ Fr (fun _ => False) w w' := by
  obtain ⟨i0, hi, hz0, hz1, hz2⟩ := info_parts info5
  have hq : ∀ (W : World) (a : Option Addr) (n c n' c' : Nat), (binOp .eql 32 (.slice a n c) (.slice none n' c')).run Tryz.prog W = .ok (.bool a.isNone) W := fun W a n c n' c' => Lib.run_eql_slice_nil W _ _ a n c n' c' under31
  have H := Lib.hid h
  obtain ⟨ao, cap, rfl, h2, h3, h4, h5⟩ := h
  clear h5
  cases ao with
  | none =>
    obtain ⟨hl, rfl⟩ := h4 rfl
    have HL := Lib.hid hl
    subst hl
    clear h2 h3 h4 HL
    go_enter Tryz.func42, Tryz.ntmps42
    go_wp2
    go_ret
    exact ⟨_, rfl, World.ownsRow_nil _ _ _ _, Fr.refl _ _⟩
  | some ad =>
    clear h4
    go_enter Tryz.func42, Tryz.ntmps42
    go_wp2_with (first
      | (at_builtin; refine wpList_append_own _ rfl (.tmp 5) (.tmp 6) 32 rfl w.heap.size 5 i0 (.int .u8 0) 1 1 under31 hi hz0 hz1 hz2 rfl (by decide) _ _ _ rfl (World.ownsRow_made w #[] 0 (Nat.le_refl _) (by decide) rfl) ad l.length cap (bys l) rfl (by rw [bys_length, Nat.mul_one]) (HasB.news (H.out.fr (fr_alloc w _) (fun _ _ h => h))) (bys_one l) (by unfold maxLen; omega) (by omega) (by simp) ?_; intro v2 w2 hown' hgrow _))
    go_ret
    refine ⟨v2, rfl, ?_, ?_⟩
    · simpa using hown'
    · exact (fr_alloc w _).grown hgrow (fun k hk (e : some w.heap.size = some k) => by have := Option.some.inj e; omega)
set_option maxRecDepth 100000 in
theorem newReader_any {K : Nat → Prop} {w : World} {v : Value} {l : List UInt8} (h : HasB K w v l) (hroom : l.length ≤ 140737488355328) :
    Calls Tryz.prog 16 #[v] w fun e w' => ∃ p v', e = .returned (.pointer (some ⟨p, 0, none⟩)) ∧ w.heap.size ≤ p ∧ Rd 69 (fun k => w.heap.size ≤ k ∧ k < p) w' p v' ⟨l, 0, 0, 0⟩ ∧ Fr (fun _ => False) w w' := by
  have H := Lib.hid h; clear h
  go_enter Tryz.func16, Tryz.ntmps16
  go_wp2_with (first
    | (go_at_call 42; refine (clone_any H.out hroom).mono ?_; rintro e w1 ⟨v1, rfl, ho1, f1⟩; obtain ⟨ao, cap, rfl⟩ := own_slice ho1; have HO := Lib.hid ho1; have F1 := Lib.hid f1; clear ho1 f1))
  go_ret
  have hh := (own_has HO.out).fr (fr_alloc w1 (.cells #[.slice ao l.length cap, .int .i64 0, .int .i64 0, .int .i64 0] 69)) (fun _ _ h => h)
  exact ⟨w1.heap.size, _, rfl, F1.out.size, ⟨heap_alloc_new w1 _, hh, fun k hk => by omega, Nat.zero_le _, hroom, fun _ => own_plain HO.out⟩, F1.out.alloc _⟩
theorem newWriter_any (w : World) : Calls Tryz.prog 15 #[] w fun e w' => ∃ p, e = .returned (.pointer (some ⟨p, 0, none⟩)) ∧ w.heap.size ≤ p ∧ Wr w' p (.slice none 0 0) [] ∧ Fr (fun _ => False) w w' := by
  go_enter Tryz.func15, Tryz.ntmps15
  go_wp2
  go_ret
  exact ⟨w.heap.size, rfl, Nat.le_refl _, ⟨heap_alloc_new w _, World.ownsRow_nil _ _ _ _⟩, fr_alloc w _⟩
theorem wbytes_any {w : World} {p : Nat} {v : Value} {l : List UInt8} (h : Wr w p v l) (hroom : l.length ≤ 140737488355328) :
    Calls Tryz.prog 23 #[.pointer (some ⟨p, 0, none⟩)] w fun e w' => ∃ v', e = .returned v' ∧ w'.ownsRow w.heap.size 5 1 v' l.length (bys l) ∧ Fr (fun _ => False) w w' := by
  have c0 := cell_in (o := 0) h.cell rfl
  have H := Lib.hid (own_has h.own)
  clear h
  go_enter Tryz.func23, Tryz.ntmps23
  go_wp2_with (first
    | (go_at_call 42; refine (clone_any H.out hroom).mono ?_; rintro e w1 ⟨v1, rfl, ho1, f1⟩; have HO := Lib.hid ho1; have F1 := Lib.hid f1; clear ho1 f1))
  go_ret
  exact ⟨v1, rfl, HO.out, F1.out⟩
theorem conv_has {K : Nat → Prop} {w : World} {v : Value} {l : List UInt8} (h : HasB K w v l) : (convert 32 9 v).run Tryz.prog w = .ok (.string ⟨l.toArray⟩) w := by
  obtain ⟨ao, cap, rfl, h2, h3, h4, h5⟩ := h
  cases ao with
  | none =>
    obtain ⟨rfl, rfl⟩ := h4 rfl
    exact conv_none w _ _
  | some ad =>
    rcases h5 with rfl | ⟨b, off, e, _, _, hc⟩
    · show (convert 32 9 (.slice (some ad) 0 cap)).run Tryz.prog w = _
      rw [run_convert_bytes_string (P := Tryz.prog) w 32 9 5 _ _ _ (by kernel_rfl) (by kernel_rfl) (by kernel_rfl),
        run_bytesToString (P := Tryz.prog) w ad 0 cap [] (run_loadCells_list (P := Tryz.prog) w ad [] (fun j v hj => by simp at hj))]
      rfl
    · simp at e
      subst e
      exact conv_row w b off _ cap l rfl hc
/-- raceref.Bytes. -/
theorem same_any {K L : Nat → Prop} {w : World} {a b : Value} {l m : List UInt8} (ha : HasB K w a l) (hb : HasB L w b m) : Calls Tryz.prog 22 #[a, b] w fun e w' => e = .returned (.bool (l == m)) ∧ w' = w := by
  have e1 := conv_has ha
  have e2 := conv_has hb
  obtain ⟨ao, cap, rfl, _⟩ := ha
  obtain ⟨bo, cap', rfl, _⟩ := hb
  go_enter Tryz.func22, Tryz.ntmps22
  go_wp2
  go_ret
  exact ⟨rfl, rfl⟩
end
end Go.Proofs.YtjkfcmadoeifgaaGreatDoor
