/- The contracts of bytes.Clone, wire.NewWriter, wire.NewReader, (*Writer).Bytes, raceref.CopyBytes, raceref.Bytes. Conditions: no more than 2^47 bytes. -/
import Derived.Test.YtioopibmpcbcjaaW2
import Derived.Lib.SliceRun
namespace Go.Proofs.Ytioopibmpcbcjaa
open Go.RowKit
theorem own_has {w : World} {base : Nat} {v : Value} {l : List UInt8} (h : w.ownsRow base 5 1 v l.length (bys l)) : HasB (fun k => base ≤ k ∧ k < w.heap.size) w v l := by
  rcases h.2 with ⟨rfl, hn⟩ | ⟨g, cap, cur, rfl, hb, hg, hn, hm, hcs, ht⟩
  · have hl : l = [] := List.eq_nil_of_length_eq_zero hn
    subst hl
    exact ⟨none, 0, rfl, Nat.le_refl _, by decide, fun _ => ⟨rfl, rfl⟩, .inl rfl⟩
  · refine ⟨some ⟨g, 0, none⟩, cap, rfl, hn, hm, (fun e => by cases e), ?_⟩
    by_cases hl : l = []
    · exact .inl hl
    · refine .inr ⟨g, 0, rfl, ⟨hb, lt_of_block hg⟩, lt_of_block hg, fun i hi => ?_⟩
      have := h.cells (g := g) rfl i (.int .u8 ((l.getD i 0).toNat : Int)) (by
        unfold bys
        rw [List.getElem?_map, List.getElem?_eq_getElem hi, List.getD_eq_getElem?_getD, List.getElem?_eq_getElem hi]
        rfl)
      rwa [Addr.add_lit] at this
theorem own_plain {w : World} {base : Nat} {v : Value} {n : Nat} {xs : List Value} (h : w.ownsRow base 5 1 v n xs) : Plain v := by
  rcases h.2 with ⟨rfl, _⟩ | ⟨g, cap, cur, rfl, _⟩
  · exact .inl rfl
  · exact .inr ⟨g, 0, n, cap, rfl⟩
theorem own_slice {w : World} {base : Nat} {v : Value} {n : Nat} {xs : List Value} (h : w.ownsRow base 5 1 v n xs) : ∃ ao cap, v = .slice ao n cap := by
  rcases h.2 with ⟨rfl, rfl⟩ | ⟨g, cap, cur, rfl, _⟩
  · exact ⟨none, 0, rfl⟩
  · exact ⟨_, cap, rfl⟩
/-- The cells that a slice of bytes lends to an append. -/
theorem HasB.news {K : Nat → Prop} {w : World} {ad : Addr} {n c : Nat} {l : List UInt8} (h : HasB K w (.slice (some ad) n c) l) : ∀ j u, (bys l)[j]? = some u → w.cell? (ad.add j) = some u := by
  intro j u hu
  obtain ⟨ao, cap, h1, _, _, _, h5⟩ := h
  simp at h1
  obtain ⟨rfl, _, _⟩ := h1
  have hj : j < l.length := by
    rcases Nat.lt_or_ge j l.length with h | h
    · exact h
    · rw [List.getElem?_eq_none (by rw [bys_length]; exact h)] at hu; cases hu
  rcases h5 with h5 | ⟨b, off, e, _, _, hc⟩
  · rw [h5] at hj; simp at hj
  · simp at e
    subst e
    rw [Addr.add_lit, hc j hj]
    unfold bys at hu
    rw [List.getElem?_map, List.getElem?_eq_getElem hj] at hu
    rw [List.getD_eq_getElem?_getD, List.getElem?_eq_getElem hj]
    simpa using hu
theorem bys_one (l : List UInt8) : ∀ u ∈ bys l, u.oneCell' = true := by
  intro u hu
  unfold bys at hu
  obtain ⟨b, _, rfl⟩ := List.mem_map.1 hu
  rfl
set_option maxRecDepth 100000 in
theorem clone_any {K : Nat → Prop} {w : World} {v : Value} {l : List UInt8} (h : HasB K w v l) (hroom : l.length ≤ 140737488355328) :
    Calls Try.prog 43 #[v] w fun e w' => ∃ v', e = .returned v' ∧ w'.ownsRow w.heap.size 5 1 v' l.length (bys l) ∧ Fr (fun _ => False) w w' := by
  obtain ⟨i0, hi, hz0, hz1, hz2⟩ := info_parts info5
  have hq : ∀ (W : World) (a : Option Addr) (n c n' c' : Nat), (binOp .eql 31 (.slice a n c) (.slice none n' c')).run Try.prog W = .ok (.bool a.isNone) W := fun W a n c n' c' => Lib.run_eql_slice_nil W _ _ a n c n' c' under31
  have H := Lib.hid h
  obtain ⟨ao, cap, rfl, h2, h3, h4, h5⟩ := h
  clear h5
  cases ao with
  | none =>
    obtain ⟨hl, rfl⟩ := h4 rfl
    have HL := Lib.hid hl
    subst hl
    clear h2 h3 h4 HL
    go_enter Try.func43, Try.ntmps43
    go_wp2
    go_ret
    exact ⟨_, rfl, World.ownsRow_nil _ _ _ _, Fr.refl _ _⟩
  | some ad =>
    clear h4
    go_enter Try.func43, Try.ntmps43
    go_wp2_with (first
      | (at_builtin; refine wpList_append_own _ rfl (.tmp 5) (.tmp 6) 31 rfl w.heap.size 5 i0 (.int .u8 0) 1 1 under31 hi hz0 hz1 hz2 rfl (by decide) _ _ _ rfl (World.ownsRow_made w #[] 0 (Nat.le_refl _) (by decide) rfl) ad l.length cap (bys l) rfl (by rw [bys_length, Nat.mul_one]) (HasB.news (H.out.fr (fr_alloc w _) (fun _ _ h => h))) (bys_one l) (by unfold maxLen; omega) (by omega) (by simp) ?_; intro v2 w2 hown' hgrow _))
    go_ret
    refine ⟨v2, rfl, ?_, ?_⟩
    · simpa using hown'
    · exact (fr_alloc w _).grown hgrow (fun k hk (e : some w.heap.size = some k) => by have := Option.some.inj e; omega)
set_option maxRecDepth 100000 in
theorem newReader_any {K : Nat → Prop} {w : World} {v : Value} {l : List UInt8} (h : HasB K w v l) (hroom : l.length ≤ 140737488355328) :
    Calls Try.prog 19 #[v] w fun e w' => ∃ p v', e = .returned (.pointer (some ⟨p, 0, none⟩)) ∧ w.heap.size ≤ p ∧ Rd 71 (fun k => w.heap.size ≤ k ∧ k < p) w' p v' ⟨l, 0, 0, 0⟩ ∧ Fr (fun _ => False) w w' := by
  have H := Lib.hid h; clear h
  go_enter Try.func19, Try.ntmps19
  go_wp2_with (first
    | (go_at_call 43; refine (clone_any H.out hroom).mono ?_; rintro e w1 ⟨v1, rfl, ho1, f1⟩; obtain ⟨ao, cap, rfl⟩ := own_slice ho1; have HO := Lib.hid ho1; have F1 := Lib.hid f1; clear ho1 f1))
  go_ret
  have hh := (own_has HO.out).fr (fr_alloc w1 (.cells #[.slice ao l.length cap, .int .i64 0, .int .i64 0, .int .i64 0] 71)) (fun _ _ h => h)
  exact ⟨w1.heap.size, _, rfl, F1.out.size, ⟨heap_alloc_new w1 _, hh, fun k hk => by omega, Nat.zero_le _, hroom, fun _ => own_plain HO.out⟩, F1.out.alloc _⟩
theorem newWriter_any (w : World) : Calls Try.prog 13 #[] w fun e w' => ∃ p, e = .returned (.pointer (some ⟨p, 0, none⟩)) ∧ w.heap.size ≤ p ∧ Wr w' p (.slice none 0 0) [] ∧ Fr (fun _ => False) w w' := by
  go_enter Try.func13, Try.ntmps13
  go_wp2
  go_ret
  exact ⟨w.heap.size, rfl, Nat.le_refl _, ⟨heap_alloc_new w _, World.ownsRow_nil _ _ _ _⟩, fr_alloc w _⟩
theorem wbytes_any {w : World} {p : Nat} {v : Value} {l : List UInt8} (h : Wr w p v l) (hroom : l.length ≤ 140737488355328) :
    Calls Try.prog 16 #[.pointer (some ⟨p, 0, none⟩)] w fun e w' => ∃ v', e = .returned v' ∧ w'.ownsRow w.heap.size 5 1 v' l.length (bys l) ∧ Fr (fun _ => False) w w' := by
  have c0 := cell_in (o := 0) h.cell rfl
  have H := Lib.hid (own_has h.own)
  clear h
  go_enter Try.func16, Try.ntmps16
  go_wp2_with (first
    | (go_at_call 43; refine (clone_any H.out hroom).mono ?_; rintro e w1 ⟨v1, rfl, ho1, f1⟩; have HO := Lib.hid ho1; have F1 := Lib.hid f1; clear ho1 f1))
  go_ret
  exact ⟨v1, rfl, HO.out, F1.out⟩
theorem conv_has {K : Nat → Prop} {w : World} {v : Value} {l : List UInt8} (h : HasB K w v l) : (convert 31 9 v).run Try.prog w = .ok (.string ⟨l.toArray⟩) w := by
  obtain ⟨ao, cap, rfl, h2, h3, h4, h5⟩ := h
  cases ao with
  | none =>
    obtain ⟨rfl, rfl⟩ := h4 rfl
    exact conv_none w _ _
  | some ad =>
    rcases h5 with rfl | ⟨b, off, e, _, _, hc⟩
    · show (convert 31 9 (.slice (some ad) 0 cap)).run Try.prog w = _
      rw [run_convert_bytes_string (P := Try.prog) w 31 9 5 _ _ _ (by kernel_rfl) (by kernel_rfl) (by kernel_rfl),
        run_bytesToString (P := Try.prog) w ad 0 cap [] (run_loadCells_list (P := Try.prog) w ad [] (fun j v hj => by simp at hj))]
      rfl
    · simp at e
      subst e
      exact conv_row w b off _ cap l rfl hc
/-- raceref.Bytes. -/
theorem same_any {K L : Nat → Prop} {w : World} {a b : Value} {l m : List UInt8} (ha : HasB K w a l) (hb : HasB L w b m) : Calls Try.prog 17 #[a, b] w fun e w' => e = .returned (.bool (l == m)) ∧ w' = w := by
  have e1 := conv_has ha
  have e2 := conv_has hb
  obtain ⟨ao, cap, rfl, _⟩ := ha
  obtain ⟨bo, cap', rfl, _⟩ := hb
  go_enter Try.func17, Try.ntmps17
  go_wp2
  go_ret
  exact ⟨rfl, rfl⟩
/-- raceref.CopyBytes. -/
theorem copyBytes_any {K : Nat → Prop} {w : World} {v : Value} {l : List UInt8} (h : HasB K w v l) (hroom : l.length ≤ 140737488355328) :
    Calls Try.prog 18 #[v] w fun e w' => ∃ v', e = .returned v' ∧ w'.ownsRow w.heap.size 5 1 v' l.length (bys l) ∧ Fr (fun _ => False) w w' := by
  obtain ⟨i0, hi, hz0, hz1, hz2⟩ := info_parts info5
  have H := Lib.hid h
  obtain ⟨ao, cap, rfl, h2, h3, h4, h5⟩ := h
  clear h4
  have H5 := Lib.hid h5
  clear h5
  go_enter Try.func18, Try.ntmps18
  go_wp2
  go_loopw [3, 4] (fun r i wr => ∃ k : Nat, k ≤ l.length ∧ i = .int .i64 k ∧ Hid (wr.ownsRow w.heap.size 5 1 r k (bys (l.take k))) ∧ Hid (Fr (fun _ => False) w wr)) (fun _ i _ => l.length - (intOf i).toNat)
  case atStart => exact ⟨0, Nat.zero_le _, rfl, World.ownsRow_nil _ _ _ _, Fr.refl _ _⟩
  case round =>
    obtain ⟨k, hk, rfl, HO, HF⟩ := hrel
    have ho := HO.out
    have hbase := HF.out.size
    by_cases hlt : k < l.length
    · rcases H5.out with h0 | ⟨b, off, rfl, hB, hbl, hc⟩
      · rw [h0] at hlt; simp at hlt
      have hcx : wr.cell? ⟨b, off + k, none⟩ = some (.int .u8 ((l.getD k 0).toNat : Int)) := (World.cell?_of_block (a := ⟨b, off + k, none⟩) (HF.out.block b hbl id)).trans (hc k hlt)
      have HT := Lib.hid (take_succ_getD hlt)
      generalize l.getD k 0 = y at *
      clear hc
      go_wp2_with (first
        | (at_builtin; refine wpList_append_own _ rfl (.tmp 11) (.tmp 16) 31 rfl w.heap.size 5 i0 (.int .u8 0) 1 1 under31 hi hz0 hz1 hz2 rfl (by decide) _ _ _ rfl (ho.alloc _) ⟨wr.heap.size, 0, none⟩ 1 1 (bys [y]) rfl rfl (cell_one_new _ _ _) (bys_one _) (by unfold maxLen; omega) (by omega) (by simp; omega) ?_; intro v2 w2 hown' hgrow _; have HO2 := Lib.hid hown'; have HG2 := Lib.hid hgrow; clear hown' hgrow))
      refine ⟨⟨k + 1, by omega, by simp, ?_, ?_⟩, by simp [intOf]; omega⟩
      · have := HO2.out
        rw [← bys_append, ← HT.out] at this
        exact this
      · refine (HF.out.alloc _).grown HG2.out (fun i hi' e => ?_)
        have := HO.out.lt i e
        omega
    · obtain rfl : k = l.length := by omega
      go_wp2
      go_ret
      refine ⟨_, rfl, ?_, HF.out⟩
      have := HO.out
      rwa [List.take_length] at this
end Go.Proofs.Ytioopibmpcbcjaa
