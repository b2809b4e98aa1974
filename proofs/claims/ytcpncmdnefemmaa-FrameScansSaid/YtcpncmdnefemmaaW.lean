/- racelaw5.first: what the chapter's examples fix. Conditions: none. -/
import Derived.Test.YtcpncmdnefemmaaV
import Derived.Lib.SlBytesConst
namespace Go.Proofs.Ytcpncmdnefemmaa
open Go.RowKit
theorem crc_nil : crc [] = 0 := by decide +kernel
theorem crc_nine : crc [49, 50, 51, 52, 53, 54, 55, 56, 57] = 3808858755 := by decide +kernel
theorem frame_nil : frameV [] = [0, 0, 0, 0, 199, 75, 103, 72, 0, 0, 0, 0] := by decide +kernel
theorem scan_ex : scanV [0, 0, 0, 0, 199, 75, 103, 72, 0, 0, 0, 0, 7] = ([[]], 12) := by
  have h := scan_join [7] [[]] (fun p hp => by simp at hp; subst hp; simp)
  have e : joinV [[]] ++ [7] = [0, 0, 0, 0, 199, 75, 103, 72, 0, 0, 0, 0, 7] := by
    rw [join_cons, frame_nil]; rfl
  have hl : (joinV [[]]).length = 12 := by rw [join_cons, frame_nil]; rfl
  rw [e, scan_none (b := [7]) (first_short (by simp)), hl] at h
  exact h
theorem sb_nil (B : Nat) (w : World) : SB B w none 0 0 [] := ⟨rfl, Nat.le_refl _, by decide, fun _ => rfl, .inl rfl⟩
/-- A row of a constant. -/
theorem sb_lit (w : World) (l : List UInt8) (n : Nat) (fz : Nat × Nat) (hl : n = l.length) (hn : n ≤ maxLen) : SB (w.alloc (.cells (bys l).toArray 5 fz)).heap.size (w.alloc (.cells (bys l).toArray 5 fz)) (some ⟨w.heap.size, 0, none⟩) n n l := by
  refine ⟨hl, Nat.le_refl _, hn, (fun e => by cases e), .inr ⟨w.heap.size, 0, rfl, by simp, fun i hi => ?_⟩⟩
  rw [Nat.zero_add, cell_of_row _ w.heap.size i (bys l).toArray 5 fz (heap_alloc_new w _)]
  simp [bys, List.getD_eq_getElem?_getD, List.getElem?_eq_getElem (show i < l.length by omega)]
set_option maxRecDepth 100000 in
theorem first_any (w : World) : Calls Try.prog 10 #[] w fun e w' => e = .returned (.bool true) ∧ Below w.heap.size w w' := by
  have h1 := frame_nil
  have HF := Lib.hid frame_nil
  have HS := Lib.hid scan_ex
  have HC := Lib.hid crc_nine
  clear h1
  have kc := fun (w : World) (C : Array Value) (n c : Nat) => Lib.run_convert_bytes_const (P := Try.prog) w 22 5 C n c under22 (by kernel_rfl)
  go_enter Try.func10, Try.ntmps10
  go_wp2_with (first
    | (go_at_call 12; (refine (frame_any (sb_nil _ _) (Nat.zero_le _)).mono ?_); rw [HF.out]; rintro e w1 ⟨f, rfl, ho1, hb1⟩; obtain ⟨fo, fc, rfl⟩ := own_slice ho1; have HSF := Lib.hid (own_sb ho1); have HB1 := Lib.hid hb1; clear ho1 hb1)
    | (go_at_call 17; (refine (scan_any (sb_lit w1 [0, 0, 0, 0, 199, 75, 103, 72, 0, 0, 0, 0, 7] 13 _ rfl (by decide)) (by decide)).mono ?_); rintro e w2 ⟨v2, us, rfl, hr2, hb2⟩; rw [HS.out] at hr2 ⊢; obtain ⟨ro, rc, rfl⟩ := own_slice hr2.own; obtain ⟨rb, roff, qo, qn, qc, rfl, hq1, hq2⟩ := (hr2.rb rfl).at_ (i := 0) (by decide); obtain rfl : qn = 0 := hq2.len; have hb12 := (below1 w1 _).trans (hb2.mono (below1 w1 _).size); have HB2 := Lib.hid (HB1.out.trans (hb12.mono HB1.out.size)); have HSF := Lib.hid (HSF.out.below hb12); have hqb := Lib.hid (World.block_lt_of_cell? _ _ hq1); have HS12 := Lib.hid hb12.size; rw [Nat.add_zero] at hq1 hqb; clear hr2 hb2 hb12)
    | (go_at_call 14; (refine (sum_any (sb_lit w2 [49, 50, 51, 52, 53, 54, 55, 56, 57] 9 _ rfl (by decide))).mono ?_); rw [HC.out]; rintro e w3 ⟨rfl, hb3⟩; have hb23 := (below1 w2 _).trans (hb3.mono (below1 w2 _).size); have HB3 := Lib.hid (HB2.out.trans (hb23.mono HB2.out.size)); have hcf : (convert 22 9 (.slice fo 12 fc)).run Try.prog w3 = .ok (.string ⟨#[0, 0, 0, 0, 199, 75, 103, 72, 0, 0, 0, 0]⟩) w3 := ((HSF.out.mono HS12.out).below hb23).conv; have hq1 := (hb23.cell (p := ⟨rb, roff, none⟩) hqb.out).trans hq1; clear hb3 hb23))
  go_ret
  exact ⟨rfl, HB3.out⟩
end Go.Proofs.Ytcpncmdnefemmaa
