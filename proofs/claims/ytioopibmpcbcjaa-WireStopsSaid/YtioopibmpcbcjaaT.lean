/- The document's own bytes: raceref2's Int, Flag, Float, Text. Conditions: numbers in their range, texts of at most 2^46 bytes. -/
import Derived.Test.YtioopibmpcbcjaaI
import Derived.Test.YtioopibmpcbcjaaR7
namespace Go.Proofs.Ytioopibmpcbcjaa
open Go.RowKit
/-- A row of the call's own. -/
def Own (w w' : World) (v : Value) (l : List UInt8) : Prop := w'.ownsRow w.heap.size 5 1 v l.length (bys l) ∧ Below w.heap.size w w'
set_option maxRecDepth 100000 in
theorem refInt_loop (n : Int) (U0 : Nat) (hU0 : U0 < 18446744073709551616) (w : World)
    (hstart : (n < 0 ∧ bits .xor .u64 IntKind.u64.max (IntKind.u64.wrap (IntKind.u64.wrap n * 2)) = (U0 : Int)) ∨ (0 ≤ n ∧ n < 9223372036854775808 ∧ n * 2 = (U0 : Int))) :
    Calls Try.prog 39 #[.int .i64 n] w fun e w' => ∃ v', e = .returned v' ∧ Own w w' v' (vb U0) := by
  obtain ⟨i0, hi, hz0, hz1, hz2⟩ := info_parts info5
  have hvl := vb_len_le _ hU0
  rcases hstart with ⟨hneg, hx⟩ | ⟨hpos, hlt, hx⟩
  · go_enter Try.func39, Try.ntmps39
    go_wp2
    go_loopw [3, 4] (fun u r wr => ∃ (U : Nat) (l' : List UInt8), u = .int .u64 U ∧ U < 18446744073709551616 ∧ Hid (wr.ownsRow w.heap.size 5 1 r l'.length (bys l')) ∧ Hid (l' ++ vb U = vb U0) ∧ Hid (Below w.heap.size w wr)) (fun u _ _ => (intOf u).toNat)
    case atStart => exact ⟨U0, [], rfl, hU0, World.ownsRow_nil _ _ _ _, by simp [Hid], Below.refl _ _⟩
    case round =>
      obtain ⟨U, l', rfl, hU, HO, HE, HB⟩ := hrel
      have ho := HO.out
      have hsz := HB.out.size
      have hlen : l'.length + (vb U).length ≤ 10 := by have := congrArg List.length HE.out; rw [List.length_append] at this; omega
      have hvp := vb_pos U
      by_cases hbig : 128 ≤ U
      · have HVB := Lib.hid (vb_hi hbig)
        obtain ⟨g, hg, hgl⟩ : ∃ g : Nat, U % 128 = g ∧ g < 128 := ⟨_, rfl, by omega⟩
        have hgi : ((U : Int) % 128) = (g : Int) := by omega
        rw [hg] at HVB
        obtain ⟨y, hy⟩ : ∃ y, y = UInt8.ofNat (g + 128) := ⟨_, rfl⟩
        have hby : (g : Int) + 128 = (y.toNat : Int) := by rw [hy, ofNat_toNat (by omega)]; simp
        rw [← hy] at HVB
        have HD : Hid (((U : Int) / 128) = ((U / 128 : Nat) : Int)) := (Int.natCast_ediv _ _).symm
        clear hg hy
        go_wp2_with (first
          | (at_builtin; refine wpList_append_own _ rfl (.tmp 14) (.tmp 19) 31 rfl w.heap.size 5 i0 (.int .u8 0) 1 1 under31 hi hz0 hz1 hz2 rfl (by decide) _ _ _ rfl (ho.alloc _) ⟨wr.heap.size, 0, none⟩ 1 1 (bys [y]) rfl rfl (cell_one_new _ _ _) (bys_one _) (by unfold maxLen; omega) (by omega) (by simp; omega) ?_; intro v2 w2 hown' hgrow _; have HO2 := Lib.hid hown'; have HB2 := Lib.hid ((HB.out.alloc HB.out.size (.cells #[.int .u8 (y.toNat : Int)] 5)).grown hgrow (by simp; omega) (fun k hk => (HO.out.lt k hk).1)); clear hown' hgrow))
        refine ⟨⟨U / 128, l' ++ [y], by rw [← HD.out], by omega, ?_, ?_, HB2⟩, by simp [intOf]; omega⟩
        · have := HO2.out
          rw [← bys_append] at this
          rw [List.length_append]
          exact this
        · show _ = _
          rw [List.append_assoc, List.singleton_append, ← HVB.out]; exact HE.out
      · obtain ⟨y, rfl⟩ : ∃ y : UInt8, U = y.toNat := ⟨UInt8.ofNat U, (ofNat_toNat (by omega)).symm⟩
        have HVB : Hid (vb y.toNat = [y]) := by show _ = _; rw [vb_lo (by omega), ofNat_self]
        go_wp2_with (first
          | (at_builtin; refine wpList_append_own _ rfl (.tmp 23) (.tmp 26) 31 rfl w.heap.size 5 i0 (.int .u8 0) 1 1 under31 hi hz0 hz1 hz2 rfl (by decide) _ _ _ rfl (ho.alloc _) ⟨wr.heap.size, 0, none⟩ 1 1 (bys [y]) rfl rfl (cell_one_new _ _ _) (bys_one _) (by unfold maxLen; omega) (by omega) (by simp; omega) ?_; intro v2 w2 hown' hgrow _; have HO2 := Lib.hid hown'; have HB2 := Lib.hid ((HB.out.alloc HB.out.size (.cells #[.int .u8 (y.toNat : Int)] 5)).grown hgrow (by simp; omega) (fun k hk => (HO.out.lt k hk).1)); clear hown' hgrow))
        go_ret
        refine ⟨v2, rfl, ?_, HB2.out⟩
        have e := HE.out
        rw [HVB.out] at e
        rw [← e, List.length_append, bys_append]
        exact HO2.out
  · have HX := Lib.hid hx
    clear hx
    go_enter Try.func39, Try.ntmps39
    go_wp2
    go_loopw [3, 4] (fun u r wr => ∃ (U : Nat) (l' : List UInt8), u = .int .u64 U ∧ U < 18446744073709551616 ∧ Hid (wr.ownsRow w.heap.size 5 1 r l'.length (bys l')) ∧ Hid (l' ++ vb U = vb U0) ∧ Hid (Below w.heap.size w wr)) (fun u _ _ => (intOf u).toNat)
    case atStart => exact ⟨U0, [], by rw [HX.out], hU0, World.ownsRow_nil _ _ _ _, by simp [Hid], Below.refl _ _⟩
    case round =>
      obtain ⟨U, l', rfl, hU, HO, HE, HB⟩ := hrel
      have ho := HO.out
      have hsz := HB.out.size
      have hlen : l'.length + (vb U).length ≤ 10 := by have := congrArg List.length HE.out; rw [List.length_append] at this; omega
      have hvp := vb_pos U
      by_cases hbig : 128 ≤ U
      · have HVB := Lib.hid (vb_hi hbig)
        obtain ⟨g, hg, hgl⟩ : ∃ g : Nat, U % 128 = g ∧ g < 128 := ⟨_, rfl, by omega⟩
        have hgi : ((U : Int) % 128) = (g : Int) := by omega
        rw [hg] at HVB
        obtain ⟨y, hy⟩ : ∃ y, y = UInt8.ofNat (g + 128) := ⟨_, rfl⟩
        have hby : (g : Int) + 128 = (y.toNat : Int) := by rw [hy, ofNat_toNat (by omega)]; simp
        rw [← hy] at HVB
        have HD : Hid (((U : Int) / 128) = ((U / 128 : Nat) : Int)) := (Int.natCast_ediv _ _).symm
        clear hg hy
        go_wp2_with (first
          | (at_builtin; refine wpList_append_own _ rfl (.tmp 14) (.tmp 19) 31 rfl w.heap.size 5 i0 (.int .u8 0) 1 1 under31 hi hz0 hz1 hz2 rfl (by decide) _ _ _ rfl (ho.alloc _) ⟨wr.heap.size, 0, none⟩ 1 1 (bys [y]) rfl rfl (cell_one_new _ _ _) (bys_one _) (by unfold maxLen; omega) (by omega) (by simp; omega) ?_; intro v2 w2 hown' hgrow _; have HO2 := Lib.hid hown'; have HB2 := Lib.hid ((HB.out.alloc HB.out.size (.cells #[.int .u8 (y.toNat : Int)] 5)).grown hgrow (by simp; omega) (fun k hk => (HO.out.lt k hk).1)); clear hown' hgrow))
        refine ⟨⟨U / 128, l' ++ [y], by rw [← HD.out], by omega, ?_, ?_, HB2⟩, by simp [intOf]; omega⟩
        · have := HO2.out
          rw [← bys_append] at this
          rw [List.length_append]
          exact this
        · show _ = _
          rw [List.append_assoc, List.singleton_append, ← HVB.out]; exact HE.out
      · obtain ⟨y, rfl⟩ : ∃ y : UInt8, U = y.toNat := ⟨UInt8.ofNat U, (ofNat_toNat (by omega)).symm⟩
        have HVB : Hid (vb y.toNat = [y]) := by show _ = _; rw [vb_lo (by omega), ofNat_self]
        go_wp2_with (first
          | (at_builtin; refine wpList_append_own _ rfl (.tmp 23) (.tmp 26) 31 rfl w.heap.size 5 i0 (.int .u8 0) 1 1 under31 hi hz0 hz1 hz2 rfl (by decide) _ _ _ rfl (ho.alloc _) ⟨wr.heap.size, 0, none⟩ 1 1 (bys [y]) rfl rfl (cell_one_new _ _ _) (bys_one _) (by unfold maxLen; omega) (by omega) (by simp; omega) ?_; intro v2 w2 hown' hgrow _; have HO2 := Lib.hid hown'; have HB2 := Lib.hid ((HB.out.alloc HB.out.size (.cells #[.int .u8 (y.toNat : Int)] 5)).grown hgrow (by simp; omega) (fun k hk => (HO.out.lt k hk).1)); clear hown' hgrow))
        go_ret
        refine ⟨v2, rfl, ?_, HB2.out⟩
        have e := HE.out
        rw [HVB.out] at e
        rw [← e, List.length_append, bys_append]
        exact HO2.out
theorem refInt_any (n : Int) (h1 : -9223372036854775808 ≤ n) (h2 : n < 9223372036854775808) (w : World) :
    Calls Try.prog 39 #[.int .i64 n] w fun e w' => ∃ v', e = .returned v' ∧ Own w w' v' (vb (foldN n)) := by
  refine refInt_loop n (foldN n) (foldN_lt h1 h2) w ?_
  by_cases hn : n < 0
  · left
    refine ⟨hn, ?_⟩
    have e1 : IntKind.u64.wrap (IntKind.u64.wrap n * 2) = ((18446744073709551616 + 2 * n).toNat : Int) := by rw [IntKind.wrap_u64, IntKind.wrap_u64]; omega
    rw [e1, bnot (by omega)]
    unfold foldN
    rw [if_pos hn]
    omega
  · right
    refine ⟨by omega, h2, ?_⟩
    unfold foldN
    rw [if_neg hn]
    omega
theorem refFlag_any (b : Bool) (w : World) : Calls Try.prog 40 #[.bool b] w fun e w' => ∃ v', e = .returned v' ∧ Own w w' v' [bif b then 1 else 0] := by
  cases b
  · go_enter Try.func40, Try.ntmps40
    go_wp2
    go_ret
    exact ⟨_, rfl, World.ownsRow_lit (e := 5) (size := 1) w #[.int .u8 0] 1 (Nat.le_refl _) (by decide) rfl, (Below.refl _ _).alloc (Nat.le_refl _) _⟩
  · go_enter Try.func40, Try.ntmps40
    go_wp2
    go_ret
    exact ⟨_, rfl, World.ownsRow_lit (e := 5) (size := 1) w #[.int .u8 1] 1 (Nat.le_refl _) (by decide) rfl, (Below.refl _ _).alloc (Nat.le_refl _) _⟩
set_option maxRecDepth 100000 in
theorem refFloat_any (x : Nat) (hx : x < 18446744073709551616) (w : World) : Calls Try.prog 41 #[.float .f64 x] w fun e w' => ∃ v', e = .returned v' ∧ Own w w' v' (w8 8 (canon x)) := by
  obtain ⟨i0, hi, hz0, hz1, hz2⟩ := info_parts info5
  have hU64 := canon_lt hx
  have hb := rbits_any x
  generalize canon x = U0 at *
  have HBI := Lib.hid hb; clear hb
  go_enter Try.func41, Try.ntmps41
  go_wp2_with (go_at_call 61; refine (HBI.out _).mono ?_; rintro x w ⟨rfl, rfl⟩)
  go_loopw [3, 4, 5] (fun u r i wr => ∃ (k U : Nat) (l' : List UInt8), i = .int .i64 k ∧ k ≤ 8 ∧ u = .int .u64 U ∧ U < 18446744073709551616 ∧ Hid (wr.ownsRow w.heap.size 5 1 r l'.length (bys l')) ∧ Hid (l' ++ w8 (8 - k) U = w8 8 U0) ∧ Hid (Below w.heap.size w wr) ∧ l'.length ≤ k) (fun _ _ i _ => 8 - (intOf i).toNat)
  case atStart => exact ⟨0, U0, [], rfl, by decide, rfl, hU64, World.ownsRow_nil _ _ _ _, rfl, Below.refl _ _, Nat.le_refl _⟩
  case round =>
    obtain ⟨k, U, l', rfl, hk, rfl, hU, HO, HE, HB, hlen⟩ := hrel
    have ho := HO.out
    have hsz := HB.out.size
    by_cases hlt : k < 8
    · have hw8 : w8 (8 - k) U = UInt8.ofNat (U % 256) :: w8 (8 - (k + 1)) (U / 256) := by
        rw [show 8 - k = (8 - (k + 1)) + 1 by omega]; rfl
      have HW8 := Lib.hid hw8
      obtain ⟨y, hy⟩ : ∃ y, y = UInt8.ofNat (U % 256) := ⟨_, rfl⟩
      have hby : ((U : Int) % 256) = (y.toNat : Int) := by rw [hy, ofNat_toNat (by omega)]; simp
      have hyl := byte_lt y
      have HY := Lib.hid hy
      have HD : Hid (((U : Int) / 256) = ((U / 256 : Nat) : Int)) := (Int.natCast_ediv _ _).symm
      clear hw8 hy
      go_wp2_with (first
        | (at_builtin; refine wpList_append_own _ rfl (.tmp 12) (.tmp 16) 31 rfl w.heap.size 5 i0 (.int .u8 0) 1 1 under31 hi hz0 hz1 hz2 rfl (by decide) _ _ _ rfl (ho.alloc _) ⟨wr.heap.size, 0, none⟩ 1 1 (bys [y]) rfl rfl (cell_one_new _ _ _) (bys_one _) (by unfold maxLen; omega) (by omega) (by simp; omega) ?_; intro v2 w2 hown' hgrow _; have HO2 := Lib.hid hown'; have HB2 := Lib.hid ((HB.out.alloc HB.out.size (.cells #[.int .u8 (y.toNat : Int)] 5)).grown hgrow (by simp; omega) (fun k hk => (HO.out.lt k hk).1)); clear hown' hgrow))
      refine ⟨⟨k + 1, U / 256, l' ++ [y], by simp, by omega, by rw [← HD.out], by omega, ?_, ?_, HB2, by simp; omega⟩, by simp [intOf]; omega⟩
      · have := HO2.out
        rw [← bys_append] at this
        rw [List.length_append]
        exact this
      · have e := HE.out
        rw [HW8.out, ← HY.out] at e
        show _ = _
        rw [List.append_assoc, List.singleton_append]
        exact e
    · obtain rfl : k = 8 := by omega
      have HE2 : Hid (l' = w8 8 U0) := by
        have e := HE.out
        show _ = _
        simpa [w8] using e
      go_wp2
      go_ret
      refine ⟨_, rfl, ?_, HB.out⟩
      rw [← HE2.out]
      exact HO.out
set_option maxRecDepth 100000 in
theorem refText_any (s : List UInt8) (hs : s.length ≤ 70368744177664) (w : World) : Calls Try.prog 42 #[.string ⟨s.toArray⟩] w fun e w' => ∃ v', e = .returned v' ∧ Own w w' v' (vb (foldN (s.length : Int)) ++ s) := by
  obtain ⟨i0, hi, hz0, hz1, hz2⟩ := info_parts info5
  have hvl := vb_len_le _ (foldN_lt (n := (s.length : Int)) (by omega) (by omega))
  have hsz : (⟨s.toArray⟩ : ByteArray).size = s.length := rfl
  have hr := refInt_any (s.length : Int) (by omega) (by omega)
  obtain ⟨A, hA⟩ : ∃ A, A = vb (foldN (s.length : Int)) := ⟨_, rfl⟩
  rw [← hA] at hr hvl ⊢
  have HR := Lib.hid hr
  clear hr hA
  go_enter Try.func42, Try.ntmps42
  go_wp2_with (first
    | (go_at_call 39; refine (HR.out _).mono ?_; rintro e w1 ⟨v1, rfl, ho1, hb1⟩; obtain ⟨ao1, cap1, rfl⟩ := own_slice ho1; have HO := Lib.hid ho1; have HB := Lib.hid hb1; clear ho1 hb1)
    | (at_builtin; refine wpList_append_string_at _ rfl (.tmp 5) (.tmp 6) 31 9 rfl w.heap.size 5 i0 under31 (by kernel_rfl) hi hz0 hz1 hz2 (.slice ao1 A.length cap1) _ _ rfl HO.out ⟨s.toArray⟩ rfl (by rw [hsz]; unfold maxLen; omega) (by rw [hsz]; omega) HB.out.size ?_; intro v2 w2 hown' hgrow hat; have HO2 := Lib.hid hown'; have HB2 := Lib.hid (HB.out.grown hgrow HB.out.size (fun k hk => (HO.out.lt k hk).1)); clear hown' hgrow hat))
  go_ret
  refine ⟨v2, rfl, ?_, HB2.out⟩
  have := HO2.out
  rw [List.length_append, bys_append]
  exact this
end Go.Proofs.Ytioopibmpcbcjaa
