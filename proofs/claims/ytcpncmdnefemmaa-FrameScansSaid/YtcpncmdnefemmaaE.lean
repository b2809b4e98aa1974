/- raceref5.four, Frame; raceref.CopyBytes, Bytes. Conditions: no more than 2^47 bytes in all. -/
import Derived.Test.YtcpncmdnefemmaaD
namespace Go.Proofs.Ytcpncmdnefemmaa
open Go.RowKit
set_option maxRecDepth 100000 in
theorem four_any (w : World) (N : Nat) :
    Calls Try.prog 24 #[.int .u32 (N : Nat)] w fun e w' => ∃ c, e = .returned (.slice (some ⟨w.heap.size, 0, none⟩) 4 c) ∧ w'.ownsRow w.heap.size 5 1 (.slice (some ⟨w.heap.size, 0, none⟩) 4 c) 4 (bys (four N)) ∧ Below w.heap.size w w' := by
  have e1 : IntKind.u8.wrap (N : Int) = ((UInt8.ofNat (N % 256)).toNat : Int) := by rw [ofNat_toNat (by omega)]; exact wrapu8
  have e2 : IntKind.u8.wrap ((N : Int) / 256) = ((UInt8.ofNat (N / 256 % 256)).toNat : Int) := by rw [ofNat_toNat (by omega)]; exact wrapu8 (n := N / 256)
  have e3 : IntKind.u8.wrap ((N : Int) / 65536) = ((UInt8.ofNat (N / 65536 % 256)).toNat : Int) := by rw [ofNat_toNat (by omega)]; exact wrapu8 (n := N / 65536)
  have e4 : IntKind.u8.wrap ((N : Int) / 16777216) = ((UInt8.ofNat (N / 16777216 % 256)).toNat : Int) := by rw [ofNat_toNat (by omega)]; exact wrapu8 (n := N / 16777216)
  have HF : Hid (four N = [UInt8.ofNat (N % 256), UInt8.ofNat (N / 256 % 256), UInt8.ofNat (N / 65536 % 256), UInt8.ofNat (N / 16777216 % 256)]) := rfl
  generalize UInt8.ofNat (N % 256) = a at *
  generalize UInt8.ofNat (N / 256 % 256) = b at *
  generalize UInt8.ofNat (N / 65536 % 256) = c at *
  generalize UInt8.ofNat (N / 16777216 % 256) = d at *
  go_enter Try.func24, Try.ntmps24
  go_wp2
  go_ret
  refine ⟨4, rfl, ?_, below1 _ _⟩
  rw [HF.out]
  exact World.ownsRow_lit w (bys [a, b, c, d]).toArray 4 (Nat.le_refl _) (by decide) rfl
set_option maxRecDepth 100000 in
theorem copyBytes_any {w : World} {ao : Option Addr} {n cap : Nat} {l : List UInt8} (h : SB w.heap.size w ao n cap l) (hroom : n ≤ 140737488355328) :
    Calls Try.prog 11 #[.slice ao n cap] w fun e w' => ∃ ao' cap', e = .returned (.slice ao' n cap') ∧ w'.ownsRow w.heap.size 5 1 (.slice ao' n cap') n (bys l) ∧ Below w.heap.size w w' := by
  obtain ⟨i0, hi, hz0, hz1, hz2⟩ := info_parts info5
  have hn := h.len
  have HN := Lib.hid hn
  have H := Lib.hid h
  clear h hn
  go_enter Try.func11, Try.ntmps11
  go_wp2
  go_loopw [3, 4] (fun b i wr => ∃ j : Nat, j ≤ n ∧ i = .int .i64 j ∧ Hid (wr.ownsRow w.heap.size 5 1 b j (bys (l.take j))) ∧ Hid (Below w.heap.size w wr)) (fun _ i _ => n - (intOf i).toNat)
  case atStart => exact ⟨0, by omega, rfl, World.ownsRow_nil _ _ _ _, Below.refl _ _⟩
  case round =>
    obtain ⟨j, hj, rfl, HO, HW⟩ := hrel
    by_cases hjn : j < n
    · rcases (H.out.below HW.out).cells with h0 | ⟨b, off, rfl, _, hcell⟩
      · omega
      have hc := hcell j hjn
      have HT : Hid (l.take (j + 1) = l.take j ++ [l.getD j 0]) := by
        have : j < l.length := by rw [← HN.out]; exact hjn
        rw [List.take_add_one, List.getD_eq_getElem?_getD, List.getElem?_eq_getElem this]; exact rfl
      clear hcell
      generalize l.getD j 0 = y at *
      generalize l.take j = M at *
      have hs := HW.out.size
      have ho := HO.out
      go_wp2_with (first
        | (at_builtin; refine wpList_append_own_at _ rfl (.tmp 11) (.tmp 16) 22 rfl w.heap.size 5 i0 (.int .u8 0) 1 1 under22 hi hz0 hz1 hz2 rfl (by decide) _ _ _ rfl (ho.alloc _) ⟨wr.heap.size, 0, none⟩ 1 1 (bys [y]) rfl rfl (cell_one_new _ _ _) (bys_one _) (by unfold maxLen; omega) (by omega) (by simp; omega) ?_; intro v2 w2 hown' hgrow _ hat; have HO2 := Lib.hid hown'; have HW2 := Lib.hid ((HW.out.alloc hs _).grown hgrow (by simp; omega) (fun k hk => (ho.lt k hk).1)); clear hown' hgrow hat))
      go_roundw
      case rel => exact ⟨j + 1, by omega, by go_num, by rw [HT.out, bys_append]; exact HO2, HW2⟩
      case measure => simp [intOf]; omega
    · obtain rfl : j = n := by omega
      have ho := HO.out
      rw [List.take_of_length_le (by rw [← HN.out]; omega)] at ho
      have HO3 := Lib.hid ho
      obtain ⟨ao', cap', rfl⟩ := own_slice ho
      clear ho HO
      go_wp2
      go_ret
      exact ⟨_, _, rfl, HO3.out, HW.out⟩
set_option maxRecDepth 100000 in
theorem bytes_any {B C : Nat} {w : World} {ao bo : Option Addr} {n cap m bcap : Nat} {l k : List UInt8} (h : SB B w ao n cap l) (h2 : SB C w bo m bcap k) :
    Calls Try.prog 16 #[.slice ao n cap, .slice bo m bcap] w fun e w' => e = .returned (.bool (l == k)) ∧ w = w' := by
  have c1 := h.conv
  have c2 := h2.conv
  clear h h2
  go_enter Try.func16, Try.ntmps16
  go_wp2
  go_ret
  exact ⟨rfl, rfl⟩
theorem rframe_long {B : Nat} {w : World} {ao : Option Addr} {n cap : Nat} {l : List UInt8} (h : SB B w ao n cap l) (hl : 262144 < l.length) :
    Calls Try.prog 13 #[.slice ao n cap] w fun e w' => e = .returned (.tuple #[.slice none 0 0, .int .i64 2]) ∧ w = w' := by
  rw [← h.len] at hl
  clear h
  go_enter Try.func13, Try.ntmps13
  go_wp2
  go_ret2
  exact ⟨rfl, rfl⟩
theorem own_nil (w : World) : (w.alloc (.cells #[] 5)).ownsRow w.heap.size 5 1 (.slice (some ⟨w.heap.size, 0, none⟩) 0 0) ([] : List UInt8).length (bys []) := World.ownsRow_lit w #[] 0 (Nat.le_refl _) (by decide) rfl
/-- A step of a row that grows: what it owns, and what lies below it. -/
structure Gr (w : World) (B : Nat) (v : Value) (l : List UInt8) (w' : World) : Prop where
  own : w'.ownsRow B 5 1 v l.length (bys l)
  below : Below w.heap.size w w'
  base : w.heap.size ≤ B
  size : B ≤ w'.heap.size
theorem Gr.app {w w1 w2 : World} {B : Nat} {v v' : Value} {l m : List UInt8} (h : Gr w B v l w1) (ho : w2.ownsRow B 5 1 v' (l ++ m).length (bys (l ++ m))) (hg : w1.grownBy w2 v.ownBlock) : Gr w B v' (l ++ m) w2 :=
  have hb := own_below_grown h.own h.size hg
  ⟨ho, h.below.trans (hb.mono h.base), h.base, Nat.le_trans h.size hb.size⟩
theorem Gr.step {w w1 w2 : World} {B : Nat} {v : Value} {l : List UInt8} (h : Gr w B v l w1) (hb : Below w1.heap.size w1 w2) : Gr w B v l w2 :=
  ⟨own_below h.own hb, h.below.trans (hb.mono (Nat.le_trans h.base h.size)), h.base, Nat.le_trans h.size hb.size⟩
theorem Gr.hold {w w1 w2 : World} {B : Nat} {v : Value} {l : List UInt8} (h : Gr w B v l w1) (hg : w1.grownBy w2 v.ownBlock) : Below B w1 w2 := own_below_grown h.own h.size hg
theorem Gr.nil {w w1 : World} (h : Below w.heap.size w w1) : Gr w w1.heap.size (.slice (some ⟨w1.heap.size, 0, none⟩) 0 0) [] (w1.alloc (.cells #[] 5)) :=
  ⟨own_nil w1, h.trans ((below1 w1 _).mono h.size), h.size, by simp⟩
set_option maxRecDepth 100000 in
theorem rframe_any {w : World} {ao : Option Addr} {n cap : Nat} {l : List UInt8} (h : SB w.heap.size w ao n cap l) (hl : l.length ≤ 262144) :
    Calls Try.prog 13 #[.slice ao n cap] w fun e w' => ∃ v', e = .returned (.tuple #[v', .int .i64 0]) ∧ w'.ownsRow w.heap.size 5 1 v' (frameV l).length (bys (frameV l)) ∧ Below w.heap.size w w' := by
  have hn := h.len
  have hl2 : n ≤ 262144 := by omega
  have HN := Lib.hid hn
  have H := Lib.hid h
  have hw : IntKind.u32.wrap (n : Int) = n := wrapu32 (by omega)
  clear h hl hn
  go_enter Try.func13, Try.ntmps13
  go_wp2_with (first
    | (go_at_call 15; (refine (rsum_any H3.out).mono ?_); rintro e w' ⟨rfl, rfl⟩)
    | (go_at_call 15; (refine (rsum_any L1.out).mono ?_); rintro e w' ⟨rfl, rfl⟩)
    | (go_at_call 24; have t0 := G3; (refine (four_any _ (crc l)).mono ?_); rintro e w7 ⟨fc, rfl, fo, fb⟩; have F7 := Lib.hid (own_sb fo); have G7 := Lib.hid (G3.out.step fb); clear fo fb)
    | (go_at_call 24; have t0 := G1; (refine (four_any _ (crc (four n))).mono ?_); rintro e w5 ⟨fc, rfl, fo, fb⟩; have F5 := Lib.hid (own_sb fo); have G5 := Lib.hid (G1.out.step fb); have H5 := Lib.hid (H1.out.below (fb.mono (G1.out.below.size))); clear fo fb)
    | (go_at_call 24; (refine (four_any _ n).mono ?_); rintro e w1 ⟨fc, rfl, fo, fb⟩; have FL := Lib.hid (own_sb fo); have B1 := Lib.hid fb; clear fo fb)
    | (at_builtin; refine wpList_append_sb (wanted_none rfl _) (.tmp 13) (.tmp 14) rfl rfl (own_nil w1) (by simp) rfl (FL.out.below (below1 w1 _)) (by simp) ?_; intro v1 w4 ho1 hg1; have g0 := Gr.nil B1.out; have hb := g0.hold hg1; have L1 := Lib.hid ((FL.out.below (below1 w1 (.cells #[] 5))).below hb); have H1 := Lib.hid (((H.out.below B1.out).below (((below1 w1 (.cells #[] 5)).trans hb).mono B1.out.size))); have G1 := Lib.hid (g0.app ho1 hg1); clear ho1 hg1 g0 hb)
    | (at_builtin; refine wpList_append_sb (wanted_none rfl _) (.tmp 16) (.tmp 19) rfl rfl G5.out.own G5.out.size rfl F5.out (by simp [four_length]) ?_; intro v2 w6 ho1 hg1; have H3 := Lib.hid (H5.out.below ((G5.out.hold hg1).mono G5.out.base)); have G2 := Lib.hid (G5.out.app ho1 hg1); clear ho1 hg1)
    | (at_builtin; refine wpList_append_sb (wanted_none rfl _) (.tmp 21) (.tmp 22) rfl rfl G2.out.own G2.out.size rfl H3.out (by simp [four_length]; omega) ?_; intro v3 w8 ho1 hg1; have H3 := Lib.hid (H3.out.below ((G2.out.hold hg1).mono G2.out.base)); have G3 := Lib.hid (G2.out.app ho1 hg1); clear ho1 hg1)
    | (at_builtin; refine wpList_append_sb (wanted_none rfl _) (.tmp 24) (.tmp 27) rfl rfl G7.out.own G7.out.size rfl F7.out (by have := HN.out; simp [four_length]; omega) ?_; intro v4 w9 ho1 hg1; have G4 := Lib.hid (G7.out.app ho1 hg1); clear ho1 hg1))
  go_ret2
  refine ⟨_, rfl, own_mono ?_ G4.out.base, G4.out.below⟩
  have e : frameV l = [] ++ four n ++ four (crc (four n)) ++ l ++ four (crc l) := by
    unfold frameV; rw [HN.out]; simp
  rw [e]
  exact G4.out.own
end Go.Proofs.Ytcpncmdnefemmaa
