/- raceref5.four, Frame; raceref.CopyBytes, Bytes. Conditions: no more than 2^47 bytes in all. frame.number, summed, first; bytes.Clone. Conditions: none of its own. frame.first (the record with which bytes begin) and bytes.Clone. Conditions: none of its own. Slices of slices of bytes: those that came in, and rows of records of the call's own. Conditions: none of its own. frame.Scan tells the records of the frames at the beginning, and where they end. Conditions: at most 1000000 bytes. Rows of records of the call's own, of which one record is turned or laid anew. Conditions: none of its own. -/
import Derived.Test.YtkilkhnoldfhcaaGreatDoorFrD
namespace Go.Proofs.YtkilkhnoldfhcaaGreatDoor.Fr
open Go.RowKit
set_option maxRecDepth 100000 in
theorem four_any (w : World) (N : Nat) :
    Calls Tryz.prog 112 #[.int .u32 (N : Nat)] w fun e w' => ∃ c, e = .returned (.slice (some ⟨w.heap.size, 0, none⟩) 4 c) ∧ w'.ownsRow w.heap.size 5 1 (.slice (some ⟨w.heap.size, 0, none⟩) 4 c) 4 (bys (four N)) ∧ Below w.heap.size w w' := by
  have e1 : IntKind.u8.wrap (N : Int) = ((UInt8.ofNat (N % 256)).toNat : Int) := by rw [ofNat_toNat (by omega)]; exact wrapu8
  have e2 : IntKind.u8.wrap ((N : Int) / 256) = ((UInt8.ofNat (N / 256 % 256)).toNat : Int) := by rw [ofNat_toNat (by omega)]; exact wrapu8 (n := N / 256)
  have e3 : IntKind.u8.wrap ((N : Int) / 65536) = ((UInt8.ofNat (N / 65536 % 256)).toNat : Int) := by rw [ofNat_toNat (by omega)]; exact wrapu8 (n := N / 65536)
  have e4 : IntKind.u8.wrap ((N : Int) / 16777216) = ((UInt8.ofNat (N / 16777216 % 256)).toNat : Int) := by rw [ofNat_toNat (by omega)]; exact wrapu8 (n := N / 16777216)
  have HF : Hid (four N = [UInt8.ofNat (N % 256), UInt8.ofNat (N / 256 % 256), UInt8.ofNat (N / 65536 % 256), UInt8.ofNat (N / 16777216 % 256)]) := rfl
  generalize UInt8.ofNat (N % 256) = a at *
  generalize UInt8.ofNat (N / 256 % 256) = b at *
  generalize UInt8.ofNat (N / 65536 % 256) = c at *
  generalize UInt8.ofNat (N / 16777216 % 256) = d at *
  go_enter Tryz.func112, Tryz.ntmps112
  go_wp2
  go_ret
  refine ⟨4, rfl, ?_, below1 _ _⟩
  rw [HF.out]
  exact World.ownsRow_lit w (bys [a, b, c, d]).toArray 4 (Nat.le_refl _) (by decide) rfl
set_option maxRecDepth 100000 in
theorem copyBytes_any {w : World} {ao : Option Addr} {n cap : Nat} {l : List UInt8} (h : SB w.heap.size w ao n cap l) (hroom : n ≤ 140737488355328) :
    Calls Tryz.prog 26 #[.slice ao n cap] w fun e w' => ∃ ao' cap', e = .returned (.slice ao' n cap') ∧ w'.ownsRow w.heap.size 5 1 (.slice ao' n cap') n (bys l) ∧ Below w.heap.size w w' := by
  obtain ⟨i0, hi, hz0, hz1, hz2⟩ := info_parts info5
  have hn := h.len
  have HN := Lib.hid hn
  have H := Lib.hid h
  clear h hn
  go_enter Tryz.func26, Tryz.ntmps26
  go_wp2
  go_loopw [3, 4] (fun b i wr => ∃ j : Nat, j ≤ n ∧ i = .int .i64 j ∧ Hid (wr.ownsRow w.heap.size 5 1 b j (bys (l.take j))) ∧ Hid (Below w.heap.size w wr)) (fun _ i _ => n - (intOf i).toNat)
  case atStart => exact ⟨0, by omega, rfl, World.ownsRow_nil _ _ _ _, Below.refl _ _⟩
  case round =>
    obtain ⟨j, hj, rfl, HO, HW⟩ := hrel
    by_cases hjn : j < n
    · rcases (H.out.below HW.out).cells with h0 | ⟨b, off, rfl, _, hcell⟩
      · omega
      have hc := hcell j hjn
      have HT : Hid (l.take (j + 1) = l.take j ++ [l.getD j 0]) := by
        have : j < l.length := by rw [← HN.out]; exact hjn
        rw [List.take_add_one, List.getD_eq_getElem?_getD, List.getElem?_eq_getElem this]; exact rfl
      clear hcell
      generalize l.getD j 0 = y at *
      generalize l.take j = M at *
      have hs := HW.out.size
      have ho := HO.out
      go_wp2_with (first
        | (at_builtin; refine wpList_append_own_at _ rfl (.tmp 11) (.tmp 16) 36 rfl w.heap.size 5 i0 (.int .u8 0) 1 1 under22 hi hz0 hz1 hz2 rfl (by decide) _ _ _ rfl (ho.alloc _) ⟨wr.heap.size, 0, none⟩ 1 1 (bys [y]) rfl rfl (cell_one_new _ _ _) (bys_one _) (by unfold maxLen; omega) (by omega) (by simp; omega) ?_; intro v2 w2 hown' hgrow _ hat; have HO2 := Lib.hid hown'; have HW2 := Lib.hid ((HW.out.alloc hs _).grown hgrow (by simp; omega) (fun k hk => (ho.lt k hk).1)); clear hown' hgrow hat))
      go_roundw
      case rel => exact ⟨j + 1, by omega, by go_num, by rw [HT.out, bys_append]; exact HO2, HW2⟩
      case measure => simp [intOf]; omega
    · obtain rfl : j = n := by omega
      have ho := HO.out
      rw [List.take_of_length_le (by rw [← HN.out]; omega)] at ho
      have HO3 := Lib.hid ho
      obtain ⟨ao', cap', rfl⟩ := own_slice ho
      clear ho HO
      go_wp2
      go_ret
      exact ⟨_, _, rfl, HO3.out, HW.out⟩
set_option maxRecDepth 100000 in
theorem bytes_any {B C : Nat} {w : World} {ao bo : Option Addr} {n cap m bcap : Nat} {l k : List UInt8} (h : SB B w ao n cap l) (h2 : SB C w bo m bcap k) :
    Calls Tryz.prog 40 #[.slice ao n cap, .slice bo m bcap] w fun e w' => e = .returned (.bool (l == k)) ∧ w = w' := by
  have c1 := h.conv
  have c2 := h2.conv
  clear h h2
  go_enter Tryz.func40, Tryz.ntmps40
  go_wp2
  go_ret
  exact ⟨rfl, rfl⟩
theorem rframe_long {B : Nat} {w : World} {ao : Option Addr} {n cap : Nat} {l : List UInt8} (h : SB B w ao n cap l) (hl : 262144 < l.length) :
    Calls Tryz.prog 88 #[.slice ao n cap] w fun e w' => e = .returned (.tuple #[.slice none 0 0, .int .i64 2]) ∧ w = w' := by
  rw [← h.len] at hl
  clear h
  go_enter Tryz.func88, Tryz.ntmps88
  go_wp2
  go_ret2
  exact ⟨rfl, rfl⟩
theorem own_nil (w : World) : (w.alloc (.cells #[] 5)).ownsRow w.heap.size 5 1 (.slice (some ⟨w.heap.size, 0, none⟩) 0 0) ([] : List UInt8).length (bys []) := World.ownsRow_lit w #[] 0 (Nat.le_refl _) (by decide) rfl
/-- A step of a row that grows: what it owns, and what lies below it. -/
structure Gr (w : World) (B : Nat) (v : Value) (l : List UInt8) (w' : World) : Prop where
  own : w'.ownsRow B 5 1 v l.length (bys l)
  below : Below w.heap.size w w'
  base : w.heap.size ≤ B
  size : B ≤ w'.heap.size
theorem Gr.app {w w1 w2 : World} {B : Nat} {v v' : Value} {l m : List UInt8} (h : Gr w B v l w1) (ho : w2.ownsRow B 5 1 v' (l ++ m).length (bys (l ++ m))) (hg : w1.grownBy w2 v.ownBlock) : Gr w B v' (l ++ m) w2 :=
  have hb := own_below_grown h.own h.size hg
  ⟨ho, h.below.trans (hb.mono h.base), h.base, Nat.le_trans h.size hb.size⟩
theorem Gr.step {w w1 w2 : World} {B : Nat} {v : Value} {l : List UInt8} (h : Gr w B v l w1) (hb : Below w1.heap.size w1 w2) : Gr w B v l w2 :=
  ⟨own_below h.own hb, h.below.trans (hb.mono (Nat.le_trans h.base h.size)), h.base, Nat.le_trans h.size hb.size⟩
theorem Gr.hold {w w1 w2 : World} {B : Nat} {v : Value} {l : List UInt8} (h : Gr w B v l w1) (hg : w1.grownBy w2 v.ownBlock) : Below B w1 w2 := own_below_grown h.own h.size hg
theorem Gr.nil {w w1 : World} (h : Below w.heap.size w w1) : Gr w w1.heap.size (.slice (some ⟨w1.heap.size, 0, none⟩) 0 0) [] (w1.alloc (.cells #[] 5)) :=
  ⟨own_nil w1, h.trans ((below1 w1 _).mono h.size), h.size, by simp⟩
set_option maxRecDepth 100000 in
theorem rframe_any {w : World} {ao : Option Addr} {n cap : Nat} {l : List UInt8} (h : SB w.heap.size w ao n cap l) (hl : l.length ≤ 262144) :
    Calls Tryz.prog 88 #[.slice ao n cap] w fun e w' => ∃ v', e = .returned (.tuple #[v', .int .i64 0]) ∧ w'.ownsRow w.heap.size 5 1 v' (frameV l).length (bys (frameV l)) ∧ Below w.heap.size w w' := by
  have hn := h.len
  have hl2 : n ≤ 262144 := by omega
  have HN := Lib.hid hn
  have H := Lib.hid h
  have hw : IntKind.u32.wrap (n : Int) = n := wrapu32 (by omega)
  clear h hl hn
  go_enter Tryz.func88, Tryz.ntmps88
  go_wp2_with (first
    | (go_at_call 113; (refine (rsum_any H3.out).mono ?_); rintro e w' ⟨rfl, rfl⟩)
    | (go_at_call 113; (refine (rsum_any L1.out).mono ?_); rintro e w' ⟨rfl, rfl⟩)
    | (go_at_call 112; have t0 := G3; (refine (four_any _ (crc l)).mono ?_); rintro e w7 ⟨fc, rfl, fo, fb⟩; have F7 := Lib.hid (own_sb fo); have G7 := Lib.hid (G3.out.step fb); clear fo fb)
    | (go_at_call 112; have t0 := G1; (refine (four_any _ (crc (four n))).mono ?_); rintro e w5 ⟨fc, rfl, fo, fb⟩; have F5 := Lib.hid (own_sb fo); have G5 := Lib.hid (G1.out.step fb); have H5 := Lib.hid (H1.out.below (fb.mono (G1.out.below.size))); clear fo fb)
    | (go_at_call 112; (refine (four_any _ n).mono ?_); rintro e w1 ⟨fc, rfl, fo, fb⟩; have FL := Lib.hid (own_sb fo); have B1 := Lib.hid fb; clear fo fb)
    | (at_builtin; refine wpList_append_sb (wanted_none rfl _) (.tmp 13) (.tmp 14) rfl rfl (own_nil w1) (by simp) rfl (FL.out.below (below1 w1 _)) (by simp) ?_; intro v1 w4 ho1 hg1; have g0 := Gr.nil B1.out; have hb := g0.hold hg1; have L1 := Lib.hid ((FL.out.below (below1 w1 (.cells #[] 5))).below hb); have H1 := Lib.hid (((H.out.below B1.out).below (((below1 w1 (.cells #[] 5)).trans hb).mono B1.out.size))); have G1 := Lib.hid (g0.app ho1 hg1); clear ho1 hg1 g0 hb)
    | (at_builtin; refine wpList_append_sb (wanted_none rfl _) (.tmp 16) (.tmp 19) rfl rfl G5.out.own G5.out.size rfl F5.out (by simp [four_length]) ?_; intro v2 w6 ho1 hg1; have H3 := Lib.hid (H5.out.below ((G5.out.hold hg1).mono G5.out.base)); have G2 := Lib.hid (G5.out.app ho1 hg1); clear ho1 hg1)
    | (at_builtin; refine wpList_append_sb (wanted_none rfl _) (.tmp 21) (.tmp 22) rfl rfl G2.out.own G2.out.size rfl H3.out (by simp [four_length]; omega) ?_; intro v3 w8 ho1 hg1; have H3 := Lib.hid (H3.out.below ((G2.out.hold hg1).mono G2.out.base)); have G3 := Lib.hid (G2.out.app ho1 hg1); clear ho1 hg1)
    | (at_builtin; refine wpList_append_sb (wanted_none rfl _) (.tmp 24) (.tmp 27) rfl rfl G7.out.own G7.out.size rfl F7.out (by have := HN.out; simp [four_length]; omega) ?_; intro v4 w9 ho1 hg1; have G4 := Lib.hid (G7.out.app ho1 hg1); clear ho1 hg1))
  go_ret2
  refine ⟨_, rfl, own_mono ?_ G4.out.base, G4.out.below⟩
  have e : frameV l = [] ++ four n ++ four (crc (four n)) ++ l ++ four (crc l) := by
    unfold frameV; rw [HN.out]; simp
  rw [e]
  exact G4.out.own
end Go.Proofs.YtkilkhnoldfhcaaGreatDoor.Fr
namespace Go.Proofs.YtkilkhnoldfhcaaGreatDoor.Fr
open Go.RowKit
theorem le_snoc : ∀ (l : List UInt8) (x : UInt8), le (l ++ [x]) = le l + x.toNat * 256 ^ l.length
  | [], x => by simp [le]
  | y :: l, x => by
    have := le_snoc l x
    simp only [List.cons_append, le, this, List.length_cons, Nat.pow_succ, Nat.mul_add]
    rw [Nat.mul_comm 256 (x.toNat * 256 ^ l.length), Nat.mul_assoc]
    omega
theorem le_bd : ∀ (l : List UInt8), le l < 256 ^ l.length
  | [] => by simp [le]
  | y :: l => by
    have := le_bd l
    have h := byte_lt y
    simp only [le, List.length_cons, Nat.pow_succ]
    omega
theorem or_add {i u x : Nat} (h : u < 2 ^ i) : u ||| x * 2 ^ i = u + x * 2 ^ i := by
  rw [Nat.or_comm, Nat.mul_comm, ← Nat.two_pow_add_eq_or_of_lt h, Nat.add_comm]
theorem or_byte {r x k : Nat} (hk : k < 4) (hx : x < 256) (hr : r < 256 ^ k) : bits .or .u32 (r : Int) ((x : Int) * 2 ^ (k * 8) % 4294967296) = ((r + x * 256 ^ k : Nat) : Int) := by
  have e : 256 ^ k = 2 ^ (k * 8) := by rw [show 256 = 2 ^ 8 from rfl, ← Nat.pow_mul, Nat.mul_comm]
  have h1 : x * 2 ^ (k * 8) < 4294967296 := by
    have : k = 0 ∨ k = 1 ∨ k = 2 ∨ k = 3 := by omega
    rcases this with rfl | rfl | rfl | rfl <;> omega
  have h2 : r < 4294967296 := by
    have : k = 0 ∨ k = 1 ∨ k = 2 ∨ k = 3 := by omega
    rcases this with rfl | rfl | rfl | rfl <;> omega
  have e2 : ((x : Int) * 2 ^ (k * 8) % 4294967296) = ((x * 2 ^ (k * 8) : Nat) : Int) := by
    have : ((x : Int) * 2 ^ (k * 8)) = ((x * 2 ^ (k * 8) : Nat) : Int) := by rw [Int.natCast_mul, Int.natCast_pow]; rfl
    rw [this]
    exact Int.emod_eq_of_lt (by omega) (by omega)
  rw [e2, bor32 h2 h1, e, or_add (by rw [← e]; exact hr)]
set_option maxRecDepth 100000 in
theorem number_any {B : Nat} {w : World} {ao : Option Addr} {n cap : Nat} {l : List UInt8} (h : SB B w ao n cap l) (h4 : n = 4) : Calls Tryz.prog 158 #[.slice ao n cap] w fun e w' => e = .returned (.int .u32 (le l : Nat)) ∧ w = w' := by
  have hlen := h.len
  have HL := Lib.hid hlen
  have H := Lib.hid h
  clear h hlen
  subst h4
  go_enter Tryz.func158, Tryz.ntmps158
  go_wp2
  go_loop [3, 8] (fun r i => ∃ k : Nat, k ≤ 4 ∧ i = .int .i64 k ∧ r = .int .u32 (le (l.take k) : Nat)) (fun _ i => 4 - (intOf i).toNat)
  case atStart => exact ⟨0, Nat.zero_le _, rfl, rfl⟩
  case round =>
    obtain ⟨k, hk, rfl, rfl⟩ := hrel
    by_cases hk4 : k < 4
    · rcases H.out.cells with h0 | ⟨b, off, rfl, _, hcell⟩
      · omega
      have hc := hcell k hk4
      have hT : l.take (k + 1) = l.take k ++ [l.getD k 0] := by
        have : k < l.length := by rw [← HL.out]; exact hk4
        rw [List.take_add_one, List.getD_eq_getElem?_getD, List.getElem?_eq_getElem this]; exact rfl
      have hx := byte_lt (l.getD k 0)
      have hM : (l.take k).length = k := by rw [List.length_take, ← HL.out]; omega
      have hb := le_bd (l.take k)
      rw [hM] at hb
      have HS : Hid (le (l.take (k + 1)) = le (l.take k) + (l.getD k 0).toNat * 256 ^ k) := by rw [hT, le_snoc, hM]; exact rfl
      clear hcell hT hM
      generalize le (l.take k) = r at *
      generalize (l.getD k 0).toNat = x at *
      have e1 : IntKind.u32.wrap (x : Int) = x := wrapu32 (by omega)
      have HO := Lib.hid (or_byte hk4 hx hb)
      go_wp2
      exact ⟨⟨k + 1, by omega, by go_num, by rw [HS.out, HO.out]⟩, by simp [intOf]; omega⟩
    · obtain rfl : k = 4 := by omega
      have HT : Hid (l.take 4 = l) := List.take_of_length_le (by rw [← HL.out]; omega)
      rw [HT.out]
      go_wp2
      go_ret
      exact ⟨rfl, rfl⟩
section
variable {B : Nat} {w : World} {ao : Option Addr} {n cap : Nat} {l : List UInt8}
theorem SB.top (h : SB B w ao n cap l) {hi : Nat} (h1 : hi ≤ n) : SB B w ao hi cap (l.take hi) := by
  have hl := h.len
  have hc := h.le
  refine ⟨by rw [List.length_take]; omega, by omega, h.max, h.nil, ?_⟩
  by_cases hz : hi = 0
  · exact .inl hz
  rcases h.cells with h0 | ⟨b, off, rfl, hB, hcell⟩
  · omega
  · refine .inr ⟨b, off, rfl, hB, fun i hi => ?_⟩
    rw [hcell i (by omega), List.getD_eq_getElem?_getD, List.getD_eq_getElem?_getD, List.getElem?_take_of_lt hi]
theorem SB.mid (h : SB B w ao n cap l) {lo m c : Nat} (h1 : lo + m ≤ n) (hc : c = cap - lo) : SB B w (Option.map (fun x => x.add lo) ao) m c ((l.drop lo).take m) := by
  have hl := h.len
  have hle := h.le
  have hmx := h.max
  subst hc
  refine ⟨by rw [List.length_take, List.length_drop]; omega, by omega, by omega, ?_, ?_⟩
  · intro e
    have : ao = none := by simpa using e
    have := h.nil this
    omega
  · by_cases hz : m = 0
    · exact .inl hz
    · rcases h.cells with h0 | ⟨b, off, rfl, hB, hcell⟩
      · omega
      · refine .inr ⟨b, off + lo, by simp [Addr.add], hB, fun i hi => ?_⟩
        rw [Nat.add_assoc, hcell (lo + i) (by omega), List.getD_eq_getElem?_getD, List.getD_eq_getElem?_getD, List.getElem?_take_of_lt hi, List.getElem?_drop]
theorem SB.end_ (h : SB B w ao n cap l) {lo m c : Nat} (h1 : lo ≤ n) (hm : m = n - lo) (hc : c = cap - lo) : SB B w (Option.map (fun x => x.add lo) ao) m c (l.drop lo) := by
  have := h.mid (lo := lo) (m := n - lo) (c := c) (by omega) hc
  rw [List.take_of_length_le (by rw [List.length_drop, h.len]; omega)] at this
  rw [hm]
  exact this
end
theorem sum_len {l : List UInt8} {k : Nat} (hs : sumB l k = true) : k + 4 ≤ l.length := by
  unfold sumB at hs
  rw [Bool.and_eq_true, decide_eq_true_eq] at hs
  exact hs.1
theorem beq_int (a b : Nat) : ((a : Int) == (b : Int)) = (a == b) := by
  by_cases h : a = b
  · subst h; simp
  · rw [beq_eq_false_iff_ne.2 h, beq_eq_false_iff_ne]; omega
set_option maxRecDepth 100000 in
theorem summed_yes {w : World} {ao : Option Addr} {n cap : Nat} {l : List UInt8} (h : SB w.heap.size w ao n cap l) (k : Nat) (hs : sumB l k = true) : Calls Tryz.prog 157 #[.slice ao n cap, .int .i64 (k : Nat)] w fun e w' => e = .returned (.tuple #[.slice ao k cap, .bool true]) ∧ Below w.heap.size w w' := by
  have hmax := h.max
  have hle := h.le
  have hk : k + 4 ≤ n := by rw [h.len]; exact sum_len hs
  unfold maxLen at hmax
  have HN := Lib.hid (h.mid (lo := k) (m := 4) (c := cap - k) hk rfl)
  have HT := Lib.hid (h.top (hi := k) (by omega))
  have ht : ((le ((l.drop k).take 4) : Int) != (crc (l.take k) : Int)) = false := by
    unfold sumB at hs
    rw [Bool.and_eq_true] at hs
    rw [bne_eq_false_iff_eq, eq_of_beq hs.2]
  clear h hs
  generalize hle4 : le ((l.drop k).take 4) = a at *
  generalize hcr : crc (l.take k) = b at *
  have HA := Lib.hid hle4
  have HC := Lib.hid hcr
  clear hle4 hcr
  go_enter Tryz.func157, Tryz.ntmps157
  go_wp2_with (first
    | (go_at_call 158; (refine (number_any HN.out (by omega)).mono ?_); rw [HA.out]; rintro e w1 ⟨rfl, rfl⟩)
    | (go_at_call 125; (refine (sum_any HT.out).mono ?_); rw [HC.out]; rintro e w2 ⟨rfl, hb⟩; have HB := Lib.hid hb; clear hb))
  go_ret2
  exact ⟨rfl, HB.out⟩
set_option maxRecDepth 100000 in
theorem summed_no {w : World} {ao : Option Addr} {n cap : Nat} {l : List UInt8} (h : SB w.heap.size w ao n cap l) (k : Nat) (hk0 : k ≤ 4294967296) (hs : sumB l k = false) : Calls Tryz.prog 157 #[.slice ao n cap, .int .i64 (k : Nat)] w fun e w' => e = .returned (.tuple #[.slice none 0 0, .bool false]) ∧ Below w.heap.size w w' := by
  have hmax := h.max
  have hle := h.le
  have hlen := h.len
  unfold maxLen at hmax
  by_cases hk : k + 4 ≤ n
  · have HN := Lib.hid (h.mid (lo := k) (m := 4) (c := cap - k) hk rfl)
    have HT := Lib.hid (h.top (hi := k) (by omega))
    have ht : ((le ((l.drop k).take 4) : Int) != (crc (l.take k) : Int)) = true := by
      unfold sumB at hs
      rw [← hlen, decide_eq_true hk, Bool.true_and, beq_eq_false_iff_ne] at hs
      rw [bne_iff_ne]
      omega
    clear h hs hlen
    generalize hle4 : le ((l.drop k).take 4) = a at *
    generalize hcr : crc (l.take k) = b at *
    have HA := Lib.hid hle4
    have HC := Lib.hid hcr
    clear hle4 hcr
    go_enter Tryz.func157, Tryz.ntmps157
    go_wp2_with (first
      | (go_at_call 158; (refine (number_any HN.out (by omega)).mono ?_); rw [HA.out]; rintro e w1 ⟨rfl, rfl⟩)
      | (go_at_call 125; (refine (sum_any HT.out).mono ?_); rw [HC.out]; rintro e w2 ⟨rfl, hb⟩; have HB := Lib.hid hb; clear hb))
    go_ret2
    exact ⟨rfl, HB.out⟩
  · clear h hs hlen
    go_enter Tryz.func157, Tryz.ntmps157
    go_wp2
    go_ret2
    exact ⟨rfl, Below.refl _ _⟩
end Go.Proofs.YtkilkhnoldfhcaaGreatDoor.Fr
namespace Go.Proofs.YtkilkhnoldfhcaaGreatDoor.Fr
open Go.RowKit
theorem summed4_yes {w : World} {ao : Option Addr} {n cap : Nat} {l : List UInt8} (h : SB w.heap.size w ao n cap l) (hs : sumB l 4 = true) : Calls Tryz.prog 157 #[.slice ao n cap, .int .i64 4] w fun e w' => e = .returned (.tuple #[.slice ao 4 cap, .bool true]) ∧ Below w.heap.size w w' := summed_yes h 4 hs
theorem summed4_no {w : World} {ao : Option Addr} {n cap : Nat} {l : List UInt8} (h : SB w.heap.size w ao n cap l) (hs : sumB l 4 = false) : Calls Tryz.prog 157 #[.slice ao n cap, .int .i64 4] w fun e w' => e = .returned (.tuple #[.slice none 0 0, .bool false]) ∧ Below w.heap.size w w' := summed_no h 4 (by decide) hs
theorem SB.from8 {B : Nat} {w : World} {ao : Option Addr} {n cap : Nat} {l : List UInt8} (h : SB B w ao n cap l) (h1 : 8 ≤ n) : SB B w (Option.map (fun x => ({ block := x.block, off := x.off + 8 } : Addr)) ao) (n - 8) (cap - 8) (l.drop 8) := h.end_ (lo := 8) h1 rfl rfl
set_option maxRecDepth 100000 in
theorem first_yes {w : World} {ao : Option Addr} {n cap : Nat} {l p : List UInt8} (h : SB w.heap.size w ao n cap l) (hs : firstV l = some p) : Calls Tryz.prog 137 #[.slice ao n cap] w fun e w' => ∃ ao' c', e = .returned (.tuple #[.slice ao' p.length c', .bool true]) ∧ SB w.heap.size w ao' p.length c' p ∧ Below w.heap.size w w' := by
  have hfl := first_len hs
  have hlen := h.len
  have hle := h.le
  have hmax := h.max
  unfold maxLen at hmax
  unfold firstV at hs
  split at hs
  case isFalse => cases hs
  rename_i s1
  split at hs
  · cases hs
  split at hs
  case isFalse => cases hs
  rename_i hn s2
  have hp : p.length = le (l.take 4) := by
    obtain rfl := Option.some.inj hs
    have := sum_len s2
    rw [List.length_take]; omega
  have HP := Lib.hid (Option.some.inj hs)
  rw [hp]
  have h12 : 12 ≤ n := by omega
  have HQ := Lib.hid hp
  clear hs
  have HT := Lib.hid (h.top (hi := 4) (by omega))
  have HE := Lib.hid (h.from8 (by omega))
  have S1 := Lib.hid s1
  have S2 := Lib.hid s2
  have H := Lib.hid h
  have hlt := le_lt (l := l.take 4) (by rw [List.length_take]; omega)
  clear s1 s2 h hp hfl hlen
  generalize he : le (l.take 4) = a at *
  have HA := Lib.hid he
  clear he
  have ew : IntKind.i64.wrap (a : Int) = a := IntWalk.i64_in _ (by omega)
  go_enter Tryz.func137, Tryz.ntmps137
  go_wp2_with (first
    | (go_at_call 157; have t0 := HB; (with_reducible refine (summed_yes ((HE.out.below HB.out).mono HB.out.size) a S2.out).mono ?_); rintro e w2 ⟨rfl, hb⟩; have HB2 := Lib.hid (HB.out.trans (hb.mono HB.out.size)); clear hb)
    | (go_at_call 157; (with_reducible refine (summed4_yes H.out S1.out).mono ?_); rintro e w1 ⟨rfl, hb⟩; have HB := Lib.hid hb; clear hb)
    | (go_at_call 158; (with_reducible refine (number_any (HT.out.below HB.out) rfl).mono ?_); rw [HA.out]; rintro e w' ⟨rfl, rfl⟩))
  go_ret2
  refine ⟨_, _, rfl, ?_, HB2.out⟩
  rw [← HP.out]
  exact HE.out.top (by have := sum_len S2.out; rw [← HE.out.len] at this; omega)
set_option maxRecDepth 100000 in
theorem first_no {w : World} {ao : Option Addr} {n cap : Nat} {l : List UInt8} (h : SB w.heap.size w ao n cap l) (hs : firstV l = none) : Calls Tryz.prog 137 #[.slice ao n cap] w fun e w' => e = .returned (.tuple #[.slice none 0 0, .bool false]) ∧ Below w.heap.size w w' := by
  have hlen := h.len
  have hle := h.le
  have hmax := h.max
  unfold maxLen at hmax
  have H := Lib.hid h
  unfold firstV at hs
  split at hs
  case isFalse s1 =>
    have S1 := Lib.hid (show sumB l 4 = false by simpa using s1)
    clear s1 hs hlen h
    go_enter Tryz.func137, Tryz.ntmps137
    go_wp2_with (first
      | (go_at_call 157; (with_reducible refine (summed4_no H.out S1.out).mono ?_); rintro e w1 ⟨rfl, hb⟩; have HB := Lib.hid hb; clear hb))
    go_ret2
    exact ⟨rfl, HB.out⟩
  rename_i s1
  have h8 : 8 ≤ n := by have := sum_len s1; omega
  have S1 := Lib.hid s1
  have HT := Lib.hid (h.top (hi := 4) (by omega))
  have hlt := le_lt (l := l.take 4) (by rw [List.length_take]; omega)
  split at hs
  · rename_i hn
    clear hs s1 hlen h
    generalize he : le (l.take 4) = a at *
    have HA := Lib.hid he
    clear he
    go_enter Tryz.func137, Tryz.ntmps137
    go_wp2_with (first
      | (go_at_call 157; (with_reducible refine (summed4_yes H.out S1.out).mono ?_); rintro e w1 ⟨rfl, hb⟩; have HB := Lib.hid hb; clear hb)
      | (go_at_call 158; (with_reducible refine (number_any (HT.out.below HB.out) rfl).mono ?_); rw [HA.out]; rintro e w' ⟨rfl, rfl⟩))
    go_ret2
    exact ⟨rfl, HB.out⟩
  split at hs
  · cases hs
  rename_i hn s2
  have S2 := Lib.hid (show sumB (l.drop 8) (le (l.take 4)) = false by simpa using s2)
  clear hs s1 s2
  by_cases h8c : cap = 8
  · have hn8 : n = 8 := by omega
    subst hn8
    have HE : Hid (SB w.heap.size w ao (8 - 8) 0 (l.drop 8)) := ⟨by rw [List.length_drop]; omega, by omega, by decide, fun _ => rfl, .inl rfl⟩
    clear h hlen
    subst h8c
    generalize he : le (l.take 4) = a at *
    have HA := Lib.hid he
    clear he
    have ew : IntKind.i64.wrap (a : Int) = a := IntWalk.i64_in _ (by omega)
    go_enter Tryz.func137, Tryz.ntmps137
    go_wp2_with (first
      | (go_at_call 157; have t0 := HB; (refine (summed_no ((HE.out.below HB.out).mono HB.out.size) a (by omega) S2.out).mono ?_); rintro e w2 ⟨rfl, hb⟩; have HB2 := Lib.hid (HB.out.trans (hb.mono HB.out.size)); clear hb)
      | (go_at_call 157; (with_reducible refine (summed4_yes H.out S1.out).mono ?_); rintro e w1 ⟨rfl, hb⟩; have HB := Lib.hid hb; clear hb)
      | (go_at_call 158; (with_reducible refine (number_any (HT.out.below HB.out) rfl).mono ?_); rw [HA.out]; rintro e w' ⟨rfl, rfl⟩))
    go_ret2
    exact ⟨rfl, HB2.out⟩
  · have HE := Lib.hid (h.from8 (by omega))
    clear h hlen
    generalize he : le (l.take 4) = a at *
    have HA := Lib.hid he
    clear he
    have ew : IntKind.i64.wrap (a : Int) = a := IntWalk.i64_in _ (by omega)
    go_enter Tryz.func137, Tryz.ntmps137
    go_wp2_with (first
      | (go_at_call 157; have t0 := HB; (with_reducible refine (summed_no ((HE.out.below HB.out).mono HB.out.size) a (by omega) S2.out).mono ?_); rintro e w2 ⟨rfl, hb⟩; have HB2 := Lib.hid (HB.out.trans (hb.mono HB.out.size)); clear hb)
      | (go_at_call 157; (with_reducible refine (summed4_yes H.out S1.out).mono ?_); rintro e w1 ⟨rfl, hb⟩; have HB := Lib.hid hb; clear hb)
      | (go_at_call 158; (with_reducible refine (number_any (HT.out.below HB.out) rfl).mono ?_); rw [HA.out]; rintro e w' ⟨rfl, rfl⟩))
    go_ret2
    exact ⟨rfl, HB2.out⟩
set_option maxRecDepth 100000 in
theorem clone_any {B : Nat} {w : World} {ao : Option Addr} {n cap : Nat} {l : List UInt8} (h : SB B w ao n cap l) (hB : B ≤ w.heap.size) (hroom : n ≤ 140737488355328) : Calls Tryz.prog 57 #[.slice ao n cap] w fun e w' => ∃ v', e = .returned v' ∧ w'.ownsRow w.heap.size 5 1 v' l.length (bys l) ∧ Below w.heap.size w w' := by
  have H := Lib.hid h
  cases ao with
  | none =>
    have h0 := h.nil rfl
    have h1 := h.le
    have h2 := h.len
    obtain rfl : cap = 0 := h0
    obtain rfl : n = 0 := by omega
    obtain rfl : l = [] := List.eq_nil_of_length_eq_zero h2.symm
    clear H h1 h2 h
    have hq := fun w => Lib.run_eql_slice_nil (P := Tryz.prog) w 36 5 none 0 0 0 0 under22
    go_enter Tryz.func57, Tryz.ntmps57
    go_wp2
    go_ret
    exact ⟨_, rfl, World.ownsRow_nil _ _ _ _, Below.refl _ _⟩
  | some ad =>
    clear h
    have hq := fun w => Lib.run_eql_slice_nil (P := Tryz.prog) w 36 5 (some ad) n cap 0 0 under22
    go_enter Tryz.func57, Tryz.ntmps57
    go_wp2_with (first
      | (at_builtin; refine wpList_append_sb (wanted_none rfl _) (.tmp 5) (.tmp 6) rfl rfl (own_nil w) (by simp) rfl ((H.out.below ((below1 w _).mono hB))) (by simpa using hroom) ?_; intro v1 w1 ho1 hg1; have hb := (below1 w (.cells #[] 5)).trans (own_below_grown (own_nil w) (by simp) hg1); have HB := Lib.hid hb; rw [List.nil_append] at ho1; have HO := Lib.hid ho1; clear ho1 hg1 hb))
    go_ret
    exact ⟨_, rfl, HO.out, HB.out⟩
end Go.Proofs.YtkilkhnoldfhcaaGreatDoor.Fr
namespace Go.Proofs.YtkilkhnoldfhcaaGreatDoor.Fr
open Go.RowKit
theorem info22 : (Tryz.prog.info? 36).map (fun i => (i.zero, i.size, i.bytes)) = some (some (.slice none 0 0), 1, 24) := by kernel_rfl
theorem under33 : Tryz.prog.underlying 57 = some (.slice 36) := by kernel_rfl
/-- A slice of slices of bytes, as it reads; what is read lies below block B. -/
structure RB (B : Nat) (w : World) (ao : Option Addr) (n cap : Nat) (L : List (List UInt8)) : Prop where
  len : n = L.length
  le : n ≤ cap
  max : cap ≤ maxLen
  nil : ao = none → cap = 0
  cells : n = 0 ∨ ∃ b off, ao = some ⟨b, off, none⟩ ∧ b < B ∧ ∀ i, i < n → ∃ ro m c, w.cell? ⟨b, off + i, none⟩ = some (.slice ro m c) ∧ SB B w ro m c (L.getD i [])
section
variable {B C : Nat} {w w' : World} {ao : Option Addr} {n cap : Nat} {L : List (List UInt8)}
theorem RB.below (h : RB B w ao n cap L) (hb : Below B w w') : RB B w' ao n cap L := by
  refine ⟨h.len, h.le, h.max, h.nil, ?_⟩
  rcases h.cells with h0 | ⟨b, off, rfl, hB, hc⟩
  · exact .inl h0
  · exact .inr ⟨b, off, rfl, hB, fun i hi => let ⟨ro, m, c, h1, h2⟩ := hc i hi; ⟨ro, m, c, (hb.cell (p := ⟨b, off + i, none⟩) hB).trans h1, h2.below hb⟩⟩
theorem RB.mono (h : RB B w ao n cap L) (hb : B ≤ C) : RB C w ao n cap L := by
  refine ⟨h.len, h.le, h.max, h.nil, ?_⟩
  rcases h.cells with h0 | ⟨b, off, rfl, hB, hc⟩
  · exact .inl h0
  · exact .inr ⟨b, off, rfl, by omega, fun i hi => let ⟨ro, m, c, h1, h2⟩ := hc i hi; ⟨ro, m, c, h1, h2.mono hb⟩⟩
theorem RB.top (h : RB B w ao n cap L) {hi : Nat} (h1 : hi ≤ n) : RB B w ao hi cap (L.take hi) := by
  have hl := h.len
  have hc := h.le
  refine ⟨by rw [List.length_take]; omega, by omega, h.max, h.nil, ?_⟩
  by_cases hz : hi = 0
  · exact .inl hz
  rcases h.cells with h0 | ⟨b, off, rfl, hB, hcell⟩
  · omega
  · refine .inr ⟨b, off, rfl, hB, fun i hi => ?_⟩
    have := hcell i (by omega)
    rw [List.getD_eq_getElem?_getD, List.getElem?_take_of_lt hi, ← List.getD_eq_getElem?_getD]
    exact this
theorem RB.at_ (h : RB B w ao n cap L) {i : Nat} (hi : i < n) : ∃ b off ro m c, ao = some ⟨b, off, none⟩ ∧ w.cell? ⟨b, off + i, none⟩ = some (.slice ro m c) ∧ SB B w ro m c (L.getD i []) := by
  rcases h.cells with h0 | ⟨b, off, rfl, hB, hcell⟩
  · omega
  · obtain ⟨ro, m, c, h1, h2⟩ := hcell i hi
    exact ⟨b, off, ro, m, c, rfl, h1, h2⟩
theorem RB.lt (h : RB B w ao n cap L) : n ≤ 9223372036854775807 := by have := h.le; have := h.max; unfold maxLen at this; omega
end
/-- Records of the call's own, in blocks of their own. -/
structure Rs (B : Nat) (w : World) (v : Value) (us : List Value) (L : List (List UInt8)) : Prop where
  own : w.ownsRow B 36 1 v L.length us
  row : ∀ i, i < L.length → w.ownsRow B 5 1 (us.getD i undef) (L.getD i []).length (bys (L.getD i []))
  dis : ∀ i j k, i < j → j < L.length → (us.getD i undef).ownBlock = some k → (us.getD j undef).ownBlock ≠ some k
section
variable {B : Nat} {w w' : World} {v : Value} {us : List Value} {L : List (List UInt8)}
theorem Rs.len (h : Rs B w v us L) : us.length = L.length := by have := h.own.1; omega
theorem Rs.nil (B : Nat) (w : World) : Rs B w (.slice none 0 0) [] [] := ⟨World.ownsRow_nil _ _ _ _, fun _ h => by simp at h, fun _ _ _ _ h => by simp at h⟩
theorem Rs.below (h : Rs B w v us L) (hb : Below w.heap.size w w') : Rs B w' v us L :=
  ⟨own_below h.own hb, fun i hi => own_below (h.row i hi) hb, h.dis⟩
theorem own_apart {w : World} {B C e f n m : Nat} {v u : Value} {xs ys : List Value} {a b : Nat} (h : w.ownsRow B e a v n xs) (h2 : w.ownsRow C f b u m ys) (hef : e ≠ f) : u.ownBlock = none ∨ u.ownBlock ≠ v.ownBlock := by
  rcases h2.2 with ⟨rfl, _⟩ | ⟨g, cap, cur, rfl, _, hg, _⟩
  · exact .inl rfl
  · right
    intro e1
    rcases h.2 with ⟨rfl, _⟩ | ⟨g', cap', cur', rfl, _, hg', _⟩
    · simp [Value.ownBlock] at e1
    · simp [Value.ownBlock] at e1
      subst e1
      rw [hg] at hg'
      simp at hg'
      exact hef hg'.2.symm
theorem getD_snoc_lt {α : Type} {l : List α} {x d : α} {i : Nat} (h : i < l.length) : (l ++ [x]).getD i d = l.getD i d := by
  rw [List.getD_eq_getElem?_getD, List.getD_eq_getElem?_getD, List.getElem?_append_left h]
theorem getD_snoc_eq {α : Type} {l : List α} {x d : α} : (l ++ [x]).getD l.length d = x := by
  rw [List.getD_eq_getElem?_getD, List.getElem?_append_right (Nat.le_refl _)]; simp
/-- One record more: it lies in a new block; the row of them grows. -/
theorem Rs.snoc {w1 w2 : World} {C : Nat} {u v' : Value} {l : List UInt8} (h : Rs B w v us L) (hb : Below w.heap.size w w1) (hu : w1.ownsRow C 5 1 u l.length (bys l)) (hC : w.heap.size ≤ C) (hB : B ≤ w.heap.size)
    (ho : w2.ownsRow B 36 1 v' (L.length + 1) (us ++ [u])) (hg : w1.grownBy w2 v.ownBlock) : Rs B w2 v' (us ++ [u]) (L ++ [l]) := by
  have h1 := h.below hb
  have hl := h.len
  refine ⟨by rw [List.length_append]; exact ho, fun i hi => ?_, fun i j k hij hj hk => ?_⟩
  · by_cases hlt : i < L.length
    · rw [getD_snoc_lt (by omega), getD_snoc_lt hlt]
      exact (h1.row i hlt).kept hg (own_apart h1.own (h1.row i hlt) (by decide))
    · have : i = L.length := by simp at hi; omega
      subst this
      rw [getD_snoc_eq, ← hl, getD_snoc_eq]
      exact own_mono (hu.kept hg (own_apart h1.own hu (by decide))) (by omega)
  · rw [getD_snoc_lt (by simp at hj; omega)] at hk
    by_cases hlt : j < L.length
    · rw [getD_snoc_lt (by omega)]
      exact h.dis i j k hij hlt hk
    · have : j = L.length := by simp at hj; omega
      subst this
      rw [← hl, getD_snoc_eq]
      intro e
      have h2 := (h.row i hij).lt k hk
      have h3 := hu.lt k e
      omega
theorem Rs.rb {ao : Option Addr} {n cap : Nat} (h : Rs B w (.slice ao n cap) us L) (hn : n = L.length) : RB w.heap.size w ao n cap L := by
  have hl := h.len
  subst hn
  rcases h.own.2 with ⟨e, h0⟩ | ⟨g, c, cur, e, _, hg, h1, h2, _⟩
  · simp at e
    obtain ⟨rfl, _, rfl⟩ := e
    exact ⟨rfl, by omega, by decide, fun _ => rfl, .inl h0⟩
  · simp at e
    obtain ⟨rfl, rfl⟩ := e
    refine ⟨rfl, h1, h2, (fun e => by cases e), .inr ⟨g, 0, rfl, lt_of_block hg, fun i hi => ?_⟩⟩
    obtain ⟨ro, c2, hu⟩ := own_slice (h.row i hi)
    refine ⟨ro, _, c2, ?_, own_sb (by rw [← hu]; exact h.row i hi)⟩
    rw [Nat.zero_add, h.own.cellAt i (by omega), ← hu, List.getD_eq_getElem?_getD, List.getElem?_eq_getElem (by omega)]
    rfl
end
end Go.Proofs.YtkilkhnoldfhcaaGreatDoor.Fr
namespace Go.Proofs.YtkilkhnoldfhcaaGreatDoor.Fr
open Go.RowKit
theorem info_one {w : World} (u : Value) (t : Nat) : ∀ j x, ([u] : List Value)[j]? = some x → (w.alloc (.cells #[u] t)).cell? ((⟨w.heap.size, 0, none⟩ : Addr).add j) = some x := by
  intro j x hx
  match j, hx with
  | 0, hx => simp at hx; subst hx; simp [Addr.add, World.cell?_alloc_new]
def Scanned (W : World) (l : List UInt8) (e : Ending) (w' : World) : Prop :=
  ∃ v us, e = .returned (.tuple #[v, .int .i64 ((scanV l).2 : Nat)]) ∧ Rs W.heap.size w' v us (scanV l).1 ∧ Below W.heap.size W w'
/-- How far a scan has come. -/
def Come (l : List UInt8) (L : List (List UInt8)) (E : Nat) : Prop := scanV l = (L ++ (scanV (l.drop E)).1, E + (scanV (l.drop E)).2) ∧ L.length ≤ E ∧ E ≤ l.length
theorem Come.step {l p : List UInt8} {L : List (List UInt8)} {E : Nat} (h : Come l L E) (hf : firstV (l.drop E) = some p) : Come l (L ++ [p]) (E + (p.length + 12)) := by
  obtain ⟨h1, h2, h3⟩ := h
  have hl := first_len hf
  rw [List.length_drop] at hl
  refine ⟨?_, by rw [List.length_append]; simp; omega, by omega⟩
  rw [h1, scan_some hf, List.drop_drop]
  simp only [List.append_assoc, List.singleton_append, Prod.mk.injEq, true_and]
  omega
theorem Come.done {l : List UInt8} {L : List (List UInt8)} {E : Nat} (h : Come l L E) (hf : firstV (l.drop E) = none) : scanV l = (L, E) := by
  rw [h.1, scan_none hf]; simp
set_option maxRecDepth 100000 in
theorem scan_any {w : World} {ao : Option Addr} {n cap : Nat} {l : List UInt8} (h : SB w.heap.size w ao n cap l) (hroom : n ≤ 1000000) : Calls Tryz.prog 123 #[.slice ao n cap] w (Scanned w l) := by
  obtain ⟨i0, hi, hz0, hz1, hz2⟩ := info_parts info22
  have hlen := h.len
  have hle := h.le
  have hmax := h.max
  unfold maxLen at hmax
  have HN := Lib.hid hlen
  have H := Lib.hid h
  clear h hlen
  go_enter Tryz.func123, Tryz.ntmps123
  go_wp2
  go_loopw [4, 5] (fun r e wr => ∃ (L : List (List UInt8)) (E : Nat) (us : List Value), e = .int .i64 E ∧ E ≤ n ∧ Hid (Rs w.heap.size wr r us L) ∧ Hid (Come l L E) ∧ Hid (Below w.heap.size w wr)) (fun _ e _ => n - (intOf e).toNat)
  case atStart => exact ⟨[], 0, [], rfl, Nat.zero_le _, Rs.nil _ _, ⟨by simp, Nat.le_refl _, Nat.zero_le _⟩, Below.refl _ _⟩
  case round =>
    obtain ⟨L, E, us, rfl, hE, HR, HC, HW⟩ := hrel
    by_cases hcap : cap = E
    · have hnE : n = E := by omega
      subst hnE
      have hd : l.drop n = [] := List.drop_of_length_le (by rw [← HN.out]; exact Nat.le_refl _)
      have HF := Lib.hid (show firstV (l.drop n) = none from by rw [hd]; exact first_short (by simp))
      have HE : Hid (SB w.heap.size w ao 0 0 (l.drop n)) := ⟨by rw [hd]; simp, by omega, by decide, fun _ => rfl, .inl (by omega)⟩
      clear hd
      subst hcap
      go_wp2_with (first
        | (go_at_call 137; (with_reducible refine (first_no ((HE.out.below HW.out).mono HW.out.size) HF.out).mono ?_); rintro e w1 ⟨rfl, hb⟩; have HB := Lib.hid hb; clear hb))
      go_ret2
      exact ⟨u4, us, by rw [HC.out.done HF.out]; exact rfl, by rw [HC.out.done HF.out]; exact HR.out.below HB.out, HW.out.trans (HB.out.mono HW.out.size)⟩
    · have HE := Lib.hid ((H.out.end_ (lo := E) (m := n - E) (c := cap - E) hE rfl rfl))
      have HN2 := HN.out
      cases hf : firstV (l.drop E) with
      | none =>
        have HF := Lib.hid hf
        clear hf HN2
        go_wp2_with (first
          | (go_at_call 137; (with_reducible refine (first_no ((HE.out.below HW.out).mono HW.out.size) HF.out).mono ?_); rintro e w1 ⟨rfl, hb⟩; have HB := Lib.hid hb; clear hb))
        go_ret2
        exact ⟨u4, us, by rw [HC.out.done HF.out]; exact rfl, by rw [HC.out.done HF.out]; exact HR.out.below HB.out, HW.out.trans (HB.out.mono HW.out.size)⟩
      | some p =>
        have HF := Lib.hid hf
        have hp := (first_some hf).1
        have hpl := first_len hf
        rw [List.length_drop, ← HN2] at hpl
        have hL := HC.out.2.1
        clear hf HN2
        go_wp2_with (first
          | (go_at_call 137; (with_reducible refine (first_yes ((HE.out.below HW.out).mono HW.out.size) HF.out).mono ?_); rintro e w1 ⟨po, pc, rfl, hp1, hb⟩; have HP := Lib.hid (hp1.below hb); have HB := Lib.hid hb; clear hb hp1)
          | (go_at_call 57; (with_reducible refine (clone_any HP.out HB.out.size (by omega)).mono ?_); rintro e w2 ⟨u, rfl, hu, hb⟩; obtain ⟨uo, uc, rfl⟩ := own_slice hu; have HU := Lib.hid hu; have HB2 := Lib.hid (HB.out.trans (hb.mono HB.out.size)); have HS2 := Lib.hid hb.size; clear hu hb)
          | (at_builtin; refine wpList_append_own_at _ rfl (.tmp 19) (.tmp 22) 57 rfl w.heap.size 36 i0 (.slice none 0 0) 1 24 under33 hi hz0 hz1 hz2 rfl (by decide) u4 L.length us rfl (((HR.out.below HB2.out).own).alloc _) ⟨w2.heap.size, 0, none⟩ 1 1 [.slice uo p.length uc] rfl rfl (info_one _ 36) (by intro x hx; simp at hx; subst hx; rfl) (by unfold maxLen; omega) (by omega) (by have := HW.out.size; have := HB2.out.size; simp; omega) ?_; intro v3 w3 hown' hgrow _ hat; have HO3 := Lib.hid hown'; have HG3 := Lib.hid hgrow; clear hown' hgrow hat))
        go_roundw
        case rel =>
          have hs := HW.out.size
          have hs2 := HB2.out.size
          refine ⟨L ++ [p], E + (p.length + 12), us ++ [.slice uo p.length uc], by go_num, by omega, ?_, HC.out.step HF.out, ?_⟩
          · exact HR.out.snoc (C := w1.heap.size) ((HB2.out).trans ((below1 w2 _).mono hs2)) (HU.out.alloc _) HB.out.size hs HO3.out HG3.out
          · exact (HW.out.trans (HB2.out.mono hs)).trans ((((below1 w2 _).mono (Nat.le_trans hs hs2))).grown HG3.out (by simp; omega) (fun k hk => ((HR.out.own.lt k hk).1)))
        case measure => simp [intOf]; omega
end Go.Proofs.YtkilkhnoldfhcaaGreatDoor.Fr
namespace Go.Proofs.YtkilkhnoldfhcaaGreatDoor.Fr
open Go.RowKit
theorem getD_set_eq {α : Type} {l : List α} {x d : α} {i : Nat} (h : i < l.length) : (l.set i x).getD i d = x := by
  rw [List.getD_eq_getElem?_getD, List.getElem?_set_self h]; rfl
theorem getD_set_ne {α : Type} {l : List α} {x d : α} {i j : Nat} (h : i ≠ j) : (l.set i x).getD j d = l.getD j d := by
  rw [List.getD_eq_getElem?_getD, List.getD_eq_getElem?_getD, List.getElem?_set_ne h]
section
variable {B : Nat} {w w' : World} {v : Value} {us : List Value} {L : List (List UInt8)}
/-- Other rows stay where one row's block is turned. -/
theorem Rs.others {i : Nat} (h : Rs B w v us L) (hi : i < L.length) (hg : w.grownBy w' (us.getD i undef).ownBlock) (j : Nat) (hj : j < L.length) (hij : j ≠ i) : w'.ownsRow B 5 1 (us.getD j undef) (L.getD j []).length (bys (L.getD j [])) := by
  refine (h.row j hj).kept hg ?_
  cases e : (us.getD j undef).ownBlock with
  | none => exact .inl rfl
  | some k =>
    refine .inr fun e2 => ?_
    rcases Nat.lt_or_ge i j with h1 | h1
    · exact h.dis i j k h1 hj e2.symm e
    · exact h.dis j i k (by omega) hi e e2.symm
/-- One record is turned where it lies. -/
theorem Rs.put {i : Nat} {l : List UInt8} (h : Rs B w v us L) (hi : i < L.length) (hg : w.grownBy w' (us.getD i undef).ownBlock) (ho : w'.ownsRow B 5 1 (us.getD i undef) l.length (bys l)) : Rs B w' v us (L.set i l) := by
  refine ⟨by rw [List.length_set]; exact h.own.kept hg (own_apart (h.row i hi) h.own (by decide)), fun j hj => ?_, fun a b k hab hb hk => h.dis a b k hab (by rw [List.length_set] at hb; exact hb) hk⟩
  rw [List.length_set] at hj
  by_cases hij : j = i
  · subst hij
    rw [getD_set_eq hj]
    exact ho
  · rw [getD_set_ne (fun e => hij e.symm)]
    exact h.others hi hg j hj hij
/-- One record is laid anew, or grown, and its place in the row is turned. -/
theorem Rs.swap {i g n cap : Nat} {l : List UInt8} {u : Value} (h : Rs B w (.slice (some ⟨g, 0, none⟩) n cap) us L) (hn : n = L.length) (hi : i < L.length) (hg : w.grownBy w' (us.getD i undef).ownBlock) (ho : w'.ownsRow B 5 1 u l.length (bys l))
    (hf : u.ownBlock = (us.getD i undef).ownBlock ∨ u.ownBlock = some w.heap.size) : Rs B (w'.setCell ⟨g, i, none⟩ u) (.slice (some ⟨g, 0, none⟩) n cap) (us.set i u) (L.set i l) := by
  subst hn
  have hl := h.len
  have h1 : w'.ownsRow B 36 1 (.slice (some ⟨g, 0, none⟩) L.length cap) L.length us := h.own.kept hg (own_apart (h.row i hi) h.own (by decide))
  obtain ⟨h2, h3⟩ := h1.stored i u
  have hub : ∀ k, u.ownBlock = some k → k ≠ g := by
    intro k hk e
    rcases own_apart h1 ho (by decide) with h4 | h4
    · rw [h4] at hk; cases hk
    · apply h4; rw [hk, e]; rfl
  refine ⟨by rw [List.length_set]; exact h2, fun j hj => ?_, fun a b k hab hb hk => ?_⟩
  · rw [List.length_set] at hj
    by_cases hij : j = i
    · subst hij
      rw [getD_set_eq hj, getD_set_eq (by omega)]
      exact ho.kept h3 (own_apart h1 ho (by decide))
    · rw [getD_set_ne (fun e => hij e.symm), getD_set_ne (fun e => hij e.symm)]
      have h5 := h.others hi hg j hj hij
      exact h5.kept h3 (own_apart h1 h5 (by decide))
  · rw [List.length_set] at hb
    have hne : ∀ j, j < L.length → j ≠ i → ∀ k, u.ownBlock = some k → (us.getD j undef).ownBlock ≠ some k := by
      intro j hj hji k hk e
      rcases hf with h6 | h6
      · rw [h6] at hk
        rcases Nat.lt_or_ge i j with h7 | h7
        · exact h.dis i j k h7 hj hk e
        · exact h.dis j i k (by omega) hi e hk
      · have := (h.row j hj).lt k e
        rw [h6] at hk
        have := Option.some.inj hk
        omega
    by_cases hai : a = i
    · subst hai
      rw [getD_set_eq (by omega)] at hk
      rw [getD_set_ne (by omega)]
      exact hne b hb (by omega) k hk
    · rw [getD_set_ne (fun e => hai e.symm)] at hk
      by_cases hbi : b = i
      · subst hbi
        rw [getD_set_eq (by omega)]
        intro e
        exact hne a (by omega) hai k e hk
      · rw [getD_set_ne (fun e => hbi e.symm)]
        exact h.dis a b k hab hb hk
end
end Go.Proofs.YtkilkhnoldfhcaaGreatDoor.Fr
