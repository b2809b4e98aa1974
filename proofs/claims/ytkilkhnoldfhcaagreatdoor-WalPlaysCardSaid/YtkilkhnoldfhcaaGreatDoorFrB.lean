/- frame.Sum, frame.remainders and raceref5.Sum are the sum in plain terms. Conditions: none. -/
import Derived.Test.YtkilkhnoldfhcaaGreatDoorFrM
import Derived.Laws.BitsLemmas
import Derived.Laws.Bits64
import Derived.Outline
namespace Go.Proofs.YtkilkhnoldfhcaaGreatDoor.Fr
open Go.RowKit
theorem ofInt32 {n : Nat} (h : n < 4294967296) : (BitVec.ofInt 32 (n : Int)).toNat = n := by
  rw [BitVec.ofInt_natCast, BitVec.toNat_ofNat]; exact Nat.mod_eq_of_lt (by omega)
theorem wrapu32 {n : Nat} (h : n < 4294967296) : IntKind.u32.wrap (n : Int) = n := by
  rw [IntKind.wrap_u32]; omega
theorem bxor32 {a b : Nat} (ha : a < 4294967296) (hb : b < 4294967296) : bits .xor .u32 (a : Int) (b : Int) = ((a ^^^ b : Nat) : Int) := by
  show IntKind.u32.wrap ((BitVec.ofInt 32 (a : Int) ^^^ BitVec.ofInt 32 (b : Int)).toNat : Int) = _
  rw [BitVec.toNat_xor, ofInt32 ha, ofInt32 hb]
  exact wrapu32 (xor_lt ha hb)
theorem band32 {a b : Nat} (ha : a < 4294967296) (hb : b < 4294967296) : bits .and .u32 (a : Int) (b : Int) = ((a &&& b : Nat) : Int) := by
  show IntKind.u32.wrap ((BitVec.ofInt 32 (a : Int) &&& BitVec.ofInt 32 (b : Int)).toNat : Int) = _
  rw [BitVec.toNat_and, ofInt32 ha, ofInt32 hb]
  exact wrapu32 (Nat.lt_of_le_of_lt Nat.and_le_left ha)
theorem bor32 {a b : Nat} (ha : a < 4294967296) (hb : b < 4294967296) : bits .or .u32 (a : Int) (b : Int) = ((a ||| b : Nat) : Int) := by
  show IntKind.u32.wrap ((BitVec.ofInt 32 (a : Int) ||| BitVec.ofInt 32 (b : Int)).toNat : Int) = _
  rw [BitVec.toNat_or, ofInt32 ha, ofInt32 hb]
  exact wrapu32 (Nat.or_lt_two_pow (n := 32) ha hb)
theorem bxor32_poly {a : Nat} (ha : a < 4294967296) : bits .xor .u32 ((a : Int) / 2) 2197175160 = ((a / 2 ^^^ 2197175160 : Nat) : Int) := by
  have := bxor32 (a := a / 2) (b := 2197175160) (by omega) (by decide)
  rw [← this]
  simp
theorem band32_15 {a : Nat} (ha : a < 4294967296) : bits .and .u32 (a : Int) 15 = ((a % 16 : Nat) : Int) := by
  have := band32 (b := 15) ha (by decide)
  rw [show ((15 : Nat) : Int) = 15 from rfl] at this
  rw [this, Nat.and_two_pow_sub_one_eq_mod a 4]
theorem band32_1 {a : Nat} (ha : a < 4294967296) : bits .and .u32 (a : Int) 1 = ((a % 2 : Nat) : Int) := by
  have := band32 (b := 1) ha (by decide)
  rw [show ((1 : Nat) : Int) = 1 from rfl] at this
  rw [this, Nat.and_two_pow_sub_one_eq_mod a 1]
theorem bnot32 {n : Nat} (h : n < 4294967296) : bits .xor .u32 IntKind.u32.max (n : Int) = ((4294967295 - n : Nat) : Int) := by
  show IntKind.u32.wrap ((BitVec.ofInt 32 4294967295 ^^^ BitVec.ofInt 32 (n : Int)).toNat : Int) = _
  rw [show BitVec.ofInt 32 4294967295 = BitVec.allOnes 32 from rfl, BitVec.allOnes_xor, BitVec.toNat_not, ofInt32 h]
  exact wrapu32 (by omega)
/-- Bits shifted out, one behind the other. -/
def bitn : Nat → Nat → Nat
  | 0, r => r
  | j + 1, r => bit (bitn j r)
theorem bitn_lt : ∀ j {r : Nat}, r < 4294967296 → bitn j r < 4294967296
  | 0, _, h => h
  | j + 1, _, h => bit_lt (bitn_lt j h)
theorem bitn_8 (r x : Nat) : bitn 8 (r ^^^ x) = stp r x := rfl
theorem bit_odd {r : Nat} (h : r % 2 = 1) : bit r = r / 2 ^^^ 2197175160 := by unfold bit; rw [if_pos h]
theorem bit_even {r : Nat} (h : r % 2 = 0) : bit r = r / 2 := by unfold bit; rw [if_neg (by omega)]
set_option maxRecDepth 100000 in
theorem rsum_any {B : Nat} {w : World} {ao : Option Addr} {n cap : Nat} {l : List UInt8} (h : SB B w ao n cap l) : Calls Tryz.prog 113 #[.slice ao n cap] w fun e w' => e = .returned (.int .u32 (crc l : Nat)) ∧ w = w' := by
  have hlt := h.lt
  have H := Lib.hid h
  clear h
  go_enter Tryz.func113, Tryz.ntmps113
  go_wp2
  go_loop [3, 4] (fun r i => ∃ k : Nat, k ≤ n ∧ i = .int .i64 k ∧ r = .int .u32 (reg 4294967295 (l.take k) : Nat)) (fun _ i => n - (intOf i).toNat)
  case atStart => exact ⟨0, Nat.zero_le _, rfl, rfl⟩
  case round =>
    obtain ⟨k, hk, rfl, rfl⟩ := hrel
    have hr := reg_lt (l.take k) (r := 4294967295) (by omega)
    by_cases hltk : k < n
    · have HR := Lib.hid (reg_take (l := l) (k := k) (by rw [← H.out.len]; exact hltk) 4294967295)
      rcases H.out.cells with h0 | ⟨b, off, rfl, _, hcell⟩
      · omega
      have hc := hcell k hltk
      have hx := byte_lt (l.getD k 0)
      clear hcell
      generalize reg 4294967295 (l.take k) = r at *
      generalize (l.getD k 0).toNat = x at *
      have e1 : IntKind.u32.wrap (x : Int) = x := wrapu32 (by omega)
      have e2 := bxor32 hr (show x < 4294967296 by omega)
      go_wp2
      go_loop [3, 5] (fun r5 i => ∃ j : Nat, j ≤ 8 ∧ i = .int .i64 j ∧ r5 = .int .u32 (bitn j (r ^^^ x) : Nat)) (fun _ i => 8 - (intOf i).toNat)
      case atStart => exact ⟨0, by omega, rfl, rfl⟩
      case round =>
        obtain ⟨j, hj, rfl, rfl⟩ := hrel
        by_cases hj8 : j < 8
        · have hb := bitn_lt j (xor_lt hr (show x < 4294967296 by omega))
          have HB : Hid (bitn (j + 1) (r ^^^ x) = bit (bitn j (r ^^^ x))) := rfl
          generalize bitn j (r ^^^ x) = q at *
          by_cases ho : q % 2 = 1
          · have e3 := bxor32_poly hb
            have HO := Lib.hid (bit_odd ho)
            have ht : (((q : Int) % 2) == 1) = true := by rw [beq_iff_eq]; omega
            clear ho
            go_wp2
            go_round
            case rel => exact ⟨j + 1, by omega, by go_num, by rw [HB.out, HO.out]⟩
            case measure => simp [intOf]; omega
          · have HO := Lib.hid (bit_even (r := q) (by omega))
            have ht : (((q : Int) % 2) == 1) = false := by rw [beq_eq_false_iff_ne]; omega
            clear ho
            go_wp2
            go_round
            case rel => exact ⟨j + 1, by omega, by go_num, by rw [HB.out, HO.out]; go_num⟩
            case measure => simp [intOf]; omega
        · obtain rfl : j = 8 := by omega
          have HB := Lib.hid (bitn_8 r x)
          generalize bitn 8 (r ^^^ x) = q at *
          go_wp2
          go_round
          case rel => exact ⟨k + 1, by omega, by go_num, by rw [HR.out, HB.out]⟩
          case measure => simp [intOf]; omega
    · have HE : Hid (crc l = 4294967295 - reg 4294967295 (l.take k)) := by
        rw [List.take_of_length_le (by rw [← H.out.len]; omega)]; rfl
      have e3 : bits .xor .u32 IntKind.u32.max (reg 4294967295 (l.take k) : Int) = ((4294967295 - reg 4294967295 (l.take k) : Nat) : Int) := bnot32 hr
      generalize reg 4294967295 (l.take k) = r at *
      go_wp2
      go_ret
      rw [HE.out]
      exact ⟨rfl, rfl⟩
/-- The table, of which k places are laid. -/
def tarr (k : Nat) : Array Value := ((List.range 16).map fun i => Value.int .u32 ((if i < k then bit4 i else 0 : Nat) : Int)).toArray
theorem tarr_0 : tarr 0 = #[.int .u32 0, .int .u32 0, .int .u32 0, .int .u32 0, .int .u32 0, .int .u32 0, .int .u32 0, .int .u32 0, .int .u32 0, .int .u32 0, .int .u32 0, .int .u32 0, .int .u32 0, .int .u32 0, .int .u32 0, .int .u32 0] := rfl
theorem tarr_set (k : Nat) : (tarr k).setIfInBounds k (.int .u32 (bit4 k : Nat)) = tarr (k + 1) := by
  unfold tarr
  rw [List.setIfInBounds_toArray]
  congr 1
  apply List.ext_getElem
  · simp
  · intro i h1 h2
    rw [List.getElem_set]
    simp at h1 h2 ⊢
    by_cases hi : k = i
    · subst hi; simp
    · rw [if_neg hi]
      have : (i < k) ↔ (i < k + 1) := by omega
      simp [this]
theorem under47 : Tryz.prog.underlying 173 = some (.array 16 143) := by kernel_rfl
theorem below2 (w : World) (o o' : Obj) : Below w.heap.size w ((w.alloc o).alloc o') := (below1 w o).alloc (below1 w o).size o'
theorem tarr_one (k : Nat) : (tarr k).all (·.oneCell') = true := by
  rw [Array.all_eq_true_iff_forall_mem]
  intro u hu
  simp [tarr] at hu
  obtain ⟨i, _, rfl⟩ := hu
  rfl
theorem below_setRow {B : Nat} (w : World) (g : Nat) (cs : Array Value) (h : B ≤ g) : Below B w (w.setRow g cs) :=
  ⟨rfl, rfl, rfl, by simp, fun k hk => setRow_other w g k cs (by omega)⟩
theorem tarr_at {k : Nat} (h : k < 16) : (tarr k)[k]? = some (.int .u32 0) := by
  simp [tarr, h]
theorem tarr_val {k : Nat} (h : k < 16) : (tarr 16)[k]? = some (.int .u32 (bit4 k : Nat)) := by
  simp [tarr, h]
theorem tarr_size (k : Nat) : (tarr k).size = 16 := rfl
set_option maxRecDepth 100000 in
theorem remainders_any (w : World) : Calls Tryz.prog 138 #[] w fun e w' => e = .returned (.agg (tarr 16)) ∧ Below w.heap.size w w' := by
  go_enter Tryz.func138, Tryz.ntmps138
  go_wp2
  go_loopw [5] (fun i wr => ∃ k : Nat, k ≤ 16 ∧ i = .int .i64 k ∧ wr = (w.alloc (.cells (tarr 0) 173)).alloc (.cells (tarr k) 173)) (fun i _ => 16 - (intOf i).toNat)
  case atStart => exact ⟨0, by omega, rfl, rfl⟩
  case round =>
    obtain ⟨k, hk, rfl, rfl⟩ := hrel
    by_cases hk16 : k < 16
    · have e1 : IntKind.u32.wrap (k : Int) = k := wrapu32 (by omega)
      have HS := Lib.hid (tarr_set k)
      have hk0 := tarr_at hk16
      generalize tarr k = tk at *
      go_wp2
      go_loop [3, 10] (fun r5 i => ∃ j : Nat, j ≤ 4 ∧ i = .int .i64 j ∧ r5 = .int .u32 (bitn j k : Nat)) (fun _ i => 4 - (intOf i).toNat)
      case atStart => exact ⟨0, by omega, rfl, rfl⟩
      case round =>
        obtain ⟨j, hj, rfl, rfl⟩ := hrel
        by_cases hj8 : j < 4
        · have hb := bitn_lt j (show k < 4294967296 by omega)
          have HB : Hid (bitn (j + 1) k = bit (bitn j k)) := rfl
          generalize bitn j k = q at *
          have e2 := band32_1 hb
          by_cases ho : q % 2 = 1
          · have e3 := bxor32_poly hb
            have HO := Lib.hid (bit_odd ho)
            rw [ho] at e2
            clear ho
            go_wp2
            go_round
            case rel => exact ⟨j + 1, by omega, by go_num, by rw [HB.out, HO.out]⟩
            case measure => simp [intOf]; omega
          · have HO := Lib.hid (bit_even (r := q) (by omega))
            rw [show q % 2 = 0 by omega] at e2
            clear ho
            go_wp2
            go_round
            case rel => exact ⟨j + 1, by omega, by go_num, by rw [HB.out, HO.out]; go_num⟩
            case measure => simp [intOf]; omega
        · obtain rfl : j = 4 := by omega
          have HB : Hid (bitn 4 k = bit4 k) := rfl
          generalize bitn 4 k = q at *
          go_wp2
          go_roundw
          case rel => exact ⟨k + 1, by omega, by go_num, by rw [HB.out, HS.out]⟩
          case measure => simp [intOf]; omega
    · obtain rfl : k = 16 := by omega
      have HT := Lib.hid (tarr_size 16)
      have h1 : ((w.alloc (.cells (tarr 0) 173)).alloc (.cells (tarr 16) 173)).heap[w.heap.size + 1]? = some (.cells (tarr 16) 173) := heap_alloc2_new _ _ _
      have h0 : ((w.alloc (.cells (tarr 0) 173)).alloc (.cells (tarr 16) 173)).heap[w.heap.size]? = some (.cells (tarr 0) 173) := heap_alloc2_old _ _ _
      have H1 := Lib.hid h1
      have H0 := Lib.hid h0
      have HB := Lib.hid (below2 w (.cells (tarr 0) 173) (.cells (tarr 16) 173))
      clear h1 h0
      generalize (w.alloc (.cells (tarr 0) 173)).alloc (.cells (tarr 16) 173) = w1 at *
      have ho : (tarr 16).all (·.oneCell') = true := tarr_one 16
      have HO := Lib.hid ho
      clear ho
      have hs0 := tarr_size 0
      have HS0 := Lib.hid hs0
      clear hs0
      generalize tarr 0 = t0 at *
      generalize he : tarr 16 = t16 at *
      have HE := Lib.hid he
      clear he
      go_wp2_with (first
        | (refine wpList_load_row rfl 173 (.tmp 1) rfl (w.heap.size + 1) rfl 173 t16 (0, 0) _ H1.out under47 rfl (by rw [HT.out]; kernel_rfl) ?_)
        | (refine wpList_store_row rfl 173 (.tmp 0) (.tmp 25) rfl w.heap.size t16 rfl rfl 173 t0 H0.out (by rw [HT.out]; kernel_rfl) (by rw [HS0.out, HT.out]) HO.out ?_))
      refine bodyPost_ret (results_cell_row (P := Tryz.prog) rfl _ _ w.heap.size 173 t16 (0, 0) _ rfl (setRow_heap w1 _ _ _ _ _ H0.out) under47 rfl (by rw [HT.out]; kernel_rfl)) rfl ⟨by rw [HE.out], HB.out.trans (below_setRow w1 _ _ (Nat.le_refl _))⟩
theorem half_step {a : Nat} (ha : a < 4294967296) : bits .xor .u32 ((a : Int) / 16) ((bit4 (a % 16) : Nat) : Int) = ((bit4 a : Nat) : Int) := by
  rw [bit4_half a, ← bxor32 (show a / 16 < 4294967296 by omega) (bit4_lt (show a % 16 < 4294967296 by omega))]
  simp
theorem cell_row {w : World} {T k : Nat} (h : w.heap[T]? = some (.cells (tarr 16) 173)) (hk : k < 16) : w.cell? ⟨T, k, none⟩ = some (.int .u32 (bit4 k : Nat)) :=
  (cell_of_row w T k (tarr 16) 173 (0, 0) h).trans (tarr_val hk)
set_option maxRecDepth 100000 in
theorem sum_any {w : World} {ao : Option Addr} {n cap : Nat} {l : List UInt8} (h : SB w.heap.size w ao n cap l) : Calls Tryz.prog 125 #[.slice ao n cap] w fun e w' => e = .returned (.int .u32 (crc l : Nat)) ∧ Below w.heap.size w w' := by
  have hlt := h.lt
  have H := Lib.hid h
  clear h
  have HS0 := Lib.hid (tarr_size 0)
  have HS := Lib.hid (tarr_size 16)
  have HO := Lib.hid (tarr_one 16)
  have HZ := Lib.hid tarr_0
  generalize he : tarr 16 = t16 at *
  go_enter Tryz.func125, Tryz.ntmps125
  go_wp2_with (first
    | (go_at_call 138; refine (remainders_any _).mono ?_; rw [he]; rintro e w1 ⟨rfl, hb⟩; have HB := Lib.hid hb; have HE := Lib.hid he; clear hb he)
    | (rw [← HZ.out]; refine wpList_store_row rfl 173 (.tmp 3) (.tmp 7) rfl w1.heap.size t16 rfl rfl 173 (tarr 0) (heap_alloc_new _ _) (by rw [HS.out]; kernel_rfl) (by rw [HS0.out, HS.out]) HO.out ?_))
  have hT : ((w1.alloc (.cells (tarr 0) 173)).setRow w1.heap.size t16).heap[w1.heap.size]? = some (.cells (tarr 16) 173) := by
    rw [HE.out]; exact setRow_heap _ _ _ _ _ _ (heap_alloc_new _ _)
  have HT := Lib.hid hT
  have HW := Lib.hid (HB.out.trans (((below1 w1 (.cells (tarr 0) 173)).trans (below_setRow _ w1.heap.size t16 (Nat.le_refl _))).mono HB.out.size))
  have HH := Lib.hid (H.out.below HW.out)
  clear hT
  generalize (w1.alloc (.cells (tarr 0) 173)).setRow w1.heap.size t16 = w2 at *
  generalize w1.heap.size = T at *
  go_loop [4, 10] (fun r i => ∃ k : Nat, k ≤ n ∧ i = .int .i64 k ∧ r = .int .u32 (reg 4294967295 (l.take k) : Nat)) (fun _ i => n - (intOf i).toNat)
  case atStart => exact ⟨0, Nat.zero_le _, rfl, rfl⟩
  case round =>
    obtain ⟨k, hk, rfl, rfl⟩ := hrel
    have hr := reg_lt (l.take k) (r := 4294967295) (by omega)
    by_cases hltk : k < n
    · have HR := Lib.hid (reg_take (l := l) (k := k) (by rw [← H.out.len]; exact hltk) 4294967295)
      rcases HH.out.cells with h0 | ⟨b, off, rfl, _, hcell⟩
      · omega
      have hc := hcell k hltk
      have hx := byte_lt (l.getD k 0)
      clear hcell
      generalize reg 4294967295 (l.take k) = r at *
      generalize (l.getD k 0).toNat = x at *
      have e1 : IntKind.u32.wrap (x : Int) = x := wrapu32 (by omega)
      have e2 := bxor32 hr (show x < 4294967296 by omega)
      have ha := xor_lt hr (show x < 4294967296 by omega)
      have HS2 : Hid (stp r x = bit4 (bit4 (r ^^^ x))) := rfl
      generalize r ^^^ x = a at *
      have hb := bit4_lt ha
      have e3 := band32_15 ha
      have e4 := half_step ha
      have c1 := cell_row HT.out (show a % 16 < 16 by omega)
      have e5 := band32_15 hb
      have e6 := half_step hb
      have c2 := cell_row HT.out (show bit4 a % 16 < 16 by omega)
      have g1 : a % 16 < 16 := by omega
      have g2 : bit4 a % 16 < 16 := by omega
      generalize bit4 (a % 16) = p at *
      generalize bit4 (bit4 a % 16) = q at *
      generalize bit4 (bit4 a) = d at *
      generalize bit4 a = b2 at *
      generalize a % 16 = m1 at *
      generalize b2 % 16 = m2 at *
      go_wp2
      go_round
      case rel => exact ⟨k + 1, by omega, by go_num, by rw [HR.out, HS2.out]⟩
      case measure => simp [intOf]; omega
    · have HE2 : Hid (crc l = 4294967295 - reg 4294967295 (l.take k)) := by
        rw [List.take_of_length_le (by rw [← H.out.len]; omega)]; rfl
      have e3 : bits .xor .u32 IntKind.u32.max (reg 4294967295 (l.take k) : Int) = ((4294967295 - reg 4294967295 (l.take k) : Nat) : Int) := bnot32 hr
      generalize reg 4294967295 (l.take k) = r at *
      go_wp2
      go_ret
      rw [HE2.out]
      exact ⟨rfl, HW.out⟩
end Go.Proofs.YtkilkhnoldfhcaaGreatDoor.Fr
