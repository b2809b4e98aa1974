/- What outlives a call (the table that Itoa reads, the errors of Atoi); hlc.Print, raceref.Dec, raceref8.Print. Conditions: the table holds what its initialiser lays; numbers of an int. -/
import Derived.Test.YtmpokhjchbaleaaDoorB
import Derived.Lib.AppendIntMem
import Derived.Lib.ItoaLen
import Derived.Lib.ItoaMem
namespace Go.Proofs.YtmpokhjchbaleaaDoor
open Go.RowKit Go.Sort Go.Lib
abbrev Nm := List UInt8
abbrev nmv (l : Nm) : Value := .string ⟨l.toArray⟩
/-- What stands ahead of the call: a table of powers of ten; whatever lies from block 6 on may turn. -/
structure Pow (w : World) : Prop where
  pow : Lib.TabBelow Tryd.prog 6 w "internal/strconv.uint64pow10" .u64 Lib.pow10Tab
  size : 6 ≤ w.heap.size
theorem Pow.on {w w' : World} (h : Pow w) (hb : Below 6 w w') : Pow w' := ⟨h.pow.on hb, Nat.le_trans h.size hb.size⟩
theorem Pow.below {w w' : World} (h : Pow w) (hb : Below w.heap.size w w') : Pow w' := h.on (hb.mono h.size)
theorem Pow.from {w w' : World} {B : Nat} (h : Pow w) (hB : 6 ≤ B) (hb : Below B w w') : Pow w' := h.on (hb.mono hB)
theorem grow_below (w : World) (k : Nat) (os : Array Obj) : Below w.heap.size w (Go.Sort.grow (w.drewN k) os) := Lib.below_grow _ w (Nat.le_refl _) k os
def decV (n : Int) : Nm := Lib.itoa n
theorem decV_le (n : Int) (h0 : -9223372036854775808 ≤ n) (h1 : n < 9223372036854775808) : (decV n).length ≤ 21 := itoa_length_le n h0 (by omega)
theorem itoa_any (w : World) (hT : Pow w) (n : Int) (h0 : -9223372036854775808 ≤ n) (h1 : n < 9223372036854775808) : Calls Tryd.prog 36 #[.int .i64 n] w fun e w' => e = .returned (nmv (decV n)) ∧ Below w.heap.size w w' := by
  refine (Tryd.strconv_Itoa n h0 (by omega) w hT.pow.here).mono ?_
  rintro e w' ⟨rfl, k, os, rfl⟩
  exact ⟨rfl, grow_below w k os⟩
theorem nDig_le (u : Nat) (h : u < 18446744073709551616) : nDigits u ≤ 20 := by
  by_cases h0 : u = 0
  · subst h0; unfold nDigits; simp
  · have := Lib.numDigits_eq u (by omega) h; split at this <;> omega
theorem ba_append (a b : Array UInt8) : (⟨a⟩ : ByteArray) ++ ⟨b⟩ = ⟨a ++ b⟩ := ByteArray.ext (by simp)
theorem ret_s {s t : ByteArray} (h : s = t) : Ending.returned (.string s) = .returned (.string t) := by rw [h]
/-- The byte of a digit. -/
def chr (r : Nat) : UInt8 := UInt8.ofNat (48 + r)
def preD (j : Nat) : List UInt8 := bif decide (j = 0) then [] else decDigits j
theorem preD_0 : preD 0 = [] := rfl
theorem preD_pos {j : Nat} (h : j ≠ 0) : preD j = decDigits j := by simp [preD, h]
theorem preD_step {j : Nat} (h : j ≠ 0) (l : List UInt8) : preD (j / 10) ++ (chr (j % 10) :: l) = preD j ++ l := by
  unfold chr
  rw [preD_pos h]
  by_cases h2 : j < 10
  · have e : j / 10 = 0 := by omega
    have e2 : j % 10 = j := by omega
    rw [e, preD_0, e2, decDigits_one h2]; rfl
  · have e : j / 10 ≠ 0 := by omega
    conv => rhs; rw [decDigits, dif_neg h2]
    rw [preD_pos e]; simp
theorem run_byte (wr : World) (r : Nat) (h : r < 10) : (convert 67 9 (.slice (some ⟨wr.heap.size, 0, none⟩) 1 1)).run Tryd.prog (wr.alloc (.cells #[.int .u8 (48 + (r : Int))] 5)) = .ok (.string ⟨#[chr r]⟩) (wr.alloc (.cells #[.int .u8 (48 + (r : Int))] 5)) := by
  refine run_convert_bytes_back (P := Tryd.prog) (wr.alloc (.cells #[.int .u8 (48 + (r : Int))] 5)) 67 9 5 ⟨wr.heap.size, 0, none⟩ 1 [chr r] Tryd.underlying67 Tryd.underlying5 Tryd.underlying9 (fun j hj => ?_)
  have : j = 0 := by simpa using hj
  subst this
  rw [Lib.add_plain, World.cell?_alloc_new]
  simp [chr]
  omega
theorem ba_cons (c : UInt8) (l : List UInt8) : (⟨#[c]⟩ : ByteArray) ++ ⟨l.toArray⟩ = ⟨(c :: l).toArray⟩ := by
  rw [ba_append]; simp
theorem pre_end {u : Nat} {l : List UInt8} (h : preD 0 ++ l = decDigits u) : (⟨l.toArray⟩ : ByteArray) = ⟨(decDigits u).toArray⟩ := by
  rw [preD_0, List.nil_append] at h
  rw [h]
theorem pre_len {j u : Nat} {l : List UInt8} (h : preD j ++ l = decDigits u) (hu : u < 9223372036854775809) : l.length ≤ 20 := by
  have := congrArg List.length h
  rw [List.length_append, decDigits_length] at this
  have := nDig_le u (by omega)
  omega
set_option maxRecDepth 100000 in
set_option maxHeartbeats 800000 in
theorem dec_pos (u : Nat) (hu0 : 0 < u) (hu : u < 9223372036854775808) (w : World) :
    Calls Tryd.prog 37 #[.int .i64 (u : Int)] w fun e w' => e = .returned (.string ⟨(decDigits u).toArray⟩) ∧ Below w.heap.size w w' := by
  have hz : ((u : Int) == 0) = false := by simp; omega
  have hs : decide ((u : Int) < 0) = false := by simp
  have HU := Lib.hid hu; clear hu
  have HU0 := Lib.hid hu0; clear hu0
  go_enter Tryd.func37, Tryd.ntmps37
  go_wp2
  go_loopw [3, 4] (fun s k wr => ∃ (j : Nat) (l : List UInt8), s = .string ⟨l.toArray⟩ ∧ k = .int .i64 (j : Int) ∧ preD j ++ l = decDigits u ∧ j ≤ u ∧ Below w.heap.size w wr) (fun _ k _ => (RowKit.intOf k).natAbs)
  case atStart => exact ⟨u, [], rfl, rfl, by rw [preD_pos (by have := HU0.out; omega)]; simp, Nat.le_refl _, Below.refl _ _⟩
  case round =>
    obtain ⟨j, l, rfl, rfl, hp, hj, hb⟩ := hrel
    have hl1 : ¬ 9223372036854775807 < 1 + l.length := by have := pre_len hp (Nat.lt_succ_of_lt HU.out); omega
    have HP := Lib.hid hp; clear hp
    have HB := Lib.hid hb; clear hb
    by_cases h0 : j = 0
    · subst h0
      clear hj hl1
      go_wp2
      go_ret
      exact ⟨ret_s (pre_end HP.out), HB.out⟩
    · have h1 : ((j : Int) != 0) = true := by simp; omega
      have h2 : (j : Int).tmod 10 = ((j % 10 : Nat) : Int) := by rw [Int.tmod_eq_emod_of_nonneg (by omega)]; rfl
      have H3 : Hid (wrap64 ((j : Int) / 10) = ((j / 10 : Nat) : Int)) := by unfold Hid wrap64; have := HU.out; omega
      have h4 : j % 10 < 10 := by omega
      have HS := Lib.hid (preD_step h0 l)
      have HQ : Hid (j / 10 ≤ u) := by unfold Hid; omega
      have HL : Hid (j / 10 < j) := by unfold Hid; omega
      have hcv := run_byte wr (j % 10) h4
      clear h0 hj
      generalize j % 10 = r at *
      generalize j / 10 = q at *
      go_wp2
      go_roundw
      case rel => exact ⟨q, chr r :: l, congrArg Value.string (ba_cons _ _), congrArg (Value.int .i64) H3.out, by rw [HS.out]; exact HP.out, HQ.out, HB.out.alloc HB.out.size _⟩
      case measure => rw [H3.out]; have h1 := HL.out; simp [RowKit.intOf]; omega
set_option maxRecDepth 100000 in
set_option maxHeartbeats 800000 in
theorem dec_neg (u : Nat) (hu0 : 0 < u) (hu : u < 9223372036854775809) (w : World) :
    Calls Tryd.prog 37 #[.int .i64 (-(u : Int))] w fun e w' => e = .returned (.string ⟨(45 :: decDigits u).toArray⟩) ∧ Below w.heap.size w w' := by
  have hz : ((-(u : Int)) == 0) = false := by simp; omega
  have hs : decide (-(u : Int) < 0) = true := by simp; omega
  have HU := Lib.hid hu; clear hu
  have HU0 := Lib.hid hu0; clear hu0
  go_enter Tryd.func37, Tryd.ntmps37
  go_wp2
  go_loopw [3, 4] (fun s k wr => ∃ (j : Nat) (l : List UInt8), s = .string ⟨l.toArray⟩ ∧ k = .int .i64 (-(j : Int)) ∧ preD j ++ l = decDigits u ∧ j ≤ u ∧ Below w.heap.size w wr) (fun _ k _ => (RowKit.intOf k).natAbs)
  case atStart => exact ⟨u, [], rfl, rfl, by rw [preD_pos (by have := HU0.out; omega)]; simp, Nat.le_refl _, Below.refl _ _⟩
  case round =>
    obtain ⟨j, l, rfl, rfl, hp, hj, hb⟩ := hrel
    have hl1 : ¬ 9223372036854775807 < 1 + l.length := by have := pre_len hp HU.out; omega
    have HP := Lib.hid hp; clear hp
    have HB := Lib.hid hb; clear hb
    by_cases h0 : j = 0
    · subst h0
      clear hj
      go_wp2
      go_ret
      exact ⟨ret_s (by have := HP.out; rw [preD_0] at this; rw [← this]; exact ba_cons _ _), HB.out⟩
    · have h1 : ((-(j : Int)) != 0) = true := by simp; omega
      have h2 : (-(j : Int)).tmod 10 = -((j % 10 : Nat) : Int) := by rw [Int.neg_tmod, Int.tmod_eq_emod_of_nonneg (by omega)]; rfl
      have H3 : Hid (wrap64 (-((j : Int) / 10)) = -((j / 10 : Nat) : Int)) := by unfold Hid wrap64; have := HU.out; omega
      have h4 : j % 10 < 10 := by omega
      have HS := Lib.hid (preD_step h0 l)
      have HQ : Hid (j / 10 ≤ u) := by unfold Hid; omega
      have HL : Hid (j / 10 < j) := by unfold Hid; omega
      have hcv := run_byte wr (j % 10) h4
      clear h0 hj
      generalize j % 10 = r at *
      generalize j / 10 = q at *
      by_cases hr : r = 0
      · have h2' : (-(j : Int)).tmod 10 = (r : Int) := by rw [h2, hr]; rfl
        clear h2 hr
        go_wp2
        go_roundw
        case rel => exact ⟨q, chr r :: l, congrArg Value.string (ba_cons _ _), congrArg (Value.int .i64) H3.out, by rw [HS.out]; exact HP.out, HQ.out, HB.out.alloc HB.out.size _⟩
        case measure => rw [H3.out]; have h1 := HL.out; simp [RowKit.intOf]; omega
      · have h5 : decide (-(r : Int) < 0) = true := by simp; omega
        go_wp2
        go_roundw
        case rel => exact ⟨q, chr r :: l, congrArg Value.string (ba_cons _ _), congrArg (Value.int .i64) H3.out, by rw [HS.out]; exact HP.out, HQ.out, HB.out.alloc HB.out.size _⟩
        case measure => rw [H3.out]; have h1 := HL.out; simp [RowKit.intOf]; omega
theorem dec_zero (w : World) : Calls Tryd.prog 37 #[.int .i64 0] w fun e w' => e = .returned (.string ⟨#[48]⟩) ∧ Below w.heap.size w w' := by
  go_enter Tryd.func37, Tryd.ntmps37
  go_wp2
  go_ret
  exact ⟨rfl, Below.refl _ _⟩
theorem dec_any (w : World) (n : Int) (h0 : -9223372036854775808 ≤ n) (h1 : n < 9223372036854775808) : Calls Tryd.prog 37 #[.int .i64 n] w fun e w' => e = .returned (nmv (decV n)) ∧ Below w.heap.size w w' := by
  rcases Int.lt_trichotomy n 0 with h | h | h
  · obtain ⟨u, rfl⟩ : ∃ u : Nat, n = -(u : Int) := ⟨n.natAbs, by omega⟩
    have e : decV (-(u : Int)) = 45 :: decDigits u := itoa_neg u (by omega)
    rw [e]
    exact dec_neg u (by omega) (by omega) w
  · subst h
    have e : decV 0 = [48] := by unfold decV; rw [show (0 : Int) = ((0 : Nat) : Int) from rfl, itoa_nonneg, decDigits_one (by omega)]; rfl
    rw [e]
    exact dec_zero w
  · obtain ⟨u, rfl⟩ : ∃ u : Nat, n = (u : Int) := ⟨n.toNat, by omega⟩
    have e : decV (u : Int) = decDigits u := itoa_nonneg u
    rw [e]
    exact dec_pos u (by omega) (by omega) w
/-- A stamp's text. -/
def printS (s : St) : Nm := decV s.w ++ [46] ++ decV s.l ++ [46] ++ decV s.n
theorem bcat (a b : Nm) : (⟨a.toArray⟩ : ByteArray) ++ ⟨b.toArray⟩ = ⟨(a ++ b).toArray⟩ := by
  apply ByteArray.ext
  simp
theorem bcat5 (a b c d e : Nm) : (⟨a.toArray⟩ : ByteArray) ++ ⟨b.toArray⟩ ++ ⟨c.toArray⟩ ++ ⟨d.toArray⟩ ++ ⟨e.toArray⟩ = ⟨(a ++ b ++ c ++ d ++ e).toArray⟩ := by rw [bcat, bcat, bcat, bcat]
set_option maxRecDepth 100000 in
set_option maxHeartbeats 1000000 in
theorem print_any (s : St) (hs : s.wf) (w : World) (hT : Pow w) : Calls Tryd.prog 19 #[sagg s] w fun e w' => e = .returned (nmv (printS s)) ∧ Below w.heap.size w w' := by
  obtain ⟨a, b, c⟩ := s
  have HB := Lib.hid (below1 w (sobj ⟨a, b, c⟩)).drew
  have HA := Lib.hid ((at_new w ⟨a, b, c⟩).below (Below.refl _ _).drew (at_new w ⟨a, b, c⟩).lt)
  have HT := Lib.hid hT
  obtain ⟨⟨ha1, ha2⟩, ⟨hb1, hb2⟩, ⟨hc1, hc2⟩⟩ := hs
  simp only at ha1 ha2 hb1 hb2 hc1 hc2
  have HX := fun w h => Lib.hid (itoa_any w h a ha1 ha2)
  have HY := fun w h => Lib.hid (itoa_any w h b hb1 hb2)
  have HZ := fun w h => Lib.hid (itoa_any w h c hc1 hc2)
  have lx := decV_le a ha1 ha2
  have ly := decV_le b hb1 hb2
  have lz := decV_le c hc1 hc2
  have hp : printS ⟨a, b, c⟩ = decV a ++ [46] ++ decV b ++ [46] ++ decV c := rfl
  rw [hp]
  clear ha1 ha2 hb1 hb2 hc1 hc2 hT hp
  generalize decV a = x at *
  generalize decV b = y at *
  generalize decV c = z at *
  have e1 : ¬ 9223372036854775807 < x.length + 1 := by omega
  have e2 : ¬ 9223372036854775807 < x.length + 1 + y.length := by omega
  have e3 : ¬ 9223372036854775807 < x.length + 1 + y.length + 1 := by omega
  have e4 : ¬ 9223372036854775807 < x.length + 1 + y.length + 1 + z.length := by omega
  clear lx ly lz
  go_enter Tryd.func19, Tryd.ntmps19
  go_wp2
  go_region_held (fun w' => w'.cell? ⟨w.heap.size, 0, none⟩ = some (.int .i64 a) ∧ w'.cell? ⟨w.heap.size, 1, none⟩ = some (.int .i64 b) ∧ w'.cell? ⟨w.heap.size, 2, none⟩ = some (.int .i64 c)) (exact ⟨HA.out.c0, HA.out.c1, HA.out.c2⟩) (first
    | (go_at_call 36; with_reducible refine ((HX _ (HT.out.below HB.out)).out).mono ?_; rintro e w3 ⟨rfl, hb⟩; have HA := Lib.hid (HA.out.below hb HA.out.lt); have HB := Lib.hid (HB.out.trans (hb.mono HB.out.size)); clear hb)
    | (go_at_call 36; with_reducible refine ((HY _ (HT.out.below HB.out)).out).mono ?_; rintro e w3 ⟨rfl, hb⟩; have HA := Lib.hid (HA.out.below hb HA.out.lt); have HB := Lib.hid (HB.out.trans (hb.mono HB.out.size)); clear hb)
    | (go_at_call 36; with_reducible refine ((HZ _ (HT.out.below HB.out)).out).mono ?_; rintro e w3 ⟨rfl, hb⟩; have HA := Lib.hid (HA.out.below hb HA.out.lt); have HB := Lib.hid (HB.out.trans (hb.mono HB.out.size)); clear hb))
  go_wp2
  go_ret
  exact ⟨ret_s (bcat5 x [46] y [46] z), HB.out⟩
set_option maxRecDepth 100000 in
set_option maxHeartbeats 1000000 in
theorem rprint_any (s : St) (hs : s.wf) (w : World) : Calls Tryd.prog 20 #[sagg s] w fun e w' => e = .returned (nmv (printS s)) ∧ Below w.heap.size w w' := by
  obtain ⟨a, b, c⟩ := s
  have HB := Lib.hid (below1 w (sobj ⟨a, b, c⟩)).drew
  have HA := Lib.hid ((at_new w ⟨a, b, c⟩).below (Below.refl _ _).drew (at_new w ⟨a, b, c⟩).lt)
  obtain ⟨⟨ha1, ha2⟩, ⟨hb1, hb2⟩, ⟨hc1, hc2⟩⟩ := hs
  simp only at ha1 ha2 hb1 hb2 hc1 hc2
  have HX := fun w => Lib.hid (dec_any w a ha1 ha2)
  have HY := fun w => Lib.hid (dec_any w b hb1 hb2)
  have HZ := fun w => Lib.hid (dec_any w c hc1 hc2)
  have lx := decV_le a ha1 ha2
  have ly := decV_le b hb1 hb2
  have lz := decV_le c hc1 hc2
  have hp : printS ⟨a, b, c⟩ = decV a ++ [46] ++ decV b ++ [46] ++ decV c := rfl
  rw [hp]
  clear ha1 ha2 hb1 hb2 hc1 hc2 hp
  generalize decV a = x at *
  generalize decV b = y at *
  generalize decV c = z at *
  have e1 : ¬ 9223372036854775807 < x.length + 1 := by omega
  have e2 : ¬ 9223372036854775807 < x.length + 1 + y.length := by omega
  have e3 : ¬ 9223372036854775807 < x.length + 1 + y.length + 1 := by omega
  have e4 : ¬ 9223372036854775807 < x.length + 1 + y.length + 1 + z.length := by omega
  clear lx ly lz
  go_enter Tryd.func20, Tryd.ntmps20
  go_wp2
  go_region_held (fun w' => w'.cell? ⟨w.heap.size, 0, none⟩ = some (.int .i64 a) ∧ w'.cell? ⟨w.heap.size, 1, none⟩ = some (.int .i64 b) ∧ w'.cell? ⟨w.heap.size, 2, none⟩ = some (.int .i64 c)) (exact ⟨HA.out.c0, HA.out.c1, HA.out.c2⟩) (first
    | (go_at_call 37; with_reducible refine ((HX _).out).mono ?_; rintro e w3 ⟨rfl, hb⟩; have HA := Lib.hid (HA.out.below hb HA.out.lt); have HB := Lib.hid (HB.out.trans (hb.mono HB.out.size)); clear hb)
    | (go_at_call 37; with_reducible refine ((HY _).out).mono ?_; rintro e w3 ⟨rfl, hb⟩; have HA := Lib.hid (HA.out.below hb HA.out.lt); have HB := Lib.hid (HB.out.trans (hb.mono HB.out.size)); clear hb)
    | (go_at_call 37; with_reducible refine ((HZ _).out).mono ?_; rintro e w3 ⟨rfl, hb⟩; have HA := Lib.hid (HA.out.below hb HA.out.lt); have HB := Lib.hid (HB.out.trans (hb.mono HB.out.size)); clear hb))
  go_wp2
  go_ret
  exact ⟨ret_s (bcat5 x [46] y [46] z), HB.out⟩
end Go.Proofs.YtmpokhjchbaleaaDoor
