/- raceref.Dec: the decimal numeral. Conditions: numbers below 2^62 in size. -/
import Derived.Test.YtjkfcmadoeifgaaDoorK
namespace Go.Proofs.YtjkfcmadoeifgaaDoor
open Go.RowKit Go.Sort Go.Lib

/-- The byte of a digit. -/
def chr (r : Nat) : UInt8 := UInt8.ofNat (48 + r)
def preD (j : Nat) : List UInt8 := bif decide (j = 0) then [] else decDigits j
theorem preD_0 : preD 0 = [] := rfl
theorem preD_pos {j : Nat} (h : j ≠ 0) : preD j = decDigits j := by simp [preD, h]
theorem preD_step {j : Nat} (h : j ≠ 0) (l : List UInt8) : preD (j / 10) ++ (chr (j % 10) :: l) = preD j ++ l := by
  unfold chr
  rw [preD_pos h]
  by_cases h2 : j < 10
  · have e : j / 10 = 0 := by omega
    have e2 : j % 10 = j := by omega
    rw [e, preD_0, e2, decDigits_one h2]; rfl
  · have e : j / 10 ≠ 0 := by omega
    conv => rhs; rw [decDigits, dif_neg h2]
    rw [preD_pos e]; simp
theorem run_byte (wr : World) (r : Nat) (h : r < 10) : (convert 50 9 (.slice (some ⟨wr.heap.size, 0, none⟩) 1 1)).run Tryd.prog (wr.alloc (.cells #[.int .u8 (48 + (r : Int))] 5)) = .ok (.string ⟨#[chr r]⟩) (wr.alloc (.cells #[.int .u8 (48 + (r : Int))] 5)) := by
  refine run_convert_bytes_back (P := Tryd.prog) (wr.alloc (.cells #[.int .u8 (48 + (r : Int))] 5)) 50 9 5 ⟨wr.heap.size, 0, none⟩ 1 [chr r] Tryd.underlying50 Tryd.underlying5 Tryd.underlying9 (fun j hj => ?_)
  have : j = 0 := by simpa using hj
  subst this
  rw [Lib.add_plain, World.cell?_alloc_new]
  simp [chr]
  omega
theorem ba_cons (c : UInt8) (l : List UInt8) : (⟨#[c]⟩ : ByteArray) ++ ⟨l.toArray⟩ = ⟨(c :: l).toArray⟩ := by
  rw [ba_append]; simp
theorem pre_end {u : Nat} {l : List UInt8} (h : preD 0 ++ l = decDigits u) : (⟨l.toArray⟩ : ByteArray) = ⟨(decDigits u).toArray⟩ := by
  rw [preD_0, List.nil_append] at h
  rw [h]
theorem meas_toNat {x : Int} {q j : Nat} (h : x = (q : Int)) (h2 : q < j) : x.toNat < ((j : Nat) : Int).toNat := by rw [h]; omega
theorem pre_len {j u : Nat} {l : List UInt8} (h : preD j ++ l = decDigits u) (hu : u < 4611686018427387904) : l.length ≤ 20 := by
  have := congrArg List.length h
  rw [List.length_append, decDigits_length] at this
  have := nDig_le u (by omega)
  omega

set_option maxRecDepth 100000 in
set_option maxHeartbeats 800000 in
theorem dec_pos (u : Nat) (hu0 : 0 < u) (hu : u < 4611686018427387904) (w : World) :
    Calls Tryd.prog 70 #[.int .i64 (u : Int)] w fun e w' => e = .returned (.string ⟨(decDigits u).toArray⟩) ∧ Below w.heap.size w w' := by
  have hz : ((u : Int) == 0) = false := by simp; omega
  have hs : decide ((u : Int) < 0) = false := by simp
  have HU := Lib.hid hu; clear hu
  have HU0 := Lib.hid hu0; clear hu0
  go_enter Tryd.func70, Tryd.ntmps70
  go_wp2
  go_loopw [3, 4] (fun s k wr => ∃ (j : Nat) (l : List UInt8), s = .string ⟨l.toArray⟩ ∧ k = .int .i64 (j : Int) ∧ preD j ++ l = decDigits u ∧ j ≤ u ∧ Below w.heap.size w wr) (fun _ k _ => (RowKit.intOf k).natAbs)
  case atStart => exact ⟨u, [], rfl, rfl, by rw [preD_pos (by have := HU0.out; omega)]; simp, Nat.le_refl _, Below.refl _ _⟩
  case round =>
    obtain ⟨j, l, rfl, rfl, hp, hj, hb⟩ := hrel
    have hl1 : ¬ 9223372036854775807 < 1 + l.length := by have := pre_len hp HU.out; omega
    have HP := Lib.hid hp; clear hp
    have HB := Lib.hid hb; clear hb
    by_cases h0 : j = 0
    · subst h0
      clear hj hl1
      go_wp2
      go_ret
      exact ⟨ret_s (pre_end HP.out), HB.out⟩
    · have h1 : ((j : Int) != 0) = true := by simp; omega
      have h2 : (j : Int).tmod 10 = ((j % 10 : Nat) : Int) := by rw [Int.tmod_eq_emod_of_nonneg (by omega)]; rfl
      have H3 : Hid (wrap64 ((j : Int) / 10) = ((j / 10 : Nat) : Int)) := by unfold Hid wrap64; have := HU.out; omega
      have h4 : j % 10 < 10 := by omega
      have HS := Lib.hid (preD_step h0 l)
      have HQ : Hid (j / 10 ≤ u) := by unfold Hid; omega
      have HL : Hid (j / 10 < j) := by unfold Hid; omega
      have hcv := run_byte wr (j % 10) h4
      clear h0 hj
      generalize j % 10 = r at *
      generalize j / 10 = q at *
      go_wp2
      go_roundw
      case rel => exact ⟨q, chr r :: l, congrArg Value.string (ba_cons _ _), congrArg (Value.int .i64) H3.out, by rw [HS.out]; exact HP.out, HQ.out, HB.out.alloc HB.out.size _⟩
      case measure => rw [H3.out]; have h1 := HL.out; simp [RowKit.intOf]; omega
set_option maxRecDepth 100000 in
set_option maxHeartbeats 800000 in
theorem dec_neg (u : Nat) (hu0 : 0 < u) (hu : u < 4611686018427387904) (w : World) :
    Calls Tryd.prog 70 #[.int .i64 (-(u : Int))] w fun e w' => e = .returned (.string ⟨(45 :: decDigits u).toArray⟩) ∧ Below w.heap.size w w' := by
  have hz : ((-(u : Int)) == 0) = false := by simp; omega
  have hs : decide (-(u : Int) < 0) = true := by simp; omega
  have HU := Lib.hid hu; clear hu
  have HU0 := Lib.hid hu0; clear hu0
  go_enter Tryd.func70, Tryd.ntmps70
  go_wp2
  go_loopw [3, 4] (fun s k wr => ∃ (j : Nat) (l : List UInt8), s = .string ⟨l.toArray⟩ ∧ k = .int .i64 (-(j : Int)) ∧ preD j ++ l = decDigits u ∧ j ≤ u ∧ Below w.heap.size w wr) (fun _ k _ => (RowKit.intOf k).natAbs)
  case atStart => exact ⟨u, [], rfl, rfl, by rw [preD_pos (by have := HU0.out; omega)]; simp, Nat.le_refl _, Below.refl _ _⟩
  case round =>
    obtain ⟨j, l, rfl, rfl, hp, hj, hb⟩ := hrel
    have hl1 : ¬ 9223372036854775807 < 1 + l.length := by have := pre_len hp HU.out; omega
    have HP := Lib.hid hp; clear hp
    have HB := Lib.hid hb; clear hb
    by_cases h0 : j = 0
    · subst h0
      clear hj
      go_wp2
      go_ret
      exact ⟨ret_s (by have := HP.out; rw [preD_0] at this; rw [← this]; exact ba_cons _ _), HB.out⟩
    · have h1 : ((-(j : Int)) != 0) = true := by simp; omega
      have h2 : (-(j : Int)).tmod 10 = -((j % 10 : Nat) : Int) := by rw [Int.neg_tmod, Int.tmod_eq_emod_of_nonneg (by omega)]; rfl
      have H3 : Hid (wrap64 (-((j : Int) / 10)) = -((j / 10 : Nat) : Int)) := by unfold Hid wrap64; have := HU.out; omega
      have h4 : j % 10 < 10 := by omega
      have HS := Lib.hid (preD_step h0 l)
      have HQ : Hid (j / 10 ≤ u) := by unfold Hid; omega
      have HL : Hid (j / 10 < j) := by unfold Hid; omega
      have hcv := run_byte wr (j % 10) h4
      clear h0 hj
      generalize j % 10 = r at *
      generalize j / 10 = q at *
      by_cases hr : r = 0
      · have h2' : (-(j : Int)).tmod 10 = (r : Int) := by rw [h2, hr]; rfl
        clear h2 hr
        go_wp2
        go_roundw
        case rel => exact ⟨q, chr r :: l, congrArg Value.string (ba_cons _ _), congrArg (Value.int .i64) H3.out, by rw [HS.out]; exact HP.out, HQ.out, HB.out.alloc HB.out.size _⟩
        case measure => rw [H3.out]; have h1 := HL.out; simp [RowKit.intOf]; omega
      · have h5 : decide (-(r : Int) < 0) = true := by simp; omega
        go_wp2
        go_roundw
        case rel => exact ⟨q, chr r :: l, congrArg Value.string (ba_cons _ _), congrArg (Value.int .i64) H3.out, by rw [HS.out]; exact HP.out, HQ.out, HB.out.alloc HB.out.size _⟩
        case measure => rw [H3.out]; have h1 := HL.out; simp [RowKit.intOf]; omega
end Go.Proofs.YtjkfcmadoeifgaaDoor
