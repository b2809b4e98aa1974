/- raceref.Dec: the decimal numeral. Conditions: numbers below 2^62 in size. -/
import Derived.Test.YtjkfcmadoeifgaaGreatDoorK
namespace Go.Proofs.YtjkfcmadoeifgaaGreatDoor
open Go.RowKit Go.Sort Go.Lib

/-- The byte of a digit. -/
def chr (r : Nat) : UInt8 := UInt8.ofNat (48 + r)
def preD (j : Nat) : List UInt8 := bif decide (j = 0) then [] else decDigits j
theorem preD_0 : preD 0 = [] := rfl
theorem preD_pos {j : Nat} (h : j ≠ 0) : preD j = decDigits j := by simp [preD, h]
theorem preD_step {j : Nat} (h : j ≠ 0) (l : List UInt8) : preD (j / 10) ++ (chr (j % 10) :: l) = preD j ++ l := by
  unfold chr
  rw [preD_pos h]
  by_cases h2 : j < 10
  · have e : j / 10 = 0 := by omega
    have e2 : j % 10 = j := by omega
    rw [e, preD_0, e2, decDigits_one h2]; rfl
  · have e : j / 10 ≠ 0 := by omega
    conv => rhs; rw [decDigits, dif_neg h2]
    rw [preD_pos e]; simp
theorem run_byte (wr : World) (r : Nat) (h : r < 10) : (convert 32 9 (.slice (some ⟨wr.heap.size, 0, none⟩) 1 1)).run Tryz.prog (wr.alloc (.cells #[.int .u8 (48 + (r : Int))] 5)) = .ok (.string ⟨#[chr r]⟩) (wr.alloc (.cells #[.int .u8 (48 + (r : Int))] 5)) := by
  refine run_convert_bytes_back (P := Tryz.prog) (wr.alloc (.cells #[.int .u8 (48 + (r : Int))] 5)) 32 9 5 ⟨wr.heap.size, 0, none⟩ 1 [chr r] Tryz.underlying32 Tryz.underlying5 Tryz.underlying9 (fun j hj => ?_)
  have : j = 0 := by simpa using hj
  subst this
  rw [Lib.add_plain, World.cell?_alloc_new]
  simp [chr]
  omega
theorem ba_cons (c : UInt8) (l : List UInt8) : (⟨#[c]⟩ : ByteArray) ++ ⟨l.toArray⟩ = ⟨(c :: l).toArray⟩ := by
  rw [ba_append]; simp
theorem pre_end {u : Nat} {l : List UInt8} (h : preD 0 ++ l = decDigits u) : (⟨l.toArray⟩ : ByteArray) = ⟨(decDigits u).toArray⟩ := by
  rw [preD_0, List.nil_append] at h
  rw [h]
theorem meas_toNat {x : Int} {q j : Nat} (h : x = (q : Int)) (h2 : q < j) : x.toNat < ((j : Nat) : Int).toNat := by rw [h]; omega
theorem pre_len {j u : Nat} {l : List UInt8} (h : preD j ++ l = decDigits u) (hu : u < 4611686018427387904) : l.length ≤ 20 := by
  have := congrArg List.length h
  rw [List.length_append, decDigits_length] at this
  have := nDig_le u (by omega)
  omega

end Go.Proofs.YtjkfcmadoeifgaaGreatDoor
