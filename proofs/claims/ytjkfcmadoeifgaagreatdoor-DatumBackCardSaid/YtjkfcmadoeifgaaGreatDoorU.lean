/- num.isInteger, integerOf, join, strings.Cut at "p". Conditions: texts of at most a million bytes. -/
import Derived.Test.YtjkfcmadoeifgaaGreatDoorT
import Derived.Test.YtjkfcmadoeifgaaGreatDoorG
import Derived.Lib.CutLaws
import Derived.Lib.IndexBytes
import Derived.Laws.Strings3
namespace Go.Proofs.YtjkfcmadoeifgaaGreatDoor
open Go.RowKit Go.Lib
theorem icut_p (s : ByteArray) (w : World) (hs : s.size ≤ 1000000) :
    Calls Tryz.prog 114 #[.string s, .string ⟨#[112]⟩] w fun e w' => e = .returned (.tuple #[.string ⟨(Lib.cut s.data.toList [112]).1.toArray⟩, .string ⟨(Lib.cut s.data.toList [112]).2.1.toArray⟩, .bool (Lib.cut s.data.toList [112]).2.2]) ∧ Drew w w' := by
  have hi : Lib.indexByte s.data.toList 112 = Lib.indexB s ⟨#[112]⟩ := (Lib.index_one _ _).symm
  have HI := Lib.hid hi; clear hi
  rcases Lib.indexB_cases s ⟨#[112]⟩ with hix | ⟨i, hix, hroom⟩
  · obtain ⟨e1, e2, e3⟩ := Lib.cutB_miss s ⟨#[112]⟩ hix
    have e1' : (⟨(Lib.cut s.data.toList [112]).1.toArray⟩ : ByteArray) = s := e1
    have e2' : (⟨(Lib.cut s.data.toList [112]).2.1.toArray⟩ : ByteArray) = ByteArray.empty := e2
    have e3' : (Lib.cut s.data.toList [112]).2.2 = false := e3
    rw [e1', e2', e3']
    clear e1 e2 e3 e1' e2' e3'
    have HX := Lib.hid hix; clear hix
    go_enter Tryz.func114, Tryz.ntmps114
    go_wp2_with (go_at_call 123; refine (Tryz.stringslite_Index_one s 112 _).mono ?_; rintro e w' ⟨rfl, rfl⟩; rw [HI.out, HX.out])
    go_ret3
    exact ⟨rfl, Drew.refl _⟩
  · obtain ⟨e1, e2, e3⟩ := Lib.cutB_hit s ⟨#[112]⟩ i hix
    have e1' : (⟨(Lib.cut s.data.toList [112]).1.toArray⟩ : ByteArray) = s.extract 0 i := e1
    have e2' : (⟨(Lib.cut s.data.toList [112]).2.1.toArray⟩ : ByteArray) = s.extract (i + 1) s.size := e2
    have e3' : (Lib.cut s.data.toList [112]).2.2 = true := e3
    rw [e1', e2', e3']
    clear e1 e2 e3 e1' e2' e3'
    have hroom' : i + 1 ≤ s.size := hroom
    clear hroom
    have HX := Lib.hid hix; clear hix
    have c1 : (0 : Int) ≤ ↑i := by omega
    have c2 : (↑i : Int) ≤ ↑s.size := by omega
    have c3 : (0 : Int) ≤ ↑i + 1 := by omega
    have c4 : (↑i + 1 : Int) ≤ ↑s.size := by omega
    go_enter Tryz.func114, Tryz.ntmps114
    go_wp2_with (go_at_call 123; refine (Tryz.stringslite_Index_one s 112 _).mono ?_; rintro e w' ⟨rfl, rfl⟩; rw [HI.out, HX.out])
    go_region
    all_goals go_wp2
    all_goals go_ret3
    all_goals exact ⟨rfl, Drew.one _⟩

theorem cut_p (s : ByteArray) (w : World) (hs : s.size ≤ 1000000) :
    Calls Tryz.prog 103 #[.string s, .string ⟨#[112]⟩] w fun e w' => e = .returned (.tuple #[.string ⟨(Lib.cut s.data.toList [112]).1.toArray⟩, .string ⟨(Lib.cut s.data.toList [112]).2.1.toArray⟩, .bool (Lib.cut s.data.toList [112]).2.2]) ∧ Drew w w' := by
  have HS := Lib.hid hs; clear hs
  go_enter Tryz.func103, Tryz.ntmps103
  go_wp2_with (go_at_call 114; refine (icut_p s _ HS.out).mono ?_; rintro e w' ⟨rfl, n, rfl⟩)
  go_ret3
  exact ⟨rfl, n, rfl⟩
theorem toList_data (s : ByteArray) : s.toList = s.data.toList := ByteArray.toList_eq s
theorem trim_len (l p : List UInt8) : (Lib.trimPrefix l p).length ≤ l.length := by
  unfold Lib.trimPrefix
  split
  · rw [List.length_drop]; omega
  · exact Nat.le_refl _
def intB (l : List UInt8) : Bool := l == [48] || cntB (Lib.trimPrefix l [45])
theorem mk_list (l : List UInt8) : (⟨l.toArray⟩ : ByteArray).data.toList = l := by simp
theorem mk_size (l : List UInt8) : (⟨l.toArray⟩ : ByteArray).size = l.length := by rw [Lib.size_eq, mk_list]
theorem isInteger_any (s : ByteArray) (hs : s.size ≤ 1000000) (w : World) :
    Calls Tryz.prog 105 #[.string s] w fun e w' => e = .returned (.bool (intB s.data.toList)) ∧ Below w.heap.size w w' := by
  have HS : Hid ((⟨(Lib.trimPrefix s.data.toList [45]).toArray⟩ : ByteArray).size ≤ 1000000) := by
    unfold Hid; rw [mk_size]; have := trim_len s.data.toList [45]; rw [Lib.size_eq] at hs; omega
  clear hs
  cases h : (s.data.toList == [48])
  · have e : intB s.data.toList = cntB (Lib.trimPrefix s.data.toList [45]) := by simp [intB, h]
    have h' : (s.toList == [48]) = false := by rw [toList_data]; exact h
    rw [e]
    clear h e
    have H2 := isCount_any ⟨(Lib.trimPrefix s.data.toList [45]).toArray⟩ HS.out
    rw [mk_list] at H2
    have H3 := Lib.hid H2; clear H2
    go_enter Tryz.func105, Tryz.ntmps105
    go_wp2_with (first
      | (go_at_call 115; refine (Tryz.strings_TrimPrefix s ⟨#[45]⟩ _).mono ?_; rintro e w' ⟨rfl, rfl⟩)
      | (go_at_call 104; refine (H3.out _).mono ?_; rintro e w1 ⟨rfl, hb1⟩; have HB1 := Lib.hid hb1; clear hb1))
    go_ret
    exact ⟨rfl, HB1.out⟩
  · have e : intB s.data.toList = true := by simp [intB, h]
    have h' : (s.toList == [48]) = true := by rw [toList_data]; exact h
    rw [e]
    clear h e
    go_enter Tryz.func105, Tryz.ntmps105
    go_wp2_with fail
    go_ret
    exact ⟨rfl, Below.refl _ _⟩
def intN (l : List UInt8) : Int := bif Lib.hasPrefix l [45] then -(satN (Lib.trimPrefix l [45]) : Int) else (satN (Lib.trimPrefix l [45]) : Int)
theorem integerOf_any (s : ByteArray) (hs : s.size ≤ 1000000) (hd : (Lib.trimPrefix s.data.toList [45]).all digB = true) (w : World) :
    Calls Tryz.prog 108 #[.string s] w fun e w' => e = .returned (.int .i64 (intN s.data.toList)) ∧ Below w.heap.size w w' := by
  have HS : Hid ((⟨(Lib.trimPrefix s.data.toList [45]).toArray⟩ : ByteArray).size ≤ 1000000) := by
    unfold Hid; rw [mk_size]; have := trim_len s.data.toList [45]; rw [Lib.size_eq] at hs; omega
  have H2 := countOf_any ⟨(Lib.trimPrefix s.data.toList [45]).toArray⟩ HS.out
  rw [mk_list] at H2
  have H3 := Lib.hid (H2 hd)
  have hb : (satN (Lib.trimPrefix s.data.toList [45]) : Int) ≤ 9007199254740992 := by have := satN_le (Lib.trimPrefix s.data.toList [45]); omega
  clear H2 hd hs
  cases h : Lib.hasPrefix s.data.toList [45]
  · have e : intN s.data.toList = (satN (Lib.trimPrefix s.data.toList [45]) : Int) := by simp [intN, h]
    rw [e]
    clear e hb
    have hp : Lib.hasPrefix s.data.toList (⟨#[45]⟩ : ByteArray).data.toList = false := h
    have HP := Lib.hid hp; clear hp h
    go_enter Tryz.func108, Tryz.ntmps108
    go_wp2_with (first
      | (go_at_call 57; refine (Tryz.strings_CutPrefix s ⟨#[45]⟩ _).mono ?_; rw [HP.out]; rintro e w' ⟨rfl, rfl⟩)
      | (go_at_call 107; refine (H3.out _).mono ?_; rintro e w1 ⟨rfl, hb1⟩; have HB1 := Lib.hid hb1; clear hb1))
    go_ret
    exact ⟨rfl, HB1.out⟩
  · have e : intN s.data.toList = -(satN (Lib.trimPrefix s.data.toList [45]) : Int) := by simp [intN, h]
    rw [e]
    clear e
    have hp : Lib.hasPrefix s.data.toList (⟨#[45]⟩ : ByteArray).data.toList = true := h
    have HP := Lib.hid hp; clear hp h
    go_enter Tryz.func108, Tryz.ntmps108
    go_wp2_with (first
      | (go_at_call 57; refine (Tryz.strings_CutPrefix s ⟨#[45]⟩ _).mono ?_; rw [HP.out]; rintro e w' ⟨rfl, rfl⟩)
      | (go_at_call 107; refine (H3.out _).mono ?_; rintro e w1 ⟨rfl, hb1⟩; have HB1 := Lib.hid hb1; clear hb1))
    go_ret
    exact ⟨rfl, HB1.out⟩
theorem bitLen_log2 {n : Nat} (h0 : n ≠ 0) (h : n < 18446744073709551616) : Lib.bitLen n = n.log2 + 1 := by
  obtain ⟨a, b, c⟩ := Lib.bitLenAux_bounds 64 n h h0
  unfold Lib.bitLen
  have u1 : n.log2 < Lib.bitLenAux 64 n := (Nat.log2_lt h0).2 c
  have u2 : Lib.bitLenAux 64 n - 1 ≤ n.log2 := (Nat.le_log2 h0).2 b
  omega
theorem fits_ldexp (n : Nat) (p : Int) (h : Fits n p) (w : World) :
    Calls Tryz.prog 117 #[.float .f64 (floatOfInt .f64 (n : Int)), .int .i64 p] w fun e w' => e = .returned (.float .f64 (ofOdd n p)) ∧ w = w' :=
  mldexp (cvtN n) p _ (fun w => ldexp_fits n p h w) w
theorem len_any (n : Nat) (h0 : n ≠ 0) (h : n < 18446744073709551616) (w : World) :
    Calls Tryz.prog 116 #[.int .u64 (n : Int)] w fun e w' => e = .returned (.int .i64 (n.log2 + 1 : Nat)) ∧ w = w' := by
  refine (Tryz.bits_Len (n : Int) w (by omega) (by omega)).mono ?_
  rintro e w' ⟨he, hw⟩
  refine ⟨?_, hw.symm⟩
  rw [he, Int.toNat_natCast, bitLen_log2 h0 h]
end Go.Proofs.YtjkfcmadoeifgaaGreatDoor
