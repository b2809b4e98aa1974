/- num.Parse at any text of at most a million bytes; what the chapter's examples fix ('first'). Conditions: the tables hold what their initialisers lay. -/
import Derived.Test.YtjkfcmadoeifgaaGreatDoorW
namespace Go.Proofs.YtjkfcmadoeifgaaGreatDoor
open Go.RowKit Go.Lib

def fitsB (n : Nat) (p : Int) : Bool := decide (n % 2 = 1) && decide (n < 9007199254740992) && decide (-1074 ≤ p) && decide (p + n.log2 < 1024)
theorem fits_iff (n : Nat) (p : Int) : fitsB n p = true ↔ Fits n p := by
  unfold fitsB
  simp only [Bool.and_eq_true, decide_eq_true_eq]
  exact ⟨fun ⟨⟨⟨a, b⟩, c⟩, d⟩ => ⟨a, b, c, d⟩, fun ⟨a, b, c, d⟩ => ⟨⟨⟨a, b⟩, c⟩, d⟩⟩
def formB (l : List UInt8) : Bool := (Lib.cut (Lib.trimPrefix l [45]) [112]).2.2 && cntB (Lib.cut (Lib.trimPrefix l [45]) [112]).1 && intB (Lib.cut (Lib.trimPrefix l [45]) [112]).2.1
def numOf (l : List UInt8) : Nat := satN (Lib.cut (Lib.trimPrefix l [45]) [112]).1
def powOf (l : List UInt8) : Int := intN (Lib.cut (Lib.trimPrefix l [45]) [112]).2.1
def coreN (l : List UInt8) : Nat × Int :=
  bif formB l then bif fitsB (numOf l) (powOf l) then (bif Lib.hasPrefix l [45] then 9223372036854775808 + ofOdd (numOf l) (powOf l) else ofOdd (numOf l) (powOf l), 0) else (0, 1) else (0, 4)
def parseN (l : List UInt8) : Nat × Int :=
  bif l == [110, 97, 110] then (oneNaN, 0) else bif l == [105, 110, 102] then (infR, 0) else bif l == [45, 105, 110, 102] then (18442240474082181120, 0) else
  bif l == [48] then (0, 0) else bif l == [45, 48] then (9223372036854775808, 0) else coreN l
theorem cut_len (t : List UInt8) : (Lib.cut t [112]).1.length ≤ t.length ∧ (Lib.cut t [112]).2.1.length ≤ t.length := by
  unfold Lib.cut
  split
  · exact ⟨List.length_take_le' _ _, by rw [List.length_drop]; omega⟩
  · exact ⟨Nat.le_refl _, Nat.zero_le _⟩
theorem of_list {s : ByteArray} {l : List UInt8} (h : s.data.toList = l) : s = ⟨l.toArray⟩ := by
  subst h; rfl
/-- num.Parse, ANY TEXT. -/
theorem parse_any (s : ByteArray) (hs : s.size ≤ 1000000) (w : World) :
    Calls Tryz.prog 88 #[.string s] w fun e w' => e = .returned (.tuple #[.float .f64 (parseN s.data.toList).1, .int .i64 (parseN s.data.toList).2]) ∧ Below w.heap.size w w' := by
  have hl : s.data.toList.length ≤ 1000000 := by rw [← Lib.size_eq]; exact hs
  cases n1 : (s.data.toList == [110, 97, 110])
  case true =>
    have e : s.data.toList = [110, 97, 110] := by simpa using n1
    rw [e, of_list e]
    refine (parse_nan w).mono ?_; rintro e w' ⟨he, rfl⟩; exact ⟨he, Below.refl _ _⟩
  cases n2 : (s.data.toList == [105, 110, 102])
  case true =>
    have e : s.data.toList = [105, 110, 102] := by simpa using n2
    rw [e, of_list e]
    refine (parse_inf w).mono ?_; rintro e w' ⟨he, rfl⟩; exact ⟨he, Below.refl _ _⟩
  cases n3 : (s.data.toList == [45, 105, 110, 102])
  case true =>
    have e : s.data.toList = [45, 105, 110, 102] := by simpa using n3
    rw [e, of_list e]
    refine (parse_minf w).mono ?_; rintro e w' ⟨he, rfl⟩; exact ⟨he, Below.refl _ _⟩
  cases n4 : (s.data.toList == [48])
  case true =>
    have e : s.data.toList = [48] := by simpa using n4
    rw [e, of_list e]
    refine (parse_zero w).mono ?_; rintro e w' ⟨he, rfl⟩; exact ⟨he, Below.refl _ _⟩
  cases n5 : (s.data.toList == [45, 48])
  case true =>
    have e : s.data.toList = [45, 48] := by simpa using n5
    rw [e, of_list e]
    refine (parse_mzero w).mono ?_; rintro e w' ⟨he, rfl⟩; exact ⟨he, Below.refl _ _⟩
  have hcore : parseN s.data.toList = coreN s.data.toList := by
    unfold parseN; rw [n1, n2, n3, n4, n5]; rfl
  rw [hcore]
  rw [← toList_data] at n1 n2 n3 n4 n5
  obtain ⟨t, ht⟩ : ∃ t, Lib.trimPrefix s.data.toList [45] = t := ⟨_, rfl⟩
  obtain ⟨a, k, f, hc⟩ : ∃ a k f, Lib.cut t [112] = (a, k, f) := ⟨_, _, _, rfl⟩
  obtain ⟨neg, hp⟩ : ∃ neg, Lib.hasPrefix s.data.toList [45] = neg := ⟨_, rfl⟩
  have htl : t.length ≤ 1000000 := by rw [← ht]; exact Nat.le_trans (trim_len _ _) hl
  have hal : a.length ≤ 1000000 := by have := (cut_len t).1; rw [hc] at this; exact Nat.le_trans this htl
  have hkl : k.length ≤ 1000000 := by have := (cut_len t).2; rw [hc] at this; exact Nat.le_trans this htl
  have hform : formB s.data.toList = (f && cntB a && intB k) := by unfold formB; rw [ht, hc]
  have hnum : numOf s.data.toList = satN a := by unfold numOf; rw [ht, hc]
  have hpow : powOf s.data.toList = intN k := by unfold powOf; rw [ht, hc]
  unfold coreN
  rw [hform, hnum, hpow, hp]
  cases hf : f
  · exact parse_nocut s n1 n2 n3 n4 n5 t a k neg f hp ht hc htl hal hkl hf w
  · cases ha : cntB a
    · exact parse_nocount s n1 n2 n3 n4 n5 t a k neg f hp ht hc htl hal hkl hf ha w
    · cases hk : intB k
      · exact parse_noint s n1 n2 n3 n4 n5 t a k neg f hp ht hc htl hal hkl hf ha hk w
      · cases hfit : fitsB (satN a) (intN k)
        · exact parse_range s n1 n2 n3 n4 n5 t a k neg f hp ht hc htl hal hkl hf ha hk (fun h => by rw [(fits_iff _ _).2 h] at hfit; cases hfit) w
        · cases hneg : neg
          · exact parse_pos s n1 n2 n3 n4 n5 t a k neg f hp ht hc htl hal hkl hf ha hk ((fits_iff _ _).1 hfit) hneg w
          · exact parse_neg s n1 n2 n3 n4 n5 t a k neg f hp ht hc htl hal hkl hf ha hk ((fits_iff _ _).1 hfit) hneg w

theorem ex1 : parseN [45, 51, 112, 49] = (13841813454723219456, 0) := by decide +kernel
theorem ex2 : parseN [50, 112, 48] = (0, 1) := by decide +kernel
theorem ex3 : textN 4602678819172646912 = [49, 112, 45, 49] := by
  have hc : clsN 4602678819172646912 = 7 := by decide +kernel
  rw [textN_pos (.inr hc)]
  have ho : oddN (4602678819172646912 % 9223372036854775808) = 1 := by decide +kernel
  have hp : powN (4602678819172646912 % 9223372036854775808) = -1 := by decide +kernel
  unfold numT digT powT
  rw [ho, hp, decDigits_one (by decide), show (-1 : Int) = -((1 : Nat) : Int) from rfl, itoa_neg 1 (by decide), decDigits_one (by decide)]
  rfl
theorem ex4 : clsN 0 = 5 := by decide +kernel
theorem ex5 : rankN 0 = 9223372036854775808 := by decide +kernel
theorem parse_ex1 (w : World) : Calls Tryz.prog 88 #[.string ⟨#[45, 51, 112, 49]⟩] w fun e w' => e = .returned (.tuple #[.float .f64 13841813454723219456, .int .i64 0]) ∧ Below w.heap.size w w' := by
  have := parse_any ⟨#[45, 51, 112, 49]⟩ (by decide) w
  rw [show (⟨#[45, 51, 112, 49]⟩ : ByteArray).data.toList = [45, 51, 112, 49] from rfl, ex1] at this
  exact this
theorem parse_ex2 (w : World) : Calls Tryz.prog 88 #[.string ⟨#[50, 112, 48]⟩] w fun e w' => e = .returned (.tuple #[.float .f64 0, .int .i64 1]) ∧ Below w.heap.size w w' := by
  have := parse_any ⟨#[50, 112, 48]⟩ (by decide) w
  rw [show (⟨#[50, 112, 48]⟩ : ByteArray).data.toList = [50, 112, 48] from rfl, ex2] at this
  exact this
theorem print_ex (w : World) (hT : Tabs w) : Calls Tryz.prog 64 #[.float .f64 4602678819172646912] w fun e w' => e = .returned (.string ⟨#[49, 112, 45, 49]⟩) ∧ Below w.heap.size w w' := by
  have := print_any 4602678819172646912 (by decide) w hT
  rw [ex3] at this
  exact this
theorem class_ex (w : World) : Calls Tryz.prog 89 #[.float .f64 0] w fun e w' => e = .returned (.int .i64 5) ∧ w = w' := by
  have := class_any 0 w (by decide)
  rw [ex4] at this
  exact this
theorem rank_ex (w : World) : Calls Tryz.prog 71 #[.float .f64 0] w fun e w' => e = .returned (.int .u64 9223372036854775808) ∧ w = w' := by
  have := rank_any 0 w (by decide)
  rw [ex5] at this
  exact this
end Go.Proofs.YtjkfcmadoeifgaaGreatDoor
