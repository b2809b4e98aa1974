/- num.Print: the text of any float. Conditions: bits below 2^64; the tables hold what their initialisers lay. raceref.Dec: the decimal numeral. Conditions: numbers below 2^62 in size. raceref1.Print: the text of any float. Conditions: bits below 2^64. The nearest float of an exact number, and what a product of two numbers is. Conditions: finite numbers above nought. How two finite floats above nought stand to each other: as their bits do. Conditions: finite, not negative. math.Ldexp and what it calls, at finite numbers. Conditions: a number from 1 on; a power between -200000 and 200000. math.Ldexp of a whole number: just the float of an odd number and a power, where there is one; some float in any case. Conditions: a number from 1 on, below 2^58; a power between -200000 and 200000. -/
import Derived.Test.YtbgccaconhmbaaaGreatDoorJH
import Derived.Test.YtbgccaconhmbaaaGreatDoorJA
import Derived.Test.YtbgccaconhmbaaaGreatDoorJD
import Derived.Laws.FloatArith
namespace Go.Proofs.YtbgccaconhmbaaaGreatDoor
open Go.RowKit Go.Sort Go.Lib

def digT (m : Nat) : List UInt8 := decDigits (oddN m)
def powT (m : Nat) : List UInt8 := itoa (powN m)
/-- The text of a finite number above zero (its lower bits). -/
def numT (m : Nat) : List UInt8 := digT m ++ 112 :: powT m
def textN (b : Nat) : List UInt8 :=
  match clsN b with
  | 0 => [110, 97, 110]
  | 1 => [45, 105, 110, 102]
  | 4 => [45, 48]
  | 5 => [48]
  | 8 => [105, 110, 102]
  | 2 | 3 => 45 :: numT (b % 9223372036854775808)
  | _ => numT (b % 9223372036854775808)

theorem oddN_lt {m : Nat} (h : 0 < m) : oddN m < 9007199254740992 := by
  have := (fullN_bd h).2
  unfold oddN
  exact Nat.lt_of_le_of_lt (Nat.div_le_self _ _) this
theorem powN_bd {m : Nat} (h : 0 < m) (h2 : m < infR) : -1074 ≤ powN m ∧ powN m ≤ 1100 := by
  have h3 := expN_bd h2
  have h4 := evenN_lt h
  unfold powN
  omega
theorem nDig_le (u : Nat) (h : u < 18446744073709551616) : nDigits u ≤ 20 := by
  by_cases h0 : u = 0
  · subst h0; unfold nDigits; simp
  · have := Lib.numDigits_eq u (by omega) h; split at this <;> omega
theorem digT_len {m : Nat} (h : 0 < m) : (digT m).length ≤ 20 := by
  unfold digT; rw [decDigits_length]; exact nDig_le _ (by have := oddN_lt h; omega)
theorem itoa_len (n : Int) (h0 : -9223372036854775808 ≤ n) (h1 : n ≤ 9223372036854775807) : (itoa n).length ≤ 21 := by
  unfold itoa
  split
  · rw [List.length_cons, decDigits_length]
    have := nDig_le n.natAbs (by omega)
    omega
  · rw [decDigits_length]
    have := nDig_le n.toNat (by omega)
    omega
theorem powT_len {m : Nat} (h : 0 < m) (h2 : m < infR) : (powT m).length ≤ 21 := by
  have := powN_bd h h2
  exact itoa_len _ (by omega) (by omega)
theorem ba_append (a b : Array UInt8) : (⟨a⟩ : ByteArray) ++ ⟨b⟩ = ⟨a ++ b⟩ := ByteArray.ext (by simp)
theorem ret_s {s t : ByteArray} (h : s = t) : Ending.returned (.string s) = .returned (.string t) := by rw [h]
theorem numT_eq (m : Nat) : (⟨(digT m).toArray⟩ : ByteArray) ++ ⟨#[112]⟩ ++ ⟨(powT m).toArray⟩ = ⟨(numT m).toArray⟩ := by
  rw [ba_append, ba_append]; simp [numT]
theorem numT_neg (m : Nat) : (⟨#[45]⟩ : ByteArray) ++ (⟨(digT m).toArray⟩ ++ ⟨#[112]⟩ ++ ⟨(powT m).toArray⟩) = ⟨(45 :: numT m).toArray⟩ := by
  rw [numT_eq, ba_append]; simp

theorem formatOdd (m : Nat) (h : 0 < m) (w : World) (hT : Tabs w) :
    Calls Tryz.prog 173 #[.int .u64 (oddN m : Int), .int .i64 10] w fun e w' => e = .returned (.string ⟨(digT m).toArray⟩) ∧ Below w.heap.size w w' :=
  formatUint _ (by have := oddN_lt h; omega) w hT
theorem itoaPow (m : Nat) (h : 0 < m) (h2 : m < infR) (w : World) (hT : Tabs w) :
    Calls Tryz.prog 174 #[.int .i64 (powN m)] w fun e w' => e = .returned (.string ⟨(powT m).toArray⟩) ∧ Below w.heap.size w w' := by
  have := powN_bd h h2
  exact itoa_any _ (by omega) (by omega) w hT

theorem cls_cases {b : Nat} (hb : b < 18446744073709551616) :
    (clsN b = 0 ∧ nanB b = true) ∨ (clsN b = 1 ∧ b = 18442240474082181120) ∨ (clsN b = 4 ∧ b = 9223372036854775808) ∨ (clsN b = 5 ∧ b = 0) ∨ (clsN b = 8 ∧ b = infR) ∨
    ((clsN b = 2 ∨ clsN b = 3) ∧ canon b = b ∧ 0 < b % 9223372036854775808 ∧ b % 9223372036854775808 < infR ∧ 9223372036854775808 < b) ∨
    ((clsN b = 6 ∨ clsN b = 7) ∧ canon b = b ∧ 0 < b % 9223372036854775808 ∧ b % 9223372036854775808 < infR ∧ b < 9223372036854775808) := by
  cases h : nanB b
  · have hn : ¬ infR < b % 9223372036854775808 := by simpa [nanB] using h
    have hc := canon_num h
    by_cases h3 : b % 9223372036854775808 < infR
    · by_cases h0 : b % 9223372036854775808 = 0
      · have hd := distN_0 h0
        by_cases hs : b < 9223372036854775808
        · have := clsN_pos h hs; rw [hd] at this
          right; right; right; left; exact ⟨this, by omega⟩
        · have := clsN_neg h hs; rw [hd] at this
          right; right; left; exact ⟨this, by omega⟩
      · have hd : distN (b % 9223372036854775808) = 1 ∨ distN (b % 9223372036854775808) = 2 := by
          by_cases h1 : b % 9223372036854775808 < 4503599627370496
          · exact .inl (distN_1 h0 h1)
          · exact .inr (distN_2 h1 h3)
        by_cases hs : b < 9223372036854775808
        · have := clsN_pos h hs
          right; right; right; right; right; right
          exact ⟨by omega, hc, by omega, h3, hs⟩
        · have := clsN_neg h hs
          right; right; right; right; right; left
          exact ⟨by omega, hc, by omega, h3, by omega⟩
    · have hd := distN_3 h3
      unfold infR at hn h3
      by_cases hs : b < 9223372036854775808
      · have := clsN_pos h hs; rw [hd] at this
        right; right; right; right; left; exact ⟨this, by unfold infR; omega⟩
      · have := clsN_neg h hs; rw [hd] at this
        right; left; exact ⟨this, by omega⟩
  · exact .inl ⟨cls_nan h, rfl⟩
theorem print_k0 (b : Nat) (hb : b < 18446744073709551616) (hk : clsN b = 0) (w : World) :
    Calls Tryz.prog 137 #[.float .f64 b] w fun e w' => e = .returned (.string ⟨#[110, 97, 110]⟩) ∧ w = w' := by
  have HB := Lib.hid hb; clear hb
  have HK := Lib.hid hk; clear hk
  go_enter Tryz.func137, Tryz.ntmps137
  go_wp2_with (go_at_call 171; refine (class_any _ _ HB.out).mono ?_; rw [HK.out]; rintro e w' ⟨rfl, rfl⟩)
  go_ret
  exact ⟨rfl, rfl⟩
theorem print_k1 (b : Nat) (hb : b < 18446744073709551616) (hk : clsN b = 1) (w : World) :
    Calls Tryz.prog 137 #[.float .f64 b] w fun e w' => e = .returned (.string ⟨#[45, 105, 110, 102]⟩) ∧ w = w' := by
  have HB := Lib.hid hb; clear hb
  have HK := Lib.hid hk; clear hk
  go_enter Tryz.func137, Tryz.ntmps137
  go_wp2_with (go_at_call 171; refine (class_any _ _ HB.out).mono ?_; rw [HK.out]; rintro e w' ⟨rfl, rfl⟩)
  go_ret
  exact ⟨rfl, rfl⟩
theorem print_k4 (b : Nat) (hb : b < 18446744073709551616) (hk : clsN b = 4) (w : World) :
    Calls Tryz.prog 137 #[.float .f64 b] w fun e w' => e = .returned (.string ⟨#[45, 48]⟩) ∧ w = w' := by
  have HB := Lib.hid hb; clear hb
  have HK := Lib.hid hk; clear hk
  go_enter Tryz.func137, Tryz.ntmps137
  go_wp2_with (go_at_call 171; refine (class_any _ _ HB.out).mono ?_; rw [HK.out]; rintro e w' ⟨rfl, rfl⟩)
  go_ret
  exact ⟨rfl, rfl⟩
theorem print_k5 (b : Nat) (hb : b < 18446744073709551616) (hk : clsN b = 5) (w : World) :
    Calls Tryz.prog 137 #[.float .f64 b] w fun e w' => e = .returned (.string ⟨#[48]⟩) ∧ w = w' := by
  have HB := Lib.hid hb; clear hb
  have HK := Lib.hid hk; clear hk
  go_enter Tryz.func137, Tryz.ntmps137
  go_wp2_with (go_at_call 171; refine (class_any _ _ HB.out).mono ?_; rw [HK.out]; rintro e w' ⟨rfl, rfl⟩)
  go_ret
  exact ⟨rfl, rfl⟩
theorem print_k8 (b : Nat) (hb : b < 18446744073709551616) (hk : clsN b = 8) (w : World) :
    Calls Tryz.prog 137 #[.float .f64 b] w fun e w' => e = .returned (.string ⟨#[105, 110, 102]⟩) ∧ w = w' := by
  have HB := Lib.hid hb; clear hb
  have HK := Lib.hid hk; clear hk
  go_enter Tryz.func137, Tryz.ntmps137
  go_wp2_with (go_at_call 171; refine (class_any _ _ HB.out).mono ?_; rw [HK.out]; rintro e w' ⟨rfl, rfl⟩)
  go_ret
  exact ⟨rfl, rfl⟩
set_option maxHeartbeats 800000 in
theorem print_k2 (b m : Nat) (hb : b < 18446744073709551616) (hk : clsN b = 2) (hc : canon b = b) (h1 : bits .andNot .u64 (b : Int) 9223372036854775808 = (m : Int)) (hm0 : 0 < m) (hm : m < infR)
    (hlt : (FloatKind.f64.format.order b 0 == some .lt) = true) (w : World) (hT : Tabs w) :
    Calls Tryz.prog 137 #[.float .f64 b] w fun e w' => e = .returned (.string ⟨(45 :: numT m).toArray⟩) ∧ Below w.heap.size w w' := by
  have l1 := digT_len hm0
  have l2 := powT_len hm0 hm
  have n1 : ¬ 9223372036854775807 < (digT m).length + 1 := by omega
  have n2 : ¬ 9223372036854775807 < (digT m).length + 1 + (powT m).length := by omega
  have n3 : ¬ 9223372036854775807 < 1 + ((digT m).length + 1 + (powT m).length) := by omega
  clear l1 l2
  have HB := Lib.hid hb; clear hb
  have HK := Lib.hid hk; clear hk
  have HC := Lib.hid hc; clear hc
  have HM := Lib.hid hm; clear hm
  have HM0 := Lib.hid hm0; clear hm0
  have HT := Lib.hid hT; clear hT
  go_enter Tryz.func137, Tryz.ntmps137
  go_wp2_with (first
    | (go_at_call 171; refine (class_any _ _ HB.out).mono ?_; rw [HK.out]; rintro e w' ⟨rfl, rfl⟩)
    | (go_at_call 112; refine (bits_any _ _).mono ?_; rw [HC.out]; rintro e w' ⟨rfl, rfl⟩)
    | (go_at_call 172; refine (split_any m HM.out HM0.out _ HT.out).mono ?_; rintro e w' ⟨rfl, rfl⟩)
    | (go_at_call 173; refine (formatOdd m HM0.out _ HT.out).mono ?_; rintro e w1 ⟨rfl, hb1⟩; have HT1 := Lib.hid (HT.out.below hb1); have HB1 := Lib.hid hb1; clear hb1)
    | (go_at_call 174; refine (itoaPow m HM0.out HM.out _ HT1.out).mono ?_; rintro e w2 ⟨rfl, hb2⟩; have HB2 := Lib.hid hb2; clear hb2))
  go_ret
  exact ⟨ret_s (numT_neg m), HB1.out.trans (HB2.out.mono HB1.out.size)⟩
set_option maxHeartbeats 800000 in
theorem print_k3 (b m : Nat) (hb : b < 18446744073709551616) (hk : clsN b = 3) (hc : canon b = b) (h1 : bits .andNot .u64 (b : Int) 9223372036854775808 = (m : Int)) (hm0 : 0 < m) (hm : m < infR)
    (hlt : (FloatKind.f64.format.order b 0 == some .lt) = true) (w : World) (hT : Tabs w) :
    Calls Tryz.prog 137 #[.float .f64 b] w fun e w' => e = .returned (.string ⟨(45 :: numT m).toArray⟩) ∧ Below w.heap.size w w' := by
  have l1 := digT_len hm0
  have l2 := powT_len hm0 hm
  have n1 : ¬ 9223372036854775807 < (digT m).length + 1 := by omega
  have n2 : ¬ 9223372036854775807 < (digT m).length + 1 + (powT m).length := by omega
  have n3 : ¬ 9223372036854775807 < 1 + ((digT m).length + 1 + (powT m).length) := by omega
  clear l1 l2
  have HB := Lib.hid hb; clear hb
  have HK := Lib.hid hk; clear hk
  have HC := Lib.hid hc; clear hc
  have HM := Lib.hid hm; clear hm
  have HM0 := Lib.hid hm0; clear hm0
  have HT := Lib.hid hT; clear hT
  go_enter Tryz.func137, Tryz.ntmps137
  go_wp2_with (first
    | (go_at_call 171; refine (class_any _ _ HB.out).mono ?_; rw [HK.out]; rintro e w' ⟨rfl, rfl⟩)
    | (go_at_call 112; refine (bits_any _ _).mono ?_; rw [HC.out]; rintro e w' ⟨rfl, rfl⟩)
    | (go_at_call 172; refine (split_any m HM.out HM0.out _ HT.out).mono ?_; rintro e w' ⟨rfl, rfl⟩)
    | (go_at_call 173; refine (formatOdd m HM0.out _ HT.out).mono ?_; rintro e w1 ⟨rfl, hb1⟩; have HT1 := Lib.hid (HT.out.below hb1); have HB1 := Lib.hid hb1; clear hb1)
    | (go_at_call 174; refine (itoaPow m HM0.out HM.out _ HT1.out).mono ?_; rintro e w2 ⟨rfl, hb2⟩; have HB2 := Lib.hid hb2; clear hb2))
  go_ret
  exact ⟨ret_s (numT_neg m), HB1.out.trans (HB2.out.mono HB1.out.size)⟩
set_option maxHeartbeats 800000 in
theorem print_k6 (b m : Nat) (hb : b < 18446744073709551616) (hk : clsN b = 6) (hc : canon b = b) (h1 : bits .andNot .u64 (b : Int) 9223372036854775808 = (m : Int)) (hm0 : 0 < m) (hm : m < infR)
    (hlt : (FloatKind.f64.format.order b 0 == some .lt) = false) (w : World) (hT : Tabs w) :
    Calls Tryz.prog 137 #[.float .f64 b] w fun e w' => e = .returned (.string ⟨(numT m).toArray⟩) ∧ Below w.heap.size w w' := by
  have l1 := digT_len hm0
  have l2 := powT_len hm0 hm
  have n1 : ¬ 9223372036854775807 < (digT m).length + 1 := by omega
  have n2 : ¬ 9223372036854775807 < (digT m).length + 1 + (powT m).length := by omega
  have n3 : ¬ 9223372036854775807 < 1 + ((digT m).length + 1 + (powT m).length) := by omega
  clear l1 l2
  have HB := Lib.hid hb; clear hb
  have HK := Lib.hid hk; clear hk
  have HC := Lib.hid hc; clear hc
  have HM := Lib.hid hm; clear hm
  have HM0 := Lib.hid hm0; clear hm0
  have HT := Lib.hid hT; clear hT
  go_enter Tryz.func137, Tryz.ntmps137
  go_wp2_with (first
    | (go_at_call 171; refine (class_any _ _ HB.out).mono ?_; rw [HK.out]; rintro e w' ⟨rfl, rfl⟩)
    | (go_at_call 112; refine (bits_any _ _).mono ?_; rw [HC.out]; rintro e w' ⟨rfl, rfl⟩)
    | (go_at_call 172; refine (split_any m HM.out HM0.out _ HT.out).mono ?_; rintro e w' ⟨rfl, rfl⟩)
    | (go_at_call 173; refine (formatOdd m HM0.out _ HT.out).mono ?_; rintro e w1 ⟨rfl, hb1⟩; have HT1 := Lib.hid (HT.out.below hb1); have HB1 := Lib.hid hb1; clear hb1)
    | (go_at_call 174; refine (itoaPow m HM0.out HM.out _ HT1.out).mono ?_; rintro e w2 ⟨rfl, hb2⟩; have HB2 := Lib.hid hb2; clear hb2))
  go_ret
  exact ⟨ret_s (numT_eq m), HB1.out.trans (HB2.out.mono HB1.out.size)⟩
set_option maxHeartbeats 800000 in
theorem print_k7 (b m : Nat) (hb : b < 18446744073709551616) (hk : clsN b = 7) (hc : canon b = b) (h1 : bits .andNot .u64 (b : Int) 9223372036854775808 = (m : Int)) (hm0 : 0 < m) (hm : m < infR)
    (hlt : (FloatKind.f64.format.order b 0 == some .lt) = false) (w : World) (hT : Tabs w) :
    Calls Tryz.prog 137 #[.float .f64 b] w fun e w' => e = .returned (.string ⟨(numT m).toArray⟩) ∧ Below w.heap.size w w' := by
  have l1 := digT_len hm0
  have l2 := powT_len hm0 hm
  have n1 : ¬ 9223372036854775807 < (digT m).length + 1 := by omega
  have n2 : ¬ 9223372036854775807 < (digT m).length + 1 + (powT m).length := by omega
  have n3 : ¬ 9223372036854775807 < 1 + ((digT m).length + 1 + (powT m).length) := by omega
  clear l1 l2
  have HB := Lib.hid hb; clear hb
  have HK := Lib.hid hk; clear hk
  have HC := Lib.hid hc; clear hc
  have HM := Lib.hid hm; clear hm
  have HM0 := Lib.hid hm0; clear hm0
  have HT := Lib.hid hT; clear hT
  go_enter Tryz.func137, Tryz.ntmps137
  go_wp2_with (first
    | (go_at_call 171; refine (class_any _ _ HB.out).mono ?_; rw [HK.out]; rintro e w' ⟨rfl, rfl⟩)
    | (go_at_call 112; refine (bits_any _ _).mono ?_; rw [HC.out]; rintro e w' ⟨rfl, rfl⟩)
    | (go_at_call 172; refine (split_any m HM.out HM0.out _ HT.out).mono ?_; rintro e w' ⟨rfl, rfl⟩)
    | (go_at_call 173; refine (formatOdd m HM0.out _ HT.out).mono ?_; rintro e w1 ⟨rfl, hb1⟩; have HT1 := Lib.hid (HT.out.below hb1); have HB1 := Lib.hid hb1; clear hb1)
    | (go_at_call 174; refine (itoaPow m HM0.out HM.out _ HT1.out).mono ?_; rintro e w2 ⟨rfl, hb2⟩; have HB2 := Lib.hid hb2; clear hb2))
  go_ret
  exact ⟨ret_s (numT_eq m), HB1.out.trans (HB2.out.mono HB1.out.size)⟩

theorem textN_0 {b : Nat} (h : clsN b = 0) : textN b = [110, 97, 110] := by simp only [textN, h]
theorem textN_1 {b : Nat} (h : clsN b = 1) : textN b = [45, 105, 110, 102] := by simp only [textN, h]
theorem textN_4 {b : Nat} (h : clsN b = 4) : textN b = [45, 48] := by simp only [textN, h]
theorem textN_5 {b : Nat} (h : clsN b = 5) : textN b = [48] := by simp only [textN, h]
theorem textN_8 {b : Nat} (h : clsN b = 8) : textN b = [105, 110, 102] := by simp only [textN, h]
theorem textN_neg {b : Nat} (h : clsN b = 2 ∨ clsN b = 3) : textN b = 45 :: numT (b % 9223372036854775808) := by
  rcases h with h | h <;> simp only [textN, h]
theorem textN_pos {b : Nat} (h : clsN b = 6 ∨ clsN b = 7) : textN b = numT (b % 9223372036854775808) := by
  rcases h with h | h <;> simp only [textN, h]
/-- THE TEXT OF ANY FLOAT. -/
theorem print_any (b : Nat) (hb : b < 18446744073709551616) (w : World) (hT : Tabs w) :
    Calls Tryz.prog 137 #[.float .f64 b] w fun e w' => e = .returned (.string ⟨(textN b).toArray⟩) ∧ Below w.heap.size w w' := by
  have h1 := bandNot_top hb
  rcases cls_cases hb with ⟨h, _⟩ | ⟨h, _⟩ | ⟨h, _⟩ | ⟨h, _⟩ | ⟨h, _⟩ | ⟨h, hc, h0, hi, hs⟩ | ⟨h, hc, h0, hi, hs⟩
  · rw [textN_0 h]; refine (print_k0 b hb h w).mono ?_; rintro e w' ⟨he, rfl⟩; exact ⟨he, Below.refl _ _⟩
  · rw [textN_1 h]; refine (print_k1 b hb h w).mono ?_; rintro e w' ⟨he, rfl⟩; exact ⟨he, Below.refl _ _⟩
  · rw [textN_4 h]; refine (print_k4 b hb h w).mono ?_; rintro e w' ⟨he, rfl⟩; exact ⟨he, Below.refl _ _⟩
  · rw [textN_5 h]; refine (print_k5 b hb h w).mono ?_; rintro e w' ⟨he, rfl⟩; exact ⟨he, Below.refl _ _⟩
  · rw [textN_8 h]; refine (print_k8 b hb h w).mono ?_; rintro e w' ⟨he, rfl⟩; exact ⟨he, Below.refl _ _⟩
  · rw [textN_neg h]
    have hl := order_zero_neg hi hs hb
    rcases h with h | h
    · exact print_k2 b _ hb h hc h1 h0 hi hl w hT
    · exact print_k3 b _ hb h hc h1 h0 hi hl w hT
  · rw [textN_pos h]
    have hl := order_zero_pos hi hs
    rcases h with h | h
    · exact print_k6 b _ hb h hc h1 h0 hi hl w hT
    · exact print_k7 b _ hb h hc h1 h0 hi hl w hT
end Go.Proofs.YtbgccaconhmbaaaGreatDoor
namespace Go.Proofs.YtbgccaconhmbaaaGreatDoor
open Go.RowKit Go.Sort Go.Lib

/-- The byte of a digit. -/
def chr (r : Nat) : UInt8 := UInt8.ofNat (48 + r)
def preD (j : Nat) : List UInt8 := bif decide (j = 0) then [] else decDigits j
theorem preD_0 : preD 0 = [] := rfl
theorem preD_pos {j : Nat} (h : j ≠ 0) : preD j = decDigits j := by simp [preD, h]
theorem preD_step {j : Nat} (h : j ≠ 0) (l : List UInt8) : preD (j / 10) ++ (chr (j % 10) :: l) = preD j ++ l := by
  unfold chr
  rw [preD_pos h]
  by_cases h2 : j < 10
  · have e : j / 10 = 0 := by omega
    have e2 : j % 10 = j := by omega
    rw [e, preD_0, e2, decDigits_one h2]; rfl
  · have e : j / 10 ≠ 0 := by omega
    conv => rhs; rw [decDigits, dif_neg h2]
    rw [preD_pos e]; simp
theorem run_byte (wr : World) (r : Nat) (h : r < 10) : (convert 129 9 (.slice (some ⟨wr.heap.size, 0, none⟩) 1 1)).run Tryz.prog (wr.alloc (.cells #[.int .u8 (48 + (r : Int))] 5)) = .ok (.string ⟨#[chr r]⟩) (wr.alloc (.cells #[.int .u8 (48 + (r : Int))] 5)) := by
  refine run_convert_bytes_back (P := Tryz.prog) (wr.alloc (.cells #[.int .u8 (48 + (r : Int))] 5)) 129 9 5 ⟨wr.heap.size, 0, none⟩ 1 [chr r] Tryz.underlying129 Tryz.underlying5 Tryz.underlying9 (fun j hj => ?_)
  have : j = 0 := by simpa using hj
  subst this
  rw [Lib.add_plain, World.cell?_alloc_new]
  simp [chr]
  omega
theorem ba_cons (c : UInt8) (l : List UInt8) : (⟨#[c]⟩ : ByteArray) ++ ⟨l.toArray⟩ = ⟨(c :: l).toArray⟩ := by
  rw [ba_append]; simp
theorem pre_end {u : Nat} {l : List UInt8} (h : preD 0 ++ l = decDigits u) : (⟨l.toArray⟩ : ByteArray) = ⟨(decDigits u).toArray⟩ := by
  rw [preD_0, List.nil_append] at h
  rw [h]
theorem meas_toNat {x : Int} {q j : Nat} (h : x = (q : Int)) (h2 : q < j) : x.toNat < ((j : Nat) : Int).toNat := by rw [h]; omega
theorem pre_len {j u : Nat} {l : List UInt8} (h : preD j ++ l = decDigits u) (hu : u < 4611686018427387904) : l.length ≤ 20 := by
  have := congrArg List.length h
  rw [List.length_append, decDigits_length] at this
  have := nDig_le u (by omega)
  omega

set_option maxRecDepth 100000 in
set_option maxHeartbeats 800000 in
theorem dec_pos (u : Nat) (hu0 : 0 < u) (hu : u < 4611686018427387904) (w : World) :
    Calls Tryz.prog 140 #[.int .i64 (u : Int)] w fun e w' => e = .returned (.string ⟨(decDigits u).toArray⟩) ∧ Below w.heap.size w w' := by
  have hz : ((u : Int) == 0) = false := by simp; omega
  have hs : decide ((u : Int) < 0) = false := by simp
  have HU := Lib.hid hu; clear hu
  have HU0 := Lib.hid hu0; clear hu0
  go_enter Tryz.func140, Tryz.ntmps140
  go_wp2
  go_loopw [3, 4] (fun s k wr => ∃ (j : Nat) (l : List UInt8), s = .string ⟨l.toArray⟩ ∧ k = .int .i64 (j : Int) ∧ preD j ++ l = decDigits u ∧ j ≤ u ∧ Below w.heap.size w wr) (fun _ k _ => (RowKit.intOf k).natAbs)
  case atStart => exact ⟨u, [], rfl, rfl, by rw [preD_pos (by have := HU0.out; omega)]; simp, Nat.le_refl _, Below.refl _ _⟩
  case round =>
    obtain ⟨j, l, rfl, rfl, hp, hj, hb⟩ := hrel
    have hl1 : ¬ 9223372036854775807 < 1 + l.length := by have := pre_len hp HU.out; omega
    have HP := Lib.hid hp; clear hp
    have HB := Lib.hid hb; clear hb
    by_cases h0 : j = 0
    · subst h0
      clear hj hl1
      go_wp2
      go_ret
      exact ⟨ret_s (pre_end HP.out), HB.out⟩
    · have h1 : ((j : Int) != 0) = true := by simp; omega
      have h2 : (j : Int).tmod 10 = ((j % 10 : Nat) : Int) := by rw [Int.tmod_eq_emod_of_nonneg (by omega)]; rfl
      have H3 : Hid (wrap64 ((j : Int) / 10) = ((j / 10 : Nat) : Int)) := by unfold Hid wrap64; have := HU.out; omega
      have h4 : j % 10 < 10 := by omega
      have HS := Lib.hid (preD_step h0 l)
      have HQ : Hid (j / 10 ≤ u) := by unfold Hid; omega
      have HL : Hid (j / 10 < j) := by unfold Hid; omega
      have hcv := run_byte wr (j % 10) h4
      clear h0 hj
      generalize j % 10 = r at *
      generalize j / 10 = q at *
      go_wp2
      go_roundw
      case rel => exact ⟨q, chr r :: l, congrArg Value.string (ba_cons _ _), congrArg (Value.int .i64) H3.out, by rw [HS.out]; exact HP.out, HQ.out, HB.out.alloc HB.out.size _⟩
      case measure => rw [H3.out]; have h1 := HL.out; simp [RowKit.intOf]; omega
set_option maxRecDepth 100000 in
set_option maxHeartbeats 800000 in
theorem dec_neg (u : Nat) (hu0 : 0 < u) (hu : u < 4611686018427387904) (w : World) :
    Calls Tryz.prog 140 #[.int .i64 (-(u : Int))] w fun e w' => e = .returned (.string ⟨(45 :: decDigits u).toArray⟩) ∧ Below w.heap.size w w' := by
  have hz : ((-(u : Int)) == 0) = false := by simp; omega
  have hs : decide (-(u : Int) < 0) = true := by simp; omega
  have HU := Lib.hid hu; clear hu
  have HU0 := Lib.hid hu0; clear hu0
  go_enter Tryz.func140, Tryz.ntmps140
  go_wp2
  go_loopw [3, 4] (fun s k wr => ∃ (j : Nat) (l : List UInt8), s = .string ⟨l.toArray⟩ ∧ k = .int .i64 (-(j : Int)) ∧ preD j ++ l = decDigits u ∧ j ≤ u ∧ Below w.heap.size w wr) (fun _ k _ => (RowKit.intOf k).natAbs)
  case atStart => exact ⟨u, [], rfl, rfl, by rw [preD_pos (by have := HU0.out; omega)]; simp, Nat.le_refl _, Below.refl _ _⟩
  case round =>
    obtain ⟨j, l, rfl, rfl, hp, hj, hb⟩ := hrel
    have hl1 : ¬ 9223372036854775807 < 1 + l.length := by have := pre_len hp HU.out; omega
    have HP := Lib.hid hp; clear hp
    have HB := Lib.hid hb; clear hb
    by_cases h0 : j = 0
    · subst h0
      clear hj
      go_wp2
      go_ret
      exact ⟨ret_s (by have := HP.out; rw [preD_0] at this; rw [← this]; exact ba_cons _ _), HB.out⟩
    · have h1 : ((-(j : Int)) != 0) = true := by simp; omega
      have h2 : (-(j : Int)).tmod 10 = -((j % 10 : Nat) : Int) := by rw [Int.neg_tmod, Int.tmod_eq_emod_of_nonneg (by omega)]; rfl
      have H3 : Hid (wrap64 (-((j : Int) / 10)) = -((j / 10 : Nat) : Int)) := by unfold Hid wrap64; have := HU.out; omega
      have h4 : j % 10 < 10 := by omega
      have HS := Lib.hid (preD_step h0 l)
      have HQ : Hid (j / 10 ≤ u) := by unfold Hid; omega
      have HL : Hid (j / 10 < j) := by unfold Hid; omega
      have hcv := run_byte wr (j % 10) h4
      clear h0 hj
      generalize j % 10 = r at *
      generalize j / 10 = q at *
      by_cases hr : r = 0
      · have h2' : (-(j : Int)).tmod 10 = (r : Int) := by rw [h2, hr]; rfl
        clear h2 hr
        go_wp2
        go_roundw
        case rel => exact ⟨q, chr r :: l, congrArg Value.string (ba_cons _ _), congrArg (Value.int .i64) H3.out, by rw [HS.out]; exact HP.out, HQ.out, HB.out.alloc HB.out.size _⟩
        case measure => rw [H3.out]; have h1 := HL.out; simp [RowKit.intOf]; omega
      · have h5 : decide (-(r : Int) < 0) = true := by simp; omega
        go_wp2
        go_roundw
        case rel => exact ⟨q, chr r :: l, congrArg Value.string (ba_cons _ _), congrArg (Value.int .i64) H3.out, by rw [HS.out]; exact HP.out, HQ.out, HB.out.alloc HB.out.size _⟩
        case measure => rw [H3.out]; have h1 := HL.out; simp [RowKit.intOf]; omega
end Go.Proofs.YtbgccaconhmbaaaGreatDoor
namespace Go.Proofs.YtbgccaconhmbaaaGreatDoor
open Go.RowKit Go.Sort Go.Lib

theorem dec_any (n : Int) (h1 : -4611686018427387904 < n) (h2 : n < 4611686018427387904) (w : World) :
    Calls Tryz.prog 140 #[.int .i64 n] w fun e w' => e = .returned (.string ⟨(itoa n).toArray⟩) ∧ Below w.heap.size w w' := by
  by_cases h0 : n = 0
  · subst h0
    go_enter Tryz.func140, Tryz.ntmps140
    go_wp2
    go_ret
    refine ⟨ret_s ?_, Below.refl _ _⟩
    unfold itoa
    rw [if_neg (by decide), show (0 : Int).toNat = 0 from rfl, decDigits_one (by decide)]; rfl
  · by_cases h3 : 0 < n
    · obtain ⟨u, rfl⟩ : ∃ u : Nat, n = u := ⟨n.toNat, by omega⟩
      rw [itoa_nonneg]
      exact dec_pos u (by omega) (by omega) w
    · obtain ⟨u, rfl⟩ : ∃ u : Nat, n = -(u : Int) := ⟨n.natAbs, by omega⟩
      rw [itoa_neg u (by omega)]
      exact dec_neg u (by omega) (by omega) w

theorem full_odd {m : Nat} (h : 0 < m) : fullN m = 2 ^ evenN m * oddN m ∧ oddN m % 2 = 1 := by
  obtain ⟨h1, h2⟩ := fullN_bd h
  obtain ⟨k, hk, _⟩ := Lib.ctzFrom_spec 64 (fullN m) (by omega) (by omega)
  have e : evenN m = Lib.ctzFrom 64 (fullN m) := by unfold evenN Lib.ctz; rw [if_neg h1]
  have e2 : oddN m = 2 * k + 1 := by
    unfold oddN; rw [e]
    conv => lhs; rw [hk]
    rw [← hk]
    conv => lhs; lhs; rw [hk]
    exact Nat.mul_div_cancel_left _ (Nat.two_pow_pos _)
  refine ⟨?_, by omega⟩
  rw [e, e2]; exact hk
/-- The digits, halved j times. -/
def halfN (m j : Nat) : Nat := fullN m / 2 ^ j
theorem halfN_0 (m : Nat) : halfN m 0 = fullN m := by unfold halfN; simp
theorem halfN_end (m : Nat) : halfN m (evenN m) = oddN m := rfl
theorem halfN_succ (m j : Nat) : halfN m j / 2 = halfN m (j + 1) := by
  unfold halfN; rw [Nat.div_div_eq_div_mul, Nat.pow_succ]
theorem halfN_even {m j : Nat} (h : 0 < m) (hj : j < evenN m) : halfN m j % 2 = 0 := by
  obtain ⟨h1, _⟩ := full_odd h
  obtain ⟨d, hd⟩ : ∃ d, evenN m = j + (d + 1) := ⟨evenN m - j - 1, by omega⟩
  unfold halfN
  rw [h1, hd, Nat.pow_add, Nat.mul_assoc, Nat.mul_div_cancel_left _ (Nat.two_pow_pos _), Nat.pow_succ, Nat.mul_comm (2 ^ d) 2, Nat.mul_assoc]
  exact Nat.mul_mod_right _ _
theorem halfN_lt {m j : Nat} (h : 0 < m) : halfN m j < 9007199254740992 := by
  have := (fullN_bd h).2
  exact Nat.lt_of_le_of_lt (Nat.div_le_self _ _) this
def expJ (m j : Nat) : Int := (expN m : Int) - 1075 + j
theorem expJ_end (m : Nat) : expJ m (evenN m) = powN m := by unfold expJ powN; omega
theorem expJ_succ (m j : Nat) : expJ m j + 1 = expJ m (j + 1) := by unfold expJ; omega
theorem expJ_bd {m j : Nat} (h2 : m < infR) (hj : j < 64) : -1074 ≤ expJ m j ∧ expJ m j ≤ 1100 := by
  have h3 := expN_bd h2
  unfold expJ
  omega
theorem tmodN (x y : Nat) : ((x : Nat) : Int).tmod (y : Int) = ((x % y : Nat) : Int) := by rw [Int.tmod_eq_emod_of_nonneg (by omega)]; exact (Int.natCast_emod x y).symm
theorem start_e (m : Nat) : (expN m : Int) - 1075 = expJ m 0 := by unfold expJ; omega
theorem start_e1 (m : Nat) (h : expN m = 1) : (-1074 : Int) = expJ m 0 := by unfold expJ; rw [h]; rfl
theorem meas_up {x y : Int} (h : x + 1 = y) (h2 : x ≤ 1100) : (2000 - y).toNat < (2000 - x).toNat := by omega
theorem decOdd (m : Nat) (h : 0 < m) (w : World) :
    Calls Tryz.prog 140 #[.int .i64 (oddN m : Int)] w fun e w' => e = .returned (.string ⟨(digT m).toArray⟩) ∧ Below w.heap.size w w' := by
  have := oddN_lt h
  have h0 := (full_odd h).2
  exact dec_pos _ (by omega) (by omega) w
theorem decPow (m : Nat) (h : 0 < m) (h2 : m < infR) (w : World) :
    Calls Tryz.prog 140 #[.int .i64 (powN m)] w fun e w' => e = .returned (.string ⟨(powT m).toArray⟩) ∧ Below w.heap.size w w' := by
  have := powN_bd h h2
  exact dec_any _ (by omega) (by omega) w
theorem rprint_k0 (b : Nat) (hb : b < 18446744073709551616) (hk : clsN b = 0) (w : World) :
    Calls Tryz.prog 106 #[.float .f64 b] w fun e w' => e = .returned (.string ⟨#[110, 97, 110]⟩) ∧ w = w' := by
  have HB := Lib.hid hb; clear hb
  have HK := Lib.hid hk; clear hk
  go_enter Tryz.func106, Tryz.ntmps106
  go_wp2_with (go_at_call 87; refine (rclass_any _ _ HB.out).mono ?_; rw [HK.out]; rintro e w' ⟨rfl, rfl⟩)
  go_ret
  exact ⟨rfl, rfl⟩
theorem rprint_k1 (b : Nat) (hb : b < 18446744073709551616) (hk : clsN b = 1) (w : World) :
    Calls Tryz.prog 106 #[.float .f64 b] w fun e w' => e = .returned (.string ⟨#[45, 105, 110, 102]⟩) ∧ w = w' := by
  have HB := Lib.hid hb; clear hb
  have HK := Lib.hid hk; clear hk
  go_enter Tryz.func106, Tryz.ntmps106
  go_wp2_with (go_at_call 87; refine (rclass_any _ _ HB.out).mono ?_; rw [HK.out]; rintro e w' ⟨rfl, rfl⟩)
  go_ret
  exact ⟨rfl, rfl⟩
theorem rprint_k4 (b : Nat) (hb : b < 18446744073709551616) (hk : clsN b = 4) (w : World) :
    Calls Tryz.prog 106 #[.float .f64 b] w fun e w' => e = .returned (.string ⟨#[45, 48]⟩) ∧ w = w' := by
  have HB := Lib.hid hb; clear hb
  have HK := Lib.hid hk; clear hk
  go_enter Tryz.func106, Tryz.ntmps106
  go_wp2_with (go_at_call 87; refine (rclass_any _ _ HB.out).mono ?_; rw [HK.out]; rintro e w' ⟨rfl, rfl⟩)
  go_ret
  exact ⟨rfl, rfl⟩
theorem rprint_k5 (b : Nat) (hb : b < 18446744073709551616) (hk : clsN b = 5) (w : World) :
    Calls Tryz.prog 106 #[.float .f64 b] w fun e w' => e = .returned (.string ⟨#[48]⟩) ∧ w = w' := by
  have HB := Lib.hid hb; clear hb
  have HK := Lib.hid hk; clear hk
  go_enter Tryz.func106, Tryz.ntmps106
  go_wp2_with (go_at_call 87; refine (rclass_any _ _ HB.out).mono ?_; rw [HK.out]; rintro e w' ⟨rfl, rfl⟩)
  go_ret
  exact ⟨rfl, rfl⟩
theorem rprint_k8 (b : Nat) (hb : b < 18446744073709551616) (hk : clsN b = 8) (w : World) :
    Calls Tryz.prog 106 #[.float .f64 b] w fun e w' => e = .returned (.string ⟨#[105, 110, 102]⟩) ∧ w = w' := by
  have HB := Lib.hid hb; clear hb
  have HK := Lib.hid hk; clear hk
  go_enter Tryz.func106, Tryz.ntmps106
  go_wp2_with (go_at_call 87; refine (rclass_any _ _ HB.out).mono ?_; rw [HK.out]; rintro e w' ⟨rfl, rfl⟩)
  go_ret
  exact ⟨rfl, rfl⟩
set_option maxRecDepth 100000 in
set_option maxHeartbeats 1600000 in
theorem rprint_neg_hi (b m fr : Nat) (hb : b < 18446744073709551616) (hc : canon b = b) (hE : bits .and .u64 ((b : Int) / 4503599627370496) 2047 = (expN m : Int)) (hM : bits .and .u64 (b : Int) 4503599627370495 = (fr : Int)) (hO : bits .or .u64 (fr : Int) 4503599627370496 = (fullN m : Int)) (hg : 0 < expN m)
    (k0 : ((clsN b : Int) == 0) = false) (k1 : ((clsN b : Int) == 1) = false) (k8 : ((clsN b : Int) == 8) = false) (k4 : ((clsN b : Int) == 4) = false) (k5 : ((clsN b : Int) == 5) = false)
    (ht : (bits .and .u64 (b : Int) 9223372036854775808 != 0) = true) (hm0 : 0 < m) (hm : m < infR) (_hfr : fr = fr) (w : World) :
    Calls Tryz.prog 106 #[.float .f64 b] w fun e w' => e = .returned (.string ⟨(45 :: numT m).toArray⟩) ∧ Below w.heap.size w w' := by
  have l1 := digT_len hm0
  have l2 := powT_len hm0 hm
  have n1 : ¬ 9223372036854775807 < (digT m).length + 1 := by omega
  have n2 : ¬ 9223372036854775807 < (digT m).length + 1 + (powT m).length := by omega
  have n3 : ¬ 9223372036854775807 < 1 + ((digT m).length + 1 + (powT m).length) := by omega
  clear l1 l2
  have e1 : (1:Int) ≤ (expN m : Int) := by have := (expN_bd hm).1; omega
  have e2 : (expN m : Int) ≤ 2046 := by have := (expN_bd hm).2; omega
  have HB := Lib.hid hb; clear hb
  have HC := Lib.hid hc; clear hc
  have HM := Lib.hid hm; clear hm
  have HM0 := Lib.hid hm0; clear hm0
  go_enter Tryz.func106, Tryz.ntmps106
  go_wp2_with (first
    | (go_at_call 87; refine (rclass_any _ _ HB.out).mono ?_; rintro e w' ⟨rfl, rfl⟩)
    | (go_at_call 109; refine (rbits_any _ _).mono ?_; rw [HC.out]; rintro e w' ⟨rfl, rfl⟩))
  go_loop [4, 5] (fun e v => ∃ j : Nat, j ≤ evenN m ∧ e = .int .i64 (expJ m j) ∧ v = .int .u64 (halfN m j : Nat)) (fun e _ => (2000 - RowKit.intOf e).toNat)
  case atStart => exact ⟨0, Nat.zero_le _, congrArg (Value.int .i64) (start_e m), by rw [halfN_0]⟩
  case round =>
    obtain ⟨j, hj, rfl, rfl⟩ := hrel
    have hj64 : j < 64 := by have := evenN_lt HM0.out; omega
    have b1 := (expJ_bd HM.out hj64).1
    have b2 := (expJ_bd HM.out hj64).2
    have hl := halfN_lt (j := j) HM0.out
    have hmod : ((halfN m j : Nat) : Int).tmod 2 = ((halfN m j % 2 : Nat) : Int) := tmodN _ 2
    have hmod' : ((halfN m j : Nat) : Int) % 2 = ((halfN m j % 2 : Nat) : Int) := rfl
    have hdiv : ((halfN m j : Nat) : Int) / 2 = ((halfN m (j + 1) : Nat) : Int) := by rw [← halfN_succ]; rfl
    have hadd := expJ_succ m j
    have HWY : Hid (IntKind.u64.wrap (halfN m (j + 1) : Int) = (halfN m (j + 1) : Int)) := by
      have := halfN_lt (j := j + 1) HM0.out
      exact wrap_nat (by omega)
    have HA := Lib.hid hadd
    have HB2 := Lib.hid b2
    by_cases hlt : j < evenN m
    · rw [halfN_even HM0.out hlt] at hmod hmod'
      have HL := Lib.hid hl; clear hl
      have HLT := Lib.hid hlt; clear hlt
      clear hj hj64
      generalize halfN m j = x at *
      generalize hxx : halfN m (j + 1) = y at *
      generalize hee : expJ m j = ej at *
      generalize hff : expJ m (j + 1) = ef at *
      have HXX := Lib.hid hxx; clear hxx
      have HEE := Lib.hid hee; clear hee
      have HFF := Lib.hid hff; clear hff
      go_wp2
      go_round
      case rel => exact ⟨j + 1, HLT.out, by rw [HFF.out], by rw [HXX.out]; exact congrArg (Value.int .u64) HWY.out⟩
      case measure => exact meas_up HA.out HB2.out
    · obtain rfl : j = evenN m := by omega
      have ho := (full_odd HM0.out).2
      rw [halfN_end] at *
      rw [ho] at hmod hmod'
      rw [expJ_end] at *
      have hw : IntKind.i64.wrap (oddN m : Int) = (oddN m : Int) := by rw [IntKind.wrap_i64]; omega
      have hw' : wrap64 (oddN m : Int) = (oddN m : Int) := by unfold wrap64; omega
      have OL : (oddN m : Int) < 9007199254740992 := by omega
      clear hj hj64 hlt ho hdiv hadd hl
      go_wp2_with (first
        | (go_at_call 140; ((with_reducible refine (decOdd m HM0.out _).mono ?_)); rintro e w1 ⟨rfl, hb1⟩; have HB1 := Lib.hid hb1; clear hb1)
        | (go_at_call 140; ((with_reducible refine (decPow m HM0.out HM.out _).mono ?_)); rintro e w2 ⟨rfl, hb2⟩; have HB2 := Lib.hid hb2; clear hb2))
      go_ret
      exact ⟨ret_s (numT_neg m), HB1.out.trans (HB2.out.mono HB1.out.size)⟩
set_option maxRecDepth 100000 in
set_option maxHeartbeats 1600000 in
theorem rprint_neg_lo (b m fr : Nat) (hb : b < 18446744073709551616) (hc : canon b = b) (hE : bits .and .u64 ((b : Int) / 4503599627370496) 2047 = 0) (hM : bits .and .u64 (b : Int) 4503599627370495 = (fullN m : Int)) (he : expN m = 1)
    (k0 : ((clsN b : Int) == 0) = false) (k1 : ((clsN b : Int) == 1) = false) (k8 : ((clsN b : Int) == 8) = false) (k4 : ((clsN b : Int) == 4) = false) (k5 : ((clsN b : Int) == 5) = false)
    (ht : (bits .and .u64 (b : Int) 9223372036854775808 != 0) = true) (hm0 : 0 < m) (hm : m < infR) (_hfr : fr = fr) (w : World) :
    Calls Tryz.prog 106 #[.float .f64 b] w fun e w' => e = .returned (.string ⟨(45 :: numT m).toArray⟩) ∧ Below w.heap.size w w' := by
  have l1 := digT_len hm0
  have l2 := powT_len hm0 hm
  have n1 : ¬ 9223372036854775807 < (digT m).length + 1 := by omega
  have n2 : ¬ 9223372036854775807 < (digT m).length + 1 + (powT m).length := by omega
  have n3 : ¬ 9223372036854775807 < 1 + ((digT m).length + 1 + (powT m).length) := by omega
  clear l1 l2
  have e1 : (1:Int) ≤ (expN m : Int) := by have := (expN_bd hm).1; omega
  have e2 : (expN m : Int) ≤ 2046 := by have := (expN_bd hm).2; omega
  have HB := Lib.hid hb; clear hb
  have HC := Lib.hid hc; clear hc
  have HM := Lib.hid hm; clear hm
  have HM0 := Lib.hid hm0; clear hm0
  have HE := Lib.hid he; clear he
  go_enter Tryz.func106, Tryz.ntmps106
  go_wp2_with (first
    | (go_at_call 87; refine (rclass_any _ _ HB.out).mono ?_; rintro e w' ⟨rfl, rfl⟩)
    | (go_at_call 109; refine (rbits_any _ _).mono ?_; rw [HC.out]; rintro e w' ⟨rfl, rfl⟩))
  go_loop [4, 5] (fun e v => ∃ j : Nat, j ≤ evenN m ∧ e = .int .i64 (expJ m j) ∧ v = .int .u64 (halfN m j : Nat)) (fun e _ => (2000 - RowKit.intOf e).toNat)
  case atStart => exact ⟨0, Nat.zero_le _, congrArg (Value.int .i64) (start_e1 m HE.out), by rw [halfN_0]⟩
  case round =>
    obtain ⟨j, hj, rfl, rfl⟩ := hrel
    have hj64 : j < 64 := by have := evenN_lt HM0.out; omega
    have b1 := (expJ_bd HM.out hj64).1
    have b2 := (expJ_bd HM.out hj64).2
    have hl := halfN_lt (j := j) HM0.out
    have hmod : ((halfN m j : Nat) : Int).tmod 2 = ((halfN m j % 2 : Nat) : Int) := tmodN _ 2
    have hmod' : ((halfN m j : Nat) : Int) % 2 = ((halfN m j % 2 : Nat) : Int) := rfl
    have hdiv : ((halfN m j : Nat) : Int) / 2 = ((halfN m (j + 1) : Nat) : Int) := by rw [← halfN_succ]; rfl
    have hadd := expJ_succ m j
    have HWY : Hid (IntKind.u64.wrap (halfN m (j + 1) : Int) = (halfN m (j + 1) : Int)) := by
      have := halfN_lt (j := j + 1) HM0.out
      exact wrap_nat (by omega)
    have HA := Lib.hid hadd
    have HB2 := Lib.hid b2
    by_cases hlt : j < evenN m
    · rw [halfN_even HM0.out hlt] at hmod hmod'
      have HL := Lib.hid hl; clear hl
      have HLT := Lib.hid hlt; clear hlt
      clear hj hj64
      generalize halfN m j = x at *
      generalize hxx : halfN m (j + 1) = y at *
      generalize hee : expJ m j = ej at *
      generalize hff : expJ m (j + 1) = ef at *
      have HXX := Lib.hid hxx; clear hxx
      have HEE := Lib.hid hee; clear hee
      have HFF := Lib.hid hff; clear hff
      go_wp2
      go_round
      case rel => exact ⟨j + 1, HLT.out, by rw [HFF.out], by rw [HXX.out]; exact congrArg (Value.int .u64) HWY.out⟩
      case measure => exact meas_up HA.out HB2.out
    · obtain rfl : j = evenN m := by omega
      have ho := (full_odd HM0.out).2
      rw [halfN_end] at *
      rw [ho] at hmod hmod'
      rw [expJ_end] at *
      have hw : IntKind.i64.wrap (oddN m : Int) = (oddN m : Int) := by rw [IntKind.wrap_i64]; omega
      have hw' : wrap64 (oddN m : Int) = (oddN m : Int) := by unfold wrap64; omega
      have OL : (oddN m : Int) < 9007199254740992 := by omega
      clear hj hj64 hlt ho hdiv hadd hl
      go_wp2_with (first
        | (go_at_call 140; ((with_reducible refine (decOdd m HM0.out _).mono ?_)); rintro e w1 ⟨rfl, hb1⟩; have HB1 := Lib.hid hb1; clear hb1)
        | (go_at_call 140; ((with_reducible refine (decPow m HM0.out HM.out _).mono ?_)); rintro e w2 ⟨rfl, hb2⟩; have HB2 := Lib.hid hb2; clear hb2))
      go_ret
      exact ⟨ret_s (numT_neg m), HB1.out.trans (HB2.out.mono HB1.out.size)⟩
set_option maxRecDepth 100000 in
set_option maxHeartbeats 1600000 in
theorem rprint_pos_hi (b m fr : Nat) (hb : b < 18446744073709551616) (hc : canon b = b) (hE : bits .and .u64 ((b : Int) / 4503599627370496) 2047 = (expN m : Int)) (hM : bits .and .u64 (b : Int) 4503599627370495 = (fr : Int)) (hO : bits .or .u64 (fr : Int) 4503599627370496 = (fullN m : Int)) (hg : 0 < expN m)
    (k0 : ((clsN b : Int) == 0) = false) (k1 : ((clsN b : Int) == 1) = false) (k8 : ((clsN b : Int) == 8) = false) (k4 : ((clsN b : Int) == 4) = false) (k5 : ((clsN b : Int) == 5) = false)
    (ht : (bits .and .u64 (b : Int) 9223372036854775808 != 0) = false) (hm0 : 0 < m) (hm : m < infR) (_hfr : fr = fr) (w : World) :
    Calls Tryz.prog 106 #[.float .f64 b] w fun e w' => e = .returned (.string ⟨(numT m).toArray⟩) ∧ Below w.heap.size w w' := by
  have l1 := digT_len hm0
  have l2 := powT_len hm0 hm
  have n1 : ¬ 9223372036854775807 < (digT m).length + 1 := by omega
  have n2 : ¬ 9223372036854775807 < (digT m).length + 1 + (powT m).length := by omega
  have n3 : ¬ 9223372036854775807 < 1 + ((digT m).length + 1 + (powT m).length) := by omega
  clear l1 l2
  have e1 : (1:Int) ≤ (expN m : Int) := by have := (expN_bd hm).1; omega
  have e2 : (expN m : Int) ≤ 2046 := by have := (expN_bd hm).2; omega
  have HB := Lib.hid hb; clear hb
  have HC := Lib.hid hc; clear hc
  have HM := Lib.hid hm; clear hm
  have HM0 := Lib.hid hm0; clear hm0
  go_enter Tryz.func106, Tryz.ntmps106
  go_wp2_with (first
    | (go_at_call 87; refine (rclass_any _ _ HB.out).mono ?_; rintro e w' ⟨rfl, rfl⟩)
    | (go_at_call 109; refine (rbits_any _ _).mono ?_; rw [HC.out]; rintro e w' ⟨rfl, rfl⟩))
  go_loop [4, 5] (fun e v => ∃ j : Nat, j ≤ evenN m ∧ e = .int .i64 (expJ m j) ∧ v = .int .u64 (halfN m j : Nat)) (fun e _ => (2000 - RowKit.intOf e).toNat)
  case atStart => exact ⟨0, Nat.zero_le _, congrArg (Value.int .i64) (start_e m), by rw [halfN_0]⟩
  case round =>
    obtain ⟨j, hj, rfl, rfl⟩ := hrel
    have hj64 : j < 64 := by have := evenN_lt HM0.out; omega
    have b1 := (expJ_bd HM.out hj64).1
    have b2 := (expJ_bd HM.out hj64).2
    have hl := halfN_lt (j := j) HM0.out
    have hmod : ((halfN m j : Nat) : Int).tmod 2 = ((halfN m j % 2 : Nat) : Int) := tmodN _ 2
    have hmod' : ((halfN m j : Nat) : Int) % 2 = ((halfN m j % 2 : Nat) : Int) := rfl
    have hdiv : ((halfN m j : Nat) : Int) / 2 = ((halfN m (j + 1) : Nat) : Int) := by rw [← halfN_succ]; rfl
    have hadd := expJ_succ m j
    have HWY : Hid (IntKind.u64.wrap (halfN m (j + 1) : Int) = (halfN m (j + 1) : Int)) := by
      have := halfN_lt (j := j + 1) HM0.out
      exact wrap_nat (by omega)
    have HA := Lib.hid hadd
    have HB2 := Lib.hid b2
    by_cases hlt : j < evenN m
    · rw [halfN_even HM0.out hlt] at hmod hmod'
      have HL := Lib.hid hl; clear hl
      have HLT := Lib.hid hlt; clear hlt
      clear hj hj64
      generalize halfN m j = x at *
      generalize hxx : halfN m (j + 1) = y at *
      generalize hee : expJ m j = ej at *
      generalize hff : expJ m (j + 1) = ef at *
      have HXX := Lib.hid hxx; clear hxx
      have HEE := Lib.hid hee; clear hee
      have HFF := Lib.hid hff; clear hff
      go_wp2
      go_round
      case rel => exact ⟨j + 1, HLT.out, by rw [HFF.out], by rw [HXX.out]; exact congrArg (Value.int .u64) HWY.out⟩
      case measure => exact meas_up HA.out HB2.out
    · obtain rfl : j = evenN m := by omega
      have ho := (full_odd HM0.out).2
      rw [halfN_end] at *
      rw [ho] at hmod hmod'
      rw [expJ_end] at *
      have hw : IntKind.i64.wrap (oddN m : Int) = (oddN m : Int) := by rw [IntKind.wrap_i64]; omega
      have hw' : wrap64 (oddN m : Int) = (oddN m : Int) := by unfold wrap64; omega
      have OL : (oddN m : Int) < 9007199254740992 := by omega
      clear hj hj64 hlt ho hdiv hadd hl
      go_wp2_with (first
        | (go_at_call 140; ((with_reducible refine (decOdd m HM0.out _).mono ?_)); rintro e w1 ⟨rfl, hb1⟩; have HB1 := Lib.hid hb1; clear hb1)
        | (go_at_call 140; ((with_reducible refine (decPow m HM0.out HM.out _).mono ?_)); rintro e w2 ⟨rfl, hb2⟩; have HB2 := Lib.hid hb2; clear hb2))
      go_ret
      exact ⟨ret_s (numT_eq m), HB1.out.trans (HB2.out.mono HB1.out.size)⟩
set_option maxRecDepth 100000 in
set_option maxHeartbeats 1600000 in
theorem rprint_pos_lo (b m fr : Nat) (hb : b < 18446744073709551616) (hc : canon b = b) (hE : bits .and .u64 ((b : Int) / 4503599627370496) 2047 = 0) (hM : bits .and .u64 (b : Int) 4503599627370495 = (fullN m : Int)) (he : expN m = 1)
    (k0 : ((clsN b : Int) == 0) = false) (k1 : ((clsN b : Int) == 1) = false) (k8 : ((clsN b : Int) == 8) = false) (k4 : ((clsN b : Int) == 4) = false) (k5 : ((clsN b : Int) == 5) = false)
    (ht : (bits .and .u64 (b : Int) 9223372036854775808 != 0) = false) (hm0 : 0 < m) (hm : m < infR) (_hfr : fr = fr) (w : World) :
    Calls Tryz.prog 106 #[.float .f64 b] w fun e w' => e = .returned (.string ⟨(numT m).toArray⟩) ∧ Below w.heap.size w w' := by
  have l1 := digT_len hm0
  have l2 := powT_len hm0 hm
  have n1 : ¬ 9223372036854775807 < (digT m).length + 1 := by omega
  have n2 : ¬ 9223372036854775807 < (digT m).length + 1 + (powT m).length := by omega
  have n3 : ¬ 9223372036854775807 < 1 + ((digT m).length + 1 + (powT m).length) := by omega
  clear l1 l2
  have e1 : (1:Int) ≤ (expN m : Int) := by have := (expN_bd hm).1; omega
  have e2 : (expN m : Int) ≤ 2046 := by have := (expN_bd hm).2; omega
  have HB := Lib.hid hb; clear hb
  have HC := Lib.hid hc; clear hc
  have HM := Lib.hid hm; clear hm
  have HM0 := Lib.hid hm0; clear hm0
  have HE := Lib.hid he; clear he
  go_enter Tryz.func106, Tryz.ntmps106
  go_wp2_with (first
    | (go_at_call 87; refine (rclass_any _ _ HB.out).mono ?_; rintro e w' ⟨rfl, rfl⟩)
    | (go_at_call 109; refine (rbits_any _ _).mono ?_; rw [HC.out]; rintro e w' ⟨rfl, rfl⟩))
  go_loop [4, 5] (fun e v => ∃ j : Nat, j ≤ evenN m ∧ e = .int .i64 (expJ m j) ∧ v = .int .u64 (halfN m j : Nat)) (fun e _ => (2000 - RowKit.intOf e).toNat)
  case atStart => exact ⟨0, Nat.zero_le _, congrArg (Value.int .i64) (start_e1 m HE.out), by rw [halfN_0]⟩
  case round =>
    obtain ⟨j, hj, rfl, rfl⟩ := hrel
    have hj64 : j < 64 := by have := evenN_lt HM0.out; omega
    have b1 := (expJ_bd HM.out hj64).1
    have b2 := (expJ_bd HM.out hj64).2
    have hl := halfN_lt (j := j) HM0.out
    have hmod : ((halfN m j : Nat) : Int).tmod 2 = ((halfN m j % 2 : Nat) : Int) := tmodN _ 2
    have hmod' : ((halfN m j : Nat) : Int) % 2 = ((halfN m j % 2 : Nat) : Int) := rfl
    have hdiv : ((halfN m j : Nat) : Int) / 2 = ((halfN m (j + 1) : Nat) : Int) := by rw [← halfN_succ]; rfl
    have hadd := expJ_succ m j
    have HWY : Hid (IntKind.u64.wrap (halfN m (j + 1) : Int) = (halfN m (j + 1) : Int)) := by
      have := halfN_lt (j := j + 1) HM0.out
      exact wrap_nat (by omega)
    have HA := Lib.hid hadd
    have HB2 := Lib.hid b2
    by_cases hlt : j < evenN m
    · rw [halfN_even HM0.out hlt] at hmod hmod'
      have HL := Lib.hid hl; clear hl
      have HLT := Lib.hid hlt; clear hlt
      clear hj hj64
      generalize halfN m j = x at *
      generalize hxx : halfN m (j + 1) = y at *
      generalize hee : expJ m j = ej at *
      generalize hff : expJ m (j + 1) = ef at *
      have HXX := Lib.hid hxx; clear hxx
      have HEE := Lib.hid hee; clear hee
      have HFF := Lib.hid hff; clear hff
      go_wp2
      go_round
      case rel => exact ⟨j + 1, HLT.out, by rw [HFF.out], by rw [HXX.out]; exact congrArg (Value.int .u64) HWY.out⟩
      case measure => exact meas_up HA.out HB2.out
    · obtain rfl : j = evenN m := by omega
      have ho := (full_odd HM0.out).2
      rw [halfN_end] at *
      rw [ho] at hmod hmod'
      rw [expJ_end] at *
      have hw : IntKind.i64.wrap (oddN m : Int) = (oddN m : Int) := by rw [IntKind.wrap_i64]; omega
      have hw' : wrap64 (oddN m : Int) = (oddN m : Int) := by unfold wrap64; omega
      have OL : (oddN m : Int) < 9007199254740992 := by omega
      clear hj hj64 hlt ho hdiv hadd hl
      go_wp2_with (first
        | (go_at_call 140; ((with_reducible refine (decOdd m HM0.out _).mono ?_)); rintro e w1 ⟨rfl, hb1⟩; have HB1 := Lib.hid hb1; clear hb1)
        | (go_at_call 140; ((with_reducible refine (decPow m HM0.out HM.out _).mono ?_)); rintro e w2 ⟨rfl, hb2⟩; have HB2 := Lib.hid hb2; clear hb2))
      go_ret
      exact ⟨ret_s (numT_eq m), HB1.out.trans (HB2.out.mono HB1.out.size)⟩

theorem rprint_num (b : Nat) (hb : b < 18446744073709551616) (hc : canon b = b) (h0 : 0 < b % 9223372036854775808) (hi : b % 9223372036854775808 < infR)
    (hk : clsN b ≠ 0 ∧ clsN b ≠ 1 ∧ clsN b ≠ 8 ∧ clsN b ≠ 4 ∧ clsN b ≠ 5) (w : World) :
    Calls Tryz.prog 106 #[.float .f64 b] w fun e w' => e = .returned (.string ⟨(bif decide (9223372036854775808 ≤ b) then 45 :: numT (b % 9223372036854775808) else numT (b % 9223372036854775808)).toArray⟩) ∧ Below w.heap.size w w' := by
  obtain ⟨n0, n1, n8, n4, n5⟩ := hk
  have k0 : ((clsN b : Int) == 0) = false := by simp; omega
  have k1 : ((clsN b : Int) == 1) = false := by simp; omega
  have k8 : ((clsN b : Int) == 8) = false := by simp; omega
  have k4 : ((clsN b : Int) == 4) = false := by simp; omega
  have k5 : ((clsN b : Int) == 5) = false := by simp; omega
  have hE := band_exp hb
  have hM := band_frac hb
  by_cases hlo : b % 9223372036854775808 < 4503599627370496
  · have e1 : b / 4503599627370496 % 2048 = 0 := by omega
    have e2 : b % 4503599627370496 = b % 9223372036854775808 := by omega
    rw [e1] at hE
    rw [e2, ← fullN_lo hlo, fullN_lo hlo] at hM
    have hM' : bits .and .u64 (b : Int) 4503599627370495 = (fullN (b % 9223372036854775808) : Int) := by rw [fullN_lo hlo]; exact hM
    by_cases hs : 9223372036854775808 ≤ b
    · rw [decide_eq_true hs, cond_true]
      exact rprint_neg_lo b _ 0 hb hc hE hM' (expN_lo hlo) k0 k1 k8 k4 k5 (band_top_ne hs hb) h0 hi rfl w
    · rw [decide_eq_false hs, cond_false]
      exact rprint_pos_lo b _ 0 hb hc hE hM' (expN_lo hlo) k0 k1 k8 k4 k5 (band_top_eq (by omega)) h0 hi rfl w
  · have e1 : b / 4503599627370496 % 2048 = expN (b % 9223372036854775808) := by rw [expN_hi hlo]; omega
    have e2 : b % 4503599627370496 = b % 9223372036854775808 % 4503599627370496 := by omega
    rw [e1] at hE
    have hO := bor52 (n := b % 4503599627370496) (by omega)
    have hO' : bits .or .u64 ((b % 4503599627370496 : Nat) : Int) 4503599627370496 = (fullN (b % 9223372036854775808) : Int) := by rw [fullN_hi hlo, ← e2]; exact hO
    have hg := (expN_bd hi).1
    by_cases hs : 9223372036854775808 ≤ b
    · rw [decide_eq_true hs, cond_true]
      exact rprint_neg_hi b _ _ hb hc hE hM hO' hg k0 k1 k8 k4 k5 (band_top_ne hs hb) h0 hi rfl w
    · rw [decide_eq_false hs, cond_false]
      exact rprint_pos_hi b _ _ hb hc hE hM hO' hg k0 k1 k8 k4 k5 (band_top_eq (by omega)) h0 hi rfl w
/-- raceref1.Print, ANY FLOAT: the same text. -/
theorem rprint_any (b : Nat) (hb : b < 18446744073709551616) (w : World) :
    Calls Tryz.prog 106 #[.float .f64 b] w fun e w' => e = .returned (.string ⟨(textN b).toArray⟩) ∧ Below w.heap.size w w' := by
  rcases cls_cases hb with ⟨h, _⟩ | ⟨h, _⟩ | ⟨h, _⟩ | ⟨h, _⟩ | ⟨h, _⟩ | ⟨h, hc, h0, hi, hs⟩ | ⟨h, hc, h0, hi, hs⟩
  · rw [textN_0 h]; refine (rprint_k0 b hb h w).mono ?_; rintro e w' ⟨he, rfl⟩; exact ⟨he, Below.refl _ _⟩
  · rw [textN_1 h]; refine (rprint_k1 b hb h w).mono ?_; rintro e w' ⟨he, rfl⟩; exact ⟨he, Below.refl _ _⟩
  · rw [textN_4 h]; refine (rprint_k4 b hb h w).mono ?_; rintro e w' ⟨he, rfl⟩; exact ⟨he, Below.refl _ _⟩
  · rw [textN_5 h]; refine (rprint_k5 b hb h w).mono ?_; rintro e w' ⟨he, rfl⟩; exact ⟨he, Below.refl _ _⟩
  · rw [textN_8 h]; refine (rprint_k8 b hb h w).mono ?_; rintro e w' ⟨he, rfl⟩; exact ⟨he, Below.refl _ _⟩
  · rw [textN_neg h]
    have := rprint_num b hb hc h0 hi (by omega) w
    rw [decide_eq_true (by omega), cond_true] at this
    exact this
  · rw [textN_pos h]
    have := rprint_num b hb hc h0 hi (by omega) w
    rw [decide_eq_false (by omega), cond_false] at this
    exact this
end Go.Proofs.YtbgccaconhmbaaaGreatDoor
namespace Go.Proofs.YtbgccaconhmbaaaGreatDoor
open Ieee

theorem log2_mul_pow {m : Nat} (h : m ≠ 0) (a : Nat) : (m * 2 ^ a).log2 = m.log2 + a := by
  have h1 := Nat.log2_self_le h
  have h2 : m < 2 ^ (m.log2 + 1) := Nat.lt_log2_self
  have hp : 0 < 2 ^ a := Nat.two_pow_pos a
  have h3 : m * 2 ^ a ≠ 0 := Nat.mul_ne_zero h (by omega)
  have l1 : 2 ^ (m.log2 + a) ≤ m * 2 ^ a := by rw [Nat.pow_add]; exact Nat.mul_le_mul_right _ h1
  have l2 : m * 2 ^ a < 2 ^ (m.log2 + a + 1) := by
    rw [show m.log2 + a + 1 = (m.log2 + 1) + a by omega, Nat.pow_add]
    exact Nat.mul_lt_mul_of_pos_right h2 hp
  have u1 : (m * 2 ^ a).log2 < m.log2 + a + 1 := (Nat.log2_lt h3).2 l2
  have u2 : m.log2 + a ≤ (m * 2 ^ a).log2 := (Nat.le_log2 h3).2 l1
  omega

/-- A cut that drops nought but zeros. -/
theorem cut_exact (way : Toward) (neg : Bool) (M d : Nat) (h : M ≠ 0) : way.cut neg (M * 2 ^ d) d = M := by
  unfold Toward.cut
  have hl : min d ((M * 2 ^ d).log2 + 2) = d := by rw [log2_mul_pow h]; omega
  rw [hl]
  have hg : 1 <<< d = 2 ^ d := by rw [Nat.shiftLeft_eq, Nat.one_mul]
  have hq : M * 2 ^ d / 2 ^ d = M := Nat.mul_div_cancel _ (Nat.two_pow_pos d)
  have hr : M * 2 ^ d % 2 ^ d = 0 := Nat.mul_mod_left _ _
  simp only [hg, hq, hr]
  have hp : 0 < 2 ^ d := Nat.two_pow_pos d
  cases way <;> cases neg <;> simp

/-- 'mag * 2^place' is the number of the rung r: it is that that is written. -/
theorem nearest_exact {r mag a b : Nat} {place : Int} (h0 : 0 < r) (hr : r < infR) (hv : mag * 2 ^ a = fullN r * 2 ^ b) (hp : place + b = (expN r : Int) - 1075 + a) (neg : Bool) :
    double.nearest neg mag place = double.word neg r := by
  have hf := fullN_bd h0
  have he := expN_bd hr
  have hpa : 0 < 2 ^ a := Nat.two_pow_pos a
  have hpb : 0 < 2 ^ b := Nat.two_pow_pos b
  have hm : mag ≠ 0 := by
    intro e; rw [e, Nat.zero_mul] at hv
    exact absurd hv.symm (Nat.mul_ne_zero hf.1 (by omega))
  have hlog : mag.log2 + a = (fullN r).log2 + b := by
    rw [← log2_mul_pow hm, ← log2_mul_pow hf.1, hv]
  have hlast : max (place + mag.log2 - (52 : Nat)) (-1074) = (expN r : Int) - 1075 := by
    by_cases hs : r < 4503599627370496
    · have e1 := expN_lo hs
      have e2 := fullN_lo hs
      have : (fullN r).log2 < 52 := (Nat.log2_lt hf.1).2 (by rw [e2]; exact hs)
      omega
    · have e2 := fullN_hi hs
      have l1 : (fullN r).log2 < 53 := (Nat.log2_lt hf.1).2 (by have := hf.2; omega)
      have l2 : 52 ≤ (fullN r).log2 := (Nat.le_log2 hf.1).2 (by rw [e2]; omega)
      omega
  unfold Format.nearest
  rw [if_neg hm]
  simp only [dbl_fb, dbl_least, dbl_bin, dbl_inf]
  rw [hlast]
  have hkept : Toward.even.cut neg (mag <<< (place - ((expN r : Int) - 1075)).toNat) (((expN r : Int) - 1075) - place).toNat = fullN r := by
    by_cases hc : b ≤ a
    · -- place ≥ P
      have e1 : (place - ((expN r : Int) - 1075)).toNat = a - b := by omega
      have e2 : (((expN r : Int) - 1075) - place).toNat = 0 := by omega
      rw [e1, e2, Nat.shiftLeft_eq]
      have : mag * 2 ^ (a - b) = fullN r := by
        apply Nat.eq_of_mul_eq_mul_right hpb
        rw [Nat.mul_assoc, ← Nat.pow_add, show a - b + b = a by omega]; exact hv
      rw [this]
      have := cut_exact .even neg (fullN r) 0 hf.1
      rwa [Nat.pow_zero, Nat.mul_one] at this
    · have e1 : (place - ((expN r : Int) - 1075)).toNat = 0 := by omega
      have e2 : (((expN r : Int) - 1075) - place).toNat = b - a := by omega
      rw [e1, e2, Nat.shiftLeft_eq, Nat.pow_zero, Nat.mul_one]
      have : mag = fullN r * 2 ^ (b - a) := by
        apply Nat.eq_of_mul_eq_mul_right hpa
        rw [Nat.mul_assoc, ← Nat.pow_add, show b - a + a = b by omega]; exact hv
      rw [this]
      exact cut_exact .even neg (fullN r) (b - a) hf.1
  rw [hkept]
  have hrung : ((expN r : Int) - 1075 - -1074).toNat * 4503599627370496 + fullN r = r := by
    by_cases hs : r < 4503599627370496
    · rw [expN_lo hs, fullN_lo hs]; omega
    · have := expN_hi hs
      rw [fullN_hi hs]; omega
  rw [hrung, Nat.min_eq_left (by omega)]

/-- What a finite word above nought reads as. -/
theorem read_pos {r : Nat} (h : r < infR) : double.read r = .number false (fullN r) ((expN r : Int) - 1075) := by
  have h' := h
  unfold infR at h'
  rw [read_eq]
  have e1 : r % 9223372036854775808 = r := by omega
  have e2 : r / 9223372036854775808 % 2 = 0 := by omega
  rw [e1, e2]
  by_cases hs : r < 4503599627370496
  · rw [if_pos hs, fullN_lo hs, expN_lo hs]; rfl
  · rw [if_neg hs, if_pos h, fullN_hi hs, expN_hi hs]
    have : (-1074 + ((r / 4503599627370496 - 1 : Nat) : Int)) = (r / 4503599627370496 : Nat) - 1075 := by omega
    rw [this, Nat.add_comm]; rfl
theorem read_neg {r : Nat} (h : r < infR) : double.read (9223372036854775808 + r) = .number true (fullN r) ((expN r : Int) - 1075) := by
  have h' := h
  unfold infR at h'
  rw [read_eq]
  have e1 : (9223372036854775808 + r) % 9223372036854775808 = r := by omega
  have e2 : (9223372036854775808 + r) / 9223372036854775808 % 2 = 1 := by omega
  rw [e1, e2]
  by_cases hs : r < 4503599627370496
  · rw [if_pos hs, fullN_lo hs, expN_lo hs]; rfl
  · rw [if_neg hs, if_pos h, fullN_hi hs, expN_hi hs]
    have : (-1074 + ((r / 4503599627370496 - 1 : Nat) : Int)) = (r / 4503599627370496 : Nat) - 1075 := by omega
    rw [this, Nat.add_comm]; rfl
theorem word_false (r : Nat) : double.word false r = r := rfl
theorem word_true (r : Nat) : double.word true r = 9223372036854775808 + r := by
  unfold Format.word; rw [if_pos rfl, dbl_sw]

def oneB : Nat := 4607182418800017408
def tinyB : Nat := 4368491638549381120
theorem read_one : double.read oneB = .number false 4503599627370496 (-52) := by decide
theorem read_tiny : double.read tinyB = .number false 4503599627370496 (-105) := by decide

theorem one_mul_pos {r : Nat} (h0 : 0 < r) (h : r < infR) : double.mul oneB r = some r := by
  unfold Format.mul
  rw [read_one, read_pos h]
  simp only [Datum.product, Option.map_some, Format.write]
  rw [nearest_exact (r := r) (a := 0) (b := 52) h0 h (by rw [Nat.pow_zero, Nat.mul_one, Nat.mul_comm]) (by omega), show (false ^^ false) = false from rfl, word_false]
theorem tiny_mul_pos {x r b : Nat} (h0 : 0 < r) (h : r < infR) (hx : x < infR) (hv : fullN x * 2 ^ 52 = fullN r * 2 ^ b) (hp : (expN x : Int) - 105 + b = expN r) : double.mul tinyB x = some r := by
  unfold Format.mul
  rw [read_tiny, read_pos hx]
  simp only [Datum.product, Option.map_some, Format.write]
  rw [nearest_exact (r := r) (a := 0) (b := b) h0 h (by rw [Nat.pow_zero, Nat.mul_one, Nat.mul_comm]; exact hv) (by omega), show (false ^^ false) = false from rfl, word_false]

/-- The odd part is told by any odd part. -/
theorem odd_unique {m n k : Nat} (h0 : 0 < m) (hn : n % 2 = 1) (h : fullN m = n * 2 ^ k) : evenN m = k ∧ oddN m = n := by
  obtain ⟨h1, h2⟩ := full_odd h0
  have key : ∀ (i j a b : Nat), a % 2 = 1 → b % 2 = 1 → 2 ^ i * a = 2 ^ j * b → i = j ∧ a = b := by
    intro i
    induction i with
    | zero =>
      intro j a b ha hb e
      cases j with
      | zero => simpa using e
      | succ j =>
        rw [Nat.pow_zero, Nat.one_mul, Nat.pow_succ, Nat.mul_comm (2 ^ j) 2, Nat.mul_assoc] at e
        omega
    | succ i ih =>
      intro j a b ha hb e
      cases j with
      | zero =>
        rw [Nat.pow_zero, Nat.one_mul, Nat.pow_succ, Nat.mul_comm (2 ^ i) 2, Nat.mul_assoc] at e
        omega
      | succ j =>
        rw [Nat.pow_succ, Nat.pow_succ, Nat.mul_comm (2 ^ i) 2, Nat.mul_comm (2 ^ j) 2, Nat.mul_assoc, Nat.mul_assoc] at e
        have := ih j a b ha hb (by omega)
        omega
  exact key _ _ _ _ h2 hn (by rw [← h1, h, Nat.mul_comm])

/-- The float of a whole number above nought. -/
def cvtN (n : Nat) : Nat := floatOfInt .f64 (n : Int)
theorem cvt_nearest {n : Nat} : cvtN n = double.nearest false n 0 := by
  have hn : decide ((n : Int) < 0) = false := by simp
  unfold cvtN floatOfInt FloatKind.nearest FloatKind.encode
  rw [hn]
  rfl
theorem cvt_shape {n : Nat} (h0 : n ≠ 0) (hn : n < 288230376151711744) : ∃ kept, cvtN n = (n.log2 + 1022) * 4503599627370496 + kept ∧ 4503599627370496 ≤ kept ∧ kept ≤ 9007199254740992 ∧ (n < 9007199254740992 → kept = n * 2 ^ (52 - n.log2)) := by
  have h1 := Nat.log2_self_le h0
  have h2 : n < 2 ^ (n.log2 + 1) := Nat.lt_log2_self
  have hl : n.log2 < 58 := (Nat.log2_lt h0).2 hn
  rw [cvt_nearest]
  unfold Format.nearest
  rw [if_neg h0]
  simp only [dbl_fb, dbl_least, dbl_bin, dbl_inf]
  have hlast : max ((0 : Int) + n.log2 - (52 : Nat)) (-1074) = (n.log2 : Int) - 52 := by omega
  rw [hlast]
  have e0 : ((n.log2 : Int) - 52 - -1074).toNat = n.log2 + 1022 := by omega
  rw [e0, word_false]
  by_cases hs : n < 9007199254740992
  · have hl2 : n.log2 < 53 := (Nat.log2_lt h0).2 hs
    have e1 : (0 - ((n.log2 : Int) - 52)).toNat = 52 - n.log2 := by omega
    have e2 : (((n.log2 : Int) - 52) - 0).toNat = 0 := by omega
    rw [e1, e2, Nat.shiftLeft_eq]
    have hne : n * 2 ^ (52 - n.log2) ≠ 0 := Nat.mul_ne_zero h0 (by have := Nat.two_pow_pos (52 - n.log2); omega)
    have hk := cut_exact .even false _ 0 hne
    rw [Nat.pow_zero, Nat.mul_one] at hk
    rw [hk]
    have b1 : 4503599627370496 ≤ n * 2 ^ (52 - n.log2) := by
      calc 4503599627370496 = 2 ^ n.log2 * 2 ^ (52 - n.log2) := by rw [← Nat.pow_add, show n.log2 + (52 - n.log2) = 52 by omega]
        _ ≤ _ := Nat.mul_le_mul_right _ h1
    have b2 : n * 2 ^ (52 - n.log2) < 9007199254740992 := by
      calc n * 2 ^ (52 - n.log2) < 2 ^ (n.log2 + 1) * 2 ^ (52 - n.log2) := Nat.mul_lt_mul_of_pos_right h2 (Nat.two_pow_pos _)
        _ = 9007199254740992 := by rw [← Nat.pow_add, show n.log2 + 1 + (52 - n.log2) = 53 by omega]
    exact ⟨_, Nat.min_eq_left (by unfold infR; omega), b1, by omega, fun _ => rfl⟩
  · have hl2 : 53 ≤ n.log2 := (Nat.le_log2 h0).2 (by omega)
    have e1 : (0 - ((n.log2 : Int) - 52)).toNat = 0 := by omega
    have e2 : (((n.log2 : Int) - 52) - 0).toNat = n.log2 - 52 := by omega
    rw [e1, e2, Nat.shiftLeft_eq, Nat.pow_zero, Nat.mul_one]
    generalize hK : Toward.even.cut false n (n.log2 - 52) = K
    have hb : 4503599627370496 ≤ K ∧ K ≤ 9007199254740992 := by
      rw [← hK]
      unfold Toward.cut
      have hmin : min (n.log2 - 52) (n.log2 + 2) = n.log2 - 52 := by omega
      rw [hmin]
      have hg : 1 <<< (n.log2 - 52) = 2 ^ (n.log2 - 52) := by rw [Nat.shiftLeft_eq, Nat.one_mul]
      simp only [hg]
      have q1 : 4503599627370496 ≤ n / 2 ^ (n.log2 - 52) := by
        rw [Nat.le_div_iff_mul_le (Nat.two_pow_pos _)]
        calc 4503599627370496 * 2 ^ (n.log2 - 52) = 2 ^ 52 * 2 ^ (n.log2 - 52) := rfl
          _ = 2 ^ n.log2 := by rw [← Nat.pow_add, show 52 + (n.log2 - 52) = n.log2 by omega]
          _ ≤ n := h1
      have q2 : n / 2 ^ (n.log2 - 52) < 9007199254740992 := by
        rw [Nat.div_lt_iff_lt_mul (Nat.two_pow_pos _)]
        calc n < 2 ^ (n.log2 + 1) := h2
          _ = 2 ^ 53 * 2 ^ (n.log2 - 52) := by rw [← Nat.pow_add, show 53 + (n.log2 - 52) = n.log2 + 1 by omega]
          _ = _ := rfl
      have hm : ∀ t : Bool, t.toNat ≤ 1 := fun t => by cases t <;> simp
      have := hm (decide (2 ^ (n.log2 - 52) < 2 * (n % 2 ^ (n.log2 - 52))) || 2 ^ (n.log2 - 52) == 2 * (n % 2 ^ (n.log2 - 52)) && n / 2 ^ (n.log2 - 52) % 2 == 1)
      omega
    exact ⟨K, Nat.min_eq_left (by unfold infR; omega), hb.1, hb.2, fun h => absurd h hs⟩
end Go.Proofs.YtbgccaconhmbaaaGreatDoor
namespace Go.Proofs.YtbgccaconhmbaaaGreatDoor
open Ieee

theorem full_mono {r q : Nat} (h : r < q) (he : expN r = expN q) (_hq : q < infR) : fullN r < fullN q := by
  by_cases h1 : r < 4503599627370496
  · by_cases h2 : q < 4503599627370496
    · rw [fullN_lo h1, fullN_lo h2]; exact h
    · rw [expN_lo h1, expN_hi h2] at he
      rw [fullN_lo h1, fullN_hi h2]; omega
  · have h2 : ¬ q < 4503599627370496 := by omega
    rw [expN_hi h1, expN_hi h2] at he
    rw [fullN_hi h1, fullN_hi h2]; omega
theorem exp_mono {r q : Nat} (h : r < q) : expN r ≤ expN q := by
  by_cases h1 : r < 4503599627370496
  · by_cases h2 : q < 4503599627370496
    · rw [expN_lo h1, expN_lo h2]; omega
    · rw [expN_lo h1, expN_hi h2]; omega
  · have h2 : ¬ q < 4503599627370496 := by omega
    rw [expN_hi h1, expN_hi h2]; omega
theorem full_lt {r : Nat} : fullN r < 9007199254740992 := by
  by_cases h2 : r < 4503599627370496
  · rw [fullN_lo h2]; omega
  · rw [fullN_hi h2]; omega
theorem val_lt {r q i j : Nat} (h : r < q) (hq : q < infR) (hr : i + expN q = j + expN r) : fullN r * 2 ^ i < fullN q * 2 ^ j := by
  have hm := exp_mono h
  have h1 := (expN_bd hq)
  by_cases he : expN r = expN q
  · have : i = j := by omega
    subst this
    exact Nat.mul_lt_mul_of_pos_right (full_mono h he hq) (Nat.two_pow_pos _)
  · obtain ⟨d, hd⟩ : ∃ d, j = i + 1 + d := ⟨j - i - 1, by omega⟩
    have hq2 : ¬ q < 4503599627370496 := by
      intro h2
      have := expN_lo h2
      have := (expN_bd (m := r) (by omega)).1
      omega
    have l1 : 4503599627370496 ≤ fullN q := by rw [fullN_hi hq2]; omega
    have l2 := full_lt (r := r)
    calc fullN r * 2 ^ i < 9007199254740992 * 2 ^ i := Nat.mul_lt_mul_of_pos_right l2 (Nat.two_pow_pos _)
      _ = 4503599627370496 * 2 ^ (i + 1) := by rw [Nat.pow_succ, Nat.mul_comm (2 ^ i) 2, ← Nat.mul_assoc]
      _ ≤ 4503599627370496 * 2 ^ j := Nat.mul_le_mul_left _ (Nat.pow_le_pow_right (by decide) (by omega))
      _ ≤ fullN q * 2 ^ j := Nat.mul_le_mul_right _ l1
theorem val_eq {r q : Nat} {i j : Nat} (h : r = q) (hr : i + expN q = j + expN r) : fullN r * 2 ^ i = fullN q * 2 ^ j := by
  subst h
  have : i = j := by omega
  rw [this]

theorem cmp_lt {x y : Int} (h : x < y) : compare x y = .lt := Int.compare_eq_lt.2 h
theorem cmp_gt {x y : Int} (h : y < x) : compare x y = .gt := Int.compare_eq_gt.2 h

theorem order_pos {r q : Nat} (hr : r < infR) (hq : q < infR) : double.order r q = some (if r < q then .lt else if q < r then .gt else .eq) := by
  unfold Format.order
  rw [read_pos hr, read_pos hq]
  have b1 := expN_bd hr
  have b2 := expN_bd hq
  simp only [Datum.order, signed_pos]
  generalize hi : ((expN r : Int) - 1075 - min ((expN r : Int) - 1075) ((expN q : Int) - 1075)).toNat = i
  generalize hj : ((expN q : Int) - 1075 - min ((expN r : Int) - 1075) ((expN q : Int) - 1075)).toNat = j
  have hij : i + expN q = j + expN r := by omega
  by_cases h1 : r < q
  · rw [if_pos h1, cmp_lt (by exact Int.ofNat_lt.2 (val_lt h1 hq hij))]
  · rw [if_neg h1]
    by_cases h2 : q < r
    · rw [if_pos h2, cmp_gt (by exact Int.ofNat_lt.2 (val_lt h2 hr (by omega)))]
    · rw [if_neg h2]
      have : r = q := by omega
      rw [val_eq this hij, Int.compare_eq_eq.2 rfl]
theorem order_lt_t {r q : Nat} (hr : r < infR) (hq : q < infR) (h : r < q) : (double.order r q == some .lt) = true := by
  rw [order_pos hr hq, if_pos h]; rfl
theorem order_lt_f {r q : Nat} (hr : r < infR) (hq : q < infR) (h : ¬ r < q) : (double.order r q == some .lt) = false := by
  rw [order_pos hr hq, if_neg h]
  by_cases h2 : q < r
  · rw [if_pos h2]; rfl
  · rw [if_neg h2]; rfl
theorem order_gt_f {r q : Nat} (hr : r < infR) (hq : q < infR) (h : ¬ q < r) : (double.order r q == some .gt) = false := by
  rw [order_pos hr hq]
  by_cases h2 : r < q
  · rw [if_pos h2]; rfl
  · rw [if_neg h2, if_neg h]; rfl
theorem order_gt_t {r q : Nat} (hr : r < infR) (hq : q < infR) (h : q < r) : (double.order r q == some .gt) = true := by
  rw [order_pos hr hq, if_neg (by omega), if_pos h]; rfl
theorem order_eq_f {r q : Nat} (hr : r < infR) (hq : q < infR) (h : r ≠ q) : (double.order r q == some .eq) = false := by
  rw [order_pos hr hq]
  by_cases h2 : r < q
  · rw [if_pos h2]; rfl
  · rw [if_neg h2, if_pos (by omega)]; rfl
end Go.Proofs.YtbgccaconhmbaaaGreatDoor
namespace Go.Proofs.YtbgccaconhmbaaaGreatDoor
open Go.RowKit
theorem wraps_i64 (n : Int) (h₀ : 0 ≤ n) (h₁ : n < 2 ^ 63) : IntKind.i64.wrap n = n := by rw [IntKind.wrap_i64]; omega
theorem band_i11 {x : Nat} (h : x < 2048) : bits .and .i64 (x : Int) 2047 = (x : Int) := by
  have h := bits_mask .i64 63 (by decide) wraps_i64 11 (by decide) (x : Int) (by omega) (by omega)
  rw [show ((2 : Int) ^ 11 - 1) = 2047 by decide, show ((2 : Int) ^ 11) = 2048 by decide] at h
  rw [h]; omega
theorem abs_any (b : Nat) (hb : b < 18446744073709551616) (w : World) : Calls Tryz.prog 213 #[.float .f64 b] w fun e w' => e = .returned (.float .f64 (b % 9223372036854775808)) ∧ w = w' := by
  have h1 := bandNot_top hb
  have hf := run_tobits
  have hg := run_frombits_nat
  clear hb
  generalize b % 9223372036854775808 = m at *
  go_enter Tryz.func213, Tryz.ntmps213
  go_wp2
  go_ret
  exact ⟨rfl, rfl⟩
def maxB : Nat := 9218868437227405311
def smallB : Nat := 4503599627370496
theorem isInf_no (b : Nat) (hb : b < infR) (w : World) : Calls Tryz.prog 197 #[.float .f64 b, .int .i64 0] w fun e w' => e = .returned (.bool false) ∧ w = w' := by
  have h1 : (FloatKind.f64.format.order b maxB == some .gt) = false := order_gt_f hb (by decide) (by unfold maxB; unfold infR at hb; omega)
  have hm : b % 9223372036854775808 = b := by unfold infR at hb; omega
  have HM := Lib.hid hm
  have HB : Hid (b < 18446744073709551616) := by unfold Hid; unfold infR at hb; omega
  unfold maxB at h1
  clear hb hm
  go_enter Tryz.func197, Tryz.ntmps197
  go_wp2_with (go_at_call 213; refine (abs_any _ HB.out _).mono ?_; rw [HM.out]; rintro e w' ⟨rfl, rfl⟩)
  go_ret
  exact ⟨rfl, rfl⟩
theorem norm_any (b : Nat) (hb : b < infR) (h0 : smallB ≤ b) (w : World) : Calls Tryz.prog 198 #[.float .f64 b] w fun e w' => e = .returned (.tuple #[.float .f64 b, .int .i64 0]) ∧ w = w' := by
  have h1 : (FloatKind.f64.format.order b smallB == some .lt) = false := order_lt_f hb (by decide) (by omega)
  have hm : b % 9223372036854775808 = b := by unfold infR at hb; omega
  have HM := Lib.hid hm
  have HB : Hid (b < 18446744073709551616) := by unfold Hid; unfold infR at hb; omega
  unfold smallB at h1
  clear hb hm h0
  go_enter Tryz.func198, Tryz.ntmps198
  go_wp2_with (go_at_call 213; refine (abs_any _ HB.out _).mono ?_; rw [HM.out]; rintro e w' ⟨rfl, rfl⟩)
  go_ret2
  exact ⟨rfl, rfl⟩
theorem inf_one (w : World) : Calls Tryz.prog 132 #[.int .i64 1] w fun e w' => e = .returned (.float .f64 infR) ∧ w = w' := by
  have hg := run_frombits
  go_enter Tryz.func132, Tryz.ntmps132
  go_wp2
  go_ret
  exact ⟨rfl, rfl⟩
theorem copy_zero (b : Nat) (hb : b < 9223372036854775808) (w : World) : Calls Tryz.prog 199 #[.float .f64 0, .float .f64 b] w fun e w' => e = .returned (.float .f64 0) ∧ w = w' := by
  have hf := run_tobits
  have hg := run_frombits
  have h1 : bits .andNot .u64 (0 : Int) 9223372036854775808 = 0 := by decide
  have h2 : bits .and .u64 (b : Int) 9223372036854775808 = 0 := by
    have := band (a := b) (b := 9223372036854775808) (by omega) (by decide)
    rw [and_top_lo hb] at this; exact this
  have h3 : bits .or .u64 (0 : Int) 0 = 0 := by decide
  clear hb
  go_enter Tryz.func199, Tryz.ntmps199
  go_wp2
  go_ret
  exact ⟨rfl, rfl⟩

theorem bor_exp {fr k : Nat} (h : fr < 4503599627370496) (hk : k < 2047) : bits .or .u64 (fr : Int) ((k : Int) * 4503599627370496) = ((k * 4503599627370496 + fr : Nat) : Int) := by
  have := bor (a := fr) (b := k * 4503599627370496) (by omega) (by omega)
  rw [show ((k : Int) * 4503599627370496) = ((k * 4503599627370496 : Nat) : Int) by omega, this, Nat.or_comm, Nat.mul_comm k, ← Nat.two_pow_add_eq_or_of_lt (i := 52) h k]
theorem bandNot_exp {n : Nat} (h : n < 9223372036854775808) : bits .andNot .u64 (n : Int) 9218868437227405312 = ((n % 4503599627370496 : Nat) : Int) := by
  have := bandNot (a := n) (b := 9218868437227405312) (by omega) (by decide)
  have e : 18446744073709551615 - 9218868437227405312 = 9223372036854775808 ||| (2 ^ 52 - 1) := by decide
  rw [e, Nat.and_or_distrib_left, and_top_lo h, mask_nat, Nat.zero_or] at this
  exact this
set_option maxRecDepth 100000 in
theorem ldexp_under (fb e0 fr x r : Nat) (p : Int)
    (hfb : fb < infR) (hsm : smallB ≤ fb) (he : (fb : Int) / 4503599627370496 = (e0 : Int)) (hand : bits .and .i64 (e0 : Int) 2047 = (e0 : Int))
    (_hfr : bits .andNot .u64 (fb : Int) 9218868437227405312 = (fr : Int)) (h0 : (FloatKind.f64.format.order fb 0 == some .eq) = false) (hn : nanB fb = false)
    (_hlt0 : (FloatKind.f64.format.order fb 0 == some .lt) = false)
    (p1 : -200000 ≤ p) (p2 : p ≤ 200000) (e1 : (1023:Int) ≤ e0) (e2 : (e0:Int) ≤ 1100)
    (hE : p + (e0 - 1023) < -1075) (_hx : x = x) (_hr : r = r) (w : World) :
    Calls Tryz.prog 170 #[.float .f64 fb, .int .i64 p] w fun e w' => e = .returned (.float .f64 0) ∧ w = w' := by
  have hf := run_tobits
  have hg := run_frombits_nat
  have HP : Hid (fb < 9223372036854775808) := by unfold Hid; unfold infR at hfb; omega
  have HFB := Lib.hid hfb; clear hfb
  have HSM := Lib.hid hsm; clear hsm
  have HN := Lib.hid hn; clear hn
  go_enter Tryz.func170, Tryz.ntmps170
  go_wp2_with (first
    | (go_at_call 197; refine (isInf_no _ HFB.out _).mono ?_; rintro e w' ⟨rfl, rfl⟩)
    | (go_at_call 152; refine (isNaN_no _ _ HN.out).mono ?_; rintro e w' ⟨rfl, rfl⟩)
    | (go_at_call 198; refine (norm_any _ HFB.out HSM.out _).mono ?_; rintro e w' ⟨rfl, rfl⟩)
    | (go_at_call 199; refine (copy_zero _ HP.out _).mono ?_; rintro e w' ⟨rfl, rfl⟩))
  go_ret
  exact ⟨rfl, rfl⟩
set_option maxRecDepth 100000 in
theorem ldexp_over (fb e0 fr x r : Nat) (p : Int)
    (hfb : fb < infR) (hsm : smallB ≤ fb) (he : (fb : Int) / 4503599627370496 = (e0 : Int)) (hand : bits .and .i64 (e0 : Int) 2047 = (e0 : Int))
    (_hfr : bits .andNot .u64 (fb : Int) 9218868437227405312 = (fr : Int)) (h0 : (FloatKind.f64.format.order fb 0 == some .eq) = false) (hn : nanB fb = false)
    (hlt0 : (FloatKind.f64.format.order fb 0 == some .lt) = false)
    (p1 : -200000 ≤ p) (p2 : p ≤ 200000) (e1 : (1023:Int) ≤ e0) (e2 : (e0:Int) ≤ 1100)
    (_hE : -1075 ≤ p + (e0 - 1023)) (hE2 : 1023 < p + ((e0 : Int) - 1023)) (_hx : x = x) (_hr : r = r) (w : World) :
    Calls Tryz.prog 170 #[.float .f64 fb, .int .i64 p] w fun e w' => e = .returned (.float .f64 infR) ∧ w = w' := by
  have hf := run_tobits
  have hg := run_frombits_nat
  have HP : Hid (fb < 9223372036854775808) := by unfold Hid; unfold infR at hfb; omega
  have HFB := Lib.hid hfb; clear hfb
  have HSM := Lib.hid hsm; clear hsm
  have HN := Lib.hid hn; clear hn
  go_enter Tryz.func170, Tryz.ntmps170
  go_wp2_with (first
    | (go_at_call 197; refine (isInf_no _ HFB.out _).mono ?_; rintro e w' ⟨rfl, rfl⟩)
    | (go_at_call 152; refine (isNaN_no _ _ HN.out).mono ?_; rintro e w' ⟨rfl, rfl⟩)
    | (go_at_call 198; refine (norm_any _ HFB.out HSM.out _).mono ?_; rintro e w' ⟨rfl, rfl⟩)
    | (go_at_call 132; refine (inf_one _).mono ?_; rintro e w' ⟨rfl, rfl⟩))
  go_ret
  exact ⟨rfl, rfl⟩
set_option maxRecDepth 100000 in
theorem ldexp_tiny (fb e0 fr x r : Nat) (p : Int)
    (hfb : fb < infR) (hsm : smallB ≤ fb) (he : (fb : Int) / 4503599627370496 = (e0 : Int)) (hand : bits .and .i64 (e0 : Int) 2047 = (e0 : Int))
    (hfr : bits .andNot .u64 (fb : Int) 9218868437227405312 = (fr : Int)) (h0 : (FloatKind.f64.format.order fb 0 == some .eq) = false) (hn : nanB fb = false)
    (_hlt0 : (FloatKind.f64.format.order fb 0 == some .lt) = false)
    (p1 : -200000 ≤ p) (p2 : p ≤ 200000) (e1 : (1023:Int) ≤ e0) (e2 : (e0:Int) ≤ 1100)
    (hE : -1075 ≤ p + (e0 - 1023)) (hE2 : p + ((e0 : Int) - 1023) ≤ 1023) (hE3 : p + ((e0 : Int) - 1023) < -1022)
    (hor : bits .or .u64 (fr : Int) ((p + ((e0 : Int) - 1023) + 53 + 1023) * 4503599627370496) = (x : Int)) (hmul : Ieee.double.mul 4368491638549381120 x = some r) (w : World) :
    Calls Tryz.prog 170 #[.float .f64 fb, .int .i64 p] w fun e w' => e = .returned (.float .f64 r) ∧ w = w' := by
  have hf := run_tobits
  have hg := run_frombits_nat
  have hr := fun w => run_float_arith (P := Tryz.prog) w .mul 46 .f64 _ _ _ hmul
  clear hmul
  have HP : Hid (fb < 9223372036854775808) := by unfold Hid; unfold infR at hfb; omega
  have HFB := Lib.hid hfb; clear hfb
  have HSM := Lib.hid hsm; clear hsm
  have HN := Lib.hid hn; clear hn
  go_enter Tryz.func170, Tryz.ntmps170
  go_wp2_with (first
    | (go_at_call 197; refine (isInf_no _ HFB.out _).mono ?_; rintro e w' ⟨rfl, rfl⟩)
    | (go_at_call 152; refine (isNaN_no _ _ HN.out).mono ?_; rintro e w' ⟨rfl, rfl⟩)
    | (go_at_call 198; refine (norm_any _ HFB.out HSM.out _).mono ?_; rintro e w' ⟨rfl, rfl⟩))
  go_ret
  exact ⟨rfl, rfl⟩
set_option maxRecDepth 100000 in
theorem ldexp_norm (fb e0 fr x r : Nat) (p : Int)
    (hfb : fb < infR) (hsm : smallB ≤ fb) (he : (fb : Int) / 4503599627370496 = (e0 : Int)) (hand : bits .and .i64 (e0 : Int) 2047 = (e0 : Int))
    (hfr : bits .andNot .u64 (fb : Int) 9218868437227405312 = (fr : Int)) (h0 : (FloatKind.f64.format.order fb 0 == some .eq) = false) (hn : nanB fb = false)
    (_hlt0 : (FloatKind.f64.format.order fb 0 == some .lt) = false)
    (p1 : -200000 ≤ p) (p2 : p ≤ 200000) (e1 : (1023:Int) ≤ e0) (e2 : (e0:Int) ≤ 1100)
    (hE : -1075 ≤ p + (e0 - 1023)) (hE2 : p + ((e0 : Int) - 1023) ≤ 1023) (hE3 : -1022 ≤ p + ((e0 : Int) - 1023))
    (hor : bits .or .u64 (fr : Int) ((p + ((e0 : Int) - 1023) + 1023) * 4503599627370496) = (x : Int)) (hmul : Ieee.double.mul 4607182418800017408 x = some r) (w : World) :
    Calls Tryz.prog 170 #[.float .f64 fb, .int .i64 p] w fun e w' => e = .returned (.float .f64 r) ∧ w = w' := by
  have hf := run_tobits
  have hg := run_frombits_nat
  have hr := fun w => run_float_arith (P := Tryz.prog) w .mul 46 .f64 _ _ _ hmul
  clear hmul
  have HP : Hid (fb < 9223372036854775808) := by unfold Hid; unfold infR at hfb; omega
  have HFB := Lib.hid hfb; clear hfb
  have HSM := Lib.hid hsm; clear hsm
  have HN := Lib.hid hn; clear hn
  go_enter Tryz.func170, Tryz.ntmps170
  go_wp2_with (first
    | (go_at_call 197; refine (isInf_no _ HFB.out _).mono ?_; rintro e w' ⟨rfl, rfl⟩)
    | (go_at_call 152; refine (isNaN_no _ _ HN.out).mono ?_; rintro e w' ⟨rfl, rfl⟩)
    | (go_at_call 198; refine (norm_any _ HFB.out HSM.out _).mono ?_; rintro e w' ⟨rfl, rfl⟩))
  go_ret
  exact ⟨rfl, rfl⟩
end Go.Proofs.YtbgccaconhmbaaaGreatDoor
namespace Go.Proofs.YtbgccaconhmbaaaGreatDoor
open Go.RowKit Ieee

/-- An odd number and a power that a float has. -/
structure Fits (n : Nat) (p : Int) : Prop where
  odd : n % 2 = 1
  lt : n < 9007199254740992
  lo : -1074 ≤ p
  hi : p + n.log2 < 1024

def ofOdd (n : Nat) (p : Int) : Nat :=
  if -1022 ≤ p + n.log2 then (p + n.log2 + 1023).toNat * 4503599627370496 + (n * 2 ^ (52 - n.log2) - 4503599627370496) else n * 2 ^ (p + 1074).toNat

theorem norm_bd {n : Nat} (h0 : n ≠ 0) (h : n < 9007199254740992) : 4503599627370496 ≤ n * 2 ^ (52 - n.log2) ∧ n * 2 ^ (52 - n.log2) < 9007199254740992 ∧ n.log2 ≤ 52 := by
  have h1 := Nat.log2_self_le h0
  have h2 : n < 2 ^ (n.log2 + 1) := Nat.lt_log2_self
  have hl2 : n.log2 < 53 := (Nat.log2_lt h0).2 h
  refine ⟨?_, ?_, by omega⟩
  · calc 4503599627370496 = 2 ^ n.log2 * 2 ^ (52 - n.log2) := by rw [← Nat.pow_add, show n.log2 + (52 - n.log2) = 52 by omega]
      _ ≤ _ := Nat.mul_le_mul_right _ h1
  · calc n * 2 ^ (52 - n.log2) < 2 ^ (n.log2 + 1) * 2 ^ (52 - n.log2) := Nat.mul_lt_mul_of_pos_right h2 (Nat.two_pow_pos _)
      _ = 9007199254740992 := by rw [← Nat.pow_add, show n.log2 + 1 + (52 - n.log2) = 53 by omega]

theorem sub_bd {n : Nat} {p : Int} (h : Fits n p) (hE : ¬ -1022 ≤ p + n.log2) : 0 < n * 2 ^ (p + 1074).toNat ∧ n * 2 ^ (p + 1074).toNat < 4503599627370496 := by
  have hn := h.odd
  have h2 : n < 2 ^ (n.log2 + 1) := Nat.lt_log2_self
  have hl := h.lo
  refine ⟨Nat.mul_pos (by omega) (Nat.two_pow_pos _), ?_⟩
  calc n * 2 ^ (p + 1074).toNat < 2 ^ (n.log2 + 1) * 2 ^ (p + 1074).toNat := Nat.mul_lt_mul_of_pos_right h2 (Nat.two_pow_pos _)
    _ = 2 ^ (n.log2 + 1 + (p + 1074).toNat) := by rw [← Nat.pow_add]
    _ ≤ 2 ^ 52 := Nat.pow_le_pow_right (by decide) (by omega)
    _ = 4503599627370496 := rfl

theorem ofOdd_spec {n : Nat} {p : Int} (h : Fits n p) : 0 < ofOdd n p ∧ ofOdd n p < infR ∧ oddN (ofOdd n p) = n ∧ powN (ofOdd n p) = p := by
  have hn := h.odd
  have h0 : n ≠ 0 := by omega
  obtain ⟨b1, b2, b3⟩ := norm_bd h0 h.lt
  by_cases hE : -1022 ≤ p + n.log2
  · have e : ofOdd n p = (p + n.log2 + 1023).toNat * 4503599627370496 + (n * 2 ^ (52 - n.log2) - 4503599627370496) := by unfold ofOdd; rw [if_pos hE]
    have hh := h.hi
    generalize hq : (p + n.log2 + 1023).toNat = q at e
    generalize hy : n * 2 ^ (52 - n.log2) = y at *
    have hns : ¬ ofOdd n p < 4503599627370496 := by omega
    have hf : fullN (ofOdd n p) = y := by rw [fullN_hi hns]; omega
    have hx : expN (ofOdd n p) = q := by rw [expN_hi hns]; omega
    have hpos : 0 < ofOdd n p := by omega
    have ho := odd_unique (m := ofOdd n p) (n := n) (k := 52 - n.log2) hpos hn (by rw [hf, hy])
    refine ⟨hpos, by unfold infR; omega, ho.2, ?_⟩
    unfold powN
    rw [hx, ho.1]; omega
  · have e : ofOdd n p = n * 2 ^ (p + 1074).toNat := by unfold ofOdd; rw [if_neg hE]
    obtain ⟨c1, c2⟩ := sub_bd h hE
    have hlo := h.lo
    rw [← e] at c1 c2
    have hf : fullN (ofOdd n p) = n * 2 ^ (p + 1074).toNat := by rw [fullN_lo c2, e]
    have ho := odd_unique c1 hn hf
    refine ⟨c1, by unfold infR; omega, ho.2, ?_⟩
    unfold powN
    rw [expN_lo c2, ho.1]; omega

/-- What ldexp asks of the float of a whole number. -/
theorem cvt_facts {n : Nat} (h0 : n ≠ 0) (hn : n < 288230376151711744) : cvtN n < infR ∧ smallB ≤ cvtN n ∧ 1023 ≤ cvtN n / 4503599627370496 ∧ cvtN n / 4503599627370496 ≤ 1100 ∧ nanB (cvtN n) = false := by
  obtain ⟨kept, e, k1, k2, _⟩ := cvt_shape h0 hn
  have hl : n.log2 < 58 := (Nat.log2_lt h0).2 hn
  refine ⟨by unfold infR; omega, by unfold smallB; omega, by omega, by omega, ?_⟩
  unfold nanB infR
  rw [decide_eq_false_iff_not]
  omega
theorem cvt_norm {n : Nat} (h0 : n ≠ 0) (hn : n < 9007199254740992) : cvtN n / 4503599627370496 = n.log2 + 1023 ∧ cvtN n % 4503599627370496 = n * 2 ^ (52 - n.log2) - 4503599627370496 := by
  obtain ⟨kept, e, k1, k2, k3⟩ := cvt_shape h0 (by omega)
  obtain ⟨b1, b2, b3⟩ := norm_bd h0 hn
  rw [k3 hn] at e k1 k2
  omega
theorem mul_pos_some {c x m2 : Nat} {pl : Int} (hx : x < infR) (hc : double.read c = .number false m2 pl) : ∃ r, double.mul c x = some r ∧ r < 18446744073709551616 := by
  cases h : double.mul c x with
  | none => unfold Format.mul at h; rw [hc, read_pos hx] at h; simp [Datum.product] at h
  | some r => exact ⟨r, rfl, double.mul_lt h⟩

/-- Some float in any case. -/
theorem ldexp_some (n : Nat) (p : Int) (h0 : n ≠ 0) (hn : n < 288230376151711744) (p1 : -200000 ≤ p) (p2 : p ≤ 200000) :
    ∃ r, r < 18446744073709551616 ∧ ∀ w, Calls Tryz.prog 170 #[.float .f64 (cvtN n), .int .i64 p] w fun e w' => e = .returned (.float .f64 r) ∧ w = w' := by
  obtain ⟨f1, f2, f3, f4, f5⟩ := cvt_facts h0 hn
  have hfb := f1
  unfold infR at hfb
  have h63 : cvtN n < 9223372036854775808 := by omega
  have he : (cvtN n : Int) / 4503599627370496 = ((cvtN n / 4503599627370496 : Nat) : Int) := by omega
  have hand := band_i11 (x := cvtN n / 4503599627370496) (by omega)
  have hfr := bandNot_exp h63
  have hz : (0 : Nat) < infR := by unfold infR; omega
  have ho := order_eq_f f1 hz (by unfold smallB at f2; omega)
  have hl := order_lt_f f1 hz (by omega)
  have hf52 : cvtN n % 4503599627370496 < 4503599627370496 := Nat.mod_lt _ (by decide)
  by_cases c1 : p + ((cvtN n / 4503599627370496 : Nat) - 1023) < -1075
  · exact ⟨0, by decide, fun w => ldexp_under _ _ _ 0 0 p f1 f2 he hand hfr ho f5 hl p1 p2 (by omega) (by omega) c1 rfl rfl w⟩
  · by_cases c2 : 1023 < p + (((cvtN n / 4503599627370496 : Nat) : Int) - 1023)
    · exact ⟨infR, by decide, fun w => ldexp_over _ _ _ 0 0 p f1 f2 he hand hfr ho f5 hl p1 p2 (by omega) (by omega) (by omega) c2 rfl rfl w⟩
    · by_cases c3 : p + (((cvtN n / 4503599627370496 : Nat) : Int) - 1023) < -1022
      · have hor := bor_exp (k := (p + (((cvtN n / 4503599627370496 : Nat) : Int) - 1023) + 53 + 1023).toNat) hf52 (by omega)
        rw [show (((p + (((cvtN n / 4503599627370496 : Nat) : Int) - 1023) + 53 + 1023).toNat : Nat) : Int) = p + (((cvtN n / 4503599627370496 : Nat) : Int) - 1023) + 53 + 1023 by omega] at hor
        obtain ⟨r, hr, hlt⟩ := mul_pos_some (c := tinyB) (x := (p + (((cvtN n / 4503599627370496 : Nat) : Int) - 1023) + 53 + 1023).toNat * 4503599627370496 + cvtN n % 4503599627370496) (by unfold infR; omega) read_tiny
        exact ⟨r, hlt, fun w => ldexp_tiny _ _ _ _ r p f1 f2 he hand hfr ho f5 hl p1 p2 (by omega) (by omega) (by omega) (by omega) c3 hor hr w⟩
      · have hor := bor_exp (k := (p + (((cvtN n / 4503599627370496 : Nat) : Int) - 1023) + 1023).toNat) hf52 (by omega)
        rw [show (((p + (((cvtN n / 4503599627370496 : Nat) : Int) - 1023) + 1023).toNat : Nat) : Int) = p + (((cvtN n / 4503599627370496 : Nat) : Int) - 1023) + 1023 by omega] at hor
        obtain ⟨r, hr, hlt⟩ := mul_pos_some (c := oneB) (x := (p + (((cvtN n / 4503599627370496 : Nat) : Int) - 1023) + 1023).toNat * 4503599627370496 + cvtN n % 4503599627370496) (by unfold infR; omega) read_one
        exact ⟨r, hlt, fun w => ldexp_norm _ _ _ _ r p f1 f2 he hand hfr ho f5 hl p1 p2 (by omega) (by omega) (by omega) (by omega) (by omega) hor hr w⟩

/-- Just the float of an odd number and a power, where there is one. -/
theorem ldexp_fits (n : Nat) (p : Int) (h : Fits n p) (w : World) :
    Calls Tryz.prog 170 #[.float .f64 (cvtN n), .int .i64 p] w fun e w' => e = .returned (.float .f64 (ofOdd n p)) ∧ w = w' := by
  have hodd := h.odd
  have h0 : n ≠ 0 := by omega
  have hlt := h.lt
  obtain ⟨f1, f2, f3, f4, f5⟩ := cvt_facts h0 (by omega)
  obtain ⟨d1, d2⟩ := cvt_norm h0 h.lt
  obtain ⟨b1, b2, b3⟩ := norm_bd h0 h.lt
  obtain ⟨s1, s2, s3, s4⟩ := ofOdd_spec h
  have hlo := h.lo
  have hhi := h.hi
  have hfb := f1
  unfold infR at hfb
  have h63 : cvtN n < 9223372036854775808 := by omega
  have he : (cvtN n : Int) / 4503599627370496 = ((n.log2 + 1023 : Nat) : Int) := by omega
  have hand := band_i11 (x := n.log2 + 1023) (by omega)
  have hfr := bandNot_exp h63
  have hz : (0 : Nat) < infR := by unfold infR; omega
  have ho := order_eq_f f1 hz (by unfold smallB at f2; omega)
  have hl := order_lt_f f1 hz (by omega)
  rw [d2] at hfr
  by_cases c3 : -1022 ≤ p + n.log2
  · have e : ofOdd n p = (p + n.log2 + 1023).toNat * 4503599627370496 + (n * 2 ^ (52 - n.log2) - 4503599627370496) := by unfold ofOdd; rw [if_pos c3]
    have hor := bor_exp (fr := n * 2 ^ (52 - n.log2) - 4503599627370496) (k := (p + n.log2 + 1023).toNat) (by omega) (by omega)
    rw [← e, show (((p + n.log2 + 1023).toNat : Nat) : Int) = p + (((n.log2 + 1023 : Nat) : Int) - 1023) + 1023 by omega] at hor
    exact ldexp_norm _ _ _ _ _ p f1 f2 he hand hfr ho f5 hl (by omega) (by omega) (by omega) (by omega) (by omega) (by omega) (by omega) hor (one_mul_pos s1 s2) w
  · have e : ofOdd n p = n * 2 ^ (p + 1074).toNat := by unfold ofOdd; rw [if_neg c3]
    obtain ⟨t1, t2⟩ := sub_bd h c3
    rw [← e] at t1 t2
    have hor := bor_exp (fr := n * 2 ^ (52 - n.log2) - 4503599627370496) (k := (p + n.log2 + 53 + 1023).toNat) (by omega) (by omega)
    rw [show (((p + n.log2 + 53 + 1023).toNat : Nat) : Int) = p + (((n.log2 + 1023 : Nat) : Int) - 1023) + 53 + 1023 by omega] at hor
    have hexp : 52 - n.log2 + 52 = (p + 1074).toNat + (-(970 + n.log2 + p)).toNat := by omega
    have hkey : n * 2 ^ (52 - n.log2) * 2 ^ 52 = n * 2 ^ (p + 1074).toNat * 2 ^ (-(970 + n.log2 + p)).toNat := by
      rw [Nat.mul_assoc, Nat.mul_assoc, ← Nat.pow_add, ← Nat.pow_add, hexp]
    clear hexp
    generalize hk : (p + n.log2 + 53 + 1023).toNat = k at hor
    generalize hy : n * 2 ^ (52 - n.log2) = y at *
    have hns : ¬ k * 4503599627370496 + (y - 4503599627370496) < 4503599627370496 := by omega
    have hf : fullN (k * 4503599627370496 + (y - 4503599627370496)) = y := by rw [fullN_hi hns]; omega
    have hx : expN (k * 4503599627370496 + (y - 4503599627370496)) = k := by rw [expN_hi hns]; omega
    have hm := tiny_mul_pos (x := k * 4503599627370496 + (y - 4503599627370496)) (r := ofOdd n p) (b := (-(970 + n.log2 + p)).toNat) s1 s2 (by unfold infR; omega)
      (by rw [hf, fullN_lo t2, e]; exact hkey)
      (by rw [hx, expN_lo t2]; omega)
    exact ldexp_tiny _ _ _ _ _ p f1 f2 he hand hfr ho f5 hl (by omega) (by omega) (by omega) (by omega) (by omega) (by omega) (by omega) hor hm w
theorem mldexp (fb : Nat) (p : Int) (r : Nat) (h : ∀ w, Calls Tryz.prog 170 #[.float .f64 fb, .int .i64 p] w fun e w' => e = .returned (.float .f64 r) ∧ w = w') (w : World) :
    Calls Tryz.prog 135 #[.float .f64 fb, .int .i64 p] w fun e w' => e = .returned (.float .f64 r) ∧ w = w' := by
  have H := Lib.hid h; clear h
  go_enter Tryz.func135, Tryz.ntmps135
  go_wp2_with (go_at_call 170; refine (H.out _).mono ?_; rintro e w' ⟨rfl, rfl⟩)
  go_ret
  exact ⟨rfl, rfl⟩
end Go.Proofs.YtbgccaconhmbaaaGreatDoor
