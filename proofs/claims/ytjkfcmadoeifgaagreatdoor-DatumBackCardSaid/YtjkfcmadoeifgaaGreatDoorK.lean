/- num.Print: the text of any float. Conditions: bits below 2^64; the tables hold what their initialisers lay. -/
import Derived.Test.YtjkfcmadoeifgaaGreatDoorI
import Derived.Test.YtjkfcmadoeifgaaGreatDoorJ
import Derived.Test.YtjkfcmadoeifgaaGreatDoorE
import Derived.Test.YtjkfcmadoeifgaaGreatDoorF
namespace Go.Proofs.YtjkfcmadoeifgaaGreatDoor
open Go.RowKit Go.Sort Go.Lib

def digT (m : Nat) : List UInt8 := decDigits (oddN m)
def powT (m : Nat) : List UInt8 := itoa (powN m)
/-- The text of a finite number above zero (its lower bits). -/
def numT (m : Nat) : List UInt8 := digT m ++ 112 :: powT m
def textN (b : Nat) : List UInt8 :=
  match clsN b with
  | 0 => [110, 97, 110]
  | 1 => [45, 105, 110, 102]
  | 4 => [45, 48]
  | 5 => [48]
  | 8 => [105, 110, 102]
  | 2 | 3 => 45 :: numT (b % 9223372036854775808)
  | _ => numT (b % 9223372036854775808)

theorem oddN_lt {m : Nat} (h : 0 < m) : oddN m < 9007199254740992 := by
  have := (fullN_bd h).2
  unfold oddN
  exact Nat.lt_of_le_of_lt (Nat.div_le_self _ _) this
theorem powN_bd {m : Nat} (h : 0 < m) (h2 : m < infR) : -1074 ≤ powN m ∧ powN m ≤ 1100 := by
  have h3 := expN_bd h2
  have h4 := evenN_lt h
  unfold powN
  omega
theorem nDig_le (u : Nat) (h : u < 18446744073709551616) : nDigits u ≤ 20 := by
  by_cases h0 : u = 0
  · subst h0; unfold nDigits; simp
  · have := Lib.numDigits_eq u (by omega) h; split at this <;> omega
theorem digT_len {m : Nat} (h : 0 < m) : (digT m).length ≤ 20 := by
  unfold digT; rw [decDigits_length]; exact nDig_le _ (by have := oddN_lt h; omega)
theorem itoa_len (n : Int) (h0 : -9223372036854775808 ≤ n) (h1 : n ≤ 9223372036854775807) : (itoa n).length ≤ 21 := by
  unfold itoa
  split
  · rw [List.length_cons, decDigits_length]
    have := nDig_le n.natAbs (by omega)
    omega
  · rw [decDigits_length]
    have := nDig_le n.toNat (by omega)
    omega
theorem powT_len {m : Nat} (h : 0 < m) (h2 : m < infR) : (powT m).length ≤ 21 := by
  have := powN_bd h h2
  exact itoa_len _ (by omega) (by omega)
theorem ba_append (a b : Array UInt8) : (⟨a⟩ : ByteArray) ++ ⟨b⟩ = ⟨a ++ b⟩ := ByteArray.ext (by simp)
theorem ret_s {s t : ByteArray} (h : s = t) : Ending.returned (.string s) = .returned (.string t) := by rw [h]
theorem numT_eq (m : Nat) : (⟨(digT m).toArray⟩ : ByteArray) ++ ⟨#[112]⟩ ++ ⟨(powT m).toArray⟩ = ⟨(numT m).toArray⟩ := by
  rw [ba_append, ba_append]; simp [numT]
theorem numT_neg (m : Nat) : (⟨#[45]⟩ : ByteArray) ++ (⟨(digT m).toArray⟩ ++ ⟨#[112]⟩ ++ ⟨(powT m).toArray⟩) = ⟨(45 :: numT m).toArray⟩ := by
  rw [numT_eq, ba_append]; simp

theorem formatOdd (m : Nat) (h : 0 < m) (w : World) (hT : Tabs w) :
    Calls Tryz.prog 91 #[.int .u64 (oddN m : Int), .int .i64 10] w fun e w' => e = .returned (.string ⟨(digT m).toArray⟩) ∧ Below w.heap.size w w' :=
  formatUint _ (by have := oddN_lt h; omega) w hT
theorem itoaPow (m : Nat) (h : 0 < m) (h2 : m < infR) (w : World) (hT : Tabs w) :
    Calls Tryz.prog 92 #[.int .i64 (powN m)] w fun e w' => e = .returned (.string ⟨(powT m).toArray⟩) ∧ Below w.heap.size w w' := by
  have := powN_bd h h2
  exact itoa_any _ (by omega) (by omega) w hT

theorem cls_cases {b : Nat} (hb : b < 18446744073709551616) :
    (clsN b = 0 ∧ nanB b = true) ∨ (clsN b = 1 ∧ b = 18442240474082181120) ∨ (clsN b = 4 ∧ b = 9223372036854775808) ∨ (clsN b = 5 ∧ b = 0) ∨ (clsN b = 8 ∧ b = infR) ∨
    ((clsN b = 2 ∨ clsN b = 3) ∧ canon b = b ∧ 0 < b % 9223372036854775808 ∧ b % 9223372036854775808 < infR ∧ 9223372036854775808 < b) ∨
    ((clsN b = 6 ∨ clsN b = 7) ∧ canon b = b ∧ 0 < b % 9223372036854775808 ∧ b % 9223372036854775808 < infR ∧ b < 9223372036854775808) := by
  cases h : nanB b
  · have hn : ¬ infR < b % 9223372036854775808 := by simpa [nanB] using h
    have hc := canon_num h
    by_cases h3 : b % 9223372036854775808 < infR
    · by_cases h0 : b % 9223372036854775808 = 0
      · have hd := distN_0 h0
        by_cases hs : b < 9223372036854775808
        · have := clsN_pos h hs; rw [hd] at this
          right; right; right; left; exact ⟨this, by omega⟩
        · have := clsN_neg h hs; rw [hd] at this
          right; right; left; exact ⟨this, by omega⟩
      · have hd : distN (b % 9223372036854775808) = 1 ∨ distN (b % 9223372036854775808) = 2 := by
          by_cases h1 : b % 9223372036854775808 < 4503599627370496
          · exact .inl (distN_1 h0 h1)
          · exact .inr (distN_2 h1 h3)
        by_cases hs : b < 9223372036854775808
        · have := clsN_pos h hs
          right; right; right; right; right; right
          exact ⟨by omega, hc, by omega, h3, hs⟩
        · have := clsN_neg h hs
          right; right; right; right; right; left
          exact ⟨by omega, hc, by omega, h3, by omega⟩
    · have hd := distN_3 h3
      unfold infR at hn h3
      by_cases hs : b < 9223372036854775808
      · have := clsN_pos h hs; rw [hd] at this
        right; right; right; right; left; exact ⟨this, by unfold infR; omega⟩
      · have := clsN_neg h hs; rw [hd] at this
        right; left; exact ⟨this, by omega⟩
  · exact .inl ⟨cls_nan h, rfl⟩
theorem print_k0 (b : Nat) (hb : b < 18446744073709551616) (hk : clsN b = 0) (w : World) :
    Calls Tryz.prog 64 #[.float .f64 b] w fun e w' => e = .returned (.string ⟨#[110, 97, 110]⟩) ∧ w = w' := by
  have HB := Lib.hid hb; clear hb
  have HK := Lib.hid hk; clear hk
  go_enter Tryz.func64, Tryz.ntmps64
  go_wp2_with (go_at_call 89; refine (class_any _ _ HB.out).mono ?_; rw [HK.out]; rintro e w' ⟨rfl, rfl⟩)
  go_ret
  exact ⟨rfl, rfl⟩
theorem print_k1 (b : Nat) (hb : b < 18446744073709551616) (hk : clsN b = 1) (w : World) :
    Calls Tryz.prog 64 #[.float .f64 b] w fun e w' => e = .returned (.string ⟨#[45, 105, 110, 102]⟩) ∧ w = w' := by
  have HB := Lib.hid hb; clear hb
  have HK := Lib.hid hk; clear hk
  go_enter Tryz.func64, Tryz.ntmps64
  go_wp2_with (go_at_call 89; refine (class_any _ _ HB.out).mono ?_; rw [HK.out]; rintro e w' ⟨rfl, rfl⟩)
  go_ret
  exact ⟨rfl, rfl⟩
theorem print_k4 (b : Nat) (hb : b < 18446744073709551616) (hk : clsN b = 4) (w : World) :
    Calls Tryz.prog 64 #[.float .f64 b] w fun e w' => e = .returned (.string ⟨#[45, 48]⟩) ∧ w = w' := by
  have HB := Lib.hid hb; clear hb
  have HK := Lib.hid hk; clear hk
  go_enter Tryz.func64, Tryz.ntmps64
  go_wp2_with (go_at_call 89; refine (class_any _ _ HB.out).mono ?_; rw [HK.out]; rintro e w' ⟨rfl, rfl⟩)
  go_ret
  exact ⟨rfl, rfl⟩
theorem print_k5 (b : Nat) (hb : b < 18446744073709551616) (hk : clsN b = 5) (w : World) :
    Calls Tryz.prog 64 #[.float .f64 b] w fun e w' => e = .returned (.string ⟨#[48]⟩) ∧ w = w' := by
  have HB := Lib.hid hb; clear hb
  have HK := Lib.hid hk; clear hk
  go_enter Tryz.func64, Tryz.ntmps64
  go_wp2_with (go_at_call 89; refine (class_any _ _ HB.out).mono ?_; rw [HK.out]; rintro e w' ⟨rfl, rfl⟩)
  go_ret
  exact ⟨rfl, rfl⟩
theorem print_k8 (b : Nat) (hb : b < 18446744073709551616) (hk : clsN b = 8) (w : World) :
    Calls Tryz.prog 64 #[.float .f64 b] w fun e w' => e = .returned (.string ⟨#[105, 110, 102]⟩) ∧ w = w' := by
  have HB := Lib.hid hb; clear hb
  have HK := Lib.hid hk; clear hk
  go_enter Tryz.func64, Tryz.ntmps64
  go_wp2_with (go_at_call 89; refine (class_any _ _ HB.out).mono ?_; rw [HK.out]; rintro e w' ⟨rfl, rfl⟩)
  go_ret
  exact ⟨rfl, rfl⟩
set_option maxHeartbeats 800000 in
theorem print_k2 (b m : Nat) (hb : b < 18446744073709551616) (hk : clsN b = 2) (hc : canon b = b) (h1 : bits .andNot .u64 (b : Int) 9223372036854775808 = (m : Int)) (hm0 : 0 < m) (hm : m < infR)
    (hlt : (FloatKind.f64.format.order b 0 == some .lt) = true) (w : World) (hT : Tabs w) :
    Calls Tryz.prog 64 #[.float .f64 b] w fun e w' => e = .returned (.string ⟨(45 :: numT m).toArray⟩) ∧ Below w.heap.size w w' := by
  have l1 := digT_len hm0
  have l2 := powT_len hm0 hm
  have n1 : ¬ 9223372036854775807 < (digT m).length + 1 := by omega
  have n2 : ¬ 9223372036854775807 < (digT m).length + 1 + (powT m).length := by omega
  have n3 : ¬ 9223372036854775807 < 1 + ((digT m).length + 1 + (powT m).length) := by omega
  clear l1 l2
  have HB := Lib.hid hb; clear hb
  have HK := Lib.hid hk; clear hk
  have HC := Lib.hid hc; clear hc
  have HM := Lib.hid hm; clear hm
  have HM0 := Lib.hid hm0; clear hm0
  have HT := Lib.hid hT; clear hT
  go_enter Tryz.func64, Tryz.ntmps64
  go_wp2_with (first
    | (go_at_call 89; refine (class_any _ _ HB.out).mono ?_; rw [HK.out]; rintro e w' ⟨rfl, rfl⟩)
    | (go_at_call 66; refine (bits_any _ _).mono ?_; rw [HC.out]; rintro e w' ⟨rfl, rfl⟩)
    | (go_at_call 90; refine (split_any m HM.out HM0.out _ HT.out).mono ?_; rintro e w' ⟨rfl, rfl⟩)
    | (go_at_call 91; refine (formatOdd m HM0.out _ HT.out).mono ?_; rintro e w1 ⟨rfl, hb1⟩; have HT1 := Lib.hid (HT.out.below hb1); have HB1 := Lib.hid hb1; clear hb1)
    | (go_at_call 92; refine (itoaPow m HM0.out HM.out _ HT1.out).mono ?_; rintro e w2 ⟨rfl, hb2⟩; have HB2 := Lib.hid hb2; clear hb2))
  go_ret
  exact ⟨ret_s (numT_neg m), HB1.out.trans (HB2.out.mono HB1.out.size)⟩
set_option maxHeartbeats 800000 in
theorem print_k3 (b m : Nat) (hb : b < 18446744073709551616) (hk : clsN b = 3) (hc : canon b = b) (h1 : bits .andNot .u64 (b : Int) 9223372036854775808 = (m : Int)) (hm0 : 0 < m) (hm : m < infR)
    (hlt : (FloatKind.f64.format.order b 0 == some .lt) = true) (w : World) (hT : Tabs w) :
    Calls Tryz.prog 64 #[.float .f64 b] w fun e w' => e = .returned (.string ⟨(45 :: numT m).toArray⟩) ∧ Below w.heap.size w w' := by
  have l1 := digT_len hm0
  have l2 := powT_len hm0 hm
  have n1 : ¬ 9223372036854775807 < (digT m).length + 1 := by omega
  have n2 : ¬ 9223372036854775807 < (digT m).length + 1 + (powT m).length := by omega
  have n3 : ¬ 9223372036854775807 < 1 + ((digT m).length + 1 + (powT m).length) := by omega
  clear l1 l2
  have HB := Lib.hid hb; clear hb
  have HK := Lib.hid hk; clear hk
  have HC := Lib.hid hc; clear hc
  have HM := Lib.hid hm; clear hm
  have HM0 := Lib.hid hm0; clear hm0
  have HT := Lib.hid hT; clear hT
  go_enter Tryz.func64, Tryz.ntmps64
  go_wp2_with (first
    | (go_at_call 89; refine (class_any _ _ HB.out).mono ?_; rw [HK.out]; rintro e w' ⟨rfl, rfl⟩)
    | (go_at_call 66; refine (bits_any _ _).mono ?_; rw [HC.out]; rintro e w' ⟨rfl, rfl⟩)
    | (go_at_call 90; refine (split_any m HM.out HM0.out _ HT.out).mono ?_; rintro e w' ⟨rfl, rfl⟩)
    | (go_at_call 91; refine (formatOdd m HM0.out _ HT.out).mono ?_; rintro e w1 ⟨rfl, hb1⟩; have HT1 := Lib.hid (HT.out.below hb1); have HB1 := Lib.hid hb1; clear hb1)
    | (go_at_call 92; refine (itoaPow m HM0.out HM.out _ HT1.out).mono ?_; rintro e w2 ⟨rfl, hb2⟩; have HB2 := Lib.hid hb2; clear hb2))
  go_ret
  exact ⟨ret_s (numT_neg m), HB1.out.trans (HB2.out.mono HB1.out.size)⟩
set_option maxHeartbeats 800000 in
theorem print_k6 (b m : Nat) (hb : b < 18446744073709551616) (hk : clsN b = 6) (hc : canon b = b) (h1 : bits .andNot .u64 (b : Int) 9223372036854775808 = (m : Int)) (hm0 : 0 < m) (hm : m < infR)
    (hlt : (FloatKind.f64.format.order b 0 == some .lt) = false) (w : World) (hT : Tabs w) :
    Calls Tryz.prog 64 #[.float .f64 b] w fun e w' => e = .returned (.string ⟨(numT m).toArray⟩) ∧ Below w.heap.size w w' := by
  have l1 := digT_len hm0
  have l2 := powT_len hm0 hm
  have n1 : ¬ 9223372036854775807 < (digT m).length + 1 := by omega
  have n2 : ¬ 9223372036854775807 < (digT m).length + 1 + (powT m).length := by omega
  have n3 : ¬ 9223372036854775807 < 1 + ((digT m).length + 1 + (powT m).length) := by omega
  clear l1 l2
  have HB := Lib.hid hb; clear hb
  have HK := Lib.hid hk; clear hk
  have HC := Lib.hid hc; clear hc
  have HM := Lib.hid hm; clear hm
  have HM0 := Lib.hid hm0; clear hm0
  have HT := Lib.hid hT; clear hT
  go_enter Tryz.func64, Tryz.ntmps64
  go_wp2_with (first
    | (go_at_call 89; refine (class_any _ _ HB.out).mono ?_; rw [HK.out]; rintro e w' ⟨rfl, rfl⟩)
    | (go_at_call 66; refine (bits_any _ _).mono ?_; rw [HC.out]; rintro e w' ⟨rfl, rfl⟩)
    | (go_at_call 90; refine (split_any m HM.out HM0.out _ HT.out).mono ?_; rintro e w' ⟨rfl, rfl⟩)
    | (go_at_call 91; refine (formatOdd m HM0.out _ HT.out).mono ?_; rintro e w1 ⟨rfl, hb1⟩; have HT1 := Lib.hid (HT.out.below hb1); have HB1 := Lib.hid hb1; clear hb1)
    | (go_at_call 92; refine (itoaPow m HM0.out HM.out _ HT1.out).mono ?_; rintro e w2 ⟨rfl, hb2⟩; have HB2 := Lib.hid hb2; clear hb2))
  go_ret
  exact ⟨ret_s (numT_eq m), HB1.out.trans (HB2.out.mono HB1.out.size)⟩
set_option maxHeartbeats 800000 in
theorem print_k7 (b m : Nat) (hb : b < 18446744073709551616) (hk : clsN b = 7) (hc : canon b = b) (h1 : bits .andNot .u64 (b : Int) 9223372036854775808 = (m : Int)) (hm0 : 0 < m) (hm : m < infR)
    (hlt : (FloatKind.f64.format.order b 0 == some .lt) = false) (w : World) (hT : Tabs w) :
    Calls Tryz.prog 64 #[.float .f64 b] w fun e w' => e = .returned (.string ⟨(numT m).toArray⟩) ∧ Below w.heap.size w w' := by
  have l1 := digT_len hm0
  have l2 := powT_len hm0 hm
  have n1 : ¬ 9223372036854775807 < (digT m).length + 1 := by omega
  have n2 : ¬ 9223372036854775807 < (digT m).length + 1 + (powT m).length := by omega
  have n3 : ¬ 9223372036854775807 < 1 + ((digT m).length + 1 + (powT m).length) := by omega
  clear l1 l2
  have HB := Lib.hid hb; clear hb
  have HK := Lib.hid hk; clear hk
  have HC := Lib.hid hc; clear hc
  have HM := Lib.hid hm; clear hm
  have HM0 := Lib.hid hm0; clear hm0
  have HT := Lib.hid hT; clear hT
  go_enter Tryz.func64, Tryz.ntmps64
  go_wp2_with (first
    | (go_at_call 89; refine (class_any _ _ HB.out).mono ?_; rw [HK.out]; rintro e w' ⟨rfl, rfl⟩)
    | (go_at_call 66; refine (bits_any _ _).mono ?_; rw [HC.out]; rintro e w' ⟨rfl, rfl⟩)
    | (go_at_call 90; refine (split_any m HM.out HM0.out _ HT.out).mono ?_; rintro e w' ⟨rfl, rfl⟩)
    | (go_at_call 91; refine (formatOdd m HM0.out _ HT.out).mono ?_; rintro e w1 ⟨rfl, hb1⟩; have HT1 := Lib.hid (HT.out.below hb1); have HB1 := Lib.hid hb1; clear hb1)
    | (go_at_call 92; refine (itoaPow m HM0.out HM.out _ HT1.out).mono ?_; rintro e w2 ⟨rfl, hb2⟩; have HB2 := Lib.hid hb2; clear hb2))
  go_ret
  exact ⟨ret_s (numT_eq m), HB1.out.trans (HB2.out.mono HB1.out.size)⟩

theorem textN_0 {b : Nat} (h : clsN b = 0) : textN b = [110, 97, 110] := by simp only [textN, h]
theorem textN_1 {b : Nat} (h : clsN b = 1) : textN b = [45, 105, 110, 102] := by simp only [textN, h]
theorem textN_4 {b : Nat} (h : clsN b = 4) : textN b = [45, 48] := by simp only [textN, h]
theorem textN_5 {b : Nat} (h : clsN b = 5) : textN b = [48] := by simp only [textN, h]
theorem textN_8 {b : Nat} (h : clsN b = 8) : textN b = [105, 110, 102] := by simp only [textN, h]
theorem textN_neg {b : Nat} (h : clsN b = 2 ∨ clsN b = 3) : textN b = 45 :: numT (b % 9223372036854775808) := by
  rcases h with h | h <;> simp only [textN, h]
theorem textN_pos {b : Nat} (h : clsN b = 6 ∨ clsN b = 7) : textN b = numT (b % 9223372036854775808) := by
  rcases h with h | h <;> simp only [textN, h]
/-- THE TEXT OF ANY FLOAT. -/
theorem print_any (b : Nat) (hb : b < 18446744073709551616) (w : World) (hT : Tabs w) :
    Calls Tryz.prog 64 #[.float .f64 b] w fun e w' => e = .returned (.string ⟨(textN b).toArray⟩) ∧ Below w.heap.size w w' := by
  have h1 := bandNot_top hb
  rcases cls_cases hb with ⟨h, _⟩ | ⟨h, _⟩ | ⟨h, _⟩ | ⟨h, _⟩ | ⟨h, _⟩ | ⟨h, hc, h0, hi, hs⟩ | ⟨h, hc, h0, hi, hs⟩
  · rw [textN_0 h]; refine (print_k0 b hb h w).mono ?_; rintro e w' ⟨he, rfl⟩; exact ⟨he, Below.refl _ _⟩
  · rw [textN_1 h]; refine (print_k1 b hb h w).mono ?_; rintro e w' ⟨he, rfl⟩; exact ⟨he, Below.refl _ _⟩
  · rw [textN_4 h]; refine (print_k4 b hb h w).mono ?_; rintro e w' ⟨he, rfl⟩; exact ⟨he, Below.refl _ _⟩
  · rw [textN_5 h]; refine (print_k5 b hb h w).mono ?_; rintro e w' ⟨he, rfl⟩; exact ⟨he, Below.refl _ _⟩
  · rw [textN_8 h]; refine (print_k8 b hb h w).mono ?_; rintro e w' ⟨he, rfl⟩; exact ⟨he, Below.refl _ _⟩
  · rw [textN_neg h]
    have hl := order_zero_neg hi hs hb
    rcases h with h | h
    · exact print_k2 b _ hb h hc h1 h0 hi hl w hT
    · exact print_k3 b _ hb h hc h1 h0 hi hl w hT
  · rw [textN_pos h]
    have hl := order_zero_pos hi hs
    rcases h with h | h
    · exact print_k6 b _ hb h hc h1 h0 hi hl w hT
    · exact print_k7 b _ hb h hc h1 h0 hi hl w hT
end Go.Proofs.YtjkfcmadoeifgaaGreatDoor
