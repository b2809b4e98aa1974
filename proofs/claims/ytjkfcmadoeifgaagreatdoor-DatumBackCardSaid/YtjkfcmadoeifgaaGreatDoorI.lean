/- num.split: a number above zero is its odd part times a power of two. Conditions: the bits of a finite number above zero; the tables hold what their initialisers lay. -/
import Derived.Test.YtjkfcmadoeifgaaGreatDoorH
namespace Go.Proofs.YtjkfcmadoeifgaaGreatDoor
open Go.RowKit Go.Sort Go.Lib
theorem bor52 {n : Nat} (h : n < 4503599627370496) : bits .or .u64 (n : Int) 4503599627370496 = ((n + 4503599627370496 : Nat) : Int) := by
  have := bor (a := n) (b := 4503599627370496) (by omega) (by decide)
  rw [Nat.or_comm, ← Nat.two_pow_add_eq_or_of_lt (i := 52) h 1] at this
  rw [Nat.add_comm]; exact this
/-- The digits of a float above zero, as a whole number; its exponent's place; how often two divides it; the odd part; the power. -/
def fullN (m : Nat) : Nat := bif decide (m < 4503599627370496) then m else m % 4503599627370496 + 4503599627370496
def expN (m : Nat) : Nat := bif decide (m < 4503599627370496) then 1 else m / 4503599627370496
def evenN (m : Nat) : Nat := Lib.ctz 64 (fullN m)
def oddN (m : Nat) : Nat := fullN m / 2 ^ evenN m
def powN (m : Nat) : Int := (expN m : Int) - 1 + (-1074) + evenN m
theorem fullN_lo {m : Nat} (h : m < 4503599627370496) : fullN m = m := by unfold fullN; rw [decide_eq_true h, cond_true]
theorem fullN_hi {m : Nat} (h : ¬ m < 4503599627370496) : fullN m = m % 4503599627370496 + 4503599627370496 := by unfold fullN; rw [decide_eq_false h, cond_false]
theorem expN_lo {m : Nat} (h : m < 4503599627370496) : expN m = 1 := by unfold expN; rw [decide_eq_true h, cond_true]
theorem expN_hi {m : Nat} (h : ¬ m < 4503599627370496) : expN m = m / 4503599627370496 := by unfold expN; rw [decide_eq_false h, cond_false]
theorem fullN_bd {m : Nat} (h : 0 < m) : fullN m ≠ 0 ∧ fullN m < 9007199254740992 := by
  by_cases h2 : m < 4503599627370496
  · rw [fullN_lo h2]; omega
  · rw [fullN_hi h2]; omega
theorem evenN_lt {m : Nat} (h : 0 < m) : evenN m < 64 := by
  obtain ⟨h1, h2⟩ := fullN_bd h
  exact (Lib.lowest_bit 64 _ h1 (by omega)).2
theorem expN_bd {m : Nat} (h : m < infR) : 1 ≤ expN m ∧ expN m ≤ 2046 := by
  unfold infR at h
  by_cases h2 : m < 4503599627370496
  · rw [expN_lo h2]; omega
  · rw [expN_hi h2]; omega
theorem tz_full (m : Nat) (h : 0 < m) (w : World) (hT : Tabs w) :
    Calls Tryz.prog 110 #[.int .u64 (fullN m : Int)] w fun e w' => e = .returned (.int .i64 (evenN m : Nat)) ∧ w = w' :=
  tz_any (fullN m) (by have := (fullN_bd h).2; omega) (fullN_bd h).1 w hT
theorem shr_odd (m : Nat) : (fullN m : Int) / 2 ^ evenN m = (oddN m : Int) := by
  unfold oddN
  rw [Int.natCast_ediv, Int.natCast_pow]; rfl
theorem ret_ii {j k : IntKind} {a b c d : Int} (h1 : a = b) (h2 : c = d) : Ending.returned (.tuple #[.int j a, .int k c]) = .returned (.tuple #[.int j b, .int k d]) := by rw [h1, h2]
theorem split_any (m : Nat) (hm : m < infR) (hm0 : 0 < m) (w : World) (hT : Tabs w) :
    Calls Tryz.prog 90 #[.int .u64 (m : Int)] w fun e w' => e = .returned (.tuple #[.int .u64 (oddN m : Nat), .int .i64 (powN m)]) ∧ w = w' := by
  have hm64 : m < 18446744073709551616 := by unfold infR at hm; omega
  have h1 := band_frac hm64
  have HT := Lib.hid hT; clear hT
  have H0 := Lib.hid hm0
  have S := Lib.hid (shr_odd m)
  have e1 : (1:Int) ≤ (expN m : Int) := by have := (expN_bd hm).1; omega
  have e2 : (expN m : Int) ≤ 2046 := by have := (expN_bd hm).2; omega
  have e3 : (evenN m : Int) < 64 := by have := evenN_lt hm0; omega
  by_cases h0 : m < 4503599627370496
  · have h3 : (m : Int) / 4503599627370496 = 0 := by omega
    have h5 : m % 4503599627370496 = m := by omega
    rw [h5] at h1
    have EX := Lib.hid (expN_lo h0)
    have FU := Lib.hid (fullN_lo h0)
    clear hm h0 h5 hm0 hm64 e1 e2
    go_enter Tryz.func90, Tryz.ntmps90
    go_wp2_with (go_at_call 110; rw [← FU.out]; refine (tz_full m H0.out _ HT.out).mono ?_; rintro e w' ⟨rfl, rfl⟩)
    go_ret2
    exact ⟨ret_ii (by rw [← S.out, FU.out]) (by unfold powN; rw [EX.out]; rfl), rfl⟩
  · have h2 := bor52 (n := m % 4503599627370496) (by omega)
    rw [← fullN_hi h0] at h2
    have h3 : (((m : Int) / 4503599627370496) == 0) = false := by simp; omega
    have he1 : (m : Int) / 4503599627370496 = (expN m : Int) := by rw [expN_hi h0]; omega
    rw [he1] at h3
    clear hm h0 hm0 hm64
    generalize m % 4503599627370496 = fr at h1 h2
    go_enter Tryz.func90, Tryz.ntmps90
    go_wp2_with (go_at_call 110; refine (tz_full m H0.out _ HT.out).mono ?_; rintro e w' ⟨rfl, rfl⟩)
    go_ret2
    exact ⟨ret_ii S.out rfl, rfl⟩
end Go.Proofs.YtjkfcmadoeifgaaGreatDoor
