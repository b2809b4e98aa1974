/- num.join and num.Parse. Conditions: texts of at most a million bytes. -/
import Derived.Test.YtjkfcmadoeifgaaGreatDoorU
namespace Go.Proofs.YtjkfcmadoeifgaaGreatDoor
open Go.RowKit Go.Lib

theorem join_yes (n : Nat) (p : Int) (h : Fits n p) (w : World) :
    Calls Tryz.prog 106 #[.int .i64 (n : Int), .int .i64 p] w fun e w' => e = .returned (.tuple #[.float .f64 (ofOdd n p), .bool true]) ∧ w = w' := by
  have hodd := h.odd
  have hlt := h.lt
  have hlo := h.lo
  have hhi := h.hi
  have H := Lib.hid h; clear h
  have hmod : (n : Int).tmod 2 = 1 := by have := tmodN n 2; rw [hodd] at this; exact this
  have hge : decide ((n : Int) ≥ 9007199254740992) = false := by simp; omega
  have hp : decide (p < -1074) = false := by simp; omega
  have hw : IntKind.u64.wrap (n : Int) = (n : Int) := wrap_nat (by omega)
  have hl : (n.log2 : Int) < 64 := by
    have : n.log2 < 53 := (Nat.log2_lt (by omega)).2 hlt
    omega
  have hs : decide (p + ((n.log2 + 1 : Nat) : Int) > 1024) = false := by simp; omega
  have hs' : decide (p + ((n.log2 : Int) + 1) > 1024) = false := by simp; omega
  have p1 : -2000 ≤ p := by omega
  have p2 : p ≤ 2000 := by omega
  have HN : Hid (n ≠ 0 ∧ n < 18446744073709551616) := by unfold Hid; omega
  clear hodd hlt hlo hhi
  go_enter Tryz.func106, Tryz.ntmps106
  go_wp2_with (first
    | (go_at_call 116; refine (len_any n HN.out.1 HN.out.2 _).mono ?_; rintro e w' ⟨rfl, rfl⟩)
    | (go_at_call 117; refine (fits_ldexp n p H.out _).mono ?_; rintro e w' ⟨rfl, rfl⟩))
  go_ret2
  exact ⟨rfl, rfl⟩
theorem join_even (n : Nat) (p : Int) (h : n % 2 = 0) (w : World) :
    Calls Tryz.prog 106 #[.int .i64 (n : Int), .int .i64 p] w fun e w' => e = .returned (.tuple #[.float .f64 0, .bool false]) ∧ w = w' := by
  have hmod : (n : Int).tmod 2 = 0 := by have := tmodN n 2; rw [h] at this; exact this
  clear h
  go_enter Tryz.func106, Tryz.ntmps106
  go_wp2_with fail
  go_ret2
  exact ⟨rfl, rfl⟩
theorem join_big (n : Nat) (p : Int) (h : n % 2 = 1) (h2 : 9007199254740992 ≤ n) (w : World) :
    Calls Tryz.prog 106 #[.int .i64 (n : Int), .int .i64 p] w fun e w' => e = .returned (.tuple #[.float .f64 0, .bool false]) ∧ w = w' := by
  have hmod : (n : Int).tmod 2 = 1 := by have := tmodN n 2; rw [h] at this; exact this
  have hge : decide ((n : Int) ≥ 9007199254740992) = true := by simp; omega
  have hge' : 9007199254740992 ≤ (n : Int) := by omega
  clear h h2
  go_enter Tryz.func106, Tryz.ntmps106
  go_wp2_with fail
  go_ret2
  exact ⟨rfl, rfl⟩
theorem join_low (n : Nat) (p : Int) (h : n % 2 = 1) (h2 : n < 9007199254740992) (h3 : p < -1074) (w : World) :
    Calls Tryz.prog 106 #[.int .i64 (n : Int), .int .i64 p] w fun e w' => e = .returned (.tuple #[.float .f64 0, .bool false]) ∧ w = w' := by
  have hmod : (n : Int).tmod 2 = 1 := by have := tmodN n 2; rw [h] at this; exact this
  have hge : decide ((n : Int) ≥ 9007199254740992) = false := by simp; omega
  clear h h2
  go_enter Tryz.func106, Tryz.ntmps106
  go_wp2_with fail
  go_ret2
  exact ⟨rfl, rfl⟩
theorem join_high (n : Nat) (p : Int) (h : n % 2 = 1) (h2 : n < 9007199254740992) (h3 : ¬ p < -1074) (h4 : ¬ p + n.log2 < 1024) (h5 : p ≤ 9007199254740992) (w : World) :
    Calls Tryz.prog 106 #[.int .i64 (n : Int), .int .i64 p] w fun e w' => e = .returned (.tuple #[.float .f64 0, .bool false]) ∧ w = w' := by
  have hmod : (n : Int).tmod 2 = 1 := by have := tmodN n 2; rw [h] at this; exact this
  have hge : decide ((n : Int) ≥ 9007199254740992) = false := by simp; omega
  have hw : IntKind.u64.wrap (n : Int) = (n : Int) := wrap_nat (by omega)
  have hl : (n.log2 : Int) < 64 := by
    have : n.log2 < 53 := (Nat.log2_lt (by omega)).2 h2
    omega
  have hs : decide (p + ((n.log2 + 1 : Nat) : Int) > 1024) = true := by simp; omega
  have hs' : 1024 < p + ((n.log2 : Int) + 1) := by omega
  have hp : decide (p < -1074) = false := by simp; omega
  have HN : Hid (n ≠ 0 ∧ n < 18446744073709551616) := by unfold Hid; omega
  clear h h2
  go_enter Tryz.func106, Tryz.ntmps106
  go_wp2_with (go_at_call 116; refine (len_any n HN.out.1 HN.out.2 _).mono ?_; rintro e w' ⟨rfl, rfl⟩)
  go_ret2
  exact ⟨rfl, rfl⟩
theorem join_no (n : Nat) (p : Int) (h : ¬ Fits n p) (h5 : p ≤ 9007199254740992) (w : World) :
    Calls Tryz.prog 106 #[.int .i64 (n : Int), .int .i64 p] w fun e w' => e = .returned (.tuple #[.float .f64 0, .bool false]) ∧ w = w' := by
  by_cases h1 : n % 2 = 0
  · exact join_even n p h1 w
  · have h1' : n % 2 = 1 := by omega
    by_cases h2 : n < 9007199254740992
    · by_cases h3 : p < -1074
      · exact join_low n p h1' h2 h3 w
      · by_cases h4 : p + n.log2 < 1024
        · exact absurd ⟨h1', h2, by omega, h4⟩ h
        · exact join_high n p h1' h2 h3 h4 h5 w
    · exact join_big n p h1' (by omega) w
end Go.Proofs.YtjkfcmadoeifgaaGreatDoor
