/- datum.isPlain, first, Unquote. Conditions: fewer than 2^47 bytes. -/
import Derived.Test.YtjkfcmadoeifgaaGreatDoorVc
import Derived.Test.YtjkfcmadoeifgaaGreatDoorShelf
namespace Go.Proofs.YtjkfcmadoeifgaaGreatDoor
open Go.RowKit
def plainB (c : UInt8) : Bool := decide (32 ≤ c.toNat) && (decide (c.toNat ≤ 126) && (!(c.toNat == 34) && !(c.toNat == 92)))
theorem plain_any (c : UInt8) (w : World) : Calls Tryz.prog 60 #[.int .u8 (c.toNat : Int)] w fun e w' => e = .returned (.bool (plainB c)) ∧ w = w' := by
  unfold plainB
  generalize c.toNat = n
  by_cases h1 : 32 ≤ n
  · have i1 : (32 : Int) ≤ (n : Int) := by omega
    rw [decide_eq_true h1, Bool.true_and]
    by_cases h2 : n ≤ 126
    · have i2 : (n : Int) ≤ 126 := by omega
      rw [decide_eq_true h2, Bool.true_and]
      by_cases h3 : n = 34
      · have i3 : ((n : Int) != (((⟨#[34]⟩ : ByteArray)[0]'(by decide)).toNat : Int)) = false := by rw [bne_eq_false_iff_eq]; show (n : Int) = 34; omega
        have e3 : (n == 34) = true := by rw [beq_iff_eq]; exact h3
        rw [e3, Bool.not_true, Bool.false_and]
        clear h3 e3
        go_enter Tryz.func60, Tryz.ntmps60
        go_wp2
        go_ret
        exact ⟨rfl, rfl⟩
      · have i3 : ((n : Int) != (((⟨#[34]⟩ : ByteArray)[0]'(by decide)).toNat : Int)) = true := by rw [bne_iff_ne]; show (n : Int) ≠ 34; omega
        have e3 : (n == 34) = false := by rw [beq_eq_false_iff_ne]; exact h3
        rw [e3, Bool.not_false, Bool.true_and]
        by_cases h4 : n = 92
        · have i4 : ((n : Int) != 92) = false := by rw [bne_eq_false_iff_eq]; omega
          have e4 : (n == 92) = true := by rw [beq_iff_eq]; exact h4
          rw [e4, Bool.not_true]
          clear h4 e4
          go_enter Tryz.func60, Tryz.ntmps60
          go_wp2
          go_ret
          exact ⟨rfl, rfl⟩
        · have i4 : ((n : Int) != 92) = true := by rw [bne_iff_ne]; omega
          have e4 : (n == 92) = false := by rw [beq_eq_false_iff_ne]; exact h4
          rw [e4, Bool.not_false]
          go_enter Tryz.func60, Tryz.ntmps60
          go_wp2
          go_ret
          exact ⟨rfl, rfl⟩
    · have i2 : ¬ (n : Int) ≤ 126 := by omega
      rw [decide_eq_false h2, Bool.false_and]
      go_enter Tryz.func60, Tryz.ntmps60
      go_wp2
      go_ret
      exact ⟨rfl, rfl⟩
  · have i1 : ¬ (32 : Int) ≤ (n : Int) := by omega
    rw [decide_eq_false h1, Bool.false_and]
    go_enter Tryz.func60, Tryz.ntmps60
    go_wp2
    go_ret
    exact ⟨rfl, rfl⟩
/-- A digit of base sixteen, and the byte that is it. -/
def hexOf (c : UInt8) : Option Nat := if 48 ≤ c.toNat ∧ c.toNat ≤ 57 then some (c.toNat - 48) else if 97 ≤ c.toNat ∧ c.toNat ≤ 102 then some (c.toNat - 87) else none
def hexI (c : UInt8) : Int := match hexOf c with | some n => (n : Int) | none => -1
theorem hex_index (c : UInt8) : Lib.indexByte [48, 49, 50, 51, 52, 53, 54, 55, 56, 57, 97, 98, 99, 100, 101, 102] c = hexI c := by
  have : ∀ n : Fin 256, Lib.indexByte [48, 49, 50, 51, 52, 53, 54, 55, 56, 57, 97, 98, 99, 100, 101, 102] (UInt8.ofNat n.val) = hexI (UInt8.ofNat n.val) := by decide +kernel
  have h := this ⟨c.toNat, c.toNat_lt⟩
  simpa using h
theorem hexI_cases (c : UInt8) : hexI c = -1 ∨ ∃ n : Nat, n < 16 ∧ hexI c = (n : Int) := by
  unfold hexI hexOf
  split
  · rename_i h
    split at h
    · obtain rfl := Option.some.inj h; exact .inr ⟨_, by omega, rfl⟩
    · split at h
      · obtain rfl := Option.some.inj h; exact .inr ⟨_, by omega, rfl⟩
      · cases h
  · exact .inl rfl
/-- What stands at the beginning: the byte, and with how many bytes it is written (0: it is not). -/
def firstV (l : List UInt8) : UInt8 × Nat :=
  if plainB (l.getD 0 0) then (l.getD 0 0, 1)
  else if l.getD 0 0 ≠ 92 ∨ l.length < 3 then (0, 0)
  else if hexI (l.getD 1 0) < 0 ∨ hexI (l.getD 2 0) < 0 then (0, 0)
  else if plainB (UInt8.ofNat (16 * (hexI (l.getD 1 0)).toNat + (hexI (l.getD 2 0)).toNat)) then (0, 0)
  else (UInt8.ofNat (16 * (hexI (l.getD 1 0)).toNat + (hexI (l.getD 2 0)).toNat), 3)
theorem at_i (s : ByteArray) (i : Nat) (h : i < s.size) : s[i] = s.data.toList.getD i 0 := by
  have hl : i < s.data.toList.length := by rw [← Lib.size_eq]; exact h
  rw [List.getD, List.getElem?_eq_getElem hl]
  rfl
theorem hex_byte (a b : Nat) (ha : a < 16) (hb : b < 16) : 16 * a + b < 256 := by omega
theorem hex_conv (a b : Nat) (ha : a < 16) (hb : b < 16) : bits .or .i64 ((a : Int) * 16) (b : Int) % 256 = ((UInt8.ofNat (16 * a + b)).toNat : Int) := by
  have : ∀ a b : Fin 16, bits .or .i64 ((a.val : Int) * 16) (b.val : Int) % 256 = ((UInt8.ofNat (16 * a.val + b.val)).toNat : Int) := by decide +kernel
  exact this ⟨a, ha⟩ ⟨b, hb⟩
theorem first_any (s : ByteArray) (h0 : 0 < s.size) (w : World) : Calls Tryz.prog 59 #[.string s] w fun e w' => e = .returned (.tuple #[.int .u8 ((firstV s.data.toList).1.toNat : Int), .int .i64 ((firstV s.data.toList).2 : Int)]) ∧ ∃ m, w' = w.drewN m := by
  have hlen : s.data.toList.length = s.size := (Lib.size_eq s).symm
  have e0 := at_i s 0 h0
  unfold firstV
  rw [hlen, ← e0]
  cases hp : plainB s[0]
  · have HP : Hid (∀ w, Calls Tryz.prog 60 #[.int .u8 (s[0].toNat : Int)] w fun e w' => e = .returned (.bool false) ∧ w = w') := fun w => by have := plain_any s[0] w; rwa [hp] at this
    rw [if_neg (by simp)]
    by_cases h92 : s[0] = 92
    · have i92 : ((s[0].toNat : Int) != 92) = false := by rw [h92]; rfl
      by_cases h3 : s.size < 3
      · have i3 : (s.size : Int) < 3 := by omega
        rw [if_pos (.inr h3)]
        clear e0 h92 hp hlen
        go_enter Tryz.func59, Tryz.ntmps59
        go_wp2_with (go_at_call 60; refine (HP.out _).mono ?_; rintro e w' ⟨rfl, rfl⟩)
        go_returns
        exact ⟨rfl, 0, rfl⟩
      · have i3 : ¬ (s.size : Int) < 3 := by omega
        rw [if_neg (by simp [h92, h3])]
        have h1 : 1 < s.size := by omega
        have h2 : 2 < s.size := by omega
        have e1 := at_i s 1 h1
        have e2 := at_i s 2 h2
        rw [← e1, ← e2]
        have HX : Hid (∀ (c : UInt8) w, Calls Tryz.prog 85 #[.string ⟨#[48, 49, 50, 51, 52, 53, 54, 55, 56, 57, 97, 98, 99, 100, 101, 102]⟩, .int .u8 (c.toNat : Int)] w fun e w' => e = .returned (.int .i64 (hexI c)) ∧ w' = w) := fun c w => by
          have := Tryz.strings_IndexByte ⟨#[48, 49, 50, 51, 52, 53, 54, 55, 56, 57, 97, 98, 99, 100, 101, 102]⟩ (c.toNat : Int) w
          rw [show (⟨#[48, 49, 50, 51, 52, 53, 54, 55, 56, 57, 97, 98, 99, 100, 101, 102]⟩ : ByteArray).data.toList = [48, 49, 50, 51, 52, 53, 54, 55, 56, 57, 97, 98, 99, 100, 101, 102] from rfl, show ((c.toNat : Int)).toNat.toUInt8 = c from by simp, hex_index] at this
          exact this
        have i1 : (1 : Int) < (s.size : Int) := by omega
        have i2 : (2 : Int) < (s.size : Int) := by omega
        have hc1 := hexI_cases s[1]
        have hc2 := hexI_cases s[2]
        have HX1 := fun w => Lib.hid (HX.out s[1] w)
        have HX2 := fun w => Lib.hid (HX.out s[2] w)
        clear HX e0 e1 e2 h92 hp hlen h3
        rcases hc1 with e1 | ⟨a, ha, e1⟩
        · rw [e1] at HX1 ⊢
          rw [if_pos (.inl (by decide))]
          go_enter Tryz.func59, Tryz.ntmps59
          go_wp2_with (go_at_call 60; refine (HP.out _).mono ?_; rintro e w' ⟨rfl, rfl⟩)
          go_quiet (first
            | ((go_at_call 85; with_reducible refine Calls.quiet_of_same (HX1 _).out))
            | ((go_at_call 85; with_reducible refine Calls.quiet_of_same (HX2 _).out)))
          go_wp2
          go_returns
          exact ⟨rfl, _, rfl⟩
        · rw [e1] at HX1 ⊢
          rcases hc2 with e2 | ⟨b, hb, e2⟩
          · rw [e2] at HX2 ⊢
            rw [if_pos (.inr (by decide))]
            go_enter Tryz.func59, Tryz.ntmps59
            go_wp2_with (go_at_call 60; refine (HP.out _).mono ?_; rintro e w' ⟨rfl, rfl⟩)
            go_quiet (first
              | ((go_at_call 85; with_reducible refine Calls.quiet_of_same (HX1 _).out))
              | ((go_at_call 85; with_reducible refine Calls.quiet_of_same (HX2 _).out)))
            go_wp2
            go_returns
            exact ⟨rfl, _, rfl⟩
          · rw [e2] at HX2 ⊢
            have n1 : ¬ (a : Int) < 0 := by omega
            have n2 : ¬ (b : Int) < 0 := by omega
            rw [if_neg (by omega)]
            have hcv := hex_conv a b ha hb
            simp only [Int.toNat_natCast]
            generalize UInt8.ofNat (16 * a + b) = c at *
            clear e1 e2
            cases hpc : plainB c
            · have HPC : Hid (∀ w, Calls Tryz.prog 60 #[.int .u8 (c.toNat : Int)] w fun e w' => e = .returned (.bool false) ∧ w = w') := fun w => by have := plain_any c w; rwa [hpc] at this
              rw [if_neg (by simp)]
              go_enter Tryz.func59, Tryz.ntmps59
              go_wp2_with (go_at_call 60; refine (HP.out _).mono ?_; rintro e w' ⟨rfl, rfl⟩)
              go_quiet (first
                | ((go_at_call 85; with_reducible refine Calls.quiet_of_same (HX1 _).out))
                | ((go_at_call 85; with_reducible refine Calls.quiet_of_same (HX2 _).out)))
              go_wp2_with (first
                | (simp only [hcv])
                | (go_at_call 60; with_reducible refine (HPC.out _).mono ?_; rintro e w' ⟨rfl, rfl⟩))
              go_returns
              exact ⟨rfl, _, rfl⟩
            · have HPC : Hid (∀ w, Calls Tryz.prog 60 #[.int .u8 (c.toNat : Int)] w fun e w' => e = .returned (.bool true) ∧ w = w') := fun w => by have := plain_any c w; rwa [hpc] at this
              rw [if_pos rfl]
              go_enter Tryz.func59, Tryz.ntmps59
              go_wp2_with (go_at_call 60; refine (HP.out _).mono ?_; rintro e w' ⟨rfl, rfl⟩)
              go_quiet (first
                | ((go_at_call 85; with_reducible refine Calls.quiet_of_same (HX1 _).out))
                | ((go_at_call 85; with_reducible refine Calls.quiet_of_same (HX2 _).out)))
              go_wp2_with (first
                | (simp only [hcv])
                | (go_at_call 60; with_reducible refine (HPC.out _).mono ?_; rintro e w' ⟨rfl, rfl⟩))
              go_returns
              exact ⟨rfl, _, rfl⟩
    · have i92 : ((s[0].toNat : Int) != 92) = true := by
        rw [bne_iff_ne]
        intro hh
        have hn : s[0].toNat = 92 := by omega
        exact h92 (by rw [← UInt8.ofNat_toNat (x := s[0]), hn]; rfl)
      rw [if_pos (.inl h92)]
      clear e0 h92 hp hlen
      go_enter Tryz.func59, Tryz.ntmps59
      go_wp2_with (go_at_call 60; refine (HP.out _).mono ?_; rintro e w' ⟨rfl, rfl⟩)
      go_returns
      exact ⟨rfl, 0, rfl⟩
  · have HP : Hid (∀ w, Calls Tryz.prog 60 #[.int .u8 (s[0].toNat : Int)] w fun e w' => e = .returned (.bool true) ∧ w = w') := fun w => by have := plain_any s[0] w; rwa [hp] at this
    rw [if_pos rfl]
    clear e0 hp hlen
    go_enter Tryz.func59, Tryz.ntmps59
    go_wp2_with (go_at_call 60; refine (HP.out _).mono ?_; rintro e w' ⟨rfl, rfl⟩)
    go_returns
    exact ⟨rfl, 0, rfl⟩
end Go.Proofs.YtjkfcmadoeifgaaGreatDoor
