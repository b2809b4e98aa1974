/- place.Hash and raceref4.Hash are one number of any text; place.Of and raceref4.Of one place. Conditions: none. -/
import Derived.Test.YtfcdajkgopcmpaaJB
import Derived.Test.YtfcdajkgopcmpaaJC
import Derived.Test.YtfcdajkgopcmpaaJE
import Derived.Laws.Closers25b
import Derived.Lib.Strings
namespace Go.Proofs.Ytfcdajkgopcmpaa
open Go.RowKit
def stepH (h : Int) (c : UInt8) : Int := IntKind.u64.wrap (bits .xor .u64 h (IntKind.u64.wrap c.toNat) * 1099511628211)
def foldH (l : List UInt8) : Int := l.foldl stepH 14695981039346656037
def mixH (n : Int) : Int := bits .xor .u64 n (n / 8589934592)
def endH (n : Int) : Int := mixH (IntKind.u64.wrap (mixH (IntKind.u64.wrap (mixH n * 18397679294719823053)) * 14181476777654086739))
/-- The hash of a text. -/
def hashH (l : List UInt8) : Int := endH (foldH l)
theorem foldH_take {l : List UInt8} {k : Nat} (h : k < l.length) : foldH (l.take (k + 1)) = stepH (foldH (l.take k)) l[k] := by
  rw [List.take_add_one, List.getElem?_eq_getElem h]
  unfold foldH
  rw [List.foldl_append]
  rfl
theorem hash_bd (l : List UInt8) : 0 ≤ hashH l ∧ hashH l < 18446744073709551616 := by
  unfold hashH endH
  generalize IntKind.u64.wrap (mixH (IntKind.u64.wrap (mixH (foldH l) * 18397679294719823053)) * 14181476777654086739) = y
  unfold mixH
  have h1 := bits_lo_u64 .xor y (y / 8589934592)
  have h2 := bits_hi_u64 .xor y (y / 8589934592)
  omega
theorem mix_any (n : Int) (w : World) : Calls Try.prog 58 #[.int .u64 n] w fun e w' => e = .returned (.int .u64 (mixH n)) ∧ w = w' := by
  unfold mixH
  go_enter Try.func58, Try.ntmps58
  go_wp2
  go_ret
  exact ⟨rfl, rfl⟩
theorem foldH_next (s : ByteArray) (k : Nat) (h : k < s.size) : foldH (s.data.toList.take (k + 1)) = stepH (foldH (s.data.toList.take k)) s[k] := by
  have hl : k < s.data.toList.length := by rw [← Lib.size_eq]; exact h
  rw [foldH_take hl]
  rfl
theorem rhash_any (s : ByteArray) (hs : s.size ≤ 9223372036854775807) (w : World) : Calls Try.prog 43 #[.string s] w fun e w' => e = .returned (.int .u64 (hashH s.data.toList)) ∧ w = w' := by
  go_enter Try.func43, Try.ntmps43
  go_wp2
  go_loop [3, 4] (fun h i => ∃ k : Nat, ∃ m : Int, i = .int .i64 k ∧ k ≤ s.size ∧ h = .int .u64 m ∧ Hid (m = foldH (s.data.toList.take k))) (fun _ i => s.size - (intOf i).toNat)
  case atStart => exact ⟨0, 14695981039346656037, rfl, Nat.zero_le _, rfl, rfl⟩
  case round =>
    obtain ⟨k, m, rfl, hk, rfl, hm⟩ := hrel
    by_cases hlt : k < s.size
    · have hn := Lib.hid (foldH_next s k hlt)
      go_wp2
      go_round
      case rel => exact ⟨k + 1, _, by go_num, by omega, rfl, by show _ = _; rw [hn.out, ← hm.out]; rfl⟩
      case measure => simp [intOf]; omega
    · have he : Hid (s.data.toList.take k = s.data.toList) := List.take_of_length_le (by rw [← Lib.size_eq]; omega)
      go_wp2
      go_ret
      refine ⟨?_, rfl⟩
      have e := hm.out
      rw [he.out] at e
      unfold hashH
      rw [← e]
      rfl
theorem hash_any (s : ByteArray) (hs : s.size ≤ 9223372036854775807) (w : World) : Calls Try.prog 47 #[.string s] w fun e w' => e = .returned (.int .u64 (hashH s.data.toList)) ∧ w = w' := by
  go_enter Try.func47, Try.ntmps47
  go_wp2
  go_loop [3, 4, 7] (fun h _ i => ∃ k : Nat, ∃ m : Int, i = .int .i64 k ∧ k ≤ s.size ∧ h = .int .u64 m ∧ Hid (m = foldH (s.data.toList.take k))) (fun _ _ i => s.size - (intOf i).toNat)
  case atStart => exact ⟨0, 14695981039346656037, rfl, Nat.zero_le _, rfl, rfl⟩
  case round =>
    obtain ⟨k, m, rfl, hk, rfl, hm⟩ := hrel
    by_cases hlt : k < s.size
    · have hn := Lib.hid (foldH_next s k hlt)
      go_wp2
      go_round
      case rel => exact ⟨k + 1, _, by go_num, by omega, rfl, by show _ = _; rw [hn.out, ← hm.out]; rfl⟩
      case measure => simp [intOf]; omega
    · have he : Hid (s.data.toList.take k = s.data.toList) := List.take_of_length_le (by rw [← Lib.size_eq]; omega)
      go_wp2_with (go_at_call 58; ((with_reducible refine (mix_any _ _).mono ?_); rintro e w' ⟨rfl, rfl⟩))
      go_ret
      refine ⟨?_, rfl⟩
      have e := hm.out
      rw [he.out] at e
      unfold hashH
      rw [← e]
      rfl
def ofH (l : List UInt8) : Nat := placeN (hashH l)
theorem of_spec (l : List UInt8) : Ieee.double.div (cvtN (hashH l / 2048).toNat) bigB = some (ofH l) ∧ ofH l < oneB := place_spec (hash_bd l).1 (hash_bd l).2
theorem run_place (l : List UInt8) (w : World) : (binOp .quo 35 (.float .f64 (floatOfInt .f64 (hashH l / 2048))) (.float .f64 4845873199050653696)).run Try.prog w = .ok (.float .f64 (ofH l)) w := by
  have h := hash_bd l
  have hd := (of_spec l).1
  have e : floatOfInt .f64 (hashH l / 2048) = cvtN (hashH l / 2048).toNat := by
    unfold cvtN
    rw [Int.toNat_of_nonneg (by omega)]
  rw [e]
  exact run_float_arith (P := Try.prog) w .quo 35 .f64 _ _ _ hd
theorem of_any (s : ByteArray) (hs : s.size ≤ 9223372036854775807) (w : World) : Calls Try.prog 33 #[.string s] w fun e w' => e = .returned (.float .f64 (ofH s.data.toList)) ∧ w = w' := by
  have hr := run_place s.data.toList
  go_enter Try.func33, Try.ntmps33
  go_wp2_with (go_at_call 47; ((with_reducible refine (hash_any s hs _).mono ?_); rintro e w' ⟨rfl, rfl⟩))
  go_ret
  exact ⟨rfl, rfl⟩
theorem rof_any (s : ByteArray) (hs : s.size ≤ 9223372036854775807) (w : World) : Calls Try.prog 24 #[.string s] w fun e w' => e = .returned (.float .f64 (ofH s.data.toList)) ∧ w = w' := by
  have hr := run_place s.data.toList
  go_enter Try.func24, Try.ntmps24
  go_wp2_with (go_at_call 43; ((with_reducible refine (rhash_any s hs _).mono ?_); rintro e w' ⟨rfl, rfl⟩))
  go_ret
  exact ⟨rfl, rfl⟩
theorem hash_none : hashH [] = 17280346270528514342 := by decide +kernel
theorem of_k : ofH [107] < 4602678819172646912 := by decide +kernel
theorem of_a : 4602678819172646912 < ofH [97] := by decide +kernel
end Go.Proofs.Ytfcdajkgopcmpaa
