/- The names of segments rise with their numbers. Conditions: none of its own. -/
import Derived.Test.YtkilkhnoldfhcaaGreatDoorLw
namespace Go.Proofs.YtkilkhnoldfhcaaGreatDoor
open Go.RowKit
/-- The k lowest decimal digits of n. -/
def digs : Nat → Nat → List UInt8
  | 0, _ => []
  | k + 1, n => digs k (n / 10) ++ [UInt8.ofNat (48 + n % 10)]
theorem digs_length : ∀ k n, (digs k n).length = k
  | 0, _ => rfl
  | k + 1, n => by simp [digs, digs_length k]
theorem digs_zero : ∀ k, digs k 0 = List.replicate k 48
  | 0 => rfl
  | k + 1 => by
    rw [digs, show 0 / 10 = 0 by rfl, digs_zero k, List.replicate_succ']
    rfl
theorem dec_lt {u : Nat} (h : u < 10) : Lib.decDigits u = [UInt8.ofNat (48 + u)] := by rw [Lib.decDigits, dif_pos h]
theorem dec_ge {u : Nat} (h : ¬ u < 10) : Lib.decDigits u = Lib.decDigits (u / 10) ++ [UInt8.ofNat (48 + u % 10)] := by
  conv => lhs; rw [Lib.decDigits, dif_neg h]
theorem digs_dec : ∀ (k n : Nat), 0 < k → n < 10 ^ k → List.replicate (k - (Lib.decDigits n).length) 48 ++ Lib.decDigits n = digs k n
  | 0, _, h, _ => absurd h (Nat.lt_irrefl 0)
  | k + 1, n, _, hn => by
    by_cases h : n < 10
    · rw [dec_lt h, digs, show n / 10 = 0 by omega, digs_zero, show n % 10 = n by omega]
      simp
    · have hk : 0 < k := by
        cases k with
        | zero => simp at hn; omega
        | succ k => exact Nat.succ_pos k
      have hn2 : n / 10 < 10 ^ k := by rw [Nat.pow_succ] at hn; omega
      have ih := digs_dec k (n / 10) hk hn2
      rw [dec_ge h, digs, ← ih, List.length_append, ← List.append_assoc]
      simp
theorem repeat_one (x : UInt8) : ∀ c, Lib.repeatL [x] c = List.replicate c x
  | 0 => rfl
  | c + 1 => by
    show [x] ++ Lib.repeatL [x] c = _
    rw [repeat_one x c]
    rfl
theorem num8_digs {n : Nat} (h : n ≤ 99999999) : num8 n = digs 8 n := by
  rw [← digs_dec 8 n (by decide) (by omega)]
  unfold num8
  rw [repeat_one]
theorem lt_append_left {a b : List UInt8} (c d : List UInt8) (hl : a.length = b.length) (h : a < b) : a ++ c < b ++ d := by
  induction a generalizing b with
  | nil => cases b with
    | nil => exact absurd h (List.lt_irrefl _)
    | cons y s => cases hl
  | cons x r ih => cases b with
    | nil => cases hl
    | cons y s =>
      rw [List.cons_lt_cons_iff] at h
      rw [List.cons_append, List.cons_append, List.cons_lt_cons_iff]
      rcases h with h | ⟨h1, h2⟩
      · exact .inl h
      · exact .inr ⟨h1, ih (by simpa using hl) h2⟩
theorem lt_append_same (a : List UInt8) {c d : List UInt8} (h : c < d) : a ++ c < a ++ d := by
  induction a with
  | nil => exact h
  | cons x r ih => rw [List.cons_append, List.cons_append, List.cons_lt_cons_iff]; exact .inr ⟨rfl, ih⟩
theorem digs_mono : ∀ (k a b : Nat), a < b → b < 10 ^ k → digs k a < digs k b
  | 0, a, b, h, hb => by simp at hb; omega
  | k + 1, a, b, h, hb => by
    rw [digs, digs]
    by_cases hd : a / 10 < b / 10
    · exact lt_append_left _ _ (by rw [digs_length, digs_length]) (digs_mono k _ _ hd (by rw [Nat.pow_succ] at hb; omega))
    · have he : a / 10 = b / 10 := by omega
      rw [he]
      refine lt_append_same _ ?_
      rw [List.cons_lt_cons_iff]
      left
      rw [UInt8.lt_iff_toNat_lt, UInt8.toNat_ofNat', UInt8.toNat_ofNat']
      omega
theorem segN_mono (dir : Nm) {a b : Nat} (h : a < b) (hb : b ≤ 99999999) : segN dir a < segN dir b := by
  unfold segN
  refine lt_append_same dir ?_
  rw [List.cons_lt_cons_iff]
  refine .inr ⟨rfl, ?_⟩
  rw [num8_digs (by omega), num8_digs hb]
  exact digs_mono 8 a b h (by omega)
theorem segN_lt (dir : Nm) {a b : Nat} (ha : a ≤ 99999999) (_ : b ≤ 99999999) (h : segN dir a < segN dir b) : a < b := by
  rcases Nat.lt_trichotomy a b with h1 | h1 | h1
  · exact h1
  · exact absurd h (h1 ▸ List.lt_irrefl _)
  · exact absurd (List.lt_trans h (segN_mono dir h1 ha)) (List.lt_irrefl _)
theorem segN_inj (dir : Nm) {a b : Nat} (ha : a ≤ 99999999) (hb : b ≤ 99999999) (h : segN dir a = segN dir b) : a = b := by
  rcases Nat.lt_trichotomy a b with h1 | h1 | h1
  · exact absurd (segN_mono dir h1 hb) (h ▸ List.lt_irrefl _)
  · exact h1
  · exact absurd (segN_mono dir h1 ha) (h ▸ List.lt_irrefl _)
end Go.Proofs.YtkilkhnoldfhcaaGreatDoor
