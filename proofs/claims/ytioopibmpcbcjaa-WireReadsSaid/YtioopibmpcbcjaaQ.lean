/- Rows of groups: when a row is the shortest of its number. No program is named. Conditions: none. -/
import Derived.Test.YtioopibmpcbcjaaP
import Derived.Test.YtioopibmpcbcjaaC
namespace Go.Proofs.Ytioopibmpcbcjaa

theorem val_append (a b : List UInt8) : val (a ++ b) = val a + 2 ^ (7 * a.length) * val b := by
  induction a with
  | nil => simp [val]
  | cons x r ih =>
    have e : 2 ^ (7 * (r.length + 1)) = 128 * 2 ^ (7 * r.length) := by rw [Nat.mul_add, Nat.pow_add]; omega
    simp only [List.cons_append, val, ih, List.length_cons]
    rw [e, Nat.mul_add, Nat.mul_assoc]
    omega
theorem take_succ_getD {l : List UInt8} {k : Nat} (h : k < l.length) : l.take (k + 1) = l.take k ++ [l.getD k 0] := by
  rw [List.take_add_one, List.getD_eq_getElem?_getD, List.getElem?_eq_getElem h]; rfl
theorem val_take_succ {l : List UInt8} {k : Nat} (h : k < l.length) : val (l.take (k + 1)) = val (l.take k) + (l.getD k 0).toNat % 128 * 2 ^ (7 * k) := by
  rw [take_succ_getD h, val_append, List.length_take, Nat.min_eq_left (by omega)]
  simp only [val, Nat.mul_zero, Nat.add_zero]
  rw [Nat.mul_comm]
theorem val_lt (l : List UInt8) : val l < 2 ^ (7 * l.length) := by
  induction l with
  | nil => simp [val]
  | cons x r ih =>
    have e : 2 ^ (7 * (r.length + 1)) = 128 * 2 ^ (7 * r.length) := by rw [Nat.mul_add, Nat.pow_add]; omega
    simp only [val, List.length_cons, e]
    omega
theorem val_take_lt (l : List UInt8) (k : Nat) (h : k ≤ l.length) : val (l.take k) < 2 ^ (7 * k) := by
  have := val_lt (l.take k)
  rwa [List.length_take, Nat.min_eq_left h] at this
theorem val_take_le (l : List UInt8) (k : Nat) : val (l.take k) ≤ val l := by
  have h := val_append (l.take k) (l.drop k)
  rw [List.take_append_drop] at h
  omega
/-- The last byte of a row that stands for nought. -/
theorem val_last {l : List UInt8} (h : val l = 0) (hn : l ≠ []) : (l.getD (l.length - 1) 0).toNat % 128 = 0 := by
  induction l with
  | nil => exact absurd rfl hn
  | cons x r ih =>
    simp only [val] at h
    by_cases hr : r = []
    · subst hr; simp [List.getD]; omega
    · have := ih (by omega) hr
      have hl := List.length_pos_iff.2 hr
      rw [List.length_cons, show r.length + 1 - 1 = (r.length - 1) + 1 by omega]
      simpa [List.getD] using this
theorem row_cons {x : UInt8} {r : List UInt8} (h : grp (x :: r) = (x :: r).length) (hr : r ≠ []) : 128 ≤ x.toNat ∧ grp r = r.length := by
  have hl := List.length_pos_iff.2 hr
  simp only [grp, List.length_cons] at h
  split at h
  · omega
  · split at h
    · omega
    · omega
theorem row_last {l : List UInt8} (h : grp l = l.length) (hn : l ≠ []) : (l.getD (l.length - 1) 0).toNat < 128 := by
  induction l with
  | nil => exact absurd rfl hn
  | cons x r ih =>
    by_cases hr : r = []
    · subst hr
      simp only [grp, List.length_cons, List.length_nil] at h
      simp [List.getD]
      split at h
      · omega
      · simp at h
    · have := ih (row_cons h hr).2 hr
      have hl := List.length_pos_iff.2 hr
      rw [List.length_cons, show r.length + 1 - 1 = (r.length - 1) + 1 by omega]
      simpa [List.getD] using this
theorem ofNat_self {x : UInt8} : UInt8.ofNat x.toNat = x := by
  apply UInt8.toNat_inj.1; rw [ofNat_toNat (byte_lt x)]
/-- A row is the shortest of its number just if it is one byte long or its last one is not nought. -/
theorem short_iff {l : List UInt8} (h : grp l = l.length) (hn : l ≠ []) : vb (val l) = l ↔ (l.length = 1 ∨ (l.getD (l.length - 1) 0).toNat ≠ 0) := by
  induction l with
  | nil => exact absurd rfl hn
  | cons x r ih =>
    by_cases hr : r = []
    · subst hr
      have hx : x.toNat < 128 := by simpa [List.getD] using row_last h hn
      simp only [val, Nat.mul_zero, Nat.add_zero, Nat.mod_eq_of_lt hx, List.length_cons, List.length_nil, true_or, iff_true]
      rw [vb_lo hx, ofNat_self]
    · obtain ⟨hx, hg⟩ := row_cons h hr
      have hl := List.length_pos_iff.2 hr
      have hlast : ((x :: r).getD ((x :: r).length - 1) 0) = r.getD (r.length - 1) 0 := by
        rw [List.length_cons, show r.length + 1 - 1 = (r.length - 1) + 1 by omega]; simp [List.getD]
      have hlt := row_last hg hr
      rw [hlast]
      have hxl := byte_lt x
      by_cases hv : val r = 0
      · have h0 := val_last hv hr
        constructor
        · intro e
          have := congrArg List.length e
          simp only [val, hv, Nat.mul_zero, Nat.add_zero] at this
          rw [vb_lo (by omega)] at this
          simp at this
          exact absurd this hr
        · rintro (e | e)
          · simp at e; exact absurd e hr
          · omega
      · have e1 : vb (val (x :: r)) = x :: vb (val r) := by
          have hv' : val (x :: r) = x.toNat % 128 + 128 * val r := rfl
          rw [vb_hi (by omega), hv']
          have a : (x.toNat % 128 + 128 * val r) % 128 + 128 = x.toNat := by omega
          have b : (x.toNat % 128 + 128 * val r) / 128 = val r := by omega
          rw [a, b, ofNat_self]
        rw [e1]
        constructor
        · intro e
          have e2 : vb (val r) = r := by simpa using e
          rcases (ih hg hr).1 e2 with e3 | e3
          · right
            intro e4
            apply hv
            match r, e3 with
            | [y], _ =>
              simp [List.getD] at e4
              simp [val, e4]
          · exact .inr e3
        · rintro (e | e)
          · simp at e; exact absurd e hr
          · rw [(ih hg hr).2 (.inr e)]
/-- A group behind k others, in 64 bits and back. -/
theorem shl_lo {g k : Nat} (hg : g < 128) (h : g * 2 ^ (7 * k) < 18446744073709551616) :
    g * 2 ^ min (7 * k) 64 % 18446744073709551616 = g * 2 ^ (7 * k) ∧ g * 2 ^ (7 * k) / 2 ^ min (7 * k) 64 = g := by
  by_cases hk : 7 * k ≤ 64
  · rw [Nat.min_eq_left hk, Nat.mod_eq_of_lt h]
    exact ⟨rfl, Nat.mul_div_cancel _ (Nat.two_pow_pos _)⟩
  · have h0 : g = 0 := by
      rcases Nat.eq_zero_or_pos g with h0 | h0
      · exact h0
      · have : 2 ^ 64 ≤ 2 ^ (7 * k) := Nat.pow_le_pow_right (by decide) (by omega)
        have h3 : 1 * 2 ^ (7 * k) ≤ g * 2 ^ (7 * k) := Nat.mul_le_mul_right _ h0
        omega
    subst h0
    simp
theorem shl_hi {g k : Nat} (_hg : g < 128) (h : 18446744073709551616 ≤ g * 2 ^ (7 * k)) :
    g * 2 ^ min (7 * k) 64 % 18446744073709551616 / 2 ^ min (7 * k) 64 ≠ g := by
  by_cases hk : 7 * k ≤ 64
  · rw [Nat.min_eq_left hk]
    intro e
    have h1 := Nat.mod_lt (g * 2 ^ (7 * k)) (show 0 < 18446744073709551616 by decide)
    have h2 : (g * 2 ^ (7 * k) % 18446744073709551616) / 2 ^ (7 * k) * 2 ^ (7 * k) ≤ g * 2 ^ (7 * k) % 18446744073709551616 := Nat.div_mul_le_self _ _
    rw [e] at h2
    omega
  · rw [Nat.min_eq_right (by omega)]
    have e : g * 2 ^ 64 % 18446744073709551616 = 0 := Nat.mul_mod_left g _
    rw [e]
    simp
    intro e
    subst e
    simp at h
/-- What the row stands for fits just if each of its groups does. -/
theorem groups_fit {l : List UInt8} (h : ∀ k, k < l.length → (l.getD k 0).toNat % 128 * 2 ^ (7 * k) < 18446744073709551616) : ∀ k, k ≤ l.length → val (l.take k) < 18446744073709551616 := by
  intro k
  induction k with
  | zero => intro _; simp [val]
  | succ k ih =>
    intro hk
    rw [val_take_succ (by omega)]
    have h1 := h k (by omega)
    have h2 := ih (by omega)
    have h3 := val_take_lt l k (by omega)
    by_cases h7 : 7 * k ≤ 63
    · have h4 : 2 ^ (7 * k) * 2 ^ (64 - 7 * k) = 18446744073709551616 := by rw [← Nat.pow_add, show 7 * k + (64 - 7 * k) = 64 by omega]
      have h5 : (l.getD k 0).toNat % 128 < 2 ^ (64 - 7 * k) := by
        rcases Nat.lt_or_ge ((l.getD k 0).toNat % 128) (2 ^ (64 - 7 * k)) with h5 | h5
        · exact h5
        · have := Nat.mul_le_mul_right (2 ^ (7 * k)) h5
          rw [Nat.mul_comm (2 ^ (64 - 7 * k))] at this
          omega
      have h6 : ((l.getD k 0).toNat % 128 + 1) * 2 ^ (7 * k) ≤ 2 ^ (64 - 7 * k) * 2 ^ (7 * k) := Nat.mul_le_mul_right _ h5
      rw [Nat.add_mul, Nat.mul_comm (2 ^ (64 - 7 * k)), h4] at h6
      omega
    · have h0 : (l.getD k 0).toNat % 128 = 0 := by
        rcases Nat.eq_zero_or_pos ((l.getD k 0).toNat % 128) with h0 | h0
        · exact h0
        · have : 2 ^ 64 ≤ 2 ^ (7 * k) := Nat.pow_le_pow_right (by decide) (by omega)
          have h3 : 1 * 2 ^ (7 * k) ≤ (l.getD k 0).toNat % 128 * 2 ^ (7 * k) := Nat.mul_le_mul_right _ h0
          omega
      rw [h0]
      omega
theorem group_le {l : List UInt8} {k : Nat} (hk : k < l.length) (h : val l < 18446744073709551616) : (l.getD k 0).toNat % 128 * 2 ^ (7 * k) < 18446744073709551616 := by
  have h1 := val_take_le l (k + 1)
  rw [val_take_succ hk] at h1
  omega
theorem grp_take {l : List UInt8} (h : grp l ≠ 0) : grp (l.take (grp l)) = grp l := by
  induction l with
  | nil => simp [grp] at h
  | cons x r ih =>
    simp only [grp] at h ⊢
    by_cases hx : x.toNat < 128
    · simp [hx, grp]
    · rw [if_neg hx] at h ⊢
      by_cases hr : grp r = 0
      · simp [hr] at h
      · simp only [hr, if_false, List.take_succ_cons, grp, if_neg hx, ih hr]
theorem grp_drop {l : List UInt8} : ∀ k, k ≤ l.length → (∀ i, i < k → 128 ≤ (l.getD i 0).toNat) → grp l = if grp (l.drop k) = 0 then 0 else grp (l.drop k) + k := by
  induction l with
  | nil => intro k hk _; obtain rfl : k = 0 := by simpa using hk
           simp [grp]
  | cons x r ih =>
    intro k hk h
    match k with
    | 0 => simp
    | k + 1 =>
      have h0 := h 0 (by omega)
      simp [List.getD] at h0
      have := ih k (by simpa using hk) (fun i hi => by have := h (i + 1) (by omega); simpa [List.getD] using this)
      simp only [grp, if_neg (show ¬ x.toNat < 128 by omega), List.drop_succ_cons]
      by_cases h1 : grp (List.drop k r) = 0
      · simp [h1] at this; simp [this, h1]
      · simp only [if_neg h1] at this ⊢
        rw [if_neg (by omega)]; omega
end Go.Proofs.Ytioopibmpcbcjaa
