/- Package wire in memory (C, B, P, Q, M): ported. Conditions: those of each law. -/
import Derived.Test.YtjkfcmadoeifgaaGreatDoorB
import Derived.Test.YtjkfcmadoeifgaaGreatDoorC
import Derived.Test.YtjkfcmadoeifgaaGreatDoorRo
import Derived.Laws.BitsLemmas
import Derived.Laws.Bits64
import Derived.WalkKit
import Derived.WalkLawsBesides
import Derived.Lib.Hide
import Derived.Maps.AppendAt
import Derived.OneCell
import Derived.Laws.BytesArg
namespace Go.Proofs.YtjkfcmadoeifgaaGreatDoor
section
open Go
/- Bytes. -/
theorem wrap8 {n : Nat} (h : n < 256) : IntKind.u8.wrap (n : Int) = n := by
  simp [IntKind.wrap, IntKind.bits, IntKind.signed]; omega
theorem ofInt8 {n : Nat} (h : n < 256) : (BitVec.ofInt 8 (n : Int)).toNat = n := by
  rw [BitVec.ofInt_natCast, BitVec.toNat_ofNat]; exact Nat.mod_eq_of_lt (by omega)
theorem band8 {a b : Nat} (ha : a < 256) (hb : b < 256) : bits .and .u8 (a : Int) (b : Int) = ((a &&& b : Nat) : Int) := by
  show IntKind.u8.wrap ((BitVec.ofInt 8 (a : Int) &&& BitVec.ofInt 8 (b : Int)).toNat : Int) = _
  rw [BitVec.toNat_and, ofInt8 ha, ofInt8 hb]
  exact wrap8 (Nat.lt_of_le_of_lt Nat.and_le_left ha)
theorem bor8 {a b : Nat} (ha : a < 256) (hb : b < 256) : bits .or .u8 (a : Int) (b : Int) = ((a ||| b : Nat) : Int) := by
  show IntKind.u8.wrap ((BitVec.ofInt 8 (a : Int) ||| BitVec.ofInt 8 (b : Int)).toNat : Int) = _
  rw [BitVec.toNat_or, ofInt8 ha, ofInt8 hb]
  exact wrap8 (Nat.or_lt_two_pow (n := 8) ha hb)
/-- The seven bits of a group. -/
theorem band8_127 {a : Nat} (ha : a < 256) : bits .and .u8 (a : Int) 127 = ((a % 128 : Nat) : Int) := by
  have := band8 (b := 127) ha (by decide)
  rw [show 127 = 2 ^ 7 - 1 from rfl, mask_nat] at this
  exact this
theorem and128_lo {a : Nat} (h : a < 128) : a &&& 128 = 0 := by
  have e : a = a &&& (2 ^ 7 - 1) := by rw [mask_nat]; omega
  rw [e, Nat.and_assoc, show (2 ^ 7 - 1) &&& 128 = 0 by decide, Nat.and_zero]
theorem or128 {a : Nat} (h : a < 128) : a ||| 128 = a + 128 := by
  rw [Nat.or_comm, ← Nat.two_pow_add_eq_or_of_lt (i := 7) h 1]; omega
theorem and128_hi {a : Nat} (h : 128 ≤ a) (h2 : a < 256) : a &&& 128 = 128 := by
  have e : a = (a - 128) ||| 128 := by rw [or128 (by omega)]; omega
  rw [e, Nat.and_or_distrib_right, and128_lo (by omega)]; decide
theorem more_no {a : Nat} (h : a < 128) : (bits .and .u8 (a : Int) 128 == 0) = true := by
  have := band8 (a := a) (b := 128) (by omega) (by decide)
  rw [and128_lo h] at this
  rw [show ((128 : Int)) = ((128 : Nat) : Int) from rfl, this]; decide
theorem more_yes {a : Nat} (h : 128 ≤ a) (h2 : a < 256) : (bits .and .u8 (a : Int) 128 == 0) = false := by
  have := band8 (a := a) (b := 128) (by omega) (by decide)
  rw [and128_hi h h2] at this
  rw [show ((128 : Int)) = ((128 : Nat) : Int) from rfl, this]; decide
theorem bor8_128 {a : Nat} (h : a < 128) : bits .or .u8 (a : Int) 128 = ((a + 128 : Nat) : Int) := by
  have := bor8 (a := a) (b := 128) (by omega) (by decide)
  rw [or128 h] at this
  exact this
theorem band_127 {n : Nat} (h : n < 18446744073709551616) : bits .and .u64 (n : Int) 127 = ((n % 128 : Nat) : Int) := by
  have := band (b := 127) h (by decide)
  rw [show 127 = 2 ^ 7 - 1 from rfl, mask_nat] at this
  exact this
theorem band_1 {n : Nat} (h : n < 18446744073709551616) : bits .and .u64 (n : Int) 1 = ((n % 2 : Nat) : Int) := by
  have := band (b := 1) h (by decide)
  rw [show 1 = 2 ^ 1 - 1 from rfl, mask_nat] at this
  exact this
/-- Groups laid side by side. -/
theorem or_add {i u x : Nat} (h : u < 2 ^ i) : u ||| x * 2 ^ i = u + x * 2 ^ i := by
  rw [Nat.or_comm, Nat.mul_comm, ← Nat.two_pow_add_eq_or_of_lt h x, Nat.add_comm]
theorem or_1 {n : Nat} : n * 2 ||| 1 = n * 2 + 1 := by
  rw [Nat.mul_comm, ← Nat.two_pow_add_eq_or_of_lt (i := 1) (show 1 < 2 ^ 1 by decide) n]
end
section
open Go.RowKit
end
section

/-- A number in groups of seven bits, the lowest first. -/
def vb (u : Nat) : List UInt8 := if u < 128 then [UInt8.ofNat u] else UInt8.ofNat (u % 128 + 128) :: vb (u / 128)
termination_by u
decreasing_by omega
/-- What a row of groups stands for. -/
def val : List UInt8 → Nat
  | [] => 0
  | x :: r => x.toNat % 128 + 128 * val r
/-- How many bytes the first number of a row takes; 0: it does not end. -/
def grp : List UInt8 → Nat
  | [] => 0
  | x :: r => if x.toNat < 128 then 1 else if grp r = 0 then 0 else grp r + 1
def foldN (n : Int) : Nat := if n < 0 then (-2 * n - 1).toNat else (2 * n).toNat
def unf (u : Nat) : Int := if u % 2 = 1 then -((u / 2 : Nat) : Int) - 1 else ((u / 2 : Nat) : Int)
theorem vb_lo {u : Nat} (h : u < 128) : vb u = [UInt8.ofNat u] := by rw [vb, if_pos h]
theorem vb_hi {u : Nat} (h : 128 ≤ u) : vb u = UInt8.ofNat (u % 128 + 128) :: vb (u / 128) := by rw [vb, if_neg (by omega)]
theorem ofNat_toNat {n : Nat} (h : n < 256) : (UInt8.ofNat n).toNat = n := by
  rw [UInt8.toNat_ofNat']; omega
theorem byte_lt (x : UInt8) : x.toNat < 256 := x.toNat_lt
theorem vb_ind {p : Nat → Prop} (h0 : ∀ u, u < 128 → p u) (h1 : ∀ u, 128 ≤ u → p (u / 128) → p u) : ∀ u, p u := by
  intro u
  induction u using Nat.strongRecOn with
  | _ u ih =>
    by_cases h : u < 128
    · exact h0 u h
    · exact h1 u (by omega) (ih _ (by omega))
theorem val_vb : ∀ u, val (vb u) = u := by
  refine vb_ind (fun u h => ?_) (fun u h ih => ?_)
  · rw [vb_lo h]; simp only [val, ofNat_toNat (show u < 256 by omega)]; omega
  · rw [vb_hi h]; simp only [val, ih, ofNat_toNat (show u % 128 + 128 < 256 by omega)]; omega
theorem vb_inj {a b : Nat} (h : vb a = vb b) : a = b := by rw [← val_vb a, h, val_vb]
theorem vb_pos (u : Nat) : 0 < (vb u).length := by
  rw [vb]; split <;> simp
theorem grp_vb (r : List UInt8) : ∀ u, grp (vb u ++ r) = (vb u).length := by
  refine vb_ind (fun u h => ?_) (fun u h ih => ?_)
  · rw [vb_lo h]; simp only [List.cons_append, List.nil_append, grp, ofNat_toNat (show u < 256 by omega), if_pos h, List.length_singleton]
  · have := vb_pos (u / 128)
    rw [vb_hi h]; simp only [List.cons_append, grp, ih, ofNat_toNat (show u % 128 + 128 < 256 by omega), List.length_cons]
    rw [if_neg (by omega), if_neg (by omega)]
theorem grp_le : ∀ l, grp l ≤ l.length
  | [] => by simp [grp]
  | x :: r => by
    have := grp_le r
    simp only [grp, List.length_cons]
    split
    · omega
    · split <;> omega
theorem foldN_unf {u : Nat} : foldN (unf u) = u := by
  unfold foldN unf; split <;> split <;> omega
theorem unf_foldN (n : Int) : unf (foldN n) = n := by
  unfold foldN unf; split <;> split <;> omega
theorem foldN_lt {n : Int} (h1 : -9223372036854775808 ≤ n) (h2 : n < 9223372036854775808) : foldN n < 18446744073709551616 := by
  unfold foldN; split <;> omega
theorem unf_range {u : Nat} (h : u < 18446744073709551616) : -9223372036854775808 ≤ unf u ∧ unf u < 9223372036854775808 := by
  unfold unf; split <;> omega
theorem vb_len_le : ∀ u, u < 18446744073709551616 → (vb u).length ≤ 10 := by
  have h : ∀ k u, u < 128 ^ (k + 1) → (vb u).length ≤ k + 1 := by
    intro k
    induction k with
    | zero => intro u hu; rw [vb_lo (by omega)]; simp
    | succ k ih =>
      intro u hu
      by_cases h : u < 128
      · rw [vb_lo h]; simp
      · rw [vb_hi (by omega), List.length_cons]
        have := ih (u / 128) (by rw [Nat.pow_succ] at hu; omega)
        omega
  intro u hu
  exact h 9 u (by omega)
/-- A reader: the bytes, the place, the fault and its place. -/
structure Rst where
  bs : List UInt8
  pl : Nat
  er : Int
  fp : Nat
def stopR (e : Int) (p : Nat) (s : Rst) : Rst := if s.er = 0 then { s with er := e, fp := p } else s
/-- The row of the number at the place. -/
def rowAt (s : Rst) : List UInt8 := (s.bs.drop s.pl).take (grp (s.bs.drop s.pl))
def fits (row : List UInt8) : Prop := vb (val row) = row ∧ val row < 18446744073709551616
instance (row : List UInt8) : Decidable (fits row) := inferInstanceAs (Decidable (_ ∧ _))
/-- The number at the place and its bytes, the place unmoved. -/
def look (s : Rst) : (Int × Nat) × Rst :=
  if s.er ≠ 0 then ((0, 0), s)
  else if grp (s.bs.drop s.pl) = 0 then ((0, 0), stopR 5 s.bs.length s)
  else if fits (rowAt s) then ((unf (val (rowAt s)), grp (s.bs.drop s.pl)), s)
  else ((0, 0), stopR 4 s.pl s)
def number (n : Int) (k : Nat) (s : Rst) : Int × Rst := if s.er ≠ 0 then (0, s) else (n, { s with pl := s.pl + k })
def rInt (s : Rst) : Int × Rst := number (look s).1.1 (look s).1.2 (look s).2
/-- Count, Choice. -/
def rSz (most : Int) (above : Int) (s : Rst) : Int × Rst :=
  if (look s).2.er ≠ 0 then (0, (look s).2)
  else if (look s).1.1 < 0 then (0, stopR 4 s.pl (look s).2)
  else if most < (look s).1.1 then (0, stopR above s.pl (look s).2)
  else ((look s).1.1, { (look s).2 with pl := s.pl + (look s).1.2 })
def rText (most : Int) (s : Rst) : List UInt8 × Rst :=
  if (look s).2.er ≠ 0 then ([], (look s).2)
  else if (look s).1.1 < 0 then ([], stopR 4 s.pl (look s).2)
  else if most < (look s).1.1 then ([], stopR 2 s.pl (look s).2)
  else if (s.bs.length : Int) - (s.pl + (look s).1.2 : Nat) < (look s).1.1 then ([], stopR 5 s.bs.length (look s).2)
  else ((s.bs.drop (s.pl + (look s).1.2)).take (look s).1.1.toNat, { (look s).2 with pl := s.pl + (look s).1.2 + (look s).1.1.toNat })
def rFlag (s : Rst) : Bool × Rst :=
  if s.er ≠ 0 then (false, s)
  else if s.pl = s.bs.length then (false, stopR 5 s.bs.length s)
  else if 1 < (s.bs.getD s.pl 0).toNat then (false, stopR 4 s.pl s)
  else ((s.bs.getD s.pl 0).toNat == 1, { s with pl := s.pl + 1 })
/-- Bytes as a number, the least significant first. -/
def le : List UInt8 → Nat
  | [] => 0
  | x :: r => x.toNat + 256 * le r
def leAt (s : Rst) : Nat := le ((s.bs.drop s.pl).take 8)
def rFloat (s : Rst) : Nat × Rst :=
  if s.er ≠ 0 then (0, s)
  else if s.bs.length < s.pl + 8 then (0, stopR 5 s.bs.length s)
  else if canon (leAt s) ≠ leAt s then (0, stopR 4 s.pl s)
  else (leAt s, { s with pl := s.pl + 8 })
def leftR (s : Rst) : Nat := if s.er ≠ 0 then 0 else s.bs.length - s.pl
/-- End: the fault, or what is left. -/
def endR (s : Rst) : Int × Nat := if s.er ≠ 0 then (s.er, s.fp) else if s.pl < s.bs.length then (6, s.pl) else (0, 0)
/-- Eight bytes of a word. -/
def w8 : Nat → Nat → List UInt8
  | 0, _ => []
  | k + 1, u => UInt8.ofNat (u % 256) :: w8 k (u / 256)
end
section

theorem val_append (a b : List UInt8) : val (a ++ b) = val a + 2 ^ (7 * a.length) * val b := by
  induction a with
  | nil => simp [val]
  | cons x r ih =>
    have e : 2 ^ (7 * (r.length + 1)) = 128 * 2 ^ (7 * r.length) := by rw [Nat.mul_add, Nat.pow_add]; omega
    simp only [List.cons_append, val, ih, List.length_cons]
    rw [e, Nat.mul_add, Nat.mul_assoc]
    omega
theorem take_succ_getD {l : List UInt8} {k : Nat} (h : k < l.length) : l.take (k + 1) = l.take k ++ [l.getD k 0] := by
  rw [List.take_add_one, List.getD_eq_getElem?_getD, List.getElem?_eq_getElem h]; rfl
theorem val_take_succ {l : List UInt8} {k : Nat} (h : k < l.length) : val (l.take (k + 1)) = val (l.take k) + (l.getD k 0).toNat % 128 * 2 ^ (7 * k) := by
  rw [take_succ_getD h, val_append, List.length_take, Nat.min_eq_left (by omega)]
  simp only [val, Nat.mul_zero, Nat.add_zero]
  rw [Nat.mul_comm]
theorem wval_lt (l : List UInt8) : val l < 2 ^ (7 * l.length) := by
  induction l with
  | nil => simp [val]
  | cons x r ih =>
    have e : 2 ^ (7 * (r.length + 1)) = 128 * 2 ^ (7 * r.length) := by rw [Nat.mul_add, Nat.pow_add]; omega
    simp only [val, List.length_cons, e]
    omega
theorem val_take_lt (l : List UInt8) (k : Nat) (h : k ≤ l.length) : val (l.take k) < 2 ^ (7 * k) := by
  have := wval_lt (l.take k)
  rwa [List.length_take, Nat.min_eq_left h] at this
theorem val_take_le (l : List UInt8) (k : Nat) : val (l.take k) ≤ val l := by
  have h := val_append (l.take k) (l.drop k)
  rw [List.take_append_drop] at h
  omega
/-- The last byte of a row that stands for nought. -/
theorem val_last {l : List UInt8} (h : val l = 0) (hn : l ≠ []) : (l.getD (l.length - 1) 0).toNat % 128 = 0 := by
  induction l with
  | nil => exact absurd rfl hn
  | cons x r ih =>
    simp only [val] at h
    by_cases hr : r = []
    · subst hr; simp [List.getD]; omega
    · have := ih (by omega) hr
      have hl := List.length_pos_iff.2 hr
      rw [List.length_cons, show r.length + 1 - 1 = (r.length - 1) + 1 by omega]
      simpa [List.getD] using this
theorem row_cons {x : UInt8} {r : List UInt8} (h : grp (x :: r) = (x :: r).length) (hr : r ≠ []) : 128 ≤ x.toNat ∧ grp r = r.length := by
  have hl := List.length_pos_iff.2 hr
  simp only [grp, List.length_cons] at h
  split at h
  · omega
  · split at h
    · omega
    · omega
theorem row_last {l : List UInt8} (h : grp l = l.length) (hn : l ≠ []) : (l.getD (l.length - 1) 0).toNat < 128 := by
  induction l with
  | nil => exact absurd rfl hn
  | cons x r ih =>
    by_cases hr : r = []
    · subst hr
      simp only [grp, List.length_cons, List.length_nil] at h
      simp [List.getD]
      split at h
      · omega
      · simp at h
    · have := ih (row_cons h hr).2 hr
      have hl := List.length_pos_iff.2 hr
      rw [List.length_cons, show r.length + 1 - 1 = (r.length - 1) + 1 by omega]
      simpa [List.getD] using this
theorem ofNat_self {x : UInt8} : UInt8.ofNat x.toNat = x := by
  apply UInt8.toNat_inj.1; rw [ofNat_toNat (byte_lt x)]
/-- A row is the shortest of its number just if it is one byte long or its last one is not nought. -/
theorem short_iff {l : List UInt8} (h : grp l = l.length) (hn : l ≠ []) : vb (val l) = l ↔ (l.length = 1 ∨ (l.getD (l.length - 1) 0).toNat ≠ 0) := by
  induction l with
  | nil => exact absurd rfl hn
  | cons x r ih =>
    by_cases hr : r = []
    · subst hr
      have hx : x.toNat < 128 := by simpa [List.getD] using row_last h hn
      simp only [val, Nat.mul_zero, Nat.add_zero, Nat.mod_eq_of_lt hx, List.length_cons, List.length_nil, true_or, iff_true]
      rw [vb_lo hx, ofNat_self]
    · obtain ⟨hx, hg⟩ := row_cons h hr
      have hl := List.length_pos_iff.2 hr
      have hlast : ((x :: r).getD ((x :: r).length - 1) 0) = r.getD (r.length - 1) 0 := by
        rw [List.length_cons, show r.length + 1 - 1 = (r.length - 1) + 1 by omega]; simp [List.getD]
      have hlt := row_last hg hr
      rw [hlast]
      have hxl := byte_lt x
      by_cases hv : val r = 0
      · have h0 := val_last hv hr
        constructor
        · intro e
          have := congrArg List.length e
          simp only [val, hv, Nat.mul_zero, Nat.add_zero] at this
          rw [vb_lo (by omega)] at this
          simp at this
          exact absurd this hr
        · rintro (e | e)
          · simp at e; exact absurd e hr
          · omega
      · have e1 : vb (val (x :: r)) = x :: vb (val r) := by
          have hv' : val (x :: r) = x.toNat % 128 + 128 * val r := rfl
          rw [vb_hi (by omega), hv']
          have a : (x.toNat % 128 + 128 * val r) % 128 + 128 = x.toNat := by omega
          have b : (x.toNat % 128 + 128 * val r) / 128 = val r := by omega
          rw [a, b, ofNat_self]
        rw [e1]
        constructor
        · intro e
          have e2 : vb (val r) = r := by simpa using e
          rcases (ih hg hr).1 e2 with e3 | e3
          · right
            intro e4
            apply hv
            match r, e3 with
            | [y], _ =>
              simp [List.getD] at e4
              simp [val, e4]
          · exact .inr e3
        · rintro (e | e)
          · simp at e; exact absurd e hr
          · rw [(ih hg hr).2 (.inr e)]
/-- A group behind k others, in 64 bits and back. -/
theorem shl_lo {g k : Nat} (hg : g < 128) (h : g * 2 ^ (7 * k) < 18446744073709551616) :
    g * 2 ^ min (7 * k) 64 % 18446744073709551616 = g * 2 ^ (7 * k) ∧ g * 2 ^ (7 * k) / 2 ^ min (7 * k) 64 = g := by
  by_cases hk : 7 * k ≤ 64
  · rw [Nat.min_eq_left hk, Nat.mod_eq_of_lt h]
    exact ⟨rfl, Nat.mul_div_cancel _ (Nat.two_pow_pos _)⟩
  · have h0 : g = 0 := by
      rcases Nat.eq_zero_or_pos g with h0 | h0
      · exact h0
      · have : 2 ^ 64 ≤ 2 ^ (7 * k) := Nat.pow_le_pow_right (by decide) (by omega)
        have h3 : 1 * 2 ^ (7 * k) ≤ g * 2 ^ (7 * k) := Nat.mul_le_mul_right _ h0
        omega
    subst h0
    simp
theorem shl_hi {g k : Nat} (_hg : g < 128) (h : 18446744073709551616 ≤ g * 2 ^ (7 * k)) :
    g * 2 ^ min (7 * k) 64 % 18446744073709551616 / 2 ^ min (7 * k) 64 ≠ g := by
  by_cases hk : 7 * k ≤ 64
  · rw [Nat.min_eq_left hk]
    intro e
    have h1 := Nat.mod_lt (g * 2 ^ (7 * k)) (show 0 < 18446744073709551616 by decide)
    have h2 : (g * 2 ^ (7 * k) % 18446744073709551616) / 2 ^ (7 * k) * 2 ^ (7 * k) ≤ g * 2 ^ (7 * k) % 18446744073709551616 := Nat.div_mul_le_self _ _
    rw [e] at h2
    omega
  · rw [Nat.min_eq_right (by omega)]
    have e : g * 2 ^ 64 % 18446744073709551616 = 0 := Nat.mul_mod_left g _
    rw [e]
    simp
    intro e
    subst e
    simp at h
/-- What the row stands for fits just if each of its groups does. -/
theorem groups_fit {l : List UInt8} (h : ∀ k, k < l.length → (l.getD k 0).toNat % 128 * 2 ^ (7 * k) < 18446744073709551616) : ∀ k, k ≤ l.length → val (l.take k) < 18446744073709551616 := by
  intro k
  induction k with
  | zero => intro _; simp [val]
  | succ k ih =>
    intro hk
    rw [val_take_succ (by omega)]
    have h1 := h k (by omega)
    have h2 := ih (by omega)
    have h3 := val_take_lt l k (by omega)
    by_cases h7 : 7 * k ≤ 63
    · have h4 : 2 ^ (7 * k) * 2 ^ (64 - 7 * k) = 18446744073709551616 := by rw [← Nat.pow_add, show 7 * k + (64 - 7 * k) = 64 by omega]
      have h5 : (l.getD k 0).toNat % 128 < 2 ^ (64 - 7 * k) := by
        rcases Nat.lt_or_ge ((l.getD k 0).toNat % 128) (2 ^ (64 - 7 * k)) with h5 | h5
        · exact h5
        · have := Nat.mul_le_mul_right (2 ^ (7 * k)) h5
          rw [Nat.mul_comm (2 ^ (64 - 7 * k))] at this
          omega
      have h6 : ((l.getD k 0).toNat % 128 + 1) * 2 ^ (7 * k) ≤ 2 ^ (64 - 7 * k) * 2 ^ (7 * k) := Nat.mul_le_mul_right _ h5
      rw [Nat.add_mul, Nat.mul_comm (2 ^ (64 - 7 * k)), h4] at h6
      omega
    · have h0 : (l.getD k 0).toNat % 128 = 0 := by
        rcases Nat.eq_zero_or_pos ((l.getD k 0).toNat % 128) with h0 | h0
        · exact h0
        · have : 2 ^ 64 ≤ 2 ^ (7 * k) := Nat.pow_le_pow_right (by decide) (by omega)
          have h3 : 1 * 2 ^ (7 * k) ≤ (l.getD k 0).toNat % 128 * 2 ^ (7 * k) := Nat.mul_le_mul_right _ h0
          omega
      rw [h0]
      omega
theorem group_le {l : List UInt8} {k : Nat} (hk : k < l.length) (h : val l < 18446744073709551616) : (l.getD k 0).toNat % 128 * 2 ^ (7 * k) < 18446744073709551616 := by
  have h1 := val_take_le l (k + 1)
  rw [val_take_succ hk] at h1
  omega
theorem grp_take {l : List UInt8} (h : grp l ≠ 0) : grp (l.take (grp l)) = grp l := by
  induction l with
  | nil => simp [grp] at h
  | cons x r ih =>
    simp only [grp] at h ⊢
    by_cases hx : x.toNat < 128
    · simp [hx, grp]
    · rw [if_neg hx] at h ⊢
      by_cases hr : grp r = 0
      · simp [hr] at h
      · simp only [hr, if_false, List.take_succ_cons, grp, if_neg hx, ih hr]
theorem grp_drop {l : List UInt8} : ∀ k, k ≤ l.length → (∀ i, i < k → 128 ≤ (l.getD i 0).toNat) → grp l = if grp (l.drop k) = 0 then 0 else grp (l.drop k) + k := by
  induction l with
  | nil => intro k hk _; obtain rfl : k = 0 := by simpa using hk
           simp [grp]
  | cons x r ih =>
    intro k hk h
    match k with
    | 0 => simp
    | k + 1 =>
      have h0 := h 0 (by omega)
      simp [List.getD] at h0
      have := ih k (by simpa using hk) (fun i hi => by have := h (i + 1) (by omega); simpa [List.getD] using this)
      simp only [grp, if_neg (show ¬ x.toNat < 128 by omega), List.drop_succ_cons]
      by_cases h1 : grp (List.drop k r) = 0
      · simp [h1] at this; simp [this, h1]
      · simp only [if_neg h1] at this ⊢
        rw [if_neg (by omega)]; omega
end
section
open Go.RowKit
/-- Of what was there nothing has turned but the blocks of S. -/
structure Fr (S : Nat → Prop) (w w' : World) : Prop where
  os : w'.os = w.os
  tape : w'.tape = w.tape
  output : w'.output = w.output
  size : w.heap.size ≤ w'.heap.size
  block : ∀ k, k < w.heap.size → ¬ S k → w'.heap[k]? = w.heap[k]?
section
variable {S T : Nat → Prop} {a b c w w' : World} {B : Nat}
theorem Fr.refl (S : Nat → Prop) (w : World) : Fr S w w := ⟨rfl, rfl, rfl, Nat.le_refl _, fun _ _ _ => rfl⟩
/-- Two steps; what the second one lets go lies in S or is new. -/
theorem Fr.trans (h : Fr S a b) (k : Fr T b c) (hT : ∀ i, i < a.heap.size → T i → S i) : Fr S a c :=
  ⟨k.os.trans h.os, k.tape.trans h.tape, k.output.trans h.output, Nat.le_trans h.size k.size, fun i hi hn =>
    (k.block i (Nat.lt_of_lt_of_le hi h.size) (fun hh => hn (hT i hi hh))).trans (h.block i hi hn)⟩
theorem Fr.mono (h : Fr S a b) (hT : ∀ i, i < a.heap.size → S i → T i) : Fr T a b :=
  ⟨h.os, h.tape, h.output, h.size, fun i hi hn => h.block i hi (fun hh => hn (hT i hi hh))⟩
theorem Fr.below (h : Fr S a b) (hS : ∀ i, S i → B ≤ i) (hB : B ≤ a.heap.size) : Below B a b :=
  ⟨h.os, h.tape, h.output, h.size, fun i hi => h.block i (by omega) (fun hh => by have := hS i hh; omega)⟩
theorem Fr.of_below (h : Below B a b) (hS : ∀ i, i < a.heap.size → B ≤ i → S i) : Fr S a b :=
  ⟨h.os, h.tape, h.output, h.size, fun i hi hn => h.block i (by
    rcases Nat.lt_or_ge i B with h1 | h1
    · exact h1
    · exact absurd (hS i hi h1) hn)⟩
theorem Fr.drew (h : Fr S a b) : Fr S a b.drew := ⟨h.os, h.tape, h.output, h.size, h.block⟩
theorem Fr.drewN (h : Fr S a b) (n : Nat) : Fr S a (b.drewN n) := by
  refine ⟨?_, ?_, ?_, ?_, ?_⟩ <;> simp [World.drewN] <;> first | exact h.os | exact h.tape | exact h.output | exact h.size | exact h.block
theorem Fr.alloc (h : Fr S a b) (o : Obj) : Fr S a (b.alloc o) :=
  h.trans (T := fun _ => False) ⟨rfl, rfl, rfl, by simp, fun k hk _ => Below.heap_alloc _ _ _ hk⟩ (fun _ _ hh => hh.elim)
theorem Fr.setCell (h : Fr S a b) {p : Nat} {o : Nat} (hp : p < a.heap.size → S p) (u : Value) : Fr S a (b.setCell ⟨p, o, none⟩ u) :=
  h.trans (T := fun k => k = p) ⟨rfl, rfl, rfl, by simp [World.setCell], fun k _ hk => Below.heap_setCell _ _ _ _ hk⟩ (fun _ hi hh => by subst hh; exact hp hi)
theorem Fr.grown (h : Fr S a b) {row : Option Nat} (hg : b.grownBy c row) (hr : ∀ k, k < a.heap.size → row = some k → S k) : Fr S a c :=
  h.trans (T := fun k => row = some k) ⟨hg.os, hg.tape, hg.output, hg.size, fun k hk hn => hg.block k hk (fun e => hn e.symm)⟩ hr
theorem Fr.heap (h : Fr S a b) {k : Nat} {o : Obj} (hk : a.heap[k]? = some o) (hn : ¬ S k) : b.heap[k]? = some o := (h.block k (lt_of_block hk) hn).trans hk
theorem Fr.own (h : Fr S a b) {base : Nat} {e : TypeId} {size : Nat} {v : Value} {n : Nat} {xs : List Value} (ho : a.ownsRow base e size v n xs) (hn : ∀ k, v.ownBlock = some k → ¬ S k) : b.ownsRow base e size v n xs := by
  refine ⟨ho.1, ?_⟩
  rcases ho.2 with h2 | ⟨g, cap, cur, rfl, hb, hg, r⟩
  · exact .inl h2
  · exact .inr ⟨g, cap, cur, rfl, hb, h.heap hg (hn g rfl), r⟩
end
theorem heap_setCell_self {w : World} {p o : Nat} {cs : Array Value} {t : TypeId} {fz : Nat × Nat} (h : w.heap[p]? = some (.cells cs t fz)) (u : Value) :
    (w.setCell ⟨p, o, none⟩ u).heap[p]? = some (.cells (cs.setIfInBounds o u) t fz) := by
  have hlt := lt_of_block h
  have h' : w.heap[p] = .cells cs t fz := by simpa [Array.getElem?_eq_getElem hlt] using h
  show (w.heap.modify p _)[p]? = _
  rw [Array.getElem?_eq_getElem (by simpa using hlt), Array.getElem_modify_self, h']
  rfl
theorem cell_in {w : World} {p o : Nat} {cs : Array Value} {t : TypeId} {fz : Nat × Nat} {u : Value} (h : w.heap[p]? = some (.cells cs t fz)) (hu : cs[o]? = some u) : w.cell? ⟨p, o, none⟩ = some u := by
  simp [World.cell?, h, hu]
theorem free_in {w : World} {p : Nat} {cs : Array Value} {t : TypeId} (h : w.heap[p]? = some (.cells cs t (0, 0))) (o : Nat) : w.frozen? ⟨p, o, none⟩ = false := by
  simp [World.frozen?, h]
/-- A slice of bytes, in a block of K. -/
def HasB (K : Nat → Prop) (w : World) (v : Value) (l : List UInt8) : Prop :=
  ∃ ao cap, v = .slice ao l.length cap ∧ l.length ≤ cap ∧ cap ≤ maxLen ∧ (ao = none → l = [] ∧ cap = 0) ∧
    (l = [] ∨ ∃ b off, ao = some ⟨b, off, none⟩ ∧ K b ∧ b < w.heap.size ∧ ∀ i, i < l.length → w.cell? ⟨b, off + i, none⟩ = some (.int .u8 ((l.getD i 0).toNat : Int)))
theorem HasB.fr {S K : Nat → Prop} {w w' : World} {v : Value} {l : List UInt8} (h : HasB K w v l) (hb : Fr S w w') (hC : ∀ k, K k → ¬ S k) : HasB K w' v l := by
  obtain ⟨ao, cap, h1, h2, h3, h4, h5⟩ := h
  refine ⟨ao, cap, h1, h2, h3, h4, ?_⟩
  rcases h5 with h5 | ⟨b, off, rfl, hB, hlt, hc⟩
  · exact .inl h5
  · exact .inr ⟨b, off, rfl, hB, Nat.lt_of_lt_of_le hlt hb.size, fun i hi => (World.cell?_of_block (a := ⟨b, off + i, none⟩) (hb.block b hlt (hC b hB))).trans (hc i hi)⟩
theorem HasB.mono {K L : Nat → Prop} {w : World} {v : Value} {l : List UInt8} (h : HasB K w v l) (hC : ∀ k, K k → L k) : HasB L w v l := by
  obtain ⟨ao, cap, h1, h2, h3, h4, h5⟩ := h
  exact ⟨ao, cap, h1, h2, h3, h4, h5.imp id fun ⟨b, off, e, hB, r⟩ => ⟨b, off, e, hC b hB, r⟩⟩
theorem fr_set1 {p : Nat} (w : World) (o : Nat) (u : Value) : Fr (fun k => k = p) w (w.setCell ⟨p, o, none⟩ u) := Fr.setCell (S := fun k => k = p) (p := p) (Fr.refl (fun k => k = p) w) (fun _ => rfl) u
theorem fr_set2 {p : Nat} (w : World) (o o' : Nat) (u u' : Value) : Fr (fun k => k = p) w ((w.setCell ⟨p, o, none⟩ u).setCell ⟨p, o', none⟩ u') := Fr.setCell (S := fun k => k = p) (p := p) (fr_set1 w o u) (fun _ => rfl) u'
/-- Nil, or at a plain address. -/
def Plain (v : Value) : Prop := v = .slice none 0 0 ∨ ∃ b off n c, v = .slice (some ⟨b, off, none⟩) n c
/-- A reader of package wire  or of the document's : the bytes lie in a block of K. -/
structure Rd (t : TypeId) (K : Nat → Prop) (w : World) (p : Nat) (v : Value) (s : Rst) : Prop where
  cell : w.heap[p]? = some (.cells #[v, .int .i64 (s.pl : Int), .int .i64 s.er, .int .i64 (s.fp : Int)] t (0, 0))
  has : HasB K w v s.bs
  lo : ∀ k, K k → k ≠ p
  le : s.pl ≤ s.bs.length
  room : s.bs.length ≤ 140737488355328
  pla : t = 69 → Plain v
section
variable {t : TypeId} {K : Nat → Prop} {w w' : World} {p : Nat} {v : Value} {s : Rst}
theorem Rd.lt (h : Rd t K w p v s) : p < w.heap.size := lt_of_block h.cell
theorem Rd.c0 (h : Rd t K w p v s) : w.cell? ⟨p, 0, none⟩ = some v := cell_in h.cell rfl
theorem Rd.c1 (h : Rd t K w p v s) : w.cell? ⟨p, 1, none⟩ = some (.int .i64 (s.pl : Int)) := cell_in h.cell rfl
theorem Rd.c2 (h : Rd t K w p v s) : w.cell? ⟨p, 2, none⟩ = some (.int .i64 s.er) := cell_in h.cell rfl
theorem Rd.c3 (h : Rd t K w p v s) : w.cell? ⟨p, 3, none⟩ = some (.int .i64 (s.fp : Int)) := cell_in h.cell rfl
theorem Rd.free (h : Rd t K w p v s) (o : Nat) : w.frozen? ⟨p, o, none⟩ = false := free_in h.cell o
/-- What another call does leaves a reader alone. -/
theorem Rd.fr {S : Nat → Prop} (h : Rd t K w p v s) (hf : Fr S w w') (hp : ¬ S p) (hB : ∀ k, K k → ¬ S k) : Rd t K w' p v s :=
  ⟨hf.heap h.cell hp, h.has.fr hf hB, h.lo, h.le, h.room, h.pla⟩
/-- The place stored. -/
theorem Rd.set1 (h : Rd t K w p v s) (q : Nat) (hq : q ≤ s.bs.length) : Rd t K (w.setCell ⟨p, 1, none⟩ (.int .i64 (q : Int))) p v { s with pl := q } :=
  ⟨heap_setCell_self h.cell _, h.has.fr (fr_set1 w 1 _) (fun k hk e => h.lo k hk e), h.lo, hq, h.room, h.pla⟩
/-- The fault stored. -/
theorem Rd.set23 (h : Rd t K w p v s) (e : Int) (q : Nat) : Rd t K ((w.setCell ⟨p, 2, none⟩ (.int .i64 e)).setCell ⟨p, 3, none⟩ (.int .i64 (q : Int))) p v { s with er := e, fp := q } :=
  ⟨heap_setCell_self (heap_setCell_self h.cell _) _, h.has.fr (fr_set2 w 2 3 _ _) (fun k hk e => h.lo k hk e), h.lo, h.le, h.room, h.pla⟩
theorem Rd.drewN (h : Rd t K w p v s) (n : Nat) : Rd t K (w.drewN n) p v s := h.fr (S := fun _ => False) ((Fr.refl _ w).drewN n) id (fun _ _ => id)
theorem Rd.drew (h : Rd t K w p v s) : Rd t K w.drew p v s := ⟨h.cell, h.has, h.lo, h.le, h.room, h.pla⟩
end
theorem Fr.same {p : Nat} {a b c : World} (h : Fr (fun k => k = p) a b) (k : Fr (fun k => k = p) b c) : Fr (fun k => k = p) a c := h.trans k (fun _ _ h => h)
/-- A Writer: its block, and the slice of what it has written. -/
structure Wr (w : World) (p : Nat) (v : Value) (l : List UInt8) : Prop where
  cell : w.heap[p]? = some (.cells #[v] 66 (0, 0))
  own : w.ownsRow 0 5 1 v l.length (bys l)
section
variable {w w' : World} {p : Nat} {v : Value} {l : List UInt8}
theorem Wr.lt (h : Wr w p v l) : p < w.heap.size := lt_of_block h.cell
theorem Wr.apart (h : Wr w p v l) : v.ownBlock ≠ some p := by
  intro e
  rcases h.own.2 with ⟨rfl, _⟩ | ⟨g, cap, cur, rfl, _, hg, _⟩
  · simp [Value.ownBlock] at e
  · simp [Value.ownBlock] at e
    subst e
    have := h.cell.symm.trans hg
    simp at this
theorem Wr.fr {S : Nat → Prop} (h : Wr w p v l) (hf : Fr S w w') (hp : ¬ S p) (hv : ∀ k, v.ownBlock = some k → ¬ S k) : Wr w' p v l :=
  ⟨hf.heap h.cell hp, hf.own h.own hv⟩
end
/-- What a call on a Writer touches: its two blocks. -/
def foot (p : Nat) (v : Value) (k : Nat) : Prop := k = p ∨ v.ownBlock = some k
/-- The new slice lies where the old one lay, or is new. -/
def Moved (w : World) (v v' : Value) : Prop := v'.ownBlock = v.ownBlock ∨ ∀ k, v'.ownBlock = some k → w.heap.size ≤ k
theorem Moved.trans {a b : World} {u v x : Value} (h : Moved a u v) (k : Moved b v x) (hs : a.heap.size ≤ b.heap.size) : Moved a u x := by
  rcases k with k | k
  · rcases h with h | h
    · exact .inl (k.trans h)
    · exact .inr fun i hi => h i (by rw [← k]; exact hi)
  · exact .inr fun i hi => by have := k i hi; omega
/-- Two calls on one Writer. -/
theorem Fr.again {a b c : World} {p : Nat} {u v : Value} (h : Fr (foot p u) a b) (k : Fr (foot p v) b c) (hm : Moved a u v) : Fr (foot p u) a c :=
  h.trans k fun i hi hf => by
    rcases hf with hf | hf
    · exact .inl hf
    · rcases hm with hm | hm
      · exact .inr (by rw [← hm]; exact hf)
      · have := hm i hf; omega
end
end Go.Proofs.YtjkfcmadoeifgaaGreatDoor
