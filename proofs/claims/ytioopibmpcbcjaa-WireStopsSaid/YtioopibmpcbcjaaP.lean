/- The bytes of chapter 2 in plain arithmetic: numbers in groups of seven bits, and what a reader makes of a row of bytes. No program is named. Conditions: none. -/
import Derived.Test.YtioopibmpcbcjaaA
namespace Go.Proofs.Ytioopibmpcbcjaa

/-- A number in groups of seven bits, the lowest first. -/
def vb (u : Nat) : List UInt8 := if u < 128 then [UInt8.ofNat u] else UInt8.ofNat (u % 128 + 128) :: vb (u / 128)
termination_by u
decreasing_by omega
/-- What a row of groups stands for. -/
def val : List UInt8 → Nat
  | [] => 0
  | x :: r => x.toNat % 128 + 128 * val r
/-- How many bytes the first number of a row takes; 0: it does not end. -/
def grp : List UInt8 → Nat
  | [] => 0
  | x :: r => if x.toNat < 128 then 1 else if grp r = 0 then 0 else grp r + 1
def foldN (n : Int) : Nat := if n < 0 then (-2 * n - 1).toNat else (2 * n).toNat
def unf (u : Nat) : Int := if u % 2 = 1 then -((u / 2 : Nat) : Int) - 1 else ((u / 2 : Nat) : Int)

theorem vb_lo {u : Nat} (h : u < 128) : vb u = [UInt8.ofNat u] := by rw [vb, if_pos h]
theorem vb_hi {u : Nat} (h : 128 ≤ u) : vb u = UInt8.ofNat (u % 128 + 128) :: vb (u / 128) := by rw [vb, if_neg (by omega)]
theorem ofNat_toNat {n : Nat} (h : n < 256) : (UInt8.ofNat n).toNat = n := by
  rw [UInt8.toNat_ofNat']; omega
theorem byte_lt (x : UInt8) : x.toNat < 256 := x.toNat_lt
theorem vb_ind {p : Nat → Prop} (h0 : ∀ u, u < 128 → p u) (h1 : ∀ u, 128 ≤ u → p (u / 128) → p u) : ∀ u, p u := by
  intro u
  induction u using Nat.strongRecOn with
  | _ u ih =>
    by_cases h : u < 128
    · exact h0 u h
    · exact h1 u (by omega) (ih _ (by omega))
theorem val_vb : ∀ u, val (vb u) = u := by
  refine vb_ind (fun u h => ?_) (fun u h ih => ?_)
  · rw [vb_lo h]; simp only [val, ofNat_toNat (show u < 256 by omega)]; omega
  · rw [vb_hi h]; simp only [val, ih, ofNat_toNat (show u % 128 + 128 < 256 by omega)]; omega
theorem vb_inj {a b : Nat} (h : vb a = vb b) : a = b := by rw [← val_vb a, h, val_vb]
theorem vb_pos (u : Nat) : 0 < (vb u).length := by
  rw [vb]; split <;> simp
theorem grp_vb (r : List UInt8) : ∀ u, grp (vb u ++ r) = (vb u).length := by
  refine vb_ind (fun u h => ?_) (fun u h ih => ?_)
  · rw [vb_lo h]; simp only [List.cons_append, List.nil_append, grp, ofNat_toNat (show u < 256 by omega), if_pos h, List.length_singleton]
  · have := vb_pos (u / 128)
    rw [vb_hi h]; simp only [List.cons_append, grp, ih, ofNat_toNat (show u % 128 + 128 < 256 by omega), List.length_cons]
    rw [if_neg (by omega), if_neg (by omega)]
theorem grp_le : ∀ l, grp l ≤ l.length
  | [] => by simp [grp]
  | x :: r => by
    have := grp_le r
    simp only [grp, List.length_cons]
    split
    · omega
    · split <;> omega
theorem foldN_unf {u : Nat} : foldN (unf u) = u := by
  unfold foldN unf; split <;> split <;> omega
theorem unf_foldN (n : Int) : unf (foldN n) = n := by
  unfold foldN unf; split <;> split <;> omega
theorem foldN_lt {n : Int} (h1 : -9223372036854775808 ≤ n) (h2 : n < 9223372036854775808) : foldN n < 18446744073709551616 := by
  unfold foldN; split <;> omega
theorem unf_range {u : Nat} (h : u < 18446744073709551616) : -9223372036854775808 ≤ unf u ∧ unf u < 9223372036854775808 := by
  unfold unf; split <;> omega
theorem vb_len_le : ∀ u, u < 18446744073709551616 → (vb u).length ≤ 10 := by
  have h : ∀ k u, u < 128 ^ (k + 1) → (vb u).length ≤ k + 1 := by
    intro k
    induction k with
    | zero => intro u hu; rw [vb_lo (by omega)]; simp
    | succ k ih =>
      intro u hu
      by_cases h : u < 128
      · rw [vb_lo h]; simp
      · rw [vb_hi (by omega), List.length_cons]
        have := ih (u / 128) (by rw [Nat.pow_succ] at hu; omega)
        omega
  intro u hu
  exact h 9 u (by omega)

/-- A reader: the bytes, the place, the fault and its place. -/
structure Rst where
  bs : List UInt8
  pl : Nat
  er : Int
  fp : Nat
def stopR (e : Int) (p : Nat) (s : Rst) : Rst := if s.er = 0 then { s with er := e, fp := p } else s
/-- The row of the number at the place. -/
def rowAt (s : Rst) : List UInt8 := (s.bs.drop s.pl).take (grp (s.bs.drop s.pl))
def fits (row : List UInt8) : Prop := vb (val row) = row ∧ val row < 18446744073709551616
instance (row : List UInt8) : Decidable (fits row) := inferInstanceAs (Decidable (_ ∧ _))
/-- The number at the place and its bytes, the place unmoved. -/
def look (s : Rst) : (Int × Nat) × Rst :=
  if s.er ≠ 0 then ((0, 0), s)
  else if grp (s.bs.drop s.pl) = 0 then ((0, 0), stopR 5 s.bs.length s)
  else if fits (rowAt s) then ((unf (val (rowAt s)), grp (s.bs.drop s.pl)), s)
  else ((0, 0), stopR 4 s.pl s)
def number (n : Int) (k : Nat) (s : Rst) : Int × Rst := if s.er ≠ 0 then (0, s) else (n, { s with pl := s.pl + k })
def rInt (s : Rst) : Int × Rst := number (look s).1.1 (look s).1.2 (look s).2
/-- Count, Choice. -/
def rSz (most : Int) (above : Int) (s : Rst) : Int × Rst :=
  if (look s).2.er ≠ 0 then (0, (look s).2)
  else if (look s).1.1 < 0 then (0, stopR 4 s.pl (look s).2)
  else if most < (look s).1.1 then (0, stopR above s.pl (look s).2)
  else ((look s).1.1, { (look s).2 with pl := s.pl + (look s).1.2 })
def rText (most : Int) (s : Rst) : List UInt8 × Rst :=
  if (look s).2.er ≠ 0 then ([], (look s).2)
  else if (look s).1.1 < 0 then ([], stopR 4 s.pl (look s).2)
  else if most < (look s).1.1 then ([], stopR 2 s.pl (look s).2)
  else if (s.bs.length : Int) - (s.pl + (look s).1.2 : Nat) < (look s).1.1 then ([], stopR 5 s.bs.length (look s).2)
  else ((s.bs.drop (s.pl + (look s).1.2)).take (look s).1.1.toNat, { (look s).2 with pl := s.pl + (look s).1.2 + (look s).1.1.toNat })
def rFlag (s : Rst) : Bool × Rst :=
  if s.er ≠ 0 then (false, s)
  else if s.pl = s.bs.length then (false, stopR 5 s.bs.length s)
  else if 1 < (s.bs.getD s.pl 0).toNat then (false, stopR 4 s.pl s)
  else ((s.bs.getD s.pl 0).toNat == 1, { s with pl := s.pl + 1 })
/-- Bytes as a number, the least significant first. -/
def le : List UInt8 → Nat
  | [] => 0
  | x :: r => x.toNat + 256 * le r
def leAt (s : Rst) : Nat := le ((s.bs.drop s.pl).take 8)
def rFloat (s : Rst) : Nat × Rst :=
  if s.er ≠ 0 then (0, s)
  else if s.bs.length < s.pl + 8 then (0, stopR 5 s.bs.length s)
  else if canon (leAt s) ≠ leAt s then (0, stopR 4 s.pl s)
  else (leAt s, { s with pl := s.pl + 8 })
def leftR (s : Rst) : Nat := if s.er ≠ 0 then 0 else s.bs.length - s.pl
/-- End: the fault, or what is left. -/
def endR (s : Rst) : Int × Nat := if s.er ≠ 0 then (s.er, s.fp) else if s.pl < s.bs.length then (6, s.pl) else (0, 0)
/-- Eight bytes of a word. -/
def w8 : Nat → Nat → List UInt8
  | 0, _ => []
  | k + 1, u => UInt8.ofNat (u % 256) :: w8 k (u / 256)
end Go.Proofs.Ytioopibmpcbcjaa
