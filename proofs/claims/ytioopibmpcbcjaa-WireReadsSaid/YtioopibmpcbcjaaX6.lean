/- The two readers side by side: the same bytes, place and fault. -/
import Derived.Test.YtioopibmpcbcjaaX5
namespace Go.Proofs.Ytioopibmpcbcjaa
open Go.RowKit
/-- wire's state and the document's. -/
structure Like (s x : Rst) : Prop where
  bs : x.bs = s.bs
  pl : x.pl = s.pl
  er : x.er = s.er
  fp : s.er ≠ 0 → x.fp = s.fp
  no : s.er = 0 → s.fp = 0
theorem Like.stop {s x : Rst} (h : Like s x) {e : Int} (he : e ≠ 0) (q : Nat) : Like (stopR e q s) (stopR e q x) := by
  unfold stopR
  rw [h.er]
  split
  · exact ⟨h.bs, h.pl, rfl, fun _ => rfl, fun h0 => absurd h0 he⟩
  · exact h
theorem Like.move {s x : Rst} (h : Like s x) {q q' : Nat} (hq : q' = q) : Like { s with pl := q } { x with pl := q' } := ⟨h.bs, hq, h.er, h.fp, h.no⟩
theorem Like.lk {s x : Rst} (h : Like s x) : (look x).1 = (look s).1 ∧ Like (look s).2 (look x).2 := by
  have hr : rowAt x = rowAt s := by unfold rowAt; rw [h.bs, h.pl]
  unfold look
  rw [h.bs, h.pl, h.er, hr]
  split
  · exact ⟨rfl, h⟩
  · split
    · exact ⟨rfl, h.stop (by decide) _⟩
    · split
      · exact ⟨rfl, h⟩
      · exact ⟨rfl, h.stop (by decide) _⟩
theorem Like.int {s x : Rst} (h : Like s x) : (rInt x).1 = (rInt s).1 ∧ Like (rInt s).2 (rInt x).2 := by
  obtain ⟨h1, h2⟩ := h.lk
  unfold rInt number
  rw [h1, h2.er]
  split
  · exact ⟨rfl, h2⟩
  · exact ⟨rfl, ⟨h2.bs, by simp only [h2.pl], rfl, h2.fp, h2.no⟩⟩
theorem Like.size {s x : Rst} (h : Like s x) (most : Int) {e : Int} (he : e ≠ 0) : (rSz most e x).1 = (rSz most e s).1 ∧ Like (rSz most e s).2 (rSz most e x).2 := by
  obtain ⟨h1, h2⟩ := h.lk
  unfold rSz
  rw [h1, h2.er, h.pl]
  split
  · exact ⟨rfl, h2⟩
  · split
    · exact ⟨rfl, h2.stop (by decide) _⟩
    · split
      · exact ⟨rfl, h2.stop he _⟩
      · exact ⟨rfl, h2.move rfl⟩
theorem Like.text {s x : Rst} (h : Like s x) (most : Int) : (rText most x).1 = (rText most s).1 ∧ Like (rText most s).2 (rText most x).2 := by
  obtain ⟨h1, h2⟩ := h.lk
  unfold rText
  rw [h1, h2.er, h.pl, h.bs]
  split
  · exact ⟨rfl, h2⟩
  · split
    · exact ⟨rfl, h2.stop (by decide) _⟩
    · split
      · exact ⟨rfl, h2.stop (by decide) _⟩
      · split
        · exact ⟨rfl, h2.stop (by decide) _⟩
        · exact ⟨rfl, h2.move rfl⟩
theorem Like.flag {s x : Rst} (h : Like s x) : (rFlag x).1 = (rFlag s).1 ∧ Like (rFlag s).2 (rFlag x).2 := by
  unfold rFlag
  rw [h.er, h.pl, h.bs]
  split
  · exact ⟨rfl, h⟩
  · split
    · exact ⟨rfl, h.stop (by decide) _⟩
    · split
      · exact ⟨rfl, h.stop (by decide) _⟩
      · exact ⟨rfl, ⟨rfl, rfl, rfl, h.fp, h.no⟩⟩
theorem Like.float {s x : Rst} (h : Like s x) : (rFloat x).1 = (rFloat s).1 ∧ Like (rFloat s).2 (rFloat x).2 := by
  have hl : leAt x = leAt s := by unfold leAt; rw [h.bs, h.pl]
  unfold rFloat
  rw [h.er, h.pl, h.bs, hl]
  split
  · exact ⟨rfl, h⟩
  · split
    · exact ⟨rfl, h.stop (by decide) _⟩
    · split
      · exact ⟨rfl, h.stop (by decide) _⟩
      · exact ⟨rfl, ⟨rfl, rfl, rfl, h.fp, h.no⟩⟩
theorem Like.fail {s x : Rst} (h : Like s x) (e : Int) : Like (failR e s) (stopR e x.pl x) := by
  by_cases he : e = 0
  · subst he
    rw [failR_no]
    unfold stopR
    split
    · rename_i h0
      have h1 : s.er = 0 := by rw [← h.er]; exact h0
      exact ⟨h.bs, h.pl, h1.symm, fun hn => absurd h1 hn, h.no⟩
    · exact h
  · rw [failR_yes he, h.pl]
    exact h.stop he _
theorem Like.end {s x : Rst} (h : Like s x) : endR x = endR s := by
  unfold endR
  rw [h.er, h.pl, h.bs]
  split
  · rename_i h0; rw [h.fp h0]
  · rfl
theorem Like.left {s x : Rst} (h : Like s x) : leftR x = leftR s := by unfold leftR; rw [h.er, h.pl, h.bs]
end Go.Proofs.Ytioopibmpcbcjaa
