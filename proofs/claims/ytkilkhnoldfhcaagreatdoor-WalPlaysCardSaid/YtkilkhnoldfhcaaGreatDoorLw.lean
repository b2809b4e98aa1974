/- racelaw7.opened: a log of a new disk that did operations. Conditions: few operations, a segment's size that may be. racelaw7.opened: a log of a new disk that did operations. Conditions: few operations, a segment's size that may be. -/
import Derived.Test.YtkilkhnoldfhcaaGreatDoorLu
namespace Go.Proofs.YtkilkhnoldfhcaaGreatDoor
open Go.RowKit
/-- What operations make of a log, its disk and the records that it took. -/
def opStep (s : Lg × Dk × List (List UInt8)) (p : Wo) : Lg × Dk × List (List UInt8) :=
  if p.kind = 1 then ((s.1.append s.2.1 p.b).1, (s.1.append s.2.1 p.b).2.1, if (s.1.append s.2.1 p.b).2.2.2 = 0 then s.2.2 ++ [p.b] else s.2.2)
  else if p.kind = 2 then ((s.1.sync s.2.1).1, (s.1.sync s.2.1).2.1, s.2.2) else s
def opZero (full : Nat) : Lg × Dk × List (List UInt8) := (⟨dLog, full, [⟨1, []⟩], 0⟩, fDA, [])
def opFold (full : Nat) (l : List Wo) : Lg × Dk × List (List UInt8) := l.foldl opStep (opZero full)
/-- What holds of them, step by step. -/
structure OpIn (full i W : Nat) (s : Lg × Dk × List (List UInt8)) : Prop where
  ch : Ch s.1 1 s.2.2
  few : s.1.segs.length ≤ i + 1
  len : s.2.2.length ≤ i
  wt : wt s.2.2 ≤ W + 12 * i
  done : s.2.1.done ≤ 1 + 3 * i
  dir : s.1.dir = dLog
  full : s.1.full = full
/-- The records that were taken, as the operations bear them. -/
structure AO (B : Nat) (w w' : World) (v : Value) (us : List Value) (all : List (List UInt8)) : Prop where
  own : w'.ownsRow 0 36 1 v all.length us
  len : us.length = all.length
  at_ : ∀ i (h1 : i < us.length) (h2 : i < all.length), ∃ ao cap, us[i] = .slice ao all[i].length cap ∧ SB (fun k => k < B) w ao all[i].length cap all[i]
  row : ∀ k, v.ownBlock = some k → B ≤ k
section
variable {B : Nat} {w w1 w2 : World} {v v3 u : Value} {us : List Value} {all : List (List UInt8)} {S : Nat → Prop}
theorem AO.nil (B : Nat) (w w1 : World) : AO B w w1 (.slice none 0 0) [] [] := ⟨World.ownsRow_nil _ _ _ _, rfl, fun _ h => (nomatch h), fun _ h => (nomatch h)⟩
theorem AO.tn (h : AO B w w1 v us all) (ht : Tn S w1 w2) (hd : ∀ k, v.ownBlock = some k → ¬ S k) : AO B w w2 v us all := ⟨own_tn h.own ht hd, h.len, h.at_, h.row⟩
theorem AO.below (h : AO B w w1 v us all) (hb : Below w1.heap.size w1 w2) : AO B w w2 v us all := h.tn (Tn.of_below (S := fun _ => False) hb) (fun _ _ e => e)
theorem AO.snoc {p : List UInt8} {ao : Option Addr} {cap : Nat} (h : AO B w w1 v us all) (ho : w2.ownsRow 0 36 1 v3 (all.length + 1) (us ++ [.slice ao p.length cap])) (hl : v3.ownBlock = v.ownBlock ∨ v3.ownBlock = some w1.heap.size) (hB : B ≤ w1.heap.size) (hp : SB (fun k => k < B) w ao p.length cap p) : AO B w w2 v3 (us ++ [.slice ao p.length cap]) (all ++ [p]) := by
  have hll := h.len
  refine ⟨by rw [List.length_append]; exact ho, by simp [hll], fun i h1 h2 => ?_, fun k hk => ?_⟩
  · have h1' : i < us.length + 1 := by simpa using h1
    by_cases hi : i < us.length
    · have h3 : i < all.length := by omega
      obtain ⟨ao', cap', e, hs⟩ := h.at_ i hi h3
      have e2 : (all ++ [p])[i] = all[i] := List.getElem_append_left h3
      exact ⟨ao', cap', by rw [List.getElem_append_left hi, e2]; exact e, by rw [e2]; exact hs⟩
    · have e1 : i = us.length := by omega
      subst e1
      have e2 : (all ++ [p])[us.length] = p := by simp [hll]
      exact ⟨ao, cap, by rw [e2]; simp, by rw [e2]; exact hp⟩
  · rcases hl with e | e
    · exact h.row k (e ▸ hk)
    · rw [e] at hk; injection hk with hk; omega
end
end Go.Proofs.YtkilkhnoldfhcaaGreatDoor
namespace Go.Proofs.YtkilkhnoldfhcaaGreatDoor
open Go.RowKit
section
variable {B : Nat} {w w1 w2 : World} {v : Value} {C S C' S' : Nat → Prop}
end
end Go.Proofs.YtkilkhnoldfhcaaGreatDoor
