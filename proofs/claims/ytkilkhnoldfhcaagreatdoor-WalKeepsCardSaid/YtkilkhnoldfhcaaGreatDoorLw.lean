/- racelaw7.opened: a log of a new disk that did operations. Conditions: few operations, a segment's size that may be. -/
import Derived.Test.YtkilkhnoldfhcaaGreatDoorLv
namespace Go.Proofs.YtkilkhnoldfhcaaGreatDoor
open Go.RowKit
/-- What operations make of a log, its disk and the records that it took. -/
def opStep (s : Lg × Dk × List (List UInt8)) (p : Wo) : Lg × Dk × List (List UInt8) :=
  if p.kind = 1 then ((s.1.append s.2.1 p.b).1, (s.1.append s.2.1 p.b).2.1, if (s.1.append s.2.1 p.b).2.2.2 = 0 then s.2.2 ++ [p.b] else s.2.2)
  else if p.kind = 2 then ((s.1.sync s.2.1).1, (s.1.sync s.2.1).2.1, s.2.2) else s
def opZero (full : Nat) : Lg × Dk × List (List UInt8) := (⟨dLog, full, [⟨1, []⟩], 0⟩, fDA, [])
def opFold (full : Nat) (l : List Wo) : Lg × Dk × List (List UInt8) := l.foldl opStep (opZero full)
theorem opFold_take (full : Nat) (l : List Wo) (i : Nat) (h : i < l.length) : opFold full (l.take (i + 1)) = opStep (opFold full (l.take i)) l[i] := by
  unfold opFold
  rw [List.take_add_one, List.getElem?_eq_getElem h, Option.toList_some, List.foldl_append]
  rfl
/-- What holds of them, step by step. -/
structure OpIn (full i W : Nat) (s : Lg × Dk × List (List UInt8)) : Prop where
  ch : Ch s.1 1 s.2.2
  few : s.1.segs.length ≤ i + 1
  len : s.2.2.length ≤ i
  wt : wt s.2.2 ≤ W + 12 * i
  done : s.2.1.done ≤ 1 + 3 * i
  dir : s.1.dir = dLog
  full : s.1.full = full
theorem opIn_zero (full : Nat) : OpIn full 0 0 (opZero full) :=
  ⟨⟨⟨Nat.succ_pos 0, by show 1 ≤ 1000000; decide, ⟨by show 1 ≤ 3; decide, by show 3 ≤ 11; decide⟩, fun x hx => by obtain rfl : x = ⟨1, []⟩ := List.mem_singleton.1 hx; exact ⟨by decide, by decide⟩, fun x hx => by obtain rfl : x = ⟨1, []⟩ := List.mem_singleton.1 hx; exact Nat.zero_le _⟩,
      ⟨[], ⟨1, []⟩, rfl, trivial, rfl⟩, rfl, by show 0 < 1 + 0; decide⟩, Nat.le_refl _, Nat.le_refl _, Nat.le_refl _, by show fDA.done ≤ 1; rw [f_da]; decide, rfl, rfl⟩
theorem opIn_step {full i W V : Nat} {s : Lg × Dk × List (List UInt8)} {p : Wo} (h : OpIn full i W s) (hi : i ≤ 400) (hW : W ≤ 20000) (hp : p.b.length ≤ 20000) (hV : W + p.b.length ≤ V) : OpIn full (i + 1) V (opStep s p) := by
  have h1 := h.few
  have h2 := h.len
  have h3 := h.wt
  have h4 := h.done
  unfold opStep
  split
  · obtain ⟨a1, a2, a3, a4, a5, _⟩ := h.ch.append (p := p.b) (by omega) (by omega) s.2.1
    refine ⟨a1, Nat.le_trans a2 (by omega), ?_, ?_, Nat.le_trans a5 (by omega), a3.trans h.dir, a4.trans h.full⟩
    · show (if _ then _ else _ : List (List UInt8)).length ≤ _
      split
      · rw [List.length_append]; simp; omega
      · omega
    · show Go.Proofs.YtkilkhnoldfhcaaGreatDoor.wt (if _ then _ else _ : List (List UInt8)) ≤ _
      split
      · rw [wt_append, wt_one]; omega
      · omega
  split
  · obtain ⟨a1, a2, a3, a4, a5, _⟩ := h.ch.sync s.2.1
    exact ⟨a1, by rw [a2]; omega, by show s.2.2.length ≤ _; omega, by show Go.Proofs.YtkilkhnoldfhcaaGreatDoor.wt s.2.2 ≤ _; omega, Nat.le_trans a5 (by omega), a3.trans h.dir, a4.trans h.full⟩
  · exact ⟨h.ch, by omega, by omega, by omega, by omega, h.dir, h.full⟩
theorem opIn_all {full : Nat} {l : List Wo} (hf : fewW l = true) : ∀ i, i ≤ l.length → OpIn full i (weiw (l.take i)) (opFold full (l.take i))
  | 0, _ => opIn_zero full
  | i + 1, h => by
    obtain ⟨h1, h2⟩ := feww_yes hf
    have hb := (weiw_mem h2 _ (List.getElem_mem (show i < l.length from h))).2
    have hw := weiw_take (show i < l.length from h)
    have hw2 : weiw (l.take i) ≤ 20000 := by
      have e : weiw l = weiw (l.take i) + weiw (l.drop i) := by
        conv => lhs; rw [← List.take_append_drop i l]
        unfold weiw
        rw [List.map_append, List.sum_append]
      omega
    rw [opFold_take full l i h]
    exact opIn_step (opIn_all hf i (Nat.le_of_succ_le h)) (by omega) hw2 hb (by omega)
/-- The records that were taken, as the operations bear them. -/
structure AO (B : Nat) (w w' : World) (v : Value) (us : List Value) (all : List (List UInt8)) : Prop where
  own : w'.ownsRow 0 36 1 v all.length us
  len : us.length = all.length
  at_ : ∀ i (h1 : i < us.length) (h2 : i < all.length), ∃ ao cap, us[i] = .slice ao all[i].length cap ∧ SB (fun k => k < B) w ao all[i].length cap all[i]
  row : ∀ k, v.ownBlock = some k → B ≤ k
section
variable {B : Nat} {w w1 w2 : World} {v v3 u : Value} {us : List Value} {all : List (List UInt8)} {S : Nat → Prop}
theorem AO.nil (B : Nat) (w w1 : World) : AO B w w1 (.slice none 0 0) [] [] := ⟨World.ownsRow_nil _ _ _ _, rfl, fun _ h => (nomatch h), fun _ h => (nomatch h)⟩
theorem AO.tn (h : AO B w w1 v us all) (ht : Tn S w1 w2) (hd : ∀ k, v.ownBlock = some k → ¬ S k) : AO B w w2 v us all := ⟨own_tn h.own ht hd, h.len, h.at_, h.row⟩
theorem AO.below (h : AO B w w1 v us all) (hb : Below w1.heap.size w1 w2) : AO B w w2 v us all := h.tn (Tn.of_below (S := fun _ => False) hb) (fun _ _ e => e)
theorem AO.snoc {p : List UInt8} {ao : Option Addr} {cap : Nat} (h : AO B w w1 v us all) (ho : w2.ownsRow 0 36 1 v3 (all.length + 1) (us ++ [.slice ao p.length cap])) (hl : v3.ownBlock = v.ownBlock ∨ v3.ownBlock = some w1.heap.size) (hB : B ≤ w1.heap.size) (hp : SB (fun k => k < B) w ao p.length cap p) : AO B w w2 v3 (us ++ [.slice ao p.length cap]) (all ++ [p]) := by
  have hll := h.len
  refine ⟨by rw [List.length_append]; exact ho, by simp [hll], fun i h1 h2 => ?_, fun k hk => ?_⟩
  · have h1' : i < us.length + 1 := by simpa using h1
    by_cases hi : i < us.length
    · have h3 : i < all.length := by omega
      obtain ⟨ao', cap', e, hs⟩ := h.at_ i hi h3
      have e2 : (all ++ [p])[i] = all[i] := List.getElem_append_left h3
      exact ⟨ao', cap', by rw [List.getElem_append_left hi, e2]; exact e, by rw [e2]; exact hs⟩
    · have e1 : i = us.length := by omega
      subst e1
      have e2 : (all ++ [p])[us.length] = p := by simp [hll]
      exact ⟨ao, cap, by rw [e2]; simp, by rw [e2]; exact hp⟩
  · rcases hl with e | e
    · exact h.row k (e ▸ hk)
    · rw [e] at hk; injection hk with hk; omega
end
end Go.Proofs.YtkilkhnoldfhcaaGreatDoor
