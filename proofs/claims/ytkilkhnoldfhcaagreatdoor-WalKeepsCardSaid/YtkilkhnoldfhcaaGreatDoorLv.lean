/- Logs whose segments hang together, and what writing makes of them, in plain terms. Conditions: none of its own. -/
import Derived.Test.YtkilkhnoldfhcaaGreatDoorLu
namespace Go.Proofs.YtkilkhnoldfhcaaGreatDoor
open Go.RowKit
/-- Each segment begins where the one ahead of it ends. -/
def linked : List Sg → Prop
  | [] => True
  | [_] => True
  | g :: g2 :: r => g2.first = g.next ∧ linked (g2 :: r)
def allR (l : List Sg) : List (List UInt8) := (l.map fun g => g.recs).flatten
def wt (L : List (List UInt8)) : Nat := (L.map fun p => p.length + 12).sum
theorem allR_cons (g : Sg) (r : List Sg) : allR (g :: r) = g.recs ++ allR r := by simp [allR]
theorem allR_append (l m : List Sg) : allR (l ++ m) = allR l ++ allR m := by simp [allR]
theorem allR_one (g : Sg) : allR [g] = g.recs := by simp [allR]
theorem wt_append (l m : List (List UInt8)) : wt (l ++ m) = wt l + wt m := by simp [wt]
theorem wt_one (p : List UInt8) : wt [p] = p.length + 12 := by simp [wt]
theorem linked_rests : ∀ (r : List Sg) (g : Sg) (k : Int), linked (g :: r) → ((g :: r).map fun g => g.rest k).flatten = (allR (g :: r)).drop (k - (g.first : Int)).toNat
  | [], g, k, _ => by simp [allR, Sg.rest]
  | g2 :: r, g, k, ⟨h1, h2⟩ => by
    have ih := linked_rests r g2 k h2
    have h3 : g2.first = g.first + g.recs.length := h1
    have e2 : (k - (g2.first : Int)).toNat = (k - (g.first : Int)).toNat - g.recs.length := by omega
    rw [List.map_cons, List.flatten_cons, ih, allR_cons g, List.drop_append, e2]
    rfl
theorem linked_last : ∀ (r : List Sg) (g : Sg), linked (g :: r) → ((g :: r).getD r.length ⟨0, []⟩).next = g.first + (allR (g :: r)).length
  | [], g, _ => by simp [allR, Sg.next]
  | g2 :: r, g, ⟨h1, h2⟩ => by
    have ih := linked_last r g2 h2
    have h3 : g2.first = g.first + g.recs.length := h1
    rw [allR_cons g, List.length_append, List.length_cons]
    show ((g2 :: r).getD r.length ⟨0, []⟩).next = _
    omega
theorem linked_in : ∀ (r : List Sg) (g : Sg), linked (g :: r) → ∀ x ∈ g :: r, g.first ≤ x.first ∧ x.first + x.recs.length ≤ g.first + (allR (g :: r)).length
  | [], g, _, x, hx => by
    obtain rfl : x = g := by simpa using hx
    rw [allR_one]
    omega
  | g2 :: r, g, ⟨h1, h2⟩, x, hx => by
    have h3 : g2.first = g.first + g.recs.length := h1
    rw [allR_cons g, List.length_append]
    rcases List.mem_cons.1 hx with rfl | hx
    · omega
    · have := linked_in r g2 h2 x hx
      omega
theorem linked_put : ∀ (l : List Sg) (g g' : Sg), linked (l ++ [g]) → g'.first = g.first → linked (l ++ [g'])
  | [], _, _, _, _ => trivial
  | [_], _, _, ⟨h, _⟩, e => ⟨e.trans h, trivial⟩
  | _ :: y :: r, g, g', ⟨h, h2⟩, e => ⟨h, linked_put (y :: r) g g' h2 e⟩
theorem linked_snoc : ∀ (l : List Sg) (g : Sg), linked (l ++ [g]) → ∀ g' : Sg, g'.first = g.next → linked (l ++ [g] ++ [g'])
  | [], _, _, _, e => ⟨e, trivial⟩
  | [_], _, ⟨h, _⟩, _, e => ⟨h, e, trivial⟩
  | _ :: y :: r, g, ⟨h, h2⟩, g', e => ⟨h, linked_snoc (y :: r) g h2 g' e⟩
theorem size_le {l : List Sg} {g : Sg} (h : g ∈ l) : g.size ≤ wt (allR l) := by
  induction l with
  | nil => cases h
  | cons x r ih =>
    rw [allR_cons, wt_append]
    rcases List.mem_cons.1 h with rfl | h
    · exact Nat.le_add_right _ _
    · have := ih h; omega
/-- A log whose segments hang together: the number of its first record, its records. -/
structure Ch (lg : Lg) (lo : Nat) (all : List (List UInt8)) : Prop where
  ok : LOk lg
  seg : ∃ init g, lg.segs = init ++ [g] ∧ linked (init ++ [g]) ∧ allR (init ++ [g]) = all
  low : lg.low = lo
  safe : lg.safe < lo + all.length
section
variable {lg : Lg} {lo : Nat} {all : List (List UInt8)} {d : Dk} {p : List UInt8}
theorem Ch.cons (h : Ch lg lo all) : ∃ g r, lg.segs = g :: r ∧ linked (g :: r) ∧ allR (g :: r) = all ∧ g.first = lo := by
  obtain ⟨init, g, h1, h2, h3⟩ := h.seg
  have hl := h.low
  unfold Lg.low at hl
  rw [h1] at hl
  cases init with
  | nil => exact ⟨g, [], h1, h2, h3, hl⟩
  | cons x r => exact ⟨x, r ++ [g], h1, h2, h3, hl⟩
theorem Ch.rests (h : Ch lg lo all) (k : Int) : lg.rests k = all.drop (k - (lo : Int)).toNat := by
  obtain ⟨g, r, h1, h2, h3, h4⟩ := h.cons
  unfold Lg.rests
  rw [h1, linked_rests r g k h2, h3, h4]
theorem Ch.next (h : Ch lg lo all) : lg.next = lo + all.length := by
  obtain ⟨g, r, h1, h2, h3, h4⟩ := h.cons
  have h5 := linked_last r g h2
  rw [h3, h4] at h5
  unfold Lg.next Lg.last
  rw [h1]
  exact h5
theorem Ch.pos (h : Ch lg lo all) : 1 ≤ lo ∧ lo ≤ 99999999 := by
  obtain ⟨g, r, h1, h2, h3, h4⟩ := h.cons
  have := h.ok.num g (by rw [h1]; exact List.mem_cons_self)
  omega
theorem Ch.last (_h : Ch lg lo all) {init : List Sg} {g : Sg} (h1 : lg.segs = init ++ [g]) : lg.last = g ∧ lg.segs.length - 1 = init.length := by
  have h2 : lg.segs.length - 1 = init.length := by rw [h1]; simp
  refine ⟨?_, h2⟩
  unfold Lg.last
  rw [h2, h1]
  simp
theorem Ch.read (h : Ch lg lo all) (k : Int) : lg.read k = if k < (lo : Int) then none else all[(k - (lo : Int)).toNat]? := by
  unfold Lg.read
  rw [h.low, h.rests, List.head?_drop]
theorem Ch.from (h : Ch lg lo all) (k most : Int) : lg.from k most = if k < (lo : Int) ∨ (lg.safe : Int) + 1 < k then none else some ((all.drop (k - (lo : Int)).toNat).take (min most ((lg.safe : Int) + 1 - k)).toNat) := by
  unfold Lg.from
  rw [h.low, h.rests]
theorem Ch.sync (h : Ch lg lo all) (d : Dk) : Ch (lg.sync d).1 lo all ∧ (lg.sync d).1.segs = lg.segs ∧ (lg.sync d).1.dir = lg.dir ∧ (lg.sync d).1.full = lg.full ∧ (lg.sync d).2.1.done ≤ d.done + 1 ∧ (lg.sync d).1.next = lg.next ∧ ((lg.sync d).2.2 = 0 → (lg.sync d).1.safe + 1 = lo + all.length) := by
  have hn := h.next
  have hp := h.pos
  have hd := sync_done lg d
  refine ⟨?_, ?_, ?_, ?_, hd, ?_, ?_⟩ <;> unfold Lg.sync <;> split
  · exact ⟨h.ok.safe _, h.seg, h.low, by show lg.next - 1 < _; omega⟩
  · exact h
  · rfl
  · rfl
  · rfl
  · rfl
  · rfl
  · rfl
  · rfl
  · rfl
  · intro _; show lg.next - 1 + 1 = _; omega
  · rename_i h0; intro h1; exact absurd h1 h0
theorem Ch.begin (h : Ch lg lo all) (hfew : lg.segs.length ≤ 999999) (hn : lg.next ≤ 99999999) (d : Dk) : Ch (lg.begin d lg.next).1 lo all ∧ (lg.begin d lg.next).1.segs.length ≤ lg.segs.length + 1 ∧ (lg.begin d lg.next).1.dir = lg.dir ∧ (lg.begin d lg.next).1.full = lg.full ∧ (lg.begin d lg.next).2.1.done ≤ d.done + 1 ∧ (lg.begin d lg.next).1.next = lg.next ∧ (lg.begin d lg.next).1.safe = lg.safe := by
  have hnx := h.next
  have hp := h.pos
  obtain ⟨h1, h2, h3⟩ := begin_ok (d := d) h.ok hfew (n := lg.next) ⟨by omega, hn⟩
  rcases h3 with h3 | h3
  · rw [h3]
    exact ⟨h, by omega, rfl, rfl, h2, rfl, rfl⟩
  · rw [h3] at h1 ⊢
    obtain ⟨init, g, s1, s2, s3⟩ := h.seg
    have hg := (h.last s1).1
    have hgn : lg.next = g.next := by unfold Lg.next; rw [hg]
    refine ⟨⟨h1, ⟨init ++ [g], ⟨lg.next, []⟩, by show lg.segs ++ _ = _; rw [s1], linked_snoc init g s2 _ hgn, by rw [allR_append, s3, allR_one]; simp⟩, ?_, h.safe⟩, by simp, rfl, rfl, h2, ?_, rfl⟩
    · have := h.low
      unfold Lg.low at this ⊢
      rw [s1] at this
      show ((lg.segs ++ [_]).getD 0 ⟨0, []⟩).first = lo
      rw [s1]
      cases init with
      | nil => exact this
      | cons x r => exact this
    · unfold Lg.next
      rw [last_snoc]
      rfl
theorem Ch.put (h : Ch lg lo all) (hw : wt all + (p.length + 12) ≤ 4194304) : Ch (lg.put p) lo (all ++ [p]) ∧ (lg.put p).segs.length = lg.segs.length := by
  obtain ⟨init, g, s1, s2, s3⟩ := h.seg
  obtain ⟨hg, hlen⟩ := h.last s1
  have hs : (lg.put p).segs = init ++ [⟨g.first, g.recs ++ [p]⟩] := by
    show lg.segs.set (lg.segs.length - 1) ⟨lg.last.first, lg.last.recs ++ [p]⟩ = _
    rw [hlen, hg, s1]
    simp
  have ha : allR (init ++ [⟨g.first, g.recs ++ [p]⟩]) = all ++ [p] := by
    rw [← s3, allR_append, allR_append, allR_one, allR_one, List.append_assoc]
  have hl : (lg.put p).segs.length = lg.segs.length := by rw [hs, s1]; simp
  refine ⟨⟨⟨?_, ?_, h.ok.dir, fun x hx => ?_, fun x hx => ?_⟩, ⟨init, _, hs, linked_put init g _ s2 rfl, ha⟩, ?_, ?_⟩, hl⟩
  · rw [hl]; exact h.ok.ne
  · rw [hl]; exact h.ok.few
  · rw [hs] at hx
    rcases List.mem_append.1 hx with hx | hx
    · exact h.ok.num x (by rw [s1]; exact List.mem_append_left _ hx)
    · obtain rfl : x = _ := by simpa using hx
      exact h.ok.num g (by rw [s1]; simp)
  · rw [hs] at hx
    have := size_le hx
    rw [ha, wt_append, wt_one] at this
    omega
  · have := h.low
    unfold Lg.low at this ⊢
    rw [s1] at this
    rw [hs]
    cases init with
    | nil => exact this
    | cons x r => exact this
  · have := h.safe
    rw [List.length_append]
    show lg.safe < _
    omega
theorem Ch.room (h : Ch lg lo all) (hfew : lg.segs.length ≤ 999999) (hn : lg.next ≤ 99999999) (d : Dk) : Ch (lg.room d).1 lo all ∧ (lg.room d).1.segs.length ≤ lg.segs.length + 1 ∧ (lg.room d).1.dir = lg.dir ∧ (lg.room d).1.full = lg.full ∧ (lg.room d).2.1.done ≤ d.done + 2 ∧ (lg.room d).1.next = lg.next := by
  obtain ⟨a1, a2, a3, a4, a5, a6, _⟩ := h.sync d
  unfold Lg.room
  split
  · exact ⟨h, by show lg.segs.length ≤ _; omega, rfl, rfl, by show d.done ≤ _; omega, rfl⟩
  split
  · have hb := a1.begin (by rw [a2]; exact hfew) (by rw [a6]; exact hn) (lg.sync d).2.1
    rw [a6] at hb
    obtain ⟨b1, b2, b3, b4, b5, b6, _⟩ := hb
    exact ⟨b1, by rw [a2] at b2; exact b2, b3.trans a3, b4.trans a4, by omega, b6⟩
  · exact ⟨a1, by rw [a2]; omega, a3, a4, by omega, a6⟩
/-- What Append makes of a log. -/
theorem Ch.append (h : Ch lg lo all) (hfew : lg.segs.length ≤ 999999) (hw : wt all + (p.length + 12) ≤ 4194304) (d : Dk) : Ch (lg.append d p).1 lo (if (lg.append d p).2.2.2 = 0 then all ++ [p] else all) ∧ (lg.append d p).1.segs.length ≤ lg.segs.length + 1 ∧ (lg.append d p).1.dir = lg.dir ∧ (lg.append d p).1.full = lg.full ∧ (lg.append d p).2.1.done ≤ d.done + 3 ∧ ((lg.append d p).2.2.2 = 0 → (lg.append d p).2.2.1 = lo + all.length) := by
  have hnx := h.next
  unfold Lg.append
  split
  · exact ⟨by rw [if_neg (show ¬ (2 : Nat) = 0 by decide)]; exact h, by show lg.segs.length ≤ _; omega, rfl, rfl, by show d.done ≤ _; omega, fun e => by cases e⟩
  split
  · exact ⟨by rw [if_neg (show ¬ (1 : Nat) = 0 by decide)]; exact h, by show lg.segs.length ≤ _; omega, rfl, rfl, by show d.done ≤ _; omega, fun e => by cases e⟩
  rename_i h1 h2
  obtain ⟨b1, b2, b3, b4, b5, b6⟩ := h.room hfew (by omega) d
  split
  · unfold Lg.write
    have hda : ((lg.room d).2.1.append (segN (lg.room d).1.dir (lg.room d).1.last.first) (Fr.frameV p)).1.done ≤ (lg.room d).2.1.done + 1 := by
      unfold Dk.append
      split
      · show (lg.room d).2.1.done ≤ _; omega
      split
      · show (lg.room d).2.1.done ≤ _; omega
      split
      · show (lg.room d).2.1.done ≤ _; omega
      · show ((lg.room d).2.1.spend).1.done ≤ _
        unfold Dk.spend
        split
        · show (lg.room d).2.1.done ≤ _; omega
        · exact Nat.le_refl _
    split
    · obtain ⟨c1, c2⟩ := b1.put hw
      exact ⟨by rw [if_pos rfl]; exact c1, by rw [c2]; exact b2, b3, b4, Nat.le_trans hda (by omega), fun _ => hnx⟩
    · rename_i h0
      exact ⟨by first | exact b1 | (rw [if_neg h0]; exact b1), b2, b3, b4, Nat.le_trans hda (by omega), fun e => absurd e h0⟩
  · rename_i h0
    exact ⟨by first | exact b1 | (rw [if_neg h0]; exact b1), b2, b3, b4, Nat.le_trans b5 (by omega), fun e => absurd e h0⟩
end
end Go.Proofs.YtkilkhnoldfhcaaGreatDoor
