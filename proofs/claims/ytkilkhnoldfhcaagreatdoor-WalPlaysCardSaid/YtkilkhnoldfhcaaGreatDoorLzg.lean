/- The document's log of a log: Append, Sync and Trim of both make the same, in plain terms. Conditions: a log whose segments hang together. What writes leave in the files, and how many bytes. Conditions: a disk as it keeps to. What a log keeps to while it is played with, whatever falls. Conditions: a disk as it keeps to. What Open leaves, in plain terms. Conditions: a disk as it keeps to. raceref7's log in memory: what Append's two stores leave; append onto a row whose slice begins anywhere. Conditions: a log as it lies. -/
import Derived.Test.YtkilkhnoldfhcaaGreatDoorLza
namespace Go.Proofs.YtkilkhnoldfhcaaGreatDoor
open Go.RowKit
/-- Where the last file is full, a new one is begun. -/
def Rl.more (r : Rl) (d : Dk) : Rl × Dk × Nat :=
  if ((d.read (segN r.dir r.end_)).1.length : Int) < r.seg then (r, d, 0)
  else if (r.sync d).2.2 = 0 then
    (if ((r.sync d).2.1.create (segN r.dir r.next)).2 = 0 then ({ (r.sync d).1 with nums := r.nums ++ [r.next] }, ((r.sync d).2.1.create (segN r.dir r.next)).1, 0)
     else ((r.sync d).1, ((r.sync d).2.1.create (segN r.dir r.next)).1, ((r.sync d).2.1.create (segN r.dir r.next)).2))
  else r.sync d
def Rl.write (x : Rl × Dk × Nat) (p : List UInt8) : Rl × Dk × Nat × Nat :=
  if (x.2.1.append (segN x.1.dir x.1.end_) (Fr.frameV p)).2 = 0 then ({ x.1 with all := x.1.all ++ [p] }, (x.2.1.append (segN x.1.dir x.1.end_) (Fr.frameV p)).1, x.1.next, 0)
  else (x.1, (x.2.1.append (segN x.1.dir x.1.end_) (Fr.frameV p)).1, 0, (x.2.1.append (segN x.1.dir x.1.end_) (Fr.frameV p)).2)
def Rl.append (r : Rl) (d : Dk) (p : List UInt8) : Rl × Dk × Nat × Nat :=
  if 262144 < p.length then (r, d, 0, 2) else if 99999999 < r.next then (r, d, 0, 1) else if (r.more d).2.2 = 0 then Rl.write (r.more d) p else ((r.more d).1, (r.more d).2.1, 0, (r.more d).2.2)
/-- The document's log of a log. -/
def Lg.ref (lg : Lg) : Rl := ⟨lg.dir, (lg.full : Int), lg.segs.map Sg.first, allR lg.segs, lg.safe⟩
/-- The last file is as long as the log takes it to be, while the power is on. -/
def Tip (lg : Lg) (d : Dk) : Prop := d.off = true ∨ (d.read (segN lg.dir lg.last.first)).1.length = lg.last.size
section
variable {lg : Lg} {lo : Nat} {all : List (List UInt8)} {d : Dk} {p : List UInt8}
theorem ref_low (h : 0 < lg.segs.length) : lg.ref.low = lg.low := by
  unfold Rl.low Lg.low Lg.ref
  cases hs : lg.segs with
  | nil => rw [hs] at h; exact absurd h (Nat.lt_irrefl 0)
  | cons g r => rfl
theorem ref_end (h : 0 < lg.segs.length) : lg.ref.end_ = lg.last.first := by
  unfold Rl.end_ Lg.last Lg.ref
  show (lg.segs.map Sg.first).getD ((lg.segs.map Sg.first).length - 1) 0 = _
  rw [List.length_map, List.getD_eq_getElem?_getD, List.getD_eq_getElem?_getD, List.getElem?_map, List.getElem?_eq_getElem (by omega)]
  rfl
theorem Ch.ref_all (h : Ch lg lo all) : lg.ref.all = all := by
  obtain ⟨init, g, s1, s2, s3⟩ := h.seg
  show allR lg.segs = _
  rw [s1, s3]
theorem Ch.ref_next (h : Ch lg lo all) : lg.ref.next = lg.next := by
  unfold Rl.next
  rw [ref_low h.ok.ne, h.low, h.ref_all, h.next]
theorem Ch.ref_sync (h : Ch lg lo all) (d : Dk) : lg.ref.sync d = ((lg.sync d).1.ref, (lg.sync d).2.1, (lg.sync d).2.2) := by
  unfold Rl.sync Lg.sync
  rw [ref_end h.ok.ne, h.ref_next]
  show (if (d.sync (segN lg.dir lg.last.first)).2 = 0 then _ else _) = _
  split <;> rfl
theorem Ch.ref_put (h : Ch lg lo all) (p : List UInt8) : (lg.put p).ref = { lg.ref with all := lg.ref.all ++ [p] } := by
  obtain ⟨init, g, s1, s2, s3⟩ := h.seg
  obtain ⟨hg, hlen⟩ := h.last s1
  have hs : (lg.put p).segs = init ++ [⟨g.first, g.recs ++ [p]⟩] := by
    show lg.segs.set (lg.segs.length - 1) ⟨lg.last.first, lg.last.recs ++ [p]⟩ = _
    rw [hlen, hg, s1]
    simp
  show (⟨lg.dir, (lg.full : Int), (lg.put p).segs.map Sg.first, allR (lg.put p).segs, lg.safe⟩ : Rl) = ⟨lg.dir, (lg.full : Int), lg.segs.map Sg.first, allR lg.segs ++ [p], lg.safe⟩
  rw [hs, s1, allR_append, allR_append, allR_one, allR_one, List.append_assoc, List.map_append, List.map_append]
  rfl
theorem ref_snoc (lg : Lg) (n : Nat) : ({ lg with segs := lg.segs ++ [⟨n, []⟩] } : Lg).ref = { lg.ref with nums := lg.ref.nums ++ [n] } := by
  show (⟨lg.dir, (lg.full : Int), (lg.segs ++ [(⟨n, []⟩ : Sg)]).map Sg.first, allR (lg.segs ++ [⟨n, []⟩]), lg.safe⟩ : Rl) = _
  rw [allR_append, allR_one, List.append_nil, List.map_append]
  rfl
theorem Ch.ref_more (h : Ch lg lo all) (ht : (d.read (segN lg.dir lg.last.first)).1.length = lg.last.size) : lg.ref.more d = ((lg.room d).1.ref, (lg.room d).2.1, (lg.room d).2.2) := by
  unfold Rl.more Lg.room
  rw [ref_end h.ok.ne, h.ref_next, h.ref_sync]
  show (if ((d.read (segN lg.dir lg.last.first)).1.length : Int) < (lg.full : Int) then _ else _) = _
  rw [ht]
  by_cases h1 : lg.last.size < lg.full
  · rw [if_pos (by omega), if_pos h1]
  · rw [if_neg (by omega), if_neg h1]
    by_cases h2 : (lg.sync d).2.2 = 0
    · rw [if_pos h2, if_pos h2]
      obtain ⟨a1, a2, a3, a4, _⟩ := h.sync d
      unfold Lg.begin
      rw [a3]
      show (if ((lg.sync d).2.1.create (segN lg.dir lg.next)).2 = 0 then _ else _) = _
      split
      · have e := ref_snoc (lg.sync d).1 lg.next
        have e2 : (lg.sync d).1.ref.nums = lg.ref.nums := by show (lg.sync d).1.segs.map _ = _; rw [a2]; rfl
        rw [e2] at e
        have e3 : ({ (lg.sync d).1 with dir := lg.dir, segs := (lg.sync d).1.segs ++ [⟨lg.next, []⟩] } : Lg) = { (lg.sync d).1 with segs := (lg.sync d).1.segs ++ [⟨lg.next, []⟩] } := by rw [← a3]
        refine Prod.ext ?_ rfl
        exact e.symm.trans (congrArg Lg.ref e3.symm)
      · rfl
    · rw [if_neg h2, if_neg h2]
theorem Ch.ref_write (h : Ch lg lo all) (d : Dk) (k : Nat) (p : List UInt8) : Rl.write (lg.ref, d, k) p = ((Lg.write (lg, d, k) lg.next p).1.ref, (Lg.write (lg, d, k) lg.next p).2.1, (Lg.write (lg, d, k) lg.next p).2.2.1, (Lg.write (lg, d, k) lg.next p).2.2.2) := by
  unfold Rl.write Lg.write
  show (if (d.append (segN lg.dir lg.ref.end_) (Fr.frameV p)).2 = 0 then ({ lg.ref with all := lg.ref.all ++ [p] }, (d.append (segN lg.dir lg.ref.end_) (Fr.frameV p)).1, lg.ref.next, 0) else (lg.ref, (d.append (segN lg.dir lg.ref.end_) (Fr.frameV p)).1, 0, (d.append (segN lg.dir lg.ref.end_) (Fr.frameV p)).2)) = _
  rw [ref_end h.ok.ne, h.ref_next, ← h.ref_put]
  show _ = ((if (d.append (segN lg.dir lg.last.first) (Fr.frameV p)).2 = 0 then (lg.put p, (d.append (segN lg.dir lg.last.first) (Fr.frameV p)).1, lg.next, 0) else (lg, (d.append (segN lg.dir lg.last.first) (Fr.frameV p)).1, 0, (d.append (segN lg.dir lg.last.first) (Fr.frameV p)).2) : Lg × Dk × Nat × Nat).1.ref, _)
  split <;> rfl
theorem off_sync (hoff : d.off = true) (s : Nm) : d.sync s = (d, 12) := by unfold Dk.sync; rw [if_pos hoff]
theorem off_append (hoff : d.off = true) (s : Nm) (b : List UInt8) : d.append s b = (d, 12) := by unfold Dk.append; rw [if_pos hoff]
/-- Append of both. -/
theorem Ch.ref_append (h : Ch lg lo all) (ht : Tip lg d) (hfew : lg.segs.length ≤ 999999) (p : List UInt8) : lg.ref.append d p = ((lg.append d p).1.ref, (lg.append d p).2.1, (lg.append d p).2.2.1, (lg.append d p).2.2.2) := by
  unfold Rl.append Lg.append
  rw [h.ref_next]
  by_cases h1 : 262144 < p.length
  · rw [if_pos h1, if_pos h1]
  rw [if_neg h1, if_neg h1]
  by_cases h2 : 99999999 < lg.next
  · rw [if_pos h2, if_pos h2]
  rw [if_neg h2, if_neg h2]
  rcases ht with hoff | ht
  · have e1 : lg.ref.sync d = (lg.ref, d, 12) := by unfold Rl.sync; rw [off_sync hoff, if_neg (by show ¬ (12 : Nat) = 0; decide)]
    have e2 : lg.sync d = (lg, d, 12) := by unfold Lg.sync; rw [off_sync hoff, if_neg (by show ¬ (12 : Nat) = 0; decide)]
    have e3 : lg.ref.more d = (lg.ref, d, 0) ∨ lg.ref.more d = (lg.ref, d, 12) := by
      unfold Rl.more
      rw [e1]
      split
      · exact .inl rfl
      · rw [if_neg (by show ¬ (12 : Nat) = 0; decide)]; exact .inr rfl
    have e4 : lg.room d = (lg, d, 0) ∨ lg.room d = (lg, d, 12) := by
      unfold Lg.room
      rw [e2]
      split
      · exact .inl rfl
      · rw [if_neg (by show ¬ (12 : Nat) = 0; decide)]; exact .inr rfl
    have e5 : Rl.write (lg.ref, d, 0) p = (lg.ref, d, 0, 12) := by unfold Rl.write; rw [off_append hoff, if_neg (by show ¬ (12 : Nat) = 0; decide)]
    have e6 : Lg.write (lg, d, 0) lg.next p = (lg, d, 0, 12) := by unfold Lg.write; rw [off_append hoff, if_neg (by show ¬ (12 : Nat) = 0; decide)]
    rcases e3 with e3 | e3 <;> rcases e4 with e4 | e4 <;> rw [e3, e4] <;> simp [e5, e6]
  · rw [h.ref_more ht]
    obtain ⟨a1, a2, a3, a4, a5, a6⟩ := h.room hfew (by omega) d
    by_cases h3 : (lg.room d).2.2 = 0
    · rw [if_pos h3, if_pos h3, a1.ref_write, a6]
    · rw [if_neg h3, if_neg h3]
end
end Go.Proofs.YtkilkhnoldfhcaaGreatDoor
namespace Go.Proofs.YtkilkhnoldfhcaaGreatDoor
open Go.RowKit
section
variable {d d' : Dk} {s t : Nm}
theorem read_f (h : d'.f = d.f) (t : Nm) : d'.read t = d.read t := by unfold Dk.read; rw [h]
theorem spent_f (d : Dk) : d.spend.1.f = d.f := by unfold Dk.spend; split <;> rfl
theorem spent_off (d : Dk) (h : d.spend.2 = false) : d.spend.1.off = true := by
  unfold Dk.spend at h ⊢
  by_cases h1 : d.left = 1
  · rw [if_pos h1]
  · rw [if_neg h1] at h; cases h
theorem not_true {x : Bool} (h : ¬ x = true) : x = false := by cases x; rfl; exact absurd rfl h
theorem create_ways (d : Dk) (s : Nm) : (∃ k, k ≠ 0 ∧ d.create s = (d, k)) ∨ (d.off = false ∧ has d.f s = false ∧ d.create s = ({ d.spend.1 with f := put d.f s ⟨[], 0⟩ }, 0)) ∨ (d.spend.2 = false ∧ d.create s = (d.spend.1, 12)) := by
  unfold Dk.create
  by_cases h1 : d.off = true
  · rw [if_pos h1]; exact .inl ⟨12, by decide, rfl⟩
  rw [if_neg h1]
  by_cases h2 : (!isNm s) = true
  · rw [if_pos h2]; exact .inl ⟨10, by decide, rfl⟩
  rw [if_neg h2]
  by_cases h3 : has d.f s = true
  · rw [if_pos h3]; exact .inl ⟨9, by decide, rfl⟩
  rw [if_neg h3]
  by_cases h4 : 64 ≤ d.f.length
  · rw [if_pos h4]; exact .inl ⟨3, by decide, rfl⟩
  rw [if_neg h4]
  by_cases h5 : d.spend.2 = true
  · rw [if_pos h5]; exact .inr (.inl ⟨not_true h1, not_true h3, rfl⟩)
  · rw [if_neg h5]; exact .inr (.inr ⟨not_true h5, rfl⟩)
theorem has_of_not (h : ¬ (!has d.f s) = true) : has d.f s = true := by cases hh : has d.f s; rw [hh] at h; exact absurd rfl h; rfl
theorem sync_ways (d : Dk) (s : Nm) : (∃ k, k ≠ 0 ∧ d.sync s = (d, k)) ∨ (d.sync s = ({ d.spend.1 with f := upd d.f s fun x => ⟨x.data, x.data.length⟩ }, 0)) ∨ (d.spend.2 = false ∧ d.sync s = (d.spend.1, 12)) := by
  unfold Dk.sync
  by_cases h1 : d.off = true
  · rw [if_pos h1]; exact .inl ⟨12, by decide, rfl⟩
  rw [if_neg h1]
  by_cases h2 : (!has d.f s) = true
  · rw [if_pos h2]; exact .inl ⟨8, by decide, rfl⟩
  rw [if_neg h2]
  by_cases h5 : d.spend.2 = true
  · rw [if_pos h5]; exact .inr (.inl rfl)
  · rw [if_neg h5]; exact .inr (.inr ⟨not_true h5, rfl⟩)
theorem remove_ways (d : Dk) (s : Nm) : (∃ k, k ≠ 0 ∧ d.remove s = (d, k)) ∨ (has d.f s = true ∧ d.remove s = ({ d.spend.1 with f := del d.f s }, 0)) ∨ (d.spend.2 = false ∧ d.remove s = (d.spend.1, 12)) := by
  unfold Dk.remove
  by_cases h1 : d.off = true
  · rw [if_pos h1]; exact .inl ⟨12, by decide, rfl⟩
  rw [if_neg h1]
  by_cases h2 : (!has d.f s) = true
  · rw [if_pos h2]; exact .inl ⟨8, by decide, rfl⟩
  rw [if_neg h2]
  by_cases h5 : d.spend.2 = true
  · rw [if_pos h5]; exact .inr (.inl ⟨has_of_not h2, rfl⟩)
  · rw [if_neg h5]; exact .inr (.inr ⟨not_true h5, rfl⟩)
theorem cut_ways (d : Dk) (s : Nm) (n : Int) : (∃ k, k ≠ 0 ∧ d.cut s n = (d, k)) ∨ (has d.f s = true ∧ d.cut s n = ({ d.spend.1 with f := upd d.f s fun x => ⟨x.data.take n.toNat, min x.safe n.toNat⟩ }, 0)) ∨ (d.spend.2 = false ∧ d.cut s n = (d.spend.1, 12)) := by
  unfold Dk.cut
  by_cases h1 : d.off = true
  · rw [if_pos h1]; exact .inl ⟨12, by decide, rfl⟩
  rw [if_neg h1]
  by_cases h2 : (!has d.f s) = true
  · rw [if_pos h2]; exact .inl ⟨8, by decide, rfl⟩
  rw [if_neg h2]
  by_cases h3 : n < 0 ∨ (len d.f s : Int) < n
  · rw [if_pos h3]; exact .inl ⟨1, by decide, rfl⟩
  rw [if_neg h3]
  by_cases h5 : d.spend.2 = true
  · rw [if_pos h5]; exact .inr (.inl ⟨has_of_not h2, rfl⟩)
  · rw [if_neg h5]; exact .inr (.inr ⟨not_true h5, rfl⟩)
theorem append_ways (d : Dk) (s : Nm) (b : List UInt8) : (∃ k, k ≠ 0 ∧ d.append s b = (d, k)) ∨ (has d.f s = true ∧ d.append s b = ({ d.spend.1 with f := upd d.f s fun x => ⟨x.data ++ b, x.safe⟩ }, 0)) ∨ (d.spend.2 = false ∧ d.append s b = ({ d.spend.1 with f := upd d.f s fun x => ⟨x.data ++ b, x.safe⟩ }, 12)) := by
  unfold Dk.append
  by_cases h1 : d.off = true
  · rw [if_pos h1]; exact .inl ⟨12, by decide, rfl⟩
  rw [if_neg h1]
  by_cases h2 : (!has d.f s) = true
  · rw [if_pos h2]; exact .inl ⟨8, by decide, rfl⟩
  rw [if_neg h2]
  by_cases h3 : 4194304 - tot d.f < b.length
  · rw [if_pos h3]; exact .inl ⟨11, by decide, rfl⟩
  rw [if_neg h3]
  by_cases h5 : d.spend.2 = true
  · rw [if_pos h5]; exact .inr (.inl ⟨has_of_not h2, rfl⟩)
  · rw [if_neg h5]; exact .inr (.inr ⟨not_true h5, rfl⟩)
theorem read_eq (h : get d'.f t = get d.f t) : d'.read t = d.read t := by unfold Dk.read; rw [h]
theorem read_create (hr : Rising d.f) (hne : t ≠ s) : (d.create s).1.read t = d.read t := by
  rcases create_ways d s with ⟨k, _, e⟩ | ⟨_, _, e⟩ | ⟨_, e⟩ <;> rw [e]
  · exact read_eq (get_put_other hr _ hne)
  · exact read_f (spent_f d) t
theorem read_created (hr : Rising d.f) (h : (d.create s).2 = 0) : ((d.create s).1.read s).1 = [] := by
  rcases create_ways d s with ⟨k, hk, e⟩ | ⟨_, _, e⟩ | ⟨_, e⟩ <;> rw [e] at h ⊢
  · exact absurd h hk
  · show (Dk.read { d.spend.1 with f := put d.f s ⟨[], 0⟩ } s).1 = []
    unfold Dk.read
    rw [get_put_same hr]
  · exact absurd h (by show ¬ (12 : Nat) = 0; decide)
theorem fell_create (h : (d.create s).2 ≠ 0) : (d.create s).1 = d ∨ (d.create s).1.off = true := by
  rcases create_ways d s with ⟨k, hk, e⟩ | ⟨_, _, e⟩ | ⟨h2, e⟩ <;> rw [e] at h ⊢
  · exact .inl rfl
  · exact absurd rfl h
  · exact .inr (spent_off d h2)
theorem fell_remove (h : (d.remove s).2 ≠ 0) : (d.remove s).1 = d ∨ (d.remove s).1.off = true := by
  rcases remove_ways d s with ⟨k, hk, e⟩ | ⟨_, e⟩ | ⟨h2, e⟩ <;> rw [e] at h ⊢
  · exact .inl rfl
  · exact absurd rfl h
  · exact .inr (spent_off d h2)
theorem read_upd {g : Fi → Fi} (h : d'.f = upd d.f s g) (hg : ∀ x, (g x).data = x.data) (t : Nm) : d'.read t = d.read t := by
  unfold Dk.read
  rw [h]
  by_cases e : t = s
  · subst e
    rw [get_upd_same]
    cases get d.f t with
    | none => rfl
    | some x => show ((g x).data, 0) = _; rw [hg]
  · rw [get_upd_other e]
theorem read_sync (d : Dk) (s t : Nm) : (d.sync s).1.read t = d.read t := by
  rcases sync_ways d s with ⟨k, hk, e⟩ | e | ⟨h2, e⟩ <;> rw [e]
  · exact read_upd (s := s) (g := fun x => ⟨x.data, x.data.length⟩) rfl (fun _ => rfl) t
  · exact read_f (spent_f d) t
theorem read_remove (hr : Rising d.f) (hne : t ≠ s) : (d.remove s).1.read t = d.read t := by
  rcases remove_ways d s with ⟨k, hk, e⟩ | ⟨_, e⟩ | ⟨h2, e⟩ <;> rw [e]
  · exact read_eq (get_del_other hr hne)
  · exact read_f (spent_f d) t
theorem read_at {g : Fi → Fi} (hh : has d.f s = true) (h : d'.f = upd d.f s g) : ∃ x, get d.f s = some x ∧ (d'.read s).1 = (g x).data ∧ (d.read s).1 = x.data := by
  obtain ⟨x, hx⟩ := has_some (d := d) (s := s) hh
  refine ⟨x, hx, ?_, ?_⟩
  · unfold Dk.read
    rw [h, get_upd_same, hx]
    rfl
  · unfold Dk.read
    rw [hx]
theorem read_append {b : List UInt8} (h : (d.append s b).2 = 0) : ((d.append s b).1.read s).1 = (d.read s).1 ++ b := by
  rcases append_ways d s b with ⟨k, hk, e⟩ | ⟨hh, e⟩ | ⟨h2, e⟩ <;> rw [e] at h ⊢
  · exact absurd h hk
  · obtain ⟨x, _, h1, h2⟩ := read_at (d' := { d.spend.1 with f := upd d.f s fun x => ⟨x.data ++ b, x.safe⟩ }) (g := fun x => ⟨x.data ++ b, x.safe⟩) hh rfl
    rw [h2]
    exact h1
  · exact absurd h (by show ¬ (12 : Nat) = 0; decide)
theorem fell_append {b : List UInt8} (h : (d.append s b).2 ≠ 0) : (d.append s b).1 = d ∨ (d.append s b).1.off = true := by
  rcases append_ways d s b with ⟨k, hk, e⟩ | ⟨hh, e⟩ | ⟨h2, e⟩ <;> rw [e] at h ⊢
  · exact .inl rfl
  · exact absurd rfl h
  · exact .inr (spent_off d h2)
theorem fell_cut {n : Int} (h : (d.cut s n).2 = 0) : ((d.cut s n).1.read s).1 = (d.read s).1.take n.toNat := by
  rcases cut_ways d s n with ⟨k, hk, e⟩ | ⟨hh, e⟩ | ⟨h2, e⟩ <;> rw [e] at h ⊢
  · exact absurd h hk
  · obtain ⟨x, _, h1, h2⟩ := read_at (d' := { d.spend.1 with f := upd d.f s fun x => ⟨x.data.take n.toNat, min x.safe n.toNat⟩ }) (g := fun x => ⟨x.data.take n.toNat, min x.safe n.toNat⟩) hh rfl
    rw [h2]
    exact h1
  · exact absurd h (by show ¬ (12 : Nat) = 0; decide)
theorem tot_f {f g : Ent Fi} (h : f = g) : tot f ≤ tot g := by rw [h]; exact Nat.le_refl _
theorem tot_upd_le (hr : Rising d.f) (g : Fi → Fi) (k : Nat) (hg : ∀ x, (g x).data.length ≤ x.data.length + k) : tot (upd d.f s g) ≤ tot d.f + k := by
  cases hx : get d.f s with
  | none =>
    have e : upd d.f s g = d.f := by
      unfold upd
      have h0 := get_none hx
      rw [List.map_congr_left (g := id) (fun p hp => by rw [if_neg (by intro e; exact h0 p hp (eq_of_beq e))]; rfl), List.map_id]
    rw [e]; omega
  | some x =>
    have := tot_upd hr g hx
    have := hg x
    omega
theorem tot_create (_hr : Rising d.f) : tot (d.create s).1.f ≤ tot d.f := by
  rcases create_ways d s with ⟨k, hk, e⟩ | ⟨_, hh, e⟩ | ⟨h2, e⟩ <;> rw [e]
  · exact Nat.le_refl _
  · show tot (put d.f s ⟨[], 0⟩) ≤ _
    unfold put
    have h0 := get_none (has_none hh)
    rw [tot_ins, del_none (fun q hq e => h0 q hq e)]
    show 0 + _ ≤ _
    omega
  · exact tot_f (spent_f d)
theorem tot_sync (hr : Rising d.f) : tot (d.sync s).1.f ≤ tot d.f := by
  rcases sync_ways d s with ⟨k, hk, e⟩ | e | ⟨h2, e⟩ <;> rw [e]
  · exact Nat.le_refl _
  · exact tot_upd_le (s := s) hr (fun x => ⟨x.data, x.data.length⟩) 0 (fun x => Nat.le_refl _)
  · exact tot_f (spent_f d)
theorem tot_grow (hr : Rising d.f) (b : List UInt8) : tot (d.append s b).1.f ≤ tot d.f + b.length := by
  rcases append_ways d s b with ⟨k, hk, e⟩ | ⟨_, e⟩ | ⟨h2, e⟩ <;> rw [e]
  · exact Nat.le_add_right _ _
  · exact tot_upd_le (s := s) hr (fun x => ⟨x.data ++ b, x.safe⟩) b.length (fun x => by show (x.data ++ b).length ≤ _; rw [List.length_append]; exact Nat.le_refl _)
  · exact tot_upd_le (s := s) hr (fun x => ⟨x.data ++ b, x.safe⟩) b.length (fun x => by show (x.data ++ b).length ≤ _; rw [List.length_append]; exact Nat.le_refl _)
theorem tot_remove (hr : Rising d.f) : tot (d.remove s).1.f ≤ tot d.f := by
  rcases remove_ways d s with ⟨k, hk, e⟩ | ⟨hh, e⟩ | ⟨h2, e⟩ <;> rw [e]
  · exact Nat.le_refl _
  · obtain ⟨x, hx⟩ := has_some (d := d) (s := s) hh
    have := tot_del hr hx
    show tot (del d.f s) ≤ _
    omega
  · exact tot_f (spent_f d)
theorem tot_cut (hr : Rising d.f) (n : Int) : tot (d.cut s n).1.f ≤ tot d.f := by
  rcases cut_ways d s n with ⟨k, hk, e⟩ | ⟨_, e⟩ | ⟨h2, e⟩ <;> rw [e]
  · exact Nat.le_refl _
  · exact tot_upd_le (s := s) hr (fun x => ⟨x.data.take n.toNat, min x.safe n.toNat⟩) 0 (fun x => by show (x.data.take n.toNat).length ≤ _; rw [List.length_take]; omega)
  · exact tot_f (spent_f d)
theorem spent_done (d : Dk) : d.spend.1.done ≤ d.done + 1 := by unfold Dk.spend; split; exact Nat.le_add_right _ _; exact Nat.le_refl _
theorem create_done (d : Dk) (s : Nm) : (d.create s).1.done ≤ d.done + 1 := by
  rcases create_ways d s with ⟨k, hk, e⟩ | ⟨_, _, e⟩ | ⟨h2, e⟩ <;> rw [e]
  · exact Nat.le_add_right _ _
  · exact spent_done d
  · exact spent_done d
end
end Go.Proofs.YtkilkhnoldfhcaaGreatDoor
namespace Go.Proofs.YtkilkhnoldfhcaaGreatDoor
open Go.RowKit
theorem arm_tot7 (d : Dk) (n : Int) : (d.arm n).f = d.f ∧ (d.arm n).off = d.off ∧ (d.arm n).done = d.done := by unfold Dk.arm; split <;> exact ⟨rfl, rfl, rfl⟩
theorem dk_arm7 {S : Nat → Prop} {w : World} {dp : Nat} {d : Dk} (h : DK S w dp d) (n : Int) (h1 : -9223372036854775808 ≤ n) (h2 : n ≤ 9223372036854775807) : Calls Tryz.prog 19 #[ptr dp, .int .i64 n] w fun e w' => e = .returned (.tuple #[]) ∧ DK S w' dp (d.arm n) ∧ Tn S w w' := by
  obtain ⟨m, ρ, δ, h⟩ := h
  exact (arm_any h n h1 h2).mono fun e w' ⟨e1, e2, e3⟩ => ⟨e1, ⟨m, ρ, δ, e2⟩, e3⟩
/-- A log over its disk: at most n segments, T bytes. -/
structure Pl (n T : Nat) (lg : Lg) (d : Dk) : Prop where
  ch : ∃ lo all, Ch lg lo all ∧ wt all ≤ 64 * T
  tip : Tip lg d
  rise : (lg.segs.map Sg.first).Pairwise (· < ·)
  few : lg.segs.length ≤ n
  low : ∀ x ∈ lg.segs.map Sg.first, x ≤ lg.safe + 1
  full : 64 ≤ lg.full ∧ lg.full ≤ 262144
section
variable {n T lo : Nat} {lg : Lg} {d : Dk} {all : List (List UInt8)} {p : List UInt8} {dir : Nm}
theorem Ch.le_next (h : Ch lg lo all) : ∀ g ∈ lg.segs, g.first ≤ lg.next := fun g hg => by
  obtain ⟨g0, r, h1, h2, h3, h4⟩ := h.cons
  rw [h1] at hg
  have := (linked_in r g0 h2 g hg).2
  rw [h3, h4, ← h.next] at this
  omega
theorem Pl.mono (h : Pl n T lg d) {m U : Nat} (hm : n ≤ m) (hU : T ≤ U) : Pl m U lg d := by
  obtain ⟨lo, all, hc, hw⟩ := h.ch
  exact ⟨⟨lo, all, hc, by omega⟩, h.tip, h.rise, Nat.le_trans h.few hm, h.low, h.full⟩
theorem Pl.turn {d' : Dk} (h : Pl n T lg d) (ht : d' = d ∨ d'.off = true) : Pl n T lg d' := by
  rcases ht with e | e
  · rw [e]; exact h
  · exact ⟨h.ch, .inl e, h.rise, h.few, h.low, h.full⟩
theorem Pl.sync (h : Pl n T lg d) : Pl n T (lg.sync d).1 (lg.sync d).2.1 := by
  obtain ⟨lo, all, hc, hw⟩ := h.ch
  obtain ⟨a1, a2, a3, a4, a5, a6, a7⟩ := hc.sync d
  have hd : (lg.sync d).2.1 = (d.sync (segN lg.dir lg.last.first)).1 := by unfold Lg.sync; split <;> rfl
  have hla : (lg.sync d).1.last = lg.last := by unfold Lg.last; rw [a2]
  refine ⟨⟨lo, all, a1, hw⟩, ?_, by rw [a2]; exact h.rise, by rw [a2]; exact h.few, ?_, by rw [a4]; exact h.full⟩
  · unfold Tip
    rw [hd, hla, a3]
    rcases h.tip with e | e
    · left; rw [off_sync e]; exact e
    · right; rw [read_sync]; exact e
  · rw [a2]
    intro x hx
    by_cases h0 : (lg.sync d).2.2 = 0
    · have h7 := a7 h0
      obtain ⟨g, hg, rfl⟩ := List.mem_map.1 hx
      have := hc.le_next g hg
      rw [hc.next] at this
      omega
    · have : (lg.sync d).1.safe = lg.safe := by
        unfold Lg.sync at h0 ⊢
        split
        · rename_i h1; rw [if_pos h1] at h0; exact absurd rfl h0
        · rfl
      rw [this]
      exact h.low x hx
theorem Pl.begin (h : Pl n T lg d) (hr : Rising d.f) (hbig : ¬ lg.last.size < lg.full) (hsafe : lg.safe + 1 = lg.next) (hn : lg.next ≤ 99999999) (hfew : n ≤ 999999) : Pl (n + 1) T (lg.begin d lg.next).1 (lg.begin d lg.next).2.1 := by
  obtain ⟨lo, all, hc, hw⟩ := h.ch
  have hl := h.few
  obtain ⟨b1, b2, b3, b4, b5, b6, b7⟩ := hc.begin (by omega) hn d
  by_cases h0 : (d.create (segN lg.dir lg.next)).2 = 0
  · have e : lg.begin d lg.next = ({ lg with segs := lg.segs ++ [⟨lg.next, []⟩] }, (d.create (segN lg.dir lg.next)).1, 0) := by unfold Lg.begin; rw [if_pos h0]
    rw [e] at b1 b2 ⊢
    refine ⟨⟨lo, all, b1, hw⟩, .inr ?_, ?_, by omega, ?_, h.full⟩
    · rw [last_snoc]
      show ((d.create (segN lg.dir lg.next)).1.read (segN lg.dir lg.next)).1.length = _
      rw [read_created hr h0]
      rfl
    · show ((lg.segs ++ [(⟨lg.next, []⟩ : Sg)]).map Sg.first).Pairwise (· < ·)
      rw [List.map_append, List.pairwise_append]
      refine ⟨h.rise, List.pairwise_singleton _ _, fun x hx y hy => ?_⟩
      obtain rfl : y = lg.next := by simpa using hy
      obtain ⟨g, hg, rfl⟩ := List.mem_map.1 hx
      obtain ⟨init, g0, s1, s2, s3⟩ := hc.seg
      have hla := (hc.last s1).1
      have hnx : lg.next = g0.next := by unfold Lg.next; rw [hla]
      have hrec : 0 < g0.recs.length := nonempty_of_size (by rw [← hla]; have := h.full; omega)
      rw [s1] at hg
      rcases List.mem_append.1 hg with hg | hg
      · have := linked_init init g0 s2 g hg
        rw [hnx]
        unfold Sg.next at this ⊢
        omega
      · obtain rfl : g = g0 := by simpa using hg
        rw [hnx]
        unfold Sg.next
        omega
    · show ∀ x ∈ (lg.segs ++ [(⟨lg.next, []⟩ : Sg)]).map Sg.first, x ≤ lg.safe + 1
      intro x hx
      rw [List.map_append] at hx
      rcases List.mem_append.1 hx with hx | hx
      · exact h.low x hx
      · obtain rfl : x = lg.next := by simpa using hx
        omega
  · have e : lg.begin d lg.next = (lg, (d.create (segN lg.dir lg.next)).1, (d.create (segN lg.dir lg.next)).2) := by unfold Lg.begin; rw [if_neg h0]
    rw [e]
    exact (h.turn (fell_create h0)).mono (by omega) (Nat.le_refl _)
theorem Pl.room (h : Pl n T lg d) (hok : Ok d) (hn : lg.next ≤ 99999999) (hfew : n ≤ 999999) : Pl (n + 1) T (lg.room d).1 (lg.room d).2.1 := by
  obtain ⟨lo, all, hc, hw⟩ := h.ch
  obtain ⟨a1, a2, a3, a4, a5, a6, a7⟩ := hc.sync d
  have hla : (lg.sync d).1.last = lg.last := by unfold Lg.last; rw [a2]
  have hd : (lg.sync d).2.1 = (d.sync (segN lg.dir lg.last.first)).1 := by unfold Lg.sync; split <;> rfl
  unfold Lg.room
  split
  · exact h.mono (by omega) (Nat.le_refl _)
  rename_i hbig
  split
  · rename_i h0
    have h7 := a7 h0
    have hnx := hc.next
    have hb := h.sync.begin (by rw [hd]; exact hok.sync.rising) (by rw [hla, a4]; exact hbig) (by rw [a6]; omega) (by rw [a6]; exact hn) hfew
    rw [a6] at hb
    exact hb
  · exact h.sync.mono (by omega) (Nat.le_refl _)
theorem Pl.write (h : Pl n T lg d) (hT : 64 * (T + (p.length + 12)) ≤ 4194304) (k m : Nat) : Pl n (T + (p.length + 12)) (Lg.write (lg, d, k) m p).1 (Lg.write (lg, d, k) m p).2.1 := by
  obtain ⟨lo, all, hc, hw⟩ := h.ch
  by_cases h0 : (d.append (segN lg.dir lg.last.first) (Fr.frameV p)).2 = 0
  · have e : Lg.write (lg, d, k) m p = (lg.put p, (d.append (segN lg.dir lg.last.first) (Fr.frameV p)).1, m, 0) := by unfold Lg.write; exact if_pos h0
    rw [e]
    obtain ⟨c1, c2⟩ := hc.put (p := p) (by omega)
    have hnum : (lg.put p).segs.map Sg.first = lg.segs.map Sg.first := congrArg Rl.nums (hc.ref_put p)
    have hlast : (lg.put p).last = ⟨lg.last.first, lg.last.recs ++ [p]⟩ := by
      obtain ⟨init, g, s1, s2, s3⟩ := hc.seg
      obtain ⟨hg, hlen⟩ := hc.last s1
      have hs : (lg.put p).segs = init ++ [⟨g.first, g.recs ++ [p]⟩] := by
        show lg.segs.set (lg.segs.length - 1) ⟨lg.last.first, lg.last.recs ++ [p]⟩ = _
        rw [hlen, hg, s1]
        simp
      rw [(c1.last hs).1, hg]
    refine ⟨⟨lo, all ++ [p], c1, by rw [wt_append, wt_one]; omega⟩, ?_, by rw [hnum]; exact h.rise, by rw [c2]; exact h.few, by rw [hnum]; exact h.low, h.full⟩
    rcases h.tip with e | e
    · exfalso
      rw [off_append e] at h0
      exact absurd h0 (by show ¬ (12 : Nat) = 0; decide)
    · right
      rw [hlast, size_snoc]
      show ((d.append (segN lg.dir lg.last.first) (Fr.frameV p)).1.read (segN lg.dir lg.last.first)).1.length = _
      rw [read_append h0, List.length_append, e, Fr.frame_length]
  · have e : Lg.write (lg, d, k) m p = (lg, (d.append (segN lg.dir lg.last.first) (Fr.frameV p)).1, 0, (d.append (segN lg.dir lg.last.first) (Fr.frameV p)).2) := by unfold Lg.write; exact if_neg h0
    rw [e]
    exact (h.turn (fell_append h0)).mono (Nat.le_refl _) (by omega)
theorem Pl.append (h : Pl n T lg d) (hok : Ok d) (hfew : n ≤ 999998) (hT : 64 * (T + (p.length + 12)) ≤ 4194304) : Pl (n + 1) (T + (p.length + 12)) (lg.append d p).1 (lg.append d p).2.1 := by
  unfold Lg.append
  split
  · exact h.mono (by omega) (by omega)
  split
  · exact h.mono (by omega) (by omega)
  rename_i h2
  have hr := h.room hok (by omega) (by omega)
  split
  · exact hr.write hT _ _
  · exact hr.mono (Nat.le_refl _) (by omega)
theorem Pl.trim {full safe : Nat} {low : Int} : ∀ (gs : List Sg) (d : Dk), Pl n T ⟨dir, full, gs, safe⟩ d → Ok d →
    Pl n T (Lg.trim ⟨dir, full, gs, safe⟩ d low).1 (Lg.trim ⟨dir, full, gs, safe⟩ d low).2.1 ∧ (Lg.trim ⟨dir, full, gs, safe⟩ d low).2.1.done ≤ d.done + gs.length ∧ tot (Lg.trim ⟨dir, full, gs, safe⟩ d low).2.1.f ≤ tot d.f
  | [], d, h, _ => by obtain ⟨lo, all, hc, _⟩ := h.ch; exact absurd hc.ok.ne (Nat.lt_irrefl 0)
  | [g], d, h, _ => ⟨h, Nat.le_add_right _ _, Nat.le_refl _⟩
  | g :: g2 :: r, d, h, hok => by
    unfold Lg.trim
    show Pl n T { dir := dir, full := full, segs := (trimL dir low (g :: g2 :: r) d).1, safe := safe } (trimL dir low (g :: g2 :: r) d).2.1 ∧ (trimL dir low (g :: g2 :: r) d).2.1.done ≤ d.done + (g :: g2 :: r).length ∧ tot (trimL dir low (g :: g2 :: r) d).2.1.f ≤ tot d.f
    have hdn := remove_done d (segN dir g.first)
    have htt := tot_remove (s := segN dir g.first) hok.rising
    by_cases hle : (g.next : Int) ≤ low
    · by_cases h3 : (d.remove (segN dir g.first)).2 = 0
      · rw [trim_go hle rfl h3]
        obtain ⟨lo, all, hc, hw⟩ := h.ch
        obtain ⟨t1, t2, t3⟩ := hc.tail
        have hp2 : Pl n T ⟨dir, full, g2 :: r, safe⟩ (d.remove (segN dir g.first)).1 := by
          have hri := h.rise
          have hri2 := List.pairwise_cons.1 hri
          refine ⟨⟨_, _, t3, ?_⟩, ?_, hri2.2, ?_, fun x hx => h.low x (List.mem_cons_of_mem _ hx), h.full⟩
          · refine Nat.le_trans ?_ hw
            conv => rhs; rw [← List.take_append_drop g.recs.length all, wt_append]
            omega
          · have hla : (⟨dir, full, g2 :: r, safe⟩ : Lg).last = (⟨dir, full, g :: g2 :: r, safe⟩ : Lg).last := by
              unfold Lg.last
              show (g2 :: r).getD r.length ⟨0, []⟩ = (g :: g2 :: r).getD (r.length + 1) ⟨0, []⟩
              rfl
            rcases h.tip with e | e
            · exfalso
              unfold Dk.remove at h3
              rw [if_pos e] at h3
              exact absurd h3 (by show ¬ (12 : Nat) = 0; decide)
            · right
              rw [hla]
              show ((d.remove (segN dir g.first)).1.read (segN dir _)).1.length = _
              rw [read_remove hok.rising]
              · exact e
              · intro e2
                have hm := (t3.ok.last).1
                rw [hla] at hm
                have h1 := hri2.1 _ (List.mem_map.2 ⟨_, hm, rfl⟩)
                have h2 := (h.ch.choose_spec.choose_spec.1.ok.num _ (List.mem_cons_of_mem _ hm)).2
                have h4 := segN_inj dir h2 (by omega) e2
                omega
          · have := h.few
            simp at this ⊢
            omega
        obtain ⟨i1, i2, i3⟩ := Pl.trim (low := low) (g2 :: r) _ hp2 hok.remove
        refine ⟨i1, ?_, Nat.le_trans i3 htt⟩
        refine Nat.le_trans i2 ?_
        simp
        omega
      · rw [trim_fell hle rfl h3]
        exact ⟨h.turn (fell_remove h3), by simp; omega, htt⟩
    · rw [trim_stay hle]
      exact ⟨h, Nat.le_add_right _ _, Nat.le_refl _⟩
theorem Pl.arm (h : Pl n T lg d) (k : Int) : Pl n T lg (d.arm k) := by
  obtain ⟨e1, e2, _⟩ := arm_tot7 d k
  refine ⟨h.ch, ?_, h.rise, h.few, h.low, h.full⟩
  rcases h.tip with e | e
  · left; rw [e2]; exact e
  · right; rw [read_f e1]; exact e
/-- A file beside. -/
theorem Pl.beside (h : Pl n T lg d) (hr : Rising d.f) {s : Nm} (hs : s.length ≤ 4) : Pl n T lg (d.create s).1 := by
  refine ⟨h.ch, ?_, h.rise, h.few, h.low, h.full⟩
  rcases h.tip with e | e
  · left
    unfold Dk.create
    rw [if_pos e]
    exact e
  · right
    rw [read_create hr]
    · exact e
    · intro e2
      have : (segN lg.dir lg.last.first).length ≤ 4 := by rw [e2]; exact hs
      rw [seg_pre] at this
      obtain ⟨lo, all, hc, _⟩ := h.ch
      have h8 := hc.ok.last.1
      have h9 := (hc.ok.num _ h8).2
      rw [num8_digs h9] at this
      simp [digs_length] at this
end
end Go.Proofs.YtkilkhnoldfhcaaGreatDoor
namespace Go.Proofs.YtkilkhnoldfhcaaGreatDoor
open Go.RowKit
section
variable {n T lo full : Nat} {lg : Lg} {d : Dk} {all : List (List UInt8)} {dir : Nm} {segs : List Sg}
theorem Pl.loaded (hc : Ch ⟨dir, full, segs, 0⟩ lo all) (hw : wt all ≤ 64 * T) (hri : (segs.map Sg.first).Pairwise (· < ·)) (hfew : segs.length ≤ n) (hfull : 64 ≤ full ∧ full ≤ 262144)
    (htip : (d.read (segN dir (Lg.last ⟨dir, full, segs, 0⟩).first)).1.length = (Lg.last ⟨dir, full, segs, 0⟩).size) (h0 : (Lg.sync ⟨dir, full, segs, 0⟩ d).2.2 = 0) : Pl n T (Lg.sync ⟨dir, full, segs, 0⟩ d).1 (Lg.sync ⟨dir, full, segs, 0⟩ d).2.1 := by
  obtain ⟨a1, a2, a3, a4, a5, a6, a7⟩ := hc.sync d
  have hd : (Lg.sync ⟨dir, full, segs, 0⟩ d).2.1 = (d.sync (segN dir (Lg.last ⟨dir, full, segs, 0⟩).first)).1 := by unfold Lg.sync; split <;> rfl
  have hla : (Lg.sync ⟨dir, full, segs, 0⟩ d).1.last = Lg.last ⟨dir, full, segs, 0⟩ := by unfold Lg.last; rw [a2]
  refine ⟨⟨lo, all, a1, hw⟩, .inr ?_, by rw [a2]; exact hri, by rw [a2]; exact hfew, ?_, by rw [a4]; exact hfull⟩
  · rw [hd, hla, a3, read_sync]
    exact htip
  · rw [a2]
    intro x hx
    have h7 := a7 h0
    obtain ⟨g, hg, rfl⟩ := List.mem_map.1 hx
    have := hc.le_next g hg
    rw [hc.next] at this
    omega
theorem found_rise (dir : Nm) {l : List Nm} (h : l.Pairwise (· < ·)) : ((found dir l).map Sg.first).Pairwise (· < ·) := by
  unfold found
  rw [List.pairwise_map, List.pairwise_filterMap]
  refine h.imp ?_
  intro a b hab x hx y hy
  by_cases ha : 0 < numR dir a
  · by_cases hb : 0 < numR dir b
    · rw [if_pos ha] at hx
      rw [if_pos hb] at hy
      obtain rfl := Option.some.inj hx
      obtain rfl := Option.some.inj hy
      obtain ⟨e1, e2⟩ := numR_pos ha
      obtain ⟨e3, e4⟩ := numR_pos hb
      rw [e1, e3] at hab
      exact segN_lt dir e2 e4 hab
    · rw [if_neg hb] at hy; cases hy
  · rw [if_neg ha] at hx; cases hx
theorem linked_load (dir : Nm) (d : Dk) : ∀ l : List Sg, ldOk dir d l = true → linked (l.map (ldSeg dir d))
  | [], _ => trivial
  | [_], _ => trivial
  | g :: g2 :: r, h => by
    unfold ldOk at h
    rw [Bool.and_eq_true, Bool.and_eq_true] at h
    have h2 := of_decide_eq_true h.1.2
    exact ⟨h2.symm, linked_load dir d (g2 :: r) h.2⟩
theorem wt_load (dir : Nm) (d : Dk) (M : Nat) : ∀ l : List Sg, (∀ g ∈ l, (d.read (segN dir g.first)).1.length ≤ M) → wt (allR (l.map (ldSeg dir d))) ≤ l.length * M
  | [], _ => Nat.zero_le _
  | g :: r, h => by
    have ih := wt_load dir d M r (fun x hx => h x (List.mem_cons_of_mem _ hx))
    have h1 := ldSeg_le dir d g
    have h2 := h g List.mem_cons_self
    have h3 : wt (ldSeg dir d g).recs = (ldSeg dir d g).size := rfl
    rw [List.map_cons, allR_cons, wt_append, h3, List.length_cons, Nat.succ_mul]
    omega
/-- The log that has been read off the files. -/
theorem ch_load {l : List Sg} (hne : l ≠ []) (hdir : 1 ≤ dir.length ∧ dir.length ≤ 11) (hfew : l.length ≤ 64) (hnum : ∀ g ∈ l, 1 ≤ g.first ∧ g.first ≤ 99999999)
    (hrd : ∀ g ∈ l, (d.read (segN dir g.first)).2 = 0 ∧ (d.read (segN dir g.first)).1.length ≤ 1000000) (hk : ldOk dir d l = true) : Ch ⟨dir, full, l.map (ldSeg dir d), 0⟩ (Lg.low ⟨dir, full, l.map (ldSeg dir d), 0⟩) (allR (l.map (ldSeg dir d))) ∧
      Lg.last ⟨dir, full, l.map (ldSeg dir d), 0⟩ = ldSeg dir d (Lg.last ⟨dir, full, l, 0⟩) := by
  have hp : 0 < l.length := List.length_pos_iff.2 hne
  have hm := mid_ok (lg := ⟨dir, full, l, 0⟩) (d := d) hp (by show l.length ≤ 1000000; omega) hdir hnum hrd (N := l.length) (Nat.le_refl _)
  rw [mid_all _ _ (Nat.le_refl _)] at hm
  obtain ⟨hm1, hm2⟩ := hm
  refine ⟨⟨hm1, ?_, rfl, ?_⟩, hm2⟩
  · have hne2 : l.map (ldSeg dir d) ≠ [] := by intro e; exact hne (List.map_eq_nil_iff.1 e)
    refine ⟨(l.map (ldSeg dir d)).dropLast, (l.map (ldSeg dir d)).getLast hne2, (List.dropLast_concat_getLast _).symm, ?_, ?_⟩
    · rw [List.dropLast_concat_getLast]; exact linked_load dir d l hk
    · rw [List.dropLast_concat_getLast]
  · show 0 < _
    unfold Lg.low
    show 0 < ((l.map (ldSeg dir d)).getD 0 ⟨0, []⟩).first + _
    cases l with
    | nil => exact absurd rfl hne
    | cons g r =>
      have := (hnum g List.mem_cons_self).1
      show 0 < g.first + _
      omega
theorem ok3_some {x : Lg × Dk × Nat} (h : (ok3 x).1 = some lg) : x.2.2 = 0 ∧ lg = x.1 := by
  unfold ok3 at h
  by_cases h0 : x.2.2 = 0
  · have h' : (if x.2.2 = 0 then some x.1 else none) = some lg := h
    rw [if_pos h0] at h'
    exact ⟨h0, (Option.some.inj h').symm⟩
  · have h' : (if x.2.2 = 0 then some x.1 else none) = some lg := h
    rw [if_neg h0] at h'
    cases h'
theorem openL_some {full : Int} (h : (openL dir full d).1 = some lg) : (1 ≤ dir.length ∧ dir.length ≤ 11) ∧ (64 ≤ full ∧ full ≤ 262144) ∧ d.off = false ∧ openL dir full d = Lg.start ⟨dir, full.toNat, [], 0⟩ d := by
  unfold openL at h ⊢
  by_cases h1 : dir = [] ∨ 11 < dir.length
  · rw [if_pos h1] at h; cases h
  rw [if_neg h1] at h ⊢
  by_cases h2 : full < 64 ∨ 262144 < full
  · rw [if_pos h2] at h; cases h
  rw [if_neg h2] at h ⊢
  by_cases h3 : d.off = true
  · rw [if_pos h3] at h; cases h
  rw [if_neg h3]
  have h4 : dir.length ≠ 0 := fun e => h1 (.inl (List.eq_nil_of_length_eq_zero e))
  exact ⟨by omega, by omega, not_true h3, rfl⟩
theorem Pl.opened (hok : Ok d) (hT : tot d.f ≤ T) (hT2 : T ≤ 60000) {full : Int} (h : (openL dir full d).1 = some lg) : Pl 64 T lg (openL dir full d).2.1 ∧ lg.dir = dir ∧ (lg.full : Int) = full := by
  obtain ⟨hdir, h64, hoff, he⟩ := openL_some h
  rw [he] at h ⊢
  have hf1 : ((full.toNat : Nat) : Int) = full := by omega
  have hf2 : 64 ≤ full.toNat ∧ full.toNat ≤ 262144 := by omega
  unfold Lg.start at h ⊢
  by_cases hf : found dir (names d.f) = []
  · have hf' : found (Lg.dir ⟨dir, full.toNat, [], 0⟩) (names d.f) = [] := hf
    rw [if_pos hf'] at h ⊢
    obtain ⟨h0, rfl⟩ := ok3_some h
    by_cases hc : (d.create (segN dir 1)).2 = 0
    · have e : Lg.begin ⟨dir, full.toNat, [], 0⟩ d 1 = (⟨dir, full.toNat, [⟨1, []⟩], 0⟩, (d.create (segN dir 1)).1, 0) := by unfold Lg.begin; exact if_pos hc
      show Pl 64 T (Lg.begin ⟨dir, full.toNat, [], 0⟩ d 1).1 (Lg.begin ⟨dir, full.toNat, [], 0⟩ d 1).2.1 ∧ _
      rw [e]
      refine ⟨⟨⟨1, [], ⟨⟨Nat.succ_pos 0, by show 1 ≤ 1000000; decide, hdir, fun x hx => by obtain rfl : x = ⟨1, []⟩ := List.mem_singleton.1 hx; exact ⟨by decide, by decide⟩, fun x hx => by obtain rfl : x = ⟨1, []⟩ := List.mem_singleton.1 hx; exact Nat.zero_le _⟩, ⟨[], ⟨1, []⟩, rfl, trivial, rfl⟩, rfl, by show 0 < 1 + 0; decide⟩, Nat.zero_le _⟩, .inr ?_, List.pairwise_singleton _ _, by show 1 ≤ 64; decide, fun x hx => ?_, hf2⟩, rfl, hf1⟩
      · show ((d.create (segN dir 1)).1.read (segN dir 1)).1.length = 0
        rw [read_created hok.rising hc]
        rfl
      · obtain rfl : x = 1 := List.mem_singleton.1 hx
        exact Nat.le_refl _
    · exfalso
      have e : (Lg.begin { (⟨dir, full.toNat, [], 0⟩ : Lg) with segs := [] } d 1).2.2 = (d.create (segN dir 1)).2 := by unfold Lg.begin; rw [if_neg hc]
      exact hc (e ▸ h0)
  · have hf' : ¬ found (Lg.dir ⟨dir, full.toNat, [], 0⟩) (names d.f) = [] := hf
    rw [if_neg hf'] at h ⊢
    obtain ⟨l, hl⟩ : ∃ l, l = found dir (names d.f) := ⟨_, rfl⟩
    have hl' : found (Lg.dir ⟨dir, full.toNat, [], 0⟩) (names d.f) = l := hl.symm
    rw [hl'] at h ⊢
    rw [← hl] at hf
    have hlen : l.length ≤ 64 := by rw [hl]; exact Nat.le_trans (found_length _ _) (by rw [length_names]; exact hok.few)
    have hnum : ∀ g ∈ l, 1 ≤ g.first ∧ g.first ≤ 99999999 := fun g hg => (found_mem (dir := dir) (l := names d.f) (hl ▸ hg)).2
    have hrdT : ∀ g ∈ l, (d.read (segN dir g.first)).1.length ≤ T := fun g hg => Nat.le_trans (read_in hok.rising (found_mem (dir := dir) (l := names d.f) (hl ▸ hg)).1).2 hT
    have hrd : ∀ g ∈ l, (d.read (segN dir g.first)).2 = 0 ∧ (d.read (segN dir g.first)).1.length ≤ 1000000 := fun g hg => ⟨(read_in hok.rising (found_mem (dir := dir) (l := names d.f) (hl ▸ hg)).1).1, Nat.le_trans (hrdT g hg) (by omega)⟩
    have hwt := wt_load dir d T l hrdT
    have hri : ((l.map (ldSeg dir d)).map Sg.first).Pairwise (· < ·) := by
      rw [List.map_map]
      have := found_rise dir (l := names d.f) (by unfold names; rw [List.pairwise_map]; exact hok.rising)
      rw [← hl] at this
      exact this
    cases hk : ldOk dir d l with
    | false => rw [load_bad (lg := ⟨dir, full.toNat, l, 0⟩) hk] at h; cases h
    | true =>
      obtain ⟨hc, hlast⟩ := ch_load (full := full.toNat) (d := d) hf hdir hlen hnum hrd hk
      have hw : wt (allR (l.map (ldSeg dir d))) ≤ 64 * T := Nat.le_trans hwt (Nat.mul_le_mul_right T hlen)
      cases ht : ldTorn dir d (Lg.last ⟨dir, full.toNat, l, 0⟩) with
      | false =>
        rw [load_whole (lg := ⟨dir, full.toNat, l, 0⟩) (N := l.length) (Nat.le_refl _) hk ht, mid_all _ _ (Nat.le_refl _)] at h ⊢
        obtain ⟨h0, rfl⟩ := ok3_some h
        refine ⟨Pl.loaded hc hw hri (by rw [List.length_map]; exact hlen) hf2 ?_ h0, ?_, ?_⟩
        · rw [hlast, ldSeg_size]
          have := ldSeg_le dir d (Lg.last ⟨dir, full.toNat, l, 0⟩)
          rw [ldSeg_size] at this
          unfold ldTorn at ht
          have := of_decide_eq_false ht
          show (d.read (segN dir (Lg.last ⟨dir, full.toNat, l, 0⟩).first)).1.length = _
          omega
        · exact (hc.sync d).2.2.1
        · have := (hc.sync d).2.2.2.1
          show ((Lg.sync ⟨dir, full.toNat, l.map (ldSeg dir d), 0⟩ d).1.full : Int) = full
          rw [this]
          exact hf1
      | true =>
        by_cases hcut : (d.cut (segN dir (Lg.last ⟨dir, full.toNat, l, 0⟩).first) ((ldSeg dir d (Lg.last ⟨dir, full.toNat, l, 0⟩)).size : Int)).2 = 0
        · rw [load_cut (lg := ⟨dir, full.toNat, l, 0⟩) (N := l.length) (Nat.le_refl _) hk ht rfl hcut, mid_all _ _ (Nat.le_refl _)] at h ⊢
          obtain ⟨h0, rfl⟩ := ok3_some h
          refine ⟨Pl.loaded hc hw hri (by rw [List.length_map]; exact hlen) hf2 ?_ h0, ?_, ?_⟩
          · rw [hlast]
            show ((d.cut (segN dir (Lg.last ⟨dir, full.toNat, l, 0⟩).first) _).1.read (segN dir (Lg.last ⟨dir, full.toNat, l, 0⟩).first)).1.length = _
            rw [fell_cut hcut, List.length_take]
            have := ldSeg_le dir d (Lg.last ⟨dir, full.toNat, l, 0⟩)
            rw [Int.toNat_natCast]
            omega
          · exact (hc.sync _).2.2.1
          · have := (hc.sync (d.cut (segN dir (Lg.last ⟨dir, full.toNat, l, 0⟩).first) ((ldSeg dir d (Lg.last ⟨dir, full.toNat, l, 0⟩)).size : Int)).1).2.2.2.1
            refine Eq.trans (congrArg (fun n : Nat => (n : Int)) this) hf1
        · rw [load_fell (lg := ⟨dir, full.toNat, l, 0⟩) hk ht rfl hcut] at h
          cases h
theorem lsync_tot (hr : Rising d.f) (lg : Lg) : tot (lg.sync d).2.1.f ≤ tot d.f := by
  have hd : (lg.sync d).2.1 = (d.sync (segN lg.dir lg.last.first)).1 := by unfold Lg.sync; split <;> rfl
  rw [hd]
  exact tot_sync hr
theorem ok3_dk (x : Lg × Dk × Nat) : (ok3 x).2.1 = x.2.1 := rfl
/-- Open leaves no more bytes, and has done little. -/
theorem open_room (hok : Ok d) (dir : Nm) (full : Int) : tot (openL dir full d).2.1.f ≤ tot d.f ∧ (openL dir full d).2.1.done ≤ d.done + 2 := by
  unfold openL
  split
  · exact ⟨Nat.le_refl _, Nat.le_add_right _ _⟩
  split
  · exact ⟨Nat.le_refl _, Nat.le_add_right _ _⟩
  split
  · exact ⟨Nat.le_refl _, Nat.le_add_right _ _⟩
  unfold Lg.start
  split
  · rw [ok3_dk]
    have e : (Lg.begin { (⟨dir, full.toNat, [], 0⟩ : Lg) with segs := [] } d 1).2.1 = (d.create (segN dir 1)).1 := by unfold Lg.begin; split <;> rfl
    rw [e]
    have := create_done d (segN dir 1)
    exact ⟨tot_create hok.rising, by omega⟩
  unfold Lg.load
  split
  · exact ⟨Nat.le_refl _, Nat.le_add_right _ _⟩
  split
  · rw [ok3_dk]
    have := sync_done (d := d) { (⟨dir, full.toNat, found dir (names d.f), 0⟩ : Lg) with segs := (found dir (names d.f)).map (ldSeg dir d) }
    exact ⟨lsync_tot hok.rising _, Nat.le_trans this (by omega)⟩
  split
  · rw [ok3_dk]
    refine ⟨Nat.le_trans (lsync_tot hok.cut.rising _) (tot_cut hok.rising _), Nat.le_trans (sync_done _ _) ?_⟩
    have := cut_done d (segN dir (Lg.last ⟨dir, full.toNat, found dir (names d.f), 0⟩).first) ((Fr.scanV (d.read (segN dir (Lg.last ⟨dir, full.toNat, found dir (names d.f), 0⟩).first)).1).2 : Int)
    exact Nat.succ_le_succ this
  · exact ⟨tot_cut hok.rising _, Nat.le_trans (cut_done _ _ _) (by omega)⟩
theorem append_room (hok : Ok d) (lg : Lg) (p : List UInt8) : tot (lg.append d p).2.1.f ≤ tot d.f + (p.length + 12) := by
  have hs : Ok (lg.sync d).2.1 ∧ tot (lg.sync d).2.1.f ≤ tot d.f := by
    have hd : (lg.sync d).2.1 = (d.sync (segN lg.dir lg.last.first)).1 := by unfold Lg.sync; split <;> rfl
    rw [hd]
    exact ⟨hok.sync, tot_sync hok.rising⟩
  have hr : Ok (lg.room d).2.1 ∧ tot (lg.room d).2.1.f ≤ tot d.f := by
    unfold Lg.room
    split
    · exact ⟨hok, Nat.le_refl _⟩
    split
    · have hd : ((lg.sync d).1.begin (lg.sync d).2.1 lg.next).2.1 = ((lg.sync d).2.1.create (segN (lg.sync d).1.dir lg.next)).1 := by unfold Lg.begin; split <;> rfl
      rw [hd]
      exact ⟨hs.1.create, Nat.le_trans (tot_create hs.1.rising) hs.2⟩
    · exact hs
  unfold Lg.append
  split
  · exact Nat.le_add_right _ _
  split
  · exact Nat.le_add_right _ _
  split
  · have hd : (Lg.write (lg.room d) lg.next p).2.1 = ((lg.room d).2.1.append (segN (lg.room d).1.dir (lg.room d).1.last.first) (Fr.frameV p)).1 := by unfold Lg.write; split <;> rfl
    rw [hd]
    have := tot_grow (s := segN (lg.room d).1.dir (lg.room d).1.last.first) hr.1.rising (Fr.frameV p)
    rw [Fr.frame_length] at this
    omega
  · exact Nat.le_trans hr.2 (Nat.le_add_right _ _)
end
end Go.Proofs.YtkilkhnoldfhcaaGreatDoor
namespace Go.Proofs.YtkilkhnoldfhcaaGreatDoor
open Go.RowKit
theorem info3n : (Tryz.prog.info? 3).map (fun i => (i.zero, i.size, i.bytes)) = some (some (.int .i64 0), 1, 8) := by kernel_rfl
theorem under37n : Tryz.prog.underlying 37 = some (.slice 3) := by kernel_rfl
section
theorem oper_append_off {ops : Array Oper} {o : Oper} {a : Act} {w : World} {K' : Act → World → Prop} {Q : Exit → Act → World → Prop} {X : Prop} {t e : TypeId} {z : Value} {bytes : Nat}
    (ht : Tryz.prog.underlying t = some (.slice e)) (hinf : (Tryz.prog.info? e).map (fun i => (i.zero, i.size, i.bytes)) = some (some z, 1, bytes)) (hzs : z.cells.size = 1) (hby : bytes ≤ 24)
    (hw : Region.wanted o (yielded ops a.tmps) = true) (s x : Operand)
    (ho : o.op = .call { callee := .builtin .append, args := #[s, x], argTypes := #[t, t] })
    {v : Value} {n : Nat} {us : List Value} {u : Value} {b : Nat} (hs : a.eval s = v) (hown : OffR w e v n us) (hx : a.eval x = .slice (some ⟨b, 0, none⟩) 1 1) (hm : w.heap[b]? = some (.cells #[u] e (0, 0)))
    (h1 : u.oneCell' = true) (hroom : n ≤ 100000000)
    (h : ∀ v' w', OffR w' e v' (n + 1) (us ++ [u]) → w.grownBy w' v.ownBlock → (v'.ownBlock = v.ownBlock ∨ v'.ownBlock = some w.heap.size) → K' (a.put o.dst v') w') : if Region.wanted o (yielded ops a.tmps) = true then o.wp Tryz.prog a w K' Q else X := by
  obtain ⟨i0, hi, hz0, hz1, hz2⟩ := info_parts hinf
  obtain ⟨v', w', hr, h2, h3, h5⟩ := run_append_off (P := Tryz.prog) (w := w) (ty := o.type) ht hi hz0 hz1 hz2 hzs hown (ad := ⟨b, 0, none⟩) (m := 1) (c := 1) (news := [u]) rfl (fun j y hy => by
    rw [Addr.add_lit, Nat.zero_add]
    simp only [World.cell?, hm]
    simpa using hy) (fun y hy => by
    have e : y = u := by simpa using hy
    rw [e]; exact h1) (by unfold maxLen; omega) (by
      have h1 : (n + 1) * bytes ≤ 100000001 * 24 := Nat.mul_le_mul (by omega) hby
      omega)
  rw [if_pos hw]
  unfold Oper.wp execOp
  simp only [ho, resolve, invoke, builtin, Sem.run_bind, Sem.run_pure, Result.andThen_ok, List.map_toArray, List.map_cons, List.map_nil, hs, hx, hr]
  exact h v' w' h2 h3 h5
end
section
variable {B : Nat} {w5 w7 w8 : World} {b c n : Nat} {C S : Nat → Prop} {r : Rl} {d : Dk} {vn va v8 : Value} {ua : List Value} {p : List UInt8} {co : Option Addr} {cc : Nat}
/-- The box behind an append onto one of its rows. -/
theorem RLt.box8 (hl : RLt C w5 b c r vn va ua) (hb : Below w5.heap.size w5 w7) {o : Option Nat} (ho : o = vn.ownBlock ∨ o = va.ownBlock) (hg : w7.grownBy w8 o) : w8.heap[b]? = some (.cells #[ptr c, nmv r.dir, .int .i64 r.seg, vn, va, .int .i64 (r.top : Int)] 118 (0, 0)) := by
  have h7 := hl.below hb
  rw [hg.block b (lt_of_at h7.box) (fun e => by
    rcases ho with h | h
    · exact h7.nb h7.nums (by decide) b (by rw [← h, ← e]) rfl
    · exact h7.nb h7.all (by decide) b (by rw [← h, ← e]) rfl)]
  exact h7.box
theorem below_alloc {w w' : World} {k : Nat} (h : Below k w w') (o : Obj) (hk : k ≤ w'.heap.size) : Below k w (w'.alloc o) := h.trans ((below1 w' o).mono hk)
theorem rapp_end (hW : WR B w5 b C r c S d) (hB : B ≤ w5.heap.size) (hl : RLt C w5 b c r vn va ua) (hb : Below w5.heap.size w5 w7) (ho : w7.ownsRow w5.heap.size 5 1 (.slice co p.length cc) p.length (bys p))
    (ha : OffR w8 36 v8 (r.all.length + 1) (ua ++ [.slice co p.length cc])) (hg : (w7.alloc (.cells #[.slice co p.length cc] 36)).grownBy w8 va.ownBlock) (en : v8.ownBlock = va.ownBlock ∨ v8.ownBlock = some (w7.alloc (.cells #[.slice co p.length cc] 36)).heap.size) :
    WR B (w8.setCell ⟨b, 4, none⟩ v8) b (Gw C w5 (w8.setCell ⟨b, 4, none⟩ v8)) { r with all := r.all ++ [p] } c S d ∧ Tn C w5 (w8.setCell ⟨b, 4, none⟩ v8) := by
  have hba := below_alloc hb (.cells #[.slice co p.length cc] 36) hb.size
  have hlA := hl.below hba
  have hbx := hl.box8 hba (.inr rfl) hg
  have ht : Tn (· = b) w8 (w8.setCell ⟨b, 4, none⟩ v8) := tn_set (Tn.refl _ _) _
  have hA : Tn (fun k => va.ownBlock = some k) (w7.alloc (.cells #[.slice co p.length cc] 36)) w8 := (Tn.refl _ _).grown hg (fun k hk _ => hk)
  have hsz : w5.heap.size ≤ w7.heap.size := hb.size
  have hsz8 : (w7.alloc (.cells #[.slice co p.length cc] 36)).heap.size ≤ w8.heap.size := hA.size
  have hsz9 : w8.heap.size ≤ (w8.setCell ⟨b, 4, none⟩ v8).heap.size := ht.size
  have h7A : w7.heap.size < (w7.alloc (.cells #[.slice co p.length cc] 36)).heap.size := by simp
  have htC : Tn C w5 (w8.setCell ⟨b, 4, none⟩ v8) := ((Tn.of_below (S := C) hba).trans (hA.mono fun k hk e => hl.ca k e) (fun _ _ h => h)).trans (ht.mono fun k hk e => e ▸ hl.cb) (fun _ _ h => h)
  have hp : SB (fun k => w5.heap.size ≤ k ∧ k < w7.heap.size) (w7.alloc (.cells #[.slice co p.length cc] 36)) co p.length cc p := ((own_sb ho).mono fun k _ hk => ho.lt k hk).below (below1 w7 _)
  have hR : RLt (Gw C w5 (w8.setCell ⟨b, 4, none⟩ v8)) (w8.setCell ⟨b, 4, none⟩ v8) b c { r with all := r.all ++ [p] } vn v8 (ua ++ [.slice co p.length cc]) :=
    hlA.all_push hp (fun k hk => ⟨.inr ⟨hk.1, by omega⟩, fun e => by have := hl.lt k e; omega⟩) (fun k hk => by omega) ha hg en ht (heap_set hbx _ rfl) (fun k hk => .inl hk) (fun k hk => by
      rcases en with e | e
      · exact .inl (hl.ca k (e ▸ hk))
      · rw [hk] at e
        have := Option.some.inj e
        have := ha.lt hk
        exact .inr ⟨by omega, by omega⟩) (fun k hk => Gw.size htC.size hl.lt hk)
  exact ⟨hW.log hB ⟨_, _, _, hR⟩ htC, htC⟩
theorem rnum_end (hW : WR B w5 b C r c S d) (hB : B ≤ w5.heap.size) (hl : RLt C w5 b c r vn va ua) (hb : Below w5.heap.size w5 w7)
    (ha : OffR w8 3 v8 (r.nums.length + 1) ((r.nums.map fun (n : Nat) => Value.int .i64 (n : Int)) ++ [.int .i64 (n : Int)])) (hg : (w7.alloc (.cells #[.int .i64 (n : Int)] 3)).grownBy w8 vn.ownBlock) (en : v8.ownBlock = vn.ownBlock ∨ v8.ownBlock = some (w7.alloc (.cells #[.int .i64 (n : Int)] 3)).heap.size) :
    WR B (w8.setCell ⟨b, 3, none⟩ v8) b (Gw C w5 (w8.setCell ⟨b, 3, none⟩ v8)) { r with nums := r.nums ++ [n] } c S d ∧ Tn C w5 (w8.setCell ⟨b, 3, none⟩ v8) := by
  have hba := below_alloc hb (.cells #[.int .i64 (n : Int)] 3) hb.size
  have hlA := hl.below hba
  have hbx := hl.box8 hba (.inl rfl) hg
  have ht : Tn (· = b) w8 (w8.setCell ⟨b, 3, none⟩ v8) := tn_set (Tn.refl _ _) _
  have hA : Tn (fun k => vn.ownBlock = some k) (w7.alloc (.cells #[.int .i64 (n : Int)] 3)) w8 := (Tn.refl _ _).grown hg (fun k hk _ => hk)
  have htC : Tn C w5 (w8.setCell ⟨b, 3, none⟩ v8) := ((Tn.of_below (S := C) hba).trans (hA.mono fun k hk e => hl.cn k e) (fun _ _ h => h)).trans (ht.mono fun k hk e => e ▸ hl.cb) (fun _ _ h => h)
  have hR := (hlA.grow (D := C) (fun k hk => hk) hlA.lt).nums_push ha hg en ht (fun k hk => ha.lt hk) (heap_set hbx _ rfl)
  have hsz : w5.heap.size ≤ (w7.alloc (.cells #[.int .i64 (n : Int)] 3)).heap.size := hba.size
  exact ⟨hW.log hB ⟨_, _, _, hR.grow (fun k hk => hk.elim .inl (fun h => .inr ⟨Nat.le_trans hsz h.1, h.2⟩)) (fun k hk => Gw.size htC.size hl.lt hk)⟩ htC, htC⟩
end
/-- What Append answers, and how log and disk stand. -/
def RLogged2 (C S : Nat → Prop) (B : Nat) (w : World) (b c : Nat) (x : Rl × Dk × Nat × Nat) (e : Ending) (w' : World) : Prop :=
  e = .returned (.tuple #[.int .i64 (x.2.2.1 : Int), .int .i64 (x.2.2.2 : Int)]) ∧ RStood C S B w b c x.1 x.2.1 w'
section
variable {r : Rl} {d : Dk}
theorem rsync_ok (hk : ROk r) (hn : r.next ≤ 200000000) (d : Dk) : ROk (r.sync d).1 ∧ (r.sync d).1.next = r.next ∧ (r.sync d).1.dir = r.dir ∧ (r.sync d).1.nums = r.nums ∧ (r.sync d).1.all = r.all ∧ (r.sync d).2.1.done ≤ d.done + 1 := by
  have h2 : (d.sync (segN r.dir r.end_)).1.done ≤ d.done + 1 := by
    have h1 := done_step d ⟨3, 0, segN r.dir r.end_, [], [], []⟩
    unfold Dk.step at h1
    simpa using h1
  unfold Rl.sync
  split
  · exact ⟨⟨hk.dir, hk.ne, hk.few, hk.num, hk.all, by show r.next - 1 ≤ _; omega⟩, rfl, rfl, rfl, rfl, h2⟩
  · exact ⟨hk, rfl, rfl, rfl, rfl, h2⟩
theorem rpush_ok (hk : ROk r) (hfew : r.nums.length ≤ 999999) {n : Nat} (hn : 1 ≤ n ∧ n ≤ 99999999) : ROk { r with nums := r.nums ++ [n] } ∧ Rl.next { r with nums := r.nums ++ [n] } = r.next := by
  refine ⟨⟨hk.dir, by show 0 < (r.nums ++ [n]).length; simp, by show (r.nums ++ [n]).length ≤ _; simp; omega, fun m hm => ?_, hk.all, hk.top⟩, ?_⟩
  · have hm' : m ∈ r.nums ++ [n] := hm
    rcases List.mem_append.1 hm' with h | h
    · exact hk.num m h
    · obtain rfl : m = n := by simpa using h
      exact hn
  · unfold Rl.next Rl.low
    show (r.nums ++ [n]).getD 0 0 + _ = _
    have := hk.ne
    cases hr : r.nums with
    | nil => rw [hr] at this; exact absurd this (Nat.lt_irrefl 0)
    | cons x l => rfl
theorem ROk.low1 (hk : ROk r) : 1 ≤ r.low ∧ r.low ≤ 99999999 := hk.num _ (mem_getD (l := r.nums) (i := 0) hk.ne)
end
end Go.Proofs.YtkilkhnoldfhcaaGreatDoor
