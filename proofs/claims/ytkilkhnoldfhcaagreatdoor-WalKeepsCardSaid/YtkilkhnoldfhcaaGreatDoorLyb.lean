/- What load reads, in plain terms: sizes, and when segments hang together. Conditions: none of its own. -/
import Derived.Test.YtkilkhnoldfhcaaGreatDoorLya
namespace Go.Proofs.YtkilkhnoldfhcaaGreatDoor
open Go.RowKit
theorem joinV_wt (L : List (List UInt8)) : (Fr.joinV L).length = wt L := by
  induction L with
  | nil => rfl
  | cons x s ih =>
    have e2 : Fr.joinV (x :: s) = Fr.frameV x ++ Fr.joinV s := rfl
    have e3 : wt (x :: s) = (x.length + 12) + wt s := by simp [wt]
    rw [e2, List.length_append, Fr.frame_length, ih, e3]
/-- The bytes of the whole frames are the size of what was read. -/
theorem ldSeg_size (dir : Nm) (d : Dk) (g : Sg) : (ldSeg dir d g).size = (Fr.scanV (d.read (segN dir g.first)).1).2 := by
  obtain ⟨_, h2, h3, _⟩ := Fr.scan_small (b := (d.read (segN dir g.first)).1)
  have h4 := congrArg List.length h2
  rw [joinV_wt, List.length_take, Nat.min_eq_left h3] at h4
  exact h4.symm
theorem ldSeg_le (dir : Nm) (d : Dk) (g : Sg) : (ldSeg dir d g).size ≤ (d.read (segN dir g.first)).1.length := by
  rw [ldSeg_size]
  exact Fr.scan_small.2.2.1
theorem ldOk_iff (dir : Nm) (d : Dk) : ∀ (l : List Sg), ldOk dir d l = true ↔ ∀ k (h : k + 1 < l.length), ldTorn dir d l[k] = false ∧ (ldSeg dir d l[k]).next = l[k + 1].first
  | [] => ⟨fun _ k h => by simp at h, fun _ => rfl⟩
  | [_] => ⟨fun _ k h => by simp at h, fun _ => rfl⟩
  | g :: g2 :: r => by
    have ih := ldOk_iff dir d (g2 :: r)
    rw [ldOk, Bool.and_eq_true, Bool.and_eq_true, ih, decide_eq_true_iff, Bool.not_eq_true']
    constructor
    · rintro ⟨⟨h1, h2⟩, h3⟩ k h
      cases k with
      | zero => exact ⟨h1, h2⟩
      | succ k => exact h3 k (by simpa using h)
    · intro h
      refine ⟨h 0 (by simp), fun k hk => h (k + 1) (by simpa using hk)⟩
/-- A whole file is the frames of its records. -/
theorem whole_file {dir : Nm} {d : Dk} {g : Sg} (h : ldTorn dir d g = false) : (d.read (segN dir g.first)).1 = Fr.joinV (ldSeg dir d g).recs := by
  obtain ⟨_, h2, h3, _⟩ := Fr.scan_small (b := (d.read (segN dir g.first)).1)
  unfold ldTorn at h
  have h4 : ¬ (Fr.scanV (d.read (segN dir g.first)).1).2 < (d.read (segN dir g.first)).1.length := of_decide_eq_false h
  rw [List.take_of_length_le (by omega)] at h2
  exact h2
/-- What Mir says of what load reads: the very records. -/
theorem read_mir {lg : Lg} {d : Dk} (hm : Mir lg d) (hr : Rising d.f) {g : Sg} (hg : g ∈ lg.segs) (hs : ∀ p ∈ g.recs, p.length ≤ 262144) : d.read (segN lg.dir g.first) = (Fr.joinV g.recs, 0) ∧ ldSeg lg.dir d g = g ∧ ldTorn lg.dir d g = false := by
  have h1 : (segN lg.dir g.first, Fr.joinV g.recs) ∈ d.f.map (fun p => (p.1, p.2.data)) := by rw [hm.files]; exact List.mem_map.2 ⟨g, hg, rfl⟩
  obtain ⟨q, hq, e⟩ := List.mem_map.1 h1
  injection e with e1 e2
  have h2 : get d.f (segN lg.dir g.first) = some q.2 := by rw [← e1]; exact mem_get hr hq
  have h3 : d.read (segN lg.dir g.first) = (Fr.joinV g.recs, 0) := by unfold Dk.read; rw [h2]; exact congrArg (fun x => (x, 0)) e2
  have h5 : Fr.firstV [] = none := by rfl
  have h4 : Fr.scanV (Fr.joinV g.recs) = (g.recs, (Fr.joinV g.recs).length) := by
    have h6 := Fr.scan_join [] g.recs hs
    rw [List.append_nil, Fr.scan_none h5, List.append_nil, Nat.add_zero] at h6
    exact h6
  refine ⟨h3, ?_, ?_⟩
  · unfold ldSeg
    rw [h3, h4]
  · unfold ldTorn
    rw [h3, h4]
    exact decide_eq_false (Nat.lt_irrefl _)
end Go.Proofs.YtkilkhnoldfhcaaGreatDoor
