/- What a disk's files are told as; what a step refuses and what it counts. Conditions: none of its own. -/
import Derived.Test.YtkilkhnoldfhcaaGreatDoorR
import Derived.Test.YtkilkhnoldfhcaaGreatDoorZ
namespace Go.Proofs.YtkilkhnoldfhcaaGreatDoor
open Go.RowKit
theorem below_of_drew {w w' : World} {q : Nat} (h : w' = w.drewN q) : Below w.heap.size w w' := by rw [h]; exact below_drewN w q
theorem fvs_wf {d : Dk} {n : Nat} (h : Okn n d) : ∀ p ∈ fvs d.f, p.wf := by
  intro p hp
  obtain ⟨q, hq, rfl⟩ := List.mem_map.1 hp
  have h1 := h.nm q hq
  have h2 := h.safe q hq
  have h3 := get_tot h.rising (mem_get h.rising (s := q.1) (x := q.2) hq)
  have h4 := h.room
  unfold isNm at h1
  simp at h1
  exact ⟨by show q.1.length ≤ maxLen; unfold maxLen; omega, by show -9223372036854775808 ≤ (q.2.safe : Int) ∧ (q.2.safe : Int) ≤ _; omega⟩
theorem fvs_length (f : Ent Fi) : (fvs f).length = f.length := List.length_map ..
theorem dk_files {S : Nat → Prop} {w : World} {a : Nat} {d : Dk} (h : DK S w a d) : Calls Tryz.prog 35 #[ptr a] w fun e w' => ∃ ao cap, e = .returned (.slice ao (fvs d.f).length cap) ∧ SF (fun k => w.heap.size ≤ k ∧ k < w'.heap.size) w' ao (fvs d.f).length cap (fvs d.f) ∧ Below w.heap.size w w' :=
  let ⟨_, _, _, h⟩ := h; (files_own h).mono fun _ _ ⟨v, us, h1, h2, h3⟩ => by
    obtain ⟨ao, cap, rfl, hs⟩ := h2.sf (fvs_wf h.ok)
    exact ⟨ao, cap, h1, hs, h3⟩
section
variable {d : Dk} {p : Do}
/-- Of a disk that is down nothing turns till a crash; each write is refused. -/
theorem step_off (ho : d.off = true) (hk : p.kind ≠ 8) : (d.step p).1 = d ∧ (1 ≤ p.kind → p.kind ≤ 6 → (d.step p).2 = 12) := by
  unfold Dk.step
  split
  · unfold Dk.create; rw [if_pos ho]; exact ⟨rfl, fun _ _ => rfl⟩
  split
  · unfold Dk.append; rw [if_pos ho]; exact ⟨rfl, fun _ _ => rfl⟩
  split
  · unfold Dk.sync; rw [if_pos ho]; exact ⟨rfl, fun _ _ => rfl⟩
  split
  · unfold Dk.cut; rw [if_pos ho]; exact ⟨rfl, fun _ _ => rfl⟩
  split
  · unfold Dk.rename; rw [if_pos ho]; exact ⟨rfl, fun _ _ => rfl⟩
  split
  · unfold Dk.remove; rw [if_pos ho]; exact ⟨rfl, fun _ _ => rfl⟩
  split
  · unfold Dk.arm; rw [if_pos ho]; exact ⟨rfl, fun _ h => by omega⟩
  split
  · exact ⟨rfl, fun _ h => by omega⟩
  · exact ⟨rfl, fun _ h => by omega⟩
theorem spend_no (h : d.spend.2 = false) : d.spend.1.off = true ∧ d.spend.1.done = d.done := by
  unfold Dk.spend at h ⊢
  split
  · exact ⟨rfl, rfl⟩
  · rename_i h1; rw [if_neg h1] at h; cases h
theorem spend_yes (h : d.spend.2 = true) : d.spend.1.off = d.off ∧ d.spend.1.done = d.done + 1 := by
  unfold Dk.spend at h ⊢
  split
  · rename_i h1; rw [if_pos h1] at h; cases h
  · exact ⟨rfl, rfl⟩
/-- What a write comes to, on a disk that is up. -/
structure Outcome (d : Dk) (kind : Int) (r : Dk × Nat) : Prop where
  same : r.2 ≠ 0 → r.2 ≠ 12 → r.1 = d
  fell : r.2 = 12 → r.1.off = true ∧ r.1.done = d.done ∧ (kind = 2 ∨ r.1.f = d.f)
  done : r.2 = 0 → 1 ≤ kind → kind ≤ 6 → r.1.done = d.done + 1
theorem out_err {kind : Int} {e : Nat} (h0 : e ≠ 0) (h12 : e ≠ 12) : Outcome d kind (d, e) := ⟨fun _ _ => rfl, fun h => absurd h h12, fun h => absurd h h0⟩
theorem out_spend {kind : Int} (g : Ent Fi) : Outcome d kind (if d.spend.2 then ({ d.spend.1 with f := g }, 0) else (d.spend.1, 12)) := by
  cases h : d.spend.2 with
  | true => exact ⟨fun h _ => absurd rfl h, fun h => (nomatch h), fun _ _ _ => (spend_yes h).2⟩
  | false => exact ⟨fun _ h => absurd rfl h, fun _ => ⟨(spend_no h).1, (spend_no h).2, .inr spend_f⟩, fun h => (nomatch h)⟩
theorem out_step (ho : d.off = false) : Outcome d p.kind (d.step p) := by
  unfold Dk.step
  split
  · unfold Dk.create
    rw [ho]
    simp only [Bool.false_eq_true, if_false]
    split
    · exact out_err (by decide) (by decide)
    split
    · exact out_err (by decide) (by decide)
    split
    · exact out_err (by decide) (by decide)
    exact out_spend _
  split
  · rename_i hk
    unfold Dk.append
    rw [ho]
    simp only [Bool.false_eq_true, if_false]
    split
    · exact out_err (by decide) (by decide)
    split
    · exact out_err (by decide) (by decide)
    cases h : d.spend.2 with
    | true => exact ⟨fun h _ => absurd rfl h, fun h => (nomatch h), fun _ _ _ => (spend_yes h).2⟩
    | false => exact ⟨fun _ h => absurd rfl h, fun _ => ⟨(spend_no h).1, (spend_no h).2, .inl hk⟩, fun h => (nomatch h)⟩
  split
  · unfold Dk.sync
    rw [ho]
    simp only [Bool.false_eq_true, if_false]
    split
    · exact out_err (by decide) (by decide)
    exact out_spend _
  split
  · unfold Dk.cut
    rw [ho]
    simp only [Bool.false_eq_true, if_false]
    split
    · exact out_err (by decide) (by decide)
    split
    · exact out_err (by decide) (by decide)
    exact out_spend _
  split
  · unfold Dk.rename
    rw [ho]
    simp only [Bool.false_eq_true, if_false]
    split
    · exact out_err (by decide) (by decide)
    split
    · exact out_err (by decide) (by decide)
    exact out_spend _
  split
  · unfold Dk.remove
    rw [ho]
    simp only [Bool.false_eq_true, if_false]
    split
    · exact out_err (by decide) (by decide)
    exact out_spend _
  split
  · exact ⟨fun h _ => absurd rfl h, fun h => (nomatch h), fun _ _ h => by omega⟩
  split
  · exact ⟨fun h _ => absurd rfl h, fun h => (nomatch h), fun _ _ h => by omega⟩
  split
  · unfold Dk.read
    cases get d.f p.name with
    | none => exact out_err (by decide) (by decide)
    | some x => exact ⟨fun h _ => absurd rfl h, fun h => (nomatch h), fun _ _ h => by omega⟩
  · exact ⟨fun h _ => absurd rfl h, fun h => (nomatch h), fun _ _ h => by omega⟩
end
end Go.Proofs.YtkilkhnoldfhcaaGreatDoor
