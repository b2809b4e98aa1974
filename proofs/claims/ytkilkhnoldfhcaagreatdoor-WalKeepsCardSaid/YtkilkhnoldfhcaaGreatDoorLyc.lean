/- One segment is laid anew with a row in new memory; rows that a scan told, as records of the call's own. Conditions: none of its own. -/
import Derived.Test.YtkilkhnoldfhcaaGreatDoorLyb
namespace Go.Proofs.YtkilkhnoldfhcaaGreatDoor
open Go.RowKit
section
variable {C D S : Nat → Prop} {w w' w1 : World} {v u : Value} {us : List Value} {dir : Nm} {gs : List Sg} {a dp : Nat} {lg : Lg}
/-- One segment's records and size are laid anew, its row wherever it is new. -/
theorem LAt.pushN {g cap k : Nat} {u3 : Value} {xs : List Value} {sg : Sg} (h : LAt C w a dp lg (.slice (some ⟨g, 0, none⟩) lg.segs.length cap) us) (hk : k < lg.segs.length) (hku : k < us.length) (hg : w.grownBy w1 us[k].ownBlock) (hro : RO D w1 u3 xs sg.recs) (hf : sg.first = lg.segs[k].first)
    (hu : ∀ j, u3.ownBlock = some j → us[k].ownBlock = some j ∨ w.heap.size ≤ j) (hC : ∀ j, C j → D j) (hlt : ∀ j, D j → j < w1.heap.size) :
    LAt D ((w1.setCell ⟨g, k * 4 + 2, none⟩ u3).setCell ⟨g, k * 4 + 3, none⟩ (.int .i64 (sg.size : Int))) a dp { lg with segs := lg.segs.set k sg } (.slice (some ⟨g, 0, none⟩) (lg.segs.set k sg).length cap) (us.set k u3) := by
  obtain ⟨xk, hrk⟩ := h.go.recs k hku hk
  have hka : (Value.slice (some ⟨g, 0, none⟩) lg.segs.length cap).ownBlock = none ∨ (Value.slice (some ⟨g, 0, none⟩) lg.segs.length cap).ownBlock ≠ us[k].ownBlock := .inr (fun e => own_apart h.go.own hrk.own (by decide) g rfl e.symm)
  have ho1 := h.go.own.kept hg hka
  obtain ⟨ho2, hg2⟩ := ho1.stored (k * 4 + 2) u3
  obtain ⟨ho3, hg3⟩ := ho2.stored (k * 4 + 3) (.int .i64 (sg.size : Int))
  rw [cellsG_set lg.dir hk hku sg u3 hf] at ho3
  obtain ⟨cur, hcur⟩ := own_at ho1 (k := g) rfl
  have ht : Tn (· = g) w1 ((w1.setCell ⟨g, k * 4 + 2, none⟩ u3).setCell ⟨g, k * 4 + 3, none⟩ (.int .i64 (sg.size : Int))) := tn_set (tn_set (Tn.refl _ _) _) _
  have hag : ¬ a = g := fun e => by
    obtain ⟨c2, hc⟩ := own_at h.go.own (k := g) rfl
    rw [← e, h.box] at hc
    simp at hc
  have hau : ¬ some a = us[k].ownBlock := fun e => by
    obtain ⟨c2, hc⟩ := own_at hrk.own e.symm
    exact ne_of_type h.box hc (by decide) rfl
  have hbx : w1.heap[a]? = some (.cells #[ptr dp, nmv lg.dir, .int .i64 (lg.full : Int), .slice (some ⟨g, 0, none⟩) lg.segs.length cap, .int .i64 (lg.safe : Int)] 104 (0, 0)) := (hg.block a (h.lt a h.ca) hau).trans h.box
  refine ⟨?_, ⟨by rw [List.length_set]; exact ho3, by rw [List.length_set, List.length_set]; exact h.go.len, fun i h1 h2 => ?_, fun j hj => hC j (h.go.row j hj), fun i j h1 h2 hij b hb => ?_⟩, hC a h.ca, fun j hj => by simpa using hlt j hj⟩
  · have := ht.at_ hbx hag
    rw [List.length_set]
    exact this
  · by_cases hi : k = i
    · subst hi
      rw [List.getElem_set_self, List.getElem_set_self]
      exact ⟨xs, hro.away hcur (by decide) (by decide) ht⟩
    · rw [List.getElem_set_ne hi, List.getElem_set_ne hi]
      have h1' : i < us.length := by simpa using h1
      obtain ⟨xi, hri⟩ := h.go.recs i h1' (by simpa using h2)
      have h3 := hri.keptR hrk.own (fun b hb e => h.go.dis i k h1' hku (fun e => hi e.symm) b hb e) hg
      exact ⟨xi, (h3.away hcur (by decide) (by decide) ht).mono fun j _ hj => hC j hj⟩
  · have hold : ∀ (i : Nat) (h1 : i < us.length) (b : Nat), us[i].ownBlock = some b → b < w.heap.size := fun i h1 b hb => by
      obtain ⟨xi, hri⟩ := h.go.recs i h1 (by rw [← h.go.len]; exact h1)
      exact (hri.own.lt b hb).2
    have h1' : i < us.length := by simpa using h1
    have h2' : j < us.length := by simpa using h2
    by_cases hi : k = i
    · subst hi
      rw [List.getElem_set_self] at hb
      rw [List.getElem_set_ne hij]
      intro e
      rcases hu b hb with e2 | e2
      · exact h.go.dis k j hku h2' hij b e2 e
      · have := hold j h2' _ e
        omega
    · rw [List.getElem_set_ne hi] at hb
      by_cases hj : k = j
      · subst hj
        rw [List.getElem_set_self]
        intro e
        rcases hu b e with e2 | e2
        · exact h.go.dis i k h1' hku hij b hb e2
        · have := hold i h1' _ hb
          omega
      · rw [List.getElem_set_ne hj]
        exact h.go.dis i j h1' h2' hij b hb
theorem rs_ro {B : Nat} {L : List (List UInt8)} (h : Fr.Rs B w v us L) : RO (fun k => B ≤ k ∧ k < w.heap.size) w v us L := by
  have hl := h.len
  refine ⟨own_mono h.own (Nat.zero_le _), hl, fun i h1 h2 => ?_, fun k hk => h.own.lt k hk, fun i h1 k hk => ?_⟩
  · have h3 := h.row i h2
    rw [List.getD_eq_getElem?_getD, List.getElem?_eq_getElem h1, List.getD_eq_getElem?_getD, List.getElem?_eq_getElem h2] at h3
    exact own_mono h3 (Nat.zero_le _)
  · have h2 : i < L.length := by omega
    have h3 := h.row i h2
    rw [List.getD_eq_getElem?_getD, List.getElem?_eq_getElem h1] at h3
    exact h3.lt k hk
end
end Go.Proofs.YtkilkhnoldfhcaaGreatDoor
