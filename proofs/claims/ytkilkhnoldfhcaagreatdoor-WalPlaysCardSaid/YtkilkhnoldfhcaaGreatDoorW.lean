/- What stays where one file is written; one file of a slice; disk.Size and List of a disk. Conditions: none of its own. -/
import Derived.Test.YtkilkhnoldfhcaaGreatDoorX
import Derived.Laws.Cover1
namespace Go.Proofs.YtkilkhnoldfhcaaGreatDoor
open Go.RowKit
theorem less_eq : ∀ (a b : Nm), Op.bytesLess a b = decide (a < b)
  | [], [] => by simp [Op.bytesLess]
  | [], _ :: _ => by simp [Op.bytesLess]
  | _ :: _, [] => by simp [Op.bytesLess]
  | a :: r, b :: s => by
    unfold Op.bytesLess
    rw [less_eq r s, Bool.eq_iff_iff]
    simp [List.cons_lt_cons_iff]
theorem less_no {a b : Nm} (h : a < b) : Op.bytesLess b a = false ∧ (b == a) = false := by
  refine ⟨?_, ?_⟩
  · rw [less_eq, decide_eq_false_iff_not]
    exact fun e => nm_irrefl a (nm_trans h e)
  · rw [beq_eq_false_iff_ne]
    exact fun e => nm_ne h e.symm
section
variable {d : Dk} {p : Do}
theorem move_other {f : Ent Fi} {s t : Nm} {z : Nm × Fi} (h : z ∈ f) (h1 : z.1 ≠ s) (h2 : z.1 ≠ t) : z ∈ move f s t := by
  unfold move
  split
  · exact mem_put.2 (.inr ⟨mem_del.2 ⟨h, h1⟩, h2⟩)
  · exact h
theorem apart_step {z : Nm × Fi} (hz : z ∈ d.f) (h8 : p.kind ≠ 8) (h1 : z.1 ≠ p.name) (h2 : z.1 ≠ p.to) : z ∈ (d.step p).1.f := by
  have hs := spend_f (d := d)
  have hu : ∀ g : Fi → Fi, z ∈ upd d.f p.name g := fun g => mem_upd.2 (.inr ⟨h1, hz⟩)
  unfold Dk.step
  rw [if_neg h8]
  split
  · unfold Dk.create
    repeat' split
    all_goals first | exact hz | exact mem_put.2 (.inr ⟨hz, h1⟩) | (rw [hs]; exact hz)
  split
  · unfold Dk.append
    repeat' split
    all_goals first | exact hz | (dsimp only; exact hu _)
  split
  · unfold Dk.sync
    repeat' split
    all_goals first | exact hz | (dsimp only; exact hu _) | (rw [hs]; exact hz)
  split
  · unfold Dk.cut
    repeat' split
    all_goals first | exact hz | (dsimp only; exact hu _) | (rw [hs]; exact hz)
  split
  · unfold Dk.rename
    repeat' split
    all_goals first | exact hz | exact move_other hz h1 h2 | (rw [hs]; exact hz)
  split
  · unfold Dk.remove
    repeat' split
    all_goals first | exact hz | exact mem_del.2 ⟨hz, h1⟩ | (rw [hs]; exact hz)
  split
  · unfold Dk.arm
    split <;> exact hz
  split <;> exact hz
theorem apart_fvs {q : FV} (hq : q ∈ fvs d.f) (h8 : p.kind ≠ 8) (h1 : q.name ≠ p.name) (h2 : q.name ≠ p.to) : q ∈ fvs (d.step p).1.f := by
  obtain ⟨z, hz, rfl⟩ := List.mem_map.1 hq
  exact List.mem_map.2 ⟨z, apart_step hz h8 h1 h2, rfl⟩
end
/-- The bytes of all. -/
def totF (l : List FV) : Nat := (l.map fun q => q.data.length).sum
theorem totF_fvs (f : Ent Fi) : totF (fvs f) = tot f := by unfold totF fvs tot; rw [List.map_map]; rfl
theorem totF_append (a b : List FV) : totF (a ++ b) = totF a + totF b := by unfold totF; rw [List.map_append, List.sum_append]
theorem totF_take {l : List FV} {k : Nat} (h : k < l.length) : totF (l.take (k + 1)) = totF (l.take k) + l[k].data.length := by
  rw [List.take_succ_eq_append_getElem h, totF_append]
  rfl
theorem totF_le (l : List FV) (k : Nat) : totF (l.take k) ≤ totF l := by
  have h := totF_append (l.take k) (l.drop k)
  rw [List.take_append_drop] at h
  omega
theorem fvs_get {f : Ent Fi} {k : Nat} (h : k < (fvs f).length) : (fvs f)[k] = fv (f[k]'(by rw [fvs_length] at h; exact h)) := List.getElem_map ..
/-- What a disk's list of files keeps to. -/
structure Told (l : List FV) : Prop where
  less : ∀ k (h : k + 1 < l.length), Op.bytesLess l[k + 1].name l[k].name = false ∧ (l[k + 1].name == l[k].name) = false
  safe : ∀ k (h : k < l.length), 0 ≤ l[k].safe ∧ l[k].safe ≤ l[k].data.length
  room : totF l ≤ 4194304
theorem told {d : Dk} {n : Nat} (h : Okn n d) : Told (fvs d.f) := by
  refine ⟨fun k hk => ?_, fun k hk => ?_, by rw [totF_fvs]; exact h.room⟩
  · have hk' : k + 1 < d.f.length := by rw [fvs_length] at hk; exact hk
    have hr := List.pairwise_iff_getElem.1 h.rising k (k + 1) (by omega) hk' (by omega)
    have e1 := fvs_get hk
    have e2 := fvs_get (f := d.f) (k := k) (by omega)
    rw [e1, e2]
    exact less_no hr
  · have hk' : k < d.f.length := by rw [fvs_length] at hk; exact hk
    have hr := h.safe _ (List.getElem_mem hk')
    have e2 := fvs_get hk
    rw [e2]
    show 0 ≤ ((d.f[k].2.safe : Nat) : Int) ∧ ((d.f[k].2.safe : Nat) : Int) ≤ (d.f[k].2.data.length : Int)
    omega
/-- Is it met? -/
def met (l : List FV) (q : FV) : Bool := l.any fun r => eqv r q
theorem met_take {l : List FV} {k : Nat} (h : k < l.length) (q : FV) : met (l.take (k + 1)) q = (met (l.take k) q || eqv l[k] q) := by
  rw [List.take_succ_eq_append_getElem h]
  unfold met
  rw [List.any_append]
  simp only [List.any_cons, List.any_nil, Bool.or_false]
theorem met_mem {l : List FV} {q : FV} (h : q ∈ l) : met l q = true := by
  unfold met
  rw [List.any_eq_true]
  exact ⟨q, h, eqv_iff.2 rfl⟩
theorem sameF_one (p q : FV) : sameF [p] [q] = eqv p q := by unfold sameF; show (eqv p q && sameF [] []) = _; unfold sameF; simp
section
variable {C : Nat → Prop} {w w' : World}
theorem SF.sub {b off n cap : Nat} {l : List FV} (h : SF C w (some ⟨b, off, none⟩) n cap l) {i : Nat} (hi : i < l.length) : SF C w (some ⟨b, off + i * 3, none⟩) 1 (cap - i) [l[i]] := by
  have hn := h.len
  have hle := h.le
  have hm := h.max
  obtain ⟨b', off', e, hc, hf, hw⟩ := h.at_ hi
  injection e with e
  injection e with e1 e2
  subst e1; subst e2
  refine ⟨rfl, by omega, by omega, fun p hp => ?_, .inr ⟨_, _, rfl, hc, fun j hj => ?_⟩⟩
  · simp at hp; subst hp; exact hw
  · obtain rfl : j = 0 := by simp at hj; omega
    simpa using hf
theorem OAt.below {b o : Nat} {p : Do} (h : OAt C w b o p) (hb : Below w.heap.size w w') (hC : C b) : OAt C w' b o p := h.tn (Tn.of_below (S := fun _ => False) hb) hC (fun _ _ e => e)
theorem dk_size {S : Nat → Prop} {a : Nat} {d : Dk} (h : DK S w a d) : Calls Tryz.prog 93 #[ptr a] w fun e w' => e = .returned (.int .i64 (totF (fvs d.f) : Nat)) ∧ Below w.heap.size w w' := by
  obtain ⟨m, ρ, δ, h⟩ := h
  rw [totF_fvs]
  exact size_any h
theorem dk_list {S : Nat → Prop} {a : Nat} {d : Dk} (h : DK S w a d) : Calls Tryz.prog 37 #[ptr a] w fun e w' => ∃ ao cap, e = .returned (.slice ao (fvs d.f).length cap) ∧ Below w.heap.size w w' := by
  obtain ⟨m, ρ, δ, h⟩ := h
  refine (list_any h).mono fun e w' ⟨v, h1, h2, h3⟩ => ?_
  obtain ⟨ao, cap, rfl⟩ := own_slice h2
  exact ⟨ao, cap, by rw [fvs_length]; exact h1, h3⟩
end
end Go.Proofs.YtkilkhnoldfhcaaGreatDoor
