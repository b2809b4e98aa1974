/- Rows of operations in plain terms: what they answer, what stays. Conditions: none of its own. -/
import Derived.Test.YtefgnlijgomgpaaR
namespace Go.Proofs.Ytefgnlijgomgpaa
theorem done_run (d : Dk) (l : List Do) : (d.run l).done ≤ d.done + l.length := by
  induction l generalizing d with
  | nil => exact Nat.le_refl _
  | cons p l ih =>
    have h1 := ih (d.step p).1
    have h2 := done_step d p
    show ((d.step p).1.run l).done ≤ _
    rw [List.length_cons]
    omega
theorem run_take (d : Dk) (l : List Do) {k : Nat} (h : k < l.length) : d.run (l.take (k + 1)) = ((d.run (l.take k)).step l[k]).1 := by
  rw [List.take_succ_eq_append_getElem h, run_snoc]
theorem done_take (l : List Do) (k : Nat) (h : k ≤ 300) : (Dk.zero.run (l.take k)).done < 9223372036854775807 := by
  have h1 := done_run Dk.zero (l.take k)
  have h2 := List.length_take_le k l
  have h3 : Dk.zero.done = 0 := rfl
  omega
theorem ok_run (l : List Do) : Ok (Dk.zero.run l) := ok_zero.run l
section
variable {d : Dk} {s t : Nm}
/-- A Sync that was OK. -/
theorem sync_ok (hr : (d.sync s).2 = 0) : ∃ x : Fi, get (d.sync s).1.f s = some ⟨x.data, x.data.length⟩ ∧ (d.sync s).1.off = false := by
  unfold Dk.sync at hr ⊢
  by_cases h1 : d.off = true
  · rw [if_pos h1] at hr; cases hr
  · rw [if_neg h1] at hr ⊢
    cases h2 : get d.f s with
    | none => rw [has_get, h2] at hr; cases hr
    | some x =>
      rw [has_get, h2] at hr ⊢
      simp only [Option.isSome_some, Bool.not_true, Bool.false_eq_true, if_false] at hr ⊢
      cases h3 : d.spend.2 with
      | false => rw [h3] at hr; cases hr
      | true =>
        rw [if_pos rfl]
        refine ⟨x, ?_, spend_off (by simpa using h1) h3⟩
        have h4 := get_upd_same (f := d.f) (s := s) (g := fun x : Fi => ⟨x.data, x.data.length⟩)
        rw [h2] at h4
        exact h4
theorem done_sync (d : Dk) (s : Nm) : (d.sync s).1.done ≤ d.done + 1 := by
  have := done_step d ⟨3, 0, s, [], [], []⟩
  have e : d.step ⟨3, 0, s, [], [], []⟩ = d.sync s := by unfold Dk.step; simp
  rw [e] at this
  exact this
theorem rename_no (hr : (d.rename s t).2 ≠ 0) : (d.rename s t).1.f = d.f := by
  unfold Dk.rename at hr ⊢
  split
  · rfl
  · rename_i h1
    rw [if_neg h1] at hr
    split
    · rfl
    · rename_i h2
      rw [if_neg h2] at hr
      split
      · rfl
      · rename_i h3
        rw [if_neg h3] at hr
        split
        · rename_i h4
          rw [if_pos h4] at hr
          exact absurd rfl hr
        · exact spend_f
theorem rename_ok {x : Fi} (h : Ok d) (hx : get d.f s = some x) (hr : (d.rename s t).2 = 0) : get (d.rename s t).1.f t = some x ∧ (s ≠ t → get (d.rename s t).1.f s = none) := by
  have hf : (d.rename s t).1.f = put (del d.f s) t x := by
    unfold Dk.rename at hr ⊢
    split
    · rename_i h1; rw [if_pos h1] at hr; cases hr
    · rename_i h1
      rw [if_neg h1] at hr
      split
      · rename_i h2; rw [if_pos h2] at hr; cases hr
      · rename_i h2
        rw [if_neg h2] at hr
        split
        · rename_i h3; rw [if_pos h3] at hr; cases hr
        · rename_i h3
          rw [if_neg h3] at hr
          split
          · show move d.f s t = _
            unfold move
            rw [hx]
          · rename_i h4; rw [if_neg h4] at hr; cases hr
  rw [hf]
  refine ⟨get_put_same (h.rising.del s) t x, fun hne => ?_⟩
  rw [get_put_other (h.rising.del s) x hne, get_del_same]
theorem crash_safe {x : Fi} (picks : List Int) (hx : get d.f s = some x) (he : x.safe = x.data.length) : (d.crash picks).read s = (x.data, 0) := by
  have := get_tear_safe picks he d.f 0 hx
  unfold Dk.read
  show (match get (tear picks 0 d.f) s with | some x => (x.data, 0) | none => ([], 8)) = _
  rw [this]
theorem crash_none (picks : List Int) (hx : get d.f s = none) : (d.crash picks).read s = ([], 8) := by
  have : get (tear picks 0 d.f) s = none := by
    cases e : get (tear picks 0 d.f) s with
    | none => rfl
    | some y =>
      have h1 : s ∈ names (tear picks 0 d.f) := List.mem_map.2 ⟨_, get_mem e, rfl⟩
      rw [names_tear] at h1
      obtain ⟨p, hp, hs⟩ := List.mem_map.1 h1
      exact absurd hs (get_none hx p hp)
  unfold Dk.read
  show (match get (tear picks 0 d.f) s with | some x => (x.data, 0) | none => ([], 8)) = _
  rw [this]
theorem read_some {x : Fi} (hx : get d.f s = some x) : d.read s = (x.data, 0) := by unfold Dk.read; rw [hx]
end
open Go.RowKit
section
variable {S C : Nat → Prop} {w : World} {a : Nat} {d : Dk}
theorem dk_sync (h : DK S w a d) {s : Nm} (hs : s.length ≤ maxLen) (hd : d.done < 9223372036854775807) : Calls Try.prog 28 #[ptr a, nmv s] w (Wrote S w a (d.sync s)) := let ⟨_, _, _, h⟩ := h; sync_any h hs hd
theorem dk_rename (h : DK S w a d) {s t : Nm} (hs : s.length ≤ maxLen) (hd : d.done < 9223372036854775807) (ht : t.length ≤ 281474976710656) : Calls Try.prog 29 #[ptr a, nmv s, nmv t] w (Wrote S w a (d.rename s t)) := let ⟨_, _, _, h⟩ := h; rename_any h hs hd ht
theorem dk_read (h : DK S w a d) {s : Nm} (hs : s.length ≤ maxLen) : Calls Try.prog 16 #[ptr a, nmv s] w fun e w' => ∃ ao cap, e = .returned (.tuple #[.slice ao (d.read s).1.length cap, .int .i64 ((d.read s).2 : Nat)]) ∧ SB (fun k => w.heap.size ≤ k ∧ k < w'.heap.size) w' ao (d.read s).1.length cap (d.read s).1 ∧ Below w.heap.size w w' :=
  let ⟨_, _, _, h⟩ := h; (read_any h hs).mono fun _ _ ⟨_, h1, h2, h3⟩ => by
    obtain ⟨ao, cap, rfl⟩ := own_slice h2
    exact ⟨ao, cap, h1, (own_sb h2).mono fun k _ e => h2.lt k e, h3⟩
theorem dk_crash (h : DK S w a d) {po : Option Addr} {pn pc : Nat} {picks : List Int} (hp : SI C w po pn pc picks) (hC : ∀ k, C k → ¬ S k) : Calls Try.prog 24 #[ptr a, .slice po pn pc] w fun e w' => e = .returned (.tuple #[]) ∧ DK S w' a (d.crash picks) ∧ Tn S w w' := let ⟨_, _, _, h⟩ := h; crash_any h hp hC
theorem dk_down (h : DK S w a d) : Calls Try.prog 25 #[ptr a] w fun e w' => e = .returned (.bool d.off) ∧ w = w' := let ⟨_, _, _, h⟩ := h; down_any h
theorem dk_writes (h : DK S w a d) : Calls Try.prog 26 #[ptr a] w fun e w' => e = .returned (.int .i64 (d.done : Int)) ∧ w = w' := let ⟨_, _, _, h⟩ := h; writes_any h
end
/-- What is done to a disk leaves what lies below it. -/
theorem gw_free {S : Nat → Prop} {w w' : World} {lo : Nat} (h1 : ∀ k, S k → k < lo) {k : Nat} (hk : lo ≤ k ∧ k < w.heap.size) : ¬ Gw S w w' k := fun e => by
  rcases e with e | e
  · have := h1 k e; omega
  · omega
end Go.Proofs.Ytefgnlijgomgpaa
