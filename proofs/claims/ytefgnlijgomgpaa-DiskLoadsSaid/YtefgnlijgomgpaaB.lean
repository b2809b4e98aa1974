/- A disk in plain terms: its files, its writes, what fails, what a crash leaves. Conditions: none of its own. -/
import Derived.Test.YtefgnlijgomgpaaA
namespace Go.Proofs.Ytefgnlijgomgpaa
/-- A file: its bytes; how many are safe. -/
structure Fi where
  data : List UInt8
  safe : Nat
/-- A disk. -/
structure Dk where
  f : Ent Fi
  off : Bool
  left : Nat
  done : Nat
def tot (f : Ent Fi) : Nat := (f.map fun p => p.2.data.length).sum
def isNm (s : Nm) : Bool := decide (1 ≤ s.length) && decide (s.length ≤ 20)
/-- What a disk of at most n files keeps to. -/
structure Okn (n : Nat) (d : Dk) : Prop where
  rising : Rising d.f
  nm : ∀ p ∈ d.f, isNm p.1 = true
  safe : ∀ p ∈ d.f, p.2.safe ≤ p.2.data.length
  few : d.f.length ≤ n
  room : tot d.f ≤ 4194304
abbrev Ok := Okn 64
abbrev Okr := Okn 1000
def Dk.zero : Dk := ⟨[], false, 0, 0⟩
theorem ok_zero {n : Nat} : Okn n .zero := ⟨rising_nil, fun _ h => (nomatch h), fun _ h => (nomatch h), Nat.zero_le _, Nat.zero_le _⟩
/-- A write that has no error of its own: is it done? -/
def Dk.spend (d : Dk) : Dk × Bool :=
  if d.left = 1 then ({ d with left := 0, off := true }, false) else ({ d with left := d.left - 1, done := d.done + 1 }, true)
def Dk.create (d : Dk) (s : Nm) : Dk × Nat :=
  if d.off then (d, 12) else if !isNm s then (d, 10) else if has d.f s then (d, 9) else if 64 ≤ d.f.length then (d, 3)
  else if d.spend.2 then ({ d.spend.1 with f := put d.f s ⟨[], 0⟩ }, 0) else (d.spend.1, 12)
def Dk.append (d : Dk) (s : Nm) (b : List UInt8) : Dk × Nat :=
  if d.off then (d, 12) else if !has d.f s then (d, 8) else if 4194304 - tot d.f < b.length then (d, 11)
  else ({ d.spend.1 with f := upd d.f s fun x => ⟨x.data ++ b, x.safe⟩ }, if d.spend.2 then 0 else 12)
def Dk.sync (d : Dk) (s : Nm) : Dk × Nat :=
  if d.off then (d, 12) else if !has d.f s then (d, 8)
  else if d.spend.2 then ({ d.spend.1 with f := upd d.f s fun x => ⟨x.data, x.data.length⟩ }, 0) else (d.spend.1, 12)
def len (f : Ent Fi) (s : Nm) : Nat := match get f s with | some x => x.data.length | none => 0
def Dk.cut (d : Dk) (s : Nm) (n : Int) : Dk × Nat :=
  if d.off then (d, 12) else if !has d.f s then (d, 8) else if n < 0 ∨ (len d.f s : Int) < n then (d, 1)
  else if d.spend.2 then ({ d.spend.1 with f := upd d.f s fun x => ⟨x.data.take n.toNat, min x.safe n.toNat⟩ }, 0) else (d.spend.1, 12)
def move (f : Ent Fi) (s t : Nm) : Ent Fi := match get f s with | some x => put (del f s) t x | none => f
def Dk.rename (d : Dk) (s t : Nm) : Dk × Nat :=
  if d.off then (d, 12) else if !has d.f s then (d, 8) else if !isNm t then (d, 10)
  else if d.spend.2 then ({ d.spend.1 with f := move d.f s t }, 0) else (d.spend.1, 12)
def Dk.remove (d : Dk) (s : Nm) : Dk × Nat :=
  if d.off then (d, 12) else if !has d.f s then (d, 8)
  else if d.spend.2 then ({ d.spend.1 with f := del d.f s }, 0) else (d.spend.1, 12)
def Dk.arm (d : Dk) (n : Int) : Dk := if d.off then d else { d with left := n.toNat }
/-- How many of the loose bytes are kept. -/
def kept (picks : List Int) (i loose : Nat) : Nat :=
  if picks.length ≤ i ∨ picks.getD i 0 < 0 then 0 else (picks.getD i 0).toNat % (loose + 1)
def tear (picks : List Int) : Nat → Ent Fi → Ent Fi
  | _, [] => []
  | i, (s, x) :: r =>
    if x.data.length = x.safe then (s, x) :: tear picks i r
    else (s, ⟨x.data.take (x.safe + kept picks i (x.data.length - x.safe)), x.safe + kept picks i (x.data.length - x.safe)⟩) :: tear picks (i + 1) r
def Dk.crash (d : Dk) (picks : List Int) : Dk := ⟨tear picks 0 d.f, false, 0, d.done⟩
def Dk.read (d : Dk) (s : Nm) : List UInt8 × Nat := match get d.f s with | some x => (x.data, 0) | none => ([], 8)
/-- What is done. -/
structure Do where
  kind : Int
  n : Int
  name : Nm
  to : Nm
  b : List UInt8
  picks : List Int
def Dk.step (d : Dk) (o : Do) : Dk × Nat :=
  if o.kind = 1 then d.create o.name else if o.kind = 2 then d.append o.name o.b else if o.kind = 3 then d.sync o.name else if o.kind = 4 then d.cut o.name o.n
  else if o.kind = 5 then d.rename o.name o.to else if o.kind = 6 then d.remove o.name else if o.kind = 7 then (d.arm o.n, 0) else if o.kind = 8 then (d.crash o.picks, 0)
  else if o.kind = 9 then (d, (d.read o.name).2) else (d, 0)
def Dk.run (d : Dk) : List Do → Dk
  | [] => d
  | o :: r => (d.step o).1.run r
theorem run_snoc (d : Dk) (l : List Do) (o : Do) : d.run (l ++ [o]) = ((d.run l).step o).1 := by
  induction l generalizing d with
  | nil => rfl
  | cons p l ih => exact ih _
section
variable {d : Dk} {s t : Nm} {lim : Nat}
theorem spend_f : d.spend.1.f = d.f := by unfold Dk.spend; split <;> rfl
theorem tot_nil : tot [] = 0 := rfl
theorem tot_cons (p : Nm × Fi) (f : Ent Fi) : tot (p :: f) = p.2.data.length + tot f := by unfold tot; simp
theorem tot_ins (x : Fi) : ∀ f : Ent Fi, tot (ins s x f) = x.data.length + tot f
  | [] => rfl
  | p :: f => by
    unfold ins
    split
    · rw [tot_cons, tot_cons, tot_ins x f]; omega
    · rw [tot_cons]
theorem tot_del {f : Ent Fi} (h : Rising f) {x : Fi} (hx : get f s = some x) : tot (del f s) + x.data.length = tot f := by
  induction f with
  | nil => cases hx
  | cons p f ih =>
    rw [get_cons] at hx
    unfold del
    rw [List.filter_cons, tot_cons]
    by_cases e : p.1 = s
    · rw [if_pos (by simpa using e)] at hx
      cases hx
      rw [if_neg (by simp [e])]
      have : del f s = f := del_of_none (by
        cases g : get f s with
        | none => rfl
        | some y => exact absurd (e ▸ h.head _ (get_mem g)) (nm_irrefl _))
      unfold del at this
      rw [this]; omega
    · rw [if_neg (by simpa using e)] at hx
      rw [if_pos (by simp [e]), tot_cons]
      have := ih h.tail hx
      unfold del at this
      omega
theorem del_le (f : Ent Fi) (s : Nm) : tot (del f s) ≤ tot f ∧ (del f s).length ≤ f.length := by
  refine ⟨?_, List.length_filter_le _ _⟩
  induction f with
  | nil => exact Nat.le_refl _
  | cons p f ih =>
    unfold del at ih ⊢
    rw [List.filter_cons]
    split
    · rw [tot_cons, tot_cons]; omega
    · rw [tot_cons]; omega
theorem has_some (h : has d.f s = true) : ∃ x, get d.f s = some x := by rw [has_get] at h; exact Option.isSome_iff_exists.1 h
theorem has_none {f : Ent Fi} (h : has f s = false) : get f s = none := by rw [has_get] at h; simpa using h
theorem tot_upd {f : Ent Fi} (h : Rising f) {x : Fi} (g : Fi → Fi) (hx : get f s = some x) : tot (upd f s g) + x.data.length = tot f + (g x).data.length := by
  rw [upd_put h g hx]
  unfold put
  rw [tot_ins]
  have := tot_del h hx
  omega
theorem Okn.spend (h : Okn lim d) : Okn lim d.spend.1 := by
  have e := spend_f (d := d)
  exact ⟨by rw [e]; exact h.rising, by rw [e]; exact h.nm, by rw [e]; exact h.safe, by rw [e]; exact h.few, by rw [e]; exact h.room⟩
theorem Okn.of_f {d' : Dk} (h : Okn lim d) (e : d'.f = d.f) : Okn lim d' := ⟨by rw [e]; exact h.rising, by rw [e]; exact h.nm, by rw [e]; exact h.safe, by rw [e]; exact h.few, by rw [e]; exact h.room⟩
theorem Okn.upd (h : Okn lim d) {x : Fi} (g : Fi → Fi) (hx : get d.f s = some x) (hg : (g x).safe ≤ (g x).data.length) (hr : tot d.f + (g x).data.length ≤ 4194304 + x.data.length) {d' : Dk} (e : d'.f = upd d.f s g) : Okn lim d' := by
  refine ⟨by rw [e]; exact h.rising.upd s g, fun p hp => ?_, fun p hp => ?_, by rw [e, length_upd]; exact h.few, ?_⟩
  · rw [e] at hp
    obtain ⟨t, y⟩ := p
    rcases mem_upd.1 hp with ⟨rfl, z, hz, rfl⟩ | ⟨_, k⟩
    · have := h.nm (t, z) hz
      exact this
    · exact h.nm _ k
  · rw [e] at hp
    obtain ⟨t, y⟩ := p
    rcases mem_upd.1 hp with ⟨rfl, z, hz, rfl⟩ | ⟨_, k⟩
    · rw [mem_get h.rising hz] at hx
      cases hx
      exact hg
    · exact h.safe _ k
  · rw [e]
    have := tot_upd h.rising g hx
    omega
theorem get_tot {f : Ent Fi} (h : Rising f) {x : Fi} (hx : get f s = some x) : x.data.length ≤ tot f := by
  have := tot_del h hx
  omega
theorem Okn.create (h : Okn lim d) (hl : 64 ≤ lim := by decide) : Okn lim (d.create s).1 := by
  unfold Dk.create
  split
  · exact h
  · split
    · exact h
    · rename_i hn
      split
      · exact h
      · rename_i hh
        split
        · exact h
        · rename_i hf
          split
          · have hg : get d.f s = none := has_none (by simpa using hh)
            refine ⟨h.rising.put _ _, fun p hp => ?_, fun p hp => ?_, ?_, ?_⟩
            · rcases mem_put.1 hp with rfl | ⟨k, _⟩
              · simpa using hn
              · exact h.nm _ k
            · rcases mem_put.1 hp with rfl | ⟨k, _⟩
              · exact Nat.zero_le _
              · exact h.safe _ k
            · show (put d.f s ⟨[], 0⟩).length ≤ lim
              unfold put
              rw [length_ins, del_of_none hg]
              omega
            · show tot (put d.f s ⟨[], 0⟩) ≤ 4194304
              unfold put
              rw [tot_ins, del_of_none hg]
              have := h.room
              simpa using this
          · exact h.spend
theorem Okn.append (h : Okn lim d) {b : List UInt8} : Okn lim (d.append s b).1 := by
  unfold Dk.append
  split
  · exact h
  · split
    · exact h
    · rename_i hh
      split
      · exact h
      · rename_i hr
        obtain ⟨x, hx⟩ := has_some (d := d) (s := s) (by simpa using hh)
        have hm := h.safe _ (get_mem hx)
        have hroom := h.room
        simp only at hm
        refine h.upd (fun x => ⟨x.data ++ b, x.safe⟩) hx ?_ ?_ rfl
        · simp only [List.length_append]; omega
        · simp only [List.length_append]; omega
theorem Okn.sync (h : Okn lim d) : Okn lim (d.sync s).1 := by
  unfold Dk.sync
  split
  · exact h
  · split
    · exact h
    · rename_i hh
      split
      · obtain ⟨x, hx⟩ := has_some (d := d) (s := s) (by simpa using hh)
        have hroom := h.room
        exact h.upd (fun x => ⟨x.data, x.data.length⟩) hx (Nat.le_refl _) (by simp only; omega) rfl
      · exact h.spend
theorem Okn.cut (h : Okn lim d) {n : Int} : Okn lim (d.cut s n).1 := by
  unfold Dk.cut
  split
  · exact h
  · split
    · exact h
    · rename_i hh
      split
      · exact h
      · rename_i hn
        split
        · obtain ⟨x, hx⟩ := has_some (d := d) (s := s) (by simpa using hh)
          have hroom := h.room
          have hs := h.safe _ (get_mem hx)
          simp only at hs
          refine h.upd (fun x => ⟨x.data.take n.toNat, min x.safe n.toNat⟩) hx ?_ ?_ rfl
          · simp only [List.length_take]; omega
          · simp only [List.length_take]; omega
        · exact h.spend
theorem Okn.remove (h : Okn lim d) : Okn lim (d.remove s).1 := by
  unfold Dk.remove
  split
  · exact h
  · split
    · exact h
    · split
      · have := del_le d.f s
        have h1 := h.few
        have h2 := h.room
        exact ⟨h.rising.del s, fun p hp => h.nm p (mem_del.1 hp).1, fun p hp => h.safe p (mem_del.1 hp).1, by show (del d.f s).length ≤ lim; omega, by show tot (del d.f s) ≤ 4194304; omega⟩
      · exact h.spend
theorem length_put_le (f : Ent Fi) (s : Nm) (x : Fi) : (put f s x).length ≤ f.length + 1 ∧ tot (put f s x) ≤ tot f + x.data.length := by
  unfold put
  rw [length_ins, tot_ins]
  have := del_le f s
  omega
theorem Okn.rename (h : Okn lim d) : Okn lim (d.rename s t).1 := by
  unfold Dk.rename
  split
  · exact h
  · split
    · exact h
    · rename_i hh
      split
      · exact h
      · rename_i hn
        split
        · obtain ⟨x, hx⟩ := has_some (d := d) (s := s) (by simpa using hh)
          have e : move d.f s t = put (del d.f s) t x := by unfold move; rw [hx]
          have h1 := h.few
          have h2 := h.room
          have h3 := tot_del h.rising hx
          have h4 := length_del h.rising hx
          have h5 := length_put_le (del d.f s) t x
          refine ⟨?_, fun p hp => ?_, fun p hp => ?_, ?_, ?_⟩
          · show Rising (move d.f s t)
            rw [e]; exact (h.rising.del s).put t x
          · have hp' : p ∈ move d.f s t := hp
            rw [e] at hp'
            rcases mem_put.1 hp' with rfl | ⟨k, _⟩
            · simpa using hn
            · exact h.nm p (mem_del.1 k).1
          · have hp' : p ∈ move d.f s t := hp
            rw [e] at hp'
            rcases mem_put.1 hp' with rfl | ⟨k, _⟩
            · have := h.safe (s, x) (get_mem hx)
              exact this
            · exact h.safe p (mem_del.1 k).1
          · show (move d.f s t).length ≤ lim
            rw [e]; omega
          · show tot (move d.f s t) ≤ 4194304
            rw [e]; omega
        · exact h.spend
theorem Okn.arm (h : Okn lim d) {n : Int} : Okn lim (d.arm n) := by unfold Dk.arm; split <;> first | exact h | exact h.of_f rfl
theorem kept_le (picks : List Int) (i loose : Nat) : kept picks i loose ≤ loose := by
  unfold kept
  split
  · exact Nat.zero_le _
  · have := Nat.mod_lt (picks.getD i 0).toNat (show 0 < loose + 1 by omega)
    omega
theorem names_tear (picks : List Int) : ∀ (f : Ent Fi) (i : Nat), names (tear picks i f) = names f
  | [], _ => rfl
  | (s, x) :: f, i => by
    unfold tear
    split
    · show s :: names (tear picks i f) = s :: names f
      rw [names_tear picks f]
    · show s :: names (tear picks (i + 1) f) = s :: names f
      rw [names_tear picks f]
/-- What a crash leaves of a file. -/
structure Torn (x y : Fi) : Prop where
  lo : x.safe ≤ y.data.length
  hi : y.data.length ≤ x.data.length
  data : y.data = x.data.take y.data.length
  safe : y.safe = y.data.length
theorem tear_at (picks : List Int) : ∀ (f : Ent Fi) (i : Nat) (k : Nat), (∀ p ∈ f, p.2.safe ≤ p.2.data.length) → k < f.length → ∀ z, Torn (f.getD k z).2 ((tear picks i f).getD k z).2
  | [], _, _, _, h, _ => by simp at h
  | (s, x) :: f, i, k, hs, hk, z => by
    have hx := hs (s, x) (by simp)
    simp only at hx
    unfold tear
    split
    · rename_i e
      cases k with
      | zero => exact ⟨hx, Nat.le_refl _, (List.take_length).symm, e.symm⟩
      | succ k => exact tear_at picks f i k (fun p hp => hs p (by simp [hp])) (by simpa using hk) z
    · cases k with
      | zero =>
        have := kept_le picks i (x.data.length - x.safe)
        have e : (x.data.take (x.safe + kept picks i (x.data.length - x.safe))).length = x.safe + kept picks i (x.data.length - x.safe) := by rw [List.length_take]; omega
        show Torn x ⟨x.data.take (x.safe + kept picks i (x.data.length - x.safe)), x.safe + kept picks i (x.data.length - x.safe)⟩
        exact ⟨by simp only; omega, by simp only; omega, by simp only; rw [e], by simp only; rw [e]⟩
      | succ k => exact tear_at picks f (i + 1) k (fun p hp => hs p (by simp [hp])) (by simpa using hk) z
theorem length_tear (picks : List Int) (f : Ent Fi) (i : Nat) : (tear picks i f).length = f.length := by rw [← length_names, names_tear, length_names]
/-- Whoever is safe whole is left alone. -/
theorem tear_safe (picks : List Int) : ∀ (f : Ent Fi) (i : Nat), (∀ p ∈ f, p.2.safe = p.2.data.length) → tear picks i f = f
  | [], _, _ => rfl
  | (s, x) :: f, i, h => by
    unfold tear
    rw [if_pos (h (s, x) (by simp)).symm, tear_safe picks f i (fun p hp => h p (by simp [hp]))]
theorem get_tear_safe (picks : List Int) {x : Fi} (hx : x.safe = x.data.length) : ∀ (f : Ent Fi) (i : Nat), get f s = some x → get (tear picks i f) s = some x
  | [], _, h => by cases h
  | (u, y) :: f, i, h => by
    rw [get_cons] at h
    by_cases e : u = s
    · rw [if_pos (by simpa using e)] at h
      cases h
      unfold tear
      rw [if_pos hx.symm, get_cons, if_pos (by simpa using e)]
    · rw [if_neg (by simpa using e)] at h
      unfold tear
      split
      · rw [get_cons, if_neg (by simpa using e)]; exact get_tear_safe picks hx f i h
      · rw [get_cons, if_neg (by simpa using e)]; exact get_tear_safe picks hx f (i + 1) h
theorem mem_iff_at {α : Type} {l : List α} {x : α} (z : α) : x ∈ l ↔ ∃ k, k < l.length ∧ l.getD k z = x := by
  rw [List.mem_iff_getElem]
  constructor
  · rintro ⟨k, hk, rfl⟩
    exact ⟨k, hk, by rw [List.getD_eq_getElem?_getD, List.getElem?_eq_getElem hk]; rfl⟩
  · rintro ⟨k, hk, rfl⟩
    exact ⟨k, hk, by rw [List.getD_eq_getElem?_getD, List.getElem?_eq_getElem hk]; rfl⟩
theorem tear_mem (picks : List Int) {f : Ent Fi} {i : Nat} (hs : ∀ p ∈ f, p.2.safe ≤ p.2.data.length) {p : Nm × Fi} (hp : p ∈ tear picks i f) : p.2.safe = p.2.data.length := by
  obtain ⟨k, hk, rfl⟩ := (mem_iff_at (([], ⟨[], 0⟩) : Nm × Fi)).1 hp
  rw [length_tear] at hk
  exact (tear_at picks f i k hs hk _).safe
theorem tot_tear (picks : List Int) : ∀ (f : Ent Fi) (i : Nat), tot (tear picks i f) ≤ tot f
  | [], _ => Nat.le_refl _
  | (s, x) :: f, i => by
    unfold tear
    split
    · rw [tot_cons, tot_cons]; have := tot_tear picks f i; omega
    · rw [tot_cons, tot_cons]; have := tot_tear picks f (i + 1); simp only [List.length_take]; omega
theorem Okn.crash (h : Okn lim d) {picks : List Int} : Okn lim (d.crash picks) := by
  have hn := names_tear picks d.f 0
  refine ⟨h.rising.of_names hn, fun p hp => ?_, fun p hp => Nat.le_of_eq (tear_mem picks h.safe hp), by show (tear picks 0 d.f).length ≤ lim; rw [length_tear]; exact h.few, Nat.le_trans (tot_tear picks d.f 0) h.room⟩
  have : p.1 ∈ names d.f := by rw [← hn]; exact List.mem_map_of_mem hp
  obtain ⟨q, hq, e⟩ := List.mem_map.1 this
  rw [← e]
  exact h.nm q hq
theorem Okn.step (h : Okn lim d) (o : Do) (hl : 64 ≤ lim := by decide) : Okn lim (d.step o).1 := by
  unfold Dk.step
  split
  · exact h.create hl
  split
  · exact h.append
  split
  · exact h.sync
  split
  · exact h.cut
  split
  · exact h.rename
  split
  · exact h.remove
  split
  · exact h.arm
  split
  · exact h.crash
  split <;> exact h
theorem Okn.run (h : Okn lim d) (l : List Do) (hl : 64 ≤ lim := by decide) : Okn lim (d.run l) := by
  induction l generalizing d with
  | nil => exact h
  | cons o l ih => exact ih (h.step o hl)
end
end Go.Proofs.Ytefgnlijgomgpaa
