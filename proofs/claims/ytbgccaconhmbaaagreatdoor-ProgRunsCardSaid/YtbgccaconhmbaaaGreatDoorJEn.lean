/- Names with what stands at each, by rising names, in plain terms: found, laid in, struck, turned. Conditions: none of its own. -/
import Derived.Lib.Hide
namespace Go.Proofs.YtbgccaconhmbaaaGreatDoor
abbrev Nm := List UInt8
theorem nm_irrefl (a : Nm) : ¬ a < a := List.lt_irrefl a
theorem nm_trans {a b c : Nm} (h : a < b) (k : b < c) : a < c := List.lt_trans h k
theorem nm_ne {a b : Nm} (h : a < b) : a ≠ b := fun e => nm_irrefl b (e ▸ h)
theorem nm_cases (a b : Nm) : a < b ∨ a = b ∨ b < a := by
  by_cases h : a < b
  · exact .inl h
  · by_cases k : b < a
    · exact .inr (.inr k)
    · exact .inr (.inl (List.le_antisymm (List.not_lt.1 k) (List.not_lt.1 h)))
section
variable {α β : Type}
abbrev Ent (α : Type) := List (Nm × α)
def names (f : Ent α) : List Nm := f.map (·.1)
/-- By rising names. -/
def Rising (f : Ent α) : Prop := f.Pairwise fun p q => p.1 < q.1
def has (f : Ent α) (s : Nm) : Bool := f.any fun p => p.1 == s
def get (f : Ent α) (s : Nm) : Option α := (f.find? fun p => p.1 == s).map (·.2)
def del (f : Ent α) (s : Nm) : Ent α := f.filter fun p => !(p.1 == s)
def ins (s : Nm) (x : α) : Ent α → Ent α
  | [] => [(s, x)]
  | p :: r => if p.1 < s then p :: ins s x r else (s, x) :: p :: r
def put (f : Ent α) (s : Nm) (x : α) : Ent α := ins s x (del f s)
/-- What stands at one name is turned. -/
def upd (f : Ent α) (s : Nm) (g : α → α) : Ent α := f.map fun p => if p.1 == s then (p.1, g p.2) else p
theorem get_nil (s : Nm) : get ([] : Ent α) s = none := rfl
theorem get_cons (p : Nm × α) (f : Ent α) (s : Nm) : get (p :: f) s = if p.1 == s then some p.2 else get f s := by
  unfold get
  rw [List.find?_cons]
  cases p.1 == s <;> rfl
theorem has_get (f : Ent α) (s : Nm) : has f s = (get f s).isSome := by
  induction f with
  | nil => rfl
  | cons p f ih =>
    rw [get_cons]
    unfold has at ih ⊢
    rw [List.any_cons, ih]
    cases p.1 == s <;> simp
theorem get_mem {f : Ent α} {s : Nm} {x : α} (h : get f s = some x) : (s, x) ∈ f := by
  induction f with
  | nil => cases h
  | cons p f ih =>
    rw [get_cons] at h
    by_cases e : p.1 = s
    · subst e
      simp at h
      subst h
      exact List.mem_cons_self
    · rw [if_neg (by simpa using e)] at h
      exact List.mem_cons_of_mem _ (ih h)
theorem Rising.tail {p : Nm × α} {f : Ent α} (h : Rising (p :: f)) : Rising f := (List.pairwise_cons.1 h).2
theorem Rising.head {p : Nm × α} {f : Ent α} (h : Rising (p :: f)) : ∀ q ∈ f, p.1 < q.1 := (List.pairwise_cons.1 h).1
theorem rising_nil : Rising ([] : Ent α) := List.Pairwise.nil
theorem mem_get {f : Ent α} {s : Nm} {x : α} (hr : Rising f) (h : (s, x) ∈ f) : get f s = some x := by
  induction f with
  | nil => cases h
  | cons p f ih =>
    rw [get_cons]
    rcases List.mem_cons.1 h with e | h
    · subst e; simp
    · have := hr.head _ h
      rw [if_neg (by simpa using nm_ne this)]
      exact ih hr.tail h
theorem get_none {f : Ent α} {s : Nm} (h : get f s = none) : ∀ p ∈ f, p.1 ≠ s := by
  intro p hp e
  have : has f s = true := List.any_eq_true.2 ⟨p, hp, by simpa using e⟩
  rw [has_get, h] at this
  cases this
theorem mem_del {f : Ent α} {s : Nm} {p : Nm × α} : p ∈ del f s ↔ p ∈ f ∧ p.1 ≠ s := by
  unfold del
  rw [List.mem_filter]
  simp
theorem Rising.del {f : Ent α} (h : Rising f) (s : Nm) : Rising (del f s) := List.Pairwise.filter _ h
theorem del_of_none {f : Ent α} {s : Nm} (h : get f s = none) : del f s = f := by
  unfold YtbgccaconhmbaaaGreatDoor.del
  rw [List.filter_eq_self]
  intro p hp
  simpa using get_none h p hp
theorem mem_ins {s : Nm} {x : α} {p : Nm × α} : ∀ {f : Ent α}, p ∈ ins s x f ↔ p = (s, x) ∨ p ∈ f
  | [] => by simp [ins]
  | q :: f => by
    unfold ins
    split
    · rw [List.mem_cons, mem_ins, List.mem_cons]
      constructor
      · rintro (h | h | h)
        · exact .inr (.inl h)
        · exact .inl h
        · exact .inr (.inr h)
      · rintro (h | h | h)
        · exact .inr (.inl h)
        · exact .inl h
        · exact .inr (.inr h)
    · rw [List.mem_cons]
theorem Rising.ins {s : Nm} {x : α} : ∀ {f : Ent α}, Rising f → (∀ p ∈ f, p.1 ≠ s) → Rising (ins s x f)
  | [], _, _ => by unfold YtbgccaconhmbaaaGreatDoor.ins; exact List.pairwise_singleton _ _
  | q :: f, h, hn => by
    unfold YtbgccaconhmbaaaGreatDoor.ins
    split
    · rename_i hlt
      refine List.pairwise_cons.2 ⟨fun p hp => ?_, Rising.ins h.tail (fun p hp => hn p (by simp [hp]))⟩
      rcases mem_ins.1 hp with rfl | hp
      · exact hlt
      · exact h.head p hp
    · rename_i hlt
      have hq : s < q.1 := by
        rcases nm_cases q.1 s with k | k | k
        · exact absurd k hlt
        · exact absurd k (hn q (by simp))
        · exact k
      refine List.pairwise_cons.2 ⟨fun p hp => ?_, h⟩
      rcases List.mem_cons.1 hp with rfl | hp
      · exact hq
      · exact nm_trans hq (h.head p hp)
theorem Rising.put {f : Ent α} (h : Rising f) (s : Nm) (x : α) : Rising (put f s x) := (h.del s).ins fun _ hp => (mem_del.1 hp).2
theorem mem_put {f : Ent α} {s : Nm} {x : α} {p : Nm × α} : p ∈ put f s x ↔ p = (s, x) ∨ (p ∈ f ∧ p.1 ≠ s) := by
  unfold put
  rw [mem_ins, mem_del]
theorem length_ins (s : Nm) (x : α) : ∀ f : Ent α, (ins s x f).length = f.length + 1
  | [] => rfl
  | q :: f => by
    unfold ins
    split
    · simp [length_ins s x f]
    · simp
theorem rising_eq {f g : Ent α} (hf : Rising f) (hg : Rising g) (h : ∀ p, p ∈ f ↔ p ∈ g) : f = g := by
  induction f generalizing g with
  | nil =>
    cases g with
    | nil => rfl
    | cons q g => exact absurd ((h q).2 (by simp)) (by simp)
  | cons p f ih =>
    cases g with
    | nil => exact absurd ((h p).1 (by simp)) (by simp)
    | cons q g =>
      have hpq : p = q := by
        rcases List.mem_cons.1 ((h p).1 (by simp)) with e | hp
        · exact e
        · rcases List.mem_cons.1 ((h q).2 (by simp)) with e | hq
          · exact e.symm
          · exact absurd (nm_trans (hg.head p hp) (hf.head q hq)) (nm_irrefl _)
      subst hpq
      rw [ih hf.tail hg.tail fun r => ⟨fun hr => ?_, fun hr => ?_⟩]
      · rcases List.mem_cons.1 ((h r).1 (by simp [hr])) with e | k
        · exact absurd (hf.head r hr) (by rw [e]; exact nm_irrefl _)
        · exact k
      · rcases List.mem_cons.1 ((h r).2 (by simp [hr])) with e | k
        · exact absurd (hg.head r hr) (by rw [e]; exact nm_irrefl _)
        · exact k
theorem rising_ext {f g : Ent α} (hf : Rising f) (hg : Rising g) (h : ∀ s, get f s = get g s) : f = g :=
  rising_eq hf hg fun p => ⟨fun hp => get_mem ((h p.1).symm.trans (mem_get hf hp)), fun hp => get_mem ((h p.1).trans (mem_get hg hp))⟩
theorem get_of_mem_iff {f g : Ent α} (hg : Rising g) {s : Nm} (h : ∀ x, (s, x) ∈ f ↔ (s, x) ∈ g) : get f s = get g s := by
  cases e : get f s with
  | none =>
    cases e2 : get g s with
    | none => rfl
    | some y => exact absurd rfl (get_none e _ ((h y).2 (get_mem e2)))
  | some x => exact (mem_get hg ((h x).1 (get_mem e))).symm
theorem get_put_same {f : Ent α} (h : Rising f) (s : Nm) (x : α) : get (put f s x) s = some x := mem_get (h.put s x) (mem_put.2 (.inl rfl))
theorem get_put_other {f : Ent α} (h : Rising f) {s t : Nm} (x : α) (hne : t ≠ s) : get (put f s x) t = get f t := by
  refine get_of_mem_iff h fun y => ?_
  rw [mem_put]
  constructor
  · rintro (k | k)
    · exact absurd (congrArg Prod.fst k) hne
    · exact k.1
  · exact fun k => .inr ⟨k, hne⟩
theorem get_del_same (f : Ent α) (s : Nm) : get (del f s) s = none := by
  cases e : get (del f s) s with
  | none => rfl
  | some x => exact absurd rfl (mem_del.1 (get_mem e)).2
theorem get_del_other {f : Ent α} (h : Rising f) {s t : Nm} (hne : t ≠ s) : get (del f s) t = get f t :=
  get_of_mem_iff h fun y => by rw [mem_del]; exact ⟨fun k => k.1, fun k => ⟨k, hne⟩⟩
theorem names_upd (f : Ent α) (s : Nm) (g : α → α) : names (upd f s g) = names f := by
  unfold names upd
  rw [List.map_map]
  refine List.map_congr_left fun p _ => ?_
  show (if p.1 == s then (p.1, g p.2) else p).1 = p.1
  split <;> rfl
theorem rising_names {f : Ent α} : Rising f ↔ (names f).Pairwise (· < ·) := by unfold Rising names; rw [List.pairwise_map]
theorem Rising.of_names {f : Ent α} {g : Ent β} (h : Rising f) (hn : names g = names f) : Rising g := rising_names.2 (hn ▸ rising_names.1 h)
theorem Rising.upd {f : Ent α} (h : Rising f) (s : Nm) (g : α → α) : Rising (upd f s g) := h.of_names (names_upd f s g)
theorem length_names (f : Ent α) : (names f).length = f.length := List.length_map ..
theorem length_upd (f : Ent α) (s : Nm) (g : α → α) : (upd f s g).length = f.length := List.length_map ..
theorem mem_upd {f : Ent α} {s : Nm} {g : α → α} {t : Nm} {y : α} : (t, y) ∈ upd f s g ↔ (t = s ∧ ∃ x, (s, x) ∈ f ∧ y = g x) ∨ (t ≠ s ∧ (t, y) ∈ f) := by
  unfold upd
  rw [List.mem_map]
  constructor
  · rintro ⟨p, hp, e⟩
    by_cases k : p.1 = s
    · rw [if_pos (by simpa using k)] at e
      have h1 := congrArg Prod.fst e
      have h2 := congrArg Prod.snd e
      simp only at h1 h2
      exact .inl ⟨h1.symm.trans k, p.2, by rw [← k]; exact hp, h2.symm⟩
    · rw [if_neg (by simpa using k)] at e
      subst e
      exact .inr ⟨k, hp⟩
  · rintro (⟨rfl, x, hx, rfl⟩ | ⟨hne, h⟩)
    · exact ⟨(t, x), hx, by simp⟩
    · exact ⟨(t, y), h, by simp [hne]⟩
theorem get_upd_same {f : Ent α} {s : Nm} {g : α → α} : get (upd f s g) s = (get f s).map g := by
  induction f with
  | nil => rfl
  | cons p f ih =>
    show get ((if p.1 == s then (p.1, g p.2) else p) :: upd f s g) s = _
    rw [get_cons, get_cons, ih]
    cases h : p.1 == s <;> simp [h]
theorem get_upd_other {f : Ent α} {s t : Nm} {g : α → α} (hne : t ≠ s) : get (upd f s g) t = get f t := by
  induction f with
  | nil => rfl
  | cons p f ih =>
    show get ((if p.1 == s then (p.1, g p.2) else p) :: upd f s g) t = _
    rw [get_cons, get_cons, ih]
    cases h : p.1 == s
    · simp
    · have e : p.1 = s := by simpa using h
      simp [e, hne.symm]
theorem upd_put {f : Ent α} (h : Rising f) {s : Nm} {x : α} (g : α → α) (hx : get f s = some x) : upd f s g = put f s (g x) := by
  refine rising_ext (h.upd s g) (h.put s _) fun t => ?_
  by_cases e : t = s
  · subst e; rw [get_upd_same, get_put_same h, hx]; rfl
  · rw [get_upd_other e, get_put_other h _ e]
theorem length_del {f : Ent α} (h : Rising f) {s : Nm} {x : α} (hx : get f s = some x) : (del f s).length + 1 = f.length := by
  induction f with
  | nil => cases hx
  | cons p f ih =>
    by_cases e : p.1 = s
    · have hd : del (p :: f) s = f := by
        unfold YtbgccaconhmbaaaGreatDoor.del
        rw [List.filter_cons, if_neg (by simp [e]), List.filter_eq_self]
        intro q hq
        have := (nm_ne (h.head q hq)).symm
        rw [e] at this
        simpa using this
      rw [hd]; rfl
    · rw [get_cons, if_neg (by simpa using e)] at hx
      have hd : del (p :: f) s = p :: del f s := by
        unfold YtbgccaconhmbaaaGreatDoor.del
        rw [List.filter_cons, if_pos (by simp [e])]
      rw [hd, List.length_cons, List.length_cons, ih h.tail hx]
end
end Go.Proofs.YtbgccaconhmbaaaGreatDoor
