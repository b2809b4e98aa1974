/- Names with what stands at each, by rising names, in plain terms: found, laid in, struck, turned. Conditions: none of its own. A disk in plain terms: its files, its writes, what fails, what a crash leaves. Conditions: none of its own. -/
import Derived.Lib.Hide
namespace Go.Proofs.YtkilkhnoldfhcaaGreatDoor
abbrev Nm := List UInt8
theorem nm_irrefl (a : Nm) : ¬ a < a := List.lt_irrefl a
theorem nm_trans {a b c : Nm} (h : a < b) (k : b < c) : a < c := List.lt_trans h k
theorem nm_ne {a b : Nm} (h : a < b) : a ≠ b := fun e => nm_irrefl b (e ▸ h)
theorem nm_cases (a b : Nm) : a < b ∨ a = b ∨ b < a := by
  by_cases h : a < b
  · exact .inl h
  · by_cases k : b < a
    · exact .inr (.inr k)
    · exact .inr (.inl (List.le_antisymm (List.not_lt.1 k) (List.not_lt.1 h)))
section
variable {α β : Type}
abbrev Ent (α : Type) := List (Nm × α)
def names (f : Ent α) : List Nm := f.map (·.1)
/-- By rising names. -/
def Rising (f : Ent α) : Prop := f.Pairwise fun p q => p.1 < q.1
def has (f : Ent α) (s : Nm) : Bool := f.any fun p => p.1 == s
def get (f : Ent α) (s : Nm) : Option α := (f.find? fun p => p.1 == s).map (·.2)
def del (f : Ent α) (s : Nm) : Ent α := f.filter fun p => !(p.1 == s)
def ins (s : Nm) (x : α) : Ent α → Ent α
  | [] => [(s, x)]
  | p :: r => if p.1 < s then p :: ins s x r else (s, x) :: p :: r
def put (f : Ent α) (s : Nm) (x : α) : Ent α := ins s x (del f s)
/-- What stands at one name is turned. -/
def upd (f : Ent α) (s : Nm) (g : α → α) : Ent α := f.map fun p => if p.1 == s then (p.1, g p.2) else p
theorem get_nil (s : Nm) : get ([] : Ent α) s = none := rfl
theorem get_cons (p : Nm × α) (f : Ent α) (s : Nm) : get (p :: f) s = if p.1 == s then some p.2 else get f s := by
  unfold get
  rw [List.find?_cons]
  cases p.1 == s <;> rfl
theorem has_get (f : Ent α) (s : Nm) : has f s = (get f s).isSome := by
  induction f with
  | nil => rfl
  | cons p f ih =>
    rw [get_cons]
    unfold has at ih ⊢
    rw [List.any_cons, ih]
    cases p.1 == s <;> simp
theorem get_mem {f : Ent α} {s : Nm} {x : α} (h : get f s = some x) : (s, x) ∈ f := by
  induction f with
  | nil => cases h
  | cons p f ih =>
    rw [get_cons] at h
    by_cases e : p.1 = s
    · subst e
      simp at h
      subst h
      exact List.mem_cons_self
    · rw [if_neg (by simpa using e)] at h
      exact List.mem_cons_of_mem _ (ih h)
theorem Rising.tail {p : Nm × α} {f : Ent α} (h : Rising (p :: f)) : Rising f := (List.pairwise_cons.1 h).2
theorem Rising.head {p : Nm × α} {f : Ent α} (h : Rising (p :: f)) : ∀ q ∈ f, p.1 < q.1 := (List.pairwise_cons.1 h).1
theorem rising_nil : Rising ([] : Ent α) := List.Pairwise.nil
theorem mem_get {f : Ent α} {s : Nm} {x : α} (hr : Rising f) (h : (s, x) ∈ f) : get f s = some x := by
  induction f with
  | nil => cases h
  | cons p f ih =>
    rw [get_cons]
    rcases List.mem_cons.1 h with e | h
    · subst e; simp
    · have := hr.head _ h
      rw [if_neg (by simpa using nm_ne this)]
      exact ih hr.tail h
theorem get_none {f : Ent α} {s : Nm} (h : get f s = none) : ∀ p ∈ f, p.1 ≠ s := by
  intro p hp e
  have : has f s = true := List.any_eq_true.2 ⟨p, hp, by simpa using e⟩
  rw [has_get, h] at this
  cases this
theorem mem_del {f : Ent α} {s : Nm} {p : Nm × α} : p ∈ del f s ↔ p ∈ f ∧ p.1 ≠ s := by
  unfold del
  rw [List.mem_filter]
  simp
theorem Rising.del {f : Ent α} (h : Rising f) (s : Nm) : Rising (del f s) := List.Pairwise.filter _ h
theorem del_of_none {f : Ent α} {s : Nm} (h : get f s = none) : del f s = f := by
  unfold YtkilkhnoldfhcaaGreatDoor.del
  rw [List.filter_eq_self]
  intro p hp
  simpa using get_none h p hp
theorem mem_ins {s : Nm} {x : α} {p : Nm × α} : ∀ {f : Ent α}, p ∈ ins s x f ↔ p = (s, x) ∨ p ∈ f
  | [] => by simp [ins]
  | q :: f => by
    unfold ins
    split
    · rw [List.mem_cons, mem_ins, List.mem_cons]
      constructor
      · rintro (h | h | h)
        · exact .inr (.inl h)
        · exact .inl h
        · exact .inr (.inr h)
      · rintro (h | h | h)
        · exact .inr (.inl h)
        · exact .inl h
        · exact .inr (.inr h)
    · rw [List.mem_cons]
theorem Rising.ins {s : Nm} {x : α} : ∀ {f : Ent α}, Rising f → (∀ p ∈ f, p.1 ≠ s) → Rising (ins s x f)
  | [], _, _ => by unfold YtkilkhnoldfhcaaGreatDoor.ins; exact List.pairwise_singleton _ _
  | q :: f, h, hn => by
    unfold YtkilkhnoldfhcaaGreatDoor.ins
    split
    · rename_i hlt
      refine List.pairwise_cons.2 ⟨fun p hp => ?_, Rising.ins h.tail (fun p hp => hn p (by simp [hp]))⟩
      rcases mem_ins.1 hp with rfl | hp
      · exact hlt
      · exact h.head p hp
    · rename_i hlt
      have hq : s < q.1 := by
        rcases nm_cases q.1 s with k | k | k
        · exact absurd k hlt
        · exact absurd k (hn q (by simp))
        · exact k
      refine List.pairwise_cons.2 ⟨fun p hp => ?_, h⟩
      rcases List.mem_cons.1 hp with rfl | hp
      · exact hq
      · exact nm_trans hq (h.head p hp)
theorem Rising.put {f : Ent α} (h : Rising f) (s : Nm) (x : α) : Rising (put f s x) := (h.del s).ins fun _ hp => (mem_del.1 hp).2
theorem mem_put {f : Ent α} {s : Nm} {x : α} {p : Nm × α} : p ∈ put f s x ↔ p = (s, x) ∨ (p ∈ f ∧ p.1 ≠ s) := by
  unfold put
  rw [mem_ins, mem_del]
theorem length_ins (s : Nm) (x : α) : ∀ f : Ent α, (ins s x f).length = f.length + 1
  | [] => rfl
  | q :: f => by
    unfold ins
    split
    · simp [length_ins s x f]
    · simp
theorem rising_eq {f g : Ent α} (hf : Rising f) (hg : Rising g) (h : ∀ p, p ∈ f ↔ p ∈ g) : f = g := by
  induction f generalizing g with
  | nil =>
    cases g with
    | nil => rfl
    | cons q g => exact absurd ((h q).2 (by simp)) (by simp)
  | cons p f ih =>
    cases g with
    | nil => exact absurd ((h p).1 (by simp)) (by simp)
    | cons q g =>
      have hpq : p = q := by
        rcases List.mem_cons.1 ((h p).1 (by simp)) with e | hp
        · exact e
        · rcases List.mem_cons.1 ((h q).2 (by simp)) with e | hq
          · exact e.symm
          · exact absurd (nm_trans (hg.head p hp) (hf.head q hq)) (nm_irrefl _)
      subst hpq
      rw [ih hf.tail hg.tail fun r => ⟨fun hr => ?_, fun hr => ?_⟩]
      · rcases List.mem_cons.1 ((h r).1 (by simp [hr])) with e | k
        · exact absurd (hf.head r hr) (by rw [e]; exact nm_irrefl _)
        · exact k
      · rcases List.mem_cons.1 ((h r).2 (by simp [hr])) with e | k
        · exact absurd (hg.head r hr) (by rw [e]; exact nm_irrefl _)
        · exact k
theorem rising_ext {f g : Ent α} (hf : Rising f) (hg : Rising g) (h : ∀ s, get f s = get g s) : f = g :=
  rising_eq hf hg fun p => ⟨fun hp => get_mem ((h p.1).symm.trans (mem_get hf hp)), fun hp => get_mem ((h p.1).trans (mem_get hg hp))⟩
theorem get_of_mem_iff {f g : Ent α} (hg : Rising g) {s : Nm} (h : ∀ x, (s, x) ∈ f ↔ (s, x) ∈ g) : get f s = get g s := by
  cases e : get f s with
  | none =>
    cases e2 : get g s with
    | none => rfl
    | some y => exact absurd rfl (get_none e _ ((h y).2 (get_mem e2)))
  | some x => exact (mem_get hg ((h x).1 (get_mem e))).symm
theorem get_put_same {f : Ent α} (h : Rising f) (s : Nm) (x : α) : get (put f s x) s = some x := mem_get (h.put s x) (mem_put.2 (.inl rfl))
theorem get_put_other {f : Ent α} (h : Rising f) {s t : Nm} (x : α) (hne : t ≠ s) : get (put f s x) t = get f t := by
  refine get_of_mem_iff h fun y => ?_
  rw [mem_put]
  constructor
  · rintro (k | k)
    · exact absurd (congrArg Prod.fst k) hne
    · exact k.1
  · exact fun k => .inr ⟨k, hne⟩
theorem get_del_same (f : Ent α) (s : Nm) : get (del f s) s = none := by
  cases e : get (del f s) s with
  | none => rfl
  | some x => exact absurd rfl (mem_del.1 (get_mem e)).2
theorem get_del_other {f : Ent α} (h : Rising f) {s t : Nm} (hne : t ≠ s) : get (del f s) t = get f t :=
  get_of_mem_iff h fun y => by rw [mem_del]; exact ⟨fun k => k.1, fun k => ⟨k, hne⟩⟩
theorem names_upd (f : Ent α) (s : Nm) (g : α → α) : names (upd f s g) = names f := by
  unfold names upd
  rw [List.map_map]
  refine List.map_congr_left fun p _ => ?_
  show (if p.1 == s then (p.1, g p.2) else p).1 = p.1
  split <;> rfl
theorem rising_names {f : Ent α} : Rising f ↔ (names f).Pairwise (· < ·) := by unfold Rising names; rw [List.pairwise_map]
theorem Rising.of_names {f : Ent α} {g : Ent β} (h : Rising f) (hn : names g = names f) : Rising g := rising_names.2 (hn ▸ rising_names.1 h)
theorem Rising.upd {f : Ent α} (h : Rising f) (s : Nm) (g : α → α) : Rising (upd f s g) := h.of_names (names_upd f s g)
theorem length_names (f : Ent α) : (names f).length = f.length := List.length_map ..
theorem length_upd (f : Ent α) (s : Nm) (g : α → α) : (upd f s g).length = f.length := List.length_map ..
theorem mem_upd {f : Ent α} {s : Nm} {g : α → α} {t : Nm} {y : α} : (t, y) ∈ upd f s g ↔ (t = s ∧ ∃ x, (s, x) ∈ f ∧ y = g x) ∨ (t ≠ s ∧ (t, y) ∈ f) := by
  unfold upd
  rw [List.mem_map]
  constructor
  · rintro ⟨p, hp, e⟩
    by_cases k : p.1 = s
    · rw [if_pos (by simpa using k)] at e
      have h1 := congrArg Prod.fst e
      have h2 := congrArg Prod.snd e
      simp only at h1 h2
      exact .inl ⟨h1.symm.trans k, p.2, by rw [← k]; exact hp, h2.symm⟩
    · rw [if_neg (by simpa using k)] at e
      subst e
      exact .inr ⟨k, hp⟩
  · rintro (⟨rfl, x, hx, rfl⟩ | ⟨hne, h⟩)
    · exact ⟨(t, x), hx, by simp⟩
    · exact ⟨(t, y), h, by simp [hne]⟩
theorem get_upd_same {f : Ent α} {s : Nm} {g : α → α} : get (upd f s g) s = (get f s).map g := by
  induction f with
  | nil => rfl
  | cons p f ih =>
    show get ((if p.1 == s then (p.1, g p.2) else p) :: upd f s g) s = _
    rw [get_cons, get_cons, ih]
    cases h : p.1 == s <;> simp [h]
theorem get_upd_other {f : Ent α} {s t : Nm} {g : α → α} (hne : t ≠ s) : get (upd f s g) t = get f t := by
  induction f with
  | nil => rfl
  | cons p f ih =>
    show get ((if p.1 == s then (p.1, g p.2) else p) :: upd f s g) t = _
    rw [get_cons, get_cons, ih]
    cases h : p.1 == s
    · simp
    · have e : p.1 = s := by simpa using h
      simp [e, hne.symm]
theorem upd_put {f : Ent α} (h : Rising f) {s : Nm} {x : α} (g : α → α) (hx : get f s = some x) : upd f s g = put f s (g x) := by
  refine rising_ext (h.upd s g) (h.put s _) fun t => ?_
  by_cases e : t = s
  · subst e; rw [get_upd_same, get_put_same h, hx]; rfl
  · rw [get_upd_other e, get_put_other h _ e]
theorem length_del {f : Ent α} (h : Rising f) {s : Nm} {x : α} (hx : get f s = some x) : (del f s).length + 1 = f.length := by
  induction f with
  | nil => cases hx
  | cons p f ih =>
    by_cases e : p.1 = s
    · have hd : del (p :: f) s = f := by
        unfold YtkilkhnoldfhcaaGreatDoor.del
        rw [List.filter_cons, if_neg (by simp [e]), List.filter_eq_self]
        intro q hq
        have := (nm_ne (h.head q hq)).symm
        rw [e] at this
        simpa using this
      rw [hd]; rfl
    · rw [get_cons, if_neg (by simpa using e)] at hx
      have hd : del (p :: f) s = p :: del f s := by
        unfold YtkilkhnoldfhcaaGreatDoor.del
        rw [List.filter_cons, if_pos (by simp [e])]
      rw [hd, List.length_cons, List.length_cons, ih h.tail hx]
end
end Go.Proofs.YtkilkhnoldfhcaaGreatDoor
namespace Go.Proofs.YtkilkhnoldfhcaaGreatDoor
/-- A file: its bytes; how many are safe. -/
structure Fi where
  data : List UInt8
  safe : Nat
/-- A disk. -/
structure Dk where
  f : Ent Fi
  off : Bool
  left : Nat
  done : Nat
def tot (f : Ent Fi) : Nat := (f.map fun p => p.2.data.length).sum
def isNm (s : Nm) : Bool := decide (1 ≤ s.length) && decide (s.length ≤ 20)
/-- What a disk of at most n files keeps to. -/
structure Okn (n : Nat) (d : Dk) : Prop where
  rising : Rising d.f
  nm : ∀ p ∈ d.f, isNm p.1 = true
  safe : ∀ p ∈ d.f, p.2.safe ≤ p.2.data.length
  few : d.f.length ≤ n
  room : tot d.f ≤ 4194304
abbrev Ok := Okn 64
abbrev Okr := Okn 1000
def Dk.zero : Dk := ⟨[], false, 0, 0⟩
theorem ok_zero {n : Nat} : Okn n .zero := ⟨rising_nil, fun _ h => (nomatch h), fun _ h => (nomatch h), Nat.zero_le _, Nat.zero_le _⟩
/-- A write that has no error of its own: is it done? -/
def Dk.spend (d : Dk) : Dk × Bool :=
  if d.left = 1 then ({ d with left := 0, off := true }, false) else ({ d with left := d.left - 1, done := d.done + 1 }, true)
def Dk.create (d : Dk) (s : Nm) : Dk × Nat :=
  if d.off then (d, 12) else if !isNm s then (d, 10) else if has d.f s then (d, 9) else if 64 ≤ d.f.length then (d, 3)
  else if d.spend.2 then ({ d.spend.1 with f := put d.f s ⟨[], 0⟩ }, 0) else (d.spend.1, 12)
def Dk.append (d : Dk) (s : Nm) (b : List UInt8) : Dk × Nat :=
  if d.off then (d, 12) else if !has d.f s then (d, 8) else if 4194304 - tot d.f < b.length then (d, 11)
  else ({ d.spend.1 with f := upd d.f s fun x => ⟨x.data ++ b, x.safe⟩ }, if d.spend.2 then 0 else 12)
def Dk.sync (d : Dk) (s : Nm) : Dk × Nat :=
  if d.off then (d, 12) else if !has d.f s then (d, 8)
  else if d.spend.2 then ({ d.spend.1 with f := upd d.f s fun x => ⟨x.data, x.data.length⟩ }, 0) else (d.spend.1, 12)
def len (f : Ent Fi) (s : Nm) : Nat := match get f s with | some x => x.data.length | none => 0
def Dk.cut (d : Dk) (s : Nm) (n : Int) : Dk × Nat :=
  if d.off then (d, 12) else if !has d.f s then (d, 8) else if n < 0 ∨ (len d.f s : Int) < n then (d, 1)
  else if d.spend.2 then ({ d.spend.1 with f := upd d.f s fun x => ⟨x.data.take n.toNat, min x.safe n.toNat⟩ }, 0) else (d.spend.1, 12)
def move (f : Ent Fi) (s t : Nm) : Ent Fi := match get f s with | some x => put (del f s) t x | none => f
def Dk.rename (d : Dk) (s t : Nm) : Dk × Nat :=
  if d.off then (d, 12) else if !has d.f s then (d, 8) else if !isNm t then (d, 10)
  else if d.spend.2 then ({ d.spend.1 with f := move d.f s t }, 0) else (d.spend.1, 12)
def Dk.remove (d : Dk) (s : Nm) : Dk × Nat :=
  if d.off then (d, 12) else if !has d.f s then (d, 8)
  else if d.spend.2 then ({ d.spend.1 with f := del d.f s }, 0) else (d.spend.1, 12)
def Dk.arm (d : Dk) (n : Int) : Dk := if d.off then d else { d with left := n.toNat }
/-- How many of the loose bytes are kept. -/
def kept (picks : List Int) (i loose : Nat) : Nat :=
  if picks.length ≤ i ∨ picks.getD i 0 < 0 then 0 else (picks.getD i 0).toNat % (loose + 1)
def tear (picks : List Int) : Nat → Ent Fi → Ent Fi
  | _, [] => []
  | i, (s, x) :: r =>
    if x.data.length = x.safe then (s, x) :: tear picks i r
    else (s, ⟨x.data.take (x.safe + kept picks i (x.data.length - x.safe)), x.safe + kept picks i (x.data.length - x.safe)⟩) :: tear picks (i + 1) r
def Dk.crash (d : Dk) (picks : List Int) : Dk := ⟨tear picks 0 d.f, false, 0, d.done⟩
def Dk.read (d : Dk) (s : Nm) : List UInt8 × Nat := match get d.f s with | some x => (x.data, 0) | none => ([], 8)
/-- What is done. -/
structure Do where
  kind : Int
  n : Int
  name : Nm
  to : Nm
  b : List UInt8
  picks : List Int
def Dk.step (d : Dk) (o : Do) : Dk × Nat :=
  if o.kind = 1 then d.create o.name else if o.kind = 2 then d.append o.name o.b else if o.kind = 3 then d.sync o.name else if o.kind = 4 then d.cut o.name o.n
  else if o.kind = 5 then d.rename o.name o.to else if o.kind = 6 then d.remove o.name else if o.kind = 7 then (d.arm o.n, 0) else if o.kind = 8 then (d.crash o.picks, 0)
  else if o.kind = 9 then (d, (d.read o.name).2) else (d, 0)
def Dk.run (d : Dk) : List Do → Dk
  | [] => d
  | o :: r => (d.step o).1.run r
theorem run_snoc (d : Dk) (l : List Do) (o : Do) : d.run (l ++ [o]) = ((d.run l).step o).1 := by
  induction l generalizing d with
  | nil => rfl
  | cons p l ih => exact ih _
section
variable {d : Dk} {s t : Nm} {lim : Nat}
theorem spend_f : d.spend.1.f = d.f := by unfold Dk.spend; split <;> rfl
theorem tot_nil : tot [] = 0 := rfl
theorem tot_cons (p : Nm × Fi) (f : Ent Fi) : tot (p :: f) = p.2.data.length + tot f := by unfold tot; simp
theorem tot_ins (x : Fi) : ∀ f : Ent Fi, tot (ins s x f) = x.data.length + tot f
  | [] => rfl
  | p :: f => by
    unfold ins
    split
    · rw [tot_cons, tot_cons, tot_ins x f]; omega
    · rw [tot_cons]
theorem tot_del {f : Ent Fi} (h : Rising f) {x : Fi} (hx : get f s = some x) : tot (del f s) + x.data.length = tot f := by
  induction f with
  | nil => cases hx
  | cons p f ih =>
    rw [get_cons] at hx
    unfold del
    rw [List.filter_cons, tot_cons]
    by_cases e : p.1 = s
    · rw [if_pos (by simpa using e)] at hx
      cases hx
      rw [if_neg (by simp [e])]
      have : del f s = f := del_of_none (by
        cases g : get f s with
        | none => rfl
        | some y => exact absurd (e ▸ h.head _ (get_mem g)) (nm_irrefl _))
      unfold del at this
      rw [this]; omega
    · rw [if_neg (by simpa using e)] at hx
      rw [if_pos (by simp [e]), tot_cons]
      have := ih h.tail hx
      unfold del at this
      omega
theorem del_le (f : Ent Fi) (s : Nm) : tot (del f s) ≤ tot f ∧ (del f s).length ≤ f.length := by
  refine ⟨?_, List.length_filter_le _ _⟩
  induction f with
  | nil => exact Nat.le_refl _
  | cons p f ih =>
    unfold del at ih ⊢
    rw [List.filter_cons]
    split
    · rw [tot_cons, tot_cons]; omega
    · rw [tot_cons]; omega
theorem has_some (h : has d.f s = true) : ∃ x, get d.f s = some x := by rw [has_get] at h; exact Option.isSome_iff_exists.1 h
theorem has_none {f : Ent Fi} (h : has f s = false) : get f s = none := by rw [has_get] at h; simpa using h
theorem tot_upd {f : Ent Fi} (h : Rising f) {x : Fi} (g : Fi → Fi) (hx : get f s = some x) : tot (upd f s g) + x.data.length = tot f + (g x).data.length := by
  rw [upd_put h g hx]
  unfold put
  rw [tot_ins]
  have := tot_del h hx
  omega
theorem Okn.spend (h : Okn lim d) : Okn lim d.spend.1 := by
  have e := spend_f (d := d)
  exact ⟨by rw [e]; exact h.rising, by rw [e]; exact h.nm, by rw [e]; exact h.safe, by rw [e]; exact h.few, by rw [e]; exact h.room⟩
theorem Okn.of_f {d' : Dk} (h : Okn lim d) (e : d'.f = d.f) : Okn lim d' := ⟨by rw [e]; exact h.rising, by rw [e]; exact h.nm, by rw [e]; exact h.safe, by rw [e]; exact h.few, by rw [e]; exact h.room⟩
theorem Okn.upd (h : Okn lim d) {x : Fi} (g : Fi → Fi) (hx : get d.f s = some x) (hg : (g x).safe ≤ (g x).data.length) (hr : tot d.f + (g x).data.length ≤ 4194304 + x.data.length) {d' : Dk} (e : d'.f = upd d.f s g) : Okn lim d' := by
  refine ⟨by rw [e]; exact h.rising.upd s g, fun p hp => ?_, fun p hp => ?_, by rw [e, length_upd]; exact h.few, ?_⟩
  · rw [e] at hp
    obtain ⟨t, y⟩ := p
    rcases mem_upd.1 hp with ⟨rfl, z, hz, rfl⟩ | ⟨_, k⟩
    · have := h.nm (t, z) hz
      exact this
    · exact h.nm _ k
  · rw [e] at hp
    obtain ⟨t, y⟩ := p
    rcases mem_upd.1 hp with ⟨rfl, z, hz, rfl⟩ | ⟨_, k⟩
    · rw [mem_get h.rising hz] at hx
      cases hx
      exact hg
    · exact h.safe _ k
  · rw [e]
    have := tot_upd h.rising g hx
    omega
theorem get_tot {f : Ent Fi} (h : Rising f) {x : Fi} (hx : get f s = some x) : x.data.length ≤ tot f := by
  have := tot_del h hx
  omega
theorem Okn.create (h : Okn lim d) (hl : 64 ≤ lim := by decide) : Okn lim (d.create s).1 := by
  unfold Dk.create
  split
  · exact h
  · split
    · exact h
    · rename_i hn
      split
      · exact h
      · rename_i hh
        split
        · exact h
        · rename_i hf
          split
          · have hg : get d.f s = none := has_none (by simpa using hh)
            refine ⟨h.rising.put _ _, fun p hp => ?_, fun p hp => ?_, ?_, ?_⟩
            · rcases mem_put.1 hp with rfl | ⟨k, _⟩
              · simpa using hn
              · exact h.nm _ k
            · rcases mem_put.1 hp with rfl | ⟨k, _⟩
              · exact Nat.zero_le _
              · exact h.safe _ k
            · show (put d.f s ⟨[], 0⟩).length ≤ lim
              unfold put
              rw [length_ins, del_of_none hg]
              omega
            · show tot (put d.f s ⟨[], 0⟩) ≤ 4194304
              unfold put
              rw [tot_ins, del_of_none hg]
              have := h.room
              simpa using this
          · exact h.spend
theorem Okn.append (h : Okn lim d) {b : List UInt8} : Okn lim (d.append s b).1 := by
  unfold Dk.append
  split
  · exact h
  · split
    · exact h
    · rename_i hh
      split
      · exact h
      · rename_i hr
        obtain ⟨x, hx⟩ := has_some (d := d) (s := s) (by simpa using hh)
        have hm := h.safe _ (get_mem hx)
        have hroom := h.room
        simp only at hm
        refine h.upd (fun x => ⟨x.data ++ b, x.safe⟩) hx ?_ ?_ rfl
        · simp only [List.length_append]; omega
        · simp only [List.length_append]; omega
theorem Okn.sync (h : Okn lim d) : Okn lim (d.sync s).1 := by
  unfold Dk.sync
  split
  · exact h
  · split
    · exact h
    · rename_i hh
      split
      · obtain ⟨x, hx⟩ := has_some (d := d) (s := s) (by simpa using hh)
        have hroom := h.room
        exact h.upd (fun x => ⟨x.data, x.data.length⟩) hx (Nat.le_refl _) (by simp only; omega) rfl
      · exact h.spend
theorem Okn.cut (h : Okn lim d) {n : Int} : Okn lim (d.cut s n).1 := by
  unfold Dk.cut
  split
  · exact h
  · split
    · exact h
    · rename_i hh
      split
      · exact h
      · rename_i hn
        split
        · obtain ⟨x, hx⟩ := has_some (d := d) (s := s) (by simpa using hh)
          have hroom := h.room
          have hs := h.safe _ (get_mem hx)
          simp only at hs
          refine h.upd (fun x => ⟨x.data.take n.toNat, min x.safe n.toNat⟩) hx ?_ ?_ rfl
          · simp only [List.length_take]; omega
          · simp only [List.length_take]; omega
        · exact h.spend
theorem Okn.remove (h : Okn lim d) : Okn lim (d.remove s).1 := by
  unfold Dk.remove
  split
  · exact h
  · split
    · exact h
    · split
      · have := del_le d.f s
        have h1 := h.few
        have h2 := h.room
        exact ⟨h.rising.del s, fun p hp => h.nm p (mem_del.1 hp).1, fun p hp => h.safe p (mem_del.1 hp).1, by show (del d.f s).length ≤ lim; omega, by show tot (del d.f s) ≤ 4194304; omega⟩
      · exact h.spend
theorem length_put_le (f : Ent Fi) (s : Nm) (x : Fi) : (put f s x).length ≤ f.length + 1 ∧ tot (put f s x) ≤ tot f + x.data.length := by
  unfold put
  rw [length_ins, tot_ins]
  have := del_le f s
  omega
theorem Okn.rename (h : Okn lim d) : Okn lim (d.rename s t).1 := by
  unfold Dk.rename
  split
  · exact h
  · split
    · exact h
    · rename_i hh
      split
      · exact h
      · rename_i hn
        split
        · obtain ⟨x, hx⟩ := has_some (d := d) (s := s) (by simpa using hh)
          have e : move d.f s t = put (del d.f s) t x := by unfold move; rw [hx]
          have h1 := h.few
          have h2 := h.room
          have h3 := tot_del h.rising hx
          have h4 := length_del h.rising hx
          have h5 := length_put_le (del d.f s) t x
          refine ⟨?_, fun p hp => ?_, fun p hp => ?_, ?_, ?_⟩
          · show Rising (move d.f s t)
            rw [e]; exact (h.rising.del s).put t x
          · have hp' : p ∈ move d.f s t := hp
            rw [e] at hp'
            rcases mem_put.1 hp' with rfl | ⟨k, _⟩
            · simpa using hn
            · exact h.nm p (mem_del.1 k).1
          · have hp' : p ∈ move d.f s t := hp
            rw [e] at hp'
            rcases mem_put.1 hp' with rfl | ⟨k, _⟩
            · have := h.safe (s, x) (get_mem hx)
              exact this
            · exact h.safe p (mem_del.1 k).1
          · show (move d.f s t).length ≤ lim
            rw [e]; omega
          · show tot (move d.f s t) ≤ 4194304
            rw [e]; omega
        · exact h.spend
theorem Okn.arm (h : Okn lim d) {n : Int} : Okn lim (d.arm n) := by unfold Dk.arm; split <;> first | exact h | exact h.of_f rfl
theorem kept_le (picks : List Int) (i loose : Nat) : kept picks i loose ≤ loose := by
  unfold kept
  split
  · exact Nat.zero_le _
  · have := Nat.mod_lt (picks.getD i 0).toNat (show 0 < loose + 1 by omega)
    omega
theorem names_tear (picks : List Int) : ∀ (f : Ent Fi) (i : Nat), names (tear picks i f) = names f
  | [], _ => rfl
  | (s, x) :: f, i => by
    unfold tear
    split
    · show s :: names (tear picks i f) = s :: names f
      rw [names_tear picks f]
    · show s :: names (tear picks (i + 1) f) = s :: names f
      rw [names_tear picks f]
/-- What a crash leaves of a file. -/
structure Torn (x y : Fi) : Prop where
  lo : x.safe ≤ y.data.length
  hi : y.data.length ≤ x.data.length
  data : y.data = x.data.take y.data.length
  safe : y.safe = y.data.length
theorem tear_at (picks : List Int) : ∀ (f : Ent Fi) (i : Nat) (k : Nat), (∀ p ∈ f, p.2.safe ≤ p.2.data.length) → k < f.length → ∀ z, Torn (f.getD k z).2 ((tear picks i f).getD k z).2
  | [], _, _, _, h, _ => by simp at h
  | (s, x) :: f, i, k, hs, hk, z => by
    have hx := hs (s, x) (by simp)
    simp only at hx
    unfold tear
    split
    · rename_i e
      cases k with
      | zero => exact ⟨hx, Nat.le_refl _, (List.take_length).symm, e.symm⟩
      | succ k => exact tear_at picks f i k (fun p hp => hs p (by simp [hp])) (by simpa using hk) z
    · cases k with
      | zero =>
        have := kept_le picks i (x.data.length - x.safe)
        have e : (x.data.take (x.safe + kept picks i (x.data.length - x.safe))).length = x.safe + kept picks i (x.data.length - x.safe) := by rw [List.length_take]; omega
        show Torn x ⟨x.data.take (x.safe + kept picks i (x.data.length - x.safe)), x.safe + kept picks i (x.data.length - x.safe)⟩
        exact ⟨by simp only; omega, by simp only; omega, by simp only; rw [e], by simp only; rw [e]⟩
      | succ k => exact tear_at picks f (i + 1) k (fun p hp => hs p (by simp [hp])) (by simpa using hk) z
theorem length_tear (picks : List Int) (f : Ent Fi) (i : Nat) : (tear picks i f).length = f.length := by rw [← length_names, names_tear, length_names]
/-- Whoever is safe whole is left alone. -/
theorem tear_safe (picks : List Int) : ∀ (f : Ent Fi) (i : Nat), (∀ p ∈ f, p.2.safe = p.2.data.length) → tear picks i f = f
  | [], _, _ => rfl
  | (s, x) :: f, i, h => by
    unfold tear
    rw [if_pos (h (s, x) (by simp)).symm, tear_safe picks f i (fun p hp => h p (by simp [hp]))]
theorem get_tear_safe (picks : List Int) {x : Fi} (hx : x.safe = x.data.length) : ∀ (f : Ent Fi) (i : Nat), get f s = some x → get (tear picks i f) s = some x
  | [], _, h => by cases h
  | (u, y) :: f, i, h => by
    rw [get_cons] at h
    by_cases e : u = s
    · rw [if_pos (by simpa using e)] at h
      cases h
      unfold tear
      rw [if_pos hx.symm, get_cons, if_pos (by simpa using e)]
    · rw [if_neg (by simpa using e)] at h
      unfold tear
      split
      · rw [get_cons, if_neg (by simpa using e)]; exact get_tear_safe picks hx f i h
      · rw [get_cons, if_neg (by simpa using e)]; exact get_tear_safe picks hx f (i + 1) h
theorem mem_iff_at {α : Type} {l : List α} {x : α} (z : α) : x ∈ l ↔ ∃ k, k < l.length ∧ l.getD k z = x := by
  rw [List.mem_iff_getElem]
  constructor
  · rintro ⟨k, hk, rfl⟩
    exact ⟨k, hk, by rw [List.getD_eq_getElem?_getD, List.getElem?_eq_getElem hk]; rfl⟩
  · rintro ⟨k, hk, rfl⟩
    exact ⟨k, hk, by rw [List.getD_eq_getElem?_getD, List.getElem?_eq_getElem hk]; rfl⟩
theorem tear_mem (picks : List Int) {f : Ent Fi} {i : Nat} (hs : ∀ p ∈ f, p.2.safe ≤ p.2.data.length) {p : Nm × Fi} (hp : p ∈ tear picks i f) : p.2.safe = p.2.data.length := by
  obtain ⟨k, hk, rfl⟩ := (mem_iff_at (([], ⟨[], 0⟩) : Nm × Fi)).1 hp
  rw [length_tear] at hk
  exact (tear_at picks f i k hs hk _).safe
theorem tot_tear (picks : List Int) : ∀ (f : Ent Fi) (i : Nat), tot (tear picks i f) ≤ tot f
  | [], _ => Nat.le_refl _
  | (s, x) :: f, i => by
    unfold tear
    split
    · rw [tot_cons, tot_cons]; have := tot_tear picks f i; omega
    · rw [tot_cons, tot_cons]; have := tot_tear picks f (i + 1); simp only [List.length_take]; omega
theorem Okn.crash (h : Okn lim d) {picks : List Int} : Okn lim (d.crash picks) := by
  have hn := names_tear picks d.f 0
  refine ⟨h.rising.of_names hn, fun p hp => ?_, fun p hp => Nat.le_of_eq (tear_mem picks h.safe hp), by show (tear picks 0 d.f).length ≤ lim; rw [length_tear]; exact h.few, Nat.le_trans (tot_tear picks d.f 0) h.room⟩
  have : p.1 ∈ names d.f := by rw [← hn]; exact List.mem_map_of_mem hp
  obtain ⟨q, hq, e⟩ := List.mem_map.1 this
  rw [← e]
  exact h.nm q hq
theorem Okn.step (h : Okn lim d) (o : Do) (hl : 64 ≤ lim := by decide) : Okn lim (d.step o).1 := by
  unfold Dk.step
  split
  · exact h.create hl
  split
  · exact h.append
  split
  · exact h.sync
  split
  · exact h.cut
  split
  · exact h.rename
  split
  · exact h.remove
  split
  · exact h.arm
  split
  · exact h.crash
  split <;> exact h
theorem Okn.run (h : Okn lim d) (l : List Do) (hl : 64 ≤ lim := by decide) : Okn lim (d.run l) := by
  induction l generalizing d with
  | nil => exact h
  | cons o l ih => exact ih (h.step o hl)
end
end Go.Proofs.YtkilkhnoldfhcaaGreatDoor
