/- A disk as it lies in memory: its own cells, the map of its files, each file's cells and bytes. Conditions: none of its own. -/
import Derived.Test.YtkilkhnoldfhcaaGreatDoorA
import Derived.Test.YtkilkhnoldfhcaaGreatDoorC
import Derived.Maps.RangeWalk
import Derived.Maps.OwnSet
import Derived.Maps.Ext
import Derived.Sort.KeysCollected
namespace Go.Proofs.YtkilkhnoldfhcaaGreatDoor
open Go.RowKit
/-- A name as a value. -/
abbrev nmv (s : Nm) : Value := .string ⟨s.toArray⟩
abbrev ptr (b : Nat) : Value := .pointer (some ⟨b, 0, none⟩)
/-- How a pointer to a block reads. -/
def refE (v : Value) : Option (DataW Unit × List MemPlace) :=
  match v with
  | .pointer (some ⟨b, 0, none⟩) => some (.lit (.int .i64 (b : Int)), [])
  | .pointer none => some (.nil, [])
  | _ => none
theorem refE_ptr (b : Nat) : refE (ptr b) = some (.lit (.int .i64 (b : Int)), []) := rfl
theorem refE_inv {v : Value} {b : Nat} {ps : List MemPlace} (h : refE v = some (.lit (.int .i64 (b : Int)), ps)) : v = ptr b := by
  unfold refE at h
  split at h
  · rename_i b' 
    simp only [Option.some.injEq, Prod.mk.injEq, DataW.lit.injEq, Lit.int.injEq] at h
    have : b' = b := by omega
    rw [this]
  · simp at h
  · cases h
theorem refE_nil {v : Value} {ps : List MemPlace} (h : refE v = some (.nil, ps)) : v = .pointer none := by
  unfold refE at h
  split at h
  · simp at h
  · rfl
  · cases h
def ent (p : Nm × Nat) : Lit × DataW Unit := (.string p.1, .lit (.int .i64 (p.2 : Int)))
def dmap (L : Ent Nat) : DataW Unit := .map (L.map ent)
theorem before_eq : ∀ (a b : Nm), bytesBefore a b = decide (a < b)
  | [], [] => by simp [bytesBefore]
  | [], _ :: _ => by simp [bytesBefore]
  | _ :: _, [] => by simp [bytesBefore]
  | a :: r, b :: s => by
    unfold bytesBefore
    rw [before_eq r s, Bool.eq_iff_iff]
    simp [List.cons_lt_cons_iff]
theorem same_ent (p : Nm × Nat) (s : Nm) : (ent p).1.sameKey (.string s) = (p.1 == s) := rfl
theorem insert_ent (s : Nm) (b : Nat) : ∀ {L : Ent Nat}, (∀ p ∈ L, p.1 ≠ s) → DataW.insert (ent (s, b)) (L.map ent) = (ins s b L).map ent
  | [], _ => rfl
  | p :: L, h => by
    have hp := h p (by simp)
    show (if bytesBefore s p.1 then _ else _) = _
    unfold ins
    rw [before_eq]
    rcases nm_cases p.1 s with k | k | k
    · have : ¬ s < p.1 := fun e => nm_irrefl _ (nm_trans k e)
      rw [if_pos k, if_neg (by simpa using this), insert_ent s b (fun q hq => h q (by simp [hq]))]
      rfl
    · exact absurd k hp
    · have : ¬ p.1 < s := fun e => nm_irrefl _ (nm_trans k e)
      rw [if_neg this, if_pos (by simpa using k)]
      rfl
theorem filter_ent (L : Ent Nat) (s : Nm) : (L.map ent).filter (fun p => !p.1.sameKey (.string s)) = (del L s).map ent := by
  unfold del
  rw [List.filter_map]
  rfl
theorem put_dmap (L : Ent Nat) (s : Nm) (b : Nat) : (dmap L).put (.string s) (.lit (.int .i64 (b : Int))) = dmap (put L s b) := by
  show DataW.map (DataW.insert (ent (s, b)) ((L.map ent).filter fun p => !p.1.sameKey (.string s))) = _
  rw [filter_ent, insert_ent s b (fun p hp => (mem_del.1 hp).2)]
  rfl
theorem del_dmap (L : Ent Nat) (s : Nm) : (dmap L).del (.string s) = dmap (del L s) := by
  show DataW.map ((L.map ent).filter fun p => !p.1.sameKey (.string s)) = _
  rw [filter_ent]
  rfl
theorem has_dmap (L : Ent Nat) (s : Nm) : Maps.has (dmap L) (.string s) = has L s := by
  show (L.map ent).any (fun p => p.1.sameKey (.string s)) = _
  rw [List.any_map]
  rfl
theorem size_dmap (L : Ent Nat) : Maps.size (dmap L) = L.length := by
  show (L.map ent).length = _
  rw [List.length_map]
theorem atKey_dmap (L : Ent Nat) (s : Nm) (z : DataW Unit) : (dmap L).atKey (.string s) z = match get L s with | some b => .lit (.int .i64 (b : Int)) | none => z := by
  unfold dmap get
  simp only [DataW.atKey, List.find?_map]
  have e : ((fun p : Lit × DataW Unit => p.1.sameKey (.string s)) ∘ ent) = fun p => p.1 == s := rfl
  rw [e]
  cases L.find? fun p => p.1 == s <;> rfl
theorem keys_dmap (L : Ent Nat) : strKeys (dmap L) = names L := by
  show ((L.map ent).map fun p => strOf p.1) = _
  rw [List.map_map]
  rfl
/-- The blocks of the files. -/
def refs {α : Type} (f : Ent α) (ρ : Nm → Nat) : Ent Nat := f.map fun p => (p.1, ρ p.1)
def at_ {β : Type} (ρ : Nm → β) (s : Nm) (b : β) (t : Nm) : β := if t = s then b else ρ t
section
variable {α β : Type} {f : Ent α} {ρ : Nm → Nat} {s t : Nm}
theorem at_same (ρ : Nm → β) (s : Nm) (b : β) : at_ ρ s b s = b := if_pos rfl
theorem at_other (ρ : Nm → β) {s t : Nm} (b : β) (h : t ≠ s) : at_ ρ s b t = ρ t := if_neg h
theorem names_refs : names (refs f ρ) = names f := by unfold names refs; rw [List.map_map]; rfl
theorem rising_refs (h : Rising f) : Rising (refs f ρ) := h.of_names names_refs
theorem length_refs : (refs f ρ).length = f.length := List.length_map ..
theorem get_refs : get (refs f ρ) s = (get f s).map fun _ => ρ s := by
  induction f with
  | nil => rfl
  | cons p f ih =>
    show get ((p.1, ρ p.1) :: refs f ρ) s = _
    rw [get_cons, get_cons, ih]
    by_cases e : p.1 = s
    · simp [e]
    · simp [e]
theorem has_refs : has (refs f ρ) s = has f s := by rw [has_get, has_get, get_refs]; cases get f s <;> rfl
theorem del_refs : del (refs f ρ) s = refs (del f s) ρ := by unfold del refs; rw [List.filter_map]; rfl
theorem refs_congr {ρ' : Nm → Nat} (h : ∀ p ∈ f, ρ p.1 = ρ' p.1) : refs f ρ = refs f ρ' := List.map_congr_left fun p hp => by rw [h p hp]
theorem refs_names {g : Ent β} (h : names g = names f) : refs g ρ = refs f ρ := by
  have e : ∀ {γ : Type} (k : Ent γ), refs k ρ = (names k).map fun n => (n, ρ n) := fun k => by unfold refs names; rw [List.map_map]; rfl
  rw [e, e, h]
theorem put_refs (h : Rising f) (x : α) (b : Nat) : put (refs f ρ) s b = refs (put f s x) (at_ ρ s b) := by
  refine rising_eq ((rising_refs h).put s b) (rising_refs (h.put s x)) fun p => ?_
  obtain ⟨t, k⟩ := p
  rw [mem_put]
  unfold refs
  rw [List.mem_map, List.mem_map]
  constructor
  · rintro (e | ⟨⟨q, hq, e⟩, hne⟩)
    · cases e
      exact ⟨(s, x), mem_put.2 (.inl rfl), by simp [at_same]⟩
    · cases e
      exact ⟨q, mem_put.2 (.inr ⟨hq, hne⟩), by simp [at_other ρ b hne]⟩
  · rintro ⟨q, hq, e⟩
    cases e
    rcases mem_put.1 hq with rfl | ⟨hq, hne⟩
    · left; simp [at_same]
    · right; exact ⟨⟨q, hq, by simp [at_other ρ b hne]⟩, hne⟩
end
theorem under62 : Tryz.prog.underlying 83 = some (.map 9 93) := by kernel_rfl
theorem law9 : Maps.Keyed Tryz.prog 9 := Maps.string_keyed Tryz.underlying9
theorem zero68 (w : World) : (zeroValue 93).run Tryz.prog w = .ok (.pointer none) w := by kernel_rfl
theorem key9 {s : Nm} (h : s.length ≤ maxLen) : keyOf Tryz.prog 9 (nmv s) = some (.string s) := WideMaps.keyOf_string_mk Tryz.underlying9 (s := ⟨s.toArray⟩) (by simpa [ByteArray.size] using h)
/-- A map of blocks as it lies in memory. -/
abbrev MAt (w : World) (m : Nat) (L : Ent Nat) : Prop := w.ownsMap Tryz.prog 9 refE m L.length (dmap L)
theorem mat_tight {w : World} {m n : Nat} {L : Ent Nat} (h : w.ownsMap Tryz.prog 9 refE m n (dmap L)) : MAt w m L := by
  have e := h
  obtain ⟨es, clock, hb, F, hs, hD⟩ := h
  refine ⟨es, clock, hb, F, ?_, hD⟩
  have h1 : Maps.size (dmap L) = es.size := by rw [hD]; simp [Maps.size, length_sorted]
  rw [← h1, size_dmap]
  exact Nat.le_refl _
theorem MAt.tn {S : Nat → Prop} {w w' : World} {m : Nat} {L : Ent Nat} (h : MAt w m L) (ht : Tn S w w') (hm : ¬ S m) : MAt w' m L := by
  obtain ⟨es, clock, hb, r⟩ := h
  exact ⟨es, clock, ht.at_ hb hm, r⟩
/-- A disk in memory: at block a; its map at m; the file of name s at block ρ s, its bytes at δ s; all in blocks of S. -/
structure DAt (S : Nat → Prop) (w : World) (a : Nat) (d : Dk) (m : Nat) (ρ : Nm → Nat) (δ : Nm → Value) : Prop where
  ok : Ok d
  left : d.left ≤ 9223372036854775807
  box : w.heap[a]? = some (.cells #[.map (some m), .int .i64 (d.done : Int), .int .i64 (d.left : Int), .bool d.off] 85 (0, 0))
  map : MAt w m (refs d.f ρ)
  file : ∀ p ∈ d.f, w.heap[ρ p.1]? = some (.cells #[δ p.1, .int .i64 (p.2.safe : Int)] 95 (0, 0))
  row : ∀ p ∈ d.f, w.ownsRow 0 5 1 (δ p.1) p.2.data.length (bys p.2.data)
  inj : ∀ p ∈ d.f, ∀ q ∈ d.f, p.1 ≠ q.1 → ρ p.1 ≠ ρ q.1
  dis : ∀ p ∈ d.f, ∀ q ∈ d.f, p.1 ≠ q.1 → ∀ k, (δ p.1).ownBlock = some k → (δ q.1).ownBlock ≠ some k
  sa : S a
  sm : S m
  sf : ∀ p ∈ d.f, S (ρ p.1)
  sr : ∀ p ∈ d.f, ∀ k, (δ p.1).ownBlock = some k → S k
  lt : ∀ k, S k → k < w.heap.size
/-- A disk in memory. -/
def DK (S : Nat → Prop) (w : World) (a : Nat) (d : Dk) : Prop := ∃ m ρ δ, DAt S w a d m ρ δ
section
variable {S T U : Nat → Prop} {w w' : World} {a m : Nat} {d : Dk} {ρ : Nm → Nat} {δ : Nm → Value}
theorem DAt.tn (h : DAt S w a d m ρ δ) (ht : Tn T w w') (hd : ∀ k, S k → ¬ T k) : DAt S w' a d m ρ δ :=
  ⟨h.ok, h.left, ht.at_ h.box (hd a h.sa), h.map.tn ht (hd m h.sm), fun p hp => ht.at_ (h.file p hp) (hd _ (h.sf p hp)), fun p hp => own_tn (h.row p hp) ht (fun k hk => hd k (h.sr p hp k hk)), h.inj, h.dis, h.sa, h.sm, h.sf, h.sr,
    fun k hk => Nat.lt_of_lt_of_le (h.lt k hk) ht.size⟩
theorem DAt.below (h : DAt S w a d m ρ δ) (hb : Below w.heap.size w w') : DAt S w' a d m ρ δ := h.tn (Tn.of_below (S := fun _ => False) hb) (fun _ _ e => e)
theorem DK.tn (h : DK S w a d) (ht : Tn T w w') (hd : ∀ k, S k → ¬ T k) : DK S w' a d := let ⟨m, ρ, δ, h⟩ := h; ⟨m, ρ, δ, h.tn ht hd⟩
theorem DK.below (h : DK S w a d) (hb : Below w.heap.size w w') : DK S w' a d := let ⟨m, ρ, δ, h⟩ := h; ⟨m, ρ, δ, h.below hb⟩
theorem DK.ok (h : DK S w a d) : Ok d := let ⟨_, _, _, h⟩ := h; h.ok
theorem DK.lt (h : DK S w a d) : ∀ k, S k → k < w.heap.size := let ⟨_, _, _, h⟩ := h; h.lt
theorem DK.sa (h : DK S w a d) : S a := let ⟨_, _, _, h⟩ := h; h.sa
theorem DAt.c0 (h : DAt S w a d m ρ δ) : w.cell? ⟨a, 0, none⟩ = some (.map (some m)) := by simp [World.cell?, h.box]
theorem DAt.c1 (h : DAt S w a d m ρ δ) : w.cell? ⟨a, 1, none⟩ = some (.int .i64 (d.done : Int)) := by simp [World.cell?, h.box]
theorem DAt.c2 (h : DAt S w a d m ρ δ) : w.cell? ⟨a, 2, none⟩ = some (.int .i64 (d.left : Int)) := by simp [World.cell?, h.box]
theorem DAt.c3 (h : DAt S w a d m ρ δ) : w.cell? ⟨a, 3, none⟩ = some (.bool d.off) := by simp [World.cell?, h.box]
theorem frozen_zero {k o : Nat} {cs : Array Value} {t : TypeId} (h : w.heap[k]? = some (.cells cs t (0, 0))) : w.frozen? ⟨k, o, none⟩ = false := by simp [World.frozen?, h]
theorem DAt.fz (h : DAt S w a d m ρ δ) (o : Nat) : w.frozen? ⟨a, o, none⟩ = false := frozen_zero h.box
section
variable {s : Nm} {x : Fi}
theorem DAt.f0 (h : DAt S w a d m ρ δ) (hx : get d.f s = some x) : w.cell? ⟨ρ s, 0, none⟩ = some (δ s) := by simp [World.cell?, h.file _ (get_mem hx)]
theorem DAt.f1 (h : DAt S w a d m ρ δ) (hx : get d.f s = some x) : w.cell? ⟨ρ s, 1, none⟩ = some (.int .i64 (x.safe : Int)) := by simp [World.cell?, h.file _ (get_mem hx)]
theorem DAt.ff (h : DAt S w a d m ρ δ) (hx : get d.f s = some x) (o : Nat) : w.frozen? ⟨ρ s, o, none⟩ = false := frozen_zero (h.file _ (get_mem hx))
theorem DAt.own (h : DAt S w a d m ρ δ) (hx : get d.f s = some x) : w.ownsRow 0 5 1 (δ s) x.data.length (bys x.data) := h.row _ (get_mem hx)
/-- The look-up of a name that is there, and of one that is not. -/
theorem DAt.look (h : DAt S w a d m ρ δ) (hs : s.length ≤ maxLen) (hx : get d.f s = some x) : (Instr.lookup 83 (.map (some m)) (nmv s) true).run Tryz.prog w = .ok (.tuple #[ptr (ρ s), .bool true]) w := by
  obtain ⟨v, ps, hrun, hv⟩ := h.map.look_ok law9 under62 (zero68 w) (zd := .nil) (zp := []) rfl (key9 hs)
  rw [has_dmap, has_refs, has_get, hx] at hrun
  rw [atKey_dmap, get_refs, hx] at hv
  rw [refE_inv hv] at hrun
  exact hrun
theorem DAt.look1 (h : DAt S w a d m ρ δ) (hs : s.length ≤ maxLen) (hx : get d.f s = some x) : (Instr.lookup 83 (.map (some m)) (nmv s) false).run Tryz.prog w = .ok (ptr (ρ s)) w := by
  obtain ⟨v, ps, hrun, hv⟩ := h.map.lookup law9 under62 (zero68 w) (zd := .nil) (zp := []) rfl (key9 hs)
  rw [atKey_dmap, get_refs, hx] at hv
  rw [refE_inv hv] at hrun
  exact hrun
theorem DAt.look0 (h : DAt S w a d m ρ δ) (hs : s.length ≤ maxLen) (hx : get d.f s = none) : (Instr.lookup 83 (.map (some m)) (nmv s) true).run Tryz.prog w = .ok (.tuple #[.pointer none, .bool false]) w := by
  obtain ⟨v, ps, hrun, hv⟩ := h.map.look_ok law9 under62 (zero68 w) (zd := .nil) (zp := []) rfl (key9 hs)
  rw [has_dmap, has_refs, has_get, hx] at hrun
  rw [atKey_dmap, get_refs, hx] at hv
  rw [refE_nil hv] at hrun
  exact hrun
end
/-- Blocks of unlike kinds are apart. -/
theorem DAt.am (h : DAt S w a d m ρ δ) : a ≠ m := by
  intro e
  obtain ⟨es, clock, hb, _⟩ := h.map
  rw [← e, h.box] at hb
  cases hb
theorem DAt.af (h : DAt S w a d m ρ δ) {p : Nm × Fi} (hp : p ∈ d.f) : a ≠ ρ p.1 := by
  intro e
  have := h.file p hp
  rw [← e, h.box] at this
  simp at this
theorem DAt.mf (h : DAt S w a d m ρ δ) {p : Nm × Fi} (hp : p ∈ d.f) : m ≠ ρ p.1 := by
  intro e
  obtain ⟨es, clock, hb, _⟩ := h.map
  rw [e, h.file p hp] at hb
  cases hb
theorem DAt.ar (h : DAt S w a d m ρ δ) {p : Nm × Fi} (hp : p ∈ d.f) : (δ p.1).ownBlock ≠ some a := by
  intro e
  obtain ⟨cur, hc⟩ := own_at (h.row p hp) e
  rw [h.box] at hc
  simp at hc
theorem DAt.mr (h : DAt S w a d m ρ δ) {p : Nm × Fi} (hp : p ∈ d.f) : (δ p.1).ownBlock ≠ some m := by
  intro e
  obtain ⟨cur, hc⟩ := own_at (h.row p hp) e
  obtain ⟨es, clock, hb, _⟩ := h.map
  rw [hb] at hc
  cases hc
theorem DAt.fr (h : DAt S w a d m ρ δ) {p q : Nm × Fi} (hp : p ∈ d.f) (hq : q ∈ d.f) : (δ p.1).ownBlock ≠ some (ρ q.1) := by
  intro e
  obtain ⟨cur, hc⟩ := own_at (h.row p hp) e
  rw [h.file q hq] at hc
  simp at hc
/-- The disk's own cells are turned. -/
theorem DAt.ctl (h : DAt S w a d m ρ δ) {off : Bool} {left done : Nat} (hl : left ≤ 9223372036854775807) (ht : Tn (· = a) w w')
    (hb : w'.heap[a]? = some (.cells #[.map (some m), .int .i64 (done : Int), .int .i64 (left : Int), .bool off] 85 (0, 0))) : DAt S w' a ⟨d.f, off, left, done⟩ m ρ δ :=
  ⟨h.ok.of_f rfl, hl, hb, h.map.tn ht (fun e => h.am e.symm), fun p hp => ht.at_ (h.file p hp) (fun e => h.af hp e.symm), fun p hp => own_tn (h.row p hp) ht (fun _ hk e => h.ar hp (e ▸ hk)), h.inj, h.dis, h.sa, h.sm, h.sf, h.sr,
    fun k hk => Nat.lt_of_lt_of_le (h.lt k hk) ht.size⟩
/-- What stands at one name is turned: its cells, its bytes where they lay or in a new block. -/
theorem DAt.turn (h : DAt S w a d m ρ δ) {s : Nm} {x y : Fi} {v : Value} {d' : Dk} (hx : get d.f s = some x) (ht : Tn (fun k => k = ρ s ∨ (δ s).ownBlock = some k) w w') (hf : w'.heap[ρ s]? = some (.cells #[v, .int .i64 (y.safe : Int)] 95 (0, 0)))
    (hr : w'.ownsRow 0 5 1 v y.data.length (bys y.data)) (hv : ∀ k, v.ownBlock = some k → (δ s).ownBlock = some k ∨ w.heap.size ≤ k) (hok : Ok d') (hd : d'.f = upd d.f s fun _ => y) (h1 : d'.off = d.off) (h2 : d'.left = d.left) (h3 : d'.done = d.done)
    (hS : ∀ k, S k → U k) (hU : ∀ k, v.ownBlock = some k → U k) (hlt : ∀ k, U k → k < w'.heap.size) : DAt U w' a d' m ρ (at_ δ s v) := by
  have hsm := get_mem hx
  have hfile : ∀ p ∈ d.f, p.1 ≠ s → ¬ (ρ p.1 = ρ s ∨ (δ s).ownBlock = some (ρ p.1)) := fun p hp hne e => by
    rcases e with e | e
    · exact h.inj p hp (s, x) hsm hne e
    · exact h.fr hsm hp e
  refine ⟨hok, by rw [h2]; exact h.left, ?_, ?_, fun p hp => ?_, fun p hp => ?_, fun p hp q hq => ?_, fun p hp q hq => ?_, hS a h.sa, hS m h.sm, fun p hp => ?_, fun p hp k hk => ?_, hlt⟩
  · rw [h1, h2, h3]
    exact ht.at_ h.box (fun e => by
      rcases e with e | e
      · exact h.af hsm e
      · exact h.ar hsm e)
  · rw [hd, refs_names (names_upd d.f s fun _ => y)]
    exact h.map.tn ht (fun e => by
      rcases e with e | e
      · exact h.mf hsm e
      · exact h.mr hsm e)
  · rw [hd] at hp
    obtain ⟨t, z⟩ := p
    rcases mem_upd.1 hp with ⟨rfl, _, _, rfl⟩ | ⟨hne, k⟩
    · rw [at_same]; exact hf
    · rw [at_other δ v hne]
      exact ht.at_ (h.file _ k) (hfile _ k hne)
  · rw [hd] at hp
    obtain ⟨t, z⟩ := p
    rcases mem_upd.1 hp with ⟨rfl, _, _, rfl⟩ | ⟨hne, k⟩
    · rw [at_same]; exact hr
    · rw [at_other δ v hne]
      exact own_tn (h.row _ k) ht (fun j hj e => by
        rcases e with e | e
        · exact h.fr k hsm (e ▸ hj)
        · exact h.dis _ k _ hsm hne j hj e)
  · rw [hd] at hp hq
    obtain ⟨t, z⟩ := p
    obtain ⟨u, y'⟩ := q
    intro hne
    have e1 : ∃ z', (t, z') ∈ d.f := by
      rcases mem_upd.1 hp with ⟨rfl, z', k, _⟩ | ⟨_, k⟩
      · exact ⟨_, k⟩
      · exact ⟨_, k⟩
    have e2 : ∃ z', (u, z') ∈ d.f := by
      rcases mem_upd.1 hq with ⟨rfl, z', k, _⟩ | ⟨_, k⟩
      · exact ⟨_, k⟩
      · exact ⟨_, k⟩
    obtain ⟨z1, e1⟩ := e1
    obtain ⟨z2, e2⟩ := e2
    have := h.inj _ e1 _ e2 hne
    exact this
  · rw [hd] at hp hq
    obtain ⟨t, z⟩ := p
    obtain ⟨u, y'⟩ := q
    intro hne k hk
    simp only at hne hk ⊢
    rcases mem_upd.1 hp with ⟨rfl, _, _, _⟩ | ⟨h5, k5⟩
    · rcases mem_upd.1 hq with ⟨rfl, _, _, _⟩ | ⟨h6, k6⟩
      · exact absurd rfl hne
      · rw [at_same] at hk
        rw [at_other δ v h6]
        rcases hv k hk with e | e
        · exact h.dis _ hsm _ k6 (fun e => h6 e.symm) k e
        · intro e2
          have := h.lt k (h.sr _ k6 k e2)
          omega
    · rw [at_other δ v h5] at hk
      rcases mem_upd.1 hq with ⟨rfl, _, _, _⟩ | ⟨h6, k6⟩
      · rw [at_same]
        intro e2
        rcases hv k e2 with e | e
        · exact h.dis _ k5 _ hsm h5 k hk e
        · have := h.lt k (h.sr _ k5 k hk)
          omega
      · rw [at_other δ v h6]
        exact h.dis _ k5 _ k6 hne k hk
  · rw [hd] at hp
    obtain ⟨t, z⟩ := p
    rcases mem_upd.1 hp with ⟨rfl, _, _, _⟩ | ⟨_, k⟩
    · have := hS _ (h.sf _ hsm)
      exact this
    · have := hS _ (h.sf _ k)
      exact this
  · rw [hd] at hp
    obtain ⟨t, z⟩ := p
    rcases mem_upd.1 hp with ⟨rfl, _, _, _⟩ | ⟨hne, k6⟩
    · rw [at_same] at hk; exact hU k hk
    · rw [at_other δ v hne] at hk; exact hS k (h.sr _ k6 k hk)
/-- The map has lost a name. -/
theorem DAt.del (h : DAt S w a d m ρ δ) {s : Nm} {d' : Dk} (ht : Tn (· = m) w w') (hm : MAt w' m (del (refs d.f ρ) s)) (hok : Ok d') (hd : d'.f = del d.f s) (h1 : d'.off = d.off) (h2 : d'.left = d.left) (h3 : d'.done = d.done) : DAt S w' a d' m ρ δ := by
  have hmem : ∀ p ∈ d'.f, p ∈ d.f := fun p hp => by rw [hd] at hp; exact (mem_del.1 hp).1
  refine ⟨hok, by rw [h2]; exact h.left, by rw [h1, h2, h3]; exact ht.at_ h.box h.am, by rw [hd, ← del_refs]; exact hm, fun p hp => ht.at_ (h.file p (hmem p hp)) (fun e => h.mf (hmem p hp) e.symm), fun p hp => own_tn (h.row p (hmem p hp)) ht (fun k hk e => h.mr (hmem p hp) (e ▸ hk)),
    fun p hp q hq => h.inj p (hmem p hp) q (hmem q hq), fun p hp q hq => h.dis p (hmem p hp) q (hmem q hq), h.sa, h.sm, fun p hp => h.sf p (hmem p hp), fun p hp => h.sr p (hmem p hp), fun k hk => Nat.lt_of_lt_of_le (h.lt k hk) ht.size⟩
/-- A file that lies beside the disk's has been laid into the map. -/
theorem DAt.put (h : DAt S w a d m ρ δ) {s : Nm} {x : Fi} {v : Value} {b : Nat} {d' : Dk} (ht : Tn (· = m) w w') (hm : MAt w' m (put (refs d.f ρ) s b)) (hf : w'.heap[b]? = some (.cells #[v, .int .i64 (x.safe : Int)] 95 (0, 0)))
    (hr : w'.ownsRow 0 5 1 v x.data.length (bys x.data)) (hb : ∀ p ∈ d.f, p.1 ≠ s → ρ p.1 ≠ b) (hv : ∀ p ∈ d.f, p.1 ≠ s → ∀ k, v.ownBlock = some k → (δ p.1).ownBlock ≠ some k)
    (hok : Ok d') (hd : d'.f = put d.f s x) (h1 : d'.off = d.off) (h2 : d'.left = d.left) (h3 : d'.done = d.done)
    (hS : ∀ k, S k → U k) (hUb : U b) (hU : ∀ k, v.ownBlock = some k → U k) (hlt : ∀ k, U k → k < w'.heap.size) : DAt U w' a d' m (at_ ρ s b) (at_ δ s v) := by
  refine ⟨hok, by rw [h2]; exact h.left, by rw [h1, h2, h3]; exact ht.at_ h.box h.am, by rw [hd, ← put_refs h.ok.rising]; exact hm, fun p hp => ?_, fun p hp => ?_, fun p hp q hq => ?_, fun p hp q hq => ?_, hS a h.sa, hS m h.sm, fun p hp => ?_, fun p hp k hk => ?_, hlt⟩
  · rw [hd] at hp
    rcases mem_put.1 hp with rfl | ⟨k, hne⟩
    · rw [at_same, at_same]; exact hf
    · rw [at_other ρ b hne, at_other δ v hne]
      exact ht.at_ (h.file p k) (fun e => h.mf k e.symm)
  · rw [hd] at hp
    rcases mem_put.1 hp with rfl | ⟨k, hne⟩
    · rw [at_same]; exact hr
    · rw [at_other δ v hne]
      exact own_tn (h.row p k) ht (fun j hj e => h.mr k (e ▸ hj))
  · rw [hd] at hp hq
    intro hne
    rcases mem_put.1 hp with rfl | ⟨k, h5⟩
    · rcases mem_put.1 hq with rfl | ⟨k', h6⟩
      · exact absurd rfl hne
      · rw [at_same, at_other ρ b h6]
        exact fun e => hb q k' h6 e.symm
    · rw [at_other ρ b h5]
      rcases mem_put.1 hq with rfl | ⟨k', h6⟩
      · rw [at_same]; exact hb p k h5
      · rw [at_other ρ b h6]; exact h.inj p k q k' hne
  · rw [hd] at hp hq
    intro hne j hj
    rcases mem_put.1 hp with rfl | ⟨k, h5⟩
    · rw [at_same] at hj
      rcases mem_put.1 hq with rfl | ⟨k', h6⟩
      · exact absurd rfl hne
      · rw [at_other δ v h6]
        exact hv q k' h6 j hj
    · rw [at_other δ v h5] at hj
      rcases mem_put.1 hq with rfl | ⟨k', h6⟩
      · rw [at_same]
        exact fun e => hv p k h5 j e hj
      · rw [at_other δ v h6]; exact h.dis p k q k' hne j hj
  · rw [hd] at hp
    rcases mem_put.1 hp with rfl | ⟨k, h5⟩
    · rw [at_same]; exact hUb
    · rw [at_other ρ b h5]; exact hS _ (h.sf p k)
  · rw [hd] at hp
    rcases mem_put.1 hp with rfl | ⟨k', h5⟩
    · rw [at_same] at hk; exact hU k hk
    · rw [at_other δ v h5] at hk; exact hS k (h.sr p k' k hk)
end
end Go.Proofs.YtkilkhnoldfhcaaGreatDoor
