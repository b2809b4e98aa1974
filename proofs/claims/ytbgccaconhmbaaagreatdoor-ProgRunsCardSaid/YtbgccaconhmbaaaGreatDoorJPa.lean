/- Programs of steps in plain terms: what a step names, takes and gives; which programs may be; which keys they read and write; what they do. Conditions: none of its own. What programs do, step by step: the stack's depth, the keys that are written, values that may be. Conditions: none of its own. The table of steps, and what prog.stepOf reads of it. Conditions: the table holds what its initialiser lays. What programs do, all along: values as Go has them, values that may be, the keys that are written, what counts of what was seen. Conditions: none of its own. The table of steps as one row. Conditions: none of its own. What raceref9.put's loop makes, in plain terms: put, for names in their order. -/
import Derived.Test.YtbgccaconhmbaaaGreatDoorJEn
import Derived.Test.YtbgccaconhmbaaaGreatDoorJVc
import Derived.Laws.FloatBits
namespace Go.Proofs.YtbgccaconhmbaaaGreatDoor
/-- A step: its code, its key, its value. -/
structure OpV where
  c : Int
  key : List UInt8
  v : DV
  deriving DecidableEq
instance : Inhabited OpV := ⟨⟨0, [], DV.none⟩⟩
def OpV.wf (o : OpV) : Prop := (-9223372036854775808 ≤ o.c ∧ o.c < 9223372036854775808) ∧ o.key.length ≤ 9223372036854775807 ∧ o.v.wf
def nmsC (c : Int) : Int := if c = 1 ∨ c = 2 ∨ c = 3 then 1 else if c = 4 then 2 else 0
def popC (c : Int) : Nat := if c = 2 ∨ c = 13 ∨ c = 14 then 1 else if c = 1 ∨ c = 3 ∨ c = 4 then 0 else 2
def pushC (c : Int) : Nat := if c = 2 ∨ c = 3 ∨ c = 13 then 0 else if c = 14 ∨ c = 15 then 2 else 1
def okC (c : Int) : Bool := decide (1 ≤ c) && decide (c ≤ 15)
def zeroV (v : DV) : Bool := v.k == 0 && mayV v
def formV (o : OpV) : Bool := if nmsC o.c = 1 then keyV o.key && zeroV o.v else if nmsC o.c = 2 then o.key == [] && mayV o.v else o.key == [] && zeroV o.v
/-- What is wrong with a step at a depth: 0 if nothing is. -/
def badV (d : Nat) (o : OpV) : Int := if okC o.c = false then 7 else if formV o = false then 4 else if d < popC o.c then 5 else if 16 < d - popC o.c + pushC o.c then 2 else 0
def chkL (d : Nat) : List OpV → Int
  | [] => 0
  | o :: r => if badV d o = 0 then chkL (d - popC o.c + pushC o.c) r else badV d o
/-- A key more, in its place, once. -/
def addK (k : Nm) : List Nm → List Nm
  | [] => [k]
  | a :: r => if a < k then a :: addK k r else if a = k then a :: r else k :: a :: r
def keysV (f : Int → Bool) (p : List OpV) : List Nm := (p.filter fun o => f o.c && keyV o.key).map (·.key)
def setV (l : List Nm) : List Nm := l.foldl (fun a k => addK k a) []
def isRd (c : Int) : Bool := c == 1
def isWr (c : Int) : Bool := c == 2 || c == 3
def readsV (p : List OpV) : List Nm := setV (keysV isRd p)
def namesV (p : List OpV) : List Nm := setV (keysV isWr p)
def chkV (p : List OpV) : Int :=
  if 40 < p.length then 3 else if chkL 0 p = 0 then (if 16 < (readsV p).length ∨ 16 < (namesV p).length then 3 else 0) else chkL 0 p
theorem mem_addK {k x : Nm} : ∀ {l : List Nm}, x ∈ addK k l ↔ x = k ∨ x ∈ l
  | [] => by simp [addK]
  | a :: r => by
    unfold addK
    split
    · rw [List.mem_cons, mem_addK, List.mem_cons]
      constructor
      · rintro (h | h | h)
        · exact .inr (.inl h)
        · exact .inl h
        · exact .inr (.inr h)
      · rintro (h | h | h)
        · exact .inr (.inl h)
        · exact .inl h
        · exact .inr (.inr h)
    · split
      · rename_i h
        subst h
        simp
      · simp
abbrev Inc (l : List Nm) : Prop := l.Pairwise (· < ·)
theorem Inc.addK {k : Nm} : ∀ {l : List Nm}, Inc l → Inc (addK k l)
  | [], _ => List.pairwise_singleton _ _
  | a :: r, h => by
    have ha := (List.pairwise_cons.1 h).1
    have hr := (List.pairwise_cons.1 h).2
    unfold YtbgccaconhmbaaaGreatDoor.addK
    split
    · rename_i hlt
      refine List.pairwise_cons.2 ⟨fun x hx => ?_, Inc.addK hr⟩
      rcases mem_addK.1 hx with rfl | hx
      · exact hlt
      · exact ha x hx
    · split
      · exact h
      · rename_i h1 h2
        have hk : k < a := by
          rcases nm_cases a k with e | e | e
          · exact absurd e h1
          · exact absurd e h2
          · exact e
        refine List.pairwise_cons.2 ⟨fun x hx => ?_, h⟩
        rcases List.mem_cons.1 hx with rfl | hx
        · exact hk
        · exact nm_trans hk (ha x hx)
theorem inc_eq {f g : List Nm} (hf : Inc f) (hg : Inc g) (h : ∀ p, p ∈ f ↔ p ∈ g) : f = g := by
  induction f generalizing g with
  | nil =>
    cases g with
    | nil => rfl
    | cons q g => exact absurd ((h q).2 (by simp)) (by simp)
  | cons p f ih =>
    have hfh := (List.pairwise_cons.1 hf).1
    have hft := (List.pairwise_cons.1 hf).2
    cases g with
    | nil => exact absurd ((h p).1 (by simp)) (by simp)
    | cons q g =>
      have hgh := (List.pairwise_cons.1 hg).1
      have hgt := (List.pairwise_cons.1 hg).2
      have hpq : p = q := by
        rcases List.mem_cons.1 ((h p).1 (by simp)) with e | hp
        · exact e
        · rcases List.mem_cons.1 ((h q).2 (by simp)) with e | hq
          · exact e.symm
          · exact absurd (nm_trans (hgh p hp) (hfh q hq)) (nm_irrefl _)
      subst hpq
      rw [ih hft hgt fun r => ⟨fun hr => ?_, fun hr => ?_⟩]
      · rcases List.mem_cons.1 ((h r).1 (by simp [hr])) with e | k
        · exact absurd (hfh r hr) (by rw [e]; exact nm_irrefl _)
        · exact k
      · rcases List.mem_cons.1 ((h r).2 (by simp [hr])) with e | k
        · exact absurd (hgh r hr) (by rw [e]; exact nm_irrefl _)
        · exact k
theorem foldl_addK (l : List Nm) : ∀ a, Inc a → Inc (l.foldl (fun a k => addK k a) a) ∧ ∀ x, x ∈ l.foldl (fun a k => addK k a) a ↔ x ∈ l ∨ x ∈ a := by
  induction l with
  | nil => exact fun a h => ⟨h, fun x => by simp⟩
  | cons k l ih =>
    intro a h
    obtain ⟨h1, h2⟩ := ih (addK k a) h.addK
    refine ⟨h1, fun x => ?_⟩
    rw [List.foldl_cons, h2, mem_addK, List.mem_cons]
    constructor
    · rintro (e | e | e)
      · exact .inl (.inr e)
      · exact .inl (.inl e)
      · exact .inr e
    · rintro ((e | e) | e)
      · exact .inr (.inl e)
      · exact .inl e
      · exact .inr (.inr e)
theorem inc_setV (l : List Nm) : Inc (setV l) := (foldl_addK l [] List.Pairwise.nil).1
theorem mem_setV {l : List Nm} {x : Nm} : x ∈ setV l ↔ x ∈ l := by rw [setV, (foldl_addK l [] List.Pairwise.nil).2]; simp
theorem setV_eq {l g : List Nm} (hg : Inc g) (h : ∀ x, x ∈ g ↔ x ∈ l) : g = setV l := inc_eq hg (inc_setV l) fun x => by rw [h, mem_setV]
theorem setV_snoc (l : List Nm) (k : Nm) : setV (l ++ [k]) = addK k (setV l) := by unfold setV; rw [List.foldl_append]; rfl
theorem length_addK (k : Nm) : ∀ l : List Nm, (addK k l).length ≤ l.length + 1
  | [] => by simp [addK]
  | a :: r => by
    unfold addK
    split
    · have := length_addK k r; simp; omega
    · split <;> simp
theorem length_setV (l : List Nm) : (setV l).length ≤ l.length := by
  have : ∀ (l a : List Nm), (l.foldl (fun a k => addK k a) a).length ≤ l.length + a.length := by
    intro l
    induction l with
    | nil => intro a; simp
    | cons k l ih => intro a; have := ih (addK k a); have := length_addK k a; simp only [List.foldl_cons, List.length_cons]; omega
  simpa [setV] using this l []
theorem keysV_snoc (f : Int → Bool) (p : List OpV) (o : OpV) : keysV f (p ++ [o]) = keysV f p ++ (if f o.c && keyV o.key then [o.key] else []) := by
  unfold keysV
  rw [List.filter_append, List.map_append]
  congr 1
  by_cases h : (f o.c && keyV o.key) = true
  · rw [if_pos h, List.filter_cons]
    simp only [h, if_true]; rfl
  · rw [if_neg h, List.filter_cons]
    simp only [h]; rfl
theorem keysV_le (f : Int → Bool) (p : List OpV) : (keysV f p).length ≤ p.length := by
  unfold keysV; rw [List.length_map]; exact List.length_filter_le _ _
theorem mem_keysV {f : Int → Bool} {p : List OpV} {k : Nm} : k ∈ keysV f p ↔ ∃ o ∈ p, f o.c = true ∧ keyV o.key = true ∧ o.key = k := by
  unfold keysV
  rw [List.mem_map]
  constructor
  · rintro ⟨o, ho, rfl⟩
    obtain ⟨h1, h2⟩ := List.mem_filter.1 ho
    rw [Bool.and_eq_true] at h2
    exact ⟨o, h1, h2.1, h2.2, rfl⟩
  · rintro ⟨o, h1, h2, h3, rfl⟩
    exact ⟨o, List.mem_filter.2 ⟨h1, by rw [h2, h3]; rfl⟩, rfl⟩
theorem keyV_pos {k : Nm} (h : keyV k = true) : k ≠ [] ∧ k.length ≤ 24 := by
  unfold keyV at h
  rw [Bool.and_eq_true] at h
  have h1 := of_decide_eq_true h.1
  exact ⟨fun e => by subst e; simp at h1, of_decide_eq_true h.2⟩
/- what programs do -/
def truthV (v : DV) : Bool := if v.k = 1 then !(v.x % 9223372036854775808 == 0) && !nanB v.x else if v.k = 2 then !(v.s == []) else false
def bitV (b : Bool) : DV := ⟨1, canon (bif b then 4607182418800017408 else 0), []⟩
def ariN (c : Int) (a b : Nat) : Nat :=
  if c = 5 then resN (Ieee.double.add a b) else if c = 6 then resN (Ieee.double.sub a b) else if c = 7 then resN (Ieee.double.mul a b) else if c = 8 then resN (Ieee.double.div a b) else if c = 9 then leastN a b else mostN a b
def pop1 (st : List DV) : DV := st.getD (st.length - 1) DV.none
def pop2 (st : List DV) : DV := st.getD (st.length - 2) DV.none
def rest1 (st : List DV) : List DV := st.take (st.length - 1)
def rest2 (st : List DV) : List DV := st.take (st.length - 2)
inductive Out where
  | go (st : List DV) (wr : Ent DV)
  | no (e : Int)
def stepV (f : Nm → DV) (st : List DV) (wr : Ent DV) (o : OpV) : Out :=
  if o.c = 1 then .go (st ++ [(get wr o.key).getD (f o.key)]) wr
  else if o.c = 2 then .go (rest1 st) (put wr o.key (pop1 st))
  else if o.c = 3 then .go st (put wr o.key DV.none)
  else if o.c = 4 then .go (st ++ [o.v]) wr
  else if o.c = 13 then (if truthV (pop1 st) = true then .go (rest1 st) wr else .no 22)
  else if o.c = 14 then .go (rest1 st ++ [pop1 st, pop1 st]) wr
  else if o.c = 15 then .go (rest2 st ++ [pop1 st, pop2 st]) wr
  else if o.c = 11 then .go (rest2 st ++ [bitV (decide (compV (pop2 st) (pop1 st) < 0))]) wr
  else if o.c = 12 then .go (rest2 st ++ [bitV (compV (pop2 st) (pop1 st) == 0)]) wr
  else if (pop2 st).k = 2 ∨ (pop1 st).k = 2 then .no 23
  else .go (rest2 st ++ [⟨1, canon (ariN o.c (pop2 st).x (pop1 st).x), []⟩]) wr
def runL (f : Nm → DV) : List OpV → List DV → Ent DV → Out
  | [], st, wr => .go st wr
  | o :: r, st, wr => match stepV f st wr o with | .go st' wr' => runL f r st' wr' | .no e => .no e
/-- What was read of a key. -/
structure SeenV where
  key : List UInt8
  v : DV
  a : Int
  b : Int
  c : Int
  deriving DecidableEq
instance : Inhabited SeenV := ⟨⟨[], DV.none, 0, 0, 0⟩⟩
def SeenV.wf (s : SeenV) : Prop := s.key.length ≤ 9223372036854775807 ∧ s.v.wf ∧ (-9223372036854775808 ≤ s.a ∧ s.a < 9223372036854775808) ∧ (-9223372036854775808 ≤ s.b ∧ s.b < 9223372036854775808) ∧ (-9223372036854775808 ≤ s.c ∧ s.c < 9223372036854775808)
def seenO (l : List SeenV) (k : Nm) : Option DV := (l.find? fun s => s.key == k).map (·.v)
def seenF (l : List SeenV) (k : Nm) : DV := (seenO l k).getD DV.none
def saw (l : List SeenV) (ks : List Nm) : Int :=
  if ks.all (fun k => (seenO l k).isSome) = false then 8 else if ks.all (fun k => mayV (seenF l k)) = false then 4 else 0
def outV : Out → Ent DV × Int
  | .go _ wr => (wr, 0)
  | .no e => ([], e)
def runV (p : List OpV) (l : List SeenV) : Ent DV × Int :=
  if chkV p = 0 then (if saw l (readsV p) = 0 then outV (runL (seenF l) p [] []) else ([], saw l (readsV p))) else ([], chkV p)
end Go.Proofs.YtbgccaconhmbaaaGreatDoor
namespace Go.Proofs.YtbgccaconhmbaaaGreatDoor
def dep (d : Nat) : List OpV → Nat
  | [] => d
  | o :: r => dep (d - popC o.c + pushC o.c) r
theorem runL_append (f : Nm → DV) (a b : List OpV) : ∀ st wr, runL f (a ++ b) st wr = match runL f a st wr with | .go st' wr' => runL f b st' wr' | .no e => .no e := by
  induction a with
  | nil => intro st wr; rfl
  | cons o a ih =>
    intro st wr
    show (match stepV f st wr o with | .go st' wr' => runL f (a ++ b) st' wr' | .no e => .no e) = _
    show _ = match (match stepV f st wr o with | .go st' wr' => runL f a st' wr' | .no e => .no e) with | .go st' wr' => runL f b st' wr' | .no e => .no e
    cases stepV f st wr o with
    | go st' wr' => exact ih st' wr'
    | no e => rfl
theorem chkL_append (a b : List OpV) : ∀ d, chkL d (a ++ b) = if chkL d a = 0 then chkL (dep d a) b else chkL d a := by
  induction a with
  | nil => intro d; rfl
  | cons o a ih =>
    intro d
    show (if badV d o = 0 then chkL _ (a ++ b) else badV d o) = if (if badV d o = 0 then chkL _ a else badV d o) = 0 then _ else (if badV d o = 0 then chkL _ a else badV d o)
    by_cases h : badV d o = 0
    · simp only [if_pos h]; exact ih _
    · simp only [if_neg h]
theorem dep_append (a b : List OpV) : ∀ d, dep d (a ++ b) = dep (dep d a) b := by
  induction a with
  | nil => intro d; rfl
  | cons o a ih => intro d; exact ih _
theorem chkL_take {d : Nat} {p : List OpV} (h : chkL d p = 0) (k : Nat) : chkL d (p.take k) = 0 := by
  have e := chkL_append (p.take k) (p.drop k) d
  rw [List.take_append_drop, h] at e
  by_cases h2 : chkL d (p.take k) = 0
  · exact h2
  · rw [if_neg h2] at e; exact e.symm
theorem chkL_drop {d : Nat} {p : List OpV} (h : chkL d p = 0) (k : Nat) : chkL (dep d (p.take k)) (p.drop k) = 0 := by
  have e := chkL_append (p.take k) (p.drop k) d
  rw [List.take_append_drop, h, if_pos (chkL_take h k)] at e
  exact e.symm
theorem badV_zero {d : Nat} {o : OpV} (h : badV d o = 0) : okC o.c = true ∧ formV o = true ∧ popC o.c ≤ d ∧ d - popC o.c + pushC o.c ≤ 16 := by
  unfold badV at h
  cases h1 : okC o.c
  · rw [if_pos h1] at h; cases h
  rw [if_neg (by rw [h1]; exact Bool.noConfusion)] at h
  cases h2 : formV o
  · rw [if_pos h2] at h; cases h
  rw [if_neg (by rw [h2]; exact Bool.noConfusion)] at h
  by_cases h3 : d < popC o.c
  · rw [if_pos h3] at h; cases h
  rw [if_neg h3] at h
  by_cases h4 : 16 < d - popC o.c + pushC o.c
  · rw [if_pos h4] at h; cases h
  exact ⟨rfl, rfl, by omega, by omega⟩
theorem chkL_cons {d : Nat} {o : OpV} {r : List OpV} (h : chkL d (o :: r) = 0) : badV d o = 0 ∧ chkL (d - popC o.c + pushC o.c) r = 0 := by
  unfold chkL at h
  by_cases h2 : badV d o = 0
  · rw [if_pos h2] at h; exact ⟨h2, h⟩
  · rw [if_neg h2] at h; exact absurd h h2
theorem ok_cases {c : Int} (h : okC c = true) : c = 1 ∨ c = 2 ∨ c = 3 ∨ c = 4 ∨ c = 5 ∨ c = 6 ∨ c = 7 ∨ c = 8 ∨ c = 9 ∨ c = 10 ∨ c = 11 ∨ c = 12 ∨ c = 13 ∨ c = 14 ∨ c = 15 := by
  unfold okC at h
  rw [Bool.and_eq_true] at h
  have h1 := of_decide_eq_true h.1
  have h2 := of_decide_eq_true h.2
  omega
theorem names_put {wr : Ent DV} (hr : Rising wr) (k : Nm) (v : DV) : names (put wr k v) = addK k (names wr) := by
  refine inc_eq (rising_names.1 (hr.put k v)) (Inc.addK (rising_names.1 hr)) fun x => ?_
  rw [mem_addK]
  unfold names
  rw [List.mem_map, List.mem_map]
  constructor
  · rintro ⟨q, hq, rfl⟩
    rcases mem_put.1 hq with rfl | ⟨h1, _⟩
    · exact .inl rfl
    · exact .inr ⟨q, h1, rfl⟩
  · rintro (rfl | ⟨q, hq, rfl⟩)
    · exact ⟨(x, v), mem_put.2 (.inl rfl), rfl⟩
    · by_cases e : q.1 = k
      · exact ⟨(k, v), mem_put.2 (.inl rfl), e.symm⟩
      · exact ⟨q, mem_put.2 (.inr ⟨hq, e⟩), rfl⟩
theorem rest1_length {st : List DV} (h : 1 ≤ st.length) : (rest1 st).length = st.length - 1 := by unfold rest1; rw [List.length_take]; omega
theorem rest2_length {st : List DV} (h : 2 ≤ st.length) : (rest2 st).length = st.length - 2 := by unfold rest2; rw [List.length_take]; omega
/-- What one step makes of the stack and of what is written. -/
theorem step_go {f : Nm → DV} {st : List DV} {wr : Ent DV} {o : OpV} (hb : badV st.length o = 0) {st' : List DV} {wr' : Ent DV} (h : stepV f st wr o = .go st' wr') :
    st'.length = st.length - popC o.c + pushC o.c ∧ ((isWr o.c = false ∧ wr' = wr) ∨ (isWr o.c = true ∧ keyV o.key = true ∧ ∃ v, wr' = put wr o.key v ∧ (v = DV.none ∨ v ∈ st))) ∧
      ∀ v ∈ st', v ∈ st ∨ v = o.v ∨ (o.c = 1 ∧ (get wr o.key = some v ∨ (get wr o.key = none ∧ v = f o.key))) ∨ (v.k = 1 ∧ v.s = [] ∧ ∃ y, v.x = canon y) := by
  obtain ⟨hok, hform, hpop, _⟩ := badV_zero hb
  have top : 1 ≤ st.length → pop1 st ∈ st := fun h => by
    unfold pop1
    rw [List.getD_eq_getElem?_getD, List.getElem?_eq_getElem (by omega)]
    exact List.getElem_mem _
  have top2 : 2 ≤ st.length → pop2 st ∈ st := fun h => by
    unfold pop2
    rw [List.getD_eq_getElem?_getD, List.getElem?_eq_getElem (by omega)]
    exact List.getElem_mem _
  have r1 : ∀ v ∈ rest1 st, v ∈ st := fun v hv => List.mem_of_mem_take hv
  have r2 : ∀ v ∈ rest2 st, v ∈ st := fun v hv => List.mem_of_mem_take hv
  have hk : isWr o.c = true → keyV o.key = true := fun hw => by
    unfold isWr at hw
    rw [Bool.or_eq_true] at hw
    have hw : o.c = 2 ∨ o.c = 3 := by simpa using hw
    have hn : nmsC o.c = 1 := by unfold nmsC; rw [if_pos (by omega)]
    unfold formV at hform
    rw [if_pos hn, Bool.and_eq_true] at hform
    exact hform.1
  obtain ⟨c, key, v0⟩ := o
  simp only at hpop hk h hok ⊢
  clear hform hb
  rcases ok_cases hok with rfl | rfl | rfl | rfl | rfl | rfl | rfl | rfl | rfl | rfl | rfl | rfl | rfl | rfl | rfl
  all_goals
    clear hok
    simp [popC] at hpop
    simp [stepV] at h
  · obtain ⟨rfl, rfl⟩ := h
    refine ⟨by simp [popC, pushC], .inl ⟨by decide, rfl⟩, fun v hv => ?_⟩
    rcases List.mem_append.1 hv with hv | hv
    · exact .inl hv
    · refine .inr (.inr (.inl ⟨rfl, ?_⟩))
      have hv : v = (get wr key).getD (f key) := by simpa using hv
      show get wr key = some v ∨ _
      cases e : get wr key with
      | none => rw [e] at hv; exact .inr ⟨rfl, hv⟩
      | some y => rw [e] at hv; exact .inl (by rw [hv]; rfl)
  · obtain ⟨rfl, rfl⟩ := h
    exact ⟨by rw [rest1_length hpop]; simp [popC, pushC], .inr ⟨by decide, hk (by decide), _, rfl, .inr (top hpop)⟩, fun v hv => .inl (r1 v hv)⟩
  · obtain ⟨rfl, rfl⟩ := h
    exact ⟨by simp [popC, pushC], .inr ⟨by decide, hk (by decide), _, rfl, .inl rfl⟩, fun v hv => .inl hv⟩
  · obtain ⟨rfl, rfl⟩ := h
    refine ⟨by simp [popC, pushC], .inl ⟨by decide, rfl⟩, fun v hv => ?_⟩
    rcases List.mem_append.1 hv with hv | hv
    · exact .inl hv
    · exact .inr (.inl (by simpa using hv))
  iterate 6
    · split at h
      · cases h
      injection h with h1 h2
      subst h1 h2
      refine ⟨by rw [List.length_append, rest2_length hpop]; simp [popC, pushC], .inl ⟨by decide, rfl⟩, fun v hv => ?_⟩
      rcases List.mem_append.1 hv with hv | hv
      · exact .inl (r2 v hv)
      · obtain rfl := List.mem_singleton.1 hv
        exact .inr (.inr (.inr ⟨rfl, rfl, _, rfl⟩))
  iterate 2
    · obtain ⟨rfl, rfl⟩ := h
      refine ⟨by rw [List.length_append, rest2_length hpop]; simp [popC, pushC], .inl ⟨by decide, rfl⟩, fun v hv => ?_⟩
      rcases List.mem_append.1 hv with hv | hv
      · exact .inl (r2 v hv)
      · obtain rfl := List.mem_singleton.1 hv
        exact .inr (.inr (.inr ⟨rfl, rfl, _, rfl⟩))
  · split at h
    case isFalse => cases h
    injection h with h1 h2
    subst h1 h2
    exact ⟨by rw [rest1_length hpop]; simp [popC, pushC], .inl ⟨by decide, rfl⟩, fun v hv => .inl (r1 v hv)⟩
  · obtain ⟨rfl, rfl⟩ := h
    refine ⟨by rw [List.length_append, rest1_length hpop]; simp [popC, pushC], .inl ⟨by decide, rfl⟩, fun v hv => ?_⟩
    rcases List.mem_append.1 hv with hv | hv
    · exact .inl (r1 v hv)
    · have hv : v = pop1 st := by simpa using hv
      exact .inl (hv ▸ top hpop)
  · obtain ⟨rfl, rfl⟩ := h
    refine ⟨by rw [List.length_append, rest2_length hpop]; simp [popC, pushC], .inl ⟨by decide, rfl⟩, fun v hv => ?_⟩
    rcases List.mem_append.1 hv with hv | hv
    · exact .inl (r2 v hv)
    · have hv : v = pop1 st ∨ v = pop2 st := by simpa using hv
      rcases hv with rfl | rfl
      · exact .inl (top (by omega))
      · exact .inl (top2 hpop)
end Go.Proofs.YtbgccaconhmbaaaGreatDoor
namespace Go.Proofs.YtbgccaconhmbaaaGreatDoor
open Go.RowKit
def wordC (n : Nat) : List UInt8 :=
  match n with
  | 1 => [103, 101, 116] | 2 => [112, 117, 116] | 3 => [100, 114, 111, 112] | 4 => [112, 117, 115, 104] | 5 => [97, 100, 100] | 6 => [115, 117, 98] | 7 => [109, 117, 108] | 8 => [100, 105, 118]
  | 9 => [109, 105, 110] | 10 => [109, 97, 120] | 11 => [108, 101, 115, 115] | 12 => [115, 97, 109, 101] | 13 => [110, 101, 101, 100] | 14 => [100, 117, 112] | 15 => [115, 119, 97, 112] | _ => []
structure SV where
  w : List UInt8
  n : Int
  p : Int
  q : Int
def SV.zero : SV := ⟨[], 0, 0, 0⟩
def SV.at (n : Nat) : SV := ⟨wordC n, nmsC n, (popC n : Nat), (pushC n : Nat)⟩
abbrev sagg (s : SV) : Value := .agg #[.string ⟨s.w.toArray⟩, .int .i64 s.n, .int .i64 s.p, .int .i64 s.q]
abbrev sobj (s : SV) : Obj := .cells #[.string ⟨s.w.toArray⟩, .int .i64 s.n, .int .i64 s.p, .int .i64 s.q] 65
structure Stp (w : World) : Prop where
  lt : 0 < w.heap.size
  c0 : ∀ n, 1 ≤ n → n < 16 → w.cell? ⟨0, n * 4, none⟩ = some (.string ⟨(wordC n).toArray⟩)
  c1 : ∀ n, 1 ≤ n → n < 16 → w.cell? ⟨0, n * 4 + 1, none⟩ = some (.int .i64 (nmsC n))
  c2 : ∀ n, 1 ≤ n → n < 16 → w.cell? ⟨0, n * 4 + 2, none⟩ = some (.int .i64 (popC n : Nat))
  c3 : ∀ n, 1 ≤ n → n < 16 → w.cell? ⟨0, n * 4 + 3, none⟩ = some (.int .i64 (pushC n : Nat))
  z0 : w.cell? ⟨0, 0, none⟩ = some (.string ⟨#[]⟩)
  z1 : w.cell? ⟨0, 1, none⟩ = some (.int .i64 0)
  z2 : w.cell? ⟨0, 2, none⟩ = some (.int .i64 0)
  z3 : w.cell? ⟨0, 3, none⟩ = some (.int .i64 0)
theorem Stp.below {w w' : World} (h : Stp w) (hb : Below w.heap.size w w') : Stp w' :=
  ⟨Nat.lt_of_lt_of_le h.lt hb.size, fun n h1 h2 => (hb.cell (p := ⟨0, n * 4, none⟩) h.lt).trans (h.c0 n h1 h2), fun n h1 h2 => (hb.cell (p := ⟨0, n * 4 + 1, none⟩) h.lt).trans (h.c1 n h1 h2), fun n h1 h2 => (hb.cell (p := ⟨0, n * 4 + 2, none⟩) h.lt).trans (h.c2 n h1 h2), fun n h1 h2 => (hb.cell (p := ⟨0, n * 4 + 3, none⟩) h.lt).trans (h.c3 n h1 h2),
    (hb.cell (p := ⟨0, 0, none⟩) h.lt).trans h.z0, (hb.cell (p := ⟨0, 1, none⟩) h.lt).trans h.z1, (hb.cell (p := ⟨0, 2, none⟩) h.lt).trans h.z2, (hb.cell (p := ⟨0, 3, none⟩) h.lt).trans h.z3⟩
theorem stepOf_no {c : Int} (h : okC c = false) (w : World) : Calls Tryz.prog 38 #[.int .i64 c] w fun e w' => e = .returned (.tuple #[sagg SV.zero, .bool false]) ∧ Below w.heap.size w w' := by
  by_cases h1 : c < 1
  · clear h
    go_enter Tryz.func38, Tryz.ntmps38
    go_wp2
    go_returns
    exact ⟨rfl, below1 _ _⟩
  · have h2 : c ≥ 16 := by
      unfold okC at h
      rw [decide_eq_true (by omega : (1 : Int) ≤ c), Bool.true_and] at h
      have := of_decide_eq_false h
      omega
    clear h
    go_enter Tryz.func38, Tryz.ntmps38
    go_wp2
    go_returns
    exact ⟨rfl, below1 _ _⟩
theorem stepOf_ok {n : Nat} (h1 : 1 ≤ n) (h2 : n < 16) (w : World) (hS : Stp w) : Calls Tryz.prog 38 #[.int .i64 (n : Int)] w fun e w' => e = .returned (.tuple #[sagg (SV.at n), .bool true]) ∧ Below w.heap.size w w' := by
  have a0 := hS.c0 n h1 h2
  have a1 := hS.c1 n h1 h2
  have a2 := hS.c2 n h1 h2
  have a3 := hS.c3 n h1 h2
  have hlt := hS.lt
  have t1 : ¬ ((n : Int) < 1) := by omega
  have t2 : ¬ ((n : Int) ≥ 16) := by omega
  generalize hq0 : wordC n = q0 at *
  generalize hq1 : nmsC n = q1 at *
  generalize hq2 : popC n = q2 at *
  generalize hq3 : pushC n = q3 at *
  have e : SV.at n = ⟨q0, q1, q2, q3⟩ := by unfold SV.at; rw [hq0, hq1, hq2, hq3]
  have E := Lib.hid e
  clear hq0 hq1 hq2 hq3 e hS
  go_enter Tryz.func38, Tryz.ntmps38
  go_wp2

  go_returns
  exact ⟨by rw [E.out], below1 _ _⟩
end Go.Proofs.YtbgccaconhmbaaaGreatDoor
namespace Go.Proofs.YtbgccaconhmbaaaGreatDoor
theorem resN_lt {o : Option Nat} (h : ∀ r, o = some r → r < 18446744073709551616) : resN o < 18446744073709551616 := by
  cases o with
  | none => decide
  | some r => exact canon_lt (h r rfl)
theorem ari_lt (c : Int) {a b : Nat} (ha : a < 18446744073709551616) (hb : b < 18446744073709551616) : ariN c a b < 18446744073709551616 := by
  have e : 2 ^ Ieee.double.width = 18446744073709551616 := by decide
  unfold ariN
  split
  · exact resN_lt fun r h => e ▸ Ieee.Format.add_lt _ h
  split
  · exact resN_lt fun r h => e ▸ Ieee.Format.sub_lt _ h
  split
  · exact resN_lt fun r h => e ▸ Ieee.Format.mul_lt _ h
  split
  · exact resN_lt fun r h => e ▸ Ieee.Format.div_lt _ h
  split
  · unfold leastN; cases decide (rankN a ≤ rankN b) <;> exact canon_lt (by assumption)
  · unfold mostN; cases decide (rankN b ≤ rankN a) <;> exact canon_lt (by assumption)
theorem none_wf : DV.none.wf := ⟨⟨by decide, by decide⟩, by decide, by decide⟩
theorem one_wf {x : Nat} (h : x < 18446744073709551616) : (DV.mk 1 (canon x) []).wf := ⟨⟨show (-9223372036854775808 : Int) ≤ 1 by decide, show (1 : Int) < 9223372036854775808 by decide⟩, canon_lt h, Nat.zero_le _⟩
theorem bit_wf (b : Bool) : (bitV b).wf := one_wf (by cases b <;> decide)
/-- One step keeps to any property that numbers have. -/
theorem step_all {Q : DV → Prop} (hn : Q DV.none) (h1 : ∀ x, x < 18446744073709551616 → Q ⟨1, canon x, []⟩) {f : Nm → DV} {st : List DV} {wr : Ent DV} {o : OpV} (hb : badV st.length o = 0) (hu : ∀ v ∈ st, v.x < 18446744073709551616)
    (hs : ∀ v ∈ st, Q v) (hw : ∀ p ∈ wr, Q p.2) (hv : Q o.v) (hf : o.c = 1 → Q (f o.key)) {st' : List DV} {wr' : Ent DV} (h : stepV f st wr o = .go st' wr') : (∀ v ∈ st', Q v) ∧ ∀ p ∈ wr', Q p.2 := by
  obtain ⟨hok, _, hpop, _⟩ := badV_zero hb
  have top : 1 ≤ st.length → pop1 st ∈ st := fun h => by
    unfold pop1
    rw [List.getD_eq_getElem?_getD, List.getElem?_eq_getElem (by omega)]
    exact List.getElem_mem _
  have top2 : 2 ≤ st.length → pop2 st ∈ st := fun h => by
    unfold pop2
    rw [List.getD_eq_getElem?_getD, List.getElem?_eq_getElem (by omega)]
    exact List.getElem_mem _
  have r1 : ∀ v ∈ rest1 st, v ∈ st := fun v hv => List.mem_of_mem_take hv
  have r2 : ∀ v ∈ rest2 st, v ∈ st := fun v hv => List.mem_of_mem_take hv
  have bit : ∀ b, Q (bitV b) := fun b => h1 _ (by cases b <;> decide)
  have wput : ∀ k v, Q v → ∀ p ∈ put wr k v, Q p.2 := fun k v hq p hp => by
    rcases mem_put.1 hp with rfl | ⟨h, _⟩
    · exact hq
    · exact hw p h
  have one : ∀ {l : List DV} {v : DV}, (∀ u ∈ l, u ∈ st) → Q v → ∀ u ∈ l ++ [v], Q u := fun hl hv u hu => by
    rcases List.mem_append.1 hu with e | e
    · exact hs u (hl u e)
    · rw [List.mem_singleton.1 e]; exact hv
  obtain ⟨c, key, v0⟩ := o
  simp only at hpop h hok hv hf
  clear hb
  rcases ok_cases hok with rfl | rfl | rfl | rfl | rfl | rfl | rfl | rfl | rfl | rfl | rfl | rfl | rfl | rfl | rfl
  all_goals
    clear hok
    simp [popC] at hpop
    simp [stepV] at h
  · obtain ⟨rfl, rfl⟩ := h
    refine ⟨one (fun u h => h) ?_, hw⟩
    cases e : get wr key with
    | none => exact hf rfl
    | some x => exact hw _ (get_mem e)
  · obtain ⟨rfl, rfl⟩ := h
    exact ⟨fun v hv => hs v (r1 v hv), wput _ _ (hs _ (top hpop))⟩
  · obtain ⟨rfl, rfl⟩ := h
    exact ⟨hs, wput _ _ hn⟩
  · obtain ⟨rfl, rfl⟩ := h
    exact ⟨one (fun u h => h) hv, hw⟩
  iterate 6
    · split at h
      · cases h
      injection h with e1 e2
      subst e1 e2
      exact ⟨one r2 (h1 _ (ari_lt _ (hu _ (top2 hpop)) (hu _ (top (by omega))))), hw⟩
  iterate 2
    · obtain ⟨rfl, rfl⟩ := h
      exact ⟨one r2 (bit _), hw⟩
  · split at h
    case isFalse => cases h
    injection h with e1 e2
    subst e1 e2
    exact ⟨fun v hv => hs v (r1 v hv), hw⟩
  · obtain ⟨rfl, rfl⟩ := h
    refine ⟨fun v hv => ?_, hw⟩
    rcases List.mem_append.1 hv with hv | hv
    · exact hs v (r1 v hv)
    · have hv : v = pop1 st := by simpa using hv
      exact hv ▸ hs _ (top hpop)
  · obtain ⟨rfl, rfl⟩ := h
    refine ⟨fun v hv => ?_, hw⟩
    rcases List.mem_append.1 hv with hv | hv
    · exact hs v (r2 v hv)
    · have hv : v = pop1 st ∨ v = pop2 st := by simpa using hv
      rcases hv with rfl | rfl
      · exact hs _ (top (by omega))
      · exact hs _ (top2 hpop)
/-- What the seen values count for hangs on the keys that are read. -/
theorem step_congr {f g : Nm → DV} {st : List DV} {wr : Ent DV} {o : OpV} (h : o.c = 1 → f o.key = g o.key) : stepV f st wr o = stepV g st wr o := by
  unfold stepV
  by_cases hc : o.c = 1
  · rw [if_pos hc, if_pos hc, h hc]
  · rw [if_neg hc, if_neg hc]
theorem runL_congr {f g : Nm → DV} : ∀ {p : List OpV}, (∀ o ∈ p, o.c = 1 → f o.key = g o.key) → ∀ st wr, runL f p st wr = runL g p st wr
  | [], _, _, _ => rfl
  | o :: r, h, st, wr => by
    unfold runL
    rw [step_congr (g := g) (h o (by simp))]
    cases stepV g st wr o with
    | go st' wr' => exact runL_congr (fun o' ho => h o' (by simp [ho])) st' wr'
    | no e => rfl
theorem isRd_iff {c : Int} : isRd c = true ↔ c = 1 := by unfold isRd; simp
theorem isWr_iff {c : Int} : isWr c = true ↔ c = 2 ∨ c = 3 := by unfold isWr; simp
theorem form_key {o : OpV} (h : formV o = true) (hc : o.c = 1 ∨ o.c = 2 ∨ o.c = 3) : keyV o.key = true := by
  have hn : nmsC o.c = 1 := by unfold nmsC; rw [if_pos hc]
  unfold formV at h
  rw [if_pos hn, Bool.and_eq_true] at h
  exact h.1
/-- Each step of a program that may be is well formed. -/
theorem chk_forms : ∀ {p : List OpV} {d : Nat}, chkL d p = 0 → ∀ o ∈ p, okC o.c = true ∧ formV o = true
  | [], _, _, o, ho => by cases ho
  | q :: r, d, h, o, ho => by
    obtain ⟨hb, h2⟩ := chkL_cons h
    rcases List.mem_cons.1 ho with rfl | ho
    · exact ⟨(badV_zero hb).1, (badV_zero hb).2.1⟩
    · exact chk_forms h2 o ho
theorem mem_reads {p : List OpV} {d : Nat} (h : chkL d p = 0) {o : OpV} (ho : o ∈ p) (hc : o.c = 1) : o.key ∈ readsV p := by
  unfold readsV
  rw [mem_setV, mem_keysV]
  exact ⟨o, ho, isRd_iff.2 hc, form_key (chk_forms h o ho).2 (.inl hc), rfl⟩
theorem zero_none {v : DV} (h : zeroV v = true) : v = DV.none := by
  unfold zeroV at h
  rw [Bool.and_eq_true] at h
  have hk : v.k = 0 := by simpa using h.1
  have hm := h.2
  unfold mayV at hm
  rw [if_pos hk] at hm
  obtain ⟨k, x, s⟩ := v
  simp at hk hm
  obtain ⟨rfl, rfl⟩ := hm
  subst hk
  rfl
theorem form_may {o : OpV} (h : formV o = true) : mayV o.v = true := by
  unfold formV at h
  split at h
  · rw [Bool.and_eq_true] at h; rw [zero_none h.2]; decide
  split at h
  · rw [Bool.and_eq_true] at h; exact h.2
  · rw [Bool.and_eq_true] at h; rw [zero_none h.2]; decide
/-- All along a run. -/
theorem run_all {Q : DV → Prop} (hn : Q DV.none) (h1 : ∀ x, x < 18446744073709551616 → Q ⟨1, canon x, []⟩) {f : Nm → DV} : ∀ {p : List OpV} {st : List DV} {wr : Ent DV}, chkL st.length p = 0 → (∀ v ∈ st, v.x < 18446744073709551616 ∧ Q v) → (∀ q ∈ wr, q.2.x < 18446744073709551616 ∧ Q q.2) →
    (∀ o ∈ p, o.v.x < 18446744073709551616 ∧ Q o.v) → (∀ o ∈ p, o.c = 1 → (f o.key).x < 18446744073709551616 ∧ Q (f o.key)) → Rising wr → ∀ {st' : List DV} {wr' : Ent DV}, runL f p st wr = .go st' wr' →
    (∀ v ∈ st', v.x < 18446744073709551616 ∧ Q v) ∧ (∀ q ∈ wr', q.2.x < 18446744073709551616 ∧ Q q.2) ∧ Rising wr' ∧ names wr' = (keysV isWr p).foldl (fun a k => addK k a) (names wr) ∧ st'.length = dep st.length p
  | [], st, wr, _, hs, hw, _, _, hr, st', wr', h => by
    injection h with e1 e2
    subst e1 e2
    exact ⟨hs, hw, hr, rfl, rfl⟩
  | o :: r, st, wr, hc, hs, hw, hv, hf, hr, st', wr', h => by
    obtain ⟨hb, h2⟩ := chkL_cons hc
    unfold runL at h
    cases e : stepV f st wr o with
    | no x => rw [e] at h; cases h
    | go st1 wr1 =>
      rw [e] at h
      simp only at h
      obtain ⟨g1, g2, _⟩ := step_go hb e
      obtain ⟨a1, a2⟩ := step_all (Q := fun v => v.x < 18446744073709551616 ∧ Q v) ⟨by decide, hn⟩ (fun x hx => ⟨canon_lt hx, h1 x hx⟩) hb (fun v hv => (hs v hv).1) hs hw (hv o (by simp)) (hf o (by simp)) e
      have hr1 : Rising wr1 := by
        rcases g2 with ⟨_, rfl⟩ | ⟨_, _, v, rfl, _⟩
        · exact hr
        · exact hr.put _ _
      rw [← g1] at h2
      obtain ⟨b1, b2, b3, b4, b5⟩ := run_all hn h1 h2 a1 a2 (fun q hq => hv q (by simp [hq])) (fun q hq => hf q (by simp [hq])) hr1 h
      refine ⟨b1, b2, b3, ?_, ?_⟩
      · rw [b4]
        have hk : keysV isWr (o :: r) = (if isWr o.c && keyV o.key then [o.key] else []) ++ keysV isWr r := by
          unfold keysV
          rw [List.filter_cons]
          split
          · simp
          · simp
        rw [hk]
        rcases g2 with ⟨hw0, rfl⟩ | ⟨hw1, hk1, v, rfl, _⟩
        · rw [hw0]; rfl
        · rw [hw1, hk1, names_put hr]; rfl
      · rw [b5, g1]; rfl
end Go.Proofs.YtbgccaconhmbaaaGreatDoor
namespace Go.Proofs.YtbgccaconhmbaaaGreatDoor
open Go.RowKit
def stepC (n : Nat) : List Value := [.string ⟨(wordC n).toArray⟩, .int .i64 (nmsC n), .int .i64 (popC n : Nat), .int .i64 (pushC n : Nat)]
def tabL : List Value := [.string ⟨#[]⟩, .int .i64 0, .int .i64 0, .int .i64 0] ++ (List.range 15).flatMap fun n => stepC (n + 1)
theorem tab_len : tabL.length = 64 := by rfl
/-- The table lies whole in its block. -/
structure Stb (w : World) : Prop where
  stp : Stp w
  tb : ∃ t fr, w.heap[0]? = some (.cells tabL.toArray t fr)
theorem Stb.below {w w' : World} (h : Stb w) (hb : Below w.heap.size w w') : Stb w' := by
  obtain ⟨t, fr, ht⟩ := h.tb
  exact ⟨h.stp.below hb, t, fr, (hb.block _ h.stp.lt).trans ht⟩
theorem tab_all {cs : List Value} (hl : cs.length = 64) (hc : ∀ n, 1 ≤ n → n < 16 → cs[n * 4]? = some (.string ⟨(wordC n).toArray⟩) ∧ cs[n * 4 + 1]? = some (.int .i64 (nmsC n)) ∧ cs[n * 4 + 2]? = some (.int .i64 (popC n : Nat)) ∧ cs[n * 4 + 3]? = some (.int .i64 (pushC n : Nat)))
    (z0 : cs[0]? = some (.string ⟨#[]⟩)) (z1 : cs[1]? = some (.int .i64 0)) (z2 : cs[2]? = some (.int .i64 0)) (z3 : cs[3]? = some (.int .i64 0)) : cs = tabL := by
  apply List.ext_getElem?
  intro i
  by_cases hi : i < 64
  · have hcc := fun n h1 h2 => hc n h1 h2
    clear hc
    rcases Nat.lt_or_ge i 4 with h4 | h4
    · match i, h4 with
      | 0, _ => rw [z0]; rfl
      | 1, _ => rw [z1]; rfl
      | 2, _ => rw [z2]; rfl
      | 3, _ => rw [z3]; rfl
    · have key : ∀ n j, 1 ≤ n → n < 16 → j < 4 → cs[n * 4 + j]? = tabL[n * 4 + j]? := by
        intro n j h1 h2 h3
        obtain ⟨a0, a1, a2, a3⟩ := hcc n h1 h2
        have e : ∀ n, 1 ≤ n → n < 16 → tabL[n * 4]? = some (.string ⟨(wordC n).toArray⟩) ∧ tabL[n * 4 + 1]? = some (.int .i64 (nmsC n)) ∧ tabL[n * 4 + 2]? = some (.int .i64 (popC n : Nat)) ∧ tabL[n * 4 + 3]? = some (.int .i64 (pushC n : Nat)) := by
          intro n h1 h2
          match n, h1, h2 with
          | 1, _, _ => exact ⟨rfl, rfl, rfl, rfl⟩
          | 2, _, _ => exact ⟨rfl, rfl, rfl, rfl⟩
          | 3, _, _ => exact ⟨rfl, rfl, rfl, rfl⟩
          | 4, _, _ => exact ⟨rfl, rfl, rfl, rfl⟩
          | 5, _, _ => exact ⟨rfl, rfl, rfl, rfl⟩
          | 6, _, _ => exact ⟨rfl, rfl, rfl, rfl⟩
          | 7, _, _ => exact ⟨rfl, rfl, rfl, rfl⟩
          | 8, _, _ => exact ⟨rfl, rfl, rfl, rfl⟩
          | 9, _, _ => exact ⟨rfl, rfl, rfl, rfl⟩
          | 10, _, _ => exact ⟨rfl, rfl, rfl, rfl⟩
          | 11, _, _ => exact ⟨rfl, rfl, rfl, rfl⟩
          | 12, _, _ => exact ⟨rfl, rfl, rfl, rfl⟩
          | 13, _, _ => exact ⟨rfl, rfl, rfl, rfl⟩
          | 14, _, _ => exact ⟨rfl, rfl, rfl, rfl⟩
          | 15, _, _ => exact ⟨rfl, rfl, rfl, rfl⟩
          | n + 16, _, h => exact absurd h (by omega)
        obtain ⟨b0, b1, b2, b3⟩ := e n h1 h2
        match j, h3 with
        | 0, _ => exact a0.trans b0.symm
        | 1, _ => exact a1.trans b1.symm
        | 2, _ => exact a2.trans b2.symm
        | 3, _ => exact a3.trans b3.symm
      have := key (i / 4) (i % 4) (by omega) (by omega) (by omega)
      rwa [show i / 4 * 4 + i % 4 = i from by omega] at this
  · rw [List.getElem?_eq_none (by omega), List.getElem?_eq_none (by rw [tab_len]; omega)]
end Go.Proofs.YtbgccaconhmbaaaGreatDoor
namespace Go.Proofs.YtbgccaconhmbaaaGreatDoor
/-- The rest of the loop's answer: has the name been placed already? -/
def putL (s : Nm) (x : DV) : Bool → Ent DV → Ent DV
  | placed, [] => if placed then [] else [(s, x)]
  | placed, p :: r => if p.1 = s then (s, x) :: putL s x true r else if placed = false ∧ s < p.1 then (s, x) :: p :: putL s x true r else p :: putL s x placed r
theorem putL_rest {s : Nm} {x : DV} : ∀ {l : Ent DV}, (∀ p ∈ l, p.1 ≠ s) → putL s x true l = l
  | [], _ => rfl
  | p :: r, h => by
    unfold putL
    rw [if_neg (h p (by simp)), if_neg (by simp), putL_rest fun q hq => h q (by simp [hq])]
theorem del_none {s : Nm} {l : Ent DV} (h : ∀ p ∈ l, p.1 ≠ s) : del l s = l := by
  unfold del
  rw [List.filter_eq_self]
  intro p hp
  simpa using h p hp
theorem ins_first {s : Nm} {x : DV} {l : Ent DV} (h : ∀ p ∈ l, s < p.1) : ins s x l = (s, x) :: l := by
  cases l with
  | nil => rfl
  | cons p r =>
    unfold ins
    rw [if_neg fun e => List.lt_irrefl s (List.lt_trans (h p (by simp)) e)]
theorem putL_put (s : Nm) (x : DV) : ∀ {l : Ent DV}, Rising l → putL s x false l = put l s x
  | [], _ => rfl
  | p :: r, h => by
    obtain ⟨h1, h2⟩ := List.pairwise_cons.1 h
    unfold putL
    by_cases e : p.1 = s
    · have hr : ∀ q ∈ r, s < q.1 := fun q hq => e ▸ h1 q hq
      have hn : ∀ q ∈ r, q.1 ≠ s := fun q hq e2 => List.lt_irrefl s (by have := hr q hq; rwa [e2] at this)
      rw [if_pos e, putL_rest hn]
      have ed : del (p :: r) s = r := by
        have : del (p :: r) s = del r s := by unfold del; rw [List.filter_cons]; simp [e]
        rw [this, del_none hn]
      unfold put
      rw [ed, ins_first hr]
    · rw [if_neg e]
      by_cases hs : s < p.1
      · have hr : ∀ q ∈ p :: r, s < q.1 := fun q hq => by
          rcases List.mem_cons.1 hq with rfl | hq
          · exact hs
          · exact List.lt_trans hs (h1 q hq)
        have hn : ∀ q ∈ p :: r, q.1 ≠ s := fun q hq e2 => List.lt_irrefl s (by have := hr q hq; rwa [e2] at this)
        rw [if_pos ⟨rfl, hs⟩, putL_rest fun q hq => hn q (by simp [hq])]
        unfold put
        rw [del_none hn, ins_first hr]
      · rw [if_neg fun h => hs h.2, putL_put s x h2]
        have hlt : p.1 < s := Std.lt_of_le_of_ne (List.not_lt.1 hs) e
        have ed : del (p :: r) s = p :: del r s := by unfold del; rw [List.filter_cons]; simp [e]
        unfold put
        rw [ed]
        conv => rhs; unfold ins
        rw [if_pos hlt]
end Go.Proofs.YtbgccaconhmbaaaGreatDoor
