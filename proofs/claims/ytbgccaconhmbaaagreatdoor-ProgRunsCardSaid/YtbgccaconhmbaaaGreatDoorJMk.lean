/- A machine does any step of a program that may be. Conditions: values below 2^64. What was seen, as it lies in memory; slices.IndexFunc at it. Conditions: no more than a million. prog.valuesOf: the values of the keys, or the fault. Conditions: no more than a million. prog.Run's deferred function: a fault's number is laid into the result. Conditions: none. prog.Run. Conditions: values and texts as Go has them; the table of steps holds what its initialiser lays. prog.Run, where all that it reads was seen. Conditions: values and texts as Go has them; the table of steps holds what its initialiser lays. Rows of steps, of what was seen, of writes that came in. Conditions: none. A need behind a program: what it checks to, reads and does. Conditions: none of its own. Beginnings of programs, programs one behind another: what they check to, read, write and do. Conditions: none of its own. Two programs one behind the other: what both do, and what the second one does over what the first one wrote. Conditions: none of its own. What a program answers hangs on what was seen of the keys that it reads alone. Conditions: none of its own. -/
import Derived.Test.YtbgccaconhmbaaaGreatDoorJMf
import Derived.Test.YtbgccaconhmbaaaGreatDoorJPa
import Derived.Recover
import Derived.Defers
namespace Go.Proofs.YtbgccaconhmbaaaGreatDoor
open Go.ChangeShapes Go.WideShapes Go.ChangeAt Go.RowKit Go.Deep
theorem form_klen {o : OpV} (h : formV o = true) : o.key.length ≤ 24 := by
  unfold formV at h
  split at h
  · rw [Bool.and_eq_true] at h; exact (keyV_pos h.1).2
  split at h
  · rw [Bool.and_eq_true] at h; have : o.key = [] := by simpa using h.1
    rw [this]; decide
  · rw [Bool.and_eq_true] at h; have : o.key = [] := by simpa using h.1
    rw [this]; decide
section
variable {C : Nat → Prop} {b : Nat} {w : World} {st : List DV} {wr : Ent DV} {z : Mm}
theorem do_any (h : Mch C w b st wr z) (o : OpV) (hb : badV st.length o = 0) (hl : st.length ≤ 1000000) (hw : ∀ u ∈ st, u.wf) (hm : wr.length < maxLen) :
    Calls Tryz.prog 47 #[.pointer (some ⟨b, 0, none⟩), oagg o] w (Doing C w b z (stepV (fun k => (get z.sn k).getD DV.none) st wr o)) := by
  obtain ⟨hok, hf, hp, _⟩ := badV_zero hb
  have hk : o.key.length ≤ maxLen := Nat.le_trans (form_klen hf) (by decide)
  obtain ⟨c, key, v⟩ := o
  simp only at hok hp hk
  clear hf hb
  rcases ok_cases hok with rfl | rfl | rfl | rfl | rfl | rfl | rfl | rfl | rfl | rfl | rfl | rfl | rfl | rfl | rfl
  all_goals
    clear hok
    simp [popC] at hp
  · exact do1 h key v hk (Nat.zero_le _) hl hw hm
  · exact do2 h key v hk hp hl hw hm
  · exact do3 h key v hk (Nat.zero_le _) hl hw hm
  · exact do4 h key v hk (Nat.zero_le _) hl hw hm
  · by_cases hn : (pop2 st).k = 2 ∨ (pop1 st).k = 2
    · exact do5_text h key v hk hp hl hw hm hn
    · exact do5_ok h key v hk hp hl hw hm hn
  · by_cases hn : (pop2 st).k = 2 ∨ (pop1 st).k = 2
    · exact do6_text h key v hk hp hl hw hm hn
    · exact do6_ok h key v hk hp hl hw hm hn
  · by_cases hn : (pop2 st).k = 2 ∨ (pop1 st).k = 2
    · exact do7_text h key v hk hp hl hw hm hn
    · exact do7_ok h key v hk hp hl hw hm hn
  · by_cases hn : (pop2 st).k = 2 ∨ (pop1 st).k = 2
    · exact do8_text h key v hk hp hl hw hm hn
    · exact do8_ok h key v hk hp hl hw hm hn
  · by_cases hn : (pop2 st).k = 2 ∨ (pop1 st).k = 2
    · exact do9_text h key v hk hp hl hw hm hn
    · exact do9_ok h key v hk hp hl hw hm hn
  · by_cases hn : (pop2 st).k = 2 ∨ (pop1 st).k = 2
    · exact do10_text h key v hk hp hl hw hm hn
    · exact do10_ok h key v hk hp hl hw hm hn
  · exact do11 h key v hk hp hl hw hm
  · exact do12 h key v hk hp hl hw hm
  · by_cases ht : truthV (pop1 st) = true
    · exact do13_ok h key v hk hp hl hw hm ht
    · exact do13_no h key v hk hp hl hw hm ht
  · exact do14 h key v hk hp hl hw hm
  · exact do15 h key v hk hp hl hw hm
end
end Go.Proofs.YtbgccaconhmbaaaGreatDoor
namespace Go.Proofs.YtbgccaconhmbaaaGreatDoor
open Go.ChangeShapes Go.WideShapes Go.ChangeAt Go.RowKit Go.Deep
def snC (s : SeenV) : List Value := [.string ⟨s.key.toArray⟩, .int .i64 s.v.k, .float .f64 s.v.x, .string ⟨s.v.s.toArray⟩, .int .i64 s.a, .int .i64 s.b, .int .i64 s.c]
theorem snC_len (s : SeenV) : (snC s).length = 7 := rfl
abbrev snagg (s : SeenV) : Value := .agg #[.string ⟨s.key.toArray⟩, .int .i64 s.v.k, .float .f64 s.v.x, .string ⟨s.v.s.toArray⟩, .int .i64 s.a, .int .i64 s.b, .int .i64 s.c]
abbrev snobj (s : SeenV) : Obj := .cells #[.string ⟨s.key.toArray⟩, .int .i64 s.v.k, .float .f64 s.v.x, .string ⟨s.v.s.toArray⟩, .int .i64 s.a, .int .i64 s.b, .int .i64 s.c] 52
abbrev HasN (P : Nat → Prop) (w : World) (v : Value) (l : List SeenV) : Prop := HasG snC 7 P w v l
structure NAt (w : World) (b o : Nat) (r : SeenV) : Prop where
  c0 : w.cell? ⟨b, o, none⟩ = some (.string ⟨r.key.toArray⟩)
  c1 : w.cell? ⟨b, o + 1, none⟩ = some (.int .i64 r.v.k)
  c2 : w.cell? ⟨b, o + 2, none⟩ = some (.float .f64 r.v.x)
  c3 : w.cell? ⟨b, o + 3, none⟩ = some (.string ⟨r.v.s.toArray⟩)
  c4 : w.cell? ⟨b, o + 4, none⟩ = some (.int .i64 r.a)
  c5 : w.cell? ⟨b, o + 5, none⟩ = some (.int .i64 r.b)
  c6 : w.cell? ⟨b, o + 6, none⟩ = some (.int .i64 r.c)
theorem Lies.sn {w : World} {b o : Nat} {r : SeenV} (h : Lies snC w b o r) : NAt w b o r := ⟨h 0 _ rfl, h 1 _ rfl, h 2 _ rfl, h 3 _ rfl, h 4 _ rfl, h 5 _ rfl, h 6 _ rfl⟩
def idxI (l : List SeenV) (k : Nm) : Int := match l.findIdx? (·.key == k) with | some i => (i : Int) | none => -1
theorem idx_at {l : List SeenV} {k : Nm} {i : Nat} (h : i < l.length) (hn : ∀ s ∈ l.take i, s.key ≠ k) (hy : l[i].key = k) : idxI l k = (i : Int) := by
  have e : l.findIdx? (·.key == k) = some i := by
    rw [List.findIdx?_eq_some_iff_getElem]
    refine ⟨h, by simpa using hy, fun j hj => ?_⟩
    have : l[j] ∈ l.take i := List.mem_take_iff_getElem.2 ⟨j, by omega, rfl⟩
    simpa using hn _ this
  unfold idxI
  rw [e]
theorem idx_not {l : List SeenV} {k : Nm} (hn : ∀ s ∈ l, s.key ≠ k) : idxI l k = -1 := by
  have e : l.findIdx? (·.key == k) = none := by
    rw [List.findIdx?_eq_none_iff]
    intro s hs
    simpa using hn s hs
  unfold idxI
  rw [e]
theorem seen_idx {l : List SeenV} {k : Nm} : (idxI l k = -1 ∧ seenO l k = none) ∨ ∃ i, ∃ h : i < l.length, idxI l k = (i : Int) ∧ seenO l k = some l[i].v := by
  by_cases h : ∃ s ∈ l, s.key = k
  · right
    cases e : l.findIdx? (·.key == k) with
    | none =>
      rw [List.findIdx?_eq_none_iff] at e
      obtain ⟨s, hs, hk⟩ := h
      have := e s hs
      simp [hk] at this
    | some i =>
      have e2 := e
      rw [List.findIdx?_eq_some_iff_getElem] at e
      obtain ⟨hi, hy, hn⟩ := e
      refine ⟨i, hi, by unfold idxI; rw [e2], ?_⟩
      have : l.find? (fun s => s.key == k) = some l[i] := by
        rw [List.find?_eq_some_iff_getElem]
        exact ⟨hy, i, hi, rfl, fun j hj => by simpa using hn j hj⟩
      unfold seenO
      rw [this]
      rfl
  · left
    have hn : ∀ s ∈ l, s.key ≠ k := fun s hs e => h ⟨s, hs, e⟩
    refine ⟨idx_not hn, ?_⟩
    unfold seenO
    rw [List.find?_eq_none.2 fun s hs => by simpa using hn s hs]
    rfl
theorem same_key_any (s : SeenV) (key : Nm) (kb : Nat) (w : World) (hk : kb < w.heap.size) (hc : w.cell? ⟨kb, 0, none⟩ = some (nmv key)) : Calls Tryz.prog 72 #[snagg s, .pointer (some ⟨kb, 0, none⟩)] w fun e w' => e = .returned (.bool (s.key == key)) ∧ Below w.heap.size w w' := by
  have hc2 : ∀ o, (w.alloc o).cell? ⟨kb, 0, none⟩ = some (nmv key) := fun o => ((below1 w o).cell (p := ⟨kb, 0, none⟩) hk).trans hc
  clear hc
  obtain ⟨k, ⟨vk, vx, vs⟩, a, b, c⟩ := s
  have hc := hc2 (snobj ⟨k, ⟨vk, vx, vs⟩, a, b, c⟩)
  clear hc2
  go_enter Tryz.func72, Tryz.ntmps72
  go_wp2
  go_ret
  exact ⟨rfl, below1 _ _⟩
theorem take_snocN {l : List SeenV} {k : Nat} (h : k < l.length) : l.take (k + 1) = l.take k ++ [l[k]] := by
  rw [List.take_add_one, List.getElem?_eq_getElem h]; rfl
set_option maxRecDepth 100000 in
set_option maxHeartbeats 4000000 in
theorem index_some (l : List SeenV) (key : Nm) (n b o cap : Nat) (hn : l.length = n) (hm : n ≤ 1000000) (w : World) (hb : 0 < n → b < w.heap.size) (hc : ∀ i, (h : i < l.length) → Lies snC w b (o + i * 7) l[i]) (ao : Option Addr) (ha : 0 < n → ao = some ⟨b, o, none⟩)
    (kb : Nat) (hkb : kb < w.heap.size) (hkc : w.cell? ⟨kb, 0, none⟩ = some (nmv key)) :
    Calls Tryz.prog 71 #[.slice ao n cap, .func (.func 72) #[] #[.pointer (some ⟨kb, 0, none⟩)]] w fun e w' => e = .returned (.int .i64 (idxI l key)) ∧ Below w.heap.size w w' := by
  have hst := run_stf
  have HC := Lib.hid hc
  have HB := Lib.hid hb
  have HN := Lib.hid hn
  have HA := Lib.hid ha
  have HKB := Lib.hid hkb
  have HKC := Lib.hid hkc
  have HW := Lib.hid (Below.refl w.heap.size w)
  clear hc hb hn ha hkb hkc
  go_enter Tryz.func71, Tryz.ntmps71
  go_wp2
  go_loopw [8] (fun vi wr => ∃ (k : Nat), vi = .int .i64 (k : Int) ∧ k ≤ n ∧ Hid (∀ s ∈ l.take k, s.key ≠ key) ∧ Hid (Below w.heap.size w wr)) (fun vi _ => n - (RowKit.intOf vi).toNat)
  case atStart => exact ⟨0, rfl, Nat.zero_le _, Lib.hid (fun s hs => by cases hs), HW⟩
  case round =>
    obtain ⟨k, rfl, hk, HF, HW1⟩ := hrel
    by_cases hlt : k < n
    · have hk' : k < l.length := by rw [HN.out]; exact hlt
      obtain rfl := HA.out (by omega)
      have HG := Lib.hid ((HC.out k hk').below HW1.out (HB.out (by omega))).sn
      have HY := Lib.hid (fun h => idx_at hk' HF.out h)
      have HT := Lib.hid (take_snocN hk')
      have HS := fun r => Lib.hid (same_key_any r key kb wr (Nat.lt_of_lt_of_le HKB.out HW1.out.size) ((HW1.out.cell (p := ⟨kb, 0, none⟩) HKB.out).trans HKC.out))
      have HNX : Hid (l[k].key ≠ key → ∀ s ∈ l.take (k + 1), s.key ≠ key) := Lib.hid (fun h s hs => by
        rw [HT.out] at hs
        rcases List.mem_append.1 hs with h1 | h1
        · exact HF.out s h1
        · rw [List.mem_singleton.1 h1]; exact h)
      clear HT
      generalize l[k] = r at *
      have HS := Lib.hid (HS r).out
      have r0 := HG.out.c0; have r1 := HG.out.c1; have r2 := HG.out.c2; have r3 := HG.out.c3; have r4 := HG.out.c4; have r5 := HG.out.c5; have r6 := HG.out.c6
      obtain ⟨rk, ⟨vk, vx, vs⟩, ra, rb, rc⟩ := r
      simp only at HS HY HNX
      cases hs : rk == key
      · have HNX := Lib.hid (HNX.out (by simpa using hs))
        rw [hs] at HS
        clear HY
        go_wp2_with (go_at_call 72; ((with_reducible refine HS.out.mono ?_); rintro e w2 ⟨rfl, h2⟩; have HW2 := Lib.hid (HW1.out.trans (h2.mono HW1.out.size)); clear h2))
        go_roundw
        case rel => exact ⟨k + 1, by go_num, by omega, HNX, HW2⟩
        case measure => simp [RowKit.intOf]; omega
      · have HY := Lib.hid (HY.out (by simpa using hs))
        rw [hs] at HS
        clear HNX
        go_wp2_with (go_at_call 72; ((with_reducible refine HS.out.mono ?_); rintro e w2 ⟨rfl, h2⟩; have HW2 := Lib.hid (HW1.out.trans (h2.mono HW1.out.size)); clear h2))
        go_ret
        exact ⟨by rw [HY.out]; rfl, HW2.out⟩
    · obtain rfl : k = n := by omega
      have HE := Lib.hid (idx_not (l := l) (k := key) (by have := HF.out; rwa [List.take_of_length_le (by rw [HN.out]; exact Nat.le_refl _)] at this))
      clear HF
      go_wp2
      go_ret
      exact ⟨by rw [HE.out]; rfl, HW1.out⟩
theorem index_any {P : Nat → Prop} {w : World} {v : Value} {l : List SeenV} (hv : HasN P w v l) (hm : l.length ≤ 1000000) (key : Nm) (kb : Nat) (hkb : kb < w.heap.size) (hkc : w.cell? ⟨kb, 0, none⟩ = some (nmv key)) :
    Calls Tryz.prog 71 #[v, .func (.func 72) #[] #[.pointer (some ⟨kb, 0, none⟩)]] w fun e w' => e = .returned (.int .i64 (idxI l key)) ∧ Below w.heap.size w w' := by
  obtain ⟨ao, cap, rfl, h1, h2, h3, h4⟩ := hv
  rcases h4 with rfl | ⟨b, o, rfl, _, h6, h7⟩
  · exact index_some [] key 0 0 0 cap rfl (by omega) w (fun h => absurd h (by omega)) (fun i hi => absurd hi (Nat.not_lt_zero _)) ao (fun h => absurd h (by omega)) kb hkb hkc
  · exact index_some l key _ b o cap rfl hm w (fun _ => h6) h7 _ (fun _ => rfl) kb hkb hkc
end Go.Proofs.YtbgccaconhmbaaaGreatDoor
namespace Go.Proofs.YtbgccaconhmbaaaGreatDoor
open Go.ChangeShapes Go.WideShapes Go.ChangeAt Go.RowKit Go.Deep
def seenL (l : List SeenV) (ks : List Nm) : Ent DV := ks.foldl (fun L k => put L k (seenF l k)) []
theorem seenL_snoc (l : List SeenV) (a : List Nm) (k : Nm) : seenL l (a ++ [k]) = put (seenL l a) k (seenF l k) := by unfold seenL; rw [List.foldl_append]; rfl
theorem length_put {f : Ent DV} (k : Nm) (v : DV) : (put f k v).length ≤ f.length + 1 := by
  unfold put
  rw [length_ins]
  have : (del f k).length ≤ f.length := List.length_filter_le _ _
  omega
theorem seenL_gen (l : List SeenV) : ∀ (ks : List Nm) (L : Ent DV), Rising L → Rising (ks.foldl (fun L k => put L k (seenF l k)) L) ∧ (ks.foldl (fun L k => put L k (seenF l k)) L).length ≤ L.length + ks.length ∧ ∀ k, get (ks.foldl (fun L k => put L k (seenF l k)) L) k = if k ∈ ks then some (seenF l k) else get L k := by
  intro ks
  induction ks with
  | nil => exact fun L h => ⟨h, Nat.le_refl _, fun k => by simp⟩
  | cons x a ih =>
    intro L h
    obtain ⟨h1, h2, h3⟩ := ih (put L x (seenF l x)) (h.put _ _)
    refine ⟨h1, ?_, fun k => ?_⟩
    · have := length_put (f := L) x (seenF l x)
      rw [List.foldl_cons, List.length_cons]
      omega
    · rw [List.foldl_cons, h3]
      by_cases hm : k ∈ a
      · rw [if_pos hm, if_pos (by simp [hm])]
      · rw [if_neg hm]
        by_cases e : k = x
        · subst e
          rw [get_put_same h, if_pos (by simp)]
        · rw [get_put_other h _ e, if_neg (by simp [hm, e])]
theorem seenL_facts (l : List SeenV) (ks : List Nm) : Rising (seenL l ks) ∧ (seenL l ks).length ≤ ks.length ∧ ∀ k, get (seenL l ks) k = if k ∈ ks then some (seenF l k) else none := by
  obtain ⟨h1, h2, h3⟩ := seenL_gen l ks [] rising_nil
  exact ⟨h1, by unfold seenL; simpa using h2, h3⟩
/-- What valuesOf tells. -/
def Valued (B : Nat) (w0 : World) (l : List SeenV) (ks : List Nm) (e : Ending) (w' : World) : Prop :=
  Below B w0 w' ∧ ((saw l ks = 0 ∧ ∃ m, e = .returned (.map (some m)) ∧ B ≤ m ∧ MAt w' m (seenL l ks)) ∨ (saw l ks ≠ 0 ∧ e = .panicked (flt (saw l ks))))
theorem saw_none {l : List SeenV} {ks : List Nm} {k : Nm} (hk : k ∈ ks) (h : seenO l k = none) : saw l ks = 8 := by
  unfold saw
  rw [if_pos]
  rw [List.all_eq_false]
  exact ⟨k, hk, by rw [h]; decide⟩
theorem saw_bad {l : List SeenV} {ks : List Nm} (ha : ∀ k ∈ ks, (seenO l k).isSome = true) {k : Nm} (hk : k ∈ ks) (h : mayV (seenF l k) = false) : saw l ks = 4 := by
  unfold saw
  rw [if_neg (by rw [List.all_eq_true.2 ha]; decide), if_pos]
  rw [List.all_eq_false]
  exact ⟨k, hk, by rw [h]; decide⟩
theorem saw_good {l : List SeenV} {ks : List Nm} (ha : ∀ k ∈ ks, (seenO l k).isSome = true) (hm : ∀ k ∈ ks, mayV (seenF l k) = true) : saw l ks = 0 := by
  unfold saw
  rw [if_neg (by rw [List.all_eq_true.2 ha]; decide), if_neg (by rw [List.all_eq_true.2 hm]; decide)]
theorem take_snocK {l : List Nm} {k : Nat} (h : k < l.length) : l.take (k + 1) = l.take k ++ [l[k]] := by
  rw [List.take_add_one, List.getElem?_eq_getElem h]; rfl
theorem grown_cell {w w' : World} {q : Nat} (hg : w.grownBy w' (some q)) {p : Addr} {v : Value} (hc : w.cell? p = some v) (hp : p.block ≠ q) : w'.cell? p = some v :=
  (World.cell?_of_block (hg.block p.block (World.block_lt_of_cell? w p hc) (fun e => hp (by simpa using e)))).trans hc
theorem NAt.grown {w w' : World} {q b o : Nat} {r : SeenV} (hg : w.grownBy w' (some q)) (h : NAt w b o r) (hp : b ≠ q) : NAt w' b o r :=
  ⟨grown_cell hg h.c0 hp, grown_cell hg h.c1 hp, grown_cell hg h.c2 hp, grown_cell hg h.c3 hp, grown_cell hg h.c4 hp, grown_cell hg h.c5 hp, grown_cell hg h.c6 hp⟩
set_option maxRecDepth 100000 in
set_option maxHeartbeats 8000000 in
theorem values_some (ks : List Nm) (l : List SeenV) (n b o cap : Nat) (hn : ks.length = n) (hm : n ≤ 1000000) (hl : l.length ≤ 1000000) (hk9 : ∀ k ∈ ks, k.length ≤ maxLen) (w : World) (hb : 0 < n → b < w.heap.size) (hc : ∀ i, (h : i < ks.length) → Lies nmC w b (o + i * 1) ks[i]) (ao : Option Addr) (ha : 0 < n → ao = some ⟨b, o, none⟩)
    {vs : Value} (hv : HasN (fun k => k < w.heap.size) w vs l) :
    Calls Tryz.prog 46 #[.slice ao n cap, vs] w (Valued w.heap.size w l ks) := by
  have hst := run_stf
  have hmm := @run_makeMap Tryz.prog
  have hmf : ∀ (fn : Fn) (first cap : Array Value) (w : World), (Instr.makeFunc fn first cap).run Tryz.prog w = .ok (.func fn first cap) w := fun _ _ _ _ => rfl
  have HC := Lib.hid hc
  have HB := Lib.hid hb
  have HN := Lib.hid hn
  have HA := Lib.hid ha
  have HV := Lib.hid hv
  have HL := Lib.hid hl
  have HK9 := Lib.hid hk9
  have HW := Lib.hid (below1 w (.map #[] 0))
  have HM := Lib.hid (mat_new w)
  obtain ⟨aos, caps, rfl, hv1, hv2, hv3, hv4⟩ := hv
  have HV4 := Lib.hid hv4
  clear hc hb hn ha hl hk9 hv1 hv2 hv3 hv4
  obtain ⟨nl, hnl⟩ : ∃ nl, l.length = nl := ⟨_, rfl⟩
  rw [hnl] at HV
  rw [hnl]
  have HNL := Lib.hid hnl
  clear hnl
  go_enter Tryz.func46, Tryz.ntmps46
  go_wp2
  go_loopw [14] (fun vi wr => ∃ (k : Nat), vi = .int .i64 (k : Int) ∧ k ≤ n ∧ Hid (∀ s ∈ ks.take k, (seenO l s).isSome = true) ∧ Hid (Below w.heap.size w wr) ∧ Hid (MAt wr w.heap.size (seenL l (ks.take k)))) (fun vi _ => n - (RowKit.intOf vi).toNat)
  case atStart => exact ⟨0, rfl, Nat.zero_le _, Lib.hid (fun s hs => by cases hs), HW, HM⟩
  case round =>
    obtain ⟨k, rfl, hk, HF, HW1, HM1⟩ := hrel
    by_cases hlt : k < n
    · have hk' : k < ks.length := by rw [HN.out]; exact hlt
      obtain rfl := HA.out (by omega)
      have c0 : wr.cell? ⟨b, o + k, none⟩ = some (nmv ks[k]) := by
        have := (HC.out k hk').below HW1.out (HB.out (by omega)) 0 _ rfl
        rwa [Nat.mul_one, Nat.add_zero] at this
      have HKL := Lib.hid (HK9.out _ (List.getElem_mem hk'))
      have HKM := Lib.hid (List.getElem_mem hk')
      have HT := Lib.hid (take_snocK hk')
      have HLn := Lib.hid (seenL_facts l (ks.take k)).2.1
      have HSI := Lib.hid (seen_idx (l := l) (k := ks[k]))
      generalize ks[k] = key at *
      have HKB := Lib.hid (show (wr.alloc (.cells #[nmv key] 9)).cell? ⟨wr.heap.size, 0, none⟩ = some (nmv key) by simp [World.cell?_alloc_new])
      have HW2 := Lib.hid (HW1.out.alloc HW1.out.size (.cells #[nmv key] 9))
      have HIX := Lib.hid (index_any (P := fun k => k < w.heap.size) (w := wr.alloc (.cells #[nmv key] 9)) (HV.out.below HW2.out) HL.out key wr.heap.size (by simp) HKB.out)
      rcases HSI.out with ⟨hi, hs⟩ | ⟨i, hi, hs, hv⟩
      · rw [hi] at HIX
        have HE := Lib.hid (saw_none HKM.out hs)
        clear hi hs HSI
        go_wp2_with (go_at_call 71; ((with_reducible refine HIX.out.mono ?_); rintro e w2 ⟨rfl, h2⟩; have HW3 := Lib.hid (HW2.out.trans (h2.mono HW2.out.size)); clear h2))
        exact ⟨rfl, HW3.out, .inr ⟨by rw [HE.out]; decide, by rw [HE.out]⟩⟩
      · rw [hs] at HIX
        have HSV := Lib.hid hv
        have hi2 : i < nl := by rw [← HNL.out]; exact hi
        obtain ⟨b2, o2, rfl, hb2, hlt2, hcs⟩ := HV4.out.resolve_left (fun e => by rw [e] at hi; exact absurd hi (Nat.not_lt_zero _))
        have HS1 := Lib.hid (hcs i hi)
        have HB2 := Lib.hid hlt2
        generalize l[i] = r at *
        obtain ⟨rk, ⟨vk, vx, vs⟩, ra, rb, rc⟩ := r
        have HFV : Hid (seenF l key = ⟨vk, vx, vs⟩) := Lib.hid (by unfold seenF; rw [HSV.out]; rfl)
        have HSM : Hid ((seenO l key).isSome = true) := Lib.hid (by rw [HSV.out]; rfl)
        clear hs hv HSI hcs hlt2 hb2 HSV
        have tok := True.intro
        go_wp2_with (go_at_call 71; ((with_reducible refine HIX.out.mono ?_); rintro e w2 ⟨rfl, h2⟩; have HW3 := Lib.hid ((HW2.out.trans (h2.mono HW2.out.size)).drew); have k0 := Lib.hid (((h2.cell (p := ⟨wr.heap.size, 0, none⟩) (by simp)).trans HKB.out : w2.cell? ⟨wr.heap.size, 0, none⟩ = some (nmv key))); have HM2 := Lib.hid (((HM1.out.below (below1 wr (.cells #[nmv key] 9)) HM1.out.lt).below h2 (Nat.lt_of_lt_of_le HM1.out.lt (below1 wr _).size)).drew); clear h2 HIX))
        have HS2 := Lib.hid (HS1.out.below HW3.out HB2.out).sn
        obtain ⟨w3, hrun, hmt, hg⟩ := MAt.store HM2.out HKL.out (Nat.lt_of_le_of_lt (Nat.le_trans HLn.out (by rw [List.length_take]; exact Nat.le_trans (Nat.min_le_left _ _) (Nat.le_of_lt hlt))) (Nat.lt_of_le_of_lt hm (by decide))) ⟨vk, vx, vs⟩
        have k3 := Lib.hid (grown_cell hg k0.out (by have := HW1.out.size; have := (below1 w (.map #[] 0)).size; have := HM1.out.lt; show wr.heap.size ≠ w.heap.size; omega))
        have HS3 := Lib.hid (HS2.out.grown hg (Nat.ne_of_lt HB2.out))
        have HW4 := Lib.hid (HW3.out.grown hg HW3.out.size (fun q hq => by obtain rfl := Option.some.inj hq; exact Nat.le_refl _))
        have HMT : Hid (MAt w3 w.heap.size (seenL l (ks.take (k + 1)))) := Lib.hid (by rw [HT.out, seenL_snoc, HFV.out]; exact hmt)
        have HNX : Hid (∀ s ∈ ks.take (k + 1), (seenO l s).isSome = true) := Lib.hid (fun s hs => by
          rw [HT.out] at hs
          rcases List.mem_append.1 hs with h1 | h1
          · exact HF.out s h1
          · rw [List.mem_singleton.1 h1]; exact HSM.out)
        clear hmt hg
        refine wp_region_held (S := (fun w' => w'.cell? ⟨wr.heap.size, 0, none⟩ = some (nmv key) ∧ w'.cell? ⟨b2, o2 + i * 7 + 1, none⟩ = some (.int .i64 vk) ∧ w'.cell? ⟨b2, o2 + i * 7 + 2, none⟩ = some (.float .f64 vx) ∧ w'.cell? ⟨b2, o2 + i * 7 + 3, none⟩ = some (.string ⟨vs.toArray⟩))) (by kernel_rfl) ?_
        change wpAnyH _ _ _ _ _ _ _ _ (World.drew _)
        refine wpAnyH_take (i := 0) (v := ?va_0) rfl (by kernel_rfl) (by kernel_rfl) (by kernel_rfl) (fun _ _ _ h => h) (Or.inl ⟨by rfl, ?ya_0⟩) ⟨k0.out, HS2.out.c1, HS2.out.c2, HS2.out.c3⟩ ?ra_0
        case ya_0 => (intro W hSw; (try dsimp only at hSw); obtain ⟨a0, a1, a2, a3⟩ := hSw; first | (go_simp; done) | (go_simp; with_reducible rfl))
        try go_simp
        refine wpAnyH_take (i := 1) (v := ?va_1) rfl (by kernel_rfl) (by kernel_rfl) (by kernel_rfl) (fun _ _ _ h => h) (Or.inl ⟨by rfl, ?ya_1⟩) ⟨k0.out, HS2.out.c1, HS2.out.c2, HS2.out.c3⟩ ?ra_1
        case ya_1 => (intro W hSw; (try dsimp only at hSw); obtain ⟨a0, a1, a2, a3⟩ := hSw; first | (go_simp; done) | (go_simp; with_reducible rfl))
        try go_simp
        refine wpAnyH_take (i := 2) (v := ?va_2) rfl (by kernel_rfl) (by kernel_rfl) (by kernel_rfl) (fun _ _ _ h => h) (Or.inl ⟨by rfl, ?ya_2⟩) ⟨k0.out, HS2.out.c1, HS2.out.c2, HS2.out.c3⟩ ?ra_2
        case ya_2 => (intro W hSw; (try dsimp only at hSw); obtain ⟨a0, a1, a2, a3⟩ := hSw; first | (go_simp; done) | (go_simp; with_reducible rfl))
        try go_simp
        refine wpAnyH_take (i := 3) (v := ?va_3) rfl (by kernel_rfl) (by kernel_rfl) (by kernel_rfl) (fun _ _ _ h => h) (Or.inl ⟨by rfl, ?ya_3⟩) ⟨k0.out, HS2.out.c1, HS2.out.c2, HS2.out.c3⟩ ?ra_3
        case ya_3 => (intro W hSw; (try dsimp only at hSw); obtain ⟨a0, a1, a2, a3⟩ := hSw; first | (go_simp; done) | (go_simp; with_reducible rfl))
        try go_simp
        refine wpAnyH_take (i := 4) (v := ?va_4) rfl (by kernel_rfl) (by kernel_rfl) (by kernel_rfl) (fun _ _ _ h => h) (Or.inl ⟨by rfl, ?ya_4⟩) ⟨k0.out, HS2.out.c1, HS2.out.c2, HS2.out.c3⟩ ?ra_4
        case ya_4 => (intro W hSw; (try dsimp only at hSw); obtain ⟨a0, a1, a2, a3⟩ := hSw; first | (go_simp; done) | (go_simp; with_reducible rfl))
        try go_simp
        refine wpAnyH_take (i := 5) (v := ?va_5) rfl (by kernel_rfl) (by kernel_rfl) (by kernel_rfl) (fun _ _ _ h => h) (Or.inl ⟨by rfl, ?ya_5⟩) ⟨k0.out, HS2.out.c1, HS2.out.c2, HS2.out.c3⟩ ?ra_5
        case ya_5 => (intro W hSw; (try dsimp only at hSw); obtain ⟨a0, a1, a2, a3⟩ := hSw; first | (go_simp; done) | (go_simp; with_reducible rfl))
        try go_simp
        refine wpAnyH_take (i := 6) (v := ?va_6) rfl (by kernel_rfl) (by kernel_rfl) (by kernel_rfl) (fun _ _ _ h => h) (Or.inl ⟨by rfl, ?ya_6⟩) ⟨k0.out, HS2.out.c1, HS2.out.c2, HS2.out.c3⟩ ?ra_6
        case ya_6 => (intro W hSw; (try dsimp only at hSw); obtain ⟨a0, a1, a2, a3⟩ := hSw; first | (go_simp; done) | (go_simp; with_reducible rfl))
        try go_simp
        refine wpAnyH_ready (rs := [7]) (by kernel_rfl) (by simp) ?_
        refine AllReadyH.cons rfl (fun K hK => ?_) AllReadyH.nil
        go_simp
        refine hK.out _ _ ⟨k3.out, HS3.out.c1, HS3.out.c2, HS3.out.c3⟩ (fun _ => ?_)
        clear hK K
        try go_simp
        refine wpAnyH_done (by kernel_rfl) ?_ _
        go_wp2
        go_roundw
        case rel => exact ⟨k + 1, by go_num, by omega, HNX, HW4, HMT⟩
        case measure => simp [RowKit.intOf]; omega
    · obtain rfl : k = n := by omega
      have hall : ks.take k = ks := List.take_of_length_le (by rw [HN.out]; exact Nat.le_refl _)
      rw [hall] at HF HM1
      obtain ⟨w9, h9⟩ : ∃ w9, wr = w9 := ⟨_, rfl⟩
      rw [h9] at HW1 HM1
      rw [h9]
      clear h9 hall
      have hms := (seenL_facts l ks).2.2
      have HG := fun s (h : s ∈ ks) => Lib.hid (show get (seenL l ks) s = some (seenF l s) by rw [hms, if_pos h])
      clear hms
      generalize hLs : seenL l ks = L at *
      have HLs := Lib.hid hLs
      clear hLs
      go_wp2
      go_loopw [35] (fun vi wr => ∃ (q : Nat), vi = .int .i64 (q : Int) ∧ q ≤ k ∧ Hid (∀ s ∈ ks.take q, mayV (seenF l s) = true) ∧ Hid (Below w.heap.size w wr) ∧ Hid (MAt wr w.heap.size L)) (fun vi _ => k - (RowKit.intOf vi).toNat)
      case atStart => exact ⟨0, rfl, Nat.zero_le _, Lib.hid (fun s hs => by cases hs), HW1, HM1⟩
      case round =>
        obtain ⟨q, rfl, hq, HQ, HW2, HM2⟩ := hrel
        by_cases hlt2 : q < k
        · have hk' : q < ks.length := by rw [HN.out]; exact hlt2
          obtain rfl := HA.out (by omega)
          have c0 : wr.cell? ⟨b, o + q, none⟩ = some (nmv ks[q]) := by
            have := (HC.out q hk').below HW2.out (HB.out (by omega)) 0 _ rfl
            rwa [Nat.mul_one, Nat.add_zero] at this
          have HKL := Lib.hid (HK9.out _ (List.getElem_mem hk'))
          have HKM := Lib.hid (List.getElem_mem hk')
          have HT := Lib.hid (take_snocK hk')
          have hlk := HM2.out.look1 HKL.out
          rw [(HG _ HKM.out).out] at hlk
          simp only [Option.getD_some] at hlk
          have HMy := fun w => Lib.hid (may_any (seenF l ks[q]) w)
          have HBad := Lib.hid (fun h => saw_bad (l := l) HF.out HKM.out h)
          have HNX : Hid (mayV (seenF l ks[q]) = true → ∀ s ∈ ks.take (q + 1), mayV (seenF l s) = true) := Lib.hid (fun h s hs => by
            rw [HT.out] at hs
            rcases List.mem_append.1 hs with h1 | h1
            · exact HQ.out s h1
            · rw [List.mem_singleton.1 h1]; exact h)
          clear HT HKL HKM
          generalize seenF l ks[q] = v at *
          generalize ks[q] = key at *
          cases hv : mayV v
          · rw [hv] at HMy
            have HE := Lib.hid (HBad.out hv)
            clear hv HBad HNX
            obtain ⟨vk, vx, vs⟩ := v
            go_wp2_with (go_at_call 69; ((with_reducible refine (HMy _).out.mono ?_); rintro e w2 ⟨rfl, h2⟩; have HW3 := Lib.hid (HW2.out.trans (h2.mono HW2.out.size)); clear h2))
            exact ⟨rfl, HW3.out, .inr ⟨by rw [HE.out]; decide, by rw [HE.out]⟩⟩
          · rw [hv] at HMy
            have HNY := Lib.hid (HNX.out hv)
            clear hv HBad HNX
            obtain ⟨vk, vx, vs⟩ := v
            go_wp2_with (go_at_call 69; ((with_reducible refine (HMy _).out.mono ?_); rintro e w2 ⟨rfl, h2⟩; have HW3 := Lib.hid (HW2.out.trans (h2.mono HW2.out.size)); have HM3 := Lib.hid (HM2.out.below h2 HM2.out.lt); clear h2))
            go_roundw
            case rel => exact ⟨q + 1, by go_num, by omega, HNY, HW3, HM3⟩
            case measure => simp [RowKit.intOf]; omega
        · obtain rfl : q = k := by omega
          have HE := Lib.hid (saw_good HF.out (by have := HQ.out; rwa [List.take_of_length_le (by rw [HN.out]; exact Nat.le_refl _)] at this))
          clear HQ
          go_wp2
          go_ret
          exact ⟨HW2.out, .inl ⟨HE.out, _, rfl, Nat.le_refl _, by rw [HLs.out]; exact HM2.out⟩⟩
theorem values_any {P Q : Nat → Prop} {w : World} {vk vs : Value} {ks : List Nm} {l : List SeenV} (hk : HasS P w vk ks) (hv : HasN Q w vs l) (hm : ks.length ≤ 1000000) (hl : l.length ≤ 1000000) (hk9 : ∀ k ∈ ks, k.length ≤ maxLen) :
    Calls Tryz.prog 46 #[vk, vs] w (Valued w.heap.size w l ks) := by
  have hv' := hv.weaken (Q := fun k => k < w.heap.size) (fun b h _ => h)
  obtain ⟨ao, cap, rfl, h1, h2, h3, h4⟩ := hk
  rcases h4 with rfl | ⟨b, o, rfl, _, h6, h7⟩
  · exact values_some [] l 0 0 0 cap rfl (by omega) hl hk9 w (fun h => absurd h (by omega)) (fun i hi => absurd hi (Nat.not_lt_zero _)) ao (fun h => absurd h (by omega)) hv'
  · exact values_some ks l _ b o cap rfl hm hl hk9 w (fun _ => h6) h7 _ (fun _ => rfl) hv'
end Go.Proofs.YtbgccaconhmbaaaGreatDoor
namespace Go.Proofs.YtbgccaconhmbaaaGreatDoor
open Go.ChangeShapes Go.WideShapes Go.ChangeAt Go.RowKit Go.Deep
set_option maxRecDepth 100000 in
theorem catch_fault (p : Nat) (x y : Int) (w : World) (hc : w.cell? ⟨p, 0, none⟩ = some (.int .i64 y)) (hz : w.frozen? ⟨p, 0, none⟩ = false) (hp : p < w.heap.size) :
    CallsD Tryz.prog 45 #[.pointer (some ⟨p, 0, none⟩)] (.panicking (flt x)) w fun e u' w' =>
      e = .returned (.tuple #[]) ∧ u' = .panicking [{ v := .iface 76 (.agg #[.int .i64 x]), recovered := true }] ∧ w' = (w.setCell ⟨p, 0, none⟩ (.int .i64 x)).alloc (.cells #[.int .i64 x] 76) := by
  have hta : ∀ (x : Int) (w : World), (Instr.typeAssert (.iface 76 (.agg #[.int .i64 x])) 20 76 true).run Tryz.prog w = .ok (.tuple #[.agg #[.int .i64 x], .bool true]) w := fun _ _ => by kernel_rfl
  have hp1 : ∀ o, (w.alloc o).cell? ⟨p, 0, none⟩ = some (.int .i64 y) := fun o => ((below1 w o).cell (p := ⟨p, 0, none⟩) hp).trans hc
  have hp2 : ∀ o, (w.alloc o).frozen? ⟨p, 0, none⟩ = false := fun o => ((below1 w o).frozen (p := ⟨p, 0, none⟩) hp).trans hz
  refine callsD_of_wpS Tryz.func45 rfl fun c₀ cs hu => ?_
  apply wpS_seq
  apply wpS_region
  simp [wpOpsS, go_sem, recoverD, hu, Tryz.ntmps45, Exit.thenS]
  refine wpS_of_wp ?_
  have e : #[Value.pointer (some ⟨p, 0, none⟩)] ++ (Array.replicate 11 undef).setIfInBounds 3 (Value.iface 76 (.agg #[.int .i64 x])) = #[Value.pointer (some ⟨p, 0, none⟩), undef, undef, undef, Value.iface 76 (.agg #[.int .i64 x]), undef, undef, undef, undef, undef, undef, undef] := rfl
  rw [e]
  clear e
  go_wp2
  simp [bodyPostS, results, Tryz.results45]
set_option maxRecDepth 100000 in
theorem catch_idle (p : Nat) (w : World) :
    CallsD Tryz.prog 45 #[.pointer (some ⟨p, 0, none⟩)] .returning w fun e u' w' => e = .returned (.tuple #[]) ∧ u' = .returning ∧ w' = w := by
  refine callsD_of_wpS Tryz.func45 rfl fun c₀ cs hu => ?_
  apply wpS_seq
  apply wpS_region
  simp [wpOpsS, go_sem, recoverD, hu, Tryz.ntmps45, Exit.thenS]
  refine wpS_of_wp ?_
  have e : #[Value.pointer (some ⟨p, 0, none⟩)] ++ (Array.replicate 11 undef).setIfInBounds 3 Value.nilIface = #[Value.pointer (some ⟨p, 0, none⟩), undef, undef, undef, Value.nilIface, undef, undef, undef, undef, undef, undef, undef] := rfl
  rw [e]
  clear e
  go_wp2
  cases c₀
  simp_all [bodyPostS, results, Tryz.results45]
end Go.Proofs.YtbgccaconhmbaaaGreatDoor
namespace Go.Proofs.YtbgccaconhmbaaaGreatDoor
open Go.ChangeShapes Go.WideShapes Go.ChangeAt Go.RowKit Go.Deep
def wrC (q : Nm × DV) : List Value := [.string ⟨q.1.toArray⟩, .int .i64 q.2.k, .float .f64 q.2.x, .string ⟨q.2.s.toArray⟩]
theorem wrC_len (q : Nm × DV) : (wrC q).length = 4 := rfl
abbrev HasW (P : Nat → Prop) (w : World) (v : Value) (l : Ent DV) : Prop := HasG wrC 4 P w v l
/-- What Run leaves. -/
def Ran (w : World) (r : Ent DV × Int) (e : Ending) (w' : World) : Prop :=
  ∃ v, e = .returned (.tuple #[v, .int .i64 r.2]) ∧ Below w.heap.size w w' ∧ w'.ownsRow w.heap.size 54 4 v r.1.length (cellsG wrC r.1)
theorem own_keys {w : World} {B : Nat} {u : Value} {ks : List Nm} (h : w.ownsRow B 9 1 u ks.length (ks.map encStr)) : HasS (fun k => B ≤ k) w u ks := own_hasG nmC_len (by rw [cells_nm]; exact h)
theorem res_run {tmps : Array Value} {v : Value} {b : Nat} {x : Int} {w : World} (hv : tmps.getD 4 undef = v) (hp : tmps.getD 5 undef = .pointer (some ⟨b, 0, none⟩)) (hc : w.cell? ⟨b, 0, none⟩ = some (.int .i64 x)) :
    (results Tryz.f24 tmps).run Tryz.prog w = .ok (.tuple #[v, .int .i64 x]) w := by
  simp only [Array.getD_eq_getD_getElem?] at hp hv
  simp only [results, Tryz.results24]
  simp [Result.andThen, hp, hv, asAddr, go_sem, hc]
theorem run_unfit {P : Nat → Prop} {w : World} {vp : Value} (vs : Value) {p : List OpV} (hp : HasO P w vp p) (hS : Stp w) (hc : chkV p ≠ 0) :
    Calls Tryz.prog 24 #[vp, vs] w (Ran w ([], chkV p)) := by
  have HC := Lib.hid (check_any (hp.below (below1 w (.cells #[.int .i64 0] 28))) (hS.below (below1 w _)))
  have hb : ((chkV p) != 0) = true := by simpa using hc
  generalize chkV p = c at *
  clear hp hS hc
  go_enter_defers Tryz.func24, Tryz.ntmps24
  go_wp2_with (go_at_call 16; ((with_reducible refine HC.out.mono ?_); rintro e w1 ⟨rfl, h2⟩; have HB := Lib.hid ((below1 w (.cells #[.int .i64 0] 28)).trans (h2.mono (below1 w _).size)); have c0 : w1.cell? ⟨w.heap.size, 0, none⟩ = some (.int .i64 0) := (h2.cell (p := ⟨w.heap.size, 0, none⟩) (by simp)).trans (by simp [World.cell?_alloc_new]); have f0 : w1.frozen? ⟨w.heap.size, 0, none⟩ = false := (h2.frozen (p := ⟨w.heap.size, 0, none⟩) (by simp)).trans (World.frozen?_alloc_new _ _ _ _); clear h2))
  refine ⟨_, res_run (b := w.heap.size) (x := c) rfl rfl ?_, _, rfl, HB.out.setCell (Nat.le_refl _) _, World.ownsRow_nil _ _ _ _⟩
  exact World.cell?_setCell_same _ _ _ c0
theorem run_blind {P Q : Nat → Prop} {w : World} {vp vs : Value} {p : List OpV} {l : List SeenV} (hp : HasO P w vp p) (hs : HasN Q w vs l) (hS : Stp w) (hc : chkV p = 0) (hl : l.length ≤ 1000000) (hn : saw l (readsV p) ≠ 0) :
    Calls Tryz.prog 24 #[vp, vs] w (Ran w ([], saw l (readsV p))) := by
  have hmm := @run_makeMap Tryz.prog
  have hmf : ∀ (fn : Fn) (first cap : Array Value) (w : World), (Instr.makeFunc fn first cap).run Tryz.prog w = .ok (.func fn first cap) w := fun _ _ _ _ => rfl
  have hp40 : p.length ≤ 40 := by
    unfold chkV at hc
    by_cases h : 40 < p.length
    · rw [if_pos h] at hc; cases hc
    · omega
  have HP := Lib.hid (hp.below (below1 w (.cells #[.int .i64 0] 28)))
  have HSn := Lib.hid (hs.below (below1 w (.cells #[.int .i64 0] 28)))
  have HC := Lib.hid (check_any HP.out (hS.below (below1 w _)))
  rw [hc] at HC
  have HLK : Hid ((readsV p).length ≤ 1000000) := Lib.hid (Nat.le_trans (length_setV _) (Nat.le_trans (keysV_le _ _) (by omega)))
  have HK9 : Hid (∀ k ∈ readsV p, k.length ≤ maxLen) := Lib.hid (fun k hk => by
    obtain ⟨o, _, _, h, rfl⟩ := mem_keysV.1 (mem_setV.1 hk)
    exact Nat.le_trans (keyV_pos h).2 (by decide))
  have HL := Lib.hid hl
  have HN := Lib.hid hn
  have H40 : Hid (p.length ≤ 1000000) := Lib.hid (by omega)
  clear hp hs hS hc hl hn hp40
  go_enter_defers Tryz.func24, Tryz.ntmps24
  go_wp2_with (first
    | (go_at_call 16; ((with_reducible refine HC.out.mono ?_); rintro e w1 ⟨rfl, h2⟩; have HB0 := Lib.hid h2; have HB := Lib.hid ((below1 w (.cells #[.int .i64 0] 28)).trans (h2.mono (below1 w _).size)); have c0 : w1.cell? ⟨w.heap.size, 0, none⟩ = some (.int .i64 0) := (h2.cell (p := ⟨w.heap.size, 0, none⟩) (by simp)).trans (by simp [World.cell?_alloc_new]); have f0 : w1.frozen? ⟨w.heap.size, 0, none⟩ = false := (h2.frozen (p := ⟨w.heap.size, 0, none⟩) (by simp)).trans (World.frozen?_alloc_new _ _ _ _); have hlt : w.heap.size < w1.heap.size := Nat.lt_of_lt_of_le (Nat.lt_succ_self _) (Nat.le_trans (by simp) h2.size); have HP1 := Lib.hid (HP.out.below h2); have HSn1 := Lib.hid (HSn.out.below h2); clear h2))
    | (go_at_call 14; ((refine (reads_any HP1.out H40.out).mono ?_); rintro e w2 ⟨u, rfl, h2, h3⟩; have HB2 := Lib.hid h2; have HKS := Lib.hid (own_keys h3); clear h2 h3))
    | (go_at_call 46; ((refine (values_any HKS.out (HSn1.out.below HB2.out) HLK.out HL.out HK9.out).mono ?_); rintro e w3 ⟨h3, h4⟩; obtain ⟨_, rfl⟩ := h4.resolve_left (fun h => HN.out h.1); have HB3 := Lib.hid (HB2.out.trans (h3.mono HB2.out.size)); have HW := Lib.hid (HB.out.trans (HB3.out.mono HB.out.size)); clear h3 h4)))
  refine leaves_cons (f := 45) (args := #[.pointer (some ⟨w.heap.size, 0, none⟩)]) (by simp) (by simp [go_sem]) ?_
  have e0 : w3.cell? ⟨w.heap.size, 0, none⟩ = some (.int .i64 0) := (HB3.out.cell (p := ⟨w.heap.size, 0, none⟩) hlt).trans c0
  refine (catch_fault w.heap.size _ 0 _ e0 ((HB3.out.frozen (p := ⟨w.heap.size, 0, none⟩) hlt).trans f0) (Nat.lt_of_lt_of_le hlt HB3.out.size)).mono ?_
  rintro e u' w'' ⟨rfl, rfl, rfl⟩
  have hs3 : Below w.heap.size w (w3.setCell ⟨w.heap.size, 0, none⟩ (.int .i64 (saw l (readsV p)))) := HW.out.setCell (Nat.le_refl _) _
  refine ⟨_, res_run (b := w.heap.size) (x := saw l (readsV p)) rfl rfl ?_, _, rfl, hs3.trans ((below1 _ _).mono hs3.size), World.ownsRow_nil _ _ _ _⟩
  rw [(below1 (w3.setCell ⟨w.heap.size, 0, none⟩ (.int .i64 (saw l (readsV p)))) _).cell (p := ⟨w.heap.size, 0, none⟩) (by simpa using Nat.lt_of_lt_of_le hlt HB3.out.size)]
  exact World.cell?_setCell_same _ _ _ e0
end Go.Proofs.YtbgccaconhmbaaaGreatDoor
namespace Go.Proofs.YtbgccaconhmbaaaGreatDoor
open Go.ChangeShapes Go.WideShapes Go.ChangeAt Go.RowKit Go.Deep
theorem mch_new (w : World) {m : Nat} {L : Ent DV} (hm : MAt w m L) : Mch (fun k => k = m ∨ k = w.heap.size ∨ k = w.heap.size + 1) ((w.alloc (.map #[] 0)).alloc (.cells #[.slice none 0 0, .map (some m), .map (some w.heap.size)] 82)) (w.heap.size + 1) [] [] ⟨L, m, w.heap.size⟩ := by
  have h1 : MAt (w.alloc (.map #[] 0)) m L := hm.below (below1 w _) hm.lt
  have h2 := mat_new w
  refine ⟨.slice none 0 0, ?_, World.ownsRow_nil _ _ _ _, h1.below (below1 _ _) h1.lt, h2.below (below1 _ _) h2.lt, .inr (.inr rfl), .inl rfl, .inr (.inl rfl), fun k hk => (by cases hk), Nat.ne_of_lt hm.lt, fun k hk => ?_⟩
  · have := (MapKept.heap_alloc (w.alloc (.map #[] 0)) (.cells #[.slice none 0 0, .map (some m), .map (some w.heap.size)] 82)).1
    simpa using this
  · have := hm.lt
    simp
    omega
def wrAgg (q : Nm × DV) : Value := .agg #[.string ⟨q.1.toArray⟩, .int .i64 q.2.k, .float .f64 q.2.x, .string ⟨q.2.s.toArray⟩]
theorem info_wr : (Tryz.prog.info? 54).map (fun i => (i.zero, i.size, i.bytes)) = some (some (wrAgg ([], DV.none)), 4, 48) := by kernel_rfl
theorem under_wrs : Tryz.prog.underlying 35 = some (.slice 54) := by kernel_rfl
theorem one_wr (q : Nm × DV) : ∀ u ∈ wrC q, u.oneCell' = true := by
  intro u hu
  simp [wrC] at hu
  rcases hu with rfl | rfl | rfl | rfl <;> rfl
theorem cells_wr (w : World) (q : Nm × DV) (n : Nat) (hn : n = w.heap.size) : ∀ j u, (wrC q)[j]? = some u → (w.alloc (.cells #[.string ⟨q.1.toArray⟩, .int .i64 q.2.k, .float .f64 q.2.x, .string ⟨q.2.s.toArray⟩] 54)).cell? ((⟨n, 0, none⟩ : Addr).add j) = some u := by
  subst hn
  intro j u hu
  rw [Addr.add_lit]
  match j, hu with
  | 0, hu => obtain rfl := Option.some.inj hu; simp [World.cell?_alloc_new]
  | 1, hu => obtain rfl := Option.some.inj hu; simp [World.cell?_alloc_new]
  | 2, hu => obtain rfl := Option.some.inj hu; simp [World.cell?_alloc_new]
  | 3, hu => obtain rfl := Option.some.inj hu; simp [World.cell?_alloc_new]
  | j + 4, hu => cases hu
theorem take_snocW {l : Ent DV} {k : Nat} (h : k < l.length) : l.take (k + 1) = l.take k ++ [l[k]] := by
  rw [List.take_add_one, List.getElem?_eq_getElem h]; rfl
/-- All that Run's rounds keep to. -/
structure Go1 (p : List OpV) (f : Nm → DV) (R : Out) (k : Nat) (st : List DV) (W : Ent DV) : Prop where
  chk : chkL st.length (p.drop k) = 0
  run : runL f (p.drop k) st W = R
  few : st.length ≤ 16
  len : W.length ≤ k
  wfs : ∀ v ∈ st, v.wf
  wfw : ∀ q ∈ W, q.2.wf
  ris : Rising W
theorem Go1.start {p : List OpV} {f : Nm → DV} (hc : chkL 0 p = 0) : Go1 p f (runL f p [] []) 0 [] [] := ⟨hc, rfl, by decide, Nat.le_refl _, (fun _ h => by cases h), (fun _ h => by cases h), rising_nil⟩
theorem Go1.bad {p : List OpV} {f : Nm → DV} {R : Out} {k : Nat} {st : List DV} {W : Ent DV} (h : Go1 p f R k st W) (hk : k < p.length) : badV st.length p[k] = 0 := by
  have := h.chk
  rw [List.drop_eq_getElem_cons hk] at this
  exact (chkL_cons this).1
theorem Go1.no {p : List OpV} {f : Nm → DV} {R : Out} {k : Nat} {st : List DV} {W : Ent DV} (h : Go1 p f R k st W) (hk : k < p.length) {x : Int} (hs : stepV f st W p[k] = .no x) : R = .no x := by
  have := h.run
  rw [List.drop_eq_getElem_cons hk] at this
  unfold runL at this
  rw [hs] at this
  exact this.symm
theorem Go1.go {p : List OpV} {f : Nm → DV} {R : Out} {k : Nat} {st : List DV} {W : Ent DV} (h : Go1 p f R k st W) (hk : k < p.length) (hw : ∀ o ∈ p, o.v.wf) (hf : ∀ k, (f k).wf) {st' : List DV} {W' : Ent DV} (hs : stepV f st W p[k] = .go st' W') : Go1 p f R (k + 1) st' W' := by
  have hb := h.bad hk
  obtain ⟨g1, g2, _⟩ := step_go hb hs
  have hch := h.chk
  rw [List.drop_eq_getElem_cons hk] at hch
  obtain ⟨a1, a2⟩ := step_all (Q := DV.wf) none_wf (fun x hx => one_wf hx) hb (fun v hv => (h.wfs v hv).2.1) h.wfs h.wfw (hw _ (List.getElem_mem hk)) (fun _ => hf _) hs
  have hr := h.run
  rw [List.drop_eq_getElem_cons hk] at hr
  unfold runL at hr
  rw [hs] at hr
  refine ⟨by rw [g1]; exact (chkL_cons hch).2, hr, by rw [g1]; exact (badV_zero hb).2.2.2, ?_, a1, a2, ?_⟩
  · have := h.len
    rcases g2 with ⟨_, rfl⟩ | ⟨_, _, v, rfl, _⟩
    · omega
    · have := length_put (f := W) p[k].key v; omega
  · rcases g2 with ⟨_, rfl⟩ | ⟨_, _, v, rfl, _⟩
    · exact h.ris
    · exact h.ris.put _ _
theorem names_at {W : Ent DV} {q : Nat} (h : q < (names W).length) (h' : q < W.length) : (names W)[q]'h = (W[q]'h').1 := List.getElem_map (l := W) (·.1)
theorem look_wf {l : List SeenV} (hw : ∀ s ∈ l, s.wf) (ks : List Nm) (k : Nm) : ((get (seenL l ks) k).getD DV.none).wf := by
  rw [(seenL_facts l ks).2.2]
  by_cases h : k ∈ ks
  · rw [if_pos h]
    show (seenF l k).wf
    unfold seenF seenO
    cases e : l.find? fun s => s.key == k with
    | none => exact none_wf
    | some s => exact (hw s (List.mem_of_find?_eq_some e)).2.1
  · rw [if_neg h]; exact none_wf
set_option maxRecDepth 100000 in
set_option maxHeartbeats 16000000 in
theorem run_seen {P Q : Nat → Prop} {w : World} {vp vs : Value} {p : List OpV} {l : List SeenV} (hp : HasO P w vp p) (hs : HasN Q w vs l) (hS : Stp w) (hc : chkV p = 0) (hl : l.length ≤ 1000000) (hn : saw l (readsV p) = 0) (hwp : ∀ o ∈ p, o.v.wf) (hws : ∀ s ∈ l, s.wf) :
    Calls Tryz.prog 24 #[vp, vs] w (Ran w (runV p l)) := by
  have hst := run_stf
  have hmm := @run_makeMap Tryz.prog
  have hmf : ∀ (fn : Fn) (first cap : Array Value) (w : World), (Instr.makeFunc fn first cap).run Tryz.prog w = .ok (.func fn first cap) w := fun _ _ _ _ => rfl
  have hp40 : p.length ≤ 40 := by
    unfold chkV at hc
    by_cases h : 40 < p.length
    · rw [if_pos h] at hc; cases hc
    · omega
  have hc0 : chkL 0 p = 0 := by
    unfold chkV at hc
    rw [if_neg (by omega)] at hc
    by_cases h : chkL 0 p = 0
    · exact h
    · rw [if_neg h] at hc; exact hc
  have hR : runV p l = outV (runL (fun k => (get (seenL l (readsV p)) k).getD DV.none) p [] []) := by
    unfold runV
    rw [if_pos hc, if_pos hn, runL_congr (g := fun k => (get (seenL l (readsV p)) k).getD DV.none)]
    intro o ho h1
    show _ = (get (seenL l (readsV p)) o.key).getD DV.none
    rw [(seenL_facts l (readsV p)).2.2, if_pos (mem_reads hc0 ho h1)]
    rfl
  have HF := Lib.hid (look_wf hws (readsV p))
  have HG0 := Lib.hid (Go1.start (f := fun k => (get (seenL l (readsV p)) k).getD DV.none) hc0)
  have HNM := Lib.hid (fun st W (h : runL (fun k => (get (seenL l (readsV p)) k).getD DV.none) p [] [] = .go st W) => (run_all (Q := DV.wf) (p := p) (st := []) (wr := []) none_wf (fun x hx => one_wf hx) hc0 (fun v h => (by cases h)) (fun q h => (by cases h)) (fun o ho => ⟨(hwp o ho).2.1, hwp o ho⟩) (fun o _ _ => ⟨(look_wf hws (readsV p) o.key).2.1, look_wf hws (readsV p) o.key⟩) rising_nil h).2.2)
  rw [hR]
  clear hR
  have HP := Lib.hid (hp.below (below1 w (.cells #[.int .i64 0] 28)))
  have HSn := Lib.hid (hs.below (below1 w (.cells #[.int .i64 0] 28)))
  have HC := Lib.hid (check_any HP.out (hS.below (below1 w _)))
  rw [hc] at HC
  have HLK : Hid ((readsV p).length ≤ 1000000) := Lib.hid (Nat.le_trans (length_setV _) (Nat.le_trans (keysV_le _ _) (by omega)))
  have HK9 : Hid (∀ k ∈ readsV p, k.length ≤ maxLen) := Lib.hid (fun k hk => by
    obtain ⟨o, _, _, h, rfl⟩ := mem_keysV.1 (mem_setV.1 hk)
    exact Nat.le_trans (keyV_pos h).2 (by decide))
  have HL := Lib.hid hl
  have HN := Lib.hid hn
  have H40 : Hid (p.length ≤ 1000000) := Lib.hid (by omega)
  have H41 := Lib.hid hp40
  have HWP := Lib.hid hwp
  obtain ⟨aop, cpp, rfl, hv1, hv2, hv3, hv4⟩ := hp
  have HV4 : Hid (p = [] ∨ ∃ b o, aop = some ⟨b, o, none⟩ ∧ b < w.heap.size ∧ ∀ i, (h : i < p.length) → Lies opC w b (o + i * 5) p[i]) := Lib.hid (by
    rcases hv4 with h | ⟨b, o, h1, _, h2, h3⟩
    · exact .inl h
    · exact .inr ⟨b, o, h1, h2, h3⟩)
  clear hs hS hc hl hn hp40 hwp hws hc0 hv1 hv2 hv3 hv4
  obtain ⟨n, hpn⟩ : ∃ n, p.length = n := ⟨_, rfl⟩
  rw [hpn] at HP HC
  rw [hpn]
  have HPN := Lib.hid hpn
  clear hpn
  obtain ⟨L, hL⟩ : ∃ L, seenL l (readsV p) = L := ⟨_, rfl⟩
  rw [hL] at HG0 HNM HF
  rw [hL]
  have HLs := Lib.hid hL
  clear hL
  obtain ⟨R, hR⟩ : ∃ R, runL (fun k => (get L k).getD DV.none) p [] [] = R := ⟨_, rfl⟩
  rw [hR] at HG0 HNM
  rw [hR]
  clear hR
  go_enter_defers Tryz.func24, Tryz.ntmps24
  go_wp2_with (first
    | (go_at_call 16; ((with_reducible refine HC.out.mono ?_); rintro e w1 ⟨rfl, h2⟩; have HB := Lib.hid ((below1 w (.cells #[.int .i64 0] 28)).trans (h2.mono (below1 w _).size)); have c0 : Hid (w1.cell? ⟨w.heap.size, 0, none⟩ = some (.int .i64 0)) := Lib.hid ((h2.cell (p := ⟨w.heap.size, 0, none⟩) (by simp)).trans (by simp [World.cell?_alloc_new])); have f0 : Hid (w1.frozen? ⟨w.heap.size, 0, none⟩ = false) := Lib.hid ((h2.frozen (p := ⟨w.heap.size, 0, none⟩) (by simp)).trans (World.frozen?_alloc_new _ _ _ _)); have hlt : w.heap.size < w1.heap.size := Nat.lt_of_lt_of_le (Nat.lt_succ_self _) (Nat.le_trans (by simp) h2.size); have HP1 := Lib.hid (HP.out.below h2); have HSn1 := Lib.hid (HSn.out.below h2); clear h2 HP HSn))
    | (go_at_call 14; ((refine (reads_any HP1.out H40.out).mono ?_); rintro e w2 ⟨u, rfl, h2, h3⟩; have HB2 := Lib.hid h2; have HKS := Lib.hid (own_keys h3); clear h2 h3))
    | (go_at_call 46; ((refine (values_any HKS.out (HSn1.out.below HB2.out) HLK.out HL.out HK9.out).mono ?_); rintro e w3 ⟨h3, h4⟩; obtain ⟨_, m, rfl, hm2, hm⟩ := h4.resolve_right (fun h => h.1 HN.out); have HB3 := Lib.hid (HB2.out.trans (h3.mono HB2.out.size)); have HM3 := Lib.hid (Nat.le_trans HB2.out.size hm2); have HMa := Lib.hid (mch_new w3 hm); clear h3 h4 hm hm2)))
  have hW0 := Lib.hid (HB3.out.trans ((below2 w3 (.map #[] 0) (.cells #[.slice none 0 0, .map (some m), .map (some w3.heap.size)] 82)).mono HB3.out.size))
  have hC0 : Hid (∀ k, (k = m ∨ k = w3.heap.size ∨ k = w3.heap.size + 1) → w1.heap.size ≤ k) := Lib.hid (fun k hk => by
    have h1 := HM3.out
    have h2 := HB3.out.size
    rcases hk with rfl | rfl | rfl <;> omega)
  rw [HLs.out] at HMa
  obtain ⟨W0, e0⟩ : ∃ W0, ((w3.alloc (.map #[] 0)).alloc (.cells #[.slice none 0 0, .map (some m), .map (some w3.heap.size)] 82)) = W0 := ⟨_, rfl⟩
  rw [e0] at HMa hW0
  rw [e0]
  obtain ⟨C0, e1⟩ : ∃ C0 : Nat → Prop, (fun k => k = m ∨ k = w3.heap.size ∨ k = w3.heap.size + 1) = C0 := ⟨_, rfl⟩
  rw [e1] at HMa
  have hC0 : Hid (∀ k, C0 k → w1.heap.size ≤ k) := Lib.hid (e1 ▸ hC0.out)
  obtain ⟨bm, e2⟩ : ∃ bm, w3.heap.size + 1 = bm := ⟨_, rfl⟩
  rw [e2] at HMa
  rw [e2]
  obtain ⟨z, e3⟩ : ∃ z : Mm, (⟨L, m, w3.heap.size⟩ : Mm) = z := ⟨_, rfl⟩
  rw [e3] at HMa
  have hz : Hid (L = z.sn) := Lib.hid (by rw [← e3])
  rw [hz.out] at HG0 HF
  clear e0 e1 e2 e3
  have hn40 : n ≤ 40 := by rw [← HPN.out]; exact H41.out
  go_loopw [27] (fun vi wr => ∃ (k : Nat) (C : Nat → Prop) (st : List DV) (W : Ent DV), vi = .int .i64 (k : Int) ∧ k ≤ n ∧ Hid (Mch C wr bm st W z) ∧ Hid (Way C0 W0 C wr) ∧ Hid (Go1 p (fun k => (get z.sn k).getD DV.none) R k st W)) (fun vi _ => n - (RowKit.intOf vi).toNat)
  case atStart => exact ⟨0, C0, [], [], rfl, Nat.zero_le _, HMa, Lib.hid (Way.refl _ _), HG0⟩
  case round =>
    obtain ⟨k, C, st, W, rfl, hk, HM, HWY, HG⟩ := hrel
    have HD := Lib.hid (hW0.out.trans (HWY.out.tn.below hW0.out.size hC0.out))
    by_cases hlt9 : k < n
    · have hk' : k < p.length := by rw [HPN.out]; exact hlt9
      obtain ⟨b, o, rfl, hb, hcs⟩ := HV4.out.resolve_left (fun e => by rw [e] at hk'; exact absurd hk' (Nat.not_lt_zero _))
      have HQ := Lib.hid ((((hcs k hk').below HB.out hb).below HD.out (Nat.lt_trans hb hlt)).op)
      have hbad := Lib.hid (HG.out.bad hk')
      have hgo := fun st' W' => Lib.hid (HG.out.go hk' HWP.out HF.out (st' := st') (W' := W'))
      have hno := fun x => Lib.hid (HG.out.no hk' (x := x))
      clear hcs hb
      generalize p[k] = r at *
      have r0 := HQ.out.c0; have r1 := HQ.out.c1; have r2 := HQ.out.c2; have r3 := HQ.out.c3; have r4 := HQ.out.c4
      have HOB := Lib.hid (obox_new wr r)
      have q0 := HOB.out.c0; have q1 := HOB.out.c1; have q2 := HOB.out.c2; have q3 := HOB.out.c3; have q4 := HOB.out.c4
      have HDo := Lib.hid (do_any (HM.out.below (below1 wr (oobj r))) r hbad.out (Nat.le_trans HG.out.few (by decide)) HG.out.wfs (Nat.lt_of_le_of_lt HG.out.len (Nat.lt_of_le_of_lt (Nat.le_trans hk (by rw [← HPN.out]; exact H41.out)) (by decide))))
      have HW1 := Lib.hid (HWY.out.below (below1 wr (oobj r)))
      clear hbad
      cases hs : stepV (fun k => (get z.sn k).getD DV.none) st W r with
      | go st' W' =>
        rw [hs] at HDo
        have HG2 := Lib.hid ((hgo st' W').out hs)
        clear hno hgo hs
        obtain ⟨c, key, vk, vx, vs⟩ := r
        go_wp2_with (go_at_call 47; ((refine HDo.out.mono ?_); rintro e w4 ⟨rfl, C', hm, hw⟩; have HM4 := Lib.hid hm; have HW4 := Lib.hid (HW1.out.trans hw); clear hm hw))
        go_roundw
        case rel => exact ⟨k + 1, C', st', W', by go_num, by omega, HM4, HW4, HG2⟩
        case measure => simp [RowKit.intOf]; omega
      | no x =>
        rw [hs] at HDo
        have HX := Lib.hid ((hno x).out hs)
        clear hno hgo hs
        obtain ⟨c, key, vk, vx, vs⟩ := r
        go_wp2_with (go_at_call 47; ((refine HDo.out.mono ?_); rintro e w4 ⟨rfl, C', hw⟩; have HW4 := Lib.hid (HW1.out.trans hw); clear hw))
        rw [HX.out]
        have HD4 := hW0.out.trans (HW4.out.tn.below hW0.out.size hC0.out)
        have HW := HB.out.trans (HD4.mono HB.out.size)
        refine leaves_cons (f := 45) (args := #[.pointer (some ⟨w.heap.size, 0, none⟩)]) (by simp) (by simp [go_sem]) ?_
        have e0 : w4.cell? ⟨w.heap.size, 0, none⟩ = some (.int .i64 0) := (HD4.cell (p := ⟨w.heap.size, 0, none⟩) hlt).trans c0.out
        refine (catch_fault w.heap.size _ 0 _ e0 ((HD4.frozen (p := ⟨w.heap.size, 0, none⟩) hlt).trans f0.out) (Nat.lt_of_lt_of_le hlt HD4.size)).mono ?_
        rintro e u' w'' ⟨rfl, rfl, rfl⟩
        have hs3 : Below w.heap.size w (w4.setCell ⟨w.heap.size, 0, none⟩ (.int .i64 x)) := HW.setCell (Nat.le_refl _) _
        refine ⟨_, res_run (b := w.heap.size) (x := x) rfl rfl ?_, _, rfl, hs3.trans ((below1 _ _).mono hs3.size), World.ownsRow_nil _ _ _ _⟩
        rw [(below1 (w4.setCell ⟨w.heap.size, 0, none⟩ (.int .i64 x)) _).cell (p := ⟨w.heap.size, 0, none⟩) (by simpa using Nat.lt_of_lt_of_le hlt HD4.size)]
        exact World.cell?_setCell_same _ _ _ e0
    · obtain rfl : k = n := by omega
      have hRg : R = .go st W := by
        have := HG.out.run
        rw [List.drop_of_length_le (by rw [HPN.out]; exact Nat.le_refl _)] at this
        exact this.symm
      obtain ⟨hris, hnm, _⟩ := HNM.out st W hRg
      have HNW : Hid (namesV p = names W) := Lib.hid (by rw [hnm]; rfl)
      have HRi := Lib.hid hris
      have HRg := Lib.hid hRg
      have HLW : Hid (W.length ≤ 40) := Lib.hid (by have := HG.out.len; have := H41.out; have := HPN.out; omega)
      have HKW : Hid (∀ q ∈ W, q.1.length ≤ maxLen) := Lib.hid (fun q hq => by
        have : q.1 ∈ namesV p := by rw [HNW.out]; exact List.mem_map.2 ⟨q, hq, rfl⟩
        obtain ⟨o, _, _, h, e⟩ := mem_keysV.1 (mem_setV.1 this)
        rw [← e]
        exact Nat.le_trans (keyV_pos h).2 (by decide))
      clear hRg hris hnm HNM
      have HNa := Lib.hid (names_any (w := wr) (HP1.out.below HD.out) H40.out)
      rw [HNW.out] at HNa
      have hlen : (names W).length = W.length := length_names W
      rw [hlen] at HNa
      clear hlen
      obtain ⟨i0, hi, hz0, hz1, hz2⟩ := info_parts info_wr
      obtain ⟨v1, hmb⟩ := HM.out
      have HMB := Lib.hid hmb
      clear hmb
      obtain ⟨w9, h9⟩ : ∃ w9, wr = w9 := ⟨_, rfl⟩
      rw [h9] at HD HMB HNa HWY
      rw [h9]
      clear h9 HM HG
      go_wp2_with (go_at_call 15; ((refine HNa.out.mono ?_); rintro e w5 ⟨u5, rfl, h5, h6⟩; have HD5 := Lib.hid (HD.out.trans (h5.mono HD.out.size)); have HMB5 := Lib.hid (HMB.out.below h5); have HK5 := Lib.hid h6; obtain ⟨a5, cp5, rfl⟩ := own_sl h6; clear h5 h6))
      have HK6 := Lib.hid (show HasS (fun k => w9.heap.size ≤ k) w5 _ (names W) from own_keys (by rw [length_names]; exact HK5.out))
      obtain ⟨N, hN⟩ : ∃ N, W.length = N := ⟨_, rfl⟩
      rw [hN] at HK5 HK6
      rw [hN]
      have HNN := Lib.hid hN
      clear hN HK5
      have HO0 := Lib.hid (World.ownsRow_nil w5 w.heap.size 54 4)
      go_loopw [4, 38] (fun vo vi wr => ∃ (q : Nat), vi = .int .i64 (q : Int) ∧ q ≤ N ∧ Hid (Below w5.heap.size w5 wr) ∧ Hid (wr.ownsRow w5.heap.size 54 4 vo q (cellsG wrC (W.take q)))) (fun _ vi _ => N - (RowKit.intOf vi).toNat)
      case atStart => exact ⟨0, rfl, Nat.zero_le _, Lib.hid (Below.refl _ _), Lib.hid (World.ownsRow_nil w5 _ 54 4)⟩
      case round =>
        obtain ⟨q, rfl, hq, HW2, HO2⟩ := hrel
        by_cases hlt2 : q < N
        · have hq' : q < W.length := by rw [HNN.out]; exact hlt2
          have hqn : q < (names W).length := by rw [length_names]; exact hq'
          have hks := HK6.out
          obtain ⟨ao', cap', e1, _, _, _, h4⟩ := hks
          injection e1 with e1 e2 e3
          subst e1 e3
          clear e2
          obtain ⟨b6, o6, rfl, _, hb6, hc6⟩ := h4.resolve_left (fun e => by rw [e] at hqn; exact absurd hqn (Nat.not_lt_zero _))
          have c0' : wr.cell? ⟨b6, o6 + q, none⟩ = some (nmv W[q].1) := by
            have := (hc6 q hqn).below HW2.out hb6 0 _ rfl
            rw [Nat.mul_one, Nat.add_zero] at this
            rw [this, names_at hqn hq']
          have HMB6 := Lib.hid (HMB5.out.below HW2.out)
          have m2 := HMB6.out.c2
          have hlk := HMB6.out.wrm.look1 (HKW.out _ (List.getElem_mem hq'))
          have hgq : get W W[q].1 = some W[q].2 := mem_get HRi.out (List.getElem_mem hq')
          rw [hgq] at hlk
          clear hgq
          simp only [Option.getD_some] at hlk
          have HT := Lib.hid (take_snocW hq')
          have HL9 := Lib.hid HLW.out
          have hq41 : q ≤ 40 := Nat.le_trans (Nat.le_of_lt hq') HLW.out
          generalize W[q] = x at *
          obtain ⟨xk, vk, vx, vs'⟩ := x
          simp only at c0' hlk
          clear h4 hc6 hqn
          go_wp2_with (at_builtin; refine wpList_append_own _ rfl (.tmp 42) (.tmp 51) 35 rfl w5.heap.size 54 i0 (wrAgg ([], DV.none)) 4 48 under_wrs hi hz0 hz1 hz2 rfl (by decide) _ _ _ rfl (HO2.out.alloc _) ⟨wr.heap.size, 0, none⟩ 1 1 (wrC (xk, ⟨vk, vx, vs'⟩)) rfl rfl (cells_wr _ (xk, ⟨vk, vx, vs'⟩) _ rfl) (one_wr _) (by unfold maxLen; omega) (by omega) (by have := HW2.out.size; simp; omega) ?_; intro v2 w2 hown' hgrow _; have HO3 := Lib.hid hown'; have HG3 := Lib.hid hgrow; clear hown' hgrow)
          go_roundw
          case rel =>
            have hx : ∃ q' : Nat, Value.int .i64 ((q + 1 : Nat) : Int) = .int .i64 (q' : Int) ∧ q' ≤ N ∧ Hid (Below w5.heap.size w5 w2) ∧ Hid (w2.ownsRow w5.heap.size 54 4 v2 q' (cellsG wrC (W.take q'))) := ⟨q + 1, rfl, by omega, Lib.hid ((HW2.out.alloc HW2.out.size _).grown HG3.out (HW2.out.alloc HW2.out.size _).size (fun q hq => (HO2.out.lt q hq).1)), by rw [HT.out, cellsG_append, cellsG_one]; exact HO3⟩
            first
              | exact hx
              | (obtain ⟨q', h1, h2⟩ := hx
                 repeat (apply Exists.intro)
                 exact ⟨⟨q', by first | exact h1 | go_num, h2⟩, rfl⟩)
          case measure => simp [RowKit.intOf]; omega
        · obtain rfl : q = N := by omega
          have HTk : Hid (W.take q = W) := Lib.hid (List.take_of_length_le (by rw [HNN.out]; exact Nat.le_refl _))
          rw [HTk.out] at HO2
          have HD6 := Lib.hid (HD5.out.trans (HW2.out.mono HD5.out.size))
          have e0 : wr.cell? ⟨w.heap.size, 0, none⟩ = some (.int .i64 0) := (HD6.out.cell (p := ⟨w.heap.size, 0, none⟩) hlt).trans c0.out
          have f0' : wr.frozen? ⟨w.heap.size, 0, none⟩ = false := (HD6.out.frozen (p := ⟨w.heap.size, 0, none⟩) hlt).trans f0.out
          clear HK6
          go_wp2
          rw [HRg.out]
          refine leaves_cons (f := 45) (args := #[.pointer (some ⟨w.heap.size, 0, none⟩)]) (by simp) (by simp [go_sem]) ?_
          refine (catch_idle w.heap.size _).mono ?_
          rintro e u' w'' ⟨rfl, rfl, rfl⟩
          have hs3 : Below w.heap.size w (wr.setCell ⟨w.heap.size, 0, none⟩ (.int .i64 0)) := (HB.out.trans (HD6.out.mono HB.out.size)).setCell (Nat.le_refl _) _
          have h5 : w.heap.size < w5.heap.size := Nat.lt_of_lt_of_le hlt HD5.out.size
          refine ⟨_, res_run (b := w.heap.size) (x := 0) rfl rfl (World.cell?_setCell_same _ _ _ e0), _, rfl, hs3, ?_⟩
          have hq0 : q = W.length := HNN.out.symm
          rw [show (outV (Out.go st W)).1 = W from rfl, ← hq0]
          refine own_tn (own_mono HO2.out (Nat.le_of_lt h5)) ((Tn.refl (fun k => k = w.heap.size) wr).setCell (p := ⟨w.heap.size, 0, none⟩) (fun _ => rfl) _) ?_
          rintro k hk rfl
          have := (HO2.out.lt _ hk).1
          omega
/-- prog.Run: it answers as the document's program does. -/
theorem run_any {P Q : Nat → Prop} {w : World} {vp vs : Value} {p : List OpV} {l : List SeenV} (hp : HasO P w vp p) (hs : HasN Q w vs l) (hS : Stp w) (hl : l.length ≤ 1000000) (hwp : ∀ o ∈ p, o.v.wf) (hws : ∀ s ∈ l, s.wf) :
    Calls Tryz.prog 24 #[vp, vs] w (Ran w (runV p l)) := by
  by_cases hc : chkV p = 0
  · by_cases hn : saw l (readsV p) = 0
    · exact run_seen hp hs hS hc hl hn hwp hws
    · have : runV p l = ([], saw l (readsV p)) := by unfold runV; rw [if_pos hc, if_neg hn]
      rw [this]
      exact run_blind hp hs hS hc hl hn
  · have : runV p l = ([], chkV p) := by unfold runV; rw [if_neg hc]
    rw [this]
    exact run_unfit vs hp hS hc
end Go.Proofs.YtbgccaconhmbaaaGreatDoor
namespace Go.Proofs.YtbgccaconhmbaaaGreatDoor
open Go.ChangeShapes Go.WideShapes Go.ChangeAt Go.RowKit Go.Deep
section
variable {H : Type} {enc : TypeId × Value → H} {w : World} {base : Nat} {held : Bool}
theorem str_len {s : ByteArray} (h : s.size ≤ maxLen) : s.data.toList.length ≤ 9223372036854775807 := by
  have e : s.data.toList.length = s.size := by rw [Array.length_toList]; rfl
  rw [e]
  unfold maxLen at h
  omega
set_option maxRecDepth 100000 in
theorem val_cells {n : Nat} {v0 v1 v2 : Value} {y : DataW H × List MemPlace} (h : DataW.trod enc Tryz.prog w base (fun _ => true) held n 48 [v0, v1, v2] = some y) :
    ∃ v : DV, v.wf ∧ v0 = .int .i64 v.k ∧ v1 = .float .f64 v.x ∧ v2 = .string ⟨v.s.toArray⟩ := by
  obtain ⟨xs, k, hk, hxy, _, hxl, hf⟩ := DataW.trod_struct Tryz.underlying48 h
  match xs, hxl with
  | [y0, y1, y2], _ =>
    have g0 := hf 0 _ rfl
    have g1 := hf 1 _ rfl
    have g2 := hf 2 _ rfl
    have q0 : Tryz.prog.cellsOf 3 = 1 := by kernel_rfl
    have q1 : Tryz.prog.cellsOf 46 = 1 := by kernel_rfl
    have q2 : Tryz.prog.cellsOf 9 = 1 := by kernel_rfl
    simp [q0, q1, q2] at g0 g1 g2
    obtain ⟨k0, f0, rfl, wf0⟩ := DataW.trod_int Tryz.underlying3 g0
    obtain ⟨k1, f1, rfl, wf1⟩ := trod_float Tryz.underlying46 g1
    obtain ⟨s2, f2, rfl, wf2⟩ := DataW.trod_string Tryz.underlying9 g2
    simp at f0 f2
    subst f0 f2
    simp [Lit.wf, IntKind.min, IntKind.max, IntKind.signed, IntKind.bits] at wf0 wf1 wf2
    exact ⟨⟨k0, k1, s2.data.toList⟩, ⟨⟨by simp only; omega, by simp only; omega⟩, by simp only; omega, str_len wf2⟩, rfl, f1, by rw [bytes_self]⟩
set_option maxRecDepth 100000 in
theorem op_cells {n b o : Nat} {cs : List Value} {y : DataW H × List MemPlace} (h1 : w.cells? base ⟨b, o, none⟩ 5 = some cs) (h : DataW.trod enc Tryz.prog w base (fun _ => true) held n 59 cs = some y) :
    ∃ r : OpV, r.wf ∧ Lies opC w b o r := by
  obtain ⟨_, hlen, hcell⟩ := World.cells?_some h1
  obtain ⟨xs, k, hk, hxy, _, hxl, hf⟩ := DataW.trod_struct Tryz.underlying59 h
  match xs, hxl, cs, hlen with
  | [y0, y1, y2], _, [v0, v1, v2, v3, v4], _ =>
    have g0 := hf 0 _ rfl
    have g1 := hf 1 _ rfl
    have g2 := hf 2 _ rfl
    have q0 : Tryz.prog.cellsOf 3 = 1 := by kernel_rfl
    have q1 : Tryz.prog.cellsOf 9 = 1 := by kernel_rfl
    have q2 : Tryz.prog.cellsOf 48 = 3 := by kernel_rfl
    simp [q0, q1, q2] at g0 g1 g2
    have e0 := hcell 0 (by omega)
    have e1 := hcell 1 (by omega)
    have e2 := hcell 2 (by omega)
    have e3 := hcell 3 (by omega)
    have e4 := hcell 4 (by omega)
    rw [Addr.add_lit] at e0 e1 e2 e3 e4
    obtain ⟨k0, f0, rfl, wf0⟩ := DataW.trod_int Tryz.underlying3 g0
    obtain ⟨s1, f1, rfl, wf1⟩ := DataW.trod_string Tryz.underlying9 g1
    obtain ⟨v, hv, rfl, rfl, rfl⟩ := val_cells g2
    simp at f0 f1
    subst f0 f1
    simp [Lit.wf, IntKind.min, IntKind.max, IntKind.signed, IntKind.bits] at wf0 wf1
    refine ⟨⟨k0, s1.data.toList, v⟩, ⟨⟨by simp only; omega, by simp only; omega⟩, str_len wf1, hv⟩, lies_op ⟨e0, ?_, e2, e3, e4⟩⟩
    show w.cell? ⟨b, o + 1, none⟩ = some (.string ⟨s1.data.toList.toArray⟩)
    rw [bytes_self]
    exact e1
set_option maxRecDepth 100000 in
theorem stamp_cells {n : Nat} {v0 v1 v2 : Value} {y : DataW H × List MemPlace} (h : DataW.trod enc Tryz.prog w base (fun _ => true) held n 50 [v0, v1, v2] = some y) :
    ∃ a b c : Int, v0 = .int .i64 a ∧ v1 = .int .i64 b ∧ v2 = .int .i64 c ∧ (-9223372036854775808 ≤ a ∧ a < 9223372036854775808) ∧ (-9223372036854775808 ≤ b ∧ b < 9223372036854775808) ∧ (-9223372036854775808 ≤ c ∧ c < 9223372036854775808) := by
  obtain ⟨xs, k, hk, hxy, _, hxl, hf⟩ := DataW.trod_struct Tryz.underlying50 h
  match xs, hxl with
  | [y0, y1, y2], _ =>
    have g0 := hf 0 _ rfl
    have g1 := hf 1 _ rfl
    have g2 := hf 2 _ rfl
    have q0 : Tryz.prog.cellsOf 3 = 1 := by kernel_rfl
    simp [q0] at g0 g1 g2
    obtain ⟨k0, f0, rfl, wf0⟩ := DataW.trod_int Tryz.underlying3 g0
    obtain ⟨k1, f1, rfl, wf1⟩ := DataW.trod_int Tryz.underlying3 g1
    obtain ⟨k2, f2, rfl, wf2⟩ := DataW.trod_int Tryz.underlying3 g2
    simp at f0 f1 f2
    subst f0 f1 f2
    simp [Lit.wf, IntKind.min, IntKind.max, IntKind.signed, IntKind.bits] at wf0 wf1 wf2
    exact ⟨k0, k1, k2, rfl, rfl, rfl, ⟨by omega, by omega⟩, ⟨by omega, by omega⟩, ⟨by omega, by omega⟩⟩
set_option maxRecDepth 100000 in
theorem sn_cells {n b o : Nat} {cs : List Value} {y : DataW H × List MemPlace} (h1 : w.cells? base ⟨b, o, none⟩ 7 = some cs) (h : DataW.trod enc Tryz.prog w base (fun _ => true) held n 52 cs = some y) :
    ∃ r : SeenV, r.wf ∧ Lies snC w b o r := by
  obtain ⟨_, hlen, hcell⟩ := World.cells?_some h1
  obtain ⟨xs, k, hk, hxy, _, hxl, hf⟩ := DataW.trod_struct Tryz.underlying52 h
  match xs, hxl, cs, hlen with
  | [y0, y1, y2], _, [v0, v1, v2, v3, v4, v5, v6], _ =>
    have g0 := hf 0 _ rfl
    have g1 := hf 1 _ rfl
    have g2 := hf 2 _ rfl
    have q1 : Tryz.prog.cellsOf 9 = 1 := by kernel_rfl
    have q2 : Tryz.prog.cellsOf 48 = 3 := by kernel_rfl
    have q3 : Tryz.prog.cellsOf 50 = 3 := by kernel_rfl
    simp [q1, q2, q3] at g0 g1 g2
    have e0 := hcell 0 (by omega)
    have e1 := hcell 1 (by omega)
    have e2 := hcell 2 (by omega)
    have e3 := hcell 3 (by omega)
    have e4 := hcell 4 (by omega)
    have e5 := hcell 5 (by omega)
    have e6 := hcell 6 (by omega)
    rw [Addr.add_lit] at e0 e1 e2 e3 e4 e5 e6
    obtain ⟨s1, f1, rfl, wf1⟩ := DataW.trod_string Tryz.underlying9 g0
    obtain ⟨v, hv, rfl, rfl, rfl⟩ := val_cells g1
    obtain ⟨a, b', c, rfl, rfl, rfl, ha, hb, hc⟩ := stamp_cells g2
    simp at f1
    subst f1
    refine ⟨⟨s1.data.toList, v, a, b', c⟩, ⟨str_len wf1, hv, ha, hb, hc⟩, fun j u hu => ?_⟩
    match j, hu with
    | 0, hu =>
      obtain rfl := Option.some.inj hu
      show w.cell? ⟨b, o + 0, none⟩ = some (.string ⟨s1.data.toList.toArray⟩)
      rw [bytes_self]
      exact e0
    | 1, hu => obtain rfl := Option.some.inj hu; exact e1
    | 2, hu => obtain rfl := Option.some.inj hu; exact e2
    | 3, hu => obtain rfl := Option.some.inj hu; exact e3
    | 4, hu => obtain rfl := Option.some.inj hu; exact e4
    | 5, hu => obtain rfl := Option.some.inj hu; exact e5
    | 6, hu => obtain rfl := Option.some.inj hu; exact e6
    | j + 7, hu => cases hu
theorem open_ops {fuel : Nat} {v : Value} {x : DataW H × List MemPlace} (h : DataW.trod enc Tryz.prog w base (fun _ => true) held fuel 22 [v] = some x) :
    ∃ l : List OpV, HasO (fun k => k < w.heap.size) w v l ∧ (∀ r ∈ l, r.wf) ∧ l.length ≤ maxLen :=
  open_hasG (by decide) (by kernel_rfl) (by kernel_rfl) OpV.wf (fun _ _ _ _ _ h1 h2 => op_cells h1 h2) h
theorem open_seens {fuel : Nat} {v : Value} {x : DataW H × List MemPlace} (h : DataW.trod enc Tryz.prog w base (fun _ => true) held fuel 32 [v] = some x) :
    ∃ l : List SeenV, HasN (fun k => k < w.heap.size) w v l ∧ (∀ r ∈ l, r.wf) ∧ l.length ≤ maxLen :=
  open_hasG (by decide) (by kernel_rfl) (by kernel_rfl) SeenV.wf (fun _ _ _ _ _ h1 h2 => sn_cells h1 h2) h
end
end Go.Proofs.YtbgccaconhmbaaaGreatDoor
namespace Go.Proofs.YtbgccaconhmbaaaGreatDoor
open Go.RowKit
def needP (x : Nat) : List OpV := [⟨4, [], ⟨1, x, []⟩⟩, ⟨13, [], DV.none⟩]
theorem keys_need (f : Int → Bool) (h4 : f 4 = false) (h13 : f 13 = false) (p : List OpV) (x : Nat) : keysV f (p ++ needP x) = keysV f p := by
  unfold keysV
  rw [List.filter_append, show (needP x).filter (fun o => f o.c && keyV o.key) = [] from by simp [needP, h4, h13], List.append_nil]
theorem reads_need (p : List OpV) (x : Nat) : readsV (p ++ needP x) = readsV p := by
  unfold readsV; rw [keys_need isRd rfl rfl]
theorem names_need (p : List OpV) (x : Nat) : namesV (p ++ needP x) = namesV p := by
  unfold namesV; rw [keys_need isWr rfl rfl]
theorem chk_need (d : Nat) {x : Nat} (hx : mayV ⟨1, x, []⟩ = true) : chkL d (needP x) = if 16 < d + 1 then 2 else 0 := by
  have h1 : badV d ⟨4, [], ⟨1, x, []⟩⟩ = if 16 < d + 1 then 2 else 0 := by
    unfold badV
    rw [if_neg (by show ¬ okC 4 = false; decide), if_neg (by
      have : formV ⟨4, [], ⟨1, x, []⟩⟩ = mayV ⟨1, x, []⟩ := by
        unfold formV
        rw [if_neg (by show ¬ nmsC 4 = 1; decide), if_pos (by show nmsC 4 = 2; decide)]
        rfl
      rw [this, hx]
      exact Bool.noConfusion), if_neg (by show ¬ d < 0; omega)]
    rfl
  have h2 : ¬ 16 < d + 1 → badV (d + 1) ⟨13, [], DV.none⟩ = 0 := by
    intro h
    unfold badV
    rw [if_neg (by decide), if_neg (by decide), if_neg (by show ¬ d + 1 < 1; omega), if_neg (by show ¬ 16 < d + 1 - 1 + 0; omega)]
  unfold needP
  unfold chkL
  rw [h1]
  by_cases h : 16 < d + 1
  · rw [if_pos h, if_neg (by decide)]
  · rw [if_neg h, if_pos rfl]
    show chkL (d - 0 + 1) [⟨13, [], DV.none⟩] = 0
    rw [Nat.sub_zero]
    unfold chkL
    rw [h2 h, if_pos rfl]
    rfl
theorem chkV_need {p : List OpV} (hc : chkV p = 0) (hl : p.length ≤ 38) {x : Nat} (hx : mayV ⟨1, x, []⟩ = true) : chkV (p ++ needP x) = if 16 < dep 0 p + 1 then 2 else 0 := by
  have h40 : ¬ 40 < p.length := by omega
  unfold chkV at hc ⊢
  rw [if_neg h40] at hc
  have hn : ¬ 40 < (p ++ needP x).length := by rw [List.length_append, show (needP x).length = 2 from rfl]; omega
  rw [if_neg hn, reads_need, names_need, chkL_append]
  by_cases h0 : chkL 0 p = 0
  · rw [if_pos h0] at hc ⊢
    rw [chk_need _ hx]
    by_cases hd : 16 < dep 0 p + 1
    · rw [if_pos hd, if_neg (by decide)]
    · rw [if_neg hd, if_pos rfl]
      exact hc
  · rw [if_neg h0] at hc
    exact absurd hc h0
theorem step_err {f : Nm → DV} {st : List DV} {wr : Ent DV} {o : OpV} {e : Int} (h : stepV f st wr o = .no e) : e = 22 ∨ e = 23 := by
  unfold stepV at h
  repeat' (split at h)
  all_goals first
    | (cases h; done)
    | (injection h with h; exact .inl h.symm)
    | (injection h with h; exact .inr h.symm)
theorem runL_err {f : Nm → DV} : ∀ {p : List OpV} {st : List DV} {wr : Ent DV} {e : Int}, runL f p st wr = .no e → e = 22 ∨ e = 23
  | [], _, _, _, h => by cases h
  | o :: r, st, wr, e, h => by
    unfold runL at h
    cases hs : stepV f st wr o with
    | go a b => rw [hs] at h; exact runL_err h
    | no x => rw [hs] at h; injection h with h; subst h; exact step_err hs
theorem run_bad {p : List OpV} {l : List SeenV} (h : (runV p l).2 ≠ 0) : (runV p l).1 = [] := by
  unfold runV at *
  split
  · rename_i hc
    rw [if_pos hc] at h
    split
    · rename_i hs
      rw [if_pos hs] at h
      cases hr : runL (seenF l) p [] [] with
      | go st wr => rw [hr] at h; exact absurd rfl h
      | no e => rfl
    · rfl
  · rfl
theorem run_good {p : List OpV} {l : List SeenV} (h : (runV p l).2 = 0) : chkV p = 0 ∧ saw l (readsV p) = 0 ∧ ∃ st, runL (seenF l) p [] [] = .go st (runV p l).1 := by
  unfold runV at *
  by_cases hc : chkV p = 0
  · rw [if_pos hc] at h ⊢
    by_cases hs : saw l (readsV p) = 0
    · rw [if_pos hs] at h ⊢
      cases hr : runL (seenF l) p [] [] with
      | go st wr => exact ⟨hc, hs, st, rfl⟩
      | no e =>
        rw [hr] at h
        rcases runL_err hr with rfl | rfl
        · exact absurd h (by show ¬ (22 : Int) = 0; decide)
        · exact absurd h (by show ¬ (23 : Int) = 0; decide)
    · rw [if_neg hs] at h
      exact absurd h hs
  · rw [if_neg hc] at h
    exact absurd h hc
theorem pop1_snoc (st : List DV) (v : DV) : pop1 (st ++ [v]) = v := by
  unfold pop1
  rw [List.length_append, List.length_singleton, Nat.add_sub_cancel, List.getD_eq_getElem?_getD, List.getElem?_append_right (Nat.le_refl _), Nat.sub_self]
  rfl
theorem runL_need (f : Nm → DV) (st : List DV) (wr : Ent DV) (x : Nat) : runL f (needP x) st wr = if truthV ⟨1, x, []⟩ = true then .go (rest1 (st ++ [⟨1, x, []⟩])) wr else .no 22 := by
  have h1 : stepV f st wr ⟨4, [], ⟨1, x, []⟩⟩ = .go (st ++ [⟨1, x, []⟩]) wr := by
    unfold stepV
    rw [if_neg (by show ¬ (4 : Int) = 1; decide), if_neg (by show ¬ (4 : Int) = 2; decide), if_neg (by show ¬ (4 : Int) = 3; decide), if_pos rfl]
  have h2 : stepV f (st ++ [⟨1, x, []⟩]) wr ⟨13, [], DV.none⟩ = if truthV ⟨1, x, []⟩ = true then .go (rest1 (st ++ [⟨1, x, []⟩])) wr else .no 22 := by
    unfold stepV
    rw [if_neg (by decide), if_neg (by decide), if_neg (by decide), if_neg (by decide), if_pos rfl, pop1_snoc]
  unfold needP runL
  rw [h1]
  simp only []
  unfold runL
  rw [h2]
  by_cases ht : truthV ⟨1, x, []⟩ = true
  · rw [if_pos ht]; rfl
  · rw [if_neg ht]
theorem may_zero : mayV ⟨1, 0, []⟩ = true := by decide +kernel
theorem may_one : mayV ⟨1, 4607182418800017408, []⟩ = true := by decide +kernel
/-- P9.3: a need of nought behind a program. -/
theorem run_no {p : List OpV} {l : List SeenV} (h : (runV p l).2 = 0) (hc : chkV (p ++ needP 0) = 0) : runV (p ++ needP 0) l = ([], 22) := by
  obtain ⟨_, h2, st, h3⟩ := run_good h
  unfold runV
  rw [if_pos hc, reads_need, if_pos h2, runL_append, h3]
  show outV (runL (seenF l) (needP 0) st (runV p l).1) = ([], 22)
  rw [runL_need, if_neg (by decide)]
  rfl
/-- .. and a need of one. -/
theorem run_yes {p : List OpV} {l : List SeenV} (h : (runV p l).2 = 0) (hc : chkV (p ++ needP 4607182418800017408) = 0) : runV (p ++ needP 4607182418800017408) l = ((runV p l).1, 0) := by
  obtain ⟨_, h2, st, h3⟩ := run_good h
  have e : runV (p ++ needP 4607182418800017408) l = outV (runL (seenF l) (needP 4607182418800017408) st (runV p l).1) := by
    conv => lhs; unfold runV
    rw [if_pos hc, reads_need, if_pos h2, runL_append, h3]
  rw [e, runL_need, if_pos (by decide)]
  rfl
end Go.Proofs.YtbgccaconhmbaaaGreatDoor
namespace Go.Proofs.YtbgccaconhmbaaaGreatDoor
open Go.RowKit
theorem keysV_append (f : Int → Bool) (p q : List OpV) : keysV f (p ++ q) = keysV f p ++ keysV f q := by
  unfold keysV; rw [List.filter_append, List.map_append]
theorem keysV_take {f : Int → Bool} {p : List OpV} {k : Nat} {x : Nm} (h : x ∈ keysV f (p.take k)) : x ∈ keysV f p := by
  obtain ⟨o, ho, h1, h2, h3⟩ := mem_keysV.1 h
  exact mem_keysV.2 ⟨o, List.mem_of_mem_take ho, h1, h2, h3⟩
theorem setV_sub {a b : List Nm} (h : ∀ x ∈ a, x ∈ b) : ∀ x ∈ setV a, x ∈ setV b := fun x hx => mem_setV.2 (h x (mem_setV.1 hx))
theorem inc_len {f g : List Nm} (hf : Inc f) (hg : Inc g) (h : ∀ x ∈ f, x ∈ g) : f.length ≤ g.length := by
  have e : f = g.filter (fun x => decide (x ∈ f)) := inc_eq hf (hg.filter _) fun p => by
    rw [List.mem_filter]
    exact ⟨fun hp => ⟨h p hp, decide_eq_true hp⟩, fun hp => of_decide_eq_true hp.2⟩
  have := congrArg List.length e
  have := List.length_filter_le (fun x => decide (x ∈ f)) g
  omega
theorem setV_len {a b : List Nm} (h : ∀ x ∈ a, x ∈ b) : (setV a).length ≤ (setV b).length := inc_len (inc_setV _) (inc_setV _) (setV_sub h)
theorem chkV_ok {p : List OpV} (h : chkV p = 0) : p.length ≤ 40 ∧ chkL 0 p = 0 ∧ (readsV p).length ≤ 16 ∧ (namesV p).length ≤ 16 := by
  unfold chkV at h
  by_cases h40 : 40 < p.length
  · rw [if_pos h40] at h; cases h
  rw [if_neg h40] at h
  by_cases h0 : chkL 0 p = 0
  · rw [if_pos h0] at h
    by_cases h16 : 16 < (readsV p).length ∨ 16 < (namesV p).length
    · rw [if_pos h16] at h; cases h
    · exact ⟨by omega, h0, by omega, by omega⟩
  · rw [if_neg h0] at h; exact absurd h h0
theorem chkV_of {p : List OpV} (h1 : p.length ≤ 40) (h2 : chkL 0 p = 0) (h3 : (readsV p).length ≤ 16) (h4 : (namesV p).length ≤ 16) : chkV p = 0 := by
  unfold chkV
  rw [if_neg (by omega), if_pos h2, if_neg (by omega)]
theorem chkV_take {p : List OpV} (h : chkV p = 0) (k : Nat) : chkV (p.take k) = 0 := by
  obtain ⟨h1, h2, h3, h4⟩ := chkV_ok h
  refine chkV_of (by rw [List.length_take]; omega) (chkL_take h2 k) (Nat.le_trans (setV_len fun x hx => ?_) h3) (Nat.le_trans (setV_len fun x hx => ?_) h4)
  · exact keysV_take hx
  · exact keysV_take hx
theorem saw_cases (l : List SeenV) (ks : List Nm) : saw l ks = 8 ∨ saw l ks = 4 ∨ (saw l ks = 0 ∧ ∀ k ∈ ks, (seenO l k).isSome = true ∧ mayV (seenF l k) = true) := by
  unfold saw
  by_cases h1 : ks.all (fun k => (seenO l k).isSome) = false
  · rw [if_pos h1]; exact .inl rfl
  · rw [if_neg h1]
    by_cases h2 : ks.all (fun k => mayV (seenF l k)) = false
    · rw [if_pos h2]; exact .inr (.inl rfl)
    · rw [if_neg h2]
      rw [Bool.not_eq_false, List.all_eq_true] at h1 h2
      exact .inr (.inr ⟨rfl, fun k hk => ⟨h1 k hk, h2 k hk⟩⟩)
theorem saw_zero {l : List SeenV} {ks : List Nm} : saw l ks = 0 ↔ ∀ k ∈ ks, (seenO l k).isSome = true ∧ mayV (seenF l k) = true := by
  constructor
  · intro h
    rcases saw_cases l ks with e | e | e
    · rw [e] at h; cases h
    · rw [e] at h; cases h
    · exact e.2
  · intro h
    unfold saw
    rw [if_neg, if_neg]
    · rw [Bool.not_eq_false, List.all_eq_true]; exact fun k hk => (h k hk).2
    · rw [Bool.not_eq_false, List.all_eq_true]; exact fun k hk => (h k hk).1
theorem runV_ok {p : List OpV} {l : List SeenV} (h1 : chkV p = 0) (h2 : saw l (readsV p) = 0) : runV p l = outV (runL (seenF l) p [] []) := by
  unfold runV; rw [if_pos h1, if_pos h2]
/-- P9.3: a beginning that refuses makes all refuse. -/
theorem cut_run {p : List OpV} (hc : chkV p = 0) (l : List SeenV) (k : Nat) : (runV p l).2 = 8 ∨ (runV p l).2 = 4 ∨ ((runV p l).2 ≠ 8 ∧ (runV p l).2 ≠ 4 ∧ ((runV (p.take k) l).2 = 0 ∨ ((runV (p.take k) l).2 ≠ 0 ∧ (runV (p.take k) l).2 = (runV p l).2))) := by
  have hc' := chkV_take hc k
  rcases saw_cases l (readsV p) with e | e | ⟨e, he⟩
  · left; unfold runV; rw [if_pos hc, e, if_neg (by decide)]
  · right; left; unfold runV; rw [if_pos hc, e, if_neg (by decide)]
  right; right
  have e' : saw l (readsV (p.take k)) = 0 := saw_zero.2 fun x hx => he x (setV_sub (fun y hy => keysV_take hy) x hx)
  rw [runV_ok hc e, runV_ok hc' e']
  have hx : ∀ {st wr x}, runL (seenF l) p st wr = .no x → x = 22 ∨ x = 23 := fun h => runL_err h
  have hsp : runL (seenF l) p [] [] = match runL (seenF l) (p.take k) [] [] with | .go st' wr' => runL (seenF l) (p.drop k) st' wr' | .no e => .no e := by
    have e := runL_append (seenF l) (p.take k) (p.drop k) [] []
    rw [List.take_append_drop] at e
    exact e
  have h84 : (outV (runL (seenF l) p [] [])).2 ≠ 8 ∧ (outV (runL (seenF l) p [] [])).2 ≠ 4 := by
    cases h : runL (seenF l) p [] [] with
    | go st wr => exact ⟨by show (0 : Int) ≠ 8; decide, by show (0 : Int) ≠ 4; decide⟩
    | no x =>
      rcases hx h with rfl | rfl
      · exact ⟨by show (22 : Int) ≠ 8; decide, by show (22 : Int) ≠ 4; decide⟩
      · exact ⟨by show (23 : Int) ≠ 8; decide, by show (23 : Int) ≠ 4; decide⟩
  refine ⟨h84.1, h84.2, ?_⟩
  cases h : runL (seenF l) (p.take k) [] [] with
  | go st wr => exact .inl rfl
  | no x =>
    rw [h] at hsp
    rw [hsp]
    refine .inr ⟨?_, rfl⟩
    rcases runL_err h with rfl | rfl
    · show (22 : Int) ≠ 0; decide
    · show (23 : Int) ≠ 0; decide
end Go.Proofs.YtbgccaconhmbaaaGreatDoor
namespace Go.Proofs.YtbgccaconhmbaaaGreatDoor
open Go.RowKit
/-- What was written, as what was seen, ahead of what was seen. -/
def asSeen (q : Nm × DV) : SeenV := ⟨q.1, q.2, 0, 0, 0⟩
def ovr (w : Ent DV) (l : List SeenV) : List SeenV := w.map asSeen ++ l
theorem seenO_app (a b : List SeenV) (k : Nm) : seenO (a ++ b) k = (seenO a k).or (seenO b k) := by
  unfold seenO
  rw [List.find?_append]
  cases a.find? (fun s => s.key == k) with
  | none => rfl
  | some s => rfl
theorem seenO_as (w : Ent DV) (k : Nm) : seenO (w.map asSeen) k = get w k := by
  unfold seenO get
  rw [List.find?_map]
  have : ((fun s : SeenV => s.key == k) ∘ asSeen) = fun p : Nm × DV => p.1 == k := rfl
  rw [this]
  cases w.find? (fun p => p.1 == k) with
  | none => rfl
  | some q => rfl
theorem seenO_ovr (w : Ent DV) (l : List SeenV) (k : Nm) : seenO (ovr w l) k = (get w k).or (seenO l k) := by
  unfold ovr; rw [seenO_app, seenO_as]
theorem seenF_ovr (w : Ent DV) (l : List SeenV) (k : Nm) : seenF (ovr w l) k = (get w k).getD (seenF l k) := by
  unfold seenF
  rw [seenO_ovr]
  cases get w k <;> rfl
theorem pop1_app {a b : List DV} (h : 1 ≤ b.length) : pop1 (a ++ b) = pop1 b := by
  unfold pop1
  rw [List.getD_eq_getElem?_getD, List.getD_eq_getElem?_getD, List.getElem?_append_right (by rw [List.length_append]; omega), List.length_append]
  congr 2
  omega
theorem pop2_app {a b : List DV} (h : 2 ≤ b.length) : pop2 (a ++ b) = pop2 b := by
  unfold pop2
  rw [List.getD_eq_getElem?_getD, List.getD_eq_getElem?_getD, List.getElem?_append_right (by rw [List.length_append]; omega), List.length_append]
  congr 2
  omega
theorem rest1_app {a b : List DV} (h : 1 ≤ b.length) : rest1 (a ++ b) = a ++ rest1 b := by
  unfold rest1
  rw [List.length_append, List.take_append, List.take_of_length_le (l := a) (by omega)]
  congr 2
  omega
theorem rest2_app {a b : List DV} (h : 2 ≤ b.length) : rest2 (a ++ b) = a ++ rest2 b := by
  unfold rest2
  rw [List.length_append, List.take_append, List.take_of_length_le (l := a) (by omega)]
  congr 2
  omega
theorem get_put (f : Ent DV) (hr : Rising f) (s : Nm) (x : DV) (k : Nm) : get (put f s x) k = if k = s then some x else get f k := by
  by_cases h : k = s
  · subst h; rw [if_pos rfl, get_put_same hr]
  · rw [if_neg h, get_put_other hr x h]
/-- What lies below a stack, and what was written before, is carried along. -/
def Over (w : Ent DV) (st0 : List DV) (a b : Out) : Prop :=
  match b with
  | .go st' x => ∃ wr', a = .go (st0 ++ st') wr' ∧ Rising wr' ∧ Rising x ∧ ∀ k, get wr' k = (get x k).or (get w k)
  | .no e => a = .no e
theorem step_over {f : Nm → DV} {w : Ent DV} {st0 st : List DV} {wr x : Ent DV} {o : OpV} (hb : badV st.length o = 0) (hr : Rising wr) (hx : Rising x) (hg : ∀ k, get wr k = (get x k).or (get w k)) :
    Over w st0 (stepV f (st0 ++ st) wr o) (stepV (fun k => (get w k).getD (f k)) st x o) := by
  obtain ⟨hok, _, hpop, _⟩ := badV_zero hb
  have hget : ∀ k, (get wr k).getD (f k) = (get x k).getD ((get w k).getD (f k)) := fun k => by
    rw [hg]
    cases get x k <;> rfl
  have hput : ∀ s v, ∀ k, get (put wr s v) k = (get (put x s v) k).or (get w k) := fun s v k => by
    rw [get_put wr hr, get_put x hx]
    by_cases e : k = s
    · rw [if_pos e, if_pos e]; rfl
    · rw [if_neg e, if_neg e, hg]
  obtain ⟨c, key, v⟩ := o
  simp only at *
  rcases ok_cases hok with rfl | rfl | rfl | rfl | rfl | rfl | rfl | rfl | rfl | rfl | rfl | rfl | rfl | rfl | rfl
  all_goals (simp only [popC] at hpop; simp at hpop)
  · refine ⟨wr, ?_, hr, hx, hg⟩
    simp only [stepV, if_true, List.append_assoc, hget]
  · refine ⟨put wr key (pop1 st), ?_, hr.put _ _, hx.put _ _, hput _ _⟩
    have h1 : 1 ≤ st.length := hpop
    simp [stepV, pop1_app h1, rest1_app h1]
  · refine ⟨put wr key DV.none, ?_, hr.put _ _, hx.put _ _, hput _ _⟩
    simp [stepV]
  · refine ⟨wr, ?_, hr, hx, hg⟩
    simp [stepV]
  iterate 6
    · have h2 : 2 ≤ st.length := hpop
      have h1 : 1 ≤ st.length := by omega
      by_cases ht : (pop2 st).k = 2 ∨ (pop1 st).k = 2
      · simp [stepV, pop1_app h1, pop2_app h2, ht, Over]
      · simp [stepV, pop1_app h1, pop2_app h2, rest2_app h2, ht, Over]
        exact ⟨hr, hx, hg⟩
  iterate 2
    · have h2 : 2 ≤ st.length := hpop
      have h1 : 1 ≤ st.length := by omega
      refine ⟨wr, ?_, hr, hx, hg⟩
      simp [stepV, pop1_app h1, pop2_app h2, rest2_app h2]
  · have h1 : 1 ≤ st.length := hpop
    by_cases ht : truthV (pop1 st) = true
    · simp [stepV, pop1_app h1, rest1_app h1, ht, Over]
      exact ⟨hr, hx, hg⟩
    · simp [stepV, pop1_app h1, ht, Over]
  · have h1 : 1 ≤ st.length := hpop
    refine ⟨wr, ?_, hr, hx, hg⟩
    simp [stepV, pop1_app h1, rest1_app h1]
  · have h2 : 2 ≤ st.length := hpop
    have h1 : 1 ≤ st.length := by omega
    refine ⟨wr, ?_, hr, hx, hg⟩
    simp [stepV, pop1_app h1, pop2_app h2, rest2_app h2]
theorem runL_over {f : Nm → DV} {w : Ent DV} {st0 : List DV} : ∀ {q : List OpV} {st : List DV} {wr x : Ent DV}, chkL st.length q = 0 → Rising wr → Rising x → (∀ k, get wr k = (get x k).or (get w k)) →
    Over w st0 (runL f q (st0 ++ st) wr) (runL (fun k => (get w k).getD (f k)) q st x)
  | [], st, wr, x, _, hr, hx, hg => ⟨wr, rfl, hr, hx, hg⟩
  | o :: q, st, wr, x, hc, hr, hx, hg => by
    obtain ⟨hb, hc2⟩ := chkL_cons hc
    have h := step_over (f := f) (st0 := st0) hb hr hx hg
    unfold runL
    cases e : stepV (fun k => (get w k).getD (f k)) st x o with
    | no y =>
      rw [e] at h
      have h : stepV f (st0 ++ st) wr o = .no y := h
      rw [h]
      exact rfl
    | go st' x' =>
      rw [e] at h
      obtain ⟨wr', h1, h2, h3, h4⟩ := h
      rw [h1]
      have hl := (step_go hb e).1
      exact runL_over (by rw [hl]; exact hc2) h2 h3 h4
theorem runV_may {p : List OpV} {l : List SeenV} (hw : ∀ o ∈ p, o.wf) (hl : ∀ s ∈ l, s.wf) (h : (runV p l).2 = 0) :
    (∀ q ∈ (runV p l).1, q.2.wf ∧ mayV q.2 = true) ∧ Rising (runV p l).1 ∧ names (runV p l).1 = namesV p := by
  obtain ⟨hc, hs, st, hr⟩ := run_good h
  obtain ⟨_, hc0, _, _⟩ := chkV_ok hc
  have hf : ∀ k, (seenF l k).wf := fun k => by
    unfold seenF seenO
    cases e : l.find? fun s => s.key == k with
    | none => exact none_wf
    | some s => exact (hl s (List.mem_of_find?_eq_some e)).2.1
  have := run_all (Q := fun v => v.wf ∧ mayV v = true) ⟨none_wf, by decide⟩ (fun x hx => ⟨one_wf hx, by unfold mayV; simp [canon_canon]⟩) (f := seenF l) (p := p) (st := []) (wr := []) hc0 (fun v h => by cases h) (fun q h => by cases h)
    (fun o ho => ⟨(hw o ho).2.2.2.1, (hw o ho).2.2, form_may (chk_forms hc0 o ho).2⟩) (fun o ho h1 => ⟨(hf _).2.1, hf _, (saw_zero.1 hs _ (mem_reads hc0 ho h1)).2⟩) rising_nil hr
  exact ⟨fun q hq => (this.2.1 q hq).2, this.2.2.1, this.2.2.2.1⟩
theorem readsV_right {p q : List OpV} {k : Nm} (h : k ∈ readsV q) : k ∈ readsV (p ++ q) := by
  unfold readsV at *
  rw [mem_setV] at *
  rw [keysV_append]
  exact List.mem_append_right _ h
theorem readsV_left {p q : List OpV} {k : Nm} (h : k ∈ readsV p) : k ∈ readsV (p ++ q) := by
  unfold readsV at *
  rw [mem_setV] at *
  rw [keysV_append]
  exact List.mem_append_left _ h
/-- P9.3: what two programs do, one behind the other. -/
theorem join_run {p q : List OpV} {l : List SeenV} (hw : ∀ o ∈ p, o.wf) (hl : ∀ s ∈ l, s.wf) (hp : chkV p = 0) (hq : chkV q = 0) (hb : chkV (p ++ q) = 0) (hs : saw l (readsV (p ++ q)) = 0) :
    ((runV p l).2 ≠ 0 → runV (p ++ q) l = ([], (runV p l).2)) ∧
    ((runV p l).2 = 0 → ((runV q (ovr (runV p l).1 l)).2 ≠ 0 → runV (p ++ q) l = ([], (runV q (ovr (runV p l).1 l)).2)) ∧
      ((runV q (ovr (runV p l).1 l)).2 = 0 → (runV (p ++ q) l).2 = 0 ∧ Rising (runV (p ++ q) l).1 ∧ Rising (runV q (ovr (runV p l).1 l)).1 ∧ Rising (runV p l).1 ∧
        ∀ k, get (runV (p ++ q) l).1 k = (get (runV q (ovr (runV p l).1 l)).1 k).or (get (runV p l).1 k))) := by
  have hsp : saw l (readsV p) = 0 := saw_zero.2 fun k hk => saw_zero.1 hs k (readsV_left hk)
  have e1 : runV p l = outV (runL (seenF l) p [] []) := runV_ok hp hsp
  have e2 : runV (p ++ q) l = outV (match runL (seenF l) p [] [] with | .go st' wr' => runL (seenF l) q st' wr' | .no e => .no e) := by
    rw [runV_ok hb hs, runL_append]
    rfl
  constructor
  · intro h
    cases hr : runL (seenF l) p [] [] with
    | go st wr => rw [e1, hr] at h; exact absurd rfl h
    | no e => rw [e2, e1, hr]; rfl
  intro h
  obtain ⟨hm, hri, _⟩ := runV_may hw hl h
  obtain ⟨_, _, st, hr⟩ := run_good h
  generalize (runV p l).1 = w at *
  rw [hr] at e2
  have e2 : runV (p ++ q) l = outV (runL (seenF l) q st w) := e2
  have hsq : saw (ovr w l) (readsV q) = 0 := saw_zero.2 fun k hk => by
    obtain ⟨h1, h2⟩ := saw_zero.1 hs k (readsV_right hk)
    rw [seenO_ovr, seenF_ovr]
    cases e : get w k with
    | none => exact ⟨h1, h2⟩
    | some v => exact ⟨rfl, (hm _ (get_mem e)).2⟩
  have e3 : runV q (ovr w l) = outV (runL (fun k => (get w k).getD (seenF l k)) q [] []) := by
    rw [runV_ok hq hsq]
    congr 1
    exact runL_congr (fun o _ _ => seenF_ovr w l o.key) _ _
  have ho := runL_over (f := seenF l) (w := w) (st0 := st) (q := q) (st := []) (wr := w) (x := []) (chkV_ok hq).2.1 hri rising_nil (fun k => by rw [get_nil]; rfl)
  rw [List.append_nil] at ho
  rw [e3, e2]
  cases hx : runL (fun k => (get w k).getD (seenF l k)) q [] [] with
  | no e =>
    rw [hx] at ho
    have ho : runL (seenF l) q st w = .no e := ho
    rw [ho]
    refine ⟨fun _ => rfl, fun h0 => ?_⟩
    rcases runL_err ho with rfl | rfl
    · exact absurd h0 (by show ¬ (22 : Int) = 0; decide)
    · exact absurd h0 (by show ¬ (23 : Int) = 0; decide)
  | go st' x =>
    rw [hx] at ho
    obtain ⟨wr', h1, h2, h3, h4⟩ := ho
    rw [h1]
    exact ⟨fun h0 => absurd rfl h0, fun _ => ⟨rfl, h2, h3, hri, h4⟩⟩
/- two lists of what is written as one -/
def mrg : Ent DV → Ent DV → Ent DV
  | [], x => x
  | a :: w, [] => a :: w
  | a :: w, b :: x => if a.1 < b.1 then a :: mrg w (b :: x) else if b.1 < a.1 then b :: mrg (a :: w) x else b :: mrg w x
termination_by w x => w.length + x.length
theorem mrg_nil (x : Ent DV) : mrg [] x = x := by rw [mrg]
theorem mrg_left : ∀ w : Ent DV, mrg w [] = w
  | [] => by rw [mrg]
  | a :: w => by rw [mrg]
theorem mrg_cons (a : Nm × DV) (w : Ent DV) (b : Nm × DV) (x : Ent DV) : mrg (a :: w) (b :: x) = if a.1 < b.1 then a :: mrg w (b :: x) else if b.1 < a.1 then b :: mrg (a :: w) x else b :: mrg w x := by rw [mrg]
theorem mrg_lo {c : Nm} : ∀ (w x : Ent DV), (∀ q ∈ w, c < q.1) → (∀ q ∈ x, c < q.1) → ∀ q ∈ mrg w x, c < q.1
  | [], x, _, hx => by rw [mrg_nil]; exact hx
  | a :: w, [], hw, _ => by rw [mrg_left]; exact hw
  | a :: w, b :: x, hw, hx => by
    rw [mrg_cons]
    have ha := hw a (by simp)
    have hb := hx b (by simp)
    have hw' : ∀ q ∈ w, c < q.1 := fun q h => hw q (by simp [h])
    have hx' : ∀ q ∈ x, c < q.1 := fun q h => hx q (by simp [h])
    split
    · intro q hq
      rcases List.mem_cons.1 hq with rfl | hq
      · exact ha
      · exact mrg_lo w (b :: x) hw' hx q hq
    · split
      · intro q hq
        rcases List.mem_cons.1 hq with rfl | hq
        · exact hb
        · exact mrg_lo (a :: w) x hw hx' q hq
      · intro q hq
        rcases List.mem_cons.1 hq with rfl | hq
        · exact hb
        · exact mrg_lo w x hw' hx' q hq
termination_by w x => w.length + x.length
theorem get_low {f : Ent DV} {k : Nm} (h : ∀ q ∈ f, k < q.1) : get f k = none := by
  cases e : get f k with
  | none => rfl
  | some v => exact absurd (h _ (get_mem e)) (nm_irrefl _)
theorem mrg_facts : ∀ (w x : Ent DV), Rising w → Rising x → Rising (mrg w x) ∧ ∀ k, get (mrg w x) k = (get x k).or (get w k)
  | [], x, _, hx => by rw [mrg_nil]; exact ⟨hx, fun k => by rw [get_nil]; cases get x k <;> rfl⟩
  | a :: w, [], hw, _ => by rw [mrg_left]; exact ⟨hw, fun k => by rw [get_nil]; rfl⟩
  | a :: w, b :: x, hw, hx => by
    rw [mrg_cons]
    by_cases h1 : a.1 < b.1
    · rw [if_pos h1]
      obtain ⟨i1, i2⟩ := mrg_facts w (b :: x) hw.tail hx
      have hlo : ∀ q ∈ b :: x, a.1 < q.1 := fun q hq => by
        rcases List.mem_cons.1 hq with rfl | hq
        · exact h1
        · exact nm_trans h1 (hx.head q hq)
      refine ⟨List.pairwise_cons.2 ⟨mrg_lo w (b :: x) hw.head hlo, i1⟩, fun k => ?_⟩
      rw [get_cons, i2, get_cons a w]
      by_cases e : a.1 == k
      · rw [if_pos e, if_pos e, ← eq_of_beq e, get_low hlo]; rfl
      · rw [if_neg e, if_neg e]
    · rw [if_neg h1]
      by_cases h2 : b.1 < a.1
      · rw [if_pos h2]
        obtain ⟨i1, i2⟩ := mrg_facts (a :: w) x hw hx.tail
        have hlo : ∀ q ∈ a :: w, b.1 < q.1 := fun q hq => by
          rcases List.mem_cons.1 hq with rfl | hq
          · exact h2
          · exact nm_trans h2 (hw.head q hq)
        refine ⟨List.pairwise_cons.2 ⟨mrg_lo (a :: w) x hlo hx.head, i1⟩, fun k => ?_⟩
        rw [get_cons, i2, get_cons b x]
        by_cases e : b.1 == k
        · rw [if_pos e, if_pos e]; rfl
        · rw [if_neg e, if_neg e]
      · rw [if_neg h2]
        obtain ⟨i1, i2⟩ := mrg_facts w x hw.tail hx.tail
        have he : a.1 = b.1 := by
          rcases nm_cases a.1 b.1 with e | e | e
          · exact absurd e h1
          · exact e
          · exact absurd e h2
        refine ⟨List.pairwise_cons.2 ⟨mrg_lo w x (he ▸ hw.head) hx.head, i1⟩, fun k => ?_⟩
        rw [get_cons, i2, get_cons b x, get_cons a w]
        by_cases e : b.1 == k
        · rw [if_pos e, if_pos e]; rfl
        · rw [if_neg e, if_neg e, if_neg (by rw [he]; exact e)]
termination_by w x => w.length + x.length
theorem join_all {w x a : Ent DV} (ha : Rising a) (hx : Rising x) (hw : Rising w) (h : ∀ k, get a k = (get x k).or (get w k)) : a = mrg w x := by
  obtain ⟨h1, h2⟩ := mrg_facts w x hw hx
  exact rising_ext ha h1 fun k => by rw [h, h2]
end Go.Proofs.YtbgccaconhmbaaaGreatDoor
namespace Go.Proofs.YtbgccaconhmbaaaGreatDoor
open Go.RowKit
theorem run_reads {p : List OpV} {a b : List SeenV} (h : ∀ k ∈ readsV p, seenO a k = seenO b k) : runV p a = runV p b := by
  have hF : ∀ k ∈ readsV p, seenF a k = seenF b k := fun k hk => by unfold seenF; rw [h k hk]
  have hsaw : saw a (readsV p) = saw b (readsV p) := by
    unfold saw
    have e1 : (readsV p).all (fun k => (seenO a k).isSome) = (readsV p).all (fun k => (seenO b k).isSome) := by
      rw [Bool.eq_iff_iff, List.all_eq_true, List.all_eq_true]
      exact ⟨fun g k hk => by rw [← h k hk]; exact g k hk, fun g k hk => by rw [h k hk]; exact g k hk⟩
    have e2 : (readsV p).all (fun k => mayV (seenF a k)) = (readsV p).all (fun k => mayV (seenF b k)) := by
      rw [Bool.eq_iff_iff, List.all_eq_true, List.all_eq_true]
      exact ⟨fun g k hk => by rw [← hF k hk]; exact g k hk, fun g k hk => by rw [hF k hk]; exact g k hk⟩
    rw [e1, e2]
  unfold runV
  rw [hsaw]
  by_cases hc : chkV p = 0
  · rw [if_pos hc, if_pos hc, runL_congr (fun o ho h1 => hF _ (mem_reads (chkV_ok hc).2.1 ho h1))]
  · rw [if_neg hc, if_neg hc]
/-- What was seen of other keys. -/
def otherV (ks : List Nm) (l : List SeenV) : List SeenV := l.filter fun s => !(ks.contains s.key)
/-- The first of what was seen of a key, with no stamp. -/
def headV (l : List SeenV) (k : Nm) : List SeenV := match l.find? (fun s => s.key == k) with | some s => [⟨s.key, s.v, 0, 0, 0⟩] | none => []
def turnV (ks : List Nm) (l : List SeenV) : List SeenV := ks.reverse.flatMap (headV l)
theorem seenO_other {ks : List Nm} {k : Nm} (hk : k ∈ ks) (l : List SeenV) : seenO (otherV ks l) k = none := by
  unfold seenO otherV
  rw [List.find?_eq_none.2]
  · rfl
  intro s hs
  obtain ⟨_, h⟩ := List.mem_filter.1 hs
  intro e
  have e : s.key = k := by simpa using e
  rw [e] at h
  simp [hk] at h
theorem firstV_keys {l : List SeenV} {k : Nm} : ∀ s ∈ headV l k, s.key = k := by
  intro s hs
  unfold headV at hs
  cases e : l.find? (fun s => s.key == k) with
  | none => rw [e] at hs; cases hs
  | some r =>
    rw [e] at hs
    obtain rfl := List.mem_singleton.1 hs
    have := List.find?_some (p := fun s : SeenV => s.key == k) e
    simpa using this
theorem seenO_first (l : List SeenV) (k : Nm) : seenO (headV l k) k = seenO l k := by
  unfold seenO headV
  cases e : l.find? (fun s => s.key == k) with
  | none => rfl
  | some r =>
    have : (r.key == k) = true := List.find?_some (p := fun s : SeenV => s.key == k) e
    simp [this]
theorem seenO_not {l : List SeenV} {k : Nm} (h : ∀ s ∈ l, s.key ≠ k) : seenO l k = none := by
  unfold seenO
  rw [List.find?_eq_none.2 fun s hs => by simpa using h s hs]
  rfl
theorem seenO_flat (l : List SeenV) (k : Nm) : ∀ ks : List Nm, k ∈ ks → seenO (ks.flatMap (headV l)) k = seenO l k
  | [], h => by cases h
  | a :: ks, h => by
    rw [List.flatMap_cons, seenO_app]
    by_cases e : a = k
    · subst e
      rw [seenO_first]
      by_cases hm : a ∈ ks
      · rw [seenO_flat l a ks hm]; cases seenO l a <;> rfl
      · have : seenO (ks.flatMap (headV l)) a = none := seenO_not fun s hs => by
          obtain ⟨b, hb, hs⟩ := List.mem_flatMap.1 hs
          rw [firstV_keys s hs]
          intro e; subst e; exact hm hb
        rw [this]; cases seenO l a <;> rfl
    · rw [seenO_not fun s hs => by rw [firstV_keys s hs]; exact e]
      rcases List.mem_cons.1 h with h | h
      · exact absurd h.symm e
      · rw [seenO_flat l k ks h]; rfl
/-- P9.7. -/
theorem run_turned (p : List OpV) (l m : List SeenV) : runV p (otherV (readsV p) m ++ turnV (readsV p) l) = runV p l :=
  run_reads fun k hk => by
    rw [seenO_app, seenO_other hk]
    unfold turnV
    rw [seenO_flat l k _ (List.mem_reverse.2 hk)]
    rfl
end Go.Proofs.YtbgccaconhmbaaaGreatDoor
