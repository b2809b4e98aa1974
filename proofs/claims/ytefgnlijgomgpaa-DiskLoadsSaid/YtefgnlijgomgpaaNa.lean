/- Files that came in, as they read; what a loaded disk holds, and what is refused, in plain terms. Conditions: none of its own. -/
import Derived.Test.YtefgnlijgomgpaaW
namespace Go.Proofs.Ytefgnlijgomgpaa
open Go.ChangeShapes Go.WideShapes Go.ChangeAt Go.RowKit Go.Deep
section
variable {H : Type} {enc : TypeId × Value → H} {w : World} {base : Nat} {held : Bool}
instance : Inhabited FV := ⟨⟨[], [], 0⟩⟩
set_option maxRecDepth 100000 in
theorem file_cells {n : Nat} {b o : Nat} {cs : List Value} {y : DataW H × List MemPlace} (h1 : w.cells? base ⟨b, o, none⟩ 3 = some cs) (h : DataW.trod enc Try.prog w base (fun _ => true) held n 43 cs = some y) :
    ∃ p : FV, p.wf ∧ FAt (fun k => k < w.heap.size) w b o p := by
  obtain ⟨_, hlen, hcell⟩ := World.cells?_some h1
  obtain ⟨xs, k, hk, hxy, _, hxl, hf⟩ := DataW.trod_struct Try.underlying43 h
  match xs, hxl, cs, hlen with
  | [y0, y1, y2], _, [v0, v1, v2], _ =>
    have g0 := hf 0 _ rfl
    have g1 := hf 1 _ rfl
    have g2 := hf 2 _ rfl
    have q1 : Try.prog.cellsOf 9 = 1 := by kernel_rfl
    have q2 : Try.prog.cellsOf 33 = 1 := by kernel_rfl
    have q3 : Try.prog.cellsOf 3 = 1 := by kernel_rfl
    simp [q1, q2, q3] at g0 g1 g2
    have e0 := hcell 0 (by omega)
    have e1 := hcell 1 (by omega)
    have e2 := hcell 2 (by omega)
    rw [add_plain] at e0 e1 e2
    obtain ⟨s0, f0, rfl, wf0⟩ := DataW.trod_string Try.underlying9 g0
    obtain ⟨a1, p1, x1, f1, r1⟩ := open_sb g1
    obtain ⟨k2, f2, rfl, wf2⟩ := DataW.trod_int Try.underlying3 g2
    simp at f0 f1 f2
    subst f0 f1 f2
    simp [Lit.wf, IntKind.min, IntKind.max, IntKind.signed, IntKind.bits] at wf2
    refine ⟨⟨s0.data.toList, x1, k2⟩, ⟨?_, ⟨by simp only; omega, by simp only; omega⟩⟩, by simpa using e0, ⟨a1, p1, by simpa using e1, r1⟩, by simpa using e2⟩
    rw [Array.length_toList]; exact wf0
set_option maxRecDepth 100000 in
theorem open_sf {fuel : Nat} {v : Value} {x : DataW H × List MemPlace} (h : DataW.trod enc Try.prog w base (fun _ => true) held fuel 28 [v] = some x) :
    ∃ ao cap l, v = .slice ao l.length cap ∧ SF (fun k => k < w.heap.size) w ao l.length cap l := by
  rcases open_slice Try.underlying28 h with ⟨h0, _⟩ | ⟨a, len, cap, m, n, D, Pl, h0, hb, hl, hm, hmm, rfl, hx⟩
  · exact ⟨none, 0, [], by simpa using h0, rfl, Nat.le_refl _, by decide, fun _ h => (nomatch h), .inl rfl⟩
  simp only [if_true] at hmm
  subst hmm
  have q : Try.prog.cellsOf 43 = 3 := by kernel_rfl
  rw [q] at hx
  obtain ⟨b, o, spot⟩ := a
  by_cases h1 : len = 0
  · subst h1
    exact ⟨some ⟨b, o, spot⟩, m, [], by simpa using h0, rfl, Nat.zero_le _, hm, fun _ h => (nomatch h), .inl rfl⟩
  have hspot : spot = none := by
    obtain ⟨cs, h2, _⟩ := hx 0 (by omega)
    obtain ⟨_, hlen, hcell⟩ := World.cells?_some h2
    have := hcell 0 (by omega)
    match cs, hlen with
    | v0 :: _, _ => simpa [Addr.add] using World.cell?_spot (show w.cell? _ = some v0 from this)
  subst hspot
  obtain ⟨R, hR⟩ := choose_lt (α := FV) (n := m) (p := fun i r => r.wf ∧ FAt (fun k => k < w.heap.size) w b (o + i * 3) r) (fun i hi => by
    obtain ⟨cs, h2, h3⟩ := hx i hi
    rw [add_plain] at h2
    exact file_cells h2 h3)
  have hlen : ((List.range len).map R).length = len := by simp
  refine ⟨some ⟨b, o, none⟩, m, (List.range len).map R, by simpa using h0, rfl, by rw [hlen]; exact hl, hm, ?_, .inr ⟨b, o, rfl, ?_, fun i hi => ?_⟩⟩
  · intro r hr
    obtain ⟨i, hi, rfl⟩ := List.mem_map.1 hr
    exact (hR i (by have := List.mem_range.1 hi; omega)).1
  · exact World.block_lt_of_cell? _ _ (hR 0 (by omega)).2.c0
  · have hi' : i < len := by simpa using hi
    rw [List.getElem_map, List.getElem_range]
    exact (hR i (by omega)).2
end
/-- Why one of the files is refused; 0: it isn't. -/
def errOf (seen : List FV) (p : FV) : Nat := if !isNm p.name then 10 else if seen.any (fun q => q.name == p.name) then 9 else if p.safe < 0 ∨ (p.data.length : Int) < p.safe then 1 else 0
def good (l : List FV) (j : Nat) : Prop := ∀ i (h : i < l.length), i < j → errOf (l.take i) l[i] = 0
/-- What the loading of files answers. -/
def Chk (l : List FV) (e : Nat) : Prop := (e ≠ 0 ∧ ∃ j, ∃ h : j < l.length, good l j ∧ errOf (l.take j) l[j] = e) ∨ (good l l.length ∧ e = if 64 < l.length then 3 else if 4194304 < totF l then 11 else 0)
theorem chk_one {l : List FV} {e e' : Nat} (h : Chk l e) (h' : Chk l e') : e = e' := by
  rcases h with ⟨h0, j, hj, hg, he⟩ | ⟨hg, he⟩
  · rcases h' with ⟨h0', j', hj', hg', he'⟩ | ⟨hg', he'⟩
    · rcases Nat.lt_trichotomy j j' with k | k | k
      · exact absurd (he.symm.trans (hg' j hj k)) h0
      · subst k; exact he.symm.trans he'
      · exact absurd (he'.symm.trans (hg j' hj' k)) h0'
    · exact absurd (he.symm.trans (hg' j hj hj)) h0
  · rcases h' with ⟨h0', j', hj', hg', he'⟩ | ⟨hg', he'⟩
    · exact absurd (he'.symm.trans (hg j' hj' hj')) h0'
    · rw [he, he']
theorem good_succ {l : List FV} {j : Nat} (h : good l j) (hj : j < l.length) (he : errOf (l.take j) l[j] = 0) : good l (j + 1) := fun i hi hij => by
  by_cases e : i = j
  · subst e; exact he
  · exact h i hi (by omega)
/-- The files as a disk's. -/
def ents (l : List FV) : Ent Fi := l.foldl (fun f p => put f p.name ⟨p.data, p.safe.toNat⟩) []
theorem ents_snoc (l : List FV) (p : FV) : ents (l ++ [p]) = put (ents l) p.name ⟨p.data, p.safe.toNat⟩ := by unfold ents; rw [List.foldl_append]; rfl
theorem has_put {f : Ent Fi} {s t : Nm} {x : Fi} : has (put f s x) t = (s == t || has f t) := by
  rw [Bool.eq_iff_iff]
  unfold has
  simp only [List.any_eq_true, Bool.or_eq_true, beq_iff_eq]
  constructor
  · rintro ⟨p, hp, e⟩
    rcases mem_put.1 hp with rfl | ⟨hp, _⟩
    · exact .inl e
    · exact .inr ⟨p, hp, e⟩
  · rintro (rfl | ⟨p, hp, rfl⟩)
    · exact ⟨_, mem_put.2 (.inl rfl), rfl⟩
    · by_cases e : p.1 = s
      · exact ⟨_, mem_put.2 (.inl rfl), e.symm⟩
      · exact ⟨p, mem_put.2 (.inr ⟨hp, e⟩), rfl⟩
theorem err_zero {seen : List FV} {p : FV} (h : errOf seen p = 0) : isNm p.name = true ∧ seen.any (fun q => q.name == p.name) = false ∧ 0 ≤ p.safe ∧ p.safe ≤ (p.data.length : Int) := by
  unfold errOf at h
  split at h
  · cases h
  split at h
  · cases h
  split at h
  · cases h
  · rename_i h1 h2 h3
    exact ⟨by simpa using h1, by simpa using h2, by omega, by omega⟩
structure Ents (l : List FV) (f : Ent Fi) : Prop where
  rising : Rising f
  has : ∀ s, has f s = l.any fun q => q.name == s
  len : f.length = l.length
  tot : tot f = totF l
  nm : ∀ p ∈ f, isNm p.1 = true ∧ p.2.safe ≤ p.2.data.length
theorem ents_nil : Ents [] (ents []) := ⟨rising_nil, fun _ => rfl, rfl, rfl, fun _ h => (nomatch h)⟩
theorem Ents.none {l : List FV} {f : Ent Fi} (h : Ents l f) {s : Nm} (hs : (l.any fun q => q.name == s) = false) : get f s = none := has_none (by rw [h.has]; exact hs)
theorem Ents.snoc {l : List FV} {p : FV} (h : Ents l (ents l)) (he : errOf l p = 0) : Ents (l ++ [p]) (ents (l ++ [p])) := by
  obtain ⟨h1, h2, h3, h4⟩ := err_zero he
  have hn := h.none h2
  rw [ents_snoc]
  refine ⟨h.rising.put _ _, fun s => ?_, ?_, ?_, fun q hq => ?_⟩
  · rw [has_put, h.has, List.any_append, Bool.or_comm]
    simp
  · unfold put
    rw [length_ins, del_of_none hn, h.len, List.length_append]
    rfl
  · unfold put
    rw [tot_ins, del_of_none hn, h.tot, totF_append]
    show p.data.length + totF l = totF l + totF [p]
    have : totF [p] = p.data.length := by unfold totF; simp
    omega
  · rcases mem_put.1 hq with rfl | ⟨hq, _⟩
    · exact ⟨h1, by show p.safe.toNat ≤ p.data.length; omega⟩
    · exact h.nm q hq
theorem ents_take {l : List FV} : ∀ {j : Nat}, j ≤ l.length → good l j → Ents (l.take j) (ents (l.take j))
  | 0, _, _ => by rw [List.take_zero]; exact ents_nil
  | j + 1, hj, hg => by
    have ih := ents_take (l := l) (j := j) (by omega) (fun i hi hij => hg i hi (by omega))
    rw [List.take_succ_eq_append_getElem (by omega)]
    exact ih.snoc (hg j (by omega) (by omega))
theorem ents_step {l : List FV} {j : Nat} (hj : j < l.length) : ents (l.take (j + 1)) = put (ents (l.take j)) l[j].name ⟨l[j].data, l[j].safe.toNat⟩ := by
  rw [List.take_succ_eq_append_getElem hj, ents_snoc]
theorem Ents.ok {l : List FV} {f : Ent Fi} (h : Ents l f) {n : Nat} (h1 : l.length ≤ n) (h2 : totF l ≤ 4194304) : Okn n ⟨f, false, 0, 0⟩ :=
  ⟨h.rising, fun p hp => (h.nm p hp).1, fun p hp => (h.nm p hp).2, by show f.length ≤ n; rw [h.len]; exact h1, by show Ytefgnlijgomgpaa.tot f ≤ 4194304; rw [h.tot]; exact h2⟩
end Go.Proofs.Ytefgnlijgomgpaa
