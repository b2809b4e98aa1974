/- One file of the document's disk turned in its place. Conditions: none of its own. -/
import Derived.Test.YtefgnlijgomgpaaMa
namespace Go.Proofs.Ytefgnlijgomgpaa
open Go.RowKit
theorem cellsF_set1 : ∀ (us : List (Nm × Value × Int)) {k : Nat} (h : k < us.length) (u : Value), (cellsF us).set (k * 3 + 1) u = cellsF (us.set k (us[k].1, u, us[k].2.2))
  | p :: us, 0, _, u => rfl
  | p :: us, k + 1, h, u => by
    have hk : k < us.length := by simpa using h
    have ih := cellsF_set1 us hk u
    show (cellsF (p :: us)).set ((k + 1) * 3 + 1) u = cellsF (p :: us.set k (us[k].1, u, us[k].2.2))
    have e1 : ∀ q : List (Nm × Value × Int), cellsF (p :: q) = nmv p.1 :: p.2.1 :: .int .i64 p.2.2 :: cellsF q := fun _ => rfl
    rw [e1, e1, ← ih, show (k + 1) * 3 + 1 = k * 3 + 1 + 3 by omega]
    rfl
theorem cellsF_set2 : ∀ (us : List (Nm × Value × Int)) {k : Nat} (h : k < us.length) (z : Int), (cellsF us).set (k * 3 + 2) (.int .i64 z) = cellsF (us.set k (us[k].1, us[k].2.1, z))
  | p :: us, 0, _, u => rfl
  | p :: us, k + 1, h, u => by
    have hk : k < us.length := by simpa using h
    have ih := cellsF_set2 us hk u
    show (cellsF (p :: us)).set ((k + 1) * 3 + 2) _ = cellsF (p :: us.set k (us[k].1, us[k].2.1, u))
    have e1 : ∀ q : List (Nm × Value × Int), cellsF (p :: q) = nmv p.1 :: p.2.1 :: .int .i64 p.2.2 :: cellsF q := fun _ => rfl
    rw [e1, e1, ← ih, show (k + 1) * 3 + 2 = k * 3 + 2 + 3 by omega]
    rfl
section
variable {C D S : Nat → Prop} {w w' : World} {a : Nat} {d : Dk} {v : Value} {us : List (Nm × Value × Int)} {s : Nm} {x : Fi} {l : List FV}
theorem FO.turn {g cap k : Nat} {q : FV} {u : Value} (h : FO C w (.slice (some ⟨g, 0, none⟩) l.length cap) us l) (hg : w.grownBy w' (some g))
    (ho : w'.ownsRow 0 43 3 (.slice (some ⟨g, 0, none⟩) l.length cap) l.length (cellsF (us.set k (q.name, u, q.safe)))) (hu : w'.ownsRow 0 5 1 u q.data.length (bys q.data)) (hC : ∀ k, C k → D k) (hD : ∀ j, u.ownBlock = some j → D j) :
    FO D w' (.slice (some ⟨g, 0, none⟩) l.length cap) (us.set k (q.name, u, q.safe)) (l.set k q) := by
  have hkeep : ∀ {n : Nat} {t : Value} {xs : List Value}, w.ownsRow 0 5 1 t n xs → w'.ownsRow 0 5 1 t n xs := fun {n t xs} ht => ht.kept hg (by
    cases e : t.ownBlock with
    | none => exact .inl rfl
    | some j => exact .inr (fun e2 => own_apart ht h.own (by decide) j e e2.symm))
  refine ⟨by rw [List.length_set]; exact ho, by rw [List.length_set, List.length_set]; exact h.len, fun i h1 h2 => ?_, fun j hj => hC j (h.row j hj), fun i h1 j hj => ?_⟩
  · by_cases hi : k = i
    · subst hi
      rw [List.getElem_set_self, List.getElem_set_self]
      exact ⟨rfl, rfl, hu⟩
    · rw [List.getElem_set_ne hi, List.getElem_set_ne hi]
      obtain ⟨e1, e2, e3⟩ := h.at_ i (by simpa using h1) (by simpa using h2)
      exact ⟨e1, e2, hkeep e3⟩
  · by_cases hi : k = i
    · subst hi
      rw [List.getElem_set_self] at hj
      exact hD j hj
    · rw [List.getElem_set_ne hi] at hj
      exact hC j (h.rows i (by simpa using h1) j hj)
theorem fvs_upd {f : Ent Fi} (hr : Rising f) {k : Nat} (hk : k < f.length) (hs : f[k] = (s, x)) (g : Fi → Fi) : fvs (upd f s g) = (fvs f).set k ⟨s, (g x).data, ((g x).safe : Int)⟩ := by
  apply List.ext_getElem
  · rw [List.length_set, fvs_length, fvs_length, length_upd]
  · intro i h1 h2
    have hi : i < f.length := by rw [fvs_length, length_upd] at h1; exact h1
    have hu : (upd f s g)[i]'(by rw [length_upd]; exact hi) = if f[i].1 == s then (f[i].1, g f[i].2) else f[i] := by unfold upd; rw [List.getElem_map]
    rw [fvs_get h1, hu]
    by_cases hik : k = i
    · subst hik
      rw [List.getElem_set_self, hs]
      simp [fv]
    · rw [List.getElem_set_ne hik, fvs_get (by rw [fvs_length]; exact hi)]
      have hne : f[i].1 ≠ s := by
        intro e
        rcases Nat.lt_or_ge i k with h3 | h3
        · have h4 := List.pairwise_iff_getElem.1 hr i k hi hk h3
          rw [hs, e] at h4
          exact nm_irrefl _ h4
        · have h4 := List.pairwise_iff_getElem.1 hr k i hk hi (by omega)
          rw [hs, e] at h4
          exact nm_irrefl _ h4
      rw [if_neg (by simpa using hne)]
/-- One file's bytes are laid anew. -/
theorem RAt.data {g cap k : Nat} {y : Fi} {u : Value} {d' : Dk} (h : RAt C w a d (.slice (some ⟨g, 0, none⟩) (fvs d.f).length cap) us) (hk : k < d.f.length) (hs : d.f[k] = (s, x)) (hy : y.safe = x.safe) (hu : w.ownsRow 0 5 1 u y.data.length (bys y.data))
    (hf : d'.f = upd d.f s fun _ => y) (ho : d'.off = d.off) (hl : d'.left = d.left) (hd : d'.done = d.done) (hok : Okr d') (hC : ∀ k, C k → D k) (hD : ∀ j, u.ownBlock = some j → D j) (hlt : ∀ j, D j → j < w.heap.size) :
    ∃ us', RAt D (w.setCell ⟨g, k * 3 + 1, none⟩ u) a d' (.slice (some ⟨g, 0, none⟩) (fvs d'.f).length cap) us' := by
  have hkl : k < (fvs d.f).length := by rw [fvs_length]; exact hk
  have hku : k < us.length := by rw [h.fo.len]; exact hkl
  obtain ⟨e1, e2, _⟩ := h.fo.at_ k hku hkl
  rw [fvs_get hkl, hs] at e1 e2
  obtain ⟨h2, h3⟩ := h.fo.own.stored (k * 3 + 1) u
  rw [cellsF_set1 us hku, e1, e2] at h2
  have hapart : u.ownBlock = none ∨ u.ownBlock ≠ some g := by
    cases e : u.ownBlock with
    | none => exact .inl rfl
    | some j => exact .inr (fun e2 => own_apart hu h.fo.own (by decide) j e e2.symm)
  have hfo := h.fo.turn (q := ⟨s, y.data, (y.safe : Int)⟩) h3 (by rw [hy]; exact h2) (hu.kept h3 hapart) hC hD
  have hL : fvs d'.f = (fvs d.f).set k ⟨s, y.data, (y.safe : Int)⟩ := by rw [hf]; exact fvs_upd h.ok.rising hk hs _
  have hga : g ≠ a := h.ne.1 g rfl
  have hbox : (w.setCell ⟨g, k * 3 + 1, none⟩ u).heap[a]? = w.heap[a]? := Below.heap_setCell _ _ _ _ (fun e => hga e.symm)
  have hlen : (fvs d'.f).length = (fvs d.f).length := by rw [hL, List.length_set]
  rw [← hL] at hfo
  rw [hlen]
  exact ⟨_, hok, by rw [hl]; exact h.left, by rw [hbox, h.box, ho, hl, hd], hfo, hC a h.ca, fun j hj => by simpa using hlt j hj⟩
/-- How many of one file's bytes are safe is turned. -/
theorem RAt.safe {g cap k : Nat} {y : Fi} {d' : Dk} (h : RAt C w a d (.slice (some ⟨g, 0, none⟩) (fvs d.f).length cap) us) (hk : k < d.f.length) (hs : d.f[k] = (s, x)) (hy : y.data = x.data)
    (hf : d'.f = upd d.f s fun _ => y) (ho : d'.off = d.off) (hl : d'.left = d.left) (hd : d'.done = d.done) (hok : Okr d') :
    ∃ us', RAt C (w.setCell ⟨g, k * 3 + 2, none⟩ (.int .i64 (y.safe : Int))) a d' (.slice (some ⟨g, 0, none⟩) (fvs d'.f).length cap) us' := by
  have hkl : k < (fvs d.f).length := by rw [fvs_length]; exact hk
  have hku : k < us.length := by rw [h.fo.len]; exact hkl
  obtain ⟨e1, e2, e3⟩ := h.fo.at_ k hku hkl
  have e4 := fun j hj => h.fo.rows k hku j hj
  rw [fvs_get hkl, hs] at e1 e2 e3
  obtain ⟨h2, h3⟩ := h.fo.own.stored (k * 3 + 2) (.int .i64 (y.safe : Int))
  rw [cellsF_set2 us hku, e1] at h2
  generalize us[k].2.1 = u at *
  have hu : w.ownsRow 0 5 1 u y.data.length (bys y.data) := by rw [hy]; exact e3
  have hapart : u.ownBlock = none ∨ u.ownBlock ≠ some g := by
    cases e : u.ownBlock with
    | none => exact .inl rfl
    | some j => exact .inr (fun e2 => own_apart hu h.fo.own (by decide) j e e2.symm)
  have hfo := h.fo.turn (q := ⟨s, y.data, (y.safe : Int)⟩) h3 h2 (hu.kept h3 hapart) (fun _ hk => hk) e4
  have hL : fvs d'.f = (fvs d.f).set k ⟨s, y.data, (y.safe : Int)⟩ := by rw [hf]; exact fvs_upd h.ok.rising hk hs _
  have hga : g ≠ a := h.ne.1 g rfl
  have hbox : (w.setCell ⟨g, k * 3 + 2, none⟩ (.int .i64 (y.safe : Int))).heap[a]? = w.heap[a]? := Below.heap_setCell _ _ _ _ (fun e => hga e.symm)
  have hlen : (fvs d'.f).length = (fvs d.f).length := by rw [hL, List.length_set]
  rw [← hL] at hfo
  rw [hlen]
  exact ⟨_, hok, by rw [hl]; exact h.left, by rw [hbox, h.box, ho, hl, hd], hfo, h.ca, fun j hj => by simpa using h.lt j hj⟩
end
end Go.Proofs.Ytefgnlijgomgpaa
