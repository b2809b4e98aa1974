/- An own row of ranges, sorted by where they begin. Conditions: bits below 2^64. -/
import Derived.Test.YtfcdajkgopcmpaaJRr
import Derived.Test.YtfcdajkgopcmpaaJSo
import Derived.Lib.OwnBridge
import Derived.Lib.AppendIntMem
namespace Go.Proofs.Ytfcdajkgopcmpaa
open Go.Shelf Go.RowKit Go.Lib Go.Sort
theorem flat_cells : ∀ (l : List WV), (flatK encR 4 l.toArray).toList = cellsR (l.map (·.1)) := by
  intro l
  apply List.ext_getElem
  · rw [cellsR_length]; simp
  intro t h1 h2
  have ht : t < l.length * 4 := by simpa using h1
  have key : ∀ (l : List WV) (t : Nat), t < l.length * 4 → (cellsR (l.map (·.1)))[t]? = some ((encR (l.toArray[t / 4]!))[t % 4]!) := by
    intro l
    induction l with
    | nil => intro t ht; simp at ht
    | cons r s ih =>
      intro t ht
      rw [List.map_cons, cellsR_cons]
      match t, ht with
      | 0, _ => rfl
      | 1, _ => rfl
      | 2, _ => rfl
      | 3, _ => rfl
      | t + 4, ht =>
        have := ih t (by rw [List.length_cons] at ht; omega)
        rw [List.getElem?_append_right (by simp), show t + 4 - [Value.int .i64 r.1.i, Value.int .i64 r.1.e, Value.float .f64 r.1.lo, Value.float .f64 r.1.hi].length = t by simp, this]
        rw [show (t + 4) / 4 = t / 4 + 1 by omega, show (t + 4) % 4 = t % 4 by omega]
        congr 3
        simp
  have h3 := key l t ht
  rw [List.getElem?_eq_getElem h2] at h3
  rw [Option.some.inj h3]
  have := get_flatK encR 4 l.toArray t (by simpa using ht)
  rw [getElem!_pos _ _ (by simpa using ht)] at this
  simpa using this
/-- An own row of ranges, as the sort wants it. -/
theorem holds_own {w : World} {base g n cap : Nat} (l : List WV) (h : w.ownsRow base 37 4 (.slice (some ⟨g, 0, none⟩) n cap) n (cellsR (l.map (·.1)))) : HoldsK encR 4 w g 0 l.toArray := by
  rcases h.2 with ⟨h1, _⟩ | ⟨g', cap', cur, h1, hb, hg, hn, hm, hcs, ht⟩
  · cases h1
  · simp at h1
    obtain ⟨rfl, rfl⟩ := h1
    intro j hj
    have hf := flat_cells l
    have hj1 : j < (flatK encR 4 l.toArray).toList.length := by simpa using hj
    have hu : (cellsR (l.map (·.1)))[j]? = some ((flatK encR 4 l.toArray)[j]!) := by
      rw [← hf, List.getElem?_eq_getElem hj1, getElem!_pos _ j hj]
      simp
    have hcell := h.cells (g := g) rfl j _ hu
    rw [Addr.add_lit] at hcell
    exact ⟨hcell, by simp [World.frozen?, hg]⟩
theorem below_sorted {B : Nat} {w : World} {g n : Nat} {d : Array WV} {os : Array Obj} (hg : B ≤ g) (hgs : g < w.heap.size) : Below B w (sortWorldK encR 4 w g 0 n d os) := by
  unfold sortWorldK putRowK
  have h1 : Below B w (putRow id (Sort.ahead w n) g 0 (flatK encR 4 d)) := below_putRow (Below.refl B w) hg
  have h2 := below_grow B (putRow id (Sort.ahead w n) g 0 (flatK encR 4 d)) (Nat.le_trans (by omega) h1.size) 0 os
  exact h1.trans h2
theorem sort_own {w : World} {base g n cap : Nat} (l : List RV) (hw : ∀ r ∈ l, r.wf) (hn : l.length = n) (hm : n ≤ 1000000) (h : w.ownsRow base 37 4 (.slice (some ⟨g, 0, none⟩) n cap) n (cellsR l)) (hg : base ≤ g) (hgs : g < w.heap.size) :
    Calls Try.prog 55 #[.slice (some ⟨g, 0, none⟩) n cap, .func (.func 56) #[] #[]] w fun e w' => e = .returned (.tuple #[]) ∧ ∃ s : List RV, s.Perm l ∧ s.Pairwise (fun a b => rankN a.lo ≤ rankN b.lo) ∧ (∀ i, (hi : i < s.length) → RAt w' g (0 + i * 4) s[i]) ∧ g < w'.heap.size ∧ Below base w w' := by
  have e0 : (l.attachWith RV.wf hw).map (·.1) = l := by simp
  have e1 : (l.attachWith RV.wf hw).toArray.size = n := by simpa using hn
  have hH := holds_own (l.attachWith RV.wf hw) (by rw [e0]; exact h)
  generalize l.attachWith RV.wf hw = L at e0 e1 hH
  have hs := sort_any g 0 cap L.toArray w hH hgs (by omega)
  rw [e1] at hs
  refine hs.mono ?_
  rintro e w' ⟨rfl, d', m, os, hp, hso, rfl⟩
  have hsz : d'.size = n := by rw [hp.1, e1]
  have hpl : d'.toList.Perm L := by
    have := hp.2.2
    rw [← e1] at this
    have h2 : d'.extract 0 L.toArray.size = d' := by rw [e1, ← hsz]; simp
    rw [h2] at this
    simpa using this
  have hH' := holdsK_sortWorldK encR 4 w g 0 m L.toArray d' os hgs hH hp.1
  refine ⟨rfl, d'.toList.map (·.1), e0 ▸ hpl.map _, ?_, ?_, lt_sortWorldK encR 4 w g 0 m d' os hgs, below_sorted hg hgs⟩
  · rw [List.pairwise_iff_getElem]
    intro i j hi hj hij
    have hi' : i < d'.size := by simpa using hi
    have hj' : j < d'.size := by simpa using hj
    have := hso i j (Nat.zero_le _) hij (by omega)
    rw [ltR, getElem!_pos d' i hi', getElem!_pos d' j hj'] at this
    simpa using this
  · intro i hi
    have hi' : i < d'.size := by simpa using hi
    have c := fun c hc => (hH'.cell (i := i) (c := c) hi' hc).1
    rw [getElem!_pos d' i hi'] at c
    have e3 : (d'.toList.map (·.1))[i] = d'[i].1 := by simp
    rw [e3]
    exact ⟨c 0 (by omega), c 1 (by omega), c 2 (by omega), c 3 (by omega)⟩
end Go.Proofs.Ytfcdajkgopcmpaa
