/- Slices of slices of bytes: those that came in, and rows of records of the call's own. Conditions: none of its own. -/
import Derived.Test.YtcpncmdnefemmaaG
namespace Go.Proofs.Ytcpncmdnefemmaa
open Go.RowKit
theorem info22 : (Try.prog.info? 22).map (fun i => (i.zero, i.size, i.bytes)) = some (some (.slice none 0 0), 1, 24) := by kernel_rfl
theorem under33 : Try.prog.underlying 33 = some (.slice 22) := by kernel_rfl
/-- A slice of slices of bytes, as it reads; what is read lies below block B. -/
structure RB (B : Nat) (w : World) (ao : Option Addr) (n cap : Nat) (L : List (List UInt8)) : Prop where
  len : n = L.length
  le : n ≤ cap
  max : cap ≤ maxLen
  nil : ao = none → cap = 0
  cells : n = 0 ∨ ∃ b off, ao = some ⟨b, off, none⟩ ∧ b < B ∧ ∀ i, i < n → ∃ ro m c, w.cell? ⟨b, off + i, none⟩ = some (.slice ro m c) ∧ SB B w ro m c (L.getD i [])
section
variable {B C : Nat} {w w' : World} {ao : Option Addr} {n cap : Nat} {L : List (List UInt8)}
theorem RB.below (h : RB B w ao n cap L) (hb : Below B w w') : RB B w' ao n cap L := by
  refine ⟨h.len, h.le, h.max, h.nil, ?_⟩
  rcases h.cells with h0 | ⟨b, off, rfl, hB, hc⟩
  · exact .inl h0
  · exact .inr ⟨b, off, rfl, hB, fun i hi => let ⟨ro, m, c, h1, h2⟩ := hc i hi; ⟨ro, m, c, (hb.cell (p := ⟨b, off + i, none⟩) hB).trans h1, h2.below hb⟩⟩
theorem RB.mono (h : RB B w ao n cap L) (hb : B ≤ C) : RB C w ao n cap L := by
  refine ⟨h.len, h.le, h.max, h.nil, ?_⟩
  rcases h.cells with h0 | ⟨b, off, rfl, hB, hc⟩
  · exact .inl h0
  · exact .inr ⟨b, off, rfl, by omega, fun i hi => let ⟨ro, m, c, h1, h2⟩ := hc i hi; ⟨ro, m, c, h1, h2.mono hb⟩⟩
theorem RB.top (h : RB B w ao n cap L) {hi : Nat} (h1 : hi ≤ n) : RB B w ao hi cap (L.take hi) := by
  have hl := h.len
  have hc := h.le
  refine ⟨by rw [List.length_take]; omega, by omega, h.max, h.nil, ?_⟩
  by_cases hz : hi = 0
  · exact .inl hz
  rcases h.cells with h0 | ⟨b, off, rfl, hB, hcell⟩
  · omega
  · refine .inr ⟨b, off, rfl, hB, fun i hi => ?_⟩
    have := hcell i (by omega)
    rw [List.getD_eq_getElem?_getD, List.getElem?_take_of_lt hi, ← List.getD_eq_getElem?_getD]
    exact this
theorem RB.at_ (h : RB B w ao n cap L) {i : Nat} (hi : i < n) : ∃ b off ro m c, ao = some ⟨b, off, none⟩ ∧ w.cell? ⟨b, off + i, none⟩ = some (.slice ro m c) ∧ SB B w ro m c (L.getD i []) := by
  rcases h.cells with h0 | ⟨b, off, rfl, hB, hcell⟩
  · omega
  · obtain ⟨ro, m, c, h1, h2⟩ := hcell i hi
    exact ⟨b, off, ro, m, c, rfl, h1, h2⟩
theorem RB.lt (h : RB B w ao n cap L) : n ≤ 9223372036854775807 := by have := h.le; have := h.max; unfold maxLen at this; omega
end
/-- Records of the call's own, in blocks of their own. -/
structure Rs (B : Nat) (w : World) (v : Value) (us : List Value) (L : List (List UInt8)) : Prop where
  own : w.ownsRow B 22 1 v L.length us
  row : ∀ i, i < L.length → w.ownsRow B 5 1 (us.getD i undef) (L.getD i []).length (bys (L.getD i []))
  dis : ∀ i j k, i < j → j < L.length → (us.getD i undef).ownBlock = some k → (us.getD j undef).ownBlock ≠ some k
section
variable {B : Nat} {w w' : World} {v : Value} {us : List Value} {L : List (List UInt8)}
theorem Rs.len (h : Rs B w v us L) : us.length = L.length := by have := h.own.1; omega
theorem Rs.nil (B : Nat) (w : World) : Rs B w (.slice none 0 0) [] [] := ⟨World.ownsRow_nil _ _ _ _, fun _ h => by simp at h, fun _ _ _ _ h => by simp at h⟩
theorem Rs.below (h : Rs B w v us L) (hb : Below w.heap.size w w') : Rs B w' v us L :=
  ⟨own_below h.own hb, fun i hi => own_below (h.row i hi) hb, h.dis⟩
theorem own_apart {w : World} {B C e f n m : Nat} {v u : Value} {xs ys : List Value} {a b : Nat} (h : w.ownsRow B e a v n xs) (h2 : w.ownsRow C f b u m ys) (hef : e ≠ f) : u.ownBlock = none ∨ u.ownBlock ≠ v.ownBlock := by
  rcases h2.2 with ⟨rfl, _⟩ | ⟨g, cap, cur, rfl, _, hg, _⟩
  · exact .inl rfl
  · right
    intro e1
    rcases h.2 with ⟨rfl, _⟩ | ⟨g', cap', cur', rfl, _, hg', _⟩
    · simp [Value.ownBlock] at e1
    · simp [Value.ownBlock] at e1
      subst e1
      rw [hg] at hg'
      simp at hg'
      exact hef hg'.2.symm
theorem getD_snoc_lt {α : Type} {l : List α} {x d : α} {i : Nat} (h : i < l.length) : (l ++ [x]).getD i d = l.getD i d := by
  rw [List.getD_eq_getElem?_getD, List.getD_eq_getElem?_getD, List.getElem?_append_left h]
theorem getD_snoc_eq {α : Type} {l : List α} {x d : α} : (l ++ [x]).getD l.length d = x := by
  rw [List.getD_eq_getElem?_getD, List.getElem?_append_right (Nat.le_refl _)]; simp
/-- One record more: it lies in a new block; the row of them grows. -/
theorem Rs.snoc {w1 w2 : World} {C : Nat} {u v' : Value} {l : List UInt8} (h : Rs B w v us L) (hb : Below w.heap.size w w1) (hu : w1.ownsRow C 5 1 u l.length (bys l)) (hC : w.heap.size ≤ C) (hB : B ≤ w.heap.size)
    (ho : w2.ownsRow B 22 1 v' (L.length + 1) (us ++ [u])) (hg : w1.grownBy w2 v.ownBlock) : Rs B w2 v' (us ++ [u]) (L ++ [l]) := by
  have h1 := h.below hb
  have hl := h.len
  refine ⟨by rw [List.length_append]; exact ho, fun i hi => ?_, fun i j k hij hj hk => ?_⟩
  · by_cases hlt : i < L.length
    · rw [getD_snoc_lt (by omega), getD_snoc_lt hlt]
      exact (h1.row i hlt).kept hg (own_apart h1.own (h1.row i hlt) (by decide))
    · have : i = L.length := by simp at hi; omega
      subst this
      rw [getD_snoc_eq, ← hl, getD_snoc_eq]
      exact own_mono (hu.kept hg (own_apart h1.own hu (by decide))) (by omega)
  · rw [getD_snoc_lt (by simp at hj; omega)] at hk
    by_cases hlt : j < L.length
    · rw [getD_snoc_lt (by omega)]
      exact h.dis i j k hij hlt hk
    · have : j = L.length := by simp at hj; omega
      subst this
      rw [← hl, getD_snoc_eq]
      intro e
      have h2 := (h.row i hij).lt k hk
      have h3 := hu.lt k e
      omega
theorem Rs.rb {ao : Option Addr} {n cap : Nat} (h : Rs B w (.slice ao n cap) us L) (hn : n = L.length) : RB w.heap.size w ao n cap L := by
  have hl := h.len
  subst hn
  rcases h.own.2 with ⟨e, h0⟩ | ⟨g, c, cur, e, _, hg, h1, h2, _⟩
  · simp at e
    obtain ⟨rfl, _, rfl⟩ := e
    exact ⟨rfl, by omega, by decide, fun _ => rfl, .inl h0⟩
  · simp at e
    obtain ⟨rfl, rfl⟩ := e
    refine ⟨rfl, h1, h2, (fun e => by cases e), .inr ⟨g, 0, rfl, lt_of_block hg, fun i hi => ?_⟩⟩
    obtain ⟨ro, c2, hu⟩ := own_slice (h.row i hi)
    refine ⟨ro, _, c2, ?_, own_sb (by rw [← hu]; exact h.row i hi)⟩
    rw [Nat.zero_add, h.own.cellAt i (by omega), ← hu, List.getD_eq_getElem?_getD, List.getElem?_eq_getElem (by omega)]
    rfl
end
end Go.Proofs.Ytcpncmdnefemmaa
