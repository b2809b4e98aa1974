/- Two clocks that hear of one another: the world of racelaw8.HlcRises and what it keeps to. Conditions: none of its own. -/
import Derived.Test.YtmpokhjchbaleaaDoorG
import Derived.Test.YtmpokhjchbaleaaDoorK
import Derived.Laws.OwnMore
import Derived.Laws.AppendOwn
import Derived.Laws.AppendOwnNone
import Derived.Maps.AppendAt
import Derived.OwnWalk
import Derived.Deep.Upon
import Derived.Deep.CutRange
namespace Go.Proofs.YtmpokhjchbaleaaDoor
open Go.RowKit
def upd {α : Type} (f : Nat → α) (k : Nat) (v : α) : Nat → α := fun i => if i = k then v else f i
theorem upd_same {α : Type} (f : Nat → α) (k : Nat) (v : α) : upd f k v k = v := if_pos rfl
theorem upd_ne {α : Type} (f : Nat → α) {k i : Nat} (h : i ≠ k) (v : α) : upd f k v i = f i := if_neg h
def cellsS (l : List St) : List Value := l.flatMap fun s => [.int .i64 s.w, .int .i64 s.l, .int .i64 s.n]
theorem cellsS_cons (s : St) (l : List St) : cellsS (s :: l) = .int .i64 s.w :: .int .i64 s.l :: .int .i64 s.n :: cellsS l := rfl
theorem cellsS_append (l m : List St) : cellsS (l ++ m) = cellsS l ++ cellsS m := by unfold cellsS; simp
theorem cellsS_get : ∀ (l : List St) (i : Nat) (h : i < l.length), (cellsS l)[i * 3]? = some (.int .i64 l[i].w) ∧ (cellsS l)[i * 3 + 1]? = some (.int .i64 l[i].l) ∧ (cellsS l)[i * 3 + 2]? = some (.int .i64 l[i].n)
  | [], i, h => absurd h (Nat.not_lt_zero _)
  | r :: t, 0, _ => ⟨rfl, rfl, rfl⟩
  | r :: t, i + 1, h => by
    have := cellsS_get t i (Nat.lt_of_succ_lt_succ h)
    rw [cellsS_cons, show (i + 1) * 3 = i * 3 + 3 by omega]
    exact this
theorem own_tn {S : Nat → Prop} {base : Nat} {e : TypeId} {size : Nat} {v : Value} {n : Nat} {xs : List Value} {w w' : World} (ho : w.ownsRow base e size v n xs) (h : Tn S w w') (hv : ∀ k, v.ownBlock = some k → ¬ S k) : w'.ownsRow base e size v n xs := by
  refine ⟨ho.1, ?_⟩
  rcases ho.2 with h2 | ⟨g, cap, cur, rfl, hb, hg, r⟩
  · exact .inl h2
  · exact .inr ⟨g, cap, cur, rfl, hb, (h.block g (Array.getElem?_eq_some_iff.1 hg).1 (hv g rfl)).trans hg, r⟩
/-- A stamp within a row. -/
structure OL (w : World) (g o : Nat) (s : St) : Prop where
  c0 : w.cell? ⟨g, o, none⟩ = some (.int .i64 s.w)
  c1 : w.cell? ⟨g, o + 1, none⟩ = some (.int .i64 s.l)
  c2 : w.cell? ⟨g, o + 2, none⟩ = some (.int .i64 s.n)
  f0 : w.frozen? ⟨g, o, none⟩ = false
  f1 : w.frozen? ⟨g, o + 1, none⟩ = false
  f2 : w.frozen? ⟨g, o + 2, none⟩ = false
theorem own_ol {w : World} {base : Nat} {g n cap : Nat} {l : List St} {m : Nat} (h : w.ownsRow base 23 3 (.slice (some ⟨g, 0, none⟩) n cap) n (cellsS l)) (hm : m < l.length) : OL w g (m * 3) l[m] := by
  obtain ⟨h0, h1, h2⟩ := cellsS_get l m hm
  have c := fun j u hu => h.cells (g := g) rfl j u hu
  have c0 := c _ _ h0; have c1 := c _ _ h1; have c2 := c _ _ h2
  rw [Addr.add_lit, Nat.zero_add] at c0 c1 c2
  exact ⟨c0, c1, c2, h.frozenAt _, h.frozenAt _, h.frozenAt _⟩
theorem own_shape {w : World} {base : Nat} {e : TypeId} {size : Nat} {v : Value} {n : Nat} {xs : List Value} (h : w.ownsRow base e size v n xs) (hn : 0 < n) : ∃ g cap, v = .slice (some ⟨g, 0, none⟩) n cap := by
  rcases h.2 with ⟨_, h0⟩ | ⟨g, cap, cur, hv, _⟩
  · omega
  · exact ⟨g, cap, hv⟩
theorem own_slice {w : World} {base : Nat} {e : TypeId} {size : Nat} {v : Value} {n : Nat} {xs : List Value} (h : w.ownsRow base e size v n xs) : ∃ ao cap, v = .slice ao n cap := by
  rcases h.2 with ⟨rfl, rfl⟩ | ⟨g, cap, cur, rfl, _⟩
  · exact ⟨none, 0, rfl⟩
  · exact ⟨_, cap, rfl⟩
theorem OL.tn {S : Nat → Prop} {w w' : World} {g o : Nat} {s : St} (h : OL w g o s) (ht : Tn S w w') (hn : ¬ S g) : OL w' g o s := by
  have hl : g < w.heap.size := World.block_lt_of_cell? w ⟨g, o, none⟩ h.c0
  exact ⟨ht.cell h.c0 hn, ht.cell h.c1 hn, ht.cell h.c2 hn, (ht.frozen hl hn).trans h.f0, (ht.frozen hl hn).trans h.f1, (ht.frozen hl hn).trans h.f2⟩
abbrev setL (w : World) (g o : Nat) (u : St) : World := ((w.setCell ⟨g, o, none⟩ (.int .i64 u.w)).setCell ⟨g, o + 1, none⟩ (.int .i64 u.l)).setCell ⟨g, o + 2, none⟩ (.int .i64 u.n)
theorem OL.set {w : World} {g o : Nat} {s : St} (h : OL w g o s) (u : St) : OL (setL w g o u) g o u := by
  have n01 : (⟨g, o + 1, none⟩ : Addr) ≠ ⟨g, o, none⟩ := by simp
  have n02 : (⟨g, o + 2, none⟩ : Addr) ≠ ⟨g, o, none⟩ := by simp
  have n12 : (⟨g, o + 2, none⟩ : Addr) ≠ ⟨g, o + 1, none⟩ := by simp
  refine ⟨?_, ?_, ?_, by simp [h.f0], by simp [h.f1], by simp [h.f2]⟩
  · rw [World.cell?_setCell_other (h := n02), World.cell?_setCell_other (h := n01), World.cell?_setCell_same (h := h.c0)]
  · rw [World.cell?_setCell_other (h := n12), World.cell?_setCell_same (u := .int .i64 s.l) (h := by rw [World.cell?_setCell_other (h := n01.symm)]; exact h.c1)]
  · rw [World.cell?_setCell_same (u := .int .i64 s.n) (h := by rw [World.cell?_setCell_other (h := n12.symm), World.cell?_setCell_other (h := n02.symm)]; exact h.c2)]
theorem OL.other {w : World} {g o p : Nat} {s : St} (h : OL w g o s) (hp : p + 2 < o ∨ o + 2 < p) (u : St) : OL (setL w g p u) g o s := by
  have n (a b : Nat) (hab : b ≠ a) : (⟨g, b, none⟩ : Addr) ≠ ⟨g, a, none⟩ := fun e => hab (by injection e)
  refine ⟨?_, ?_, ?_, by simp [h.f0], by simp [h.f1], by simp [h.f2]⟩
  · rw [World.cell?_setCell_other (h := n _ _ (by omega)), World.cell?_setCell_other (h := n _ _ (by omega)), World.cell?_setCell_other (h := n _ _ (by omega))]; exact h.c0
  · rw [World.cell?_setCell_other (h := n _ _ (by omega)), World.cell?_setCell_other (h := n _ _ (by omega)), World.cell?_setCell_other (h := n _ _ (by omega))]; exact h.c1
  · rw [World.cell?_setCell_other (h := n _ _ (by omega)), World.cell?_setCell_other (h := n _ _ (by omega)), World.cell?_setCell_other (h := n _ _ (by omega))]; exact h.c2
theorem Tn.setL {S : Nat → Prop} {w w1 : World} (h : Tn S w w1) {g : Nat} (hp : g < w.heap.size → S g) (o : Nat) (u : St) : Tn S w (setL w1 g o u) :=
  ((h.setCell (p := ⟨g, o, none⟩) hp _).setCell (p := ⟨g, o + 1, none⟩) hp _).setCell (p := ⟨g, o + 2, none⟩) hp _
/-- The world of the loop: two clocks, what each has at least, what was told. -/
structure RI (B M : Nat) (w wr : World) (CL LW : Nat) (K : Nat → Nat) (S L : Nat → St) (tv : Value) (T : List St) : Prop where
  hb : Below B w wr
  cl : ∀ i, i < 2 → wr.cell? ⟨CL, i, none⟩ = some (ptr (K i))
  at_ : ∀ i, i < 2 → At wr (K i) (S i)
  lo : ∀ i, i < 2 → OL wr LW (i * 3) (L i)
  told : wr.ownsRow M 23 3 tv T.length (cellsS T)
  size : M ≤ wr.heap.size
  kb : ∀ i, i < 2 → B ≤ K i ∧ K i < M
  kk : K 0 ≠ K 1
  clb : B ≤ CL ∧ CL < M
  lwb : B ≤ LW ∧ LW < M
  ck : ∀ i, i < 2 → CL ≠ K i ∧ LW ≠ K i
  cw : CL ≠ LW
section
variable {B M : Nat} {w wr wr' : World} {CL LW : Nat} {K : Nat → Nat} {S L : Nat → St} {tv : Value} {T : List St}
theorem RI.le (h : RI B M w wr CL LW K S L tv T) : B ≤ wr.heap.size := by have := h.clb; have := h.size; omega
theorem RI.below_of (h : RI B M w wr CL LW K S L tv T) {P : Nat → Prop} (ht : Tn P wr wr') (h1 : ∀ k, P k → B ≤ k) : Below B w wr' := h.hb.trans (ht.below h.le h1)
theorem RI.tn {P : Nat → Prop} (h : RI B M w wr CL LW K S L tv T) (ht : Tn P wr wr') (h1 : ∀ k, P k → M ≤ k) (h2 : ∀ k, tv.ownBlock = some k → ¬ P k) : RI B M w wr' CL LW K S L tv T := by
  have n {k : Nat} (hk : k < M) : ¬ P k := fun e => by have := h1 k e; omega
  exact ⟨h.below_of ht (fun k e => by have := h1 k e; have := h.clb; omega), fun i hi => ht.cell (h.cl i hi) (n h.clb.2), fun i hi => (h.at_ i hi).tn ht (n (h.kb i hi).2), fun i hi => (h.lo i hi).tn ht (n h.lwb.2), own_tn h.told ht h2, Nat.le_trans h.size ht.size, h.kb, h.kk, h.clb, h.lwb, h.ck, h.cw⟩
theorem RI.below (h : RI B M w wr CL LW K S L tv T) (hb : Below wr.heap.size wr wr') : RI B M w wr' CL LW K S L tv T :=
  h.tn (P := fun _ => False) (Tn.of_below hb) (fun _ e => e.elim) (fun _ _ e => e)
theorem RI.lt (h : RI B M w wr CL LW K S L tv T) {k : Nat} (hk : tv.ownBlock = some k) : M ≤ k ∧ k < wr.heap.size := h.told.lt k hk
theorem RI.clock (h : RI B M w wr CL LW K S L tv T) {k : Nat} (hk : k < 2) {s : St} (ht : Tn (fun j => j = K k) wr wr') (ha : At wr' (K k) s) : RI B M w wr' CL LW K (upd S k s) L tv T := by
  refine ⟨h.below_of ht (fun j e => by subst e; exact (h.kb k hk).1), fun i hi => ht.cell (h.cl i hi) (h.ck k hk).1, fun i hi => ?_, fun i hi => (h.lo i hi).tn ht (h.ck k hk).2, own_tn h.told ht (fun j e1 e2 => ?_), Nat.le_trans h.size ht.size, h.kb, h.kk, h.clb, h.lwb, h.ck, h.cw⟩
  · by_cases e : i = k
    · subst e; rw [upd_same]; exact ha
    · rw [upd_ne _ e]
      refine (h.at_ i hi).tn ht (fun e2 => ?_)
      have := h.kk
      rcases (show (i = 0 ∧ k = 1) ∨ (i = 1 ∧ k = 0) by omega) with ⟨rfl, rfl⟩ | ⟨rfl, rfl⟩
      · exact this e2
      · exact this e2.symm
  · have := (h.lt e1).1
    have := (h.kb k hk).2
    have e2 : j = K k := e2
    omega
theorem RI.low (h : RI B M w wr CL LW K S L tv T) {k : Nat} (hk : k < 2) (s : St) : RI B M w (setL wr LW (k * 3) s) CL LW K S (upd L k s) tv T := by
  have ht : Tn (fun j => j = LW) wr (setL wr LW (k * 3) s) := (Tn.refl (fun j => j = LW) wr).setL (fun _ => rfl) _ _
  refine ⟨h.below_of ht (fun j e => by subst e; exact h.lwb.1), fun i hi => ht.cell (h.cl i hi) h.cw, fun i hi => (h.at_ i hi).tn ht (fun e => (h.ck i hi).2 e.symm), fun i hi => ?_, own_tn h.told ht (fun j e1 e2 => ?_), Nat.le_trans h.size ht.size, h.kb, h.kk, h.clb, h.lwb, h.ck, h.cw⟩
  · by_cases e : i = k
    · subst e; rw [upd_same]; exact (h.lo i hi).set s
    · rw [upd_ne _ e]; exact (h.lo i hi).other (by omega) s
  · have := (h.lt e1).1
    have := h.lwb.2
    have e2 : j = LW := e2
    omega
theorem RI.push (h : RI B M w wr CL LW K S L tv T) {tv' : Value} {s : St} (hg : wr.grownBy wr' tv.ownBlock) (ho : wr'.ownsRow M 23 3 tv' (T.length + 1) (cellsS T ++ cellsS [s])) : RI B M w wr' CL LW K S L tv' (T ++ [s]) := by
  have n {k : Nat} (hk : k < M) : ∀ r, tv.ownBlock = some r → ¬ r = k := fun r e1 e2 => by have := (h.lt e1).1; omega
  have ht : Tn (fun j => tv.ownBlock = some j) wr wr' := ⟨hg.os, hg.tape, hg.output, hg.size, fun k hk hne => hg.block k hk (fun e => hne e.symm)⟩
  have nn {k : Nat} (hk : k < M) : ¬ tv.ownBlock = some k := fun e => by have := (h.lt e).1; omega
  exact ⟨h.below_of ht (fun j e => by have := (h.lt e).1; have := h.clb; omega), fun i hi => ht.cell (h.cl i hi) (nn h.clb.2), fun i hi => (h.at_ i hi).tn ht (nn (h.kb i hi).2), fun i hi => (h.lo i hi).tn ht (nn h.lwb.2), by rw [List.length_append, cellsS_append]; exact ho, Nat.le_trans h.size ht.size, h.kb, h.kk, h.clb, h.lwb, h.ck, h.cw⟩
end
/-- In plain terms: what the two clocks keep to. -/
def le2 (x y : St) : Prop := x.w < y.w ∨ (x.w = y.w ∧ x.l ≤ y.l)
def lt2 (x y : St) : Prop := x.w < y.w ∨ (x.w = y.w ∧ x.l < y.l)
structure PI (W : Int) (N : Nat → Int) (S L : Nat → St) (T : List St) : Prop where
  may : ∀ i, i < 2 → mayS (S i) = true
  node : ∀ i, i < 2 → (S i).n = N i
  wall : ∀ i, i < 2 → (S i).w ≤ W
  low : ∀ i, i < 2 → le2 (L i) (S i)
  told : ∀ t ∈ T, ∃ i, i < 2 ∧ t.n = N i ∧ le2 t (S i)
  nn : N 0 ≠ N 1
theorem le2_trans {x y z : St} (h : le2 x y) (h2 : le2 y z) : le2 x z := by unfold le2 at *; omega
theorem obs_ge {s t : St} (ht : mayS t = true) : le2 s (obsS s t) ∧ le2 t (obsS s t) ∧ ((obsS s t).w = s.w ∨ (obsS s t).w = t.w) := by
  unfold obsS
  rw [if_pos ht, later_new]
  split
  · rename_i h; exact ⟨by unfold le2; simp only; omega, .inr ⟨rfl, Int.le_refl _⟩, .inr rfl⟩
  · rename_i h; exact ⟨by unfold le2; omega, by unfold le2; omega, .inl rfl⟩
theorem PI.up {W : Int} {N : Nat → Int} {S L : Nat → St} {T : List St} (h : PI W N S L T) {k : Nat} {s l : St} (hm : mayS s = true) (hn : s.n = N k) (hw : s.w ≤ W) (hs : le2 (S k) s) (hl : le2 l s) : PI W N (upd S k s) (upd L k l) T := by
  refine ⟨fun i hi => ?_, fun i hi => ?_, fun i hi => ?_, fun i hi => ?_, fun t ht => ?_, h.nn⟩
  · by_cases e : i = k
    · subst e; rw [upd_same]; exact hm
    · rw [upd_ne _ e]; exact h.may i hi
  · by_cases e : i = k
    · subst e; rw [upd_same]; exact hn
    · rw [upd_ne _ e]; exact h.node i hi
  · by_cases e : i = k
    · subst e; rw [upd_same]; exact hw
    · rw [upd_ne _ e]; exact h.wall i hi
  · by_cases e : i = k
    · subst e; rw [upd_same, upd_same]; exact hl
    · rw [upd_ne _ e, upd_ne _ e]; exact h.low i hi
  · obtain ⟨i, hi, h1, h2⟩ := h.told t ht
    refine ⟨i, hi, h1, ?_⟩
    by_cases e : i = k
    · subst e; rw [upd_same]; exact le2_trans h2 hs
    · rw [upd_ne _ e]; exact h2
theorem PI.more {W W' : Int} {N : Nat → Int} {S L : Nat → St} {T : List St} (h : PI W N S L T) (hw : W ≤ W') : PI W' N S L T := ⟨h.may, h.node, fun i hi => by have := h.wall i hi; omega, h.low, h.told, h.nn⟩
/-- What Now answers, and what goes with it. -/
theorem now_facts {s : St} (hs : mayS s = true) (p : Int) (h : (peekS s p).2 = 0) : mayS (peekS s p).1 = true ∧ (peekS s p).1.n = s.n ∧ lt2 s (peekS s p).1 ∧ ((peekS s p).1.w = p ∨ (peekS s p).1.w = s.w) ∧ p ≤ (peekS s p).1.w := by
  have hr := mayS_iff.1 hs
  have hn := peek_node s p h
  rw [mayS_iff]
  unfold peekS at h hn ⊢
  split at h
  · cases h
  · rename_i h1
    rw [if_neg h1] at hn ⊢
    split at h
    · rename_i h2
      rw [if_pos h2] at hn ⊢
      exact ⟨⟨by simp only; omega, by simp only; omega, hr.2.2⟩, rfl, .inl h2, .inl rfl, Int.le_refl _⟩
    · rename_i h2
      rw [if_neg h2] at hn ⊢
      split at h
      · cases h
      · rename_i h3
        rw [if_neg h3] at hn ⊢
        exact ⟨⟨hr.1, by simp only; omega, hr.2.2⟩, rfl, .inr ⟨rfl, by simp only; omega⟩, .inr rfl, by simp only; omega⟩
theorem now_err (s : St) (p : Int) (h : (peekS s p).2 ≠ 0) : 281474976710656 < p ∨ s.l = 65535 := by
  unfold peekS at h
  split at h
  · rename_i h1; exact .inl h1
  · split at h
    · exact absurd rfl h
    · split at h
      · rename_i h3; exact .inr h3
      · exact absurd rfl h
theorem PI.fresh {W : Int} {N : Nat → Int} {S L : Nat → St} {T : List St} (h : PI W N S L T) {k : Nat} (hk : k < 2) {s : St} (hn : s.n = N k) (hlt : lt2 (S k) s) : s ∉ T := by
  intro ht
  obtain ⟨i, hi, h1, h2⟩ := h.told s ht
  have e : i = k := by
    have hnn := h.nn
    rcases (show (i = 0 ∨ i = 1) by omega) with rfl | rfl <;> rcases (show (k = 0 ∨ k = 1) by omega) with rfl | rfl
    · rfl
    · exact absurd (h1.symm.trans hn) hnn
    · exact absurd (hn.symm.trans h1) hnn
    · rfl
  subst e
  unfold le2 lt2 at *
  omega
theorem PI.tell {W : Int} {N : Nat → Int} {S L : Nat → St} {T : List St} (h : PI W N S L T) {k : Nat} (hk : k < 2) (hn : (S k).n = N k) : PI W N S L (T ++ [S k]) :=
  ⟨h.may, h.node, h.wall, h.low, fun t ht => by
    rcases List.mem_append.1 ht with h1 | h1
    · exact h.told t h1
    · obtain rfl : t = S k := by simpa using h1
      exact ⟨k, hk, hn, by unfold le2; omega⟩, h.nn⟩
end Go.Proofs.YtmpokhjchbaleaaDoor
