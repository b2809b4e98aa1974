/- Worlds of which some blocks have turned; rows of the call's own beside each other. Conditions: none. -/
import Derived.Test.YtfcdajkgopcmpaaJOs
import Derived.Test.YtfcdajkgopcmpaaJFd
import Derived.Maps.AppendAt
namespace Go.Proofs.Ytfcdajkgopcmpaa
open Go.RowKit
abbrev ptr (a : Nat) : Value := .pointer (some ⟨a, 0, none⟩)
/-- Nothing has turned but blocks of S and new ones. -/
structure Tn (S : Nat → Prop) (w w' : World) : Prop where
  os : w'.os = w.os
  tape : w'.tape = w.tape
  output : w'.output = w.output
  size : w.heap.size ≤ w'.heap.size
  block : ∀ k, k < w.heap.size → ¬ S k → w'.heap[k]? = w.heap[k]?
/-- What a step may have turned from then on. -/
def Gw (S : Nat → Prop) (w w' : World) (k : Nat) : Prop := S k ∨ (w.heap.size ≤ k ∧ k < w'.heap.size)
section
variable {S U C : Nat → Prop} {B : Nat} {w w' w1 w2 : World}
theorem Tn.refl (S : Nat → Prop) (w : World) : Tn S w w := ⟨rfl, rfl, rfl, Nat.le_refl _, fun _ _ _ => rfl⟩
theorem Tn.trans (h : Tn S w w1) (h2 : Tn U w1 w2) (hu : ∀ k, k < w.heap.size → U k → S k) : Tn S w w2 :=
  ⟨h2.os.trans h.os, h2.tape.trans h.tape, h2.output.trans h.output, Nat.le_trans h.size h2.size, fun k hk hs =>
    (h2.block k (Nat.lt_of_lt_of_le hk h.size) (fun hU => hs (hu k hk hU))).trans (h.block k hk hs)⟩
theorem Tn.mono (h : Tn S w w') (hs : ∀ k, k < w.heap.size → S k → U k) : Tn U w w' := (Tn.refl U w).trans h hs
theorem Tn.of_below (h : Below w.heap.size w w') : Tn S w w' := ⟨h.os, h.tape, h.output, h.size, fun k hk _ => h.block k hk⟩
theorem Tn.alloc (h : Tn S w w1) (o : Obj) : Tn S w (w1.alloc o) := h.trans (U := fun _ => False) (Tn.of_below ((Below.refl _ _).alloc (Nat.le_refl _) o)) (fun _ _ h => h.elim)
theorem Tn.setCell (h : Tn S w w1) {p : Addr} (hp : p.block < w.heap.size → S p.block) (u : Value) : Tn S w (w1.setCell p u) :=
  h.trans (U := fun k => k = p.block) ⟨rfl, rfl, rfl, by simp [World.setCell], fun k _ hk => Below.heap_setCell _ _ _ _ hk⟩ (fun k hk e => by subst e; exact hp hk)
theorem Tn.drew (h : Tn S w w1) : Tn S w w1.drew := ⟨h.os, h.tape, h.output, h.size, h.block⟩
theorem Tn.grown {row : Option Nat} (h : Tn S w w1) (hg : w1.grownBy w2 row) (hr : ∀ k, row = some k → k < w.heap.size → S k) : Tn S w w2 :=
  h.trans (U := fun k => row = some k) ⟨hg.os, hg.tape, hg.output, hg.size, fun k hk hne => hg.block k hk (fun e => hne e.symm)⟩ (fun k hk e => hr k e hk)
theorem Tn.below (h : Tn S w w') (hB : B ≤ w.heap.size) (hs : ∀ k, S k → B ≤ k) : Below B w w' :=
  ⟨h.os, h.tape, h.output, h.size, fun k hk => h.block k (by omega) (fun e => by have := hs k e; omega)⟩
theorem Tn.cell (h : Tn S w w') {p : Addr} {v : Value} (hc : w.cell? p = some v) (hp : ¬ S p.block) : w'.cell? p = some v :=
  (World.cell?_of_block (h.block p.block (World.block_lt_of_cell? w p hc) hp)).trans hc
theorem Tn.at_ (h : Tn S w w') {k : Nat} {o : Obj} (hc : w.heap[k]? = some o) (hp : ¬ S k) : w'.heap[k]? = some o :=
  (h.block k (Array.getElem?_eq_some_iff.1 hc).1 hp).trans hc
theorem Gw.size (h : w.heap.size ≤ w'.heap.size) {k : Nat} (hs : ∀ k, S k → k < w.heap.size) (hk : Gw S w w' k) : k < w'.heap.size := by
  rcases hk with hk | hk
  · have := hs k hk; omega
  · exact hk.2
theorem Gw.lo {B : Nat} (hs : ∀ k, S k → B ≤ k) (hB : B ≤ w.heap.size) {k : Nat} (hk : Gw S w w' k) : B ≤ k := by
  rcases hk with hk | hk
  · exact hs k hk
  · omega
theorem lt_of_at {k : Nat} {o : Obj} (hc : w.heap[k]? = some o) : k < w.heap.size := (Array.getElem?_eq_some_iff.1 hc).1
end
/-- A row stays where its block has not turned. -/
theorem own_tn {S : Nat → Prop} {base : Nat} {e : TypeId} {size : Nat} {v : Value} {n : Nat} {xs : List Value} {w w' : World} (ho : w.ownsRow base e size v n xs) (h : Tn S w w') (hv : ∀ k, v.ownBlock = some k → ¬ S k) : w'.ownsRow base e size v n xs := by
  refine ⟨ho.1, ?_⟩
  rcases ho.2 with h2 | ⟨g, cap, cur, rfl, hb, hg, r⟩
  · exact .inl h2
  · exact .inr ⟨g, cap, cur, rfl, hb, h.at_ hg (hv g rfl), r⟩
theorem own_mono {base base' : Nat} {e : TypeId} {size : Nat} {v : Value} {n : Nat} {xs : List Value} {w : World} (ho : w.ownsRow base e size v n xs) (h : base' ≤ base) : w.ownsRow base' e size v n xs := by
  refine ⟨ho.1, ?_⟩
  rcases ho.2 with h2 | ⟨g, cap, cur, rfl, hb, r⟩
  · exact .inl h2
  · exact .inr ⟨g, cap, cur, rfl, by omega, r⟩
theorem own_raise {base base' : Nat} {e : TypeId} {size : Nat} {v : Value} {n : Nat} {xs : List Value} {w : World} (ho : w.ownsRow base e size v n xs) (h : ∀ k, v.ownBlock = some k → base' ≤ k) : w.ownsRow base' e size v n xs := by
  refine ⟨ho.1, ?_⟩
  rcases ho.2 with h2 | ⟨g, cap, cur, rfl, hb, r⟩
  · exact .inl h2
  · exact .inr ⟨g, cap, cur, rfl, h g rfl, r⟩
/-- Rows of two kinds lie in two blocks. -/
theorem own_apart {w : World} {B C e f n m a b : Nat} {v u : Value} {xs ys : List Value} (h : w.ownsRow B e a v n xs) (h2 : w.ownsRow C f b u m ys) (hef : e ≠ f) : ∀ k, v.ownBlock = some k → u.ownBlock ≠ some k := by
  intro k hk hk2
  rcases h.2 with ⟨rfl, _⟩ | ⟨g, cap, cur, rfl, _, hg, _⟩
  · cases hk
  rcases h2.2 with ⟨rfl, _⟩ | ⟨g', cap', cur', rfl, _, hg', _⟩
  · cases hk2
  simp [Value.ownBlock] at hk hk2
  subst hk hk2
  rw [hg] at hg'
  simp at hg'
  exact hef hg'.2
theorem own_cur {w : World} {base : Nat} {e : TypeId} {size : Nat} {v : Value} {n : Nat} {xs : List Value} (h : w.ownsRow base e size v n xs) {k : Nat} (hk : v.ownBlock = some k) : ∃ cur, w.heap[k]? = some (.cells cur e (0, 0)) := by
  rcases h.2 with ⟨rfl, _⟩ | ⟨g, cap, cur, rfl, _, hg, _⟩
  · cases hk
  · simp [Value.ownBlock] at hk
    subst hk
    exact ⟨cur, hg⟩
theorem below_drewN (w : World) (n : Nat) : Below w.heap.size w (w.drewN n) := by
  induction n generalizing w with
  | zero => exact Below.refl _ _
  | succ n ih => exact (ih w).drew
/-- What one step made of a footprint: only its blocks have turned, and what is added is new. -/
structure Way (C : Nat → Prop) (w : World) (C' : Nat → Prop) (w' : World) : Prop where
  tn : Tn C w w'
  new : ∀ k, C' k → C k ∨ (w.heap.size ≤ k ∧ k < w'.heap.size)
section
variable {C C1 C2 : Nat → Prop} {w w1 w2 : World}
theorem Way.refl (C : Nat → Prop) (w : World) : Way C w C w := ⟨Tn.refl _ _, fun _ h => .inl h⟩
theorem Way.trans (h : Way C w C1 w1) (h2 : Way C1 w1 C2 w2) : Way C w C2 w2 :=
  ⟨h.tn.trans h2.tn fun k hk h1 => by
    rcases h.new k h1 with h0 | h0
    · exact h0
    · omega, fun k hk => by
    have s1 := h.tn.size
    have s2 := h2.tn.size
    rcases h2.new k hk with h0 | h0
    · rcases h.new k h0 with h3 | h3
      · exact .inl h3
      · exact .inr ⟨h3.1, by omega⟩
    · exact .inr ⟨by omega, h0.2⟩⟩
theorem Way.below (h : Way C w C1 w1) (hb : Below w1.heap.size w1 w2) : Way C w C1 w2 := h.trans ⟨Tn.of_below hb, fun _ h => .inl h⟩
theorem Way.of_below (hb : Below w.heap.size w w1) : Way C w C w1 := ⟨Tn.of_below hb, fun _ h => .inl h⟩
end
section
variable {w : World}
theorem own_ne {base T size n a e : Nat} {v : Value} {xs : List Value} {cur : Array Value} (h : w.ownsRow base T size v n xs) (hb : w.heap[a]? = some (.cells cur e (0, 0))) (he : e ≠ T) : ∀ k, v.ownBlock = some k → ¬ k = a := by
  rintro k hk rfl
  obtain ⟨c2, h2⟩ := own_cur h hk
  rw [hb] at h2
  injection h2 with h2
  injection h2 with _ h2 _
  exact he h2
end
theorem heap_set {w : World} {b o : Nat} {cs cs' : Array Value} {t : TypeId} (h : w.heap[b]? = some (.cells cs t (0, 0))) (v : Value) (hc : cs.setIfInBounds o v = cs') : (w.setCell ⟨b, o, none⟩ v).heap[b]? = some (.cells cs' t (0, 0)) := by
  rw [heap_setCell_same w b o cs t v h, hc]
theorem tn_set {b i : Nat} {w w' : World} (h : Tn (· = b) w w') (v : Value) : Tn (· = b) w (w'.setCell ⟨b, i, none⟩ v) := h.setCell (fun _ => rfl) v
end Go.Proofs.Ytfcdajkgopcmpaa
