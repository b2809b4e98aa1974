/- The readers and writers of chapter 2 in memory: which blocks they own, and what a call that touches one of them leaves alone. Conditions: none of its own. -/
import Derived.Test.YtioopibmpcbcjaaB
import Derived.Test.YtioopibmpcbcjaaP
import Derived.Maps.AppendAt
import Derived.OneCell
import Derived.Laws.BytesArg
namespace Go.Proofs.Ytioopibmpcbcjaa
open Go.RowKit

/-- Of what was there nothing has turned but the blocks of S. -/
structure Fr (S : Nat → Prop) (w w' : World) : Prop where
  os : w'.os = w.os
  tape : w'.tape = w.tape
  output : w'.output = w.output
  size : w.heap.size ≤ w'.heap.size
  block : ∀ k, k < w.heap.size → ¬ S k → w'.heap[k]? = w.heap[k]?
section
variable {S T : Nat → Prop} {a b c w w' : World} {B : Nat}
theorem Fr.refl (S : Nat → Prop) (w : World) : Fr S w w := ⟨rfl, rfl, rfl, Nat.le_refl _, fun _ _ _ => rfl⟩
/-- Two steps; what the second one lets go lies in S or is new. -/
theorem Fr.trans (h : Fr S a b) (k : Fr T b c) (hT : ∀ i, i < a.heap.size → T i → S i) : Fr S a c :=
  ⟨k.os.trans h.os, k.tape.trans h.tape, k.output.trans h.output, Nat.le_trans h.size k.size, fun i hi hn =>
    (k.block i (Nat.lt_of_lt_of_le hi h.size) (fun hh => hn (hT i hi hh))).trans (h.block i hi hn)⟩
theorem Fr.mono (h : Fr S a b) (hT : ∀ i, i < a.heap.size → S i → T i) : Fr T a b :=
  ⟨h.os, h.tape, h.output, h.size, fun i hi hn => h.block i hi (fun hh => hn (hT i hi hh))⟩
theorem Fr.below (h : Fr S a b) (hS : ∀ i, S i → B ≤ i) (hB : B ≤ a.heap.size) : Below B a b :=
  ⟨h.os, h.tape, h.output, h.size, fun i hi => h.block i (by omega) (fun hh => by have := hS i hh; omega)⟩
theorem Fr.of_below (h : Below B a b) (hS : ∀ i, i < a.heap.size → B ≤ i → S i) : Fr S a b :=
  ⟨h.os, h.tape, h.output, h.size, fun i hi hn => h.block i (by
    rcases Nat.lt_or_ge i B with h1 | h1
    · exact h1
    · exact absurd (hS i hi h1) hn)⟩
theorem Fr.drew (h : Fr S a b) : Fr S a b.drew := ⟨h.os, h.tape, h.output, h.size, h.block⟩
theorem Fr.drewN (h : Fr S a b) (n : Nat) : Fr S a (b.drewN n) := by
  refine ⟨?_, ?_, ?_, ?_, ?_⟩ <;> simp [World.drewN] <;> first | exact h.os | exact h.tape | exact h.output | exact h.size | exact h.block
theorem Fr.alloc (h : Fr S a b) (o : Obj) : Fr S a (b.alloc o) :=
  h.trans (T := fun _ => False) ⟨rfl, rfl, rfl, by simp, fun k hk _ => Below.heap_alloc _ _ _ hk⟩ (fun _ _ hh => hh.elim)
theorem Fr.setCell (h : Fr S a b) {p : Nat} {o : Nat} (hp : p < a.heap.size → S p) (u : Value) : Fr S a (b.setCell ⟨p, o, none⟩ u) :=
  h.trans (T := fun k => k = p) ⟨rfl, rfl, rfl, by simp [World.setCell], fun k _ hk => Below.heap_setCell _ _ _ _ hk⟩ (fun _ hi hh => by subst hh; exact hp hi)
theorem Fr.grown (h : Fr S a b) {row : Option Nat} (hg : b.grownBy c row) (hr : ∀ k, k < a.heap.size → row = some k → S k) : Fr S a c :=
  h.trans (T := fun k => row = some k) ⟨hg.os, hg.tape, hg.output, hg.size, fun k hk hn => hg.block k hk (fun e => hn e.symm)⟩ hr
theorem Fr.heap (h : Fr S a b) {k : Nat} {o : Obj} (hk : a.heap[k]? = some o) (hn : ¬ S k) : b.heap[k]? = some o := (h.block k (lt_of_block hk) hn).trans hk
theorem Fr.own (h : Fr S a b) {base : Nat} {e : TypeId} {size : Nat} {v : Value} {n : Nat} {xs : List Value} (ho : a.ownsRow base e size v n xs) (hn : ∀ k, v.ownBlock = some k → ¬ S k) : b.ownsRow base e size v n xs := by
  refine ⟨ho.1, ?_⟩
  rcases ho.2 with h2 | ⟨g, cap, cur, rfl, hb, hg, r⟩
  · exact .inl h2
  · exact .inr ⟨g, cap, cur, rfl, hb, h.heap hg (hn g rfl), r⟩
end

theorem heap_setCell_self {w : World} {p o : Nat} {cs : Array Value} {t : TypeId} {fz : Nat × Nat} (h : w.heap[p]? = some (.cells cs t fz)) (u : Value) :
    (w.setCell ⟨p, o, none⟩ u).heap[p]? = some (.cells (cs.setIfInBounds o u) t fz) := by
  have hlt := lt_of_block h
  have h' : w.heap[p] = .cells cs t fz := by simpa [Array.getElem?_eq_getElem hlt] using h
  show (w.heap.modify p _)[p]? = _
  rw [Array.getElem?_eq_getElem (by simpa using hlt), Array.getElem_modify_self, h']
  rfl
theorem cell_in {w : World} {p o : Nat} {cs : Array Value} {t : TypeId} {fz : Nat × Nat} {u : Value} (h : w.heap[p]? = some (.cells cs t fz)) (hu : cs[o]? = some u) : w.cell? ⟨p, o, none⟩ = some u := by
  simp [World.cell?, h, hu]
theorem free_in {w : World} {p : Nat} {cs : Array Value} {t : TypeId} (h : w.heap[p]? = some (.cells cs t (0, 0))) (o : Nat) : w.frozen? ⟨p, o, none⟩ = false := by
  simp [World.frozen?, h]

/-- Bytes as cells. -/
def bys (l : List UInt8) : List Value := l.map fun b => Value.int .u8 (b.toNat : Int)
theorem bys_length (l : List UInt8) : (bys l).length = l.length := by simp [bys]
theorem bys_append (a b : List UInt8) : bys (a ++ b) = bys a ++ bys b := by simp [bys]

/-- A slice of bytes, in a block of K. -/
def HasB (K : Nat → Prop) (w : World) (v : Value) (l : List UInt8) : Prop :=
  ∃ ao cap, v = .slice ao l.length cap ∧ l.length ≤ cap ∧ cap ≤ maxLen ∧ (ao = none → l = [] ∧ cap = 0) ∧
    (l = [] ∨ ∃ b off, ao = some ⟨b, off, none⟩ ∧ K b ∧ b < w.heap.size ∧ ∀ i, i < l.length → w.cell? ⟨b, off + i, none⟩ = some (.int .u8 ((l.getD i 0).toNat : Int)))
theorem HasB.fr {S K : Nat → Prop} {w w' : World} {v : Value} {l : List UInt8} (h : HasB K w v l) (hb : Fr S w w') (hC : ∀ k, K k → ¬ S k) : HasB K w' v l := by
  obtain ⟨ao, cap, h1, h2, h3, h4, h5⟩ := h
  refine ⟨ao, cap, h1, h2, h3, h4, ?_⟩
  rcases h5 with h5 | ⟨b, off, rfl, hB, hlt, hc⟩
  · exact .inl h5
  · exact .inr ⟨b, off, rfl, hB, Nat.lt_of_lt_of_le hlt hb.size, fun i hi => (World.cell?_of_block (a := ⟨b, off + i, none⟩) (hb.block b hlt (hC b hB))).trans (hc i hi)⟩
theorem HasB.mono {K L : Nat → Prop} {w : World} {v : Value} {l : List UInt8} (h : HasB K w v l) (hC : ∀ k, K k → L k) : HasB L w v l := by
  obtain ⟨ao, cap, h1, h2, h3, h4, h5⟩ := h
  exact ⟨ao, cap, h1, h2, h3, h4, h5.imp id fun ⟨b, off, e, hB, r⟩ => ⟨b, off, e, hC b hB, r⟩⟩

theorem fr_set1 {p : Nat} (w : World) (o : Nat) (u : Value) : Fr (fun k => k = p) w (w.setCell ⟨p, o, none⟩ u) := Fr.setCell (S := fun k => k = p) (p := p) (Fr.refl (fun k => k = p) w) (fun _ => rfl) u
theorem fr_set2 {p : Nat} (w : World) (o o' : Nat) (u u' : Value) : Fr (fun k => k = p) w ((w.setCell ⟨p, o, none⟩ u).setCell ⟨p, o', none⟩ u') := Fr.setCell (S := fun k => k = p) (p := p) (fr_set1 w o u) (fun _ => rfl) u'
/-- Nil, or at a plain address. -/
def Plain (v : Value) : Prop := v = .slice none 0 0 ∨ ∃ b off n c, v = .slice (some ⟨b, off, none⟩) n c
/-- A reader of package wire (type 71) or of the document's (type 41): the bytes lie in a block of K. -/
structure Rd (t : TypeId) (K : Nat → Prop) (w : World) (p : Nat) (v : Value) (s : Rst) : Prop where
  cell : w.heap[p]? = some (.cells #[v, .int .i64 (s.pl : Int), .int .i64 s.er, .int .i64 (s.fp : Int)] t (0, 0))
  has : HasB K w v s.bs
  lo : ∀ k, K k → k ≠ p
  le : s.pl ≤ s.bs.length
  room : s.bs.length ≤ 140737488355328
  pla : t = 71 → Plain v
section
variable {t : TypeId} {K : Nat → Prop} {w w' : World} {p : Nat} {v : Value} {s : Rst}
theorem Rd.lt (h : Rd t K w p v s) : p < w.heap.size := lt_of_block h.cell
theorem Rd.c0 (h : Rd t K w p v s) : w.cell? ⟨p, 0, none⟩ = some v := cell_in h.cell rfl
theorem Rd.c1 (h : Rd t K w p v s) : w.cell? ⟨p, 1, none⟩ = some (.int .i64 (s.pl : Int)) := cell_in h.cell rfl
theorem Rd.c2 (h : Rd t K w p v s) : w.cell? ⟨p, 2, none⟩ = some (.int .i64 s.er) := cell_in h.cell rfl
theorem Rd.c3 (h : Rd t K w p v s) : w.cell? ⟨p, 3, none⟩ = some (.int .i64 (s.fp : Int)) := cell_in h.cell rfl
theorem Rd.free (h : Rd t K w p v s) (o : Nat) : w.frozen? ⟨p, o, none⟩ = false := free_in h.cell o
/-- What another call does leaves a reader alone. -/
theorem Rd.fr {S : Nat → Prop} (h : Rd t K w p v s) (hf : Fr S w w') (hp : ¬ S p) (hB : ∀ k, K k → ¬ S k) : Rd t K w' p v s :=
  ⟨hf.heap h.cell hp, h.has.fr hf hB, h.lo, h.le, h.room, h.pla⟩
/-- The place stored. -/
theorem Rd.set1 (h : Rd t K w p v s) (q : Nat) (hq : q ≤ s.bs.length) : Rd t K (w.setCell ⟨p, 1, none⟩ (.int .i64 (q : Int))) p v { s with pl := q } :=
  ⟨heap_setCell_self h.cell _, h.has.fr (fr_set1 w 1 _) (fun k hk e => h.lo k hk e), h.lo, hq, h.room, h.pla⟩
/-- The fault stored. -/
theorem Rd.set23 (h : Rd t K w p v s) (e : Int) (q : Nat) : Rd t K ((w.setCell ⟨p, 2, none⟩ (.int .i64 e)).setCell ⟨p, 3, none⟩ (.int .i64 (q : Int))) p v { s with er := e, fp := q } :=
  ⟨heap_setCell_self (heap_setCell_self h.cell _) _, h.has.fr (fr_set2 w 2 3 _ _) (fun k hk e => h.lo k hk e), h.lo, h.le, h.room, h.pla⟩
theorem Rd.drewN (h : Rd t K w p v s) (n : Nat) : Rd t K (w.drewN n) p v s := h.fr (S := fun _ => False) ((Fr.refl _ w).drewN n) id (fun _ _ => id)
theorem Rd.drew (h : Rd t K w p v s) : Rd t K w.drew p v s := ⟨h.cell, h.has, h.lo, h.le, h.room, h.pla⟩
end
theorem Fr.same {p : Nat} {a b c : World} (h : Fr (fun k => k = p) a b) (k : Fr (fun k => k = p) b c) : Fr (fun k => k = p) a c := h.trans k (fun _ _ h => h)

/-- A Writer: its block, and the slice of what it has written. -/
structure Wr (w : World) (p : Nat) (v : Value) (l : List UInt8) : Prop where
  cell : w.heap[p]? = some (.cells #[v] 65 (0, 0))
  own : w.ownsRow 0 5 1 v l.length (bys l)
section
variable {w w' : World} {p : Nat} {v : Value} {l : List UInt8}
theorem Wr.lt (h : Wr w p v l) : p < w.heap.size := lt_of_block h.cell
theorem Wr.apart (h : Wr w p v l) : v.ownBlock ≠ some p := by
  intro e
  rcases h.own.2 with ⟨rfl, _⟩ | ⟨g, cap, cur, rfl, _, hg, _⟩
  · simp [Value.ownBlock] at e
  · simp [Value.ownBlock] at e
    subst e
    have := h.cell.symm.trans hg
    simp at this
theorem Wr.fr {S : Nat → Prop} (h : Wr w p v l) (hf : Fr S w w') (hp : ¬ S p) (hv : ∀ k, v.ownBlock = some k → ¬ S k) : Wr w' p v l :=
  ⟨hf.heap h.cell hp, hf.own h.own hv⟩
end
/-- What a call on a Writer touches: its two blocks. -/
def foot (p : Nat) (v : Value) (k : Nat) : Prop := k = p ∨ v.ownBlock = some k
/-- The new slice lies where the old one lay, or is new. -/
def Moved (w : World) (v v' : Value) : Prop := v'.ownBlock = v.ownBlock ∨ ∀ k, v'.ownBlock = some k → w.heap.size ≤ k
theorem Moved.trans {a b : World} {u v x : Value} (h : Moved a u v) (k : Moved b v x) (hs : a.heap.size ≤ b.heap.size) : Moved a u x := by
  rcases k with k | k
  · rcases h with h | h
    · exact .inl (k.trans h)
    · exact .inr fun i hi => h i (by rw [← k]; exact hi)
  · exact .inr fun i hi => by have := k i hi; omega
/-- Two calls on one Writer. -/
theorem Fr.again {a b c : World} {p : Nat} {u v : Value} (h : Fr (foot p u) a b) (k : Fr (foot p v) b c) (hm : Moved a u v) : Fr (foot p u) a c :=
  h.trans k fun i hi hf => by
    rcases hf with hf | hf
    · exact .inl hf
    · rcases hm with hm | hm
      · exact .inr (by rw [← hm]; exact hf)
      · have := hm i hf; omega
end Go.Proofs.Ytioopibmpcbcjaa
