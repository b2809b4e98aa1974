/- Worlds of which some blocks have turned; slices of bytes as they read, wherever they lie; rows of the call's own. Conditions: none of its own. -/
import Derived.Test.YtcgbjpmmbbldpaaProg
import Derived.WalkKit
import Derived.WalkLawsBesides
import Derived.Lib.Hide
import Derived.Below
import Derived.OwnWalk
import Derived.Maps.AppendAt
import Derived.OneCell
import Derived.Laws.BytesArg
import Derived.Laws.OwnMore
import Derived.Laws.AppendOwnNone
import Derived.Deep.RegionLaw
import Derived.Lib.SliceRun
import Derived.Laws.IdiomStrings
import Derived.Deep.Grids
import Derived.OpenShut
import Derived.Deep.Upon
namespace Go.Proofs.Ytcgbjpmmbbldpaa
open Go.RowKit
/-- Nothing has turned but blocks of S and new ones. -/
structure Tn (S : Nat → Prop) (w w' : World) : Prop where
  os : w'.os = w.os
  tape : w'.tape = w.tape
  output : w'.output = w.output
  size : w.heap.size ≤ w'.heap.size
  block : ∀ k, k < w.heap.size → ¬ S k → w'.heap[k]? = w.heap[k]?
/-- What a step may have turned from then on. -/
def Gw (S : Nat → Prop) (w w' : World) (k : Nat) : Prop := S k ∨ (w.heap.size ≤ k ∧ k < w'.heap.size)
section
variable {S U C : Nat → Prop} {B : Nat} {w w' w1 w2 : World}
theorem Tn.refl (S : Nat → Prop) (w : World) : Tn S w w := ⟨rfl, rfl, rfl, Nat.le_refl _, fun _ _ _ => rfl⟩
theorem Tn.trans (h : Tn S w w1) (h2 : Tn U w1 w2) (hu : ∀ k, k < w.heap.size → U k → S k) : Tn S w w2 :=
  ⟨h2.os.trans h.os, h2.tape.trans h.tape, h2.output.trans h.output, Nat.le_trans h.size h2.size, fun k hk hs =>
    (h2.block k (Nat.lt_of_lt_of_le hk h.size) (fun hU => hs (hu k hk hU))).trans (h.block k hk hs)⟩
theorem Tn.mono (h : Tn S w w') (hs : ∀ k, k < w.heap.size → S k → U k) : Tn U w w' := (Tn.refl U w).trans h hs
theorem Tn.of_below (h : Below w.heap.size w w') : Tn S w w' := ⟨h.os, h.tape, h.output, h.size, fun k hk _ => h.block k hk⟩
theorem Tn.alloc (h : Tn S w w1) (o : Obj) : Tn S w (w1.alloc o) := h.trans (U := fun _ => False) (Tn.of_below ((Below.refl _ _).alloc (Nat.le_refl _) o)) (fun _ _ h => h.elim)
theorem Tn.setCell (h : Tn S w w1) {p : Addr} (hp : p.block < w.heap.size → S p.block) (u : Value) : Tn S w (w1.setCell p u) :=
  h.trans (U := fun k => k = p.block) ⟨rfl, rfl, rfl, by simp [World.setCell], fun k _ hk => Below.heap_setCell _ _ _ _ hk⟩ (fun k hk e => by subst e; exact hp hk)
theorem Tn.drew (h : Tn S w w1) : Tn S w w1.drew := ⟨h.os, h.tape, h.output, h.size, h.block⟩
theorem Tn.grown {row : Option Nat} (h : Tn S w w1) (hg : w1.grownBy w2 row) (hr : ∀ k, row = some k → k < w.heap.size → S k) : Tn S w w2 :=
  h.trans (U := fun k => row = some k) ⟨hg.os, hg.tape, hg.output, hg.size, fun k hk hne => hg.block k hk (fun e => hne e.symm)⟩ (fun k hk e => hr k e hk)
theorem Tn.below (h : Tn S w w') (hB : B ≤ w.heap.size) (hs : ∀ k, S k → B ≤ k) : Below B w w' :=
  ⟨h.os, h.tape, h.output, h.size, fun k hk => h.block k (by omega) (fun e => by have := hs k e; omega)⟩
theorem Tn.cell (h : Tn S w w') {p : Addr} {v : Value} (hc : w.cell? p = some v) (hp : ¬ S p.block) : w'.cell? p = some v :=
  (World.cell?_of_block (h.block p.block (World.block_lt_of_cell? w p hc) hp)).trans hc
theorem Tn.at_ (h : Tn S w w') {k : Nat} {o : Obj} (hc : w.heap[k]? = some o) (hp : ¬ S k) : w'.heap[k]? = some o :=
  (h.block k (Array.getElem?_eq_some_iff.1 hc).1 hp).trans hc
theorem Gw.size (h : w.heap.size ≤ w'.heap.size) {k : Nat} (hs : ∀ k, S k → k < w.heap.size) (hk : Gw S w w' k) : k < w'.heap.size := by
  rcases hk with hk | hk
  · have := hs k hk; omega
  · exact hk.2
theorem Gw.lo {B : Nat} (hs : ∀ k, S k → B ≤ k) (hB : B ≤ w.heap.size) {k : Nat} (hk : Gw S w w' k) : B ≤ k := by
  rcases hk with hk | hk
  · exact hs k hk
  · omega
theorem lt_of_at {k : Nat} {o : Obj} (hc : w.heap[k]? = some o) : k < w.heap.size := (Array.getElem?_eq_some_iff.1 hc).1
end
/-- Bytes as cells. -/
def bys (l : List UInt8) : List Value := l.map fun b => Value.int .u8 (b.toNat : Int)
theorem bys_length (l : List UInt8) : (bys l).length = l.length := by simp [bys]
theorem bys_append (a b : List UInt8) : bys (a ++ b) = bys a ++ bys b := by simp [bys]
theorem bys_take (l : List UInt8) (n : Nat) : bys (l.take n) = (bys l).take n := by simp [bys, List.map_take]
theorem bys_one (l : List UInt8) : ∀ u ∈ bys l, u.oneCell' = true := by
  intro u hu
  unfold bys at hu
  obtain ⟨b, _, rfl⟩ := List.mem_map.1 hu
  rfl
theorem info5 : (Try.prog.info? 5).map (fun i => (i.zero, i.size, i.bytes)) = some (some (.int .u8 0), 1, 1) := by kernel_rfl
theorem under33 : Try.prog.underlying 33 = some (.slice 5) := by kernel_rfl
theorem own_shape {w : World} {base : Nat} {e : TypeId} {size : Nat} {v : Value} {n : Nat} {xs : List Value} (h : w.ownsRow base e size v n xs) (hn : 0 < n) : ∃ g cap, v = .slice (some ⟨g, 0, none⟩) n cap := by
  rcases h.2 with ⟨_, h0⟩ | ⟨g, cap, cur, hv, _⟩
  · omega
  · exact ⟨g, cap, hv⟩
theorem own_slice {w : World} {base : Nat} {e : TypeId} {size : Nat} {v : Value} {n : Nat} {xs : List Value} (h : w.ownsRow base e size v n xs) : ∃ ao cap, v = .slice ao n cap := by
  rcases h.2 with ⟨rfl, rfl⟩ | ⟨g, cap, cur, rfl, _⟩
  · exact ⟨none, 0, rfl⟩
  · exact ⟨_, cap, rfl⟩
/-- A row stays where its block has not turned. -/
theorem own_tn {S : Nat → Prop} {base : Nat} {e : TypeId} {size : Nat} {v : Value} {n : Nat} {xs : List Value} {w w' : World} (ho : w.ownsRow base e size v n xs) (h : Tn S w w') (hv : ∀ k, v.ownBlock = some k → ¬ S k) : w'.ownsRow base e size v n xs := by
  refine ⟨ho.1, ?_⟩
  rcases ho.2 with h2 | ⟨g, cap, cur, rfl, hb, hg, r⟩
  · exact .inl h2
  · exact .inr ⟨g, cap, cur, rfl, hb, h.at_ hg (hv g rfl), r⟩
theorem own_below {base : Nat} {e : TypeId} {size : Nat} {v : Value} {n : Nat} {xs : List Value} {w w' : World} (ho : w.ownsRow base e size v n xs) (h : Below w.heap.size w w') : w'.ownsRow base e size v n xs :=
  own_tn ho (Tn.of_below (S := fun _ => False) h) (fun _ _ e => e)
theorem own_mono {base base' : Nat} {e : TypeId} {size : Nat} {v : Value} {n : Nat} {xs : List Value} {w : World} (ho : w.ownsRow base e size v n xs) (h : base' ≤ base) : w.ownsRow base' e size v n xs := by
  refine ⟨ho.1, ?_⟩
  rcases ho.2 with h2 | ⟨g, cap, cur, rfl, hb, r⟩
  · exact .inl h2
  · exact .inr ⟨g, cap, cur, rfl, by omega, r⟩
theorem own_raise {base base' : Nat} {e : TypeId} {size : Nat} {v : Value} {n : Nat} {xs : List Value} {w : World} (ho : w.ownsRow base e size v n xs) (h : ∀ k, v.ownBlock = some k → base' ≤ k) : w.ownsRow base' e size v n xs := by
  refine ⟨ho.1, ?_⟩
  rcases ho.2 with h2 | ⟨g, cap, cur, rfl, hb, r⟩
  · exact .inl h2
  · exact .inr ⟨g, cap, cur, rfl, h g rfl, r⟩
/-- Rows of two kinds lie in two blocks. -/
theorem own_apart {w : World} {B C e f n m a b : Nat} {v u : Value} {xs ys : List Value} (h : w.ownsRow B e a v n xs) (h2 : w.ownsRow C f b u m ys) (hef : e ≠ f) : ∀ k, v.ownBlock = some k → u.ownBlock ≠ some k := by
  intro k hk hk2
  rcases h.2 with ⟨rfl, _⟩ | ⟨g, cap, cur, rfl, _, hg, _⟩
  · cases hk
  rcases h2.2 with ⟨rfl, _⟩ | ⟨g', cap', cur', rfl, _, hg', _⟩
  · cases hk2
  simp [Value.ownBlock] at hk hk2
  subst hk hk2
  rw [hg] at hg'
  simp at hg'
  exact hef hg'.2
theorem own_at {w : World} {base : Nat} {e : TypeId} {size : Nat} {v : Value} {n : Nat} {xs : List Value} (h : w.ownsRow base e size v n xs) {k : Nat} (hk : v.ownBlock = some k) : ∃ cur, w.heap[k]? = some (.cells cur e (0, 0)) := by
  rcases h.2 with ⟨rfl, _⟩ | ⟨g, cap, cur, rfl, _, hg, _⟩
  · cases hk
  · simp [Value.ownBlock] at hk
    subst hk
    exact ⟨cur, hg⟩
theorem below1 (w : World) (o : Obj) : Below w.heap.size w (w.alloc o) := (Below.refl _ _).alloc (Nat.le_refl _) o
theorem below_drewN (w : World) (n : Nat) : Below w.heap.size w (w.drewN n) := by
  induction n generalizing w with
  | zero => exact Below.refl _ _
  | succ n ih => exact (ih w).drew
/-- A slice that reads as bytes; what is read lies in blocks of C. -/
structure SB (C : Nat → Prop) (w : World) (ao : Option Addr) (n cap : Nat) (l : List UInt8) : Prop where
  len : n = l.length
  le : n ≤ cap
  max : cap ≤ maxLen
  nil : ao = none → cap = 0
  cells : n = 0 ∨ ∃ b off, ao = some ⟨b, off, none⟩ ∧ C b ∧ ∀ i, i < n → w.cell? ⟨b, off + i, none⟩ = some (.int .u8 ((l.getD i 0).toNat : Int))
section
variable {C D S : Nat → Prop} {w w' : World} {ao : Option Addr} {n cap : Nat} {l : List UInt8}
theorem SB.tn (h : SB C w ao n cap l) (ht : Tn S w w') (hd : ∀ k, C k → ¬ S k) : SB C w' ao n cap l := by
  refine ⟨h.len, h.le, h.max, h.nil, ?_⟩
  rcases h.cells with h0 | ⟨b, off, rfl, hB, hc⟩
  · exact .inl h0
  · exact .inr ⟨b, off, rfl, hB, fun i hi => ht.cell (hc i hi) (hd b hB)⟩
theorem SB.below (h : SB C w ao n cap l) (hb : Below w.heap.size w w') : SB C w' ao n cap l := h.tn (Tn.of_below (S := fun _ => False) hb) (fun _ _ e => e)
theorem SB.mono (h : SB C w ao n cap l) (hb : ∀ k, k < w.heap.size → C k → D k) : SB D w ao n cap l := by
  refine ⟨h.len, h.le, h.max, h.nil, ?_⟩
  rcases h.cells with h0 | ⟨b, off, rfl, hB, hc⟩
  · exact .inl h0
  · by_cases hz : n = 0
    · exact .inl hz
    · exact .inr ⟨b, off, rfl, hb b (World.block_lt_of_cell? _ _ (hc 0 (by omega))) hB, hc⟩
theorem SB.lt (h : SB C w ao n cap l) : n ≤ 9223372036854775807 := by have := h.le; have := h.max; unfold maxLen at this; omega
/-- The first ones of it. -/
theorem SB.top (h : SB C w ao n cap l) {hi : Nat} (h1 : hi ≤ n) : SB C w ao hi cap (l.take hi) := by
  have hl := h.len
  have hc := h.le
  refine ⟨by rw [List.length_take]; omega, by omega, h.max, h.nil, ?_⟩
  by_cases hz : hi = 0
  · exact .inl hz
  rcases h.cells with h0 | ⟨b, off, rfl, hB, hcell⟩
  · omega
  · refine .inr ⟨b, off, rfl, hB, fun i hi => ?_⟩
    have := hcell i (by omega)
    rw [List.getD_eq_getElem?_getD, List.getElem?_take_of_lt hi, ← List.getD_eq_getElem?_getD]
    exact this
end
theorem sb_nil (C : Nat → Prop) (w : World) : SB C w none 0 0 [] := ⟨rfl, Nat.le_refl _, by decide, fun _ => rfl, .inl rfl⟩
/-- A row of a constant. -/
theorem sb_lit (w : World) (l : List UInt8) (n : Nat) (fz : Nat × Nat) (hl : n = l.length) (hn : n ≤ maxLen) : SB (· = w.heap.size) (w.alloc (.cells (bys l).toArray 5 fz)) (some ⟨w.heap.size, 0, none⟩) n n l := by
  refine ⟨hl, Nat.le_refl _, hn, (fun e => by cases e), .inr ⟨w.heap.size, 0, rfl, rfl, fun i hi => ?_⟩⟩
  rw [Nat.zero_add, cell_of_row _ w.heap.size i (bys l).toArray 5 fz (heap_alloc_new w _)]
  simp [bys, List.getD_eq_getElem?_getD, List.getElem?_eq_getElem (show i < l.length by omega)]
/-- The bytes of a slice as a string. -/
theorem SB.conv {C : Nat → Prop} {w : World} {ao : Option Addr} {n cap : Nat} {l : List UInt8} (h : SB C w ao n cap l) : (convert 33 9 (.slice ao n cap)).run Try.prog w = .ok (.string ⟨l.toArray⟩) w := by
  obtain ⟨rfl, _, _, hn, h⟩ := h
  cases ao with
  | none =>
    obtain rfl := hn rfl
    rcases h with h0 | ⟨b, off, e, _⟩
    · obtain rfl := List.eq_nil_of_length_eq_zero h0
      exact run_convert_bytes_nil (P := Try.prog) w 33 5 (by kernel_rfl) (by kernel_rfl) 0 0 9 (by kernel_rfl)
    · cases e
  | some a =>
    refine run_convert_bytes_back (P := Try.prog) w 33 9 5 a cap l (by kernel_rfl) (by kernel_rfl) (by kernel_rfl) (fun j hj => ?_)
    rcases h with h0 | ⟨b, off, e, hB, hcell⟩
    · omega
    · cases e
      rw [Addr.add_lit, hcell j hj]
      simp [List.getD_eq_getElem?_getD, List.getElem?_eq_getElem hj]
theorem SB.news {C : Nat → Prop} {w : World} {ad : Addr} {n cap : Nat} {l : List UInt8} (h : SB C w (some ad) n cap l) : ∀ j u, (bys l)[j]? = some u → w.cell? (ad.add j) = some u := by
  intro j u hu
  have hj : j < l.length := by
    rcases Nat.lt_or_ge j l.length with h1 | h1
    · exact h1
    · rw [List.getElem?_eq_none (by rw [bys_length]; exact h1)] at hu; cases hu
  obtain ⟨rfl, _, _, _, h⟩ := h
  rcases h with h0 | ⟨b, off, e, hB, hcell⟩
  · omega
  · cases e
    rw [Addr.add_lit, hcell j hj, ← hu]
    simp [bys, List.getD_eq_getElem?_getD, List.getElem?_eq_getElem hj]
/-- A row of the call's own reads as its bytes. -/
theorem own_sb {w : World} {base : Nat} {ao : Option Addr} {n cap : Nat} {l : List UInt8} (h : w.ownsRow base 5 1 (.slice ao n cap) n (bys l)) : SB (fun k => (Value.slice ao n cap).ownBlock = some k) w ao n cap l := by
  have hl : n = l.length := by have := h.1; rw [bys_length] at this; omega
  rcases h.2 with ⟨e, h0⟩ | ⟨g, c, cur, e, _, hg, h1, h2, _⟩
  · cases e
    exact ⟨hl, Nat.le_refl _, by decide, fun _ => rfl, .inl rfl⟩
  · cases e
    refine ⟨hl, h1, h2, (fun e => by cases e), .inr ⟨g, 0, rfl, rfl, fun i hi => ?_⟩⟩
    rw [Nat.zero_add, h.cellAt i (by omega)]
    simp [bys, List.getD_eq_getElem?_getD, List.getElem?_eq_getElem (show i < l.length by omega)]
/-- The head of a row is a row. -/
theorem own_take {w : World} {base n cap m : Nat} {l : List UInt8} {ao : Option Addr} (h : w.ownsRow base 5 1 (.slice ao n cap) n (bys l)) (hm : m ≤ n) : w.ownsRow base 5 1 (.slice ao m cap) m (bys (l.take m)) := by
  have hl := h.1
  rw [bys_length] at hl
  refine ⟨by rw [bys_length, List.length_take]; omega, ?_⟩
  rcases h.2 with ⟨e, h0⟩ | ⟨g, c, cur, e, hb, hg, h1, h2, h3, h4⟩
  · cases e
    exact .inl ⟨by rw [show m = 0 by omega], by omega⟩
  · cases e
    refine .inr ⟨g, cap, cur, rfl, hb, hg, by omega, h2, h3, ?_⟩
    rw [bys_take, ← h4, List.take_take]
    congr 1
    omega
theorem wanted_none {o : Oper} (h : o.guard = none) (y : Nat → Option Bool) : Region.wanted o y = true := by simp [Region.wanted, h]
/-- append of a slice of bytes, whatever it is, onto a row of the call's own; where it then lies. -/
theorem run_append_sb {C : Nat → Prop} {w : World} {B : Nat} {v : Value} {l m : List UInt8} (ty : TypeId) (h : w.ownsRow B 5 1 v l.length (bys l)) (hB : B ≤ w.heap.size) {ao : Option Addr} {n cap : Nat} (hm : SB C w ao n cap m) (hroom : l.length + n ≤ 140737488355328) :
    ∃ v' w', (Builtin.append_ #[33, 33] ty #[v, .slice ao n cap]).run Try.prog w = .ok v' w' ∧ w'.ownsRow B 5 1 v' (l ++ m).length (bys (l ++ m)) ∧ w.grownBy w' v.ownBlock ∧ (v'.ownBlock = v.ownBlock ∨ v'.ownBlock = some w.heap.size) := by
  obtain ⟨i0, hi, hz0, hz1, hz2⟩ := info_parts info5
  cases ao with
  | none =>
    have h0 := hm.nil rfl
    have h1 := hm.le
    have h2 := hm.len
    obtain rfl : cap = 0 := h0
    obtain rfl : n = 0 := by omega
    obtain rfl : m = [] := List.eq_nil_of_length_eq_zero h2.symm
    obtain ⟨ao2, cap2, rfl⟩ := own_slice h
    have hle : l.length ≤ cap2 := by
      rcases h.2 with ⟨e, _⟩ | ⟨g, cap, cur, e, _, _, hn, _⟩
      · simp at e; omega
      · simp at e; omega
    refine ⟨_, w, run_append_nothing (P := Try.prog) w 33 33 ty 5 i0 under33 hi ao2 l.length cap2 hle _ (Src.ofNil w under33 0), ?_, ⟨rfl, rfl, rfl, Nat.le_refl _, fun _ _ _ => rfl⟩, .inl rfl⟩
    rw [List.append_nil]; exact h
  | some ad =>
    have hn := hm.len
    obtain ⟨v', w', h1, h2, h3, _, h5⟩ := run_append_own_at (P := Try.prog) w B 33 ty 5 i0 (.int .u8 0) 1 1 under33 hi hz0 hz1 hz2 rfl (by decide) v l.length (bys l) h ad n cap (bys m) (by rw [bys_length, hn, Nat.mul_one]) hm.news (bys_one m) (by unfold maxLen; omega) (by omega) hB
    exact ⟨v', w', h1, by rw [List.length_append, bys_append, ← hn]; exact h2, h3, h5⟩
theorem wpList_append_sb {C : Nat → Prop} {ops : Array Oper} {rest : List Oper} {o : Oper} {a : Act} {w : World} {Q : Exit → Act → World → Prop} (hw : Region.wanted o (yielded ops a.tmps) = true) (s x : Operand)
    (ho : o.op = .call { callee := .builtin .append, args := #[s, x], argTypes := #[33, 33] })
    {B : Nat} {v : Value} {l m : List UInt8} (hs : a.eval s = v) (hown : w.ownsRow B 5 1 v l.length (bys l)) (hB : B ≤ w.heap.size) {ao : Option Addr} {n cap : Nat} (hx : a.eval x = .slice ao n cap) (hm : SB C w ao n cap m)
    (hroom : l.length + n ≤ 140737488355328)
    (h : ∀ v' w', w'.ownsRow B 5 1 v' (l ++ m).length (bys (l ++ m)) → w.grownBy w' v.ownBlock → (v'.ownBlock = v.ownBlock ∨ v'.ownBlock = some w.heap.size) → wpList Try.prog ops Q rest (a.put o.dst v') w') : wpList Try.prog ops Q (o :: rest) a w := by
  obtain ⟨v', w', hr, h2, h3, h4⟩ := run_append_sb o.type hown hB hm hroom
  refine wpList_step fun K hK => ?_
  rw [if_pos hw]
  unfold Oper.wp execOp
  simp only [ho, resolve, invoke, builtin, Sem.run_bind, Sem.run_pure, Result.andThen_ok, List.map_toArray, List.map_cons, List.map_nil, hs, hx, hr]
  exact hK _ _ (h v' w' h2 h3 h4)
end Go.Proofs.Ytcgbjpmmbbldpaa
