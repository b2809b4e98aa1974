/- A row of ranges that came in. Conditions: none. slices.Clone of a row of ranges. Conditions: none. Slices of ints, of floats, of strings that came in. Conditions: none of its own. -/
import Derived.Test.YtfcdajkgopcmpaaJOp
import Derived.Deep.Slices
import Derived.Deep.SlicePairs
import Derived.Laws.AppendOwn
import Derived.Lib.SliceRun
namespace Go.Proofs.Ytfcdajkgopcmpaa
open Go.ChangeShapes Go.WideShapes Go.ChangeAt Go.RowKit Go.Deep
/-- Range i's cells of a row that lies at a place. -/
structure RAt (w : World) (b o : Nat) (r : RV) : Prop where
  c0 : w.cell? ⟨b, o, none⟩ = some (.int .i64 r.i)
  c1 : w.cell? ⟨b, o + 1, none⟩ = some (.int .i64 r.e)
  c2 : w.cell? ⟨b, o + 2, none⟩ = some (.float .f64 r.lo)
  c3 : w.cell? ⟨b, o + 3, none⟩ = some (.float .f64 r.hi)
/-- A slice of ranges: its cells, where it has any, in blocks that P names. -/
def HasR (P : Nat → Prop) (w : World) (v : Value) (l : List RV) : Prop :=
  ∃ ao cap, v = .slice ao l.length cap ∧ l.length ≤ cap ∧ cap ≤ maxLen ∧ (ao = none → cap = 0 ∧ l = []) ∧
    (l = [] ∨ ∃ b o, ao = some ⟨b, o, none⟩ ∧ P b ∧ b < w.heap.size ∧ ∀ i, (h : i < l.length) → RAt w b (o + i * 4) l[i])
theorem RAt.below {B : Nat} {w w' : World} {b o : Nat} {r : RV} (h : RAt w b o r) (hb : Below B w w') (hl : b < B) : RAt w' b o r :=
  ⟨(hb.cell hl).trans h.c0, (hb.cell hl).trans h.c1, (hb.cell hl).trans h.c2, (hb.cell hl).trans h.c3⟩
theorem HasR.below {P : Nat → Prop} {w w' : World} {v : Value} {l : List RV} (h : HasR P w v l) (hb : Below w.heap.size w w') : HasR P w' v l := by
  obtain ⟨ao, cap, hv, h1, h2, h3, h4⟩ := h
  refine ⟨ao, cap, hv, h1, h2, h3, ?_⟩
  rcases h4 with h4 | ⟨b, o, h4, h5, h6, h7⟩
  · exact .inl h4
  · exact .inr ⟨b, o, h4, h5, Nat.lt_of_lt_of_le h6 hb.size, fun i hi => (h7 i hi).below hb h6⟩
section
variable {H : Type} {enc : TypeId × Value → H} {w : World} {base : Nat} {spare : Nat → Bool} {held : Bool}
instance : Inhabited RV := ⟨RV.zero⟩
set_option maxRecDepth 100000 in
theorem range_cells {n : Nat} {b o : Nat} {cs : List Value} {y : DataW H × List MemPlace} (h1 : w.cells? base ⟨b, o, none⟩ 4 = some cs) (h : DataW.trod enc Try.prog w base spare held n 37 cs = some y) :
    ∃ rv : RV, rv.wf ∧ RAt w b o rv := by
  obtain ⟨_, hlen, hcell⟩ := World.cells?_some h1
  obtain ⟨xs, k, hk, hxy, _, hxl, hf⟩ := DataW.trod_struct Try.underlying37 h
  match xs, hxl, cs, hlen with
  | [y0, y1, y2, y3], _, [v0, v1, v2, v3], _ =>
    have g0 := hf 0 _ rfl
    have g1 := hf 1 _ rfl
    have g2 := hf 2 _ rfl
    have g3 := hf 3 _ rfl
    have q0 : Try.prog.cellsOf 3 = 1 := by kernel_rfl
    have q1 : Try.prog.cellsOf 35 = 1 := by kernel_rfl
    simp [q0, q1] at g0 g1 g2 g3
    have e0 := hcell 0 (by omega)
    have e1 := hcell 1 (by omega)
    have e2 := hcell 2 (by omega)
    have e3 := hcell 3 (by omega)
    rw [add_plain] at e0 e1 e2 e3
    obtain ⟨k0, f0, rfl, wf0⟩ := DataW.trod_int Try.underlying3 g0
    obtain ⟨k1, f1, rfl, wf1⟩ := DataW.trod_int Try.underlying3 g1
    obtain ⟨k2, rfl, rfl, wf2⟩ := trod_float Try.underlying35 g2
    obtain ⟨k3, rfl, rfl, wf3⟩ := trod_float Try.underlying35 g3
    simp at f0 f1
    subst f0 f1
    simp [Lit.wf, IntKind.min, IntKind.max, IntKind.signed, IntKind.bits] at wf0 wf1 wf2 wf3
    exact ⟨⟨k0, k1, k2, k3⟩, ⟨⟨by simp only; omega, by simp only; omega⟩, ⟨by simp only; omega, by simp only; omega⟩, by simp only; omega, by simp only; omega⟩, by simpa using e0, by simpa using e1, by simpa using e2, by simpa using e3⟩
set_option maxRecDepth 100000 in
theorem open_ranges {fuel : Nat} {v : Value} {x : DataW H × List MemPlace} (h : DataW.trod enc Try.prog w base (fun _ => true) held fuel 22 [v] = some x) :
    ∃ l : List RV, HasR (fun k => k < w.heap.size) w v l ∧ (∀ r ∈ l, r.wf) ∧ l.length ≤ maxLen := by
  rcases open_slice Try.underlying22 h with ⟨h0, _⟩ | ⟨a, len, cap, m, n, D, Pl, h0, hb, hl, hm, hmm, rfl, hx⟩
  · exact ⟨[], ⟨none, 0, by simpa using h0, Nat.le_refl _, Nat.zero_le _, fun _ => ⟨rfl, rfl⟩, .inl rfl⟩, ⟨(fun r h => absurd h (List.not_mem_nil)), Nat.zero_le _⟩⟩
  simp only [if_true] at hmm
  subst hmm
  have q : Try.prog.cellsOf 37 = 4 := by kernel_rfl
  rw [q] at hx
  obtain ⟨b, o, spot⟩ := a
  by_cases h1 : len = 0
  · subst h1
    exact ⟨[], ⟨some ⟨b, o, spot⟩, m, by simpa using h0, Nat.zero_le _, hm, (fun h => by cases h), .inl rfl⟩, ⟨(fun r h => absurd h (List.not_mem_nil)), Nat.zero_le _⟩⟩
  have hspot : spot = none := by
    obtain ⟨cs, h2, _⟩ := hx 0 (by omega)
    obtain ⟨_, hlen, hcell⟩ := World.cells?_some h2
    have := hcell 0 (by omega)
    match cs, hlen with
    | v0 :: _, _ => simpa [Addr.add] using World.cell?_spot (show w.cell? _ = some v0 from this)
  subst hspot
  obtain ⟨R, hR⟩ := choose_lt (α := RV) (n := m) (p := fun i r => r.wf ∧ RAt w b (o + i * 4) r) (fun i hi => by
    obtain ⟨cs, h2, h3⟩ := hx i hi
    rw [add_plain] at h2
    exact range_cells h2 h3)
  refine ⟨(List.range len).map R, ⟨some ⟨b, o, none⟩, m, by simpa using h0, by simpa using hl, hm, (fun h => by cases h), .inr ⟨b, o, rfl, ?_, ?_, fun i hi => ?_⟩⟩, ?_, by simp; omega⟩
  · exact World.block_lt_of_cell? _ _ (hR 0 (by omega)).2.c0
  · exact World.block_lt_of_cell? _ _ (hR 0 (by omega)).2.c0
  · have hi' : i < len := by simpa using hi
    rw [List.getElem_map, List.getElem_range]
    exact (hR i (by omega)).2
  · intro r hr
    obtain ⟨i, hi, rfl⟩ := List.mem_map.1 hr
    exact (hR i (by have := List.mem_range.1 hi; omega)).1
end
end Go.Proofs.Ytfcdajkgopcmpaa
namespace Go.Proofs.Ytfcdajkgopcmpaa
open Go.ChangeShapes Go.WideShapes Go.ChangeAt Go.RowKit Go.Lib
/-- The cells of a row of ranges. -/
def cellsR (l : List RV) : List Value := l.flatMap fun r => [.int .i64 r.i, .int .i64 r.e, .float .f64 r.lo, .float .f64 r.hi]
theorem cellsR_cons (r : RV) (t : List RV) : cellsR (r :: t) = [.int .i64 r.i, .int .i64 r.e, .float .f64 r.lo, .float .f64 r.hi] ++ cellsR t := rfl
theorem cellsR_length : ∀ l : List RV, (cellsR l).length = l.length * 4
  | [] => rfl
  | r :: t => by rw [cellsR_cons, List.length_append, cellsR_length t, List.length_cons]; simp only [List.length_cons, List.length_nil]; omega
theorem cellsR_one : ∀ l : List RV, ∀ u ∈ cellsR l, u.oneCell' = true
  | [], u, h => by cases h
  | r :: t, u, h => by
    rw [cellsR_cons] at h
    rcases List.mem_append.1 h with h | h
    · simp only [List.mem_cons, List.not_mem_nil, or_false] at h
      rcases h with rfl | rfl | rfl | rfl <;> rfl
    · exact cellsR_one t u h
theorem cellsR_at {w : World} {b : Nat} : ∀ (l : List RV) (o : Nat), (∀ i, (h : i < l.length) → RAt w b (o + i * 4) l[i]) → ∀ (j : Nat) (u : Value), (cellsR l)[j]? = some u → w.cell? ⟨b, o + j, none⟩ = some u
  | [], _, _, j, u, h => by simp [cellsR] at h
  | r :: t, o, hc, j, u, h => by
    rw [cellsR_cons] at h
    have h0 := hc 0 (Nat.succ_pos _)
    match j, h with
    | 0, h => simpa [← Option.some.inj h] using h0.c0
    | 1, h => simpa [← Option.some.inj h] using h0.c1
    | 2, h => simpa [← Option.some.inj h] using h0.c2
    | 3, h => simpa [← Option.some.inj h] using h0.c3
    | j + 4, h =>
      have := cellsR_at t (o + 4) (fun i hi => by
        have := hc (i + 1) (Nat.succ_lt_succ hi)
        rw [show o + 4 + i * 4 = o + (i + 1) * 4 by omega]
        exact this) j u h
      rw [show o + (j + 4) = o + 4 + j by omega]
      exact this
theorem info34 : (Try.prog.info? 37).map (fun i => (i.zero, i.size, i.bytes)) = some (some (.agg #[.int .i64 0, .int .i64 0, .float .f64 0, .float .f64 0]), 4, 32) := by kernel_rfl
theorem RAt.new {w : World} {b o : Nat} {r : RV} (h : RAt w b o r) (o' : Obj) (hb : b < w.heap.size) : RAt (w.alloc o') b o r := h.below (below1 w o') hb
set_option maxRecDepth 100000 in
set_option maxHeartbeats 2000000 in
theorem clone_some (l : List RV) (n b o cap : Nat) (hn : l.length = n) (hm : n ≤ 1000000) (w : World) (hc : ∀ i, (h : i < l.length) → RAt w b (o + i * 4) l[i]) :
    Calls Try.prog 54 #[.slice (some ⟨b, o, none⟩) n cap] w fun e w' => ∃ v', e = .returned v' ∧ w'.ownsRow w.heap.size 37 4 v' n (cellsR l) ∧ Below w.heap.size w w' := by
  obtain ⟨i0, hi, hz0, hz1, hz2⟩ : ∃ i0, Try.prog.info? 37 = some i0 ∧ i0.zero = some (.agg #[.int .i64 0, .int .i64 0, .float .f64 0, .float .f64 0]) ∧ i0.size = 4 ∧ i0.bytes = 32 := by
    obtain ⟨i0, h1, h2⟩ := Option.map_eq_some_iff.1 info34
    simp only [Prod.mk.injEq] at h2
    exact ⟨i0, h1, h2.1, h2.2.1, h2.2.2⟩
  have HC := Lib.hid (cellsR_at l o hc)
  have HL := Lib.hid (cellsR_length l)
  rw [hn] at HL
  have HO := Lib.hid (cellsR_one l)
  have q41 : ∀ (w : World) (a : Option Addr) (n c n' c' : Nat), (binOp .eql 22 (.slice a n c) (.slice none n' c')).run Try.prog w = .ok (.bool a.isNone) w := fun w a n c n' c' => Lib.run_eql_slice_nil w _ _ a n c n' c' Try.underlying22
  generalize cellsR l = news at HC HL HO ⊢
  clear hc
  go_enter Try.func54, Try.ntmps54
  go_wp2_with (at_builtin; refine wpList_append_own _ rfl _ _ 22 rfl w.heap.size 37 i0 _ 4 32 Try.underlying22 hi hz0 hz1 hz2 rfl (by decide) _ _ _ rfl (World.ownsRow_made w #[] 0 (Nat.le_refl _) (Nat.zero_le _) (by simp)) ⟨b, o, none⟩ n cap news rfl HL.out ?qc2 HO.out ?qc4 ?qc5 ?qc6 ?_)
  case qc2 =>
    intro j u hj
    rw [Addr.add_lit]
    exact Lib.cell?_alloc_some _ (HC.out j u hj)
  case qc4 => unfold maxLen; omega
  case qc5 => omega
  case qc6 => simp
  intro v' w1 hown hgrow hnil
  go_wp2
  go_ret
  refine ⟨v', rfl, by simpa using hown, ?_⟩
  exact ((Below.refl _ w).alloc (Nat.le_refl _) _).grown hgrow (by simp) (by intro k hk; simp [Value.ownBlock] at hk; omega)
end Go.Proofs.Ytfcdajkgopcmpaa
namespace Go.Proofs.Ytfcdajkgopcmpaa
open Go.ChangeShapes Go.WideShapes Go.ChangeAt Go.RowKit Go.Deep
/-- A slice of what takes one cell each, as it reads; what is read lies below block B. -/
structure XB {α : Type} (f : α → Value) (d : α) (B : Nat) (w : World) (ao : Option Addr) (n cap : Nat) (l : List α) : Prop where
  len : n = l.length
  le : n ≤ cap
  max : cap ≤ maxLen
  cells : n = 0 ∨ ∃ b off, ao = some ⟨b, off, none⟩ ∧ b < B ∧ ∀ i, i < n → w.cell? ⟨b, off + i, none⟩ = some (f (l.getD i d))
section
variable {α : Type} {f : α → Value} {d : α} {B : Nat} {w w' : World} {ao : Option Addr} {n cap : Nat} {l : List α}
theorem XB.below (h : XB f d B w ao n cap l) (hb : Below B w w') : XB f d B w' ao n cap l := by
  refine ⟨h.len, h.le, h.max, ?_⟩
  rcases h.cells with h0 | ⟨b, off, rfl, hB, hc⟩
  · exact .inl h0
  · exact .inr ⟨b, off, rfl, hB, fun i hi => (hb.cell (p := ⟨b, off + i, none⟩) hB).trans (hc i hi)⟩
theorem XB.at_ (h : XB f d B w ao n cap l) {i : Nat} (hi : i < n) : ∃ b off, ao = some ⟨b, off, none⟩ ∧ w.cell? ⟨b, off + i, none⟩ = some (f (l.getD i d)) := by
  rcases h.cells with h0 | ⟨b, off, rfl, hB, hcell⟩
  · omega
  · exact ⟨b, off, rfl, hcell i hi⟩
theorem XB.lt (h : XB f d B w ao n cap l) : n ≤ 9223372036854775807 := by have := h.le; have := h.max; unfold maxLen at this; omega
end
section
variable {H : Type} {enc : TypeId × Value → H} {w : World} {base : Nat} {held : Bool}
theorem open_xb {α : Type} (f : α → Value) (d : α) (T E : TypeId) {fuel : Nat} {v : Value} {x : DataW H × List MemPlace} (hT : Try.prog.underlying T = some (.slice E)) (hE : Try.prog.cellsOf E = 1)
    (hf : ∀ (n : Nat) (v : Value) (y : DataW H × List MemPlace), DataW.trod enc Try.prog w base (fun _ => true) held n E [v] = some y → ∃ a, v = f a)
    (h : DataW.trod enc Try.prog w base (fun _ => true) held fuel T [v] = some x) :
    ∃ ao cap l, v = .slice ao l.length cap ∧ XB f d w.heap.size w ao l.length cap l := by
  rcases Go.Deep.open_slice1 hT hE h with ⟨h0, _⟩ | ⟨a, len, cap, m, n, V, D, Pl, h0, hb, hl, hm, hmm, rfl, hx⟩
  · simp at h0
    subst h0
    exact ⟨none, 0, [], rfl, rfl, Nat.le_refl _, by decide, .inl rfl⟩
  simp only [if_true] at hmm
  subst hmm
  simp at h0
  subst h0
  have : Inhabited α := ⟨d⟩
  obtain ⟨F, hF⟩ := Go.Deep.choose_lt (α := α) (p := fun i a => V i = f a) (fun i hi => hf _ _ _ (hx i hi).2)
  have hlen : ((List.range len).map F).length = len := by simp
  refine ⟨some a, m, (List.range len).map F, by rw [hlen], by rw [hlen], by rw [hlen]; exact hl, hm, ?_⟩
  rw [hlen]
  by_cases h1 : len = 0
  · exact .inl h1
  right
  obtain ⟨b, off, spot⟩ := a
  have h00 := (hx 0 (by omega)).1
  have hspot : spot = none := by simpa [Addr.add] using World.cell?_spot h00
  subst hspot
  refine ⟨b, off, rfl, World.block_lt_of_cell? _ _ h00, fun i hi => ?_⟩
  have h2 := (hx i (by omega)).1
  rw [Addr.add_lit] at h2
  have e : ((List.range len).map F).getD i d = F i := by simp [List.getD, hi]
  rw [e, h2, hF i (by omega)]
/-- An int of 64 bits. -/
def I64 : Type := { a : Int // -9223372036854775808 ≤ a ∧ a ≤ 9223372036854775807 }
def iv (a : I64) : Value := .int .i64 a.1
def F64 : Type := { a : Nat // a < 18446744073709551616 }
def fv (a : F64) : Value := .float .f64 a.1
def Str : Type := { s : ByteArray // s.size ≤ maxLen }
def sv (s : Str) : Value := .string s.1
theorem open_ints {fuel : Nat} {v : Value} {x : DataW H × List MemPlace} (h : DataW.trod enc Try.prog w base (fun _ => true) held fuel 55 [v] = some x) :
    ∃ ao cap l, v = .slice ao l.length cap ∧ XB iv ⟨0, by decide⟩ w.heap.size w ao l.length cap l := by
  refine open_xb iv _ 55 3 (by kernel_rfl) (by kernel_rfl) (fun n v y hy => ?_) h
  obtain ⟨b, h1, _, h3⟩ := DataW.trod_int Try.underlying3 hy
  simp [Lit.wf, IntKind.min, IntKind.max, IntKind.signed, IntKind.bits] at h3
  exact ⟨⟨b, by omega⟩, by simpa [iv] using h1⟩
theorem open_floats {fuel : Nat} {v : Value} {x : DataW H × List MemPlace} (h : DataW.trod enc Try.prog w base (fun _ => true) held fuel 56 [v] = some x) :
    ∃ ao cap l, v = .slice ao l.length cap ∧ XB fv ⟨0, by decide⟩ w.heap.size w ao l.length cap l := by
  refine open_xb fv _ 56 35 (by kernel_rfl) (by kernel_rfl) (fun n v y hy => ?_) h
  obtain ⟨b, h1, _, h3⟩ := trod_float Try.underlying35 hy
  simp [Lit.wf] at h3
  exact ⟨⟨b, h3⟩, by simpa [fv] using h1⟩
theorem open_strings {fuel : Nat} {v : Value} {x : DataW H × List MemPlace} (h : DataW.trod enc Try.prog w base (fun _ => true) held fuel 24 [v] = some x) :
    ∃ ao cap l, v = .slice ao l.length cap ∧ XB sv ⟨⟨#[]⟩, by decide⟩ w.heap.size w ao l.length cap l := by
  refine open_xb sv _ 24 9 (by kernel_rfl) (by kernel_rfl) (fun n v y hy => ?_) h
  obtain ⟨s, hc, hz, hw⟩ := DataW.trod_string Try.underlying9 hy
  exact ⟨⟨s, hw⟩, by simpa [sv] using hc⟩
end
end Go.Proofs.Ytfcdajkgopcmpaa
