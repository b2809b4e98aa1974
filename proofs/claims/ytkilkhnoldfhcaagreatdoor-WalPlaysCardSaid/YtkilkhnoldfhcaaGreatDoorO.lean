/- Slices of bytes, of ints, of operations that came in. Conditions: none of its own. -/
import Derived.Test.YtkilkhnoldfhcaaGreatDoorG
import Derived.Deep.Slices
import Derived.Deep.SlicePairs
namespace Go.Proofs.YtkilkhnoldfhcaaGreatDoor
open Go.ChangeShapes Go.WideShapes Go.ChangeAt Go.RowKit Go.Deep
section
variable {H : Type} {enc : TypeId × Value → H} {w : World} {base : Nat} {held : Bool}
/-- A row of bytes that came in. -/
theorem open_sb {fuel : Nat} {v : Value} {x : DataW H × List MemPlace} (h : DataW.trod enc Tryz.prog w base (fun _ => true) held fuel 36 [v] = some x) :
    ∃ ao cap xs, v = .slice ao xs.length cap ∧ SB (fun k => k < w.heap.size) w ao xs.length cap xs := by
  rcases Go.Deep.open_slice1 Tryz.underlying36 (by kernel_rfl) h with ⟨h0, _⟩ | ⟨a, len, cap, m, n, V, D, Pl, h0, hb, hl, hm, hmm, rfl, hx⟩
  · simp at h0
    subst h0
    exact ⟨none, 0, [], rfl, rfl, Nat.le_refl _, by decide, fun _ => rfl, .inl rfl⟩
  simp only [if_true] at hmm
  subst hmm
  simp at h0
  subst h0
  obtain ⟨B, hB⟩ := Go.Deep.choose_lt (α := UInt8) (p := fun i b => V i = .int .u8 (b.toNat : Int)) (fun i hi => by
    obtain ⟨b, h1, _, h3⟩ := DataW.trod_int Tryz.underlying5 (hx i hi).2
    simp [Lit.wf, IntKind.min, IntKind.max, IntKind.signed, IntKind.bits] at h3
    simp at h1
    refine ⟨UInt8.ofNat b.toNat, ?_⟩
    rw [h1]
    congr 1
    simp [UInt8.toNat_ofNat']
    omega)
  have hlen : ((List.range len).map B).length = len := by simp
  refine ⟨some a, m, (List.range len).map B, by rw [hlen], by rw [hlen], by rw [hlen]; exact hl, hm, (fun e => by cases e), ?_⟩
  rw [hlen]
  by_cases h1 : len = 0
  · exact .inl h1
  right
  obtain ⟨b, off, spot⟩ := a
  have h00 := (hx 0 (by omega)).1
  have hspot : spot = none := by simpa [Addr.add] using World.cell?_spot h00
  subst hspot
  refine ⟨b, off, rfl, World.block_lt_of_cell? _ _ h00, fun i hi => ?_⟩
  have h2 := (hx i (by omega)).1
  rw [Addr.add_lit] at h2
  rw [h2, hB i (by omega)]
  simp [List.getD, hi]
/-- A row of ints that came in. -/
theorem open_si {fuel : Nat} {v : Value} {x : DataW H × List MemPlace} (h : DataW.trod enc Tryz.prog w base (fun _ => true) held fuel 37 [v] = some x) :
    ∃ ao cap xs, v = .slice ao xs.length cap ∧ SI (fun k => k < w.heap.size) w ao xs.length cap xs := by
  rcases Go.Deep.open_slice1 Tryz.underlying37 (by kernel_rfl) h with ⟨h0, _⟩ | ⟨a, len, cap, m, n, V, D, Pl, h0, hb, hl, hm, hmm, rfl, hx⟩
  · simp at h0
    subst h0
    exact ⟨none, 0, [], rfl, rfl, Nat.le_refl _, by decide, fun _ h => (nomatch h), .inl rfl⟩
  simp only [if_true] at hmm
  subst hmm
  simp at h0
  subst h0
  obtain ⟨B, hB⟩ := Go.Deep.choose_lt (α := Int) (p := fun i b => V i = .int .i64 b ∧ -9223372036854775808 ≤ b ∧ b ≤ 9223372036854775807) (fun i hi => by
    obtain ⟨b, h1, _, h3⟩ := DataW.trod_int Tryz.underlying3 (hx i hi).2
    simp [Lit.wf, IntKind.min, IntKind.max, IntKind.signed, IntKind.bits] at h3
    simp at h1
    exact ⟨b, h1, by omega, by omega⟩)
  have hlen : ((List.range len).map B).length = len := by simp
  refine ⟨some a, m, (List.range len).map B, by rw [hlen], by rw [hlen], by rw [hlen]; exact hl, hm, fun p hp => ?_, ?_⟩
  · obtain ⟨i, hi, rfl⟩ := List.mem_map.1 hp
    exact (hB i (by have := List.mem_range.1 hi; omega)).2
  rw [hlen]
  by_cases h1 : len = 0
  · exact .inl h1
  right
  obtain ⟨b, off, spot⟩ := a
  have h00 := (hx 0 (by omega)).1
  have hspot : spot = none := by simpa [Addr.add] using World.cell?_spot h00
  subst hspot
  refine ⟨b, off, rfl, World.block_lt_of_cell? _ _ h00, fun i hi => ?_⟩
  have h2 := (hx i (by omega)).1
  rw [Addr.add_lit] at h2
  rw [h2, (hB i (by omega)).1]
  simp [List.getD, hi]
end
/-- What an operation says is what Go's types hold. -/
structure Do.wf (p : Do) : Prop where
  kind : -9223372036854775808 ≤ p.kind ∧ p.kind ≤ 9223372036854775807
  n : -9223372036854775808 ≤ p.n ∧ p.n ≤ 9223372036854775807
  name : p.name.length ≤ maxLen
  to : p.to.length ≤ maxLen
/-- An operation's cells. -/
structure OAt (C : Nat → Prop) (w : World) (b o : Nat) (p : Do) : Prop where
  c0 : w.cell? ⟨b, o, none⟩ = some (.int .i64 p.kind)
  c1 : w.cell? ⟨b, o + 1, none⟩ = some (.int .i64 p.n)
  c2 : w.cell? ⟨b, o + 2, none⟩ = some (nmv p.name)
  c3 : w.cell? ⟨b, o + 3, none⟩ = some (nmv p.to)
  c4 : ∃ ao cap, w.cell? ⟨b, o + 4, none⟩ = some (.slice ao p.b.length cap) ∧ SB C w ao p.b.length cap p.b
  c5 : ∃ ao cap, w.cell? ⟨b, o + 5, none⟩ = some (.slice ao p.picks.length cap) ∧ SI C w ao p.picks.length cap p.picks
/-- A slice of operations. -/
structure SO (C : Nat → Prop) (w : World) (ao : Option Addr) (n cap : Nat) (l : List Do) : Prop where
  len : n = l.length
  le : n ≤ cap
  max : cap ≤ maxLen
  wf : ∀ p ∈ l, p.wf
  cells : n = 0 ∨ ∃ b off, ao = some ⟨b, off, none⟩ ∧ C b ∧ ∀ i (h : i < l.length), OAt C w b (off + i * 6) l[i]
theorem OAt.tn {C S : Nat → Prop} {w w' : World} {b o : Nat} {p : Do} (h : OAt C w b o p) (ht : Tn S w w') (hb : C b) (hd : ∀ k, C k → ¬ S k) : OAt C w' b o p := by
  obtain ⟨a4, k4, h4, s4⟩ := h.c4
  obtain ⟨a5, k5, h5, s5⟩ := h.c5
  have n := hd b hb
  exact ⟨ht.cell h.c0 n, ht.cell h.c1 n, ht.cell h.c2 n, ht.cell h.c3 n, ⟨a4, k4, ht.cell h4 n, s4.tn ht hd⟩, ⟨a5, k5, ht.cell h5 n, s5.tn ht hd⟩⟩
theorem SO.tn {C S : Nat → Prop} {w w' : World} {ao : Option Addr} {n cap : Nat} {l : List Do} (h : SO C w ao n cap l) (ht : Tn S w w') (hd : ∀ k, C k → ¬ S k) : SO C w' ao n cap l := by
  refine ⟨h.len, h.le, h.max, h.wf, ?_⟩
  rcases h.cells with h0 | ⟨b, off, rfl, hB, hc⟩
  · exact .inl h0
  · exact .inr ⟨b, off, rfl, hB, fun i hi => (hc i hi).tn ht hB hd⟩
theorem SO.below {C : Nat → Prop} {w w' : World} {ao : Option Addr} {n cap : Nat} {l : List Do} (h : SO C w ao n cap l) (hb : Below w.heap.size w w') : SO C w' ao n cap l := h.tn (Tn.of_below (S := fun _ => False) hb) (fun _ _ e => e)
theorem SO.lt {C : Nat → Prop} {w : World} {ao : Option Addr} {n cap : Nat} {l : List Do} (h : SO C w ao n cap l) : n ≤ 9223372036854775807 := by have := h.le; have := h.max; unfold maxLen at this; omega
theorem SO.at_ {C : Nat → Prop} {w : World} {ao : Option Addr} {n cap : Nat} {l : List Do} (h : SO C w ao n cap l) {i : Nat} (hi : i < l.length) : ∃ b off, ao = some ⟨b, off, none⟩ ∧ C b ∧ OAt C w b (off + i * 6) l[i] ∧ l[i].wf := by
  have hn := h.len
  rcases h.cells with h0 | ⟨b, off, rfl, hB, hc⟩
  · omega
  · exact ⟨b, off, rfl, hB, hc i hi, h.wf _ (List.getElem_mem _)⟩
section
variable {H : Type} {enc : TypeId × Value → H} {w : World} {base : Nat} {held : Bool}
instance : Inhabited Do := ⟨⟨0, 0, [], [], [], []⟩⟩
end
end Go.Proofs.YtkilkhnoldfhcaaGreatDoor
