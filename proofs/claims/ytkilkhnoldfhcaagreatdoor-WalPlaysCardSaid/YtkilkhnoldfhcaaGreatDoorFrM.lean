/- Slices of bytes as they read: those that came in, parts of them, rows of the call's own. Conditions: none of its own. -/
import Derived.Test.YtkilkhnoldfhcaaGreatDoorProg
import Derived.Test.YtkilkhnoldfhcaaGreatDoorFrA
import Derived.WalkKit
import Derived.WalkLawsBesides
import Derived.Lib.Hide
import Derived.Below
import Derived.OwnWalk
import Derived.Maps.AppendAt
import Derived.OneCell
import Derived.Laws.BytesArg
import Derived.Laws.OwnMore
import Derived.Laws.AppendOwnNone
import Derived.Deep.RegionLaw
import Derived.Lib.SliceRun
import Derived.Laws.IdiomStrings
import Derived.Deep.Grids
import Derived.OpenShut
namespace Go.Proofs.YtkilkhnoldfhcaaGreatDoor.Fr
open Go.RowKit
/-- Bytes as cells. -/
def bys (l : List UInt8) : List Value := l.map fun b => Value.int .u8 (b.toNat : Int)
theorem bys_length (l : List UInt8) : (bys l).length = l.length := by simp [bys]
theorem bys_append (a b : List UInt8) : bys (a ++ b) = bys a ++ bys b := by simp [bys]
theorem bys_one (l : List UInt8) : ∀ u ∈ bys l, u.oneCell' = true := by
  intro u hu
  unfold bys at hu
  obtain ⟨b, _, rfl⟩ := List.mem_map.1 hu
  rfl
theorem info5 : (Tryz.prog.info? 5).map (fun i => (i.zero, i.size, i.bytes)) = some (some (.int .u8 0), 1, 1) := by kernel_rfl
theorem under22 : Tryz.prog.underlying 36 = some (.slice 5) := by kernel_rfl
theorem own_shape {w : World} {base : Nat} {e : TypeId} {size : Nat} {v : Value} {n : Nat} {xs : List Value} (h : w.ownsRow base e size v n xs) (hn : 0 < n) : ∃ g cap, v = .slice (some ⟨g, 0, none⟩) n cap := by
  rcases h.2 with ⟨_, h0⟩ | ⟨g, cap, cur, hv, _⟩
  · omega
  · exact ⟨g, cap, hv⟩
theorem own_slice {w : World} {base : Nat} {e : TypeId} {size : Nat} {v : Value} {n : Nat} {xs : List Value} (h : w.ownsRow base e size v n xs) : ∃ ao cap, v = .slice ao n cap := by
  rcases h.2 with ⟨rfl, rfl⟩ | ⟨g, cap, cur, rfl, _⟩
  · exact ⟨none, 0, rfl⟩
  · exact ⟨_, cap, rfl⟩
theorem own_below {base : Nat} {e : TypeId} {size : Nat} {v : Value} {n : Nat} {xs : List Value} {w w' : World} (ho : w.ownsRow base e size v n xs) (h : Below w.heap.size w w') : w'.ownsRow base e size v n xs := by
  refine ⟨ho.1, ?_⟩
  rcases ho.2 with h2 | ⟨g, cap, cur, rfl, hb, hg, r⟩
  · exact .inl h2
  · exact .inr ⟨g, cap, cur, rfl, hb, (h.block g (lt_of_block hg)).trans hg, r⟩
theorem own_mono {base base' : Nat} {e : TypeId} {size : Nat} {v : Value} {n : Nat} {xs : List Value} {w : World} (ho : w.ownsRow base e size v n xs) (h : base' ≤ base) : w.ownsRow base' e size v n xs := by
  refine ⟨ho.1, ?_⟩
  rcases ho.2 with h2 | ⟨g, cap, cur, rfl, hb, r⟩
  · exact .inl h2
  · exact .inr ⟨g, cap, cur, rfl, by omega, r⟩
theorem below1 (w : World) (o : Obj) : Below w.heap.size w (w.alloc o) := (Below.refl _ _).alloc (Nat.le_refl _) o
/-- A slice that reads as bytes; what is read lies below block B. -/
structure SB (B : Nat) (w : World) (ao : Option Addr) (n cap : Nat) (l : List UInt8) : Prop where
  len : n = l.length
  le : n ≤ cap
  max : cap ≤ maxLen
  nil : ao = none → cap = 0
  cells : n = 0 ∨ ∃ b off, ao = some ⟨b, off, none⟩ ∧ b < B ∧ ∀ i, i < n → w.cell? ⟨b, off + i, none⟩ = some (.int .u8 ((l.getD i 0).toNat : Int))
section
variable {B C : Nat} {w w' : World} {ao : Option Addr} {n cap : Nat} {l : List UInt8}
theorem SB.below (h : SB B w ao n cap l) (hb : Below B w w') : SB B w' ao n cap l := by
  refine ⟨h.len, h.le, h.max, h.nil, ?_⟩
  rcases h.cells with h0 | ⟨b, off, rfl, hB, hc⟩
  · exact .inl h0
  · exact .inr ⟨b, off, rfl, hB, fun i hi => (hb.cell (p := ⟨b, off + i, none⟩) hB).trans (hc i hi)⟩
theorem SB.mono (h : SB B w ao n cap l) (hb : B ≤ C) : SB C w ao n cap l := by
  refine ⟨h.len, h.le, h.max, h.nil, ?_⟩
  rcases h.cells with h0 | ⟨b, off, rfl, hB, hc⟩
  · exact .inl h0
  · exact .inr ⟨b, off, rfl, by omega, hc⟩
theorem SB.drewN (h : SB B w ao n cap l) (k : Nat) : SB B (w.drewN k) ao n cap l := by
  refine ⟨h.len, h.le, h.max, h.nil, ?_⟩
  rcases h.cells with h0 | ⟨b, off, rfl, hB, hc⟩
  · exact .inl h0
  · exact .inr ⟨b, off, rfl, hB, fun i hi => by rw [World.cell?_drewN]; exact hc i hi⟩
/-- A part of it. -/
theorem SB.cut (h : SB B w ao n cap l) {lo hi m : Nat} (h1 : lo ≤ hi) (h2 : hi ≤ n) (hm : m = hi - lo) (k : Nat) (hk : lo + m ≤ k) (hk2 : k ≤ cap) :
    SB B w (if k = lo then ao else ao.map (·.add (lo * 1))) m (k - lo) ((l.drop lo).take m) := by
  have hl := h.len
  have hc := h.max
  refine ⟨by rw [List.length_take, List.length_drop]; omega, by omega, by omega, ?_, ?_⟩
  · intro e
    split at e
    · omega
    · have : ao = none := by simpa using e
      have := h.nil this
      omega
  · by_cases hz : m = 0
    · exact .inl hz
    · rcases h.cells with h0 | ⟨b, off, rfl, hB, hcell⟩
      · omega
      · rw [if_neg (by omega)]
        refine .inr ⟨b, off + lo, by simp [Addr.add], hB, fun i hi => ?_⟩
        rw [Nat.add_assoc, hcell (lo + i) (by omega), List.getD_eq_getElem?_getD, List.getD_eq_getElem?_getD, List.getElem?_take_of_lt hi, List.getElem?_drop]
theorem SB.rest (h : SB B w ao n cap l) {lo : Nat} (h1 : lo ≤ n) : SB B w (if cap = lo then ao else ao.map (·.add (lo * 1))) (n - lo) (cap - lo) (l.drop lo) := by
  have := h.cut (lo := lo) (hi := n) (m := n - lo) h1 (Nat.le_refl _) rfl cap (by have := h.le; omega) (Nat.le_refl _)
  rwa [List.take_of_length_le (by rw [List.length_drop, h.len]; omega)] at this
theorem SB.head (h : SB B w ao n cap l) {hi : Nat} (h1 : hi ≤ n) : SB B w (if cap = 0 then ao else ao.map (·.add (0 * 1))) hi cap (l.take hi) := by
  have := h.cut (lo := 0) (hi := hi) (m := hi) (Nat.zero_le _) h1 rfl cap (by have := h.le; omega) (Nat.le_refl _)
  simpa using this
theorem SB.lt (h : SB B w ao n cap l) : n ≤ 9223372036854775807 := by have := h.le; have := h.max; unfold maxLen at this; omega
end
theorem strOf (l : List UInt8) : strOfNums (l.map fun b => (b.toNat : Int)) = ⟨l.toArray⟩ := by
  unfold strOfNums
  congr 2
  rw [List.map_map]
  conv => rhs; rw [← List.map_id l]
  apply List.map_congr_left
  intro x _
  simp
/-- The bytes of a slice as a string. -/
theorem SB.conv {B : Nat} {w : World} {ao : Option Addr} {n cap : Nat} {l : List UInt8} (h : SB B w ao n cap l) : (convert 36 9 (.slice ao n cap)).run Tryz.prog w = .ok (.string ⟨l.toArray⟩) w := by
  obtain ⟨rfl, _, _, hn, h⟩ := h
  cases ao with
  | none =>
    obtain rfl := hn rfl
    rcases h with h0 | ⟨b, off, e, _⟩
    · obtain rfl := List.eq_nil_of_length_eq_zero h0
      exact run_convert_bytes_nil (P := Tryz.prog) w 36 5 (by kernel_rfl) (by kernel_rfl) 0 0 9 (by kernel_rfl)
    · cases e
  | some a =>
    refine run_convert_bytes_back (P := Tryz.prog) w 36 9 5 a cap l (by kernel_rfl) (by kernel_rfl) (by kernel_rfl) (fun j hj => ?_)
    rcases h with h0 | ⟨b, off, e, hB, hcell⟩
    · omega
    · cases e
      rw [Addr.add_lit, hcell j hj]
      simp [List.getD_eq_getElem?_getD, List.getElem?_eq_getElem hj]
theorem SB.news {B : Nat} {w : World} {ad : Addr} {n cap : Nat} {l : List UInt8} (h : SB B w (some ad) n cap l) : ∀ j u, (bys l)[j]? = some u → w.cell? (ad.add j) = some u := by
  intro j u hu
  have hj : j < l.length := by
    rcases Nat.lt_or_ge j l.length with h1 | h1
    · exact h1
    · rw [List.getElem?_eq_none (by rw [bys_length]; exact h1)] at hu; cases hu
  obtain ⟨rfl, _, _, _, h⟩ := h
  rcases h with h0 | ⟨b, off, e, hB, hcell⟩
  · omega
  · cases e
    rw [Addr.add_lit, hcell j hj, ← hu]
    simp [bys, List.getD_eq_getElem?_getD, List.getElem?_eq_getElem hj]
/-- A row of the call's own reads as its bytes. -/
theorem own_sb {w : World} {base : Nat} {ao : Option Addr} {n cap : Nat} {l : List UInt8} (h : w.ownsRow base 5 1 (.slice ao n cap) n (bys l)) : SB w.heap.size w ao n cap l := by
  have hl : n = l.length := by have := h.1; rw [bys_length] at this; omega
  rcases h.2 with ⟨e, h0⟩ | ⟨g, c, cur, e, _, hg, h1, h2, _⟩
  · cases e
    exact ⟨hl, Nat.le_refl _, by decide, fun _ => rfl, .inl rfl⟩
  · cases e
    refine ⟨hl, h1, h2, (fun e => by cases e), .inr ⟨g, 0, rfl, lt_of_block hg, fun i hi => ?_⟩⟩
    rw [Nat.zero_add, h.cellAt i (by omega)]
    simp [bys, List.getD_eq_getElem?_getD, List.getElem?_eq_getElem (show i < l.length by omega)]
section
variable {H : Type} {enc : TypeId × Value → H} {w : World} {base : Nat} {held : Bool}
/-- A row of bytes that came in. -/
theorem open_sb {fuel : Nat} {v : Value} {x : DataW H × List MemPlace} (h : DataW.trod enc Tryz.prog w base (fun _ => true) held fuel 36 [v] = some x) :
    ∃ ao cap xs, v = .slice ao xs.length cap ∧ SB w.heap.size w ao xs.length cap xs := by
  rcases Go.Deep.open_slice1 Tryz.underlying36 (by kernel_rfl) h with ⟨h0, _⟩ | ⟨a, len, cap, m, n, V, D, Pl, h0, hb, hl, hm, hmm, rfl, hx⟩
  · simp at h0
    subst h0
    exact ⟨none, 0, [], rfl, rfl, Nat.le_refl _, by decide, fun _ => rfl, .inl rfl⟩
  simp only [if_true] at hmm
  subst hmm
  simp at h0
  subst h0
  obtain ⟨B, hB⟩ := Go.Deep.choose_lt (α := UInt8) (p := fun i b => V i = .int .u8 (b.toNat : Int)) (fun i hi => by
    obtain ⟨b, h1, _, h3⟩ := DataW.trod_int Tryz.underlying5 (hx i hi).2
    simp [Lit.wf, IntKind.min, IntKind.max, IntKind.signed, IntKind.bits] at h3
    simp at h1
    refine ⟨UInt8.ofNat b.toNat, ?_⟩
    rw [h1, ofNat_toNat (by omega)]
    congr 1
    omega)
  have hlen : ((List.range len).map B).length = len := by simp
  refine ⟨some a, m, (List.range len).map B, by rw [hlen], by rw [hlen], by rw [hlen]; exact hl, hm, (fun e => by cases e), ?_⟩
  rw [hlen]
  by_cases h1 : len = 0
  · exact .inl h1
  right
  obtain ⟨b, off, spot⟩ := a
  have h00 := (hx 0 (by omega)).1
  have hspot : spot = none := by simpa [Addr.add] using World.cell?_spot h00
  subst hspot
  refine ⟨b, off, rfl, World.block_lt_of_cell? _ _ h00, fun i hi => ?_⟩
  have h2 := (hx i (by omega)).1
  rw [Addr.add_lit] at h2
  rw [h2, hB i (by omega)]
  simp [List.getD, hi]
end
end Go.Proofs.YtkilkhnoldfhcaaGreatDoor.Fr
