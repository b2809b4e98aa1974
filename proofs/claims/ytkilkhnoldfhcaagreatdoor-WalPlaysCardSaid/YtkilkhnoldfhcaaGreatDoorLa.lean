/- What the library's tables and errors read as; numbers of eight digits, names of segments, in plain terms. Conditions: none of its own. -/
import Derived.Test.YtkilkhnoldfhcaaGreatDoorShelg
import Derived.Test.YtkilkhnoldfhcaaGreatDoorE
import Derived.Lib.AppendIntMem
namespace Go.Proofs.YtkilkhnoldfhcaaGreatDoor
open Go.RowKit
/-- What stands ahead of the call: a table of powers of ten, two errors; whatever lies from block 6 on may turn. -/
structure Tabs (w : World) : Prop where
  pow : Lib.TabBelow Tryz.prog 6 w "internal/strconv.uint64pow10" .u64 Lib.pow10Tab
  syn : ∃ ev, w.cell? ⟨4, 0, none⟩ = some ev ∧ (ev = .nilIface ∨ ∃ te pe, ev = .iface te pe)
  ran : ∃ ev, w.cell? ⟨5, 0, none⟩ = some ev ∧ (ev = .nilIface ∨ ∃ te pe, ev = .iface te pe)
theorem Tabs.on {w w' : World} (h : Tabs w) (hb : Below 6 w w') : Tabs w' :=
  ⟨h.pow.on hb, let ⟨ev, h1, h2⟩ := h.syn; ⟨ev, (hb.cell (p := ⟨4, 0, none⟩) (by decide)).trans h1, h2⟩, let ⟨ev, h1, h2⟩ := h.ran; ⟨ev, (hb.cell (p := ⟨5, 0, none⟩) (by decide)).trans h1, h2⟩⟩
theorem Tabs.size {w : World} (h : Tabs w) : 6 ≤ w.heap.size := by
  obtain ⟨ev, h1, _⟩ := h.ran
  exact World.block_lt_of_cell? w ⟨5, 0, none⟩ h1
theorem Tabs.below {w w' : World} (h : Tabs w) (hb : Below w.heap.size w w') : Tabs w' := h.on (hb.mono h.size)
theorem Tabs.tn {w w' : World} {S : Nat → Prop} (h : Tabs w) (ht : Tn S w w') (hs : ∀ k, S k → 6 ≤ k) : Tabs w' := h.on (ht.below h.size hs)
/-- Eight digits. -/
def num8 (n : Nat) : Nm := Lib.repeatL [48] (8 - (Lib.decDigits n).length) ++ Lib.decDigits n
def segN (dir : Nm) (n : Nat) : Nm := dir ++ 46 :: num8 n
def nameV (dir : Nm) (n : Int) : Nm × Nat := if dir = [] ∨ 11 < dir.length then ([], 10) else if n < 1 ∨ 99999999 < n then ([], 1) else (segN dir n.toNat, 0)
theorem nDigits_le : ∀ (k u : Nat), u < 10 ^ (k + 1) → Lib.nDigits u ≤ k + 1
  | 0, u, h => by rw [Lib.nDigits_small (by simpa using h)]; exact Nat.le_refl _
  | k + 1, u, h => by
    by_cases h1 : u < 10
    · rw [Lib.nDigits_small h1]; omega
    · rw [Lib.nDigits_big h1]
      have := nDigits_le k (u / 10) (by rw [Nat.pow_succ] at h; omega)
      omega
theorem digits_le {n : Nat} (h : n ≤ 99999999) : (Lib.decDigits n).length ≤ 8 := by
  rw [Lib.decDigits_length]
  exact nDigits_le 7 n (by omega)
theorem digits_pos (n : Nat) : 1 ≤ (Lib.decDigits n).length := by rw [Lib.decDigits_length]; exact Lib.nDigits_pos n
theorem num8_length {n : Nat} (h : n ≤ 99999999) : (num8 n).length = 8 := by
  unfold num8
  rw [List.length_append, Lib.repeatL_length]
  have := digits_le h
  simp only [List.length_singleton]
  omega
theorem segN_length {dir : Nm} {n : Nat} (h : n ≤ 99999999) : (segN dir n).length = dir.length + 9 := by
  unfold segN
  rw [List.length_append, List.length_cons, num8_length h]
end Go.Proofs.YtkilkhnoldfhcaaGreatDoor
