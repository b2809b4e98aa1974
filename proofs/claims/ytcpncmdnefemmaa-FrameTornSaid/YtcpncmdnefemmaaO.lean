/- A slice of slices of bytes that came in. Conditions: none of its own. -/
import Derived.Test.YtcpncmdnefemmaaR
namespace Go.Proofs.Ytcpncmdnefemmaa
open Go.RowKit
section
variable {H : Type} {enc : TypeId × Value → H} {w : World} {base : Nat} {held : Bool}
theorem open_rb {fuel : Nat} {v : Value} {x : DataW H × List MemPlace} (h : DataW.trod enc Try.prog w base (fun _ => true) held fuel 33 [v] = some x) :
    ∃ ao cap xs, v = .slice ao xs.length cap ∧ RB w.heap.size w ao xs.length cap xs := by
  rcases Go.Deep.open_slice1 Try.underlying33 (by kernel_rfl) h with ⟨h0, _⟩ | ⟨a, len, cap, m, n, V, D, Pl, h0, hb, hl, hm, hmm, rfl, hx⟩
  · simp at h0
    subst h0
    exact ⟨none, 0, [], rfl, rfl, Nat.le_refl _, by decide, fun _ => rfl, .inl rfl⟩
  simp only [if_true] at hmm
  subst hmm
  simp at h0
  subst h0
  obtain ⟨B, hB⟩ := Go.Deep.choose_lt (α := List UInt8) (p := fun i l => ∃ ao c, V i = .slice ao l.length c ∧ SB w.heap.size w ao l.length c l) (fun i hi => by
    obtain ⟨ao, c, xs, h1, h2⟩ := open_sb (hx i hi).2
    exact ⟨xs, ao, c, h1, h2⟩)
  have hlen : ((List.range len).map B).length = len := by simp
  refine ⟨some a, m, (List.range len).map B, by rw [hlen], by rw [hlen], by rw [hlen]; exact hl, hm, (fun e => by cases e), ?_⟩
  rw [hlen]
  by_cases h1 : len = 0
  · exact .inl h1
  right
  obtain ⟨b, off, spot⟩ := a
  have h00 := (hx 0 (by omega)).1
  have hspot : spot = none := by simpa [Addr.add] using World.cell?_spot h00
  subst hspot
  refine ⟨b, off, rfl, World.block_lt_of_cell? _ _ h00, fun i hi => ?_⟩
  have h2 := (hx i (by omega)).1
  rw [Addr.add_lit] at h2
  obtain ⟨ro, c, h3, h4⟩ := hB i (by omega)
  have e : ((List.range len).map B).getD i [] = B i := by simp [List.getD, hi]
  rw [e]
  exact ⟨ro, _, c, by rw [h2, h3], h4⟩
end
end Go.Proofs.Ytcpncmdnefemmaa
