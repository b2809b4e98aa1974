/- What a crash leaves, as files are told. Conditions: none of its own. -/
import Derived.Test.YtkilkhnoldfhcaaGreatDoorX
namespace Go.Proofs.YtkilkhnoldfhcaaGreatDoor
theorem crash_twice {d : Dk} {n : Nat} (h : Okn n d) (picks : List Int) : (d.crash picks).crash picks = d.crash picks := by
  have h1 : tear picks 0 (tear picks 0 d.f) = tear picks 0 d.f := tear_safe picks _ 0 (fun p hp => tear_mem picks h.safe hp)
  unfold Dk.crash
  simp only [h1]
theorem crash_len (d : Dk) (picks : List Int) : (fvs (d.crash picks).f).length = (fvs d.f).length := by
  rw [fvs_length, fvs_length]
  exact length_tear picks d.f 0
/-- A file behind a crash beside what it was. -/
theorem crash_at {d : Dk} (h : Ok d) (picks : List Int) {k : Nat} (h1 : k < (fvs d.f).length) (h2 : k < (fvs (d.crash picks).f).length) : ∃ (s : Nm) (b : List UInt8) (m n : Nat), (fvs d.f)[k] = ⟨s, b, (m : Int)⟩ ∧ (fvs (d.crash picks).f)[k] = ⟨s, b.take n, (n : Int)⟩ ∧ m ≤ n ∧ n ≤ b.length := by
  have hk : k < d.f.length := by rw [← fvs_length]; exact h1
  have hk2 : k < (tear picks 0 d.f).length := by rw [length_tear]; exact hk
  have ht := tear_at picks d.f 0 k h.safe hk (([], ⟨[], 0⟩) : Nm × Fi)
  have e1 : d.f.getD k (([], ⟨[], 0⟩) : Nm × Fi) = d.f[k] := by rw [List.getD_eq_getElem?_getD, List.getElem?_eq_getElem hk]; rfl
  have e2 : (tear picks 0 d.f).getD k (([], ⟨[], 0⟩) : Nm × Fi) = (tear picks 0 d.f)[k] := by rw [List.getD_eq_getElem?_getD, List.getElem?_eq_getElem hk2]; rfl
  rw [e1, e2] at ht
  have hn : (tear picks 0 d.f)[k].1 = d.f[k].1 := by
    have h3 := names_tear picks d.f 0
    have h4 : (names (tear picks 0 d.f))[k]? = (names d.f)[k]? := by rw [h3]
    unfold names at h4
    rw [List.getElem?_map, List.getElem?_map, List.getElem?_eq_getElem hk, List.getElem?_eq_getElem hk2] at h4
    simpa using h4
  have g1 : (fvs d.f)[k] = fv d.f[k] := List.getElem_map ..
  have g2 : (fvs (d.crash picks).f)[k] = fv (tear picks 0 d.f)[k] := List.getElem_map (l := tear picks 0 d.f) ..
  refine ⟨d.f[k].1, d.f[k].2.data, d.f[k].2.safe, (tear picks 0 d.f)[k].2.data.length, g1, ?_, ht.lo, ht.hi⟩
  rw [g2]
  unfold fv
  rw [hn, ht.safe, ← ht.data]
end Go.Proofs.YtkilkhnoldfhcaaGreatDoor
