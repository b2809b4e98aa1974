/- What is read without a fault, written again, is what was read; where a fault lies. No program is named. Conditions: none. -/
import Derived.Test.YtioopibmpcbcjaaU
namespace Go.Proofs.Ytioopibmpcbcjaa
/-- A read that met no fault: what it took is what would be written. -/
def Again (s s' : Rst) (l : List UInt8) : Prop := s'.bs = s.bs ∧ s'.er = 0 ∧ s'.fp = s.fp ∧ s.bs.take s.pl ++ l = s.bs.take s'.pl
/-- A read that met one. -/
def Faulty (s s' : Rst) : Prop := s'.bs = s.bs ∧ s'.er ≠ 0 ∧ s'.pl = s.pl ∧ s.pl ≤ s'.fp ∧ s'.fp ≤ s.bs.length
theorem take_more (l : List UInt8) (p n : Nat) : l.take p ++ (l.drop p).take n = l.take (p + n) := by
  rw [List.take_add]
theorem look_cases (s : Rst) (he : s.er = 0) (hle : s.pl ≤ s.bs.length) : (∃ g, look s = ((unf (val (rowAt s)), g), s) ∧ fits (rowAt s) ∧ rowAt s = (s.bs.drop s.pl).take g ∧ 0 < g ∧ s.pl + g ≤ s.bs.length) ∨
    (∃ s1, look s = ((0, 0), s1) ∧ Faulty s s1) := by
  by_cases hg : grp (s.bs.drop s.pl) = 0
  · right
    refine ⟨_, look_short he hg, ?_⟩
    rw [stop_if he]
    exact ⟨rfl, by simp, rfl, hle, Nat.le_refl _⟩
  · by_cases hf : fits (rowAt s)
    · left
      have := grp_le (s.bs.drop s.pl)
      rw [List.length_drop] at this
      exact ⟨_, look_ok he hg hf, hf, rfl, by omega, by omega⟩
    · right
      refine ⟨_, look_form he hg hf, ?_⟩
      rw [stop_if he]
      exact ⟨rfl, by simp, rfl, Nat.le_refl _, hle⟩
theorem again_int {s : Rst} (he : s.er = 0) (hle : s.pl ≤ s.bs.length) : Again s (rInt s).2 (vb (foldN (rInt s).1)) ∨ Faulty s (rInt s).2 := by
  rcases look_cases s he hle with ⟨g, h1, h2, h3, _, _⟩ | ⟨s1, h1, h2⟩
  · left
    unfold rInt
    rw [h1]
    unfold number
    simp only
    rw [if_neg (by simp [he])]
    refine ⟨rfl, he, rfl, ?_⟩
    simp only
    rw [foldN_unf, h2.1, h3, take_more]
  · right
    unfold rInt
    rw [h1]
    unfold number
    simp only
    rw [if_pos h2.2.1]
    exact h2
theorem faulty_stop {s : Rst} (he : s.er = 0) {e : Int} (hn : e ≠ 0) {q : Nat} (h1 : s.pl ≤ q) (h2 : q ≤ s.bs.length) : Faulty s (stopR e q s) := by
  rw [stop_if he]
  exact ⟨rfl, hn, rfl, h1, h2⟩
theorem drop_get {l : List UInt8} {p : Nat} (h : p < l.length) : (l.drop p).take 1 = [l.getD p 0] := by
  rw [List.drop_eq_getElem_cons h, List.getD_eq_getElem?_getD, List.getElem?_eq_getElem h]; rfl
theorem again_flag {s : Rst} (he : s.er = 0) (hle : s.pl ≤ s.bs.length) : Again s (rFlag s).2 [bif (rFlag s).1 then 1 else 0] ∨ Faulty s (rFlag s).2 := by
  unfold rFlag
  rw [if_neg (by simp [he])]
  by_cases h1 : s.pl = s.bs.length
  · rw [if_pos h1]
    exact .inr (faulty_stop he (by decide) hle (Nat.le_refl _))
  · rw [if_neg h1]
    by_cases h2 : 1 < (s.bs.getD s.pl 0).toNat
    · rw [if_pos h2]
      exact .inr (faulty_stop he (by decide) (Nat.le_refl _) hle)
    · rw [if_neg h2]
      refine .inl ⟨rfl, he, rfl, ?_⟩
      simp only
      rw [← take_more, drop_get (by omega)]
      congr 2
      have h3 := byte_lt (s.bs.getD s.pl 0)
      rcases (show (s.bs.getD s.pl 0).toNat = 0 ∨ (s.bs.getD s.pl 0).toNat = 1 by omega) with h4 | h4
      · rw [h4]; apply UInt8.toNat_inj.1; rw [h4]; rfl
      · rw [h4]; apply UInt8.toNat_inj.1; rw [h4]; rfl
theorem again_float {s : Rst} (he : s.er = 0) (hle : s.pl ≤ s.bs.length) : (Again s (rFloat s).2 (w8 8 (canon (rFloat s).1)) ∨ Faulty s (rFloat s).2) ∧ (rFloat s).1 < 18446744073709551616 := by
  unfold rFloat
  rw [if_neg (by simp [he])]
  by_cases h1 : s.bs.length < s.pl + 8
  · rw [if_pos h1]
    exact ⟨.inr (faulty_stop he (by decide) hle (Nat.le_refl _)), by simp⟩
  · rw [if_neg h1]
    by_cases h2 : canon (leAt s) ≠ leAt s
    · rw [if_pos h2]
      exact ⟨.inr (faulty_stop he (by decide) (Nat.le_refl _) hle), by simp⟩
    · rw [if_neg h2]
      have h3 : canon (leAt s) = leAt s := by simpa using h2
      have h4 : ((s.bs.drop s.pl).take 8).length = 8 := by rw [List.length_take, List.length_drop]; omega
      refine ⟨.inl ⟨rfl, he, rfl, ?_⟩, ?_⟩
      · simp only
        rw [h3, ← take_more]
        congr 1
        unfold leAt
        have := w8_le ((s.bs.drop s.pl).take 8)
        rwa [h4] at this
      · have := le_lt ((s.bs.drop s.pl).take 8)
        rw [h4] at this
        exact this
theorem again_text {s : Rst} (he : s.er = 0) (hle : s.pl ≤ s.bs.length) (m : Int) : (Again s (rText m s).2 (vb (foldN ((rText m s).1.length : Int)) ++ (rText m s).1) ∨ Faulty s (rText m s).2) ∧ (rText m s).1.length ≤ s.bs.length := by
  rcases look_cases s he hle with ⟨g, h1, h2, h3, _, h5⟩ | ⟨s1, h1, h2⟩
  · unfold rText
    rw [h1]
    simp only
    rw [if_neg (by simp [he])]
    by_cases c1 : unf (val (rowAt s)) < 0
    · rw [if_pos c1]; exact ⟨.inr (faulty_stop he (by decide) (Nat.le_refl _) hle), by simp⟩
    rw [if_neg c1]
    by_cases c2 : m < unf (val (rowAt s))
    · rw [if_pos c2]; exact ⟨.inr (faulty_stop he (by decide) (Nat.le_refl _) hle), by simp⟩
    rw [if_neg c2]
    by_cases c3 : (s.bs.length : Int) - (s.pl + g : Nat) < unf (val (rowAt s))
    · rw [if_pos c3]; exact ⟨.inr (faulty_stop he (by decide) hle (Nat.le_refl _)), by simp⟩
    rw [if_neg c3]
    have hl : ((s.bs.drop (s.pl + g)).take (unf (val (rowAt s))).toNat).length = (unf (val (rowAt s))).toNat := by
      rw [List.length_take, List.length_drop]; omega
    refine ⟨.inl ⟨rfl, he, rfl, ?_⟩, by rw [hl]; omega⟩
    simp only
    rw [hl, show (((unf (val (rowAt s))).toNat : Nat) : Int) = unf (val (rowAt s)) by omega, foldN_unf, h2.1, ← take_more, ← take_more s.bs s.pl g, ← h3, List.append_assoc]
  · unfold rText
    rw [h1]
    simp only
    rw [if_pos h2.2.1]
    exact ⟨.inr h2, by simp⟩
theorem rInt_range (s : Rst) : -9223372036854775808 ≤ (rInt s).1 ∧ (rInt s).1 < 9223372036854775808 := by
  have := look_range (s := s)
  unfold rInt number
  split
  · simp
  · exact this
end Go.Proofs.Ytioopibmpcbcjaa
