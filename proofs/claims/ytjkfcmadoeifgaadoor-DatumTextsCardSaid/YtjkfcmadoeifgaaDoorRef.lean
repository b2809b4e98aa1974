/- Plain facts on the texts that raceref1.Parse reads. Conditions: none. -/
import Derived.Test.YtjkfcmadoeifgaaDoorRead
namespace Go.Proofs.YtjkfcmadoeifgaaDoor
open Go.RowKit Go.Lib

theorem lead_append (a k : List UInt8) (ha : a.all digB = true) : leadN (a ++ 112 :: k) = a.length := by
  refine lead_eq _ _ (by simp) ?_ (.inr ?_)
  · rw [List.take_left' rfl]; exact ha
  · have : (a ++ 112 :: k).getD a.length 0 = 112 := by simp [List.getD]
    rw [this]; rfl
theorem cnt_parts {a : List UInt8} (h : cntB a = true) : ∃ c t, a = c :: t ∧ c ≠ 48 ∧ (c :: t).all digB = true := by
  cases a with
  | nil => cases h
  | cons c t =>
    simp only [cntB, Bool.and_eq_true] at h
    exact ⟨c, t, rfl, by simpa using h.1, h.2⟩
theorem cnt_of {c : UInt8} {t : List UInt8} (h : c ≠ 48) (ha : (c :: t).all digB = true) : cntB (c :: t) = true := by
  show (c != 48 && (c :: t).all digB) = true
  rw [ha]; simp [h]
/-- What a cut that is found, with a number ahead of it, says of the digits that stand at the beginning. -/
theorem lead_form {a k : List UInt8} (h : cntB a = true) : leadN (a ++ 112 :: k) = a.length ∧ okD (a ++ 112 :: k) = true ∧ (a ++ 112 :: k).getD 0 0 ≠ 48 ∧ 0 < a.length := by
  obtain ⟨c, t, rfl, hc, ha⟩ := cnt_parts h
  have hl := lead_append (c :: t) k ha
  have h0 : ((c :: t) ++ 112 :: k).getD 0 0 = c := by simp
  have hp : 0 < (c :: t).length := by simp
  exact ⟨hl, okD_ne hl hp (by rw [h0]; exact hc), by rw [h0]; exact hc, hp⟩
theorem take_lead (l : List UInt8) : (l.take (leadN l)).all digB = true := by
  unfold leadN
  induction l with
  | nil => rfl
  | cons c t ih =>
    rw [List.takeWhile_cons]
    split
    · rename_i h; rw [List.length_cons, List.take_succ_cons, List.all_cons, h, ih]; rfl
    · simp
theorem split_at (t : List UInt8) (h1 : leadN t < t.length) (h2 : t.getD (leadN t) 0 = 112) : t = t.take (leadN t) ++ 112 :: t.drop (leadN t + 1) := by
  have hd := List.drop_eq_getElem_cons h1
  have hg : t[leadN t] = 112 := by
    rw [List.getD, List.getElem?_eq_getElem h1] at h2; exact h2
  rw [hg] at hd
  rw [← hd, List.take_append_drop]
theorem okD_facts {l : List UInt8} (h : okD l = true) : 0 < leadN l ∧ (l.getD 0 0 ≠ 48 ∨ leadN l = 1) := by
  unfold okD at h
  rw [Bool.and_eq_true, Bool.or_eq_true] at h
  refine ⟨by simpa using h.1, ?_⟩
  rcases h.2 with h2 | h2
  · left
    cases l with
    | nil => simp
    | cons c t => simpa using h2
  · right; simpa using h2
/-- All digits, and a number as it is written. -/
theorem okD_full {l : List UInt8} (h : okD l = true) (hl : leadN l = l.length) : l = [48] ∨ cntB l = true := by
  obtain ⟨h0, h1⟩ := okD_facts h
  have ha := take_lead l
  rw [hl, List.take_length] at ha
  cases l with
  | nil => simp at hl; rw [hl] at h0; cases h0
  | cons c t =>
    rcases h1 with h1 | h1
    · right; exact cnt_of (by simpa using h1) ha
    · have ht : t = [] := by rw [hl] at h1; simpa using h1
      subst ht
      by_cases hc : c = 48
      · left; rw [hc]
      · right; exact cnt_of hc ha
theorem okD_of_cnt {l : List UInt8} (h : cntB l = true) : okD l = true ∧ leadN l = l.length := by
  obtain ⟨c, t, rfl, hc, ha⟩ := cnt_parts h
  have hl : leadN (c :: t) = (c :: t).length := lead_eq _ _ (Nat.le_refl _) (by rw [List.take_length]; exact ha) (.inl rfl)
  exact ⟨okD_ne hl (by simp) (by simpa using hc), hl⟩
theorem okD_48' : okD [48] = true ∧ leadN [48] = 1 := by decide
/-- The second part, as the reference reads it. -/
theorem int_ref (k : List UInt8) : intB k = true ↔ (okD (Lib.trimPrefix k [45]) = true ∧ leadN (Lib.trimPrefix k [45]) = (Lib.trimPrefix k [45]).length ∧ ¬ (Lib.hasPrefix k [45] = true ∧ Lib.trimPrefix k [45] = [48])) := by
  by_cases hm : ∃ u, k = 45 :: u
  · obtain ⟨u, rfl⟩ := hm
    rw [(pre_true u).1, (pre_true u).2]
    have e : intB (45 :: u) = cntB u := by unfold intB; rw [(pre_true u).2]; simp
    rw [e]
    constructor
    · intro h
      obtain ⟨a, b⟩ := okD_of_cnt h
      refine ⟨a, b, fun hh => ?_⟩
      rw [hh.2] at h; cases h
    · rintro ⟨a, b, c⟩
      rcases okD_full a b with h | h
      · exact absurd ⟨rfl, h⟩ c
      · exact h
  · obtain ⟨p1, p2⟩ := pre_false (l := k) (fun u e => hm ⟨u, e⟩)
    rw [p1, p2]
    have e : intB k = (k == [48] || cntB k) := by unfold intB; rw [p2]
    rw [e]
    constructor
    · intro h
      rw [Bool.or_eq_true] at h
      refine ⟨?_, ?_, fun hh => by cases hh.1⟩
      · rcases h with h | h
        · rw [show k = [48] by simpa using h]; decide
        · exact (okD_of_cnt h).1
      · rcases h with h | h
        · rw [show k = [48] by simpa using h]; decide
        · exact (okD_of_cnt h).2
    · rintro ⟨a, b, _⟩
      rcases okD_full a b with h | h
      · rw [h]; rfl
      · rw [h]; simp
theorem pow_le_val {l : List UInt8} (h : cntB l = true) : 10 ^ (l.length - 1) ≤ valN l := by
  have key : ∀ (k : Nat) (l : List UInt8), l.length = k + 1 → cntB l = true → 10 ^ k ≤ valN l := by
    intro k
    induction k with
    | zero => intro l _ h; have := (val_dec h).2; omega
    | succ k ih =>
      intro l hl h
      rcases List.eq_nil_or_concat l with e | ⟨m, c, e⟩
      · rw [e] at hl; simp at hl
      · rw [List.concat_eq_append] at e
        subst e
        rw [valN_snoc, Nat.pow_succ]
        obtain ⟨d, t, e2, hd, ha⟩ := cnt_parts h
        cases m with
        | nil => simp at hl
        | cons d' t' =>
          have hd' : d' = d := by simpa using (List.cons.inj e2).1
          have hall := cntB_digits h
          rw [List.all_append, Bool.and_eq_true] at hall
          have := ih (d' :: t') (by simpa using hl) (cnt_of (by rw [hd']; exact hd) hall.1)
          omega
  obtain ⟨c, t, e, _, _⟩ := cnt_parts h
  exact key (l.length - 1) l (by rw [e]; simp) h
theorem log2_nonneg_fits {n : Nat} {p : Int} (h : Fits n p) : -1074 ≤ p ∧ p < 1024 := by
  have := h.lo; have := h.hi; omega
/-- Too many digits never fit. -/
theorem not_fits_m {a k : List UInt8} (h : cntB a = true) (hl : 17 < a.length) : ¬ Fits (satN a) (intN k) := by
  intro hf
  have h1 := hf.lt
  have h2 := pow_le_val h
  have h3 : 10 ^ 17 ≤ 10 ^ (a.length - 1) := Nat.pow_le_pow_right (by decide) (by omega)
  unfold satN at h1
  have h4 : (10 : Nat) ^ 17 = 100000000000000000 := by decide
  omega
theorem not_fits_e {a k : List UInt8} (h : intB k = true) (hl : 5 < (Lib.trimPrefix k [45]).length) : ¬ Fits (satN a) (intN k) := by
  intro hf
  obtain ⟨b1, b2⟩ := log2_nonneg_fits hf
  have hc : cntB (Lib.trimPrefix k [45]) = true := by
    unfold intB at h
    rw [Bool.or_eq_true] at h
    rcases h with h | h
    · have : k = [48] := by simpa using h
      rw [this] at hl; exact absurd hl (by decide)
    · exact h
  have h2 := pow_le_val hc
  have h3 : 10 ^ 5 ≤ 10 ^ ((Lib.trimPrefix k [45]).length - 1) := Nat.pow_le_pow_right (by decide) (by omega)
  have h4 : (10 : Nat) ^ 5 = 100000 := by decide
  unfold intN satN at b1 b2
  cases hp : Lib.hasPrefix k [45]
  · rw [hp, cond_false] at b2; omega
  · rw [hp, cond_true] at b1; omega
theorem int_digits {k : List UInt8} (h : intB k = true) : (Lib.trimPrefix k [45]).all digB = true := intB_digits h
theorem intN_val {k : List UInt8} (hl : ¬ 5 < (Lib.trimPrefix k [45]).length) (h : intB k = true) : valN (Lib.trimPrefix k [45]) ≤ 99999 ∧ intN k = bif Lib.hasPrefix k [45] then -(valN (Lib.trimPrefix k [45]) : Int) else (valN (Lib.trimPrefix k [45]) : Int) := by
  have h1 := val_lt_pow _ (int_digits h)
  have h2 : 10 ^ (Lib.trimPrefix k [45]).length ≤ 10 ^ 5 := Nat.pow_le_pow_right (by decide) (by omega)
  have h3 : (10 : Nat) ^ 5 = 100000 := by decide
  refine ⟨by omega, ?_⟩
  have : satN (Lib.trimPrefix k [45]) = valN (Lib.trimPrefix k [45]) := by unfold satN; omega
  unfold intN
  rw [this]
end Go.Proofs.YtjkfcmadoeifgaaDoor
