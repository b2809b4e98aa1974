/- What is printed is read, and what is read is printed just so. Conditions: bits below 2^64. -/
import Derived.Test.YtjkfcmadoeifgaaDoorText
namespace Go.Proofs.YtjkfcmadoeifgaaDoor
open Go.Lib

theorem parse_core {l : List UInt8} (h : (112 : UInt8) ∈ l) : parseN l = coreN l := by
  have hs : ∀ k : List UInt8, (112 : UInt8) ∉ k → (l == k) = false := fun k hk => by
    cases hc : (l == k)
    · rfl
    · have : l = k := by simpa using hc
      rw [this] at h; exact absurd h hk
  unfold parseN
  rw [hs _ (by decide), hs _ (by decide), hs _ (by decide), hs _ (by decide), hs _ (by decide)]
  rfl
theorem numT_cut {r : Nat} (_h : 0 < r) : Lib.cut (numT r) [112] = (digT r, powT r, true) := cut_found _ _ (not_mem_p (dec_all _))
theorem digT_cons {r : Nat} (h : 0 < r) : ∃ c t, digT r = c :: t ∧ c ≠ 48 ∧ digB c = true := by
  have ho := (full_odd h).2
  obtain ⟨c, t, e, hc⟩ := dec_head (oddN r) (by omega)
  have ha := dec_all (oddN r)
  rw [e, List.all_cons, Bool.and_eq_true] at ha
  exact ⟨c, t, e, hc, ha.1⟩
theorem numT_pre {r : Nat} (h : 0 < r) : Lib.hasPrefix (numT r) [45] = false ∧ Lib.trimPrefix (numT r) [45] = numT r := by
  refine pre_false (fun t e => ?_)
  obtain ⟨c, t', e', _, hd⟩ := digT_cons h
  unfold numT at e
  rw [e', List.cons_append] at e
  have : c = 45 := (List.cons.inj e).1
  rw [this] at hd; cases hd
theorem num_facts {r : Nat} (h : 0 < r) (h2 : r < infR) : cntB (digT r) = true ∧ intB (powT r) = true ∧ satN (digT r) = oddN r ∧ intN (powT r) = powN r := by
  have ho := (full_odd h).2
  have hl := oddN_lt h
  have hp := powN_bd h h2
  refine ⟨dec_cnt _ (by omega), int_itoa _, ?_, intN_itoa _ (by omega) (by omega)⟩
  unfold satN digT; rw [dec_val]; omega
theorem core_pos {r : Nat} (h : 0 < r) (h2 : r < infR) : coreN (numT r) = (r, 0) := by
  obtain ⟨p1, p2⟩ := numT_pre h
  obtain ⟨f1, f2, f3, f4⟩ := num_facts h h2
  have hc := numT_cut h
  have hform : formB (numT r) = true := by unfold formB; rw [p2, hc]; simp [f1, f2]
  have hn : numOf (numT r) = oddN r := by unfold numOf; rw [p2, hc]; exact f3
  have hp : powOf (numT r) = powN r := by unfold powOf; rw [p2, hc]; exact f4
  unfold coreN
  rw [hform, hn, hp, (fits_iff _ _).2 (fits_of h h2), p1, ofOdd_self h h2]
  rfl
theorem core_neg {r : Nat} (h : 0 < r) (h2 : r < infR) : coreN (45 :: numT r) = (9223372036854775808 + r, 0) := by
  obtain ⟨p1, p2⟩ := pre_true (numT r)
  obtain ⟨f1, f2, f3, f4⟩ := num_facts h h2
  have hc := numT_cut h
  have hform : formB (45 :: numT r) = true := by unfold formB; rw [p2, hc]; simp [f1, f2]
  have hn : numOf (45 :: numT r) = oddN r := by unfold numOf; rw [p2, hc]; exact f3
  have hp : powOf (45 :: numT r) = powN r := by unfold powOf; rw [p2, hc]; exact f4
  unfold coreN
  rw [hform, hn, hp, (fits_iff _ _).2 (fits_of h h2), p1, ofOdd_self h h2]
  rfl
theorem numT_mem (r : Nat) : (112 : UInt8) ∈ numT r := by unfold numT; simp
/-- WHAT IS PRINTED IS READ. -/
theorem parse_text {b : Nat} (hb : b < 18446744073709551616) : parseN (textN b) = (canon b, 0) := by
  rcases cls_cases hb with ⟨h, hn⟩ | ⟨h, e⟩ | ⟨h, e⟩ | ⟨h, e⟩ | ⟨h, e⟩ | ⟨h, hc, h0, hi, hs⟩ | ⟨h, hc, h0, hi, hs⟩
  · rw [textN_0 h, canon_nan hn]; rfl
  · rw [textN_1 h, e]; decide
  · rw [textN_4 h, e]; decide
  · rw [textN_5 h, e]; decide
  · rw [textN_8 h, e]; decide
  · rw [textN_neg h, parse_core (List.mem_cons_of_mem _ (numT_mem _)), core_neg h0 hi, hc]
    have : 9223372036854775808 + b % 9223372036854775808 = b := by omega
    rw [this]
  · rw [textN_pos h, parse_core (numT_mem _), core_pos h0 hi, hc]
    have : b % 9223372036854775808 = b := by omega
    rw [this]
theorem cls_posnum {r : Nat} (h : 0 < r) (h2 : r < infR) : clsN r = 6 ∨ clsN r = 7 := by
  have h3 := h2
  unfold infR at h3
  rcases cls_cases (b := r) (by omega) with ⟨hh, hn⟩ | ⟨hh, e⟩ | ⟨hh, e⟩ | ⟨hh, e⟩ | ⟨hh, e⟩ | ⟨hh, hc, h0, hi, hs⟩ | ⟨hh, hc, h0, hi, hs⟩
  · exfalso; unfold nanB infR at hn; rw [decide_eq_true_iff] at hn; omega
  · omega
  · omega
  · omega
  · unfold infR at e; omega
  · omega
  · exact hh
theorem cls_negnum {r : Nat} (h : 0 < r) (h2 : r < infR) : clsN (9223372036854775808 + r) = 2 ∨ clsN (9223372036854775808 + r) = 3 := by
  have h3 := h2
  unfold infR at h3
  rcases cls_cases (b := 9223372036854775808 + r) (by omega) with ⟨hh, hn⟩ | ⟨hh, e⟩ | ⟨hh, e⟩ | ⟨hh, e⟩ | ⟨hh, e⟩ | ⟨hh, hc, h0, hi, hs⟩ | ⟨hh, hc, h0, hi, hs⟩
  · exfalso; unfold nanB infR at hn; rw [decide_eq_true_iff] at hn; omega
  · omega
  · omega
  · omega
  · unfold infR at e; omega
  · exact hh
  · omega
theorem text_pos {r : Nat} (h : 0 < r) (h2 : r < infR) : textN r = numT r := by
  have h3 := h2
  unfold infR at h3
  rw [textN_pos (cls_posnum h h2), show r % 9223372036854775808 = r by omega]
theorem text_neg {r : Nat} (h : 0 < r) (h2 : r < infR) : textN (9223372036854775808 + r) = 45 :: numT r := by
  have h3 := h2
  unfold infR at h3
  rw [textN_neg (cls_negnum h h2), show (9223372036854775808 + r) % 9223372036854775808 = r by omega]
theorem fits_bd {n : Nat} {p : Int} (h : Fits n p) : -9007199254740992 < p ∧ p < 9007199254740992 := by
  have := h.lo; have := h.hi; omega
/-- A text of the right form whose parts fit is that of its float. -/
theorem text_form {a k : List UInt8} (ha : cntB a = true) (hk : intB k = true) (hf : Fits (satN a) (intN k)) : numT (ofOdd (satN a) (intN k)) = a ++ 112 :: k := by
  obtain ⟨s1, s2, s3, s4⟩ := ofOdd_spec hf
  obtain ⟨b1, b2⟩ := fits_bd hf
  have hl := hf.lt
  have hv : satN a = valN a := by unfold satN at hl ⊢; omega
  unfold numT digT powT
  rw [s3, s4, itoa_intN hk b1 b2, hv, (val_dec ha).1]
/-- WHAT IS READ IS PRINTED JUST SO. -/
theorem text_parse (l : List UInt8) : ((parseN l).2 = 0 ∧ textN (parseN l).1 = l ∧ (parseN l).1 < 18446744073709551616) ∨ ((parseN l).2 = 1 ∧ (parseN l).1 = 0) ∨ ((parseN l).2 = 4 ∧ (parseN l).1 = 0) := by
  cases n1 : (l == [110, 97, 110])
  case true =>
    have e : l = [110, 97, 110] := by simpa using n1
    subst e; left; exact ⟨rfl, textN_0 (by decide), by decide⟩
  cases n2 : (l == [105, 110, 102])
  case true =>
    have e : l = [105, 110, 102] := by simpa using n2
    subst e; left; exact ⟨rfl, textN_8 (by decide), by decide⟩
  cases n3 : (l == [45, 105, 110, 102])
  case true =>
    have e : l = [45, 105, 110, 102] := by simpa using n3
    subst e; left; exact ⟨rfl, textN_1 (by decide), by decide⟩
  cases n4 : (l == [48])
  case true =>
    have e : l = [48] := by simpa using n4
    subst e; left; exact ⟨rfl, textN_5 (by decide), by decide⟩
  cases n5 : (l == [45, 48])
  case true =>
    have e : l = [45, 48] := by simpa using n5
    subst e; left; exact ⟨rfl, textN_4 (by decide), by decide⟩
  have hcore : parseN l = coreN l := by unfold parseN; rw [n1, n2, n3, n4, n5]; rfl
  rw [hcore]
  clear hcore n1 n2 n3 n4 n5
  obtain ⟨t, ht⟩ : ∃ t, Lib.trimPrefix l [45] = t := ⟨_, rfl⟩
  rcases cut_split t with ⟨hc, _⟩ | ⟨a, k, e, hna, hc⟩
  · right; right
    have hform : formB l = false := by unfold formB; rw [ht, hc]; rfl
    unfold coreN; rw [hform]; exact ⟨rfl, rfl⟩
  · have hform : formB l = (cntB a && intB k) := by unfold formB; rw [ht, hc]; rfl
    have hnum : numOf l = satN a := by unfold numOf; rw [ht, hc]
    have hpow : powOf l = intN k := by unfold powOf; rw [ht, hc]
    unfold coreN
    rw [hform, hnum, hpow]
    cases ha : cntB a
    · right; right; exact ⟨rfl, rfl⟩
    cases hk : intB k
    · right; right; exact ⟨rfl, rfl⟩
    cases hf : fitsB (satN a) (intN k)
    · right; left; exact ⟨rfl, rfl⟩
    left
    have hF := (fits_iff _ _).1 hf
    obtain ⟨s1, s2, s3, s4⟩ := ofOdd_spec hF
    have hT := text_form ha hk hF
    have s2' := s2
    unfold infR at s2'
    by_cases hm : ∃ u, l = 45 :: u
    · obtain ⟨u, rfl⟩ := hm
      rw [(pre_true u).2] at ht
      rw [(pre_true u).1]
      refine ⟨rfl, ?_, ?_⟩
      · show textN (9223372036854775808 + ofOdd (satN a) (intN k)) = _
        rw [text_neg s1 s2, hT, ← e, ht]
      · show 9223372036854775808 + ofOdd (satN a) (intN k) < _
        omega
    · obtain ⟨p1, p2⟩ := pre_false (l := l) (fun u e' => hm ⟨u, e'⟩)
      rw [p2] at ht
      rw [p1]
      refine ⟨rfl, ?_, ?_⟩
      · show textN (ofOdd (satN a) (intN k)) = _
        rw [text_pos s1 s2, hT, ← e, ht]
      · show ofOdd (satN a) (intN k) < _
        omega
end Go.Proofs.YtjkfcmadoeifgaaDoor
