/- There and back between floats and their texts. Conditions: bits below 2^64. What is printed is read, and what is read is printed just so. Conditions: bits below 2^64. Contracts at the texts of floats. Conditions: bits below 2^64. datum.Print. Conditions: bits below 2^64; the library's tables hold what their initialisers lay. Values that may be: of one text are the same alone. Conditions: bits below 2^64. A text between quotes by the document and by the code's way: the same; raceref3's digits and Quote. Conditions: no more than 2^40 bytes. Texts as values, and values as texts, by the code and by the document. Conditions: no more than 2000 bytes; the library's tables hold what their initialisers lay. A value there and back, by its bytes and by its text, in plain terms. Conditions: bits below 2^64. -/
import Derived.Test.YtjkfcmadoeifgaaGreatDoorHalf
import Derived.Test.YtjkfcmadoeifgaaGreatDoorE
import Derived.Test.YtjkfcmadoeifgaaGreatDoorF
import Derived.Test.YtjkfcmadoeifgaaGreatDoorG
import Derived.Test.YtjkfcmadoeifgaaGreatDoorY
import Derived.Test.YtjkfcmadoeifgaaGreatDoorHelp
import Derived.ShutString
import Derived.Test.YtjkfcmadoeifgaaGreatDoorFi
import Derived.Test.YtjkfcmadoeifgaaGreatDoorQu
import Derived.Test.YtjkfcmadoeifgaaGreatDoorAg
import Derived.Test.YtjkfcmadoeifgaaGreatDoorUq
import Derived.Test.YtjkfcmadoeifgaaGreatDoorTs
namespace Go.Proofs.YtjkfcmadoeifgaaGreatDoor
open Go.Lib

theorem valN_snoc (l : List UInt8) (c : UInt8) : valN (l ++ [c]) = 10 * valN l + (c.toNat - 48) := by
  unfold valN; rw [List.foldl_append]; rfl
theorem dig_byte {d : Nat} (h : d < 10) : (UInt8.ofNat (48 + d)).toNat = 48 + d := by
  rw [UInt8.toNat_ofNat']; omega
theorem digB_byte {d : Nat} (h : d < 10) : digB (UInt8.ofNat (48 + d)) = true := by
  unfold digB; rw [dig_byte h]; simp; omega
theorem dec_all (n : Nat) : (decDigits n).all digB = true := by
  induction n using Nat.strongRecOn with
  | _ n ih =>
    rw [decDigits]
    split
    · rename_i h; rw [List.all_cons, List.all_nil, digB_byte h]; rfl
    · rename_i h; rw [List.all_append, ih _ (by omega), List.all_cons, List.all_nil, digB_byte (Nat.mod_lt n (by decide))]; rfl
theorem dec_ne (n : Nat) : decDigits n ≠ [] := by
  rw [decDigits]; split <;> simp
theorem dec_val (n : Nat) : valN (decDigits n) = n := by
  induction n using Nat.strongRecOn with
  | _ n ih =>
    rw [decDigits]
    split
    · rename_i h
      show 10 * 0 + ((UInt8.ofNat (48 + n)).toNat - 48) = n
      rw [dig_byte h]; omega
    · rename_i h
      rw [valN_snoc, ih _ (by omega), dig_byte (Nat.mod_lt n (by decide))]; omega
theorem dec_head (n : Nat) (h0 : n ≠ 0) : ∃ c t, decDigits n = c :: t ∧ c ≠ 48 := by
  induction n using Nat.strongRecOn with
  | _ n ih =>
    rw [decDigits]
    split
    · rename_i h
      refine ⟨_, [], rfl, fun e => ?_⟩
      have := congrArg UInt8.toNat e
      rw [dig_byte h] at this
      have e48 : (48 : UInt8).toNat = 48 := rfl
      omega
    · rename_i h
      obtain ⟨c, t, e, hc⟩ := ih (n / 10) (by omega) (by omega)
      exact ⟨c, t ++ [UInt8.ofNat (48 + n % 10)], by rw [e]; rfl, hc⟩
theorem dec_cnt (n : Nat) (h0 : n ≠ 0) : cntB (decDigits n) = true := by
  obtain ⟨c, t, e, hc⟩ := dec_head n h0
  have ha := dec_all n
  rw [e] at ha ⊢
  show (c != 48 && (c :: t).all digB) = true
  rw [ha]; simp [hc]
/-- A number as it is written is the numeral of its value. -/
theorem val_dec_aux : ∀ (k : Nat) (l : List UInt8), l.length = k → l ≠ [] → l.all digB = true → (∀ c t, l = c :: t → c ≠ 48) → decDigits (valN l) = l ∧ valN l ≠ 0 := by
  intro k
  induction k with
  | zero => intro l hl hne; exact absurd (List.length_eq_zero_iff.1 hl) hne
  | succ k ih =>
    intro l hl hne ha hh
    rcases List.eq_nil_or_concat l with h | ⟨m, c, h⟩
    · exact absurd h hne
    · rw [List.concat_eq_append] at h
      subst h
      rw [List.all_append, Bool.and_eq_true] at ha
      have hc : 48 ≤ c.toNat ∧ c.toNat ≤ 57 := by have := ha.2; simpa [digB] using this
      rw [valN_snoc]
      cases m with
      | nil =>
        have h48 : c ≠ 48 := hh c [] rfl
        have hne48 : c.toNat ≠ 48 := fun e => h48 (UInt8.toNat_inj.1 e)
        have e0 : 10 * valN [] + (c.toNat - 48) = c.toNat - 48 := by rw [valN_nil]; omega
        rw [e0]
        refine ⟨?_, by omega⟩
        rw [decDigits_one (by omega)]
        have : UInt8.ofNat (48 + (c.toNat - 48)) = c := by
          rw [show 48 + (c.toNat - 48) = c.toNat by omega]; exact UInt8.ofNat_toNat
        rw [this]; rfl
      | cons d m =>
        obtain ⟨i1, i2⟩ := ih (d :: m) (by simpa using hl) (by simp) ha.1 (fun c' t' e' => by
          cases e'; exact hh d (m ++ [c]) rfl)
        generalize hv : valN (d :: m) = v at *
        refine ⟨?_, by omega⟩
        rw [decDigits, dif_neg (by omega)]
        have e1 : (10 * v + (c.toNat - 48)) / 10 = v := by omega
        have e2 : (10 * v + (c.toNat - 48)) % 10 = c.toNat - 48 := by omega
        rw [e1, e2, i1]
        have : UInt8.ofNat (48 + (c.toNat - 48)) = c := by
          rw [show 48 + (c.toNat - 48) = c.toNat by omega]; exact UInt8.ofNat_toNat
        rw [this]
theorem val_dec {l : List UInt8} (h : cntB l = true) : decDigits (valN l) = l ∧ valN l ≠ 0 := by
  cases l with
  | nil => cases h
  | cons c t =>
    refine val_dec_aux _ (c :: t) rfl (by simp) (cntB_digits h) (fun c' t' e => ?_)
    cases e
    simp only [cntB, Bool.and_eq_true] at h
    simpa using h.1

theorem not_mem_p {l : List UInt8} (h : l.all digB = true) : (112 : UInt8) ∉ l := by
  intro hm
  have := List.all_eq_true.1 h _ hm
  cases this
theorem index_p (a b : List UInt8) (h : (112 : UInt8) ∉ a) : Lib.index (a ++ 112 :: b) [112] = a.length := by
  rw [Lib.index_one]
  induction a with
  | nil => simp [Lib.indexByte]
  | cons c t ih =>
    rw [List.mem_cons, not_or] at h
    have hc : (c == 112) = false := by simpa using fun e => h.1 e.symm
    have := ih h.2
    simp only [List.cons_append, Lib.indexByte, hc, this]
    have hn : ((t.length : Int) == -1) = false := by simp
    simp [hn]
theorem cut_found (a b : List UInt8) (h : (112 : UInt8) ∉ a) : Lib.cut (a ++ 112 :: b) [112] = (a, b, true) := by
  unfold Lib.cut
  rw [index_p a b h, if_pos (by omega)]
  have e : ((a.length : Nat) : Int).toNat = a.length := by omega
  rw [e]
  have e2 : (a ++ 112 :: b).drop (a.length + [112].length) = b := by
    rw [List.drop_append]; simp
  exact Prod.ext (List.take_left' rfl) (Prod.ext e2 rfl)
theorem index_none (l : List UInt8) (h : (112 : UInt8) ∉ l) : Lib.index l [112] = -1 := by
  rw [Lib.index_one]
  induction l with
  | nil => rfl
  | cons c t ih =>
    rw [List.mem_cons, not_or] at h
    have hc : (c == 112) = false := by simpa using fun e => h.1 e.symm
    simp [Lib.indexByte, hc, ih h.2]
theorem cut_none (l : List UInt8) (h : (112 : UInt8) ∉ l) : Lib.cut l [112] = (l, [], false) := by
  unfold Lib.cut
  rw [index_none l h]; rfl
/-- Any list is cut at its first 'p', or has none. -/
theorem cut_split (l : List UInt8) : (Lib.cut l [112] = (l, [], false) ∧ (112 : UInt8) ∉ l) ∨ ∃ a b, l = a ++ 112 :: b ∧ (112 : UInt8) ∉ a ∧ Lib.cut l [112] = (a, b, true) := by
  by_cases h : (112 : UInt8) ∈ l
  · right
    obtain ⟨a, b, e, hn⟩ := List.eq_append_cons_of_mem h
    exact ⟨a, b, e, hn, by rw [e]; exact cut_found a b hn⟩
  · exact .inl ⟨cut_none l h, h⟩
theorem pre_true (t : List UInt8) : Lib.hasPrefix (45 :: t) [45] = true ∧ Lib.trimPrefix (45 :: t) [45] = t := by
  refine ⟨by simp [Lib.hasPrefix], ?_⟩
  unfold Lib.trimPrefix
  rw [show Lib.hasPrefix (45 :: t) [45] = true by simp [Lib.hasPrefix]]
  rfl
theorem pre_false {l : List UInt8} (h : ∀ t, l ≠ 45 :: t) : Lib.hasPrefix l [45] = false ∧ Lib.trimPrefix l [45] = l := by
  have : Lib.hasPrefix l [45] = false := by
    cases l with
    | nil => rfl
    | cons c t =>
      have hc : c ≠ 45 := fun e => h t (by rw [e])
      simp [Lib.hasPrefix, List.isPrefixOf]
      intro e; exact hc e.symm
  refine ⟨this, ?_⟩
  unfold Lib.trimPrefix
  rw [this]; rfl
theorem pre_digits {l : List UInt8} (h : l.all digB = true) : Lib.hasPrefix l [45] = false ∧ Lib.trimPrefix l [45] = l := by
  refine pre_false (fun t e => ?_)
  subst e
  simp [digB] at h
theorem int_itoa (p : Int) : intB (itoa p) = true := by
  unfold intB itoa
  by_cases h : p < 0
  · rw [if_pos h, (pre_true _).2, dec_cnt _ (by omega)]; simp
  · rw [if_neg h]
    by_cases h0 : p = 0
    · subst h0; rw [show (0 : Int).toNat = 0 from rfl, decDigits_one (by decide)]; rfl
    · rw [(pre_digits (dec_all _)).2, dec_cnt _ (by omega)]; simp
theorem intN_itoa (p : Int) (h1 : -9007199254740992 ≤ p) (h2 : p ≤ 9007199254740992) : intN (itoa p) = p := by
  unfold intN itoa
  by_cases h : p < 0
  · rw [if_pos h, (pre_true _).1, (pre_true _).2, cond_true]
    unfold satN; rw [dec_val]; omega
  · rw [if_neg h, (pre_digits (dec_all _)).1, (pre_digits (dec_all _)).2, cond_false]
    unfold satN; rw [dec_val]; omega
theorem itoa_intN {k : List UInt8} (h : intB k = true) (h1 : -9007199254740992 < intN k) (h2 : intN k < 9007199254740992) : itoa (intN k) = k := by
  unfold intB at h
  rw [Bool.or_eq_true] at h
  rcases h with h | h
  · have e : k = [48] := by simpa using h
    subst e
    have : intN [48] = 0 := by decide
    rw [this]; unfold itoa
    rw [if_neg (by decide), show (0 : Int).toNat = 0 from rfl, decDigits_one (by decide)]; rfl
  · by_cases hm : ∃ t, k = 45 :: t
    · obtain ⟨t, rfl⟩ := hm
      rw [(pre_true t).2] at h
      obtain ⟨d1, d2⟩ := val_dec h
      have hi : intN (45 :: t) = -(satN t : Int) := by unfold intN; rw [(pre_true t).1, (pre_true t).2, cond_true]
      rw [hi] at h1 h2 ⊢
      have e : satN t = valN t := by unfold satN at h1 ⊢; omega
      rw [e]
      unfold itoa
      rw [if_pos (by omega), show (-(valN t : Int)).natAbs = valN t by omega, d1]
    · obtain ⟨p1, p2⟩ := pre_false (l := k) (fun t e => hm ⟨t, e⟩)
      rw [p2] at h
      obtain ⟨d1, d2⟩ := val_dec h
      have hi : intN k = (satN k : Int) := by unfold intN; rw [p1, p2, cond_false]
      rw [hi] at h1 h2 ⊢
      have e : satN k = valN k := by unfold satN at h2 ⊢; omega
      rw [e]
      unfold itoa
      rw [if_neg (by omega), show ((valN k : Nat) : Int).toNat = valN k by omega, d1]

/-- An odd part and a power tell the float. -/
theorem odd_pow_val {r : Nat} (h : 0 < r) (h2 : r < infR) : fullN r * 2 ^ expN r = oddN r * 2 ^ (powN r + 1075).toNat := by
  obtain ⟨e1, e2⟩ := full_odd h
  have b := expN_bd h2
  have e3 : (powN r + 1075).toNat = evenN r + expN r := by unfold powN; omega
  rw [e3, e1, Nat.pow_add, Nat.mul_comm (2 ^ evenN r), Nat.mul_assoc]
theorem odd_pow_inj {r q : Nat} (hr0 : 0 < r) (hr : r < infR) (hq0 : 0 < q) (hq : q < infR) (h1 : oddN r = oddN q) (h2 : powN r = powN q) : r = q := by
  have e : fullN r * 2 ^ expN r = fullN q * 2 ^ expN q := by rw [odd_pow_val hr0 hr, odd_pow_val hq0 hq, h1, h2]
  rcases Nat.lt_trichotomy r q with h | h | h
  · have := val_lt (i := expN r) (j := expN q) h hq (by omega); omega
  · exact h
  · have := val_lt (i := expN q) (j := expN r) h hr (by omega); omega
theorem fits_of {r : Nat} (h : 0 < r) (h2 : r < infR) : Fits (oddN r) (powN r) := by
  obtain ⟨e1, e2⟩ := full_odd h
  have b := expN_bd h2
  have hp := powN_bd h h2
  have ho : oddN r ≠ 0 := by omega
  refine ⟨e2, oddN_lt h, hp.1, ?_⟩
  have hl : (oddN r * 2 ^ evenN r).log2 = (oddN r).log2 + evenN r := log2_mul_pow ho _
  rw [Nat.mul_comm, ← e1] at hl
  have : (fullN r).log2 < 53 := (Nat.log2_lt (fullN_bd h).1).2 (fullN_bd h).2
  unfold powN
  omega
theorem ofOdd_self {r : Nat} (h : 0 < r) (h2 : r < infR) : ofOdd (oddN r) (powN r) = r := by
  obtain ⟨s1, s2, s3, s4⟩ := ofOdd_spec (fits_of h h2)
  exact odd_pow_inj s1 s2 h h2 s3 s4
end Go.Proofs.YtjkfcmadoeifgaaGreatDoor
namespace Go.Proofs.YtjkfcmadoeifgaaGreatDoor
open Go.Lib

theorem parse_core {l : List UInt8} (h : (112 : UInt8) ∈ l) : parseN l = coreN l := by
  have hs : ∀ k : List UInt8, (112 : UInt8) ∉ k → (l == k) = false := fun k hk => by
    cases hc : (l == k)
    · rfl
    · have : l = k := by simpa using hc
      rw [this] at h; exact absurd h hk
  unfold parseN
  rw [hs _ (by decide), hs _ (by decide), hs _ (by decide), hs _ (by decide), hs _ (by decide)]
  rfl
theorem numT_cut {r : Nat} (_h : 0 < r) : Lib.cut (numT r) [112] = (digT r, powT r, true) := cut_found _ _ (not_mem_p (dec_all _))
theorem digT_cons {r : Nat} (h : 0 < r) : ∃ c t, digT r = c :: t ∧ c ≠ 48 ∧ digB c = true := by
  have ho := (full_odd h).2
  obtain ⟨c, t, e, hc⟩ := dec_head (oddN r) (by omega)
  have ha := dec_all (oddN r)
  rw [e, List.all_cons, Bool.and_eq_true] at ha
  exact ⟨c, t, e, hc, ha.1⟩
theorem numT_pre {r : Nat} (h : 0 < r) : Lib.hasPrefix (numT r) [45] = false ∧ Lib.trimPrefix (numT r) [45] = numT r := by
  refine pre_false (fun t e => ?_)
  obtain ⟨c, t', e', _, hd⟩ := digT_cons h
  unfold numT at e
  rw [e', List.cons_append] at e
  have : c = 45 := (List.cons.inj e).1
  rw [this] at hd; cases hd
theorem num_facts {r : Nat} (h : 0 < r) (h2 : r < infR) : cntB (digT r) = true ∧ intB (powT r) = true ∧ satN (digT r) = oddN r ∧ intN (powT r) = powN r := by
  have ho := (full_odd h).2
  have hl := oddN_lt h
  have hp := powN_bd h h2
  refine ⟨dec_cnt _ (by omega), int_itoa _, ?_, intN_itoa _ (by omega) (by omega)⟩
  unfold satN digT; rw [dec_val]; omega
theorem core_pos {r : Nat} (h : 0 < r) (h2 : r < infR) : coreN (numT r) = (r, 0) := by
  obtain ⟨p1, p2⟩ := numT_pre h
  obtain ⟨f1, f2, f3, f4⟩ := num_facts h h2
  have hc := numT_cut h
  have hform : formB (numT r) = true := by unfold formB; rw [p2, hc]; simp [f1, f2]
  have hn : numOf (numT r) = oddN r := by unfold numOf; rw [p2, hc]; exact f3
  have hp : powOf (numT r) = powN r := by unfold powOf; rw [p2, hc]; exact f4
  unfold coreN
  rw [hform, hn, hp, (fits_iff _ _).2 (fits_of h h2), p1, ofOdd_self h h2]
  rfl
theorem core_neg {r : Nat} (h : 0 < r) (h2 : r < infR) : coreN (45 :: numT r) = (9223372036854775808 + r, 0) := by
  obtain ⟨p1, p2⟩ := pre_true (numT r)
  obtain ⟨f1, f2, f3, f4⟩ := num_facts h h2
  have hc := numT_cut h
  have hform : formB (45 :: numT r) = true := by unfold formB; rw [p2, hc]; simp [f1, f2]
  have hn : numOf (45 :: numT r) = oddN r := by unfold numOf; rw [p2, hc]; exact f3
  have hp : powOf (45 :: numT r) = powN r := by unfold powOf; rw [p2, hc]; exact f4
  unfold coreN
  rw [hform, hn, hp, (fits_iff _ _).2 (fits_of h h2), p1, ofOdd_self h h2]
  rfl
theorem numT_mem (r : Nat) : (112 : UInt8) ∈ numT r := by unfold numT; simp
/-- WHAT IS PRINTED IS READ. -/
theorem parse_text {b : Nat} (hb : b < 18446744073709551616) : parseN (textN b) = (canon b, 0) := by
  rcases cls_cases hb with ⟨h, hn⟩ | ⟨h, e⟩ | ⟨h, e⟩ | ⟨h, e⟩ | ⟨h, e⟩ | ⟨h, hc, h0, hi, hs⟩ | ⟨h, hc, h0, hi, hs⟩
  · rw [textN_0 h, canon_nan hn]; rfl
  · rw [textN_1 h, e]; decide
  · rw [textN_4 h, e]; decide
  · rw [textN_5 h, e]; decide
  · rw [textN_8 h, e]; decide
  · rw [textN_neg h, parse_core (List.mem_cons_of_mem _ (numT_mem _)), core_neg h0 hi, hc]
    have : 9223372036854775808 + b % 9223372036854775808 = b := by omega
    rw [this]
  · rw [textN_pos h, parse_core (numT_mem _), core_pos h0 hi, hc]
    have : b % 9223372036854775808 = b := by omega
    rw [this]
theorem cls_posnum {r : Nat} (h : 0 < r) (h2 : r < infR) : clsN r = 6 ∨ clsN r = 7 := by
  have h3 := h2
  unfold infR at h3
  rcases cls_cases (b := r) (by omega) with ⟨hh, hn⟩ | ⟨hh, e⟩ | ⟨hh, e⟩ | ⟨hh, e⟩ | ⟨hh, e⟩ | ⟨hh, hc, h0, hi, hs⟩ | ⟨hh, hc, h0, hi, hs⟩
  · exfalso; unfold nanB infR at hn; rw [decide_eq_true_iff] at hn; omega
  · omega
  · omega
  · omega
  · unfold infR at e; omega
  · omega
  · exact hh
theorem cls_negnum {r : Nat} (h : 0 < r) (h2 : r < infR) : clsN (9223372036854775808 + r) = 2 ∨ clsN (9223372036854775808 + r) = 3 := by
  have h3 := h2
  unfold infR at h3
  rcases cls_cases (b := 9223372036854775808 + r) (by omega) with ⟨hh, hn⟩ | ⟨hh, e⟩ | ⟨hh, e⟩ | ⟨hh, e⟩ | ⟨hh, e⟩ | ⟨hh, hc, h0, hi, hs⟩ | ⟨hh, hc, h0, hi, hs⟩
  · exfalso; unfold nanB infR at hn; rw [decide_eq_true_iff] at hn; omega
  · omega
  · omega
  · omega
  · unfold infR at e; omega
  · exact hh
  · omega
theorem text_pos {r : Nat} (h : 0 < r) (h2 : r < infR) : textN r = numT r := by
  have h3 := h2
  unfold infR at h3
  rw [textN_pos (cls_posnum h h2), show r % 9223372036854775808 = r by omega]
theorem text_neg {r : Nat} (h : 0 < r) (h2 : r < infR) : textN (9223372036854775808 + r) = 45 :: numT r := by
  have h3 := h2
  unfold infR at h3
  rw [textN_neg (cls_negnum h h2), show (9223372036854775808 + r) % 9223372036854775808 = r by omega]
theorem fits_bd {n : Nat} {p : Int} (h : Fits n p) : -9007199254740992 < p ∧ p < 9007199254740992 := by
  have := h.lo; have := h.hi; omega
/-- A text of the right form whose parts fit is that of its float. -/
theorem text_form {a k : List UInt8} (ha : cntB a = true) (hk : intB k = true) (hf : Fits (satN a) (intN k)) : numT (ofOdd (satN a) (intN k)) = a ++ 112 :: k := by
  obtain ⟨s1, s2, s3, s4⟩ := ofOdd_spec hf
  obtain ⟨b1, b2⟩ := fits_bd hf
  have hl := hf.lt
  have hv : satN a = valN a := by unfold satN at hl ⊢; omega
  unfold numT digT powT
  rw [s3, s4, itoa_intN hk b1 b2, hv, (val_dec ha).1]
/-- WHAT IS READ IS PRINTED JUST SO. -/
theorem text_parse (l : List UInt8) : ((parseN l).2 = 0 ∧ textN (parseN l).1 = l ∧ (parseN l).1 < 18446744073709551616) ∨ ((parseN l).2 = 1 ∧ (parseN l).1 = 0) ∨ ((parseN l).2 = 4 ∧ (parseN l).1 = 0) := by
  cases n1 : (l == [110, 97, 110])
  case true =>
    have e : l = [110, 97, 110] := by simpa using n1
    subst e; left; exact ⟨rfl, textN_0 (by decide), by decide⟩
  cases n2 : (l == [105, 110, 102])
  case true =>
    have e : l = [105, 110, 102] := by simpa using n2
    subst e; left; exact ⟨rfl, textN_8 (by decide), by decide⟩
  cases n3 : (l == [45, 105, 110, 102])
  case true =>
    have e : l = [45, 105, 110, 102] := by simpa using n3
    subst e; left; exact ⟨rfl, textN_1 (by decide), by decide⟩
  cases n4 : (l == [48])
  case true =>
    have e : l = [48] := by simpa using n4
    subst e; left; exact ⟨rfl, textN_5 (by decide), by decide⟩
  cases n5 : (l == [45, 48])
  case true =>
    have e : l = [45, 48] := by simpa using n5
    subst e; left; exact ⟨rfl, textN_4 (by decide), by decide⟩
  have hcore : parseN l = coreN l := by unfold parseN; rw [n1, n2, n3, n4, n5]; rfl
  rw [hcore]
  clear hcore n1 n2 n3 n4 n5
  obtain ⟨t, ht⟩ : ∃ t, Lib.trimPrefix l [45] = t := ⟨_, rfl⟩
  rcases cut_split t with ⟨hc, _⟩ | ⟨a, k, e, hna, hc⟩
  · right; right
    have hform : formB l = false := by unfold formB; rw [ht, hc]; rfl
    unfold coreN; rw [hform]; exact ⟨rfl, rfl⟩
  · have hform : formB l = (cntB a && intB k) := by unfold formB; rw [ht, hc]; rfl
    have hnum : numOf l = satN a := by unfold numOf; rw [ht, hc]
    have hpow : powOf l = intN k := by unfold powOf; rw [ht, hc]
    unfold coreN
    rw [hform, hnum, hpow]
    cases ha : cntB a
    · right; right; exact ⟨rfl, rfl⟩
    cases hk : intB k
    · right; right; exact ⟨rfl, rfl⟩
    cases hf : fitsB (satN a) (intN k)
    · right; left; exact ⟨rfl, rfl⟩
    left
    have hF := (fits_iff _ _).1 hf
    obtain ⟨s1, s2, s3, s4⟩ := ofOdd_spec hF
    have hT := text_form ha hk hF
    have s2' := s2
    unfold infR at s2'
    by_cases hm : ∃ u, l = 45 :: u
    · obtain ⟨u, rfl⟩ := hm
      rw [(pre_true u).2] at ht
      rw [(pre_true u).1]
      refine ⟨rfl, ?_, ?_⟩
      · show textN (9223372036854775808 + ofOdd (satN a) (intN k)) = _
        rw [text_neg s1 s2, hT, ← e, ht]
      · show 9223372036854775808 + ofOdd (satN a) (intN k) < _
        omega
    · obtain ⟨p1, p2⟩ := pre_false (l := l) (fun u e' => hm ⟨u, e'⟩)
      rw [p2] at ht
      rw [p1]
      refine ⟨rfl, ?_, ?_⟩
      · show textN (ofOdd (satN a) (intN k)) = _
        rw [text_pos s1 s2, hT, ← e, ht]
      · show ofOdd (satN a) (intN k) < _
        omega
end Go.Proofs.YtjkfcmadoeifgaaGreatDoor
namespace Go.Proofs.YtjkfcmadoeifgaaGreatDoor
open Go.RowKit
theorem textN_len {b : Nat} (hb : b < 18446744073709551616) : (textN b).length ≤ 50 := by
  have num : ∀ r, 0 < r → r < infR → (numT r).length ≤ 42 := fun r h h2 => by
    have h3 := digT_len h
    have h4 := powT_len h h2
    unfold numT; rw [List.length_append, List.length_cons]; omega
  rcases cls_cases hb with ⟨h, _⟩ | ⟨h, _⟩ | ⟨h, _⟩ | ⟨h, _⟩ | ⟨h, _⟩ | ⟨h, hc, h0, hi, hs⟩ | ⟨h, hc, h0, hi, hs⟩
  · rw [textN_0 h]; decide
  · rw [textN_1 h]; decide
  · rw [textN_4 h]; decide
  · rw [textN_5 h]; decide
  · rw [textN_8 h]; decide
  · rw [textN_neg h, List.length_cons]; have := num _ h0 hi; omega
  · rw [textN_pos h]; have := num _ h0 hi; omega
/-- The text of a float, read. -/
theorem parse_back (b : Nat) (hb : b < 18446744073709551616) (w : World) :
    Calls Tryz.prog 88 #[.string ⟨(textN b).toArray⟩] w fun e w' => e = .returned (.tuple #[.float .f64 (canon b), .int .i64 0]) ∧ Below w.heap.size w w' := by
  have := parse_any ⟨(textN b).toArray⟩ (by rw [mk_size]; have := textN_len hb; omega) w
  rw [mk_list, parse_text hb] at this
  exact this
theorem parse_is (s : ByteArray) (z : Nat) (f : Int) (h : parseN s.data.toList = (z, f)) (hs : s.size ≤ 1000000) (w : World) :
    Calls Tryz.prog 88 #[.string s] w fun e w' => e = .returned (.tuple #[.float .f64 z, .int .i64 f]) ∧ Below w.heap.size w w' := by
  have := parse_any s hs w
  rw [h] at this
  exact this
theorem print_is (z : Nat) (s : ByteArray) (h : textN z = s.data.toList) (hz : z < 18446744073709551616) (w : World) (hT : Tabs w) :
    Calls Tryz.prog 64 #[.float .f64 z] w fun e w' => e = .returned (.string s) ∧ Below w.heap.size w w' := by
  have := print_any z hz w hT
  rw [h] at this
  exact this
end Go.Proofs.YtjkfcmadoeifgaaGreatDoor
namespace Go.Proofs.YtjkfcmadoeifgaaGreatDoor
open Go.RowKit
/-- The text of a value. -/
def printV (v : DV) : List UInt8 := if mayV v = true then (if v.k = 1 then textN v.x else if v.k = 2 then quoteV v.s else [110, 111, 110, 101]) else [63]
theorem vprint_any (v : DV) (hx : v.x < 18446744073709551616) (w : World) (hT : Tabs w) : Calls Tryz.prog 28 #[vagg v] w fun e w' => e = .returned (.string ⟨(printV v).toArray⟩) ∧ Below w.heap.size w w' := by
  have HM := fun w => Lib.hid (may_any v w)
  have HT := Lib.hid hT
  have HX := Lib.hid hx
  have hb := fun h hk => may_bounds (v := v) h hk
  unfold printV
  obtain ⟨k, x, s⟩ := v
  have H1 := Lib.hid (below1 w (vobj ⟨k, x, s⟩))
  have HA := Lib.hid (at_new w ⟨k, x, s⟩)
  simp only at hb HX ⊢
  clear hx hT
  cases hm : mayV ⟨k, x, s⟩
  · rw [hm] at HM
    rw [if_neg (by simp)]
    clear hb hm
    go_enter Tryz.func28, Tryz.ntmps28
    go_wp2_with (first
      | (go_at_call 29; ((with_reducible refine (HM _).out.mono ?_); rintro e w1 ⟨rfl, hb⟩; have HB1 := Lib.hid (H1.out.trans (hb.mono H1.out.size)); clear hb)))
    go_ret
    exact ⟨rfl, HB1.out⟩
  · rw [if_pos rfl]
    have hb2 := hb hm
    rw [hm] at HM
    clear hb hm
    by_cases h1 : k = 1
    · subst h1
      rw [if_pos rfl]
      clear hb2
      go_enter Tryz.func28, Tryz.ntmps28
      go_wp2_with (first
        | (go_at_call 29; ((with_reducible refine (HM _).out.mono ?_); rintro e w1 ⟨rfl, hb⟩; have hz := HA.out.below hb HA.out.lt; have d3 := hz.c0; have d4 := hz.c1; have HB1 := Lib.hid (H1.out.trans (hb.mono H1.out.size)); clear hb hz))
        | (go_at_call 64; refine (print_any _ HX.out _ (HT.out.below HB1.out)).mono ?_; rintro e w2 ⟨rfl, hb⟩; have HB2 := Lib.hid (HB1.out.trans (hb.mono HB1.out.size)); clear hb))
      go_ret
      exact ⟨rfl, HB2.out⟩
    rw [if_neg h1]
    have b1 : (k == 1) = false := by rw [beq_eq_false_iff_ne]; exact h1
    by_cases h2 : k = 2
    · subst h2
      rw [if_pos rfl]
      have hsz : (⟨s.toArray⟩ : ByteArray).size ≤ 1099511627776 := by
        have : (⟨s.toArray⟩ : ByteArray).size = s.length := rfl
        have := hb2 rfl
        omega
      have HQ := fun w => Lib.hid (quote_any ⟨s.toArray⟩ hsz w)
      rw [show (⟨s.toArray⟩ : ByteArray).data.toList = s from rfl] at HQ
      clear hb2 hsz h1
      go_enter Tryz.func28, Tryz.ntmps28
      go_wp2_with (first
        | (go_at_call 29; ((with_reducible refine (HM _).out.mono ?_); rintro e w1 ⟨rfl, hb⟩; have hz := HA.out.below hb HA.out.lt; have d3 := hz.c0; have d4 := hz.c2; have HB1 := Lib.hid (H1.out.trans (hb.mono H1.out.size)); clear hb hz))
        | (go_at_call 26; with_reducible refine (HQ _).out.mono ?_; rintro e w2 ⟨rfl, hb⟩; have HB2 := Lib.hid (HB1.out.trans (hb.mono HB1.out.size)); clear hb))
      go_ret
      exact ⟨rfl, HB2.out⟩
    rw [if_neg h2]
    have b2 : (k == 2) = false := by rw [beq_eq_false_iff_ne]; exact h2
    clear hb2 h1 h2
    go_enter Tryz.func28, Tryz.ntmps28
    go_wp2_with (first
      | (go_at_call 29; ((with_reducible refine (HM _).out.mono ?_); rintro e w1 ⟨rfl, hb⟩; have hz := HA.out.below hb HA.out.lt; have d3 := hz.c0; have HB1 := Lib.hid (H1.out.trans (hb.mono H1.out.size)); clear hb hz)))
    go_ret
    exact ⟨rfl, HB1.out⟩
end Go.Proofs.YtjkfcmadoeifgaaGreatDoor
namespace Go.Proofs.YtjkfcmadoeifgaaGreatDoor
theorem numT_head (r : Nat) : (numT r).headD 0 ≠ 34 := by
  unfold numT digT
  have ha := dec_all (oddN r)
  generalize Lib.decDigits (oddN r) = D at *
  cases D with
  | nil => show (112 : UInt8) ≠ 34; decide
  | cons c t =>
    simp only [List.all_cons, Bool.and_eq_true] at ha
    show c ≠ 34
    intro e
    subst e
    have := ha.1
    revert this
    decide
theorem textN_head {b : Nat} (hb : b < 18446744073709551616) : (textN b).headD 0 ≠ 34 := by
  rcases cls_cases hb with ⟨h, _⟩ | ⟨h, _⟩ | ⟨h, _⟩ | ⟨h, _⟩ | ⟨h, _⟩ | ⟨h, hc, h0, hi, hs⟩ | ⟨h, hc, h0, hi, hs⟩
  · rw [textN_0 h]; decide
  · rw [textN_1 h]; decide
  · rw [textN_4 h]; decide
  · rw [textN_5 h]; decide
  · rw [textN_8 h]; decide
  · rw [textN_neg h]; show (45 : UInt8) ≠ 34; decide
  · rw [textN_pos h]; exact numT_head _
theorem none_parse : (parseN [110, 111, 110, 101]).2 = 4 := by decide +kernel
/-- A quoted byte is read back. -/
theorem first_q1 (c : UInt8) (r : List UInt8) : firstV (q1 c ++ r) = (c, (q1 c).length) := by
  cases hp : plainB c
  · have hq : q1 c = [92, hexD (c.toNat / 16), hexD (c.toNat % 16)] := by unfold q1; rw [hp]; rfl
    rw [hq]
    have hx : ∀ n : Fin 256, plainB (UInt8.ofNat n.val) = false → plainB 92 = false ∧ hexI (hexD (n.val / 16)) = ((n.val / 16 : Nat) : Int) ∧ hexI (hexD (n.val % 16)) = ((n.val % 16 : Nat) : Int) := by decide +kernel
    obtain ⟨h92, h1, h2⟩ := hx ⟨c.toNat, c.toNat_lt⟩ (by simpa using hp)
    simp only at h1 h2
    have e : UInt8.ofNat (16 * (c.toNat / 16) + c.toNat % 16) = c := by
      rw [show 16 * (c.toNat / 16) + c.toNat % 16 = c.toNat by omega]
      simp
    unfold firstV
    simp only [List.cons_append, List.nil_append, List.getD_cons_zero, List.getD_cons_succ, List.length_cons]
    rw [if_neg (by simp [h92]), if_neg (by simp), h1, h2, if_neg (by omega)]
    simp only [Int.toNat_natCast]
    rw [e, if_neg (by simp [hp])]
    rfl
  · have hq : q1 c = [c] := by unfold q1; rw [hp]; rfl
    rw [hq]
    unfold firstV
    simp [hp]
theorem unq_q1s : ∀ (l : List UInt8) (n : Nat), (l.flatMap q1).length ≤ n → unqL n (l.flatMap q1) = some l := by
  intro l
  induction l with
  | nil => intro n _; simp [unqL_nil]
  | cons c r ih =>
    intro n hn
    rw [List.flatMap_cons, List.length_append] at hn
    have h1 := (q1_len c).1
    have hne : q1 c ++ r.flatMap q1 ≠ [] := by
      intro e
      have := congrArg List.length e
      rw [List.length_append, List.length_nil] at this
      omega
    cases n with
    | zero => omega
    | succ n =>
      rw [List.flatMap_cons, unqL_step hne (by rw [first_q1]; simp only; omega), first_q1]
      simp only [List.drop_left]
      rw [ih n (by omega)]
      rfl
theorem quote_inj {l m : List UInt8} (h : quoteV l = quoteV m) : l = m := by
  unfold quoteV at h
  have h1 : l.flatMap q1 = m.flatMap q1 := List.append_cancel_right (List.cons.inj h).2
  have e1 := unq_q1s l _ (Nat.le_refl _)
  have e2 := unq_q1s m _ (Nat.le_refl _)
  rw [h1, e2] at e1
  exact (Option.some.inj e1).symm
theorem may_num {a : DV} (h : mayV a = true) (hk : a.k = 1) : a.x = canon a.x := by
  unfold mayV at h
  rw [if_neg (by omega), if_pos hk] at h
  simp at h
  exact h.1
theorem may_three {a : DV} (h : mayV a = true) : a.k = 0 ∨ a.k = 1 ∨ a.k = 2 := by
  unfold mayV at h
  split at h
  · rename_i h0; exact .inl h0
  · split at h
    · rename_i h1; exact .inr (.inl h1)
    · split at h
      · rename_i h2; exact .inr (.inr h2)
      · cases h
theorem text_none {b : Nat} (hb : b < 18446744073709551616) : textN b ≠ [110, 111, 110, 101] := by
  intro e
  have h := parse_text hb
  rw [e] at h
  have := none_parse
  rw [h] at this
  cases this
theorem text_quote {b : Nat} (hb : b < 18446744073709551616) (l : List UInt8) : textN b ≠ quoteV l := by
  intro e
  have h := textN_head hb
  rw [e] at h
  exact h rfl
theorem quote_none (l : List UInt8) : quoteV l ≠ [110, 111, 110, 101] := by
  intro e
  have := congrArg (·.headD 0) e
  simp [quoteV] at this
end Go.Proofs.YtjkfcmadoeifgaaGreatDoor
namespace Go.Proofs.YtjkfcmadoeifgaaGreatDoor
theorem hexD_I (c : UInt8) (n : Nat) (hn : n < 16) (h : hexI c = (n : Int)) : c = hexD n := by
  have : ∀ c : Fin 256, ∀ n : Fin 16, hexI (UInt8.ofNat c.val) = ((n.val : Nat) : Int) → UInt8.ofNat c.val = hexD n.val := by decide +kernel
  have h2 := this ⟨c.toNat, c.toNat_lt⟩ ⟨n, hn⟩
  simp only [UInt8.ofNat_toNat] at h2
  exact h2 h
theorem three_list {l : List UInt8} (h : 3 ≤ l.length) : l = l.getD 0 0 :: l.getD 1 0 :: l.getD 2 0 :: l.drop 3 := by
  match l, h with
  | a :: b :: c :: r, _ => rfl
/-- What stands at the beginning is the byte, written by Quote. -/
theorem first_take {l : List UInt8} (hl : l ≠ []) (h : (firstV l).2 ≠ 0) : l = q1 (firstV l).1 ++ l.drop (firstV l).2 := by
  unfold firstV at h ⊢
  by_cases hp : plainB (l.getD 0 0) = true
  · rw [if_pos hp]
    simp only
    unfold q1
    rw [if_pos hp]
    match l, hl with
    | a :: r, _ => rfl
  rw [if_neg hp] at h ⊢
  by_cases h2 : l.getD 0 0 ≠ 92 ∨ l.length < 3
  · rw [if_pos h2] at h
    exact absurd rfl h
  rw [if_neg h2] at h ⊢
  by_cases h3 : hexI (l.getD 1 0) < 0 ∨ hexI (l.getD 2 0) < 0
  · rw [if_pos h3] at h
    exact absurd rfl h
  rw [if_neg h3] at h ⊢
  by_cases h4 : plainB (UInt8.ofNat (16 * (hexI (l.getD 1 0)).toNat + (hexI (l.getD 2 0)).toNat)) = true
  · rw [if_pos h4] at h
    exact absurd rfl h
  rw [if_neg h4]
  simp only
  have hc : ∃ a : Nat, a < 16 ∧ hexI (l.getD 1 0) = (a : Int) := by
    rcases hexI_cases (l.getD 1 0) with e | e
    · omega
    · exact e
  have hd : ∃ b : Nat, b < 16 ∧ hexI (l.getD 2 0) = (b : Int) := by
    rcases hexI_cases (l.getD 2 0) with e | e
    · omega
    · exact e
  obtain ⟨a, ha, ea⟩ := hc
  obtain ⟨b, hb, eb⟩ := hd
  rw [ea, eb] at h4 ⊢
  simp only [Int.toNat_natCast] at h4 ⊢
  have hn : (UInt8.ofNat (16 * a + b)).toNat = 16 * a + b := by
    rw [UInt8.toNat_ofNat']
    omega
  unfold q1
  rw [if_neg h4, hn, show (16 * a + b) / 16 = a by omega, show (16 * a + b) % 16 = b by omega, ← hexD_I _ a ha ea, ← hexD_I _ b hb eb]
  have h92 : l.getD 0 0 = 92 := by
    by_cases e : l.getD 0 0 = 92
    · exact e
    · exact absurd (.inl e) h2
  rw [← h92]
  exact three_list (by omega)
theorem unqL_back : ∀ (n : Nat) (l t : List UInt8), unqL n l = some t → t.flatMap q1 = l := by
  intro n
  induction n with
  | zero =>
    intro l t h
    unfold unqL at h
    split at h
    · rename_i e; rw [e]; rw [← Option.some.inj h]; rfl
    · cases h
  | succ n ih =>
    intro l t h
    by_cases hl : l = []
    · subst hl; rw [unqL_nil] at h; rw [← Option.some.inj h]; rfl
    · unfold unqL at h
      rw [if_neg hl] at h
      by_cases hk : (firstV l).2 = 0
      · rw [if_pos hk] at h; cases h
      · rw [if_neg hk] at h
        cases hu : unqL n (l.drop (firstV l).2) with
        | none => rw [hu] at h; cases h
        | some u =>
          rw [hu] at h
          have e : t = (firstV l).1 :: u := (Option.some.inj h).symm
          rw [e, List.flatMap_cons, ih _ _ hu]
          exact (first_take hl hk).symm
theorem pre_34 (l : List UInt8) : Lib.hasPrefix (34 :: l) [34] = true ∧ Lib.trimPrefix (34 :: l) [34] = l := by
  have h : Lib.hasPrefix (34 :: l) [34] = true := by simp [Lib.hasPrefix]
  exact ⟨h, by unfold Lib.trimPrefix; rw [if_pos h]; rfl⟩
theorem suf_34 (l : List UInt8) : Lib.hasSuffix (l ++ [34]) [34] = true ∧ Lib.trimSuffix (l ++ [34]) [34] = l := by
  have h : Lib.hasSuffix (l ++ [34]) [34] = true := by
    unfold Lib.hasSuffix
    rw [List.isSuffixOf_iff_suffix]
    exact List.suffix_append _ _
  refine ⟨h, ?_⟩
  unfold Lib.trimSuffix
  rw [if_pos h]
  simp
theorem unq_quote (t : List UInt8) : unqV (quoteV t) = some t := by
  have h1 := pre_34 (t.flatMap q1 ++ [34])
  have h2 := suf_34 (t.flatMap q1)
  unfold unqV closedV bodyV quoteV
  rw [h1.1, h1.2, h2.1, h2.2]
  exact unq_q1s t _ (Nat.le_refl _)
theorem quoted_of {l : List UInt8} (h : (Lib.hasPrefix l [34] && closedV l) = true) : l = 34 :: (bodyV l ++ [34]) := by
  obtain ⟨h1, h2⟩ := Bool.and_eq_true_iff.1 h
  unfold closedV at h2
  unfold bodyV
  have hp : [34] <+: l := by unfold Lib.hasPrefix at h1; exact List.isPrefixOf_iff_prefix.1 h1
  obtain ⟨r, rfl⟩ := hp
  change (Lib.hasSuffix (Lib.trimPrefix (34 :: r) [34]) [34]) = true at h2
  change 34 :: r = 34 :: (Lib.trimSuffix (Lib.trimPrefix (34 :: r) [34]) [34] ++ [34])
  rw [(pre_34 r).2] at h2 ⊢
  have hs : [34] <:+ r := by unfold Lib.hasSuffix at h2; exact List.isSuffixOf_iff_suffix.1 h2
  obtain ⟨b, rfl⟩ := hs
  rw [(suf_34 b).2]
theorem unq_back {l t : List UInt8} (h : unqV l = some t) : quoteV t = l := by
  unfold unqV at h
  split at h
  · rename_i hc
    have e := unqL_back _ _ _ h
    unfold quoteV
    rw [e]
    exact (quoted_of hc).symm
  · cases h
end Go.Proofs.YtjkfcmadoeifgaaGreatDoor
namespace Go.Proofs.YtjkfcmadoeifgaaGreatDoor
open Go.RowKit
theorem ext_pre (s : ByteArray) (h : 0 < s.size) (hb : s[0] = 45) : (s.extract 1 s.size).data.toList = Lib.trimPrefix s.data.toList [45] ∧ Lib.hasPrefix s.data.toList [45] = true := by
  have e := head_eq s h
  rw [hb] at e
  obtain ⟨p1, p2⟩ := pre_true (s.data.toList.drop 1)
  rw [← e] at p1 p2
  exact ⟨by rw [Lib.extract_to_end, p2], p1⟩
def pnV (l : List UInt8) : DV × Int := if (parseN l).2 = 0 then (⟨1, canon (parseN l).1, []⟩, 0) else (DV.none, (parseN l).2)
def dparseV (l : List UInt8) : DV × Int := if Lib.hasPrefix l [34] = true then ptV l else if l = [110, 111, 110, 101] then (DV.none, 0) else pnV l
theorem parseNumber_any (s : ByteArray) (hs : s.size ≤ 2000) (w : World) :
    Calls Tryz.prog 63 #[.string s] w fun e w' => e = .returned (.tuple #[vagg (pnV s.data.toList).1, .int .i64 (pnV s.data.toList).2]) ∧ Below w.heap.size w w' := by
  have hst := run_stf
  have HP := fun w => Lib.hid (parse_any s (by omega) w)
  have H1 := Lib.hid (below1 w (vobj DV.none))
  have HT := Lib.hid (at_new w DV.none)
  unfold pnV
  generalize parseN s.data.toList = R at *
  obtain ⟨x, e⟩ := R
  simp only at HP ⊢
  have HN := fun w => Lib.hid (number_any x w)
  by_cases he : e = 0
  · subst he
    rw [if_pos rfl]
    go_enter Tryz.func63, Tryz.ntmps63
    go_wp2_with (first
      | (go_at_call 88; ((with_reducible refine (HP _).out.mono ?_); rintro e w1 ⟨rfl, hb⟩; have HZ0 := Lib.hid (HT.out.below hb HT.out.lt); have HB0 := Lib.hid (H1.out.trans (hb.mono H1.out.size)); clear hb))
      | (go_at_call 30; ((with_reducible refine (HN _).out.mono ?_); rintro e w2 ⟨rfl, hb⟩; have hz := HZ0.out.below hb HZ0.out.lt; have d3 := hz.c0; have d4 := hz.c1; have d5 := hz.c2; have g0 := hz.f0; have g1 := hz.f1; have g2 := hz.f2; have HZ := Lib.hid hz; have HB1 := Lib.hid (HB0.out.trans (hb.mono HB0.out.size)); clear hb hz)))
    exact bodyPost_ret (res_pair rfl _ rfl (HZ.out.setAll ⟨1, canon x, []⟩)) rfl ⟨rfl, below_set3 HB1.out (Nat.le_refl _) _ _ _⟩
  · rw [if_neg he]
    have he' : (e != 0) = true := by rw [bne_iff_ne]; exact he
    clear he
    go_enter Tryz.func63, Tryz.ntmps63
    go_wp2_with (first
      | (go_at_call 88; ((with_reducible refine (HP _).out.mono ?_); rintro e w1 ⟨rfl, hb⟩; have hz := HT.out.below hb HT.out.lt; have d3 := hz.c0; have d4 := hz.c1; have d5 := hz.c2; have g0 := hz.f0; have g1 := hz.f1; have g2 := hz.f2; have HZ := Lib.hid hz; have HB1 := Lib.hid (H1.out.trans (hb.mono H1.out.size)); clear hb hz)))
    exact bodyPost_ret (res_pair rfl _ rfl (HZ.out.setAll DV.none)) rfl ⟨rfl, below_set3 HB1.out (Nat.le_refl _) _ _ _⟩
theorem dparse_any (s : ByteArray) (hs : s.size ≤ 2000) (w : World) :
    Calls Tryz.prog 27 #[.string s] w fun e w' => e = .returned (.tuple #[vagg (dparseV s.data.toList).1, .int .i64 (dparseV s.data.toList).2]) ∧ Below w.heap.size w w' := by
  unfold dparseV
  cases hp : Lib.hasPrefix s.data.toList [34]
  case true =>
    rw [if_pos rfl]
    exact parse_quoted s (by omega) hp w
  rw [if_neg (by simp)]
  have hst := run_stf
  have HP := fun w => Lib.hid (Tryz.strings_HasPrefix s ⟨#[34]⟩ w)
  rw [show (⟨#[34]⟩ : ByteArray).data.toList = [34] from rfl, hp] at HP
  have HU := fun w => Lib.hid (parseNumber_any s hs w)
  have H1 := Lib.hid (below1 w (vobj DV.none))
  have HT := Lib.hid (at_new w DV.none)
  clear hp hs
  by_cases hn : s.data.toList = [110, 111, 110, 101]
  · obtain rfl := of_list hn
    rw [if_pos rfl]
    have hz := HT.out
    have d3 := hz.c0
    have d4 := hz.c1
    have d5 := hz.c2
    have g0 := hz.f0
    have g1 := hz.f1
    have g2 := hz.f2
    clear hz hn HU
    go_enter Tryz.func27, Tryz.ntmps27
    go_wp2_with (first
      | (go_at_call 61; refine (HP _).out.mono ?_; rintro e w1 ⟨rfl, hww⟩; obtain rfl := hww.symm))
    exact bodyPost_ret (res_pair rfl _ rfl HT.out) rfl ⟨rfl, H1.out⟩
  · rw [if_neg hn]
    have hne : (s.toList == [110, 111, 110, 101]) = false := by rw [Lib.toList_data, beq_eq_false_iff_ne]; exact hn
    clear hn
    generalize pnV s.data.toList = R at *
    obtain ⟨⟨k, x, l⟩, n⟩ := R
    go_enter Tryz.func27, Tryz.ntmps27
    go_wp2_with (first
      | (go_at_call 61; refine (HP _).out.mono ?_; rintro e w1 ⟨rfl, hww⟩; obtain rfl := hww.symm)
      | (go_at_call 63; ((with_reducible refine (HU _).out.mono ?_); rintro e w1 ⟨rfl, hb⟩; have hz := HT.out.below hb HT.out.lt; have d3 := hz.c0; have d4 := hz.c1; have d5 := hz.c2; have g0 := hz.f0; have g1 := hz.f1; have g2 := hz.f2; have HZ := Lib.hid hz; have HB1 := Lib.hid (H1.out.trans (hb.mono H1.out.size)); clear hb hz)))
    exact bodyPost_ret (res_pair rfl _ rfl (HZ.out.setAll ⟨k, x, l⟩)) rfl ⟨rfl, below_set3 HB1.out (Nat.le_refl _) _ _ _⟩
end Go.Proofs.YtjkfcmadoeifgaaGreatDoor
namespace Go.Proofs.YtjkfcmadoeifgaaGreatDoor
theorem drop_at (a b : List UInt8) : (a ++ b).drop a.length = b := List.drop_left
theorem look_vb {l a r : List UInt8} {u : Nat} (hu : u < 18446744073709551616) (h : l = a ++ (vb u ++ r)) : look ⟨l, a.length, 0, 0⟩ = ((unf u, (vb u).length), ⟨l, a.length, 0, 0⟩) := by
  have hd : l.drop a.length = vb u ++ r := by rw [h]; exact drop_at a _
  have hr : rowAt ⟨l, a.length, 0, 0⟩ = vb u := by
    unfold rowAt
    simp only [hd, grp_vb]
    exact List.take_left
  have hp := vb_pos u
  unfold look
  rw [if_neg (by simp)]
  simp only [hd, grp_vb]
  rw [if_neg (by omega), if_pos (by rw [hr]; exact ⟨by rw [val_vb], by rw [val_vb]; exact hu⟩), hr, val_vb]
theorem size_vb {l a r : List UInt8} {n : Nat} {most above : Int} (hn : (n : Int) ≤ most) (hn2 : n < 1000) (h : l = a ++ (vb (foldN (n : Int)) ++ r)) :
    rSz most above ⟨l, a.length, 0, 0⟩ = ((n : Int), ⟨l, a.length + (vb (foldN (n : Int))).length, 0, 0⟩) := by
  have hf : foldN (n : Int) < 18446744073709551616 := foldN_lt (by omega) (by omega)
  unfold rSz
  rw [look_vb hf h]
  simp only [unf_foldN]
  rw [if_neg (by simp), if_neg (by omega), if_neg (by omega)]
theorem text_vb {l a s : List UInt8} {most : Int} (hs : (s.length : Int) ≤ most) (hs2 : s.length < 1000) (h : l = a ++ (vb (foldN (s.length : Int)) ++ s)) :
    rText most ⟨l, a.length, 0, 0⟩ = (s, ⟨l, l.length, 0, 0⟩) := by
  have hf : foldN (s.length : Int) < 18446744073709551616 := foldN_lt (by omega) (by omega)
  have hl := congrArg List.length h
  rw [List.length_append, List.length_append] at hl
  have hd : l.drop (a.length + (vb (foldN (s.length : Int))).length) = s := by
    rw [h, ← List.append_assoc, ← List.length_append]; exact drop_at _ _
  unfold rText
  rw [look_vb hf h]
  simp only [unf_foldN, hd]
  rw [if_neg (by simp), if_neg (by omega), if_neg (by omega), if_neg (by omega)]
  simp only [Int.toNat_natCast, List.take_length, Prod.mk.injEq, true_and]
  rw [hl, Nat.add_assoc]
theorem le_w8 : ∀ (k u : Nat), u < 256 ^ k → le (w8 k u) = u
  | 0, u, h => by simp at h; subst h; rfl
  | k + 1, u, h => by
    have h2 : u / 256 < 256 ^ k := by rw [Nat.pow_succ] at h; omega
    have : (UInt8.ofNat (u % 256)).toNat = u % 256 := ofNat_toNat (by omega)
    show (UInt8.ofNat (u % 256)).toNat + 256 * le (w8 k (u / 256)) = u
    rw [this, le_w8 k _ h2]
    omega
theorem float_w8 {l a : List UInt8} {x : Nat} (hx : x < 18446744073709551616) (hc : canon x = x) (h : l = a ++ w8 8 x) : rFloat ⟨l, a.length, 0, 0⟩ = (x, ⟨l, l.length, 0, 0⟩) := by
  have hl := congrArg List.length h
  rw [List.length_append, w8_eight] at hl
  have hle : leAt ⟨l, a.length, 0, 0⟩ = x := by
    unfold leAt
    simp only
    rw [h, drop_at, List.take_of_length_le (by rw [w8_eight]; exact Nat.le_refl _)]
    exact le_w8 8 x (by simpa using hx)
  unfold rFloat
  rw [if_neg (by simp), hle]
  simp only
  rw [if_neg (by omega), if_neg (by rw [hc]; simp), hl]
/-- BYTES THERE AND BACK. -/
theorem get_put {v : DV} (hm : mayV v = true) (hx : v.x < 18446744073709551616) : getV ⟨putV v, 0, 0, 0⟩ = (v, ⟨putV v, (putV v).length, 0, 0⟩) := by
  obtain ⟨k, x, s⟩ := v
  have hp : putV ⟨k, x, s⟩ = if k = 1 then vb (foldN 1) ++ w8 8 (canon x) else if k = 2 then vb (foldN 2) ++ (vb (foldN (s.length : Int)) ++ s) else vb (foldN 0) := by
    unfold putV; rw [if_pos hm]
  unfold mayV at hm
  simp only at hm hx
  have raw : ∀ (n : Nat) (r : List UInt8), n ≤ 2 → rSz 2 4 ⟨vb (foldN (n : Int)) ++ r, 0, 0, 0⟩ = ((n : Int), ⟨vb (foldN (n : Int)) ++ r, (vb (foldN (n : Int))).length, 0, 0⟩) := by
    intro n r hn
    have := size_vb (l := vb (foldN (n : Int)) ++ r) (a := []) (r := r) (most := 2) (above := 4) (n := n) (by omega) (by omega) rfl
    simpa using this
  split at hm
  · rename_i h0
    subst h0
    simp at hm
    obtain ⟨rfl, rfl⟩ := hm
    rw [if_neg (by decide), if_neg (by decide)] at hp
    have h := raw 0 [] (by decide)
    rw [List.append_nil] at h
    unfold getV rawV
    rw [hp, show foldN 0 = foldN ((0 : Nat) : Int) from rfl, h]
    rfl
  split at hm
  · rename_i h1
    subst h1
    simp at hm
    obtain ⟨hc, rfl⟩ := hm
    rw [if_pos rfl, ← hc] at hp
    have h := raw 1 (w8 8 x) (by decide)
    have h2 := float_w8 (l := vb (foldN ((1 : Nat) : Int)) ++ w8 8 x) (a := vb (foldN ((1 : Nat) : Int))) hx hc.symm rfl
    unfold getV rawV
    rw [hp, show foldN 1 = foldN ((1 : Nat) : Int) from rfl, h]
    simp only [h2]
    simp
  split at hm
  · rename_i h2
    subst h2
    simp at hm
    obtain ⟨rfl, hs⟩ := hm
    rw [if_neg (by decide), if_pos rfl] at hp
    have h := raw 2 (vb (foldN (s.length : Int)) ++ s) (by decide)
    have h3 := text_vb (l := vb (foldN ((2 : Nat) : Int)) ++ (vb (foldN (s.length : Int)) ++ s)) (a := vb (foldN ((2 : Nat) : Int))) (s := s) (most := 64) (by omega) (by omega) rfl
    unfold getV rawV
    rw [hp, show foldN 2 = foldN ((2 : Nat) : Int) from rfl, h]
    simp only [h3]
    simp
  · cases hm
theorem end_put (l : List UInt8) : endR ⟨l, l.length, 0, 0⟩ = (0, 0) := by
  unfold endR
  simp
theorem pre_not {l : List UInt8} (h : l.headD 0 ≠ 34) : Lib.hasPrefix l [34] = false := by
  cases l with
  | nil => rfl
  | cons c t =>
    have h2 : ((34 : UInt8) == c) = false := beq_eq_false_iff_ne.2 fun e => h (by rw [← e]; rfl)
    show ((34 : UInt8) == c && List.isPrefixOf [] t) = false
    rw [h2]; rfl
/-- TEXTS THERE AND BACK. -/
theorem parse_print {v : DV} (hm : mayV v = true) (hx : v.x < 18446744073709551616) : dparseV (printV v) = (v, 0) := by
  have hp : printV v = (if v.k = 1 then textN v.x else if v.k = 2 then quoteV v.s else [110, 111, 110, 101]) := by unfold printV; rw [if_pos hm]
  obtain ⟨k, x, s⟩ := v
  unfold mayV at hm
  simp only at hm hx hp
  rw [hp]
  split at hm
  · rename_i h0
    subst h0
    simp at hm
    obtain ⟨rfl, rfl⟩ := hm
    rw [if_neg (by decide), if_neg (by decide)]
    rfl
  split at hm
  · rename_i h1
    subst h1
    simp at hm
    obtain ⟨hc, rfl⟩ := hm
    rw [if_pos rfl]
    unfold dparseV pnV
    rw [pre_not (textN_head hx), if_neg (by simp), if_neg (text_none hx), parse_text hx, if_pos rfl]
    simp only [canon_canon]
    rw [← hc]
  split at hm
  · rename_i h2
    subst h2
    simp at hm
    obtain ⟨rfl, hs⟩ := hm
    rw [if_neg (by decide), if_pos rfl]
    have hq : Lib.hasPrefix (quoteV s) [34] = true := (pre_34 _).1
    unfold dparseV ptV
    rw [if_pos hq, unq_quote]
    simp only
    rw [if_neg (by omega)]
  · cases hm
theorem canon_text {z : Nat} (hz : z < 18446744073709551616) (h : parseN (textN z) = (z, 0)) : canon z = z := by
  have := parse_text hz
  rw [h] at this
  exact (congrArg Prod.fst this).symm
theorem print_parse {l : List UInt8} (h : (dparseV l).2 = 0) : printV (dparseV l).1 = l ∧ (dparseV l).1.x < 18446744073709551616 := by
  unfold dparseV at h ⊢
  split at h
  · rename_i hq
    rw [if_pos hq]
    unfold ptV at h ⊢
    cases hu : unqV l with
    | none => rw [hu] at h; simp at h
    | some t =>
      rw [hu] at h
      simp only at h ⊢
      by_cases h64 : 64 < t.length
      · rw [if_pos h64] at h; simp at h
      · rw [if_neg h64]
        refine ⟨?_, by simp⟩
        unfold printV
        have hm : mayV ⟨2, 0, t⟩ = true := by unfold mayV; simp; omega
        rw [if_pos hm]
        simp only
        rw [if_neg (by decide), if_pos True.intro]
        exact unq_back hu
  · rename_i hq
    rw [if_neg hq]
    split at h
    · rename_i hn
      rw [if_pos hn]
      exact ⟨by rw [hn]; rfl, by decide⟩
    · rename_i hn
      rw [if_neg hn]
      unfold pnV at h ⊢
      by_cases hz : (parseN l).2 = 0
      · rw [if_pos hz]
        rcases text_parse l with ⟨_, h2, h3⟩ | ⟨h2, _⟩ | ⟨h2, _⟩
        · have hc : canon (parseN l).1 = (parseN l).1 := canon_text h3 (by rw [h2]; exact Prod.ext rfl hz)
          simp only [hc]
          refine ⟨?_, h3⟩
          unfold printV
          have hm : mayV ⟨1, (parseN l).1, []⟩ = true := by unfold mayV; simp [hc]
          rw [if_pos hm]
          exact h2
        · omega
        · omega
      · rw [if_neg hz] at h
        simp only at h
        omega
end Go.Proofs.YtjkfcmadoeifgaaGreatDoor
