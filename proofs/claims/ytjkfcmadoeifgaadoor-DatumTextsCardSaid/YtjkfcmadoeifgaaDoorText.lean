/- There and back between floats and their texts. Conditions: bits below 2^64. -/
import Derived.Test.YtjkfcmadoeifgaaDoorHalf
namespace Go.Proofs.YtjkfcmadoeifgaaDoor
open Go.Lib

theorem valN_snoc (l : List UInt8) (c : UInt8) : valN (l ++ [c]) = 10 * valN l + (c.toNat - 48) := by
  unfold valN; rw [List.foldl_append]; rfl
theorem dig_byte {d : Nat} (h : d < 10) : (UInt8.ofNat (48 + d)).toNat = 48 + d := by
  rw [UInt8.toNat_ofNat']; omega
theorem digB_byte {d : Nat} (h : d < 10) : digB (UInt8.ofNat (48 + d)) = true := by
  unfold digB; rw [dig_byte h]; simp; omega
theorem dec_all (n : Nat) : (decDigits n).all digB = true := by
  induction n using Nat.strongRecOn with
  | _ n ih =>
    rw [decDigits]
    split
    · rename_i h; rw [List.all_cons, List.all_nil, digB_byte h]; rfl
    · rename_i h; rw [List.all_append, ih _ (by omega), List.all_cons, List.all_nil, digB_byte (Nat.mod_lt n (by decide))]; rfl
theorem dec_ne (n : Nat) : decDigits n ≠ [] := by
  rw [decDigits]; split <;> simp
theorem dec_val (n : Nat) : valN (decDigits n) = n := by
  induction n using Nat.strongRecOn with
  | _ n ih =>
    rw [decDigits]
    split
    · rename_i h
      show 10 * 0 + ((UInt8.ofNat (48 + n)).toNat - 48) = n
      rw [dig_byte h]; omega
    · rename_i h
      rw [valN_snoc, ih _ (by omega), dig_byte (Nat.mod_lt n (by decide))]; omega
theorem dec_head (n : Nat) (h0 : n ≠ 0) : ∃ c t, decDigits n = c :: t ∧ c ≠ 48 := by
  induction n using Nat.strongRecOn with
  | _ n ih =>
    rw [decDigits]
    split
    · rename_i h
      refine ⟨_, [], rfl, fun e => ?_⟩
      have := congrArg UInt8.toNat e
      rw [dig_byte h] at this
      have e48 : (48 : UInt8).toNat = 48 := rfl
      omega
    · rename_i h
      obtain ⟨c, t, e, hc⟩ := ih (n / 10) (by omega) (by omega)
      exact ⟨c, t ++ [UInt8.ofNat (48 + n % 10)], by rw [e]; rfl, hc⟩
theorem dec_cnt (n : Nat) (h0 : n ≠ 0) : cntB (decDigits n) = true := by
  obtain ⟨c, t, e, hc⟩ := dec_head n h0
  have ha := dec_all n
  rw [e] at ha ⊢
  show (c != 48 && (c :: t).all digB) = true
  rw [ha]; simp [hc]
/-- A number as it is written is the numeral of its value. -/
theorem val_dec_aux : ∀ (k : Nat) (l : List UInt8), l.length = k → l ≠ [] → l.all digB = true → (∀ c t, l = c :: t → c ≠ 48) → decDigits (valN l) = l ∧ valN l ≠ 0 := by
  intro k
  induction k with
  | zero => intro l hl hne; exact absurd (List.length_eq_zero_iff.1 hl) hne
  | succ k ih =>
    intro l hl hne ha hh
    rcases List.eq_nil_or_concat l with h | ⟨m, c, h⟩
    · exact absurd h hne
    · rw [List.concat_eq_append] at h
      subst h
      rw [List.all_append, Bool.and_eq_true] at ha
      have hc : 48 ≤ c.toNat ∧ c.toNat ≤ 57 := by have := ha.2; simpa [digB] using this
      rw [valN_snoc]
      cases m with
      | nil =>
        have h48 : c ≠ 48 := hh c [] rfl
        have hne48 : c.toNat ≠ 48 := fun e => h48 (UInt8.toNat_inj.1 e)
        have e0 : 10 * valN [] + (c.toNat - 48) = c.toNat - 48 := by rw [valN_nil]; omega
        rw [e0]
        refine ⟨?_, by omega⟩
        rw [decDigits_one (by omega)]
        have : UInt8.ofNat (48 + (c.toNat - 48)) = c := by
          rw [show 48 + (c.toNat - 48) = c.toNat by omega]; exact UInt8.ofNat_toNat
        rw [this]; rfl
      | cons d m =>
        obtain ⟨i1, i2⟩ := ih (d :: m) (by simpa using hl) (by simp) ha.1 (fun c' t' e' => by
          cases e'; exact hh d (m ++ [c]) rfl)
        generalize hv : valN (d :: m) = v at *
        refine ⟨?_, by omega⟩
        rw [decDigits, dif_neg (by omega)]
        have e1 : (10 * v + (c.toNat - 48)) / 10 = v := by omega
        have e2 : (10 * v + (c.toNat - 48)) % 10 = c.toNat - 48 := by omega
        rw [e1, e2, i1]
        have : UInt8.ofNat (48 + (c.toNat - 48)) = c := by
          rw [show 48 + (c.toNat - 48) = c.toNat by omega]; exact UInt8.ofNat_toNat
        rw [this]
theorem val_dec {l : List UInt8} (h : cntB l = true) : decDigits (valN l) = l ∧ valN l ≠ 0 := by
  cases l with
  | nil => cases h
  | cons c t =>
    refine val_dec_aux _ (c :: t) rfl (by simp) (cntB_digits h) (fun c' t' e => ?_)
    cases e
    simp only [cntB, Bool.and_eq_true] at h
    simpa using h.1

theorem not_mem_p {l : List UInt8} (h : l.all digB = true) : (112 : UInt8) ∉ l := by
  intro hm
  have := List.all_eq_true.1 h _ hm
  cases this
theorem index_p (a b : List UInt8) (h : (112 : UInt8) ∉ a) : Lib.index (a ++ 112 :: b) [112] = a.length := by
  rw [Lib.index_one]
  induction a with
  | nil => simp [Lib.indexByte]
  | cons c t ih =>
    rw [List.mem_cons, not_or] at h
    have hc : (c == 112) = false := by simpa using fun e => h.1 e.symm
    have := ih h.2
    simp only [List.cons_append, Lib.indexByte, hc, this]
    have hn : ((t.length : Int) == -1) = false := by simp
    simp [hn]
theorem cut_found (a b : List UInt8) (h : (112 : UInt8) ∉ a) : Lib.cut (a ++ 112 :: b) [112] = (a, b, true) := by
  unfold Lib.cut
  rw [index_p a b h, if_pos (by omega)]
  have e : ((a.length : Nat) : Int).toNat = a.length := by omega
  rw [e]
  have e2 : (a ++ 112 :: b).drop (a.length + [112].length) = b := by
    rw [List.drop_append]; simp
  exact Prod.ext (List.take_left' rfl) (Prod.ext e2 rfl)
theorem index_none (l : List UInt8) (h : (112 : UInt8) ∉ l) : Lib.index l [112] = -1 := by
  rw [Lib.index_one]
  induction l with
  | nil => rfl
  | cons c t ih =>
    rw [List.mem_cons, not_or] at h
    have hc : (c == 112) = false := by simpa using fun e => h.1 e.symm
    simp [Lib.indexByte, hc, ih h.2]
theorem cut_none (l : List UInt8) (h : (112 : UInt8) ∉ l) : Lib.cut l [112] = (l, [], false) := by
  unfold Lib.cut
  rw [index_none l h]; rfl
/-- Any list is cut at its first 'p', or has none. -/
theorem cut_split (l : List UInt8) : (Lib.cut l [112] = (l, [], false) ∧ (112 : UInt8) ∉ l) ∨ ∃ a b, l = a ++ 112 :: b ∧ (112 : UInt8) ∉ a ∧ Lib.cut l [112] = (a, b, true) := by
  by_cases h : (112 : UInt8) ∈ l
  · right
    obtain ⟨a, b, e, hn⟩ := List.eq_append_cons_of_mem h
    exact ⟨a, b, e, hn, by rw [e]; exact cut_found a b hn⟩
  · exact .inl ⟨cut_none l h, h⟩
theorem pre_true (t : List UInt8) : Lib.hasPrefix (45 :: t) [45] = true ∧ Lib.trimPrefix (45 :: t) [45] = t := by
  refine ⟨by simp [Lib.hasPrefix], ?_⟩
  unfold Lib.trimPrefix
  rw [show Lib.hasPrefix (45 :: t) [45] = true by simp [Lib.hasPrefix]]
  rfl
theorem pre_false {l : List UInt8} (h : ∀ t, l ≠ 45 :: t) : Lib.hasPrefix l [45] = false ∧ Lib.trimPrefix l [45] = l := by
  have : Lib.hasPrefix l [45] = false := by
    cases l with
    | nil => rfl
    | cons c t =>
      have hc : c ≠ 45 := fun e => h t (by rw [e])
      simp [Lib.hasPrefix, List.isPrefixOf]
      intro e; exact hc e.symm
  refine ⟨this, ?_⟩
  unfold Lib.trimPrefix
  rw [this]; rfl
theorem pre_digits {l : List UInt8} (h : l.all digB = true) : Lib.hasPrefix l [45] = false ∧ Lib.trimPrefix l [45] = l := by
  refine pre_false (fun t e => ?_)
  subst e
  simp [digB] at h
theorem int_itoa (p : Int) : intB (itoa p) = true := by
  unfold intB itoa
  by_cases h : p < 0
  · rw [if_pos h, (pre_true _).2, dec_cnt _ (by omega)]; simp
  · rw [if_neg h]
    by_cases h0 : p = 0
    · subst h0; rw [show (0 : Int).toNat = 0 from rfl, decDigits_one (by decide)]; rfl
    · rw [(pre_digits (dec_all _)).2, dec_cnt _ (by omega)]; simp
theorem intN_itoa (p : Int) (h1 : -9007199254740992 ≤ p) (h2 : p ≤ 9007199254740992) : intN (itoa p) = p := by
  unfold intN itoa
  by_cases h : p < 0
  · rw [if_pos h, (pre_true _).1, (pre_true _).2, cond_true]
    unfold satN; rw [dec_val]; omega
  · rw [if_neg h, (pre_digits (dec_all _)).1, (pre_digits (dec_all _)).2, cond_false]
    unfold satN; rw [dec_val]; omega
theorem itoa_intN {k : List UInt8} (h : intB k = true) (h1 : -9007199254740992 < intN k) (h2 : intN k < 9007199254740992) : itoa (intN k) = k := by
  unfold intB at h
  rw [Bool.or_eq_true] at h
  rcases h with h | h
  · have e : k = [48] := by simpa using h
    subst e
    have : intN [48] = 0 := by decide
    rw [this]; unfold itoa
    rw [if_neg (by decide), show (0 : Int).toNat = 0 from rfl, decDigits_one (by decide)]; rfl
  · by_cases hm : ∃ t, k = 45 :: t
    · obtain ⟨t, rfl⟩ := hm
      rw [(pre_true t).2] at h
      obtain ⟨d1, d2⟩ := val_dec h
      have hi : intN (45 :: t) = -(satN t : Int) := by unfold intN; rw [(pre_true t).1, (pre_true t).2, cond_true]
      rw [hi] at h1 h2 ⊢
      have e : satN t = valN t := by unfold satN at h1 ⊢; omega
      rw [e]
      unfold itoa
      rw [if_pos (by omega), show (-(valN t : Int)).natAbs = valN t by omega, d1]
    · obtain ⟨p1, p2⟩ := pre_false (l := k) (fun t e => hm ⟨t, e⟩)
      rw [p2] at h
      obtain ⟨d1, d2⟩ := val_dec h
      have hi : intN k = (satN k : Int) := by unfold intN; rw [p1, p2, cond_false]
      rw [hi] at h1 h2 ⊢
      have e : satN k = valN k := by unfold satN at h2 ⊢; omega
      rw [e]
      unfold itoa
      rw [if_neg (by omega), show ((valN k : Nat) : Int).toNat = valN k by omega, d1]

/-- An odd part and a power tell the float. -/
theorem odd_pow_val {r : Nat} (h : 0 < r) (h2 : r < infR) : fullN r * 2 ^ expN r = oddN r * 2 ^ (powN r + 1075).toNat := by
  obtain ⟨e1, e2⟩ := full_odd h
  have b := expN_bd h2
  have e3 : (powN r + 1075).toNat = evenN r + expN r := by unfold powN; omega
  rw [e3, e1, Nat.pow_add, Nat.mul_comm (2 ^ evenN r), Nat.mul_assoc]
theorem odd_pow_inj {r q : Nat} (hr0 : 0 < r) (hr : r < infR) (hq0 : 0 < q) (hq : q < infR) (h1 : oddN r = oddN q) (h2 : powN r = powN q) : r = q := by
  have e : fullN r * 2 ^ expN r = fullN q * 2 ^ expN q := by rw [odd_pow_val hr0 hr, odd_pow_val hq0 hq, h1, h2]
  rcases Nat.lt_trichotomy r q with h | h | h
  · have := val_lt (i := expN r) (j := expN q) h hq (by omega); omega
  · exact h
  · have := val_lt (i := expN q) (j := expN r) h hr (by omega); omega
theorem fits_of {r : Nat} (h : 0 < r) (h2 : r < infR) : Fits (oddN r) (powN r) := by
  obtain ⟨e1, e2⟩ := full_odd h
  have b := expN_bd h2
  have hp := powN_bd h h2
  have ho : oddN r ≠ 0 := by omega
  refine ⟨e2, oddN_lt h, hp.1, ?_⟩
  have hl : (oddN r * 2 ^ evenN r).log2 = (oddN r).log2 + evenN r := log2_mul_pow ho _
  rw [Nat.mul_comm, ← e1] at hl
  have : (fullN r).log2 < 53 := (Nat.log2_lt (fullN_bd h).1).2 (fullN_bd h).2
  unfold powN
  omega
theorem ofOdd_self {r : Nat} (h : 0 < r) (h2 : r < infR) : ofOdd (oddN r) (powN r) = r := by
  obtain ⟨s1, s2, s3, s4⟩ := ofOdd_spec (fits_of h h2)
  exact odd_pow_inj s1 s2 h h2 s3 s4
end Go.Proofs.YtjkfcmadoeifgaaDoor
