/- A text between quotes by the document and by the code's way: the same; raceref3's digits and Quote. Conditions: no more than 2^40 bytes. -/
import Derived.Test.YtjkfcmadoeifgaaDoorSm
import Derived.Test.YtjkfcmadoeifgaaDoorQu
import Derived.Test.YtjkfcmadoeifgaaDoorUq
namespace Go.Proofs.YtjkfcmadoeifgaaDoor
theorem hexD_I (c : UInt8) (n : Nat) (hn : n < 16) (h : hexI c = (n : Int)) : c = hexD n := by
  have : ∀ c : Fin 256, ∀ n : Fin 16, hexI (UInt8.ofNat c.val) = ((n.val : Nat) : Int) → UInt8.ofNat c.val = hexD n.val := by decide +kernel
  have h2 := this ⟨c.toNat, c.toNat_lt⟩ ⟨n, hn⟩
  simp only [UInt8.ofNat_toNat] at h2
  exact h2 h
theorem three_list {l : List UInt8} (h : 3 ≤ l.length) : l = l.getD 0 0 :: l.getD 1 0 :: l.getD 2 0 :: l.drop 3 := by
  match l, h with
  | a :: b :: c :: r, _ => rfl
/-- What stands at the beginning is the byte, written by Quote. -/
theorem first_take {l : List UInt8} (hl : l ≠ []) (h : (firstV l).2 ≠ 0) : l = q1 (firstV l).1 ++ l.drop (firstV l).2 := by
  unfold firstV at h ⊢
  by_cases hp : plainB (l.getD 0 0) = true
  · rw [if_pos hp]
    simp only
    unfold q1
    rw [if_pos hp]
    match l, hl with
    | a :: r, _ => rfl
  rw [if_neg hp] at h ⊢
  by_cases h2 : l.getD 0 0 ≠ 92 ∨ l.length < 3
  · rw [if_pos h2] at h
    exact absurd rfl h
  rw [if_neg h2] at h ⊢
  by_cases h3 : hexI (l.getD 1 0) < 0 ∨ hexI (l.getD 2 0) < 0
  · rw [if_pos h3] at h
    exact absurd rfl h
  rw [if_neg h3] at h ⊢
  by_cases h4 : plainB (UInt8.ofNat (16 * (hexI (l.getD 1 0)).toNat + (hexI (l.getD 2 0)).toNat)) = true
  · rw [if_pos h4] at h
    exact absurd rfl h
  rw [if_neg h4]
  simp only
  have hc : ∃ a : Nat, a < 16 ∧ hexI (l.getD 1 0) = (a : Int) := by
    rcases hexI_cases (l.getD 1 0) with e | e
    · omega
    · exact e
  have hd : ∃ b : Nat, b < 16 ∧ hexI (l.getD 2 0) = (b : Int) := by
    rcases hexI_cases (l.getD 2 0) with e | e
    · omega
    · exact e
  obtain ⟨a, ha, ea⟩ := hc
  obtain ⟨b, hb, eb⟩ := hd
  rw [ea, eb] at h4 ⊢
  simp only [Int.toNat_natCast] at h4 ⊢
  have hn : (UInt8.ofNat (16 * a + b)).toNat = 16 * a + b := by
    rw [UInt8.toNat_ofNat']
    omega
  unfold q1
  rw [if_neg h4, hn, show (16 * a + b) / 16 = a by omega, show (16 * a + b) % 16 = b by omega, ← hexD_I _ a ha ea, ← hexD_I _ b hb eb]
  have h92 : l.getD 0 0 = 92 := by
    by_cases e : l.getD 0 0 = 92
    · exact e
    · exact absurd (.inl e) h2
  rw [← h92]
  exact three_list (by omega)
theorem unqL_back : ∀ (n : Nat) (l t : List UInt8), unqL n l = some t → t.flatMap q1 = l := by
  intro n
  induction n with
  | zero =>
    intro l t h
    unfold unqL at h
    split at h
    · rename_i e; rw [e]; rw [← Option.some.inj h]; rfl
    · cases h
  | succ n ih =>
    intro l t h
    by_cases hl : l = []
    · subst hl; rw [unqL_nil] at h; rw [← Option.some.inj h]; rfl
    · unfold unqL at h
      rw [if_neg hl] at h
      by_cases hk : (firstV l).2 = 0
      · rw [if_pos hk] at h; cases h
      · rw [if_neg hk] at h
        cases hu : unqL n (l.drop (firstV l).2) with
        | none => rw [hu] at h; cases h
        | some u =>
          rw [hu] at h
          have e : t = (firstV l).1 :: u := (Option.some.inj h).symm
          rw [e, List.flatMap_cons, ih _ _ hu]
          exact (first_take hl hk).symm
theorem pre_34 (l : List UInt8) : Lib.hasPrefix (34 :: l) [34] = true ∧ Lib.trimPrefix (34 :: l) [34] = l := by
  have h : Lib.hasPrefix (34 :: l) [34] = true := by simp [Lib.hasPrefix]
  exact ⟨h, by unfold Lib.trimPrefix; rw [if_pos h]; rfl⟩
theorem suf_34 (l : List UInt8) : Lib.hasSuffix (l ++ [34]) [34] = true ∧ Lib.trimSuffix (l ++ [34]) [34] = l := by
  have h : Lib.hasSuffix (l ++ [34]) [34] = true := by
    unfold Lib.hasSuffix
    rw [List.isSuffixOf_iff_suffix]
    exact List.suffix_append _ _
  refine ⟨h, ?_⟩
  unfold Lib.trimSuffix
  rw [if_pos h]
  simp
theorem unq_quote (t : List UInt8) : unqV (quoteV t) = some t := by
  have h1 := pre_34 (t.flatMap q1 ++ [34])
  have h2 := suf_34 (t.flatMap q1)
  unfold unqV closedV bodyV quoteV
  rw [h1.1, h1.2, h2.1, h2.2]
  exact unq_q1s t _ (Nat.le_refl _)
theorem quoted_of {l : List UInt8} (h : (Lib.hasPrefix l [34] && closedV l) = true) : l = 34 :: (bodyV l ++ [34]) := by
  obtain ⟨h1, h2⟩ := Bool.and_eq_true_iff.1 h
  unfold closedV at h2
  unfold bodyV
  have hp : [34] <+: l := by unfold Lib.hasPrefix at h1; exact List.isPrefixOf_iff_prefix.1 h1
  obtain ⟨r, rfl⟩ := hp
  change (Lib.hasSuffix (Lib.trimPrefix (34 :: r) [34]) [34]) = true at h2
  change 34 :: r = 34 :: (Lib.trimSuffix (Lib.trimPrefix (34 :: r) [34]) [34] ++ [34])
  rw [(pre_34 r).2] at h2 ⊢
  have hs : [34] <:+ r := by unfold Lib.hasSuffix at h2; exact List.isSuffixOf_iff_suffix.1 h2
  obtain ⟨b, rfl⟩ := hs
  rw [(suf_34 b).2]
theorem unq_back {l t : List UInt8} (h : unqV l = some t) : quoteV t = l := by
  unfold unqV at h
  split at h
  · rename_i hc
    have e := unqL_back _ _ _ h
    unfold quoteV
    rw [e]
    exact (quoted_of hc).symm
  · cases h
/-- The middle of a text by the document: a byte, or an escape and two digits. -/
def midL : Nat → List UInt8 → Option (List UInt8)
  | 0, l => if l = [] then some [] else none
  | n + 1, l =>
    if l = [] then some []
    else if l.getD 0 0 ≠ 92 then (midL n (l.drop 1)).map (l.getD 0 0 :: ·)
    else if l.length < 3 ∨ hexI (l.getD 1 0) < 0 ∨ hexI (l.getD 2 0) < 0 then none
    else (midL n (l.drop 3)).map (UInt8.ofNat (16 * (hexI (l.getD 1 0)).toNat + (hexI (l.getD 2 0)).toNat) :: ·)
theorem midL_nil (n : Nat) : midL n [] = some [] := by cases n <;> simp [midL]
theorem midL_plain {n : Nat} {l : List UInt8} (hl : l ≠ []) (h : l.getD 0 0 ≠ 92) : midL (n + 1) l = (midL n (l.drop 1)).map (l.getD 0 0 :: ·) := by
  rw [midL, if_neg hl, if_pos h]
theorem midL_none {n : Nat} {l : List UInt8} (hl : l ≠ []) (h : l.getD 0 0 = 92) (h2 : l.length < 3 ∨ hexI (l.getD 1 0) < 0 ∨ hexI (l.getD 2 0) < 0) : midL n l = none := by
  cases n with
  | zero => simp [midL, hl]
  | succ n => rw [midL, if_neg hl, if_neg (fun e => e h), if_pos h2]
theorem midL_esc {n : Nat} {l : List UInt8} (hl : l ≠ []) (h : l.getD 0 0 = 92) (h2 : ¬ (l.length < 3 ∨ hexI (l.getD 1 0) < 0 ∨ hexI (l.getD 2 0) < 0)) :
    midL (n + 1) l = (midL n (l.drop 3)).map (UInt8.ofNat (16 * (hexI (l.getD 1 0)).toNat + (hexI (l.getD 2 0)).toNat) :: ·) := by
  rw [midL, if_neg hl, if_neg (fun e => e h), if_neg h2]
theorem midL_fuel : ∀ (n : Nat) (l : List UInt8), l.length ≤ n → ∀ m, l.length ≤ m → midL n l = midL m l := by
  intro n
  induction n with
  | zero =>
    intro l h m _
    obtain rfl : l = [] := List.eq_nil_of_length_eq_zero (by omega)
    rw [midL_nil, midL_nil]
  | succ n ih =>
    intro l h m hm
    by_cases hl : l = []
    · subst hl; rw [midL_nil, midL_nil]
    · have hpos : 0 < l.length := List.length_pos_iff.2 hl
      cases m with
      | zero => omega
      | succ m =>
        by_cases h92 : l.getD 0 0 = 92
        · by_cases h2 : l.length < 3 ∨ hexI (l.getD 1 0) < 0 ∨ hexI (l.getD 2 0) < 0
          · rw [midL_none hl h92 h2, midL_none hl h92 h2]
          · rw [midL_esc hl h92 h2, midL_esc hl h92 h2, ih (l.drop 3) (by rw [List.length_drop]; omega) m (by rw [List.length_drop]; omega)]
        · rw [midL_plain hl h92, midL_plain hl h92, ih (l.drop 1) (by rw [List.length_drop]; omega) m (by rw [List.length_drop]; omega)]
theorem midL_more {l : List UInt8} (hl : l ≠ []) (h : l.getD 0 0 ≠ 92) : midL l.length l = (midL (l.drop 1).length (l.drop 1)).map (l.getD 0 0 :: ·) := by
  have hpos : 0 < l.length := List.length_pos_iff.2 hl
  obtain ⟨n, hn⟩ : ∃ n, l.length = n + 1 := ⟨l.length - 1, by omega⟩
  rw [hn, midL_plain hl h, midL_fuel n (l.drop 1) (by rw [List.length_drop]; omega) (l.drop 1).length (Nat.le_refl _)]
theorem midL_more3 {l : List UInt8} (hl : l ≠ []) (h : l.getD 0 0 = 92) (h2 : ¬ (l.length < 3 ∨ hexI (l.getD 1 0) < 0 ∨ hexI (l.getD 2 0) < 0)) :
    midL l.length l = (midL (l.drop 3).length (l.drop 3)).map (UInt8.ofNat (16 * (hexI (l.getD 1 0)).toNat + (hexI (l.getD 2 0)).toNat) :: ·) := by
  have hpos : 0 < l.length := List.length_pos_iff.2 hl
  obtain ⟨n, hn⟩ : ∃ n, l.length = n + 1 := ⟨l.length - 1, by omega⟩
  rw [hn, midL_esc hl h h2, midL_fuel n (l.drop 3) (by rw [List.length_drop]; omega) (l.drop 3).length (Nat.le_refl _)]
theorem mid_q1 (c : UInt8) (r : List UInt8) (n : Nat) : midL (n + 1) (q1 c ++ r) = (midL n r).map (c :: ·) := by
  cases hp : plainB c
  · have hq : q1 c = [92, hexD (c.toNat / 16), hexD (c.toNat % 16)] := by unfold q1; rw [hp]; rfl
    have hx : ∀ n : Fin 256, hexI (hexD (n.val / 16)) = ((n.val / 16 : Nat) : Int) ∧ hexI (hexD (n.val % 16)) = ((n.val % 16 : Nat) : Int) := by decide +kernel
    obtain ⟨h1, h2⟩ := hx ⟨c.toNat, c.toNat_lt⟩
    simp only at h1 h2
    have e : UInt8.ofNat (16 * (c.toNat / 16) + c.toNat % 16) = c := by
      rw [show 16 * (c.toNat / 16) + c.toNat % 16 = c.toNat by omega]
      simp
    rw [hq]
    rw [midL_esc (by simp) (by rfl) (by
      simp only [List.cons_append, List.nil_append, List.getD_cons_zero, List.getD_cons_succ, List.length_cons]
      rw [h1, h2]; omega)]
    simp only [List.cons_append, List.nil_append, List.getD_cons_zero, List.getD_cons_succ, List.drop_succ_cons, List.drop_zero]
    rw [h1, h2]
    simp only [Int.toNat_natCast]
    rw [e]
  · have hq : q1 c = [c] := by unfold q1; rw [hp]; rfl
    have hc : c ≠ 92 := by intro e; rw [e] at hp; revert hp; decide
    rw [hq, midL_plain (by simp) (by simpa using hc)]
    rfl
theorem mid_q1s : ∀ (l : List UInt8) (n : Nat), (l.flatMap q1).length ≤ n → midL n (l.flatMap q1) = some l := by
  intro l
  induction l with
  | nil => intro n _; simp [midL_nil]
  | cons c r ih =>
    intro n hn
    rw [List.flatMap_cons] at hn ⊢
    have h1 : 1 ≤ (q1 c).length := by unfold q1; split <;> simp
    cases n with
    | zero => rw [List.length_append] at hn; omega
    | succ n =>
      rw [mid_q1 c _ n, ih n (by rw [List.length_append] at hn; omega)]
      rfl
/-- What lies between the first byte and the last one. -/
def midV (s : List UInt8) : List UInt8 := (s.drop 1).take (s.length - 2)
def runqV (s : List UInt8) : Option (List UInt8) := match midL (midV s).length (midV s) with | none => none | some t => if quoteV t = s then some t else none
theorem mid_quote (t : List UInt8) : midV (quoteV t) = t.flatMap q1 := by
  unfold midV quoteV
  simp
theorem runq_eq (s : List UInt8) : runqV s = unqV s := by
  cases hu : unqV s with
  | some t =>
    have e := unq_back hu
    unfold runqV
    rw [← e, mid_quote, mid_q1s t _ (Nat.le_refl _)]
    simp
  | none =>
    unfold runqV
    cases hm : midL (midV s).length (midV s) with
    | none => rfl
    | some t =>
      simp only
      rw [if_neg]
      intro e
      rw [← e, unq_quote] at hu
      cases hu
open Go.RowKit
theorem hexD_lo {n : Nat} (h : n < 10) : (hexD n).toNat = 48 + n := by
  unfold hexD; rw [if_pos h, UInt8.toNat_ofNat']; omega
theorem hexD_up {n : Nat} (h : ¬ n < 10) (h2 : n < 16) : (hexD n).toNat = 87 + n := by
  unfold hexD; rw [if_neg h, UInt8.toNat_ofNat']; omega
theorem rdigit_any (n : Nat) (hn : n < 16) (w : World) : Calls Tryd.prog 44 #[.int .u8 (n : Int)] w fun e w' => e = .returned (.int .u8 ((hexD n).toNat : Int)) ∧ w = w' := by
  by_cases h : n < 10
  · have HX := Lib.hid (hexD_lo h)
    have hi : (n : Int) < 10 := by omega
    have h0 : (0 : Int) ≤ (n : Int) := by omega
    go_enter Tryd.func44, Tryd.ntmps44
    go_wp2
    go_ret
    rw [HX.out]
    exact ⟨congrArg (fun x => Ending.returned (.int .u8 x)) (by omega), rfl⟩
  · have HX := Lib.hid (hexD_up h hn)
    have hi : ¬ (n : Int) < 10 := by omega
    have h0 : (n : Int) < 16 := by omega
    go_enter Tryd.func44, Tryd.ntmps44
    go_wp2
    go_ret
    rw [HX.out]
    exact ⟨congrArg (fun x => Ending.returned (.int .u8 x)) (by omega), rfl⟩
/-- The value of a digit; 16: it is none. -/
def hexU (c : UInt8) : Nat := if hexI c < 0 then 16 else (hexI c).toNat
theorem hexU_cases (c : UInt8) : (48 ≤ c.toNat ∧ c.toNat ≤ 57 ∧ hexU c = c.toNat - 48) ∨ (97 ≤ c.toNat ∧ c.toNat ≤ 102 ∧ hexU c = c.toNat - 87) ∨ (¬ (48 ≤ c.toNat ∧ c.toNat ≤ 57) ∧ ¬ (97 ≤ c.toNat ∧ c.toNat ≤ 102) ∧ hexU c = 16) := by
  unfold hexU hexI hexOf
  by_cases h1 : 48 ≤ c.toNat ∧ c.toNat ≤ 57
  · rw [if_pos h1]
    exact .inl ⟨h1.1, h1.2, by simp only; rw [if_neg (by omega)]; omega⟩
  · rw [if_neg h1]
    by_cases h2 : 97 ≤ c.toNat ∧ c.toNat ≤ 102
    · rw [if_pos h2]
      exact .inr (.inl ⟨h2.1, h2.2, by simp only; rw [if_neg (by omega)]; omega⟩)
    · rw [if_neg h2]
      exact .inr (.inr ⟨h1, h2, rfl⟩)
theorem rvalue_any (c : UInt8) (w : World) : Calls Tryd.prog 38 #[.int .u8 (c.toNat : Int)] w fun e w' => e = .returned (.int .u8 (hexU c : Int)) ∧ w = w' := by
  have hc := c.toNat_lt
  rcases hexU_cases c with ⟨h1, h2, h3⟩ | ⟨h1, h2, h3⟩ | ⟨h1, h2, h3⟩
  · rw [h3]
    clear h3
    generalize c.toNat = n at *
    have i1 : (48 : Int) ≤ (n : Int) := by omega
    have i2 : (n : Int) ≤ 57 := by omega
    go_enter Tryd.func38, Tryd.ntmps38
    go_wp2
    go_ret
    exact ⟨congrArg (fun x => Ending.returned (.int .u8 x)) (by omega), rfl⟩
  · rw [h3]
    clear h3
    generalize c.toNat = n at *
    have i0 : ¬ (n : Int) ≤ 57 := by omega
    have i1 : (97 : Int) ≤ (n : Int) := by omega
    have i2 : (n : Int) ≤ 102 := by omega
    have i3 : (48 : Int) ≤ (n : Int) := by omega
    go_enter Tryd.func38, Tryd.ntmps38
    go_wp2
    go_ret
    exact ⟨congrArg (fun x => Ending.returned (.int .u8 x)) (by omega), rfl⟩
  · rw [h3]
    clear h3
    generalize c.toNat = n at *
    go_enter Tryd.func38, Tryd.ntmps38
    go_wp2
    all_goals first | (exfalso; omega) | (go_ret; exact ⟨rfl, rfl⟩)
theorem plain_ways {c : UInt8} (h : plainB c = false) : c.toNat < 32 ∨ 126 < c.toNat ∨ c.toNat = 34 ∨ c.toNat = 92 := by
  unfold plainB at h
  simp at h
  omega
theorem plain_yes {c : UInt8} (h : plainB c = true) : 32 ≤ c.toNat ∧ c.toNat ≤ 126 ∧ c.toNat ≠ 34 ∧ c.toNat ≠ 92 := by
  unfold plainB at h
  simp at h
  omega
theorem at_nat (s : ByteArray) (k : Nat) (h : k < s.size) : s.data.toList.getD k 0 = s[k] := (at_i s k h).symm
set_option maxRecDepth 100000 in
set_option maxHeartbeats 2000000 in
theorem rquote_any (s : ByteArray) (hs : s.size ≤ 1099511627776) (w : World) :
    Calls Tryd.prog 24 #[.string s] w fun e w' => e = .returned (.string ⟨(quoteV s.data.toList).toArray⟩) ∧ Below w.heap.size w w' := by
  have HROW := Lib.hid (row_lit w (0, 0))
  have H1 := Lib.hid (below1 w (.cells #[.int .u8 34] 5 (0, 0)))
  obtain ⟨W0, hW0⟩ : ∃ W0, W0 = w.alloc (.cells #[.int .u8 34] 5 (0, 0)) := ⟨_, rfl⟩
  have HLN : Hid (s.data.toList.length = s.size) := (Lib.size_eq s).symm
  have HW0 := Lib.hid hW0
  rw [← hW0] at HROW H1
  clear hW0
  go_enter Tryd.func24, Tryd.ntmps24
  go_wp2
  go_loopw [3, 4, 5] (fun b i _ wr => ∃ k : Nat, i = .int .i64 k ∧ k ≤ s.size ∧ Hid (RowF w.heap.size wr b (34 :: (s.data.toList.take k).flatMap q1)) ∧ Hid (Below w.heap.size w wr)) (fun _ i _ _ => s.size - (intOf i).toNat)
  case atStart =>
    refine ⟨0, rfl, Nat.zero_le _, ?_, ?_⟩
    · have := HROW.out
      rw [HW0.out] at this
      exact this
    · have := H1.out
      rw [HW0.out] at this
      exact this
  case round =>
    obtain ⟨k, rfl, hk, HR, HB⟩ := hrel
    by_cases hlt : k < s.size
    · have HTK := Lib.hid (q1s_take (l := s.data.toList) (k := k) (by rw [HLN.out]; exact hlt))
      rw [at_nat s k hlt] at HTK
      have hlen := q1s_take_le s.data.toList k
      rw [HLN.out] at hlen
      obtain ⟨A, hA⟩ : ∃ A, A = 34 :: (s.data.toList.take k).flatMap q1 := ⟨_, rfl⟩
      have hAl : A.length ≤ 3 * s.size + 1 := by rw [hA, List.length_cons]; omega
      rw [← hA] at HR
      have HA := Lib.hid hA
      have hwsz : w.heap.size ≤ wr.heap.size := HB.out.size
      clear hA hlen
      have hc256 : s[k].toNat < 256 := s[k].toNat_lt
      cases hp : plainB s[k]
      · have HQ1 : Hid (q1 s[k] = [92, hexD (s[k].toNat / 16), hexD (s[k].toNat % 16)]) := by show _ = _; unfold q1; rw [hp]; rfl
        have HD1 := fun w => Lib.hid (rdigit_any (s[k].toNat / 16) (by omega) w)
        have HD2 := fun w => Lib.hid (rdigit_any (s[k].toNat % 16) (by omega) w)
        have e1 : ((s[k].toNat / 16 : Nat) : Int) = (s[k].toNat : Int) / 16 := by omega
        have e2 : ((s[k].toNat % 16 : Nat) : Int) = (s[k].toNat : Int) % 16 := by omega
        rw [e1] at HD1
        rw [e2] at HD2
        have hw := plain_ways hp
        clear e1 e2 hp
        rcases hw with hw | hw | hw | hw
        case' inl => have i1 : ¬ (32 : Int) ≤ (s[k].toNat : Int) := (by omega)
        case' inr.inl => have i1 : (32 : Int) ≤ (s[k].toNat : Int) := (by omega); have i2 : ¬ (s[k].toNat : Int) ≤ 126 := (by omega)
        case' inr.inr.inl => have i1 : (32 : Int) ≤ (s[k].toNat : Int) := (by omega); have i2 : (s[k].toNat : Int) ≤ 126 := (by omega); have i3 : ((s[k].toNat : Int) != 34) = false := (by rw [hw]; rfl)
        case' inr.inr.inr => have i1 : (32 : Int) ≤ (s[k].toNat : Int) := (by omega); have i2 : (s[k].toNat : Int) ≤ 126 := (by omega); have i3 : ((s[k].toNat : Int) != 34) = true := (by rw [hw]; rfl); have i4 : ((s[k].toNat : Int) != 92) = false := (by rw [hw]; rfl)
        all_goals
          clear hw
          go_wp2_with (first
            | (go_at_call 44; first | ((with_reducible refine (HD1 _).out.mono ?_); rintro e w' ⟨rfl, rfl⟩) | (go_loud ((with_reducible refine (HD2 _).out.mono ?_); rintro e w' ⟨rfl, rfl⟩)))
            | (at_builtin; refine wpList_append_F (v := u3) rfl (.tmp 34) (.tmp 41) rfl rfl (HR.out.below (below1 wr _)) (by simp; omega) ⟨wr.heap.size, 0, none⟩ 3 [92, hexD (s[k].toNat / 16), hexD (s[k].toNat % 16)] rfl (by simp) (cells_three wr _ _ _ _) (by simp; omega) ?_; intro v2 w2 hown hgrow hat; have HO2 := Lib.hid hown; have HG2 := Lib.hid hgrow; have HAT := Lib.hid hat; clear hown hgrow hat))
          refine ⟨⟨k + 1, by simp, by omega, ?_, ?_⟩, by simp [intOf]; omega⟩
          · left
            have e : (34 :: (s.data.toList.take (k + 1)).flatMap q1) = A ++ [92, hexD (s[k].toNat / 16), hexD (s[k].toNat % 16)] := by rw [HTK.out, HQ1.out, HA.out]; rfl
            rw [e, List.length_append, bys_append]
            exact HO2.out
          · exact (HB.out.alloc HB.out.size _).grown HG2.out (HB.out.alloc HB.out.size _).size (fun g hg => HR.out.lt g hg)
      · have HQ1 : Hid (q1 s[k] = [s[k]]) := by show _ = _; unfold q1; rw [hp]; rfl
        obtain ⟨y1, y2, y3, y4⟩ := plain_yes hp
        have i1 : (32 : Int) ≤ (s[k].toNat : Int) := by omega
        have i2 : (s[k].toNat : Int) ≤ 126 := by omega
        have i3 : ((s[k].toNat : Int) != 34) = true := by rw [bne_iff_ne]; omega
        have i4 : ((s[k].toNat : Int) != 92) = true := by rw [bne_iff_ne]; omega
        clear hp y1 y2 y3 y4
        go_wp2_with (first
          | (at_builtin; refine wpList_append_F (v := u3) rfl (.tmp 30) (.tmp 32) rfl rfl (HR.out.below (below1 wr _)) (by simp; omega) ⟨wr.heap.size, 0, none⟩ 1 [s[k]] rfl (by simp) (cell_one_new _ _ _) (by simp; omega) ?_; intro v2 w2 hown hgrow hat; have HO2 := Lib.hid hown; have HG2 := Lib.hid hgrow; have HAT := Lib.hid hat; clear hown hgrow hat))
        refine ⟨⟨k + 1, by simp, by omega, ?_, ?_⟩, by simp [intOf]; omega⟩
        · left
          have e : (34 :: (s.data.toList.take (k + 1)).flatMap q1) = A ++ [s[k]] := by rw [HTK.out, HQ1.out, HA.out]; rfl
          rw [e, List.length_append, bys_append]
          exact HO2.out
        · exact (HB.out.alloc HB.out.size _).grown HG2.out (HB.out.alloc HB.out.size _).size (fun g hg => HR.out.lt g hg)
    · obtain rfl : k = s.size := by omega
      have HE : Hid ((34 :: (s.data.toList.take s.size).flatMap q1) ++ [34] = quoteV s.data.toList) := by
        show _ = _
        rw [← HLN.out, List.take_length]
        rfl
      have hlen := q1s_take_le s.data.toList s.size
      rw [HLN.out] at hlen
      obtain ⟨A, hA⟩ : ∃ A, A = 34 :: (s.data.toList.take s.size).flatMap q1 := ⟨_, rfl⟩
      have hAl : A.length ≤ 3 * s.size + 1 := by rw [hA, List.length_cons]; omega
      rw [← hA] at HR HE
      clear hA hlen
      go_wp2_with (first
        | (at_builtin; refine wpList_append_F (v := u3) rfl (.tmp 43) (.tmp 44) rfl rfl (HR.out.below (below1 wr _)) (by have := HB.out.size; simp; omega) ⟨wr.heap.size, 0, none⟩ 1 [34] rfl (by simp) (cell_one_new _ _ _) (by simp; omega) ?_; intro v2 w2 hown hgrow hat; have hq : w2.ownsRow w.heap.size 5 1 v2 (A ++ [34]).length (bys (A ++ [34])) := (by rw [List.length_append, bys_append]; exact hown); have hcv2 := conv_own hq; have HG2 := Lib.hid hgrow; clear hown hgrow hq))
      go_ret
      rw [← HE.out]
      exact ⟨rfl, (HB.out.alloc HB.out.size _).grown HG2.out (HB.out.alloc HB.out.size _).size (fun g hg => HR.out.lt g hg)⟩
end Go.Proofs.YtjkfcmadoeifgaaDoor
