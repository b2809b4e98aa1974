/- Values that may be: of one text are the same alone. Conditions: bits below 2^64. A text between quotes by the document and by the code's way: the same; raceref3's digits and Quote. Conditions: no more than 2^40 bytes. raceref3.Unquote. Conditions: no more than 20000 bytes. -/
import Derived.Test.YtbgccaconhmbaaaGreatDoorJPr
import Derived.Test.YtbgccaconhmbaaaGreatDoorJVc
import Derived.Test.YtbgccaconhmbaaaGreatDoorJS
import Derived.Test.YtbgccaconhmbaaaGreatDoorJUq
import Derived.Test.YtbgccaconhmbaaaGreatDoorJOr
import Derived.Test.YtbgccaconhmbaaaGreatDoorJQu
namespace Go.Proofs.YtbgccaconhmbaaaGreatDoor
theorem numT_head (r : Nat) : (numT r).headD 0 ≠ 34 := by
  unfold numT digT
  have ha := dec_all (oddN r)
  generalize Lib.decDigits (oddN r) = D at *
  cases D with
  | nil => show (112 : UInt8) ≠ 34; decide
  | cons c t =>
    simp only [List.all_cons, Bool.and_eq_true] at ha
    show c ≠ 34
    intro e
    subst e
    have := ha.1
    revert this
    decide
theorem textN_head {b : Nat} (hb : b < 18446744073709551616) : (textN b).headD 0 ≠ 34 := by
  rcases cls_cases hb with ⟨h, _⟩ | ⟨h, _⟩ | ⟨h, _⟩ | ⟨h, _⟩ | ⟨h, _⟩ | ⟨h, hc, h0, hi, hs⟩ | ⟨h, hc, h0, hi, hs⟩
  · rw [textN_0 h]; decide
  · rw [textN_1 h]; decide
  · rw [textN_4 h]; decide
  · rw [textN_5 h]; decide
  · rw [textN_8 h]; decide
  · rw [textN_neg h]; show (45 : UInt8) ≠ 34; decide
  · rw [textN_pos h]; exact numT_head _
theorem none_parse : (parseN [110, 111, 110, 101]).2 = 4 := by decide +kernel
/-- A quoted byte is read back. -/
theorem first_q1 (c : UInt8) (r : List UInt8) : firstV (q1 c ++ r) = (c, (q1 c).length) := by
  cases hp : plainB c
  · have hq : q1 c = [92, hexD (c.toNat / 16), hexD (c.toNat % 16)] := by unfold q1; rw [hp]; rfl
    rw [hq]
    have hx : ∀ n : Fin 256, plainB (UInt8.ofNat n.val) = false → plainB 92 = false ∧ hexI (hexD (n.val / 16)) = ((n.val / 16 : Nat) : Int) ∧ hexI (hexD (n.val % 16)) = ((n.val % 16 : Nat) : Int) := by decide +kernel
    obtain ⟨h92, h1, h2⟩ := hx ⟨c.toNat, c.toNat_lt⟩ (by simpa using hp)
    simp only at h1 h2
    have e : UInt8.ofNat (16 * (c.toNat / 16) + c.toNat % 16) = c := by
      rw [show 16 * (c.toNat / 16) + c.toNat % 16 = c.toNat by omega]
      simp
    unfold firstV
    simp only [List.cons_append, List.nil_append, List.getD_cons_zero, List.getD_cons_succ, List.length_cons]
    rw [if_neg (by simp [h92]), if_neg (by simp), h1, h2, if_neg (by omega)]
    simp only [Int.toNat_natCast]
    rw [e, if_neg (by simp [hp])]
    rfl
  · have hq : q1 c = [c] := by unfold q1; rw [hp]; rfl
    rw [hq]
    unfold firstV
    simp [hp]
theorem unq_q1s : ∀ (l : List UInt8) (n : Nat), (l.flatMap q1).length ≤ n → unqL n (l.flatMap q1) = some l := by
  intro l
  induction l with
  | nil => intro n _; simp [unqL_nil]
  | cons c r ih =>
    intro n hn
    rw [List.flatMap_cons, List.length_append] at hn
    have h1 := (q1_len c).1
    have hne : q1 c ++ r.flatMap q1 ≠ [] := by
      intro e
      have := congrArg List.length e
      rw [List.length_append, List.length_nil] at this
      omega
    cases n with
    | zero => omega
    | succ n =>
      rw [List.flatMap_cons, unqL_step hne (by rw [first_q1]; simp only; omega), first_q1]
      simp only [List.drop_left]
      rw [ih n (by omega)]
      rfl
theorem quote_inj {l m : List UInt8} (h : quoteV l = quoteV m) : l = m := by
  unfold quoteV at h
  have h1 : l.flatMap q1 = m.flatMap q1 := List.append_cancel_right (List.cons.inj h).2
  have e1 := unq_q1s l _ (Nat.le_refl _)
  have e2 := unq_q1s m _ (Nat.le_refl _)
  rw [h1, e2] at e1
  exact (Option.some.inj e1).symm
theorem may_num {a : DV} (h : mayV a = true) (hk : a.k = 1) : a.x = canon a.x := by
  unfold mayV at h
  rw [if_neg (by omega), if_pos hk] at h
  simp at h
  exact h.1
theorem may_three {a : DV} (h : mayV a = true) : a.k = 0 ∨ a.k = 1 ∨ a.k = 2 := by
  unfold mayV at h
  split at h
  · rename_i h0; exact .inl h0
  · split at h
    · rename_i h1; exact .inr (.inl h1)
    · split at h
      · rename_i h2; exact .inr (.inr h2)
      · cases h
theorem text_none {b : Nat} (hb : b < 18446744073709551616) : textN b ≠ [110, 111, 110, 101] := by
  intro e
  have h := parse_text hb
  rw [e] at h
  have := none_parse
  rw [h] at this
  cases this
theorem text_quote {b : Nat} (hb : b < 18446744073709551616) (l : List UInt8) : textN b ≠ quoteV l := by
  intro e
  have h := textN_head hb
  rw [e] at h
  exact h rfl
theorem quote_none (l : List UInt8) : quoteV l ≠ [110, 111, 110, 101] := by
  intro e
  have := congrArg (·.headD 0) e
  simp [quoteV] at this
theorem comp_text {x y : Nat} (hx : x < 18446744073709551616) (hy : y < 18446744073709551616) (cx : x = canon x) (cy : y = canon y) : cmpN (rankN x) (rankN y) = 0 ↔ textN x = textN y := by
  constructor
  · intro h
    rw [cn_val] at h
    have hr : rankN x = rankN y := by
      split at h
      · omega
      · split at h
        · omega
        · omega
    have e1 := canon_back hx
    have e2 := canon_back hy
    rw [hr, e2, ← cx, ← cy] at e1
    rw [e1]
  · intro h
    have e1 := parse_text hx
    have e2 := parse_text hy
    rw [h, e2, ← cx, ← cy] at e1
    have e : y = x := (Prod.mk.inj e1).1
    rw [e]
    have := cn_turn (rankN x) (rankN x)
    omega
theorem comp_print {a b : DV} (ha : mayV a = true) (hb : mayV b = true) (hx : a.x < 18446744073709551616) (hy : b.x < 18446744073709551616) : compV a b = 0 ↔ printV a = printV b := by
  unfold compV printV
  rw [if_pos ⟨ha, hb⟩, if_pos ha, if_pos hb]
  rcases may_three ha with h1 | h1 | h1 <;> rcases may_three hb with h2 | h2 | h2 <;> rw [h1, h2]
  · exact ⟨fun _ => rfl, fun _ => rfl⟩
  · exact ⟨fun h => absurd h (by rw [if_pos (by decide)]; decide), fun h => absurd h.symm (text_none hy)⟩
  · exact ⟨fun h => absurd h (by rw [if_pos (by decide)]; decide), fun h => absurd h.symm (quote_none _)⟩
  · exact ⟨fun h => absurd h (by rw [if_pos (by decide)]; decide), fun h => absurd h (text_none hx)⟩
  · exact comp_text hx hy (may_num ha h1) (may_num hb h2)
  · exact ⟨fun h => absurd h (by rw [if_pos (by decide)]; decide), fun h => absurd h (text_quote hx _)⟩
  · exact ⟨fun h => absurd h (by rw [if_pos (by decide)]; decide), fun h => absurd h (quote_none _)⟩
  · exact ⟨fun h => absurd h (by rw [if_pos (by decide)]; decide), fun h => absurd h.symm (text_quote hy _)⟩
  · refine ⟨fun h => ?_, fun h => ?_⟩
    · have e := cb_eq _ _ h
      show quoteV a.s = quoteV b.s
      rw [e]
    · have e := quote_inj h
      show Lib.compareBytes a.s b.s = 0
      rw [e]
      exact cb_self _
end Go.Proofs.YtbgccaconhmbaaaGreatDoor
namespace Go.Proofs.YtbgccaconhmbaaaGreatDoor
theorem hexD_I (c : UInt8) (n : Nat) (hn : n < 16) (h : hexI c = (n : Int)) : c = hexD n := by
  have : ∀ c : Fin 256, ∀ n : Fin 16, hexI (UInt8.ofNat c.val) = ((n.val : Nat) : Int) → UInt8.ofNat c.val = hexD n.val := by decide +kernel
  have h2 := this ⟨c.toNat, c.toNat_lt⟩ ⟨n, hn⟩
  simp only [UInt8.ofNat_toNat] at h2
  exact h2 h
theorem three_list {l : List UInt8} (h : 3 ≤ l.length) : l = l.getD 0 0 :: l.getD 1 0 :: l.getD 2 0 :: l.drop 3 := by
  match l, h with
  | a :: b :: c :: r, _ => rfl
/-- What stands at the beginning is the byte, written by Quote. -/
theorem first_take {l : List UInt8} (hl : l ≠ []) (h : (firstV l).2 ≠ 0) : l = q1 (firstV l).1 ++ l.drop (firstV l).2 := by
  unfold firstV at h ⊢
  by_cases hp : plainB (l.getD 0 0) = true
  · rw [if_pos hp]
    simp only
    unfold q1
    rw [if_pos hp]
    match l, hl with
    | a :: r, _ => rfl
  rw [if_neg hp] at h ⊢
  by_cases h2 : l.getD 0 0 ≠ 92 ∨ l.length < 3
  · rw [if_pos h2] at h
    exact absurd rfl h
  rw [if_neg h2] at h ⊢
  by_cases h3 : hexI (l.getD 1 0) < 0 ∨ hexI (l.getD 2 0) < 0
  · rw [if_pos h3] at h
    exact absurd rfl h
  rw [if_neg h3] at h ⊢
  by_cases h4 : plainB (UInt8.ofNat (16 * (hexI (l.getD 1 0)).toNat + (hexI (l.getD 2 0)).toNat)) = true
  · rw [if_pos h4] at h
    exact absurd rfl h
  rw [if_neg h4]
  simp only
  have hc : ∃ a : Nat, a < 16 ∧ hexI (l.getD 1 0) = (a : Int) := by
    rcases hexI_cases (l.getD 1 0) with e | e
    · omega
    · exact e
  have hd : ∃ b : Nat, b < 16 ∧ hexI (l.getD 2 0) = (b : Int) := by
    rcases hexI_cases (l.getD 2 0) with e | e
    · omega
    · exact e
  obtain ⟨a, ha, ea⟩ := hc
  obtain ⟨b, hb, eb⟩ := hd
  rw [ea, eb] at h4 ⊢
  simp only [Int.toNat_natCast] at h4 ⊢
  have hn : (UInt8.ofNat (16 * a + b)).toNat = 16 * a + b := by
    rw [UInt8.toNat_ofNat']
    omega
  unfold q1
  rw [if_neg h4, hn, show (16 * a + b) / 16 = a by omega, show (16 * a + b) % 16 = b by omega, ← hexD_I _ a ha ea, ← hexD_I _ b hb eb]
  have h92 : l.getD 0 0 = 92 := by
    by_cases e : l.getD 0 0 = 92
    · exact e
    · exact absurd (.inl e) h2
  rw [← h92]
  exact three_list (by omega)
theorem unqL_back : ∀ (n : Nat) (l t : List UInt8), unqL n l = some t → t.flatMap q1 = l := by
  intro n
  induction n with
  | zero =>
    intro l t h
    unfold unqL at h
    split at h
    · rename_i e; rw [e]; rw [← Option.some.inj h]; rfl
    · cases h
  | succ n ih =>
    intro l t h
    by_cases hl : l = []
    · subst hl; rw [unqL_nil] at h; rw [← Option.some.inj h]; rfl
    · unfold unqL at h
      rw [if_neg hl] at h
      by_cases hk : (firstV l).2 = 0
      · rw [if_pos hk] at h; cases h
      · rw [if_neg hk] at h
        cases hu : unqL n (l.drop (firstV l).2) with
        | none => rw [hu] at h; cases h
        | some u =>
          rw [hu] at h
          have e : t = (firstV l).1 :: u := (Option.some.inj h).symm
          rw [e, List.flatMap_cons, ih _ _ hu]
          exact (first_take hl hk).symm
theorem pre_34 (l : List UInt8) : Lib.hasPrefix (34 :: l) [34] = true ∧ Lib.trimPrefix (34 :: l) [34] = l := by
  have h : Lib.hasPrefix (34 :: l) [34] = true := by simp [Lib.hasPrefix]
  exact ⟨h, by unfold Lib.trimPrefix; rw [if_pos h]; rfl⟩
theorem suf_34 (l : List UInt8) : Lib.hasSuffix (l ++ [34]) [34] = true ∧ Lib.trimSuffix (l ++ [34]) [34] = l := by
  have h : Lib.hasSuffix (l ++ [34]) [34] = true := by
    unfold Lib.hasSuffix
    rw [List.isSuffixOf_iff_suffix]
    exact List.suffix_append _ _
  refine ⟨h, ?_⟩
  unfold Lib.trimSuffix
  rw [if_pos h]
  simp
theorem unq_quote (t : List UInt8) : unqV (quoteV t) = some t := by
  have h1 := pre_34 (t.flatMap q1 ++ [34])
  have h2 := suf_34 (t.flatMap q1)
  unfold unqV closedV bodyV quoteV
  rw [h1.1, h1.2, h2.1, h2.2]
  exact unq_q1s t _ (Nat.le_refl _)
theorem quoted_of {l : List UInt8} (h : (Lib.hasPrefix l [34] && closedV l) = true) : l = 34 :: (bodyV l ++ [34]) := by
  obtain ⟨h1, h2⟩ := Bool.and_eq_true_iff.1 h
  unfold closedV at h2
  unfold bodyV
  have hp : [34] <+: l := by unfold Lib.hasPrefix at h1; exact List.isPrefixOf_iff_prefix.1 h1
  obtain ⟨r, rfl⟩ := hp
  change (Lib.hasSuffix (Lib.trimPrefix (34 :: r) [34]) [34]) = true at h2
  change 34 :: r = 34 :: (Lib.trimSuffix (Lib.trimPrefix (34 :: r) [34]) [34] ++ [34])
  rw [(pre_34 r).2] at h2 ⊢
  have hs : [34] <:+ r := by unfold Lib.hasSuffix at h2; exact List.isSuffixOf_iff_suffix.1 h2
  obtain ⟨b, rfl⟩ := hs
  rw [(suf_34 b).2]
theorem unq_back {l t : List UInt8} (h : unqV l = some t) : quoteV t = l := by
  unfold unqV at h
  split at h
  · rename_i hc
    have e := unqL_back _ _ _ h
    unfold quoteV
    rw [e]
    exact (quoted_of hc).symm
  · cases h
/-- The middle of a text by the document: a byte, or an escape and two digits. -/
def midL : Nat → List UInt8 → Option (List UInt8)
  | 0, l => if l = [] then some [] else none
  | n + 1, l =>
    if l = [] then some []
    else if l.getD 0 0 ≠ 92 then (midL n (l.drop 1)).map (l.getD 0 0 :: ·)
    else if l.length < 3 ∨ hexI (l.getD 1 0) < 0 ∨ hexI (l.getD 2 0) < 0 then none
    else (midL n (l.drop 3)).map (UInt8.ofNat (16 * (hexI (l.getD 1 0)).toNat + (hexI (l.getD 2 0)).toNat) :: ·)
theorem midL_nil (n : Nat) : midL n [] = some [] := by cases n <;> simp [midL]
theorem midL_plain {n : Nat} {l : List UInt8} (hl : l ≠ []) (h : l.getD 0 0 ≠ 92) : midL (n + 1) l = (midL n (l.drop 1)).map (l.getD 0 0 :: ·) := by
  rw [midL, if_neg hl, if_pos h]
theorem midL_none {n : Nat} {l : List UInt8} (hl : l ≠ []) (h : l.getD 0 0 = 92) (h2 : l.length < 3 ∨ hexI (l.getD 1 0) < 0 ∨ hexI (l.getD 2 0) < 0) : midL n l = none := by
  cases n with
  | zero => simp [midL, hl]
  | succ n => rw [midL, if_neg hl, if_neg (fun e => e h), if_pos h2]
theorem midL_esc {n : Nat} {l : List UInt8} (hl : l ≠ []) (h : l.getD 0 0 = 92) (h2 : ¬ (l.length < 3 ∨ hexI (l.getD 1 0) < 0 ∨ hexI (l.getD 2 0) < 0)) :
    midL (n + 1) l = (midL n (l.drop 3)).map (UInt8.ofNat (16 * (hexI (l.getD 1 0)).toNat + (hexI (l.getD 2 0)).toNat) :: ·) := by
  rw [midL, if_neg hl, if_neg (fun e => e h), if_neg h2]
theorem midL_fuel : ∀ (n : Nat) (l : List UInt8), l.length ≤ n → ∀ m, l.length ≤ m → midL n l = midL m l := by
  intro n
  induction n with
  | zero =>
    intro l h m _
    obtain rfl : l = [] := List.eq_nil_of_length_eq_zero (by omega)
    rw [midL_nil, midL_nil]
  | succ n ih =>
    intro l h m hm
    by_cases hl : l = []
    · subst hl; rw [midL_nil, midL_nil]
    · have hpos : 0 < l.length := List.length_pos_iff.2 hl
      cases m with
      | zero => omega
      | succ m =>
        by_cases h92 : l.getD 0 0 = 92
        · by_cases h2 : l.length < 3 ∨ hexI (l.getD 1 0) < 0 ∨ hexI (l.getD 2 0) < 0
          · rw [midL_none hl h92 h2, midL_none hl h92 h2]
          · rw [midL_esc hl h92 h2, midL_esc hl h92 h2, ih (l.drop 3) (by rw [List.length_drop]; omega) m (by rw [List.length_drop]; omega)]
        · rw [midL_plain hl h92, midL_plain hl h92, ih (l.drop 1) (by rw [List.length_drop]; omega) m (by rw [List.length_drop]; omega)]
theorem midL_more {l : List UInt8} (hl : l ≠ []) (h : l.getD 0 0 ≠ 92) : midL l.length l = (midL (l.drop 1).length (l.drop 1)).map (l.getD 0 0 :: ·) := by
  have hpos : 0 < l.length := List.length_pos_iff.2 hl
  obtain ⟨n, hn⟩ : ∃ n, l.length = n + 1 := ⟨l.length - 1, by omega⟩
  rw [hn, midL_plain hl h, midL_fuel n (l.drop 1) (by rw [List.length_drop]; omega) (l.drop 1).length (Nat.le_refl _)]
theorem midL_more3 {l : List UInt8} (hl : l ≠ []) (h : l.getD 0 0 = 92) (h2 : ¬ (l.length < 3 ∨ hexI (l.getD 1 0) < 0 ∨ hexI (l.getD 2 0) < 0)) :
    midL l.length l = (midL (l.drop 3).length (l.drop 3)).map (UInt8.ofNat (16 * (hexI (l.getD 1 0)).toNat + (hexI (l.getD 2 0)).toNat) :: ·) := by
  have hpos : 0 < l.length := List.length_pos_iff.2 hl
  obtain ⟨n, hn⟩ : ∃ n, l.length = n + 1 := ⟨l.length - 1, by omega⟩
  rw [hn, midL_esc hl h h2, midL_fuel n (l.drop 3) (by rw [List.length_drop]; omega) (l.drop 3).length (Nat.le_refl _)]
theorem mid_q1 (c : UInt8) (r : List UInt8) (n : Nat) : midL (n + 1) (q1 c ++ r) = (midL n r).map (c :: ·) := by
  cases hp : plainB c
  · have hq : q1 c = [92, hexD (c.toNat / 16), hexD (c.toNat % 16)] := by unfold q1; rw [hp]; rfl
    have hx : ∀ n : Fin 256, hexI (hexD (n.val / 16)) = ((n.val / 16 : Nat) : Int) ∧ hexI (hexD (n.val % 16)) = ((n.val % 16 : Nat) : Int) := by decide +kernel
    obtain ⟨h1, h2⟩ := hx ⟨c.toNat, c.toNat_lt⟩
    simp only at h1 h2
    have e : UInt8.ofNat (16 * (c.toNat / 16) + c.toNat % 16) = c := by
      rw [show 16 * (c.toNat / 16) + c.toNat % 16 = c.toNat by omega]
      simp
    rw [hq]
    rw [midL_esc (by simp) (by rfl) (by
      simp only [List.cons_append, List.nil_append, List.getD_cons_zero, List.getD_cons_succ, List.length_cons]
      rw [h1, h2]; omega)]
    simp only [List.cons_append, List.nil_append, List.getD_cons_zero, List.getD_cons_succ, List.drop_succ_cons, List.drop_zero]
    rw [h1, h2]
    simp only [Int.toNat_natCast]
    rw [e]
  · have hq : q1 c = [c] := by unfold q1; rw [hp]; rfl
    have hc : c ≠ 92 := by intro e; rw [e] at hp; revert hp; decide
    rw [hq, midL_plain (by simp) (by simpa using hc)]
    rfl
theorem mid_q1s : ∀ (l : List UInt8) (n : Nat), (l.flatMap q1).length ≤ n → midL n (l.flatMap q1) = some l := by
  intro l
  induction l with
  | nil => intro n _; simp [midL_nil]
  | cons c r ih =>
    intro n hn
    rw [List.flatMap_cons] at hn ⊢
    have h1 : 1 ≤ (q1 c).length := by unfold q1; split <;> simp
    cases n with
    | zero => rw [List.length_append] at hn; omega
    | succ n =>
      rw [mid_q1 c _ n, ih n (by rw [List.length_append] at hn; omega)]
      rfl
/-- What lies between the first byte and the last one. -/
def midV (s : List UInt8) : List UInt8 := (s.drop 1).take (s.length - 2)
def runqV (s : List UInt8) : Option (List UInt8) := match midL (midV s).length (midV s) with | none => none | some t => if quoteV t = s then some t else none
theorem mid_quote (t : List UInt8) : midV (quoteV t) = t.flatMap q1 := by
  unfold midV quoteV
  simp
theorem runq_eq (s : List UInt8) : runqV s = unqV s := by
  cases hu : unqV s with
  | some t =>
    have e := unq_back hu
    unfold runqV
    rw [← e, mid_quote, mid_q1s t _ (Nat.le_refl _)]
    simp
  | none =>
    unfold runqV
    cases hm : midL (midV s).length (midV s) with
    | none => rfl
    | some t =>
      simp only
      rw [if_neg]
      intro e
      rw [← e, unq_quote] at hu
      cases hu
open Go.RowKit
theorem hexD_lo {n : Nat} (h : n < 10) : (hexD n).toNat = 48 + n := by
  unfold hexD; rw [if_pos h, UInt8.toNat_ofNat']; omega
theorem hexD_up {n : Nat} (h : ¬ n < 10) (h2 : n < 16) : (hexD n).toNat = 87 + n := by
  unfold hexD; rw [if_neg h, UInt8.toNat_ofNat']; omega
theorem rdigit_any (n : Nat) (hn : n < 16) (w : World) : Calls Tryz.prog 105 #[.int .u8 (n : Int)] w fun e w' => e = .returned (.int .u8 ((hexD n).toNat : Int)) ∧ w = w' := by
  by_cases h : n < 10
  · have HX := Lib.hid (hexD_lo h)
    have hi : (n : Int) < 10 := by omega
    have h0 : (0 : Int) ≤ (n : Int) := by omega
    go_enter Tryz.func105, Tryz.ntmps105
    go_wp2
    go_ret
    rw [HX.out]
    exact ⟨congrArg (fun x => Ending.returned (.int .u8 x)) (by omega), rfl⟩
  · have HX := Lib.hid (hexD_up h hn)
    have hi : ¬ (n : Int) < 10 := by omega
    have h0 : (n : Int) < 16 := by omega
    go_enter Tryz.func105, Tryz.ntmps105
    go_wp2
    go_ret
    rw [HX.out]
    exact ⟨congrArg (fun x => Ending.returned (.int .u8 x)) (by omega), rfl⟩
/-- The value of a digit; 16: it is none. -/
def hexU (c : UInt8) : Nat := if hexI c < 0 then 16 else (hexI c).toNat
theorem hexU_cases (c : UInt8) : (48 ≤ c.toNat ∧ c.toNat ≤ 57 ∧ hexU c = c.toNat - 48) ∨ (97 ≤ c.toNat ∧ c.toNat ≤ 102 ∧ hexU c = c.toNat - 87) ∨ (¬ (48 ≤ c.toNat ∧ c.toNat ≤ 57) ∧ ¬ (97 ≤ c.toNat ∧ c.toNat ≤ 102) ∧ hexU c = 16) := by
  unfold hexU hexI hexOf
  by_cases h1 : 48 ≤ c.toNat ∧ c.toNat ≤ 57
  · rw [if_pos h1]
    exact .inl ⟨h1.1, h1.2, by simp only; rw [if_neg (by omega)]; omega⟩
  · rw [if_neg h1]
    by_cases h2 : 97 ≤ c.toNat ∧ c.toNat ≤ 102
    · rw [if_pos h2]
      exact .inr (.inl ⟨h2.1, h2.2, by simp only; rw [if_neg (by omega)]; omega⟩)
    · rw [if_neg h2]
      exact .inr (.inr ⟨h1, h2, rfl⟩)
theorem rvalue_any (c : UInt8) (w : World) : Calls Tryz.prog 97 #[.int .u8 (c.toNat : Int)] w fun e w' => e = .returned (.int .u8 (hexU c : Int)) ∧ w = w' := by
  have hc := c.toNat_lt
  rcases hexU_cases c with ⟨h1, h2, h3⟩ | ⟨h1, h2, h3⟩ | ⟨h1, h2, h3⟩
  · rw [h3]
    clear h3
    generalize c.toNat = n at *
    have i1 : (48 : Int) ≤ (n : Int) := by omega
    have i2 : (n : Int) ≤ 57 := by omega
    go_enter Tryz.func97, Tryz.ntmps97
    go_wp2
    go_ret
    exact ⟨congrArg (fun x => Ending.returned (.int .u8 x)) (by omega), rfl⟩
  · rw [h3]
    clear h3
    generalize c.toNat = n at *
    have i0 : ¬ (n : Int) ≤ 57 := by omega
    have i1 : (97 : Int) ≤ (n : Int) := by omega
    have i2 : (n : Int) ≤ 102 := by omega
    have i3 : (48 : Int) ≤ (n : Int) := by omega
    go_enter Tryz.func97, Tryz.ntmps97
    go_wp2
    go_ret
    exact ⟨congrArg (fun x => Ending.returned (.int .u8 x)) (by omega), rfl⟩
  · rw [h3]
    clear h3
    generalize c.toNat = n at *
    go_enter Tryz.func97, Tryz.ntmps97
    go_wp2
    all_goals first | (exfalso; omega) | (go_ret; exact ⟨rfl, rfl⟩)
theorem plain_ways {c : UInt8} (h : plainB c = false) : c.toNat < 32 ∨ 126 < c.toNat ∨ c.toNat = 34 ∨ c.toNat = 92 := by
  unfold plainB at h
  simp at h
  omega
theorem plain_yes {c : UInt8} (h : plainB c = true) : 32 ≤ c.toNat ∧ c.toNat ≤ 126 ∧ c.toNat ≠ 34 ∧ c.toNat ≠ 92 := by
  unfold plainB at h
  simp at h
  omega
theorem at_nat (s : ByteArray) (k : Nat) (h : k < s.size) : s.data.toList.getD k 0 = s[k] := (at_i s k h).symm
set_option maxRecDepth 100000 in
set_option maxHeartbeats 2000000 in
theorem rquote_any (s : ByteArray) (hs : s.size ≤ 1099511627776) (w : World) :
    Calls Tryz.prog 61 #[.string s] w fun e w' => e = .returned (.string ⟨(quoteV s.data.toList).toArray⟩) ∧ Below w.heap.size w w' := by
  have HROW := Lib.hid (row_lit w (0, 0))
  have H1 := Lib.hid (below1 w (.cells #[.int .u8 34] 5 (0, 0)))
  obtain ⟨W0, hW0⟩ : ∃ W0, W0 = w.alloc (.cells #[.int .u8 34] 5 (0, 0)) := ⟨_, rfl⟩
  have HLN : Hid (s.data.toList.length = s.size) := (Lib.size_eq s).symm
  have HW0 := Lib.hid hW0
  rw [← hW0] at HROW H1
  clear hW0
  go_enter Tryz.func61, Tryz.ntmps61
  go_wp2
  go_loopw [3, 4, 5] (fun b i _ wr => ∃ k : Nat, i = .int .i64 k ∧ k ≤ s.size ∧ Hid (RowF w.heap.size wr b (34 :: (s.data.toList.take k).flatMap q1)) ∧ Hid (Below w.heap.size w wr)) (fun _ i _ _ => s.size - (intOf i).toNat)
  case atStart =>
    refine ⟨0, rfl, Nat.zero_le _, ?_, ?_⟩
    · have := HROW.out
      rw [HW0.out] at this
      exact this
    · have := H1.out
      rw [HW0.out] at this
      exact this
  case round =>
    obtain ⟨k, rfl, hk, HR, HB⟩ := hrel
    by_cases hlt : k < s.size
    · have HTK := Lib.hid (q1s_take (l := s.data.toList) (k := k) (by rw [HLN.out]; exact hlt))
      rw [at_nat s k hlt] at HTK
      have hlen := q1s_take_le s.data.toList k
      rw [HLN.out] at hlen
      obtain ⟨A, hA⟩ : ∃ A, A = 34 :: (s.data.toList.take k).flatMap q1 := ⟨_, rfl⟩
      have hAl : A.length ≤ 3 * s.size + 1 := by rw [hA, List.length_cons]; omega
      rw [← hA] at HR
      have HA := Lib.hid hA
      have hwsz : w.heap.size ≤ wr.heap.size := HB.out.size
      clear hA hlen
      have hc256 : s[k].toNat < 256 := s[k].toNat_lt
      cases hp : plainB s[k]
      · have HQ1 : Hid (q1 s[k] = [92, hexD (s[k].toNat / 16), hexD (s[k].toNat % 16)]) := by show _ = _; unfold q1; rw [hp]; rfl
        have HD1 := fun w => Lib.hid (rdigit_any (s[k].toNat / 16) (by omega) w)
        have HD2 := fun w => Lib.hid (rdigit_any (s[k].toNat % 16) (by omega) w)
        have e1 : ((s[k].toNat / 16 : Nat) : Int) = (s[k].toNat : Int) / 16 := by omega
        have e2 : ((s[k].toNat % 16 : Nat) : Int) = (s[k].toNat : Int) % 16 := by omega
        rw [e1] at HD1
        rw [e2] at HD2
        have hw := plain_ways hp
        clear e1 e2 hp
        rcases hw with hw | hw | hw | hw
        case' inl => have i1 : ¬ (32 : Int) ≤ (s[k].toNat : Int) := (by omega)
        case' inr.inl => have i1 : (32 : Int) ≤ (s[k].toNat : Int) := (by omega); have i2 : ¬ (s[k].toNat : Int) ≤ 126 := (by omega)
        case' inr.inr.inl => have i1 : (32 : Int) ≤ (s[k].toNat : Int) := (by omega); have i2 : (s[k].toNat : Int) ≤ 126 := (by omega); have i3 : ((s[k].toNat : Int) != 34) = false := (by rw [hw]; rfl)
        case' inr.inr.inr => have i1 : (32 : Int) ≤ (s[k].toNat : Int) := (by omega); have i2 : (s[k].toNat : Int) ≤ 126 := (by omega); have i3 : ((s[k].toNat : Int) != 34) = true := (by rw [hw]; rfl); have i4 : ((s[k].toNat : Int) != 92) = false := (by rw [hw]; rfl)
        all_goals
          clear hw
          go_wp2_with (first
            | (go_at_call 105; first | ((with_reducible refine (HD1 _).out.mono ?_); rintro e w' ⟨rfl, rfl⟩) | (go_loud ((with_reducible refine (HD2 _).out.mono ?_); rintro e w' ⟨rfl, rfl⟩)))
            | (at_builtin; refine wpList_append_F (v := u3) rfl (.tmp 34) (.tmp 41) rfl rfl (HR.out.below (below1 wr _)) (by simp; omega) ⟨wr.heap.size, 0, none⟩ 3 [92, hexD (s[k].toNat / 16), hexD (s[k].toNat % 16)] rfl (by simp) (cells_three wr _ _ _ _) (by simp; omega) ?_; intro v2 w2 hown hgrow hat; have HO2 := Lib.hid hown; have HG2 := Lib.hid hgrow; have HAT := Lib.hid hat; clear hown hgrow hat))
          refine ⟨⟨k + 1, by simp, by omega, ?_, ?_⟩, by simp [intOf]; omega⟩
          · left
            have e : (34 :: (s.data.toList.take (k + 1)).flatMap q1) = A ++ [92, hexD (s[k].toNat / 16), hexD (s[k].toNat % 16)] := by rw [HTK.out, HQ1.out, HA.out]; rfl
            rw [e, List.length_append, bys_append]
            exact HO2.out
          · exact (HB.out.alloc HB.out.size _).grown HG2.out (HB.out.alloc HB.out.size _).size (fun g hg => HR.out.lt g hg)
      · have HQ1 : Hid (q1 s[k] = [s[k]]) := by show _ = _; unfold q1; rw [hp]; rfl
        obtain ⟨y1, y2, y3, y4⟩ := plain_yes hp
        have i1 : (32 : Int) ≤ (s[k].toNat : Int) := by omega
        have i2 : (s[k].toNat : Int) ≤ 126 := by omega
        have i3 : ((s[k].toNat : Int) != 34) = true := by rw [bne_iff_ne]; omega
        have i4 : ((s[k].toNat : Int) != 92) = true := by rw [bne_iff_ne]; omega
        clear hp y1 y2 y3 y4
        go_wp2_with (first
          | (at_builtin; refine wpList_append_F (v := u3) rfl (.tmp 30) (.tmp 32) rfl rfl (HR.out.below (below1 wr _)) (by simp; omega) ⟨wr.heap.size, 0, none⟩ 1 [s[k]] rfl (by simp) (cell_one_new _ _ _) (by simp; omega) ?_; intro v2 w2 hown hgrow hat; have HO2 := Lib.hid hown; have HG2 := Lib.hid hgrow; have HAT := Lib.hid hat; clear hown hgrow hat))
        refine ⟨⟨k + 1, by simp, by omega, ?_, ?_⟩, by simp [intOf]; omega⟩
        · left
          have e : (34 :: (s.data.toList.take (k + 1)).flatMap q1) = A ++ [s[k]] := by rw [HTK.out, HQ1.out, HA.out]; rfl
          rw [e, List.length_append, bys_append]
          exact HO2.out
        · exact (HB.out.alloc HB.out.size _).grown HG2.out (HB.out.alloc HB.out.size _).size (fun g hg => HR.out.lt g hg)
    · obtain rfl : k = s.size := by omega
      have HE : Hid ((34 :: (s.data.toList.take s.size).flatMap q1) ++ [34] = quoteV s.data.toList) := by
        show _ = _
        rw [← HLN.out, List.take_length]
        rfl
      have hlen := q1s_take_le s.data.toList s.size
      rw [HLN.out] at hlen
      obtain ⟨A, hA⟩ : ∃ A, A = 34 :: (s.data.toList.take s.size).flatMap q1 := ⟨_, rfl⟩
      have hAl : A.length ≤ 3 * s.size + 1 := by rw [hA, List.length_cons]; omega
      rw [← hA] at HR HE
      clear hA hlen
      go_wp2_with (first
        | (at_builtin; refine wpList_append_F (v := u3) rfl (.tmp 43) (.tmp 44) rfl rfl (HR.out.below (below1 wr _)) (by have := HB.out.size; simp; omega) ⟨wr.heap.size, 0, none⟩ 1 [34] rfl (by simp) (cell_one_new _ _ _) (by simp; omega) ?_; intro v2 w2 hown hgrow hat; have hq : w2.ownsRow w.heap.size 5 1 v2 (A ++ [34]).length (bys (A ++ [34])) := (by rw [List.length_append, bys_append]; exact hown); have hcv2 := conv_own hq; have HG2 := Lib.hid hgrow; clear hown hgrow hq))
      go_ret
      rw [← HE.out]
      exact ⟨rfl, (HB.out.alloc HB.out.size _).grown HG2.out (HB.out.alloc HB.out.size _).size (fun g hg => HR.out.lt g hg)⟩
end Go.Proofs.YtbgccaconhmbaaaGreatDoor
namespace Go.Proofs.YtbgccaconhmbaaaGreatDoor
open Go.RowKit
/-- What is left of the middle from a place on. -/
def restL (l : List UInt8) (j : Nat) : List UInt8 := (l.drop j).take (l.length - 1 - j)
theorem rest_one (l : List UInt8) : restL l 1 = midV l := by
  unfold restL midV
  rw [show l.length - 1 - 1 = l.length - 2 by omega]
theorem rest_len (l : List UInt8) (j : Nat) : (restL l j).length = l.length - 1 - j := by
  unfold restL
  rw [List.length_take, List.length_drop]
  omega
theorem rest_drop (l : List UInt8) (j k : Nat) : (restL l j).drop k = restL l (j + k) := by
  unfold restL
  rw [List.drop_take, List.drop_drop, show l.length - 1 - j - k = l.length - 1 - (j + k) by omega]
theorem rest_at (s : ByteArray) (j k : Nat) (h : j + k < s.size - 1) (h2 : j + k < s.size) : (restL s.data.toList j).getD k 0 = s[j + k] := by
  have hl : s.data.toList.length = s.size := (Lib.size_eq s).symm
  unfold restL
  rw [List.getD_eq_getElem?_getD, List.getElem?_take, if_pos (by omega), List.getElem?_drop, List.getElem?_eq_getElem (by omega)]
  rfl
theorem hexU_lt (c : UInt8) : hexU c ≤ 16 := by
  rcases hexU_cases c with ⟨_, _, h⟩ | ⟨_, _, h⟩ | ⟨_, _, h⟩ <;> omega
theorem hexU_neg {c : UInt8} : hexI c < 0 ↔ hexU c = 16 := by
  unfold hexU
  rcases hexI_cases c with h | ⟨n, hn, h⟩
  · rw [h]; simp
  · rw [h, if_neg (by omega)]; omega
theorem hexU_val {c : UInt8} (h : ¬ hexI c < 0) : (hexI c).toNat = hexU c ∧ hexU c ≤ 15 := by
  have h2 : ¬ hexU c = 16 := fun e => h (hexU_neg.2 e)
  have := hexU_lt c
  refine ⟨?_, by omega⟩
  unfold hexU
  rw [if_neg h]
set_option maxRecDepth 100000 in
set_option maxHeartbeats 2000000 in
theorem runquote_any (s : ByteArray) (hs : s.size ≤ 20000) (w : World) :
    Calls Tryz.prog 57 #[.string s] w fun e w' => e = .returned (.tuple #[.string ⟨(unqS (unqV s.data.toList)).toArray⟩, .int .i64 (unqE (unqV s.data.toList))]) ∧ Below w.heap.size w w' := by
  have HQ : Hid (unqV s.data.toList = runqV s.data.toList) := (runq_eq _).symm
  have HLN : Hid (s.data.toList.length = s.size) := (Lib.size_eq s).symm
  obtain ⟨i0, hi, hz0, hz1, hz2⟩ := info_parts info5
  go_enter Tryz.func57, Tryz.ntmps57
  go_wp2
  go_loopw [4, 6] (fun v i wr => ∃ (j : Nat) (A : List UInt8), i = .int .i64 j ∧ 1 ≤ j ∧ j ≤ s.size + 1 ∧ Hid (wr.ownsRow w.heap.size 5 1 v A.length (bys A)) ∧ Hid (midL (midV s.data.toList).length (midV s.data.toList) = (midL (restL s.data.toList j).length (restL s.data.toList j)).map (A ++ ·)) ∧ A.length ≤ j ∧ Hid (Below w.heap.size w wr)) (fun _ i _ => s.size + 1 - (intOf i).toNat)
  case atStart => exact ⟨1, [], rfl, by omega, by omega, World.ownsRow_nil _ _ _ _, by show _ = _; rw [rest_one]; simp, by simp, Below.refl _ _⟩
  case round =>
    obtain ⟨j, A, rfl, hj1, hj2, HO, HM, hA, HB⟩ := hrel
    by_cases hlt : (j : Int) < (s.size : Int) - 1
    · have hjs : j < s.size := by omega
      have HR0 := Lib.hid (rest_at s j 0 (by omega) (by omega))
      have HRL := Lib.hid (rest_len s.data.toList j)
      rw [HLN.out] at HRL
      have HNE : Hid (restL s.data.toList j ≠ []) := fun e => by have := HRL.out; rw [e] at this; simp at this; omega
      by_cases h92 : s[j] = 92
      · have i1 : ((s[j].toNat : Int) != 92) = false := by rw [h92]; rfl
        by_cases h3 : (s.size : Int) - 1 ≤ (j : Int) + 2
        · have HN : Hid (runqV s.data.toList = none) := by
            have e := midL_none (n := (restL s.data.toList j).length) HNE.out (by rw [HR0.out]; exact h92) (.inl (by rw [HRL.out]; omega))
            show _ = _
            unfold runqV
            rw [HM.out, e]
            rfl
          clear h92
          go_wp2
          go_ret2
          rw [HQ.out, HN.out]
          exact ⟨rfl, HB.out⟩
        · have hb1 : j + 1 < s.size - 1 := by omega
          have hb2 : j + 2 < s.size - 1 := by omega
          have HR1 := Lib.hid (rest_at s j 1 hb1 (by omega))
          have HR2 := Lib.hid (rest_at s j 2 hb2 (by omega))
          have hx1 : ((j : Int) + 1).toNat = j + 1 := by omega
          have hx2 : ((j : Int) + 2).toNat = j + 2 := by omega
          have hj1' : j + 1 < s.size := by omega
          have hj2' : j + 2 < s.size := by omega
          have HA1 := Lib.hid (rvalue_any s[j + 1])
          have HA2 := Lib.hid (rvalue_any s[j + 2])
          by_cases g1 : 15 < hexU s[j + 1]
          · have HN : Hid (runqV s.data.toList = none) := by
              have e := midL_none (n := (restL s.data.toList j).length) HNE.out (by rw [HR0.out]; exact h92) (.inr (.inl (by rw [HR1.out]; exact hexU_neg.2 (by have := hexU_lt s[j + 1]; omega))))
              show _ = _
              unfold runqV
              rw [HM.out, e]
              rfl
            have g1' : (15 : Int) < (hexU s[j + 1] : Int) := by omega
            clear h92 g1
            go_wp2_with (go_at_call 97; ((with_reducible refine (rvalue_any _ _).mono ?_); rintro e w' ⟨rfl, rfl⟩))
            go_ret2
            rw [HQ.out, HN.out]
            exact ⟨rfl, HB.out⟩
          by_cases g2 : 15 < hexU s[j + 2]
          · have HN : Hid (runqV s.data.toList = none) := by
              have e := midL_none (n := (restL s.data.toList j).length) HNE.out (by rw [HR0.out]; exact h92) (.inr (.inr (by rw [HR2.out]; exact hexU_neg.2 (by have := hexU_lt s[j + 2]; omega))))
              show _ = _
              unfold runqV
              rw [HM.out, e]
              rfl
            have g1' : ¬ (15 : Int) < (hexU s[j + 1] : Int) := by omega
            have g2' : (15 : Int) < (hexU s[j + 2] : Int) := by omega
            clear h92 g1 g2
            go_wp2_with (go_at_call 97; ((with_reducible refine (rvalue_any _ _).mono ?_); rintro e w' ⟨rfl, rfl⟩))
            go_ret2
            rw [HQ.out, HN.out]
            exact ⟨rfl, HB.out⟩
          have HM2 : Hid (midL (midV s.data.toList).length (midV s.data.toList) = (midL (restL s.data.toList (j + 3)).length (restL s.data.toList (j + 3))).map ((A ++ [UInt8.ofNat (16 * hexU s[j + 1] + hexU s[j + 2])]) ++ ·)) := by
            have k1 : ¬ hexI s[j + 1] < 0 := by rw [hexU_neg]; omega
            have k2 : ¬ hexI s[j + 2] < 0 := by rw [hexU_neg]; omega
            show _ = _
            rw [HM.out, midL_more3 HNE.out (by rw [HR0.out]; exact h92) (by rw [HRL.out, HR1.out, HR2.out]; omega), HR1.out, HR2.out, (hexU_val k1).1, (hexU_val k2).1, rest_drop, Option.map_map]
            congr 1
            funext x
            simp
          have g1' : ¬ (15 : Int) < (hexU s[j + 1] : Int) := by omega
          have g2' : ¬ (15 : Int) < (hexU s[j + 2] : Int) := by omega
          have g1n : (0 : Int) ≤ (hexU s[j + 1] : Int) := by omega
          have g2n : (0 : Int) ≤ (hexU s[j + 2] : Int) := by omega
          have HC : Hid ((((16 : Int) * (hexU s[j + 1] : Int) + (hexU s[j + 2] : Int))) = ((UInt8.ofNat (16 * hexU s[j + 1] + hexU s[j + 2])).toNat : Int)) := by
            show _ = _
            rw [UInt8.toNat_ofNat']
            omega
          generalize UInt8.ofNat (16 * hexU s[j + 1] + hexU s[j + 2]) = c at *
          clear h92 g1 g2
          go_wp2_with (go_at_call 97; ((with_reducible refine (rvalue_any _ _).mono ?_); rintro e w' ⟨rfl, rfl⟩))
          have hw1 : IntKind.i64.wrap ((j : Int) + 1) = (j : Int) + 1 := by rw [IntKind.wrap_i64]; omega
          have hw2 : IntKind.i64.wrap ((j : Int) + 2) = (j : Int) + 2 := by rw [IntKind.wrap_i64]; omega
          have hw3 : IntKind.u8.wrap (16 * (hexU s[j + 1] : Int)) = 16 * (hexU s[j + 1] : Int) := by rw [IntKind.wrap_u8']; omega
          have hw4 : IntKind.u8.wrap (16 * (hexU s[j + 1] : Int) + (hexU s[j + 2] : Int)) = 16 * (hexU s[j + 1] : Int) + (hexU s[j + 2] : Int) := by rw [IntKind.wrap_u8']; omega
          refine wp_region_any (by kernel_rfl) ?_
          change wpAny _ _ _ _ _ _ _ (World.drew _)
          refine wpAny_take (i := 0) (v := ?v0) rfl (by kernel_rfl) (by kernel_rfl) (by kernel_rfl) (fun _ _ _ h => h) (Or.inl ⟨by rfl, ?y0⟩) ?r0
          case y0 => first | (intro W; go_simp; done) | (intro W; go_simp; with_reducible rfl)
          try go_simp
          refine wpAny_take (i := 1) (v := ?v1) rfl (by kernel_rfl) (by kernel_rfl) (by kernel_rfl) (fun _ _ _ h => h) (Or.inl ⟨by rfl, ?y1⟩) ?r1
          case y1 => first | (intro W; go_simp; done) | (intro W; go_simp; with_reducible rfl)
          try go_simp
          refine wpAny_take (i := 2) (v := ?v2) rfl (by kernel_rfl) (by kernel_rfl) (by kernel_rfl) (fun _ _ _ h => h) (Or.inl ⟨by rfl, ?y2⟩) ?r2
          case y2 => first | (intro W; go_simp; done) | (intro W; go_simp; with_reducible rfl)
          try go_simp
          refine wpAny_take (i := 3) (v := ?v3) rfl (by kernel_rfl) (by kernel_rfl) (by kernel_rfl) (fun _ _ _ h => h) (Or.inl ⟨by rfl, ?y3⟩) ?r3
          case y3 => first | (intro W; go_simp; done) | (intro W; go_simp; with_reducible rfl)
          try go_simp
          refine wpAny_take (i := 4) (v := ?v4) rfl (by kernel_rfl) (by kernel_rfl) (by kernel_rfl) (fun _ _ _ h => h) (Or.inl ⟨by rfl, ?y4⟩) ?r4
          case y4 => first | (intro W; go_simp; done) | (intro W; go_simp; with_reducible rfl)
          try go_simp
          refine wpAny_take (i := 7) (v := ?v7) rfl (by kernel_rfl) (by kernel_rfl) (by kernel_rfl) (fun _ _ _ h => h) (Or.inl ⟨by rfl, ?y7⟩) ?r7
          case y7 => first | (intro W; go_simp; done) | (intro W; go_simp; with_reducible rfl)
          try go_simp
          refine wpAny_take (i := 8) (v := ?v8) rfl (by kernel_rfl) (by kernel_rfl) (by kernel_rfl) (fun _ _ _ h => h) (Or.inl ⟨by rfl, ?y8⟩) ?r8
          case y8 => first | (intro W; go_simp; done) | (intro W; go_simp; with_reducible rfl)
          try go_simp
          refine wpAny_take (i := 9) (v := ?v9) rfl (by kernel_rfl) (by kernel_rfl) (by kernel_rfl) (fun _ _ _ h => h) (Or.inl ⟨by rfl, ?y9⟩) ?r9
          case y9 => first | (intro W; go_simp; done) | (intro W; go_simp; with_reducible rfl)
          try go_simp
          refine wpAny_take (i := 10) (v := ?v10) rfl (by kernel_rfl) (by kernel_rfl) (by kernel_rfl) (fun _ _ _ h => h) (Or.inl ⟨by rfl, ?y10⟩) ?r10
          case y10 => first | (intro W; go_simp; done) | (intro W; go_simp; with_reducible rfl)
          try go_simp
          refine wpAny_ready (rs := [5]) (by kernel_rfl) (by simp) ?_
          refine AllReady.cons rfl (fun K hK => ?_) AllReady.nil
          go_simp
          go_wp2_with (first
            | (go_at_call 97; ((with_reducible refine (rvalue_any _ _).mono ?_); rintro e w' ⟨rfl, rfl⟩)))
          refine wpAny_take (i := 6) (v := ?v6) rfl (by kernel_rfl) (by kernel_rfl) (by kernel_rfl) (fun _ _ _ h => h) (Or.inl ⟨by rfl, ?y6⟩) ?r6
          case y6 => first | (intro W; go_simp; done) | (intro W; go_simp; with_reducible rfl)
          try go_simp
          refine wpAny_ready (rs := [11]) (by kernel_rfl) (by simp) ?_
          refine AllReady.cons rfl (fun K hK => ?_) AllReady.nil
          go_simp
          go_wp2_with (first
            | (go_at_call 97; ((with_reducible refine (rvalue_any _ _).mono ?_); rintro e w' ⟨rfl, rfl⟩)))
          refine wpAny_take (i := 12) (v := ?v12) rfl (by kernel_rfl) (by kernel_rfl) (by kernel_rfl) (fun _ _ _ h => h) (Or.inl ⟨by rfl, ?y12⟩) ?r12
          case y12 => first | (intro W; go_simp; done) | (intro W; go_simp; with_reducible rfl)
          try go_simp
          refine wpAny_ready (rs := [13]) (by kernel_rfl) (by simp) ?_
          refine AllReady.cons rfl (fun K hK => ?_) AllReady.nil
          go_simp
          refine hK _ _ ?_
          clear hK K
          rw [HC.out]
          refine wpAny_ready (rs := [14]) (by kernel_rfl) (by simp) ?_
          refine AllReady.cons rfl (fun K hK => ?_) AllReady.nil
          refine step_append_F (v := u4) rfl (.tmp 46) (.tmp 59) rfl (by simp [Act.eval]) ((show RowF w.heap.size wr u4 A from .inl HO.out).below ((Below.refl wr.heap.size wr).drew.alloc (Nat.le_refl _) _)) (by have := HB.out.size; simp; omega) ⟨wr.heap.size, 0, none⟩ 1 [c] (by simp [Act.eval]) (by simp) (cell_one_new _ _ _) (by simp; omega) ?_
          intro v2 w2 hown hgrow hat
          have HO2 := Lib.hid hown
          have HG2 := Lib.hid hgrow
          clear hown hgrow hat
          refine hK _ _ ?_
          clear hK K
          try go_simp
          refine wpAny_take (i := 15) (v := ?v15) rfl (by kernel_rfl) (by kernel_rfl) (by kernel_rfl) (fun _ _ _ h => h) (Or.inl ⟨by rfl, ?y15⟩) ?r15
          case y15 => first | (intro W; go_simp; done) | (intro W; go_simp; with_reducible rfl)
          try go_simp
          refine wpAny_done (by kernel_rfl) ?_ _
          clear hw1 hw2 hw3 hw4
          go_wp2
          refine ⟨⟨j + 3, A ++ [c], by simp; omega, by omega, by omega, ?_, HM2, by simp; omega, ?_⟩, by simp [intOf]; omega⟩
          · have := HO2.out
            rw [← bys_append] at this
            have e : (A ++ [c]).length = A.length + 1 := by simp
            rw [e]
            exact this
          · exact ((HB.out.drew).alloc (HB.out.drew).size _).grown HG2.out ((HB.out.drew).alloc (HB.out.drew).size _).size (fun i e => (HO.out.lt i e).1)
      · have i1 : ((s[j].toNat : Int) != 92) = true := by
          rw [bne_iff_ne]
          intro e
          exact h92 (UInt8.toNat_inj.1 (by show s[j].toNat = 92; omega))
        have HM2 : Hid (midL (midV s.data.toList).length (midV s.data.toList) = (midL (restL s.data.toList (j + 1)).length (restL s.data.toList (j + 1))).map ((A ++ [s[j]]) ++ ·)) := by
          show _ = _
          rw [HM.out, midL_more HNE.out (by rw [HR0.out]; exact h92), HR0.out, rest_drop, Option.map_map]
          congr 1
          funext x
          simp
        clear h92
        go_wp2_with (first
          | (at_builtin; refine wpList_append_own _ rfl (.tmp 19) (.tmp 23) 129 rfl w.heap.size 5 i0 (.int .u8 0) 1 1 under50 hi hz0 hz1 hz2 rfl (by decide) _ _ _ rfl (HO.out.alloc _) ⟨wr.heap.size, 0, none⟩ 1 1 (bys [s[j]]) rfl rfl (cell_one_new _ _ _) (bys_one _) (by unfold maxLen; omega) (by omega) (by have := HB.out.size; simp; omega) ?_; intro v2 w2 hown' hgrow _; have HO2 := Lib.hid hown'; have HG2 := Lib.hid hgrow; clear hown' hgrow))
        refine ⟨⟨j + 1, A ++ [s[j]], by simp, by omega, by omega, ?_, HM2, by simp; omega, ?_⟩, by simp [intOf]; omega⟩
        · have := HO2.out
          rw [← bys_append] at this
          have e : (A ++ [s[j]]).length = A.length + 1 := by simp
          rw [e]
          exact this
        · exact (HB.out.alloc HB.out.size _).grown HG2.out (HB.out.alloc HB.out.size _).size (fun i e => (HO.out.lt i e).1)
    · have hre : Hid (restL s.data.toList j = []) := by
        apply List.eq_nil_of_length_eq_zero
        rw [rest_len, HLN.out]
        omega
      have HMA : Hid (midL (midV s.data.toList).length (midV s.data.toList) = some A) := by
        show _ = _
        rw [HM.out, hre.out, midL_nil]
        simp
      have HQA := fun w => Lib.hid (rquote_any ⟨A.toArray⟩ (by show A.length ≤ _; omega) w)
      rw [show (⟨A.toArray⟩ : ByteArray).data.toList = A from rfl] at HQA
      have hcv := conv_own HO.out
      by_cases heq : quoteV A = s.data.toList
      · have HU : Hid (unqV s.data.toList = some A) := by
          show _ = _
          rw [HQ.out]
          unfold runqV
          rw [HMA.out]
          exact if_pos heq
        go_wp2_with (go_at_call 61; ((with_reducible refine (HQA _).out.mono ?_); rintro e w1 ⟨rfl, hb⟩; have HB1 := Lib.hid (HB.out.trans (hb.mono HB.out.size)); have hcv1 := conv_own (own_below HO.out hb); clear hb))
        go_ret2
        rw [HU.out]
        exact ⟨rfl, HB1.out⟩
      · have HU : Hid (unqV s.data.toList = none) := by
          show _ = _
          rw [HQ.out]
          unfold runqV
          rw [HMA.out]
          exact if_neg heq
        go_wp2_with (go_at_call 61; ((with_reducible refine (HQA _).out.mono ?_); rintro e w1 ⟨rfl, hb⟩; have HB1 := Lib.hid (HB.out.trans (hb.mono HB.out.size)); have hcv1 := conv_own (own_below HO.out hb); clear hb))
        · go_ret2
          rw [HU.out]
          exact ⟨rfl, HB1.out⟩
        · exfalso
          have ht : (!(quoteV A == s.toList)) = false := by assumption
          rw [Bool.not_eq_false', beq_iff_eq, Lib.toList_data] at ht
          exact heq ht
end Go.Proofs.YtbgccaconhmbaaaGreatDoor
