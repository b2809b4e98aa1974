/- Values that may be: of one text are the same alone. Conditions: bits below 2^64. -/
import Derived.Test.YtjkfcmadoeifgaaDoorPr
import Derived.Test.YtjkfcmadoeifgaaDoorCm
import Derived.Test.YtjkfcmadoeifgaaDoorTurn
import Derived.Test.YtjkfcmadoeifgaaDoorHelp
import Derived.Test.YtjkfcmadoeifgaaDoorUq
import Derived.Test.YtjkfcmadoeifgaaDoorOr
namespace Go.Proofs.YtjkfcmadoeifgaaDoor
theorem numT_head (r : Nat) : (numT r).headD 0 ≠ 34 := by
  unfold numT digT
  have ha := dec_all (oddN r)
  generalize Lib.decDigits (oddN r) = D at *
  cases D with
  | nil => show (112 : UInt8) ≠ 34; decide
  | cons c t =>
    simp only [List.all_cons, Bool.and_eq_true] at ha
    show c ≠ 34
    intro e
    subst e
    have := ha.1
    revert this
    decide
theorem textN_head {b : Nat} (hb : b < 18446744073709551616) : (textN b).headD 0 ≠ 34 := by
  rcases cls_cases hb with ⟨h, _⟩ | ⟨h, _⟩ | ⟨h, _⟩ | ⟨h, _⟩ | ⟨h, _⟩ | ⟨h, hc, h0, hi, hs⟩ | ⟨h, hc, h0, hi, hs⟩
  · rw [textN_0 h]; decide
  · rw [textN_1 h]; decide
  · rw [textN_4 h]; decide
  · rw [textN_5 h]; decide
  · rw [textN_8 h]; decide
  · rw [textN_neg h]; show (45 : UInt8) ≠ 34; decide
  · rw [textN_pos h]; exact numT_head _
theorem none_parse : (parseN [110, 111, 110, 101]).2 = 4 := by decide +kernel
/-- A quoted byte is read back. -/
theorem first_q1 (c : UInt8) (r : List UInt8) : firstV (q1 c ++ r) = (c, (q1 c).length) := by
  cases hp : plainB c
  · have hq : q1 c = [92, hexD (c.toNat / 16), hexD (c.toNat % 16)] := by unfold q1; rw [hp]; rfl
    rw [hq]
    have hx : ∀ n : Fin 256, plainB (UInt8.ofNat n.val) = false → plainB 92 = false ∧ hexI (hexD (n.val / 16)) = ((n.val / 16 : Nat) : Int) ∧ hexI (hexD (n.val % 16)) = ((n.val % 16 : Nat) : Int) := by decide +kernel
    obtain ⟨h92, h1, h2⟩ := hx ⟨c.toNat, c.toNat_lt⟩ (by simpa using hp)
    simp only at h1 h2
    have e : UInt8.ofNat (16 * (c.toNat / 16) + c.toNat % 16) = c := by
      rw [show 16 * (c.toNat / 16) + c.toNat % 16 = c.toNat by omega]
      simp
    unfold firstV
    simp only [List.cons_append, List.nil_append, List.getD_cons_zero, List.getD_cons_succ, List.length_cons]
    rw [if_neg (by simp [h92]), if_neg (by simp), h1, h2, if_neg (by omega)]
    simp only [Int.toNat_natCast]
    rw [e, if_neg (by simp [hp])]
    rfl
  · have hq : q1 c = [c] := by unfold q1; rw [hp]; rfl
    rw [hq]
    unfold firstV
    simp [hp]
theorem unq_q1s : ∀ (l : List UInt8) (n : Nat), (l.flatMap q1).length ≤ n → unqL n (l.flatMap q1) = some l := by
  intro l
  induction l with
  | nil => intro n _; simp [unqL_nil]
  | cons c r ih =>
    intro n hn
    rw [List.flatMap_cons, List.length_append] at hn
    have h1 := (q1_len c).1
    have hne : q1 c ++ r.flatMap q1 ≠ [] := by
      intro e
      have := congrArg List.length e
      rw [List.length_append, List.length_nil] at this
      omega
    cases n with
    | zero => omega
    | succ n =>
      rw [List.flatMap_cons, unqL_step hne (by rw [first_q1]; simp only; omega), first_q1]
      simp only [List.drop_left]
      rw [ih n (by omega)]
      rfl
theorem quote_inj {l m : List UInt8} (h : quoteV l = quoteV m) : l = m := by
  unfold quoteV at h
  have h1 : l.flatMap q1 = m.flatMap q1 := List.append_cancel_right (List.cons.inj h).2
  have e1 := unq_q1s l _ (Nat.le_refl _)
  have e2 := unq_q1s m _ (Nat.le_refl _)
  rw [h1, e2] at e1
  exact (Option.some.inj e1).symm
theorem may_num {a : DV} (h : mayV a = true) (hk : a.k = 1) : a.x = canon a.x := by
  unfold mayV at h
  rw [if_neg (by omega), if_pos hk] at h
  simp at h
  exact h.1
theorem may_three {a : DV} (h : mayV a = true) : a.k = 0 ∨ a.k = 1 ∨ a.k = 2 := by
  unfold mayV at h
  split at h
  · rename_i h0; exact .inl h0
  · split at h
    · rename_i h1; exact .inr (.inl h1)
    · split at h
      · rename_i h2; exact .inr (.inr h2)
      · cases h
theorem text_none {b : Nat} (hb : b < 18446744073709551616) : textN b ≠ [110, 111, 110, 101] := by
  intro e
  have h := parse_text hb
  rw [e] at h
  have := none_parse
  rw [h] at this
  cases this
theorem text_quote {b : Nat} (hb : b < 18446744073709551616) (l : List UInt8) : textN b ≠ quoteV l := by
  intro e
  have h := textN_head hb
  rw [e] at h
  exact h rfl
theorem quote_none (l : List UInt8) : quoteV l ≠ [110, 111, 110, 101] := by
  intro e
  have := congrArg (·.headD 0) e
  simp [quoteV] at this
theorem comp_text {x y : Nat} (hx : x < 18446744073709551616) (hy : y < 18446744073709551616) (cx : x = canon x) (cy : y = canon y) : cmpN (rankN x) (rankN y) = 0 ↔ textN x = textN y := by
  constructor
  · intro h
    rw [cn_val] at h
    have hr : rankN x = rankN y := by
      split at h
      · omega
      · split at h
        · omega
        · omega
    have e1 := canon_back hx
    have e2 := canon_back hy
    rw [hr, e2, ← cx, ← cy] at e1
    rw [e1]
  · intro h
    have e1 := parse_text hx
    have e2 := parse_text hy
    rw [h, e2, ← cx, ← cy] at e1
    have e : y = x := (Prod.mk.inj e1).1
    rw [e]
    have := cn_turn (rankN x) (rankN x)
    omega
theorem comp_print {a b : DV} (ha : mayV a = true) (hb : mayV b = true) (hx : a.x < 18446744073709551616) (hy : b.x < 18446744073709551616) : compV a b = 0 ↔ printV a = printV b := by
  unfold compV printV
  rw [if_pos ⟨ha, hb⟩, if_pos ha, if_pos hb]
  rcases may_three ha with h1 | h1 | h1 <;> rcases may_three hb with h2 | h2 | h2 <;> rw [h1, h2]
  · exact ⟨fun _ => rfl, fun _ => rfl⟩
  · exact ⟨fun h => absurd h (by rw [if_pos (by decide)]; decide), fun h => absurd h.symm (text_none hy)⟩
  · exact ⟨fun h => absurd h (by rw [if_pos (by decide)]; decide), fun h => absurd h.symm (quote_none _)⟩
  · exact ⟨fun h => absurd h (by rw [if_pos (by decide)]; decide), fun h => absurd h (text_none hx)⟩
  · exact comp_text hx hy (may_num ha h1) (may_num hb h2)
  · exact ⟨fun h => absurd h (by rw [if_pos (by decide)]; decide), fun h => absurd h (text_quote hx _)⟩
  · exact ⟨fun h => absurd h (by rw [if_pos (by decide)]; decide), fun h => absurd h (quote_none _)⟩
  · exact ⟨fun h => absurd h (by rw [if_pos (by decide)]; decide), fun h => absurd h.symm (text_quote hy _)⟩
  · refine ⟨fun h => ?_, fun h => ?_⟩
    · have e := cb_eq _ _ h
      show quoteV a.s = quoteV b.s
      rw [e]
    · have e := quote_inj h
      show Lib.compareBytes a.s b.s = 0
      rw [e]
      exact cb_self _
end Go.Proofs.YtjkfcmadoeifgaaDoor
