/- Programs as texts, there and back, in plain terms. Conditions: bits below 2^64. The words of a text by their places. Conditions: none of its own. raceref9.split. Conditions: no more than a million bytes. -/
import Derived.Test.YtbgccaconhmbaaaGreatDoorJMk
import Derived.Test.YtbgccaconhmbaaaGreatDoorJPu
import Derived.Test.YtbgccaconhmbaaaGreatDoorJRw
import Derived.Test.YtbgccaconhmbaaaGreatDoorJKy
import Derived.Laws.Strings2
namespace Go.Proofs.YtbgccaconhmbaaaGreatDoor
open Go.RowKit
theorem pre_not {l : List UInt8} (h : l.headD 0 ≠ 34) : Lib.hasPrefix l [34] = false := by
  cases l with
  | nil => rfl
  | cons c t =>
    have h2 : ((34 : UInt8) == c) = false := beq_eq_false_iff_ne.2 fun e => h (by rw [← e]; rfl)
    show ((34 : UInt8) == c && List.isPrefixOf [] t) = false
    rw [h2]; rfl
/-- TEXTS THERE AND BACK. -/
theorem parse_print {v : DV} (hm : mayV v = true) (hx : v.x < 18446744073709551616) : dparseV (printV v) = (v, 0) := by
  have hp : printV v = (if v.k = 1 then textN v.x else if v.k = 2 then quoteV v.s else [110, 111, 110, 101]) := by unfold printV; rw [if_pos hm]
  obtain ⟨k, x, s⟩ := v
  unfold mayV at hm
  simp only at hm hx hp
  rw [hp]
  split at hm
  · rename_i h0
    subst h0
    simp at hm
    obtain ⟨rfl, rfl⟩ := hm
    rw [if_neg (by decide), if_neg (by decide)]
    rfl
  split at hm
  · rename_i h1
    subst h1
    simp at hm
    obtain ⟨hc, rfl⟩ := hm
    rw [if_pos rfl]
    unfold dparseV pnV
    rw [pre_not (textN_head hx), if_neg (by simp), if_neg (text_none hx), parse_text hx, if_pos rfl]
    simp only [canon_canon]
    rw [← hc]
  split at hm
  · rename_i h2
    subst h2
    simp at hm
    obtain ⟨rfl, hs⟩ := hm
    rw [if_neg (by decide), if_pos rfl]
    have hq : Lib.hasPrefix (quoteV s) [34] = true := (pre_34 _).1
    unfold dparseV ptV
    rw [if_pos hq, unq_quote]
    simp only
    rw [if_neg (by omega)]
  · cases hm
theorem canon_text {z : Nat} (hz : z < 18446744073709551616) (h : parseN (textN z) = (z, 0)) : canon z = z := by
  have := parse_text hz
  rw [h] at this
  exact (congrArg Prod.fst this).symm
theorem print_parse {l : List UInt8} (h : (dparseV l).2 = 0) : printV (dparseV l).1 = l ∧ (dparseV l).1.x < 18446744073709551616 := by
  unfold dparseV at h ⊢
  split at h
  · rename_i hq
    rw [if_pos hq]
    unfold ptV at h ⊢
    cases hu : unqV l with
    | none => rw [hu] at h; simp at h
    | some t =>
      rw [hu] at h
      simp only at h ⊢
      by_cases h64 : 64 < t.length
      · rw [if_pos h64] at h; simp at h
      · rw [if_neg h64]
        refine ⟨?_, by simp⟩
        unfold printV
        have hm : mayV ⟨2, 0, t⟩ = true := by unfold mayV; simp; omega
        rw [if_pos hm]
        simp only
        rw [if_neg (by decide), if_pos True.intro]
        exact unq_back hu
  · rename_i hq
    rw [if_neg hq]
    split at h
    · rename_i hn
      rw [if_pos hn]
      exact ⟨by rw [hn]; rfl, by decide⟩
    · rename_i hn
      rw [if_neg hn]
      unfold pnV at h ⊢
      by_cases hz : (parseN l).2 = 0
      · rw [if_pos hz]
        rcases text_parse l with ⟨_, h2, h3⟩ | ⟨h2, _⟩ | ⟨h2, _⟩
        · have hc : canon (parseN l).1 = (parseN l).1 := canon_text h3 (by rw [h2]; exact Prod.ext rfl hz)
          simp only [hc]
          refine ⟨?_, h3⟩
          unfold printV
          have hm : mayV ⟨1, (parseN l).1, []⟩ = true := by unfold mayV; simp [hc]
          rw [if_pos hm]
          exact h2
        · omega
        · omega
      · rw [if_neg hz] at h
        simp only at h
        omega
/- a byte in a text -/
theorem index_at (c : UInt8) (a b : List UInt8) (h : c ∉ a) : Lib.index (a ++ c :: b) [c] = a.length := by
  induction a with
  | nil =>
    show Lib.index (c :: b) [c] = 0
    unfold Lib.index
    rw [if_pos (by simp)]
  | cons x a ih =>
    have hx : c ≠ x := fun e => h (by simp [e])
    have ha : c ∉ a := fun e => h (by simp [e])
    show Lib.index (x :: (a ++ c :: b)) [c] = _
    unfold Lib.index
    rw [if_neg (by simp [hx]), ih ha, if_neg (by simp)]
    simp
theorem index_no (c : UInt8) (l : List UInt8) (h : c ∉ l) : Lib.index l [c] = -1 := by
  induction l with
  | nil => unfold Lib.index; simp
  | cons x a ih =>
    have hx : c ≠ x := fun e => h (by simp [e])
    have ha : c ∉ a := fun e => h (by simp [e])
    unfold Lib.index
    rw [if_neg (by simp [hx]), ih ha, if_pos (by simp)]
theorem cut_at (c : UInt8) (a b : List UInt8) (h : c ∉ a) : Lib.cut (a ++ c :: b) [c] = (a, b, true) := by
  unfold Lib.cut
  rw [index_at c a b h, if_pos (by omega)]
  simp
theorem cut_no (c : UInt8) (l : List UInt8) (h : c ∉ l) : Lib.cut l [c] = (l, [], false) := by
  unfold Lib.cut
  rw [index_no c l h, if_neg (by omega)]
theorem indexByte_no (c : UInt8) (l : List UInt8) (h : c ∉ l) : Lib.indexByte l c = -1 := by
  induction l with
  | nil => rfl
  | cons x a ih =>
    have hx : (x == c) = false := beq_eq_false_iff_ne.2 fun e => h (by simp [e])
    have ha : c ∉ a := fun e => h (by simp [e])
    unfold Lib.indexByte
    rw [hx, ih ha]
    rfl
/-- A word: plain, or between quotes. -/
def Word (w : List UInt8) : Prop := (w ≠ [] ∧ 32 ∉ w ∧ 34 ∉ w) ∨ ∃ b, w = 34 :: (b ++ [34]) ∧ 34 ∉ b
/-- What may stand behind a word. -/
def Rest (r : List UInt8) : Prop := r = [] ∨ ∃ t, r = 32 :: t
theorem Word.head {w : List UInt8} (h : Word w) (r : List UInt8) : ∃ c t, w ++ r = c :: t ∧ c ≠ 32 := by
  rcases h with ⟨h1, h2, _⟩ | ⟨b, rfl, _⟩
  · cases w with
    | nil => exact absurd rfl h1
    | cons c t => exact ⟨c, t ++ r, rfl, fun e => h2 (by simp [e])⟩
  · exact ⟨34, b ++ [34] ++ r, rfl, by decide⟩
theorem trim_word {w : List UInt8} (h : Word w) (r : List UInt8) : Lib.trimLeftB (w ++ r) 32 = w ++ r := by
  obtain ⟨c, t, e, hc⟩ := h.head r
  rw [e]
  unfold Lib.trimLeftB
  rw [List.dropWhile_cons_of_neg (by simpa using hc)]
theorem trim_blank (l : List UInt8) : Lib.trimLeftB (32 :: l) 32 = Lib.trimLeftB l 32 := by
  unfold Lib.trimLeftB
  rw [List.dropWhile_cons_of_pos (by decide)]
theorem split_trim {a b : List UInt8} (h : Lib.trimLeftB a 32 = Lib.trimLeftB b 32) : splitV a = splitV b := by
  by_cases h1 : Lib.trimLeftB b 32 = []
  · rw [split_end h1, split_end (h.trans h1)]
  · cases h2 : (sizeV (Lib.trimLeftB b 32)).2 with
    | false => rw [split_bad h1 h2, split_bad (by rw [h]; exact h1) (by rw [h]; exact h2)]
    | true => rw [split_more h1 h2, split_more (by rw [h]; exact h1) (by rw [h]; exact h2), h]
theorem split_blank (l : List UInt8) : splitV (32 :: l) = splitV l := split_trim (trim_blank l)
theorem size_word {w r : List UInt8} (h : Word w) (hr : Rest r) : sizeV (w ++ r) = (w.length, true) := by
  unfold sizeV
  rcases h with ⟨h1, h2, h3⟩ | ⟨b, rfl, hb⟩
  · have hh : Lib.hasPrefix (w ++ r) [34] = false := pre_not (by
      cases w with
      | nil => exact absurd rfl h1
      | cons c t => show c ≠ 34; exact fun e => h3 (by simp [e]))
    rw [hh, if_neg (by decide)]
    have hc : (Lib.cut (w ++ r) [32]).1 = w := by
      rcases hr with rfl | ⟨t, rfl⟩
      · rw [List.append_nil, cut_no 32 w h2]
      · rw [cut_at 32 w t h2]
    rw [hc, indexByte_no 34 w h3]
    rfl
  · have e : 34 :: (b ++ [34]) ++ r = 34 :: (b ++ 34 :: r) := by simp
    rw [e, (pre_34 _).1, if_pos rfl, (pre_34 _).2, cut_at 34 b r hb]
    have hx : (r == [] || Lib.hasPrefix r [32]) = true := by
      rcases hr with rfl | ⟨t, rfl⟩
      · rfl
      · simp [Lib.hasPrefix]
    rw [hx]
    simp
theorem split_word {w r : List UInt8} (h : Word w) (hr : Rest r) : splitV (w ++ r) = (splitV r).map (w :: ·) := by
  have ht := trim_word h r
  have hs := size_word h hr
  obtain ⟨c, t, e, _⟩ := h.head r
  rw [split_more (by rw [ht, e]; simp) (by rw [ht, hs]), ht, hs]
  simp only
  rw [List.drop_left, List.take_left]
/-- Words, each with a blank ahead. -/
def spW (ws : List Nm) : List UInt8 := ws.flatMap (32 :: ·)
theorem rest_sp (ws : List Nm) {r : List UInt8} (hr : Rest r) : Rest (spW ws ++ r) := by
  cases ws with
  | nil => exact hr
  | cons w ws => exact .inr ⟨w ++ (spW ws ++ r), by simp [spW]⟩
theorem split_sp {r : List UInt8} (hr : Rest r) (h0 : splitV r = some []) : ∀ (ws : List Nm), (∀ w ∈ ws, Word w) → splitV (spW ws ++ r) = some ws
  | [], _ => h0
  | w :: ws, h => by
    have e : spW (w :: ws) ++ r = 32 :: (w ++ (spW ws ++ r)) := by simp [spW]
    rw [e, split_blank, split_word (h w (by simp)) (rest_sp ws hr), split_sp hr h0 ws fun x hx => h x (by simp [hx])]
    rfl
/-- A step's words. -/
def wdsV (o : OpV) : List Nm := if nmsC o.c = 1 then [wordC o.c.toNat, quoteV o.key] else if nmsC o.c = 2 then [wordC o.c.toNat, printV o.v] else [wordC o.c.toNat]
theorem step_words {o : OpV} (h : okC o.c = true) : 32 :: stepT o = spW (wdsV o) := by
  unfold stepT wdsV spW
  rw [if_neg (by rw [h]; exact Bool.noConfusion)]
  by_cases h1 : nmsC o.c = 1
  · rw [if_pos h1, if_pos h1]; simp
  · rw [if_neg h1, if_neg h1]
    by_cases h2 : nmsC o.c = 2
    · rw [if_pos h2, if_pos h2]; simp
    · rw [if_neg h2, if_neg h2]; simp
theorem join_sp : ∀ (xs : List (List UInt8)) (x : List UInt8), 32 :: Lib.join (x :: xs) [32] = (x :: xs).flatMap (32 :: ·)
  | [], x => by simp [Lib.join]
  | y :: xs, x => by
    have := join_sp xs y
    unfold Lib.join at this ⊢
    rw [List.intercalate_cons_cons, List.flatMap_cons, ← this]
    simp
theorem print_sp {p : List OpV} (hp : ∀ o ∈ p, okC o.c = true) (hne : p ≠ []) : 32 :: printT p = spW (p.flatMap wdsV) := by
  have h : ∀ p : List OpV, (∀ o ∈ p, okC o.c = true) → (p.map stepT).flatMap (32 :: ·) = spW (p.flatMap wdsV) := by
    intro p
    induction p with
    | nil => intro _; rfl
    | cons o p ih =>
      intro hp
      have e := step_words (hp o (by simp))
      have := ih fun q hq => hp q (by simp [hq])
      rw [List.map_cons, List.flatMap_cons, this, e, List.flatMap_cons]
      unfold spW
      rw [List.flatMap_append]
  cases p with
  | nil => exact absurd rfl hne
  | cons o p =>
    unfold printT
    rw [List.map_cons, join_sp, ← List.map_cons, h _ hp]
theorem split_print {p : List OpV} (hp : ∀ o ∈ p, okC o.c = true) (hw : ∀ o ∈ p, ∀ x ∈ wdsV o, Word x) {a r : List UInt8} (ha : ∀ c ∈ a, c = 32) (hr : Rest r) (h0 : splitV r = some []) : splitV (a ++ (printT p ++ r)) = some (p.flatMap wdsV) := by
  induction a with
  | nil =>
    by_cases hne : p = []
    · subst hne; exact h0
    · rw [List.nil_append, ← split_blank, show 32 :: (printT p ++ r) = (32 :: printT p) ++ r from rfl, print_sp hp hne]
      refine split_sp hr h0 _ fun w hx => ?_
      obtain ⟨o, ho, hx⟩ := List.mem_flatMap.1 hx
      exact hw o ho w hx
  | cons c a ih =>
    obtain rfl := ha c (by simp)
    rw [List.cons_append, split_blank]
    exact ih fun c hc => ha c (by simp [hc])
/- words are words -/
theorem word_code {n : Nat} (h1 : 1 ≤ n) (h2 : n < 16) : Word (wordC n) ∧ codeV (wordC n) = n := by
  have : ∀ n : Fin 16, 1 ≤ n.val → ((wordC n.val ≠ [] ∧ 32 ∉ wordC n.val ∧ 34 ∉ wordC n.val) ∧ codeV (wordC n.val) = n.val) := by decide +kernel
  have h := this ⟨n, h2⟩ h1
  exact ⟨.inl h.1, h.2⟩
theorem q1_no (c : UInt8) : (34 : UInt8) ∉ q1 c := by
  have : ∀ c : Fin 256, (34 : UInt8) ∉ q1 (UInt8.ofNat c.val) := by decide +kernel
  have h := this ⟨c.toNat, c.toNat_lt⟩
  simpa using h
theorem word_quote (l : List UInt8) : Word (quoteV l) := .inr ⟨l.flatMap q1, rfl, fun h => by
  obtain ⟨c, _, hc⟩ := List.mem_flatMap.1 h
  exact q1_no c hc⟩
theorem dig_no {l : List UInt8} (h : l.all digB = true) {c : UInt8} (hc : c = 32 ∨ c = 34) : c ∉ l := by
  intro hm
  have := List.all_eq_true.1 h c hm
  rcases hc with rfl | rfl <;> revert this <;> decide
theorem itoa_no (p : Int) {c : UInt8} (hc : c = 32 ∨ c = 34) : c ∉ Lib.itoa p := by
  unfold Lib.itoa
  split
  · intro h
    rcases List.mem_cons.1 h with h | h
    · rcases hc with rfl | rfl <;> revert h <;> decide
    · exact dig_no (dec_all _) hc h
  · exact dig_no (dec_all _) hc
theorem numT_no (m : Nat) {c : UInt8} (hc : c = 32 ∨ c = 34) : c ∉ numT m := by
  unfold numT digT powT
  intro h
  rcases List.mem_append.1 h with h | h
  · exact dig_no (dec_all _) hc h
  · rcases List.mem_cons.1 h with h | h
    · rcases hc with rfl | rfl <;> revert h <;> decide
    · exact itoa_no _ hc h
theorem textN_no (b : Nat) {c : UInt8} (hc : c = 32 ∨ c = 34) : c ∉ textN b := by
  unfold textN
  split
  all_goals first
    | exact numT_no _ hc
    | (intro h; rcases List.mem_cons.1 h with h | h
       · rcases hc with rfl | rfl <;> revert h <;> decide
       · exact numT_no _ hc h)
    | (rcases hc with rfl | rfl <;> decide)
theorem textN_ne (b : Nat) : textN b ≠ [] := by
  unfold textN numT
  split <;> simp
theorem word_print {v : DV} (h : mayV v = true) : Word (printV v) := by
  unfold printV
  rw [if_pos h]
  split
  · exact .inl ⟨textN_ne _, textN_no _ (.inl rfl), textN_no _ (.inr rfl)⟩
  · split
    · exact word_quote _
    · exact .inl (by decide)
/- a program's words read as steps -/
/-- A step as a program that may be has it. -/
structure Fit (o : OpV) : Prop where
  ok : okC o.c = true
  fm : formV o = true
  x : o.v.x < 18446744073709551616
theorem Fit.words {o : OpV} (h : Fit o) : ∀ x ∈ wdsV o, Word x := by
  obtain ⟨n, hc, h1, h2⟩ := okC_nat h.ok
  have hw : Word (wordC o.c.toNat) := by rw [hc]; exact (word_code h1 h2).1
  unfold wdsV
  split
  · intro x hx
    rcases List.mem_cons.1 hx with rfl | hx
    · exact hw
    · obtain rfl := List.mem_singleton.1 hx; exact word_quote _
  · split
    · intro x hx
      rcases List.mem_cons.1 hx with rfl | hx
      · exact hw
      · obtain rfl := List.mem_singleton.1 hx; exact word_print (form_may h.fm)
    · intro x hx
      obtain rfl := List.mem_singleton.1 hx; exact hw
theorem ps_words {o : OpV} (h : Fit o) (rest : List Nm) : psV (wdsV o ++ rest) = (o, (wdsV o).length, 0) := by
  obtain ⟨n, hc, h1, h2⟩ := okC_nat h.ok
  have hcd : codeV (wordC n) = n := (word_code h1 h2).2
  have hn0 : n ≠ 0 := by omega
  have hf := h.fm
  unfold formV at hf
  obtain ⟨c, key, v⟩ := o
  simp only at *
  subst hc
  unfold wdsV
  simp only
  rcases nms_cases (n : Int) with e | e | e
  · rw [e] at hf ⊢
    rw [if_neg (by decide), if_neg (by decide), Bool.and_eq_true] at hf
    rw [if_neg (by decide), if_neg (by decide)]
    obtain rfl := eq_of_beq hf.1
    obtain rfl := zero_none hf.2
    unfold psV
    simp [hcd, hn0, e]
  · rw [e] at hf ⊢
    rw [if_pos rfl, Bool.and_eq_true] at hf
    rw [if_pos rfl]
    obtain rfl := zero_none hf.2
    unfold psV
    simp [hcd, hn0, e, pkV, unq_quote, hf.1]
  · rw [e] at hf ⊢
    rw [if_neg (by decide), if_pos rfl, Bool.and_eq_true] at hf
    rw [if_neg (by decide), if_pos rfl]
    obtain rfl := eq_of_beq hf.1
    unfold psV
    simp [hcd, hn0, e, parse_print hf.2 h.x]
theorem words_ne (o : OpV) : ∃ x l, wdsV o = x :: l := by
  unfold wdsV
  split
  · exact ⟨_, _, rfl⟩
  · split
    · exact ⟨_, _, rfl⟩
    · exact ⟨_, _, rfl⟩
theorem steps_words : ∀ {p : List OpV}, (∀ o ∈ p, Fit o) → stepsV (p.flatMap wdsV) = (p, 0)
  | [], _ => rfl
  | o :: p, h => by
    have h1 := ps_words (h o (by simp)) (p.flatMap wdsV)
    obtain ⟨x, l, e⟩ := words_ne o
    rw [List.flatMap_cons]
    rw [e, List.cons_append] at h1 ⊢
    have hz : (psV (x :: (l ++ p.flatMap wdsV))).2.2 = 0 := by rw [h1]
    rw [steps_more hz, h1]
    simp only
    rw [← List.cons_append, List.drop_left, steps_words fun q hq => h q (by simp [hq])]
theorem fit_all {p : List OpV} (hc : chkV p = 0) (hx : ∀ o ∈ p, o.v.x < 18446744073709551616) : ∀ o ∈ p, Fit o := fun o ho =>
  ⟨(chk_forms (chkV_ok hc).2.1 o ho).1, (chk_forms (chkV_ok hc).2.1 o ho).2, hx o ho⟩
/-- P9.6: a program that may be comes back of its text, with blanks more at its ends, too. -/
theorem back_prog {p : List OpV} (hc : chkV p = 0) (hx : ∀ o ∈ p, o.v.x < 18446744073709551616) {a r : List UInt8} (ha : ∀ c ∈ a, c = 32) (hr : r = [] ∨ r = [32]) : parseV (a ++ (printT p ++ r)) = (p, 0) := by
  have hf := fit_all hc hx
  have hrr : Rest r ∧ splitV r = some [] := by
    rcases hr with rfl | rfl
    · exact ⟨.inl rfl, split_end rfl⟩
    · exact ⟨.inr ⟨[], rfl⟩, split_end rfl⟩
  unfold parseV
  rw [split_print (fun o ho => (hf o ho).ok) (fun o ho => (hf o ho).words) ha hrr.1 hrr.2]
  simp only
  rw [steps_words hf, if_pos rfl, if_pos hc]
/- what was read may be -/
theorem ps_x {ws : List Nm} (h : (psV ws).2.2 = 0) : (psV ws).1.v.x < 18446744073709551616 := by
  unfold psV at h ⊢
  cases ws with
  | nil => show (0 : Nat) < _; decide
  | cons x l =>
    simp only at h ⊢
    split
    · show (0 : Nat) < _; decide
    · rename_i h0
      rw [if_neg h0] at h
      split
      · show (0 : Nat) < _; decide
      · rename_i h1
        rw [if_neg h1] at h
        cases l with
        | nil => show (0 : Nat) < _; decide
        | cons y l =>
          simp only at h ⊢
          split
          · show (0 : Nat) < _; decide
          · rename_i h2
            rw [if_neg h2] at h
            exact (print_parse h).2
theorem stepsF_x : ∀ (n : Nat) (ws : List Nm), ∀ o ∈ (stepsF n ws).1, o.v.x < 18446744073709551616
  | 0, _, o, h => by cases h
  | n + 1, ws, o, h => by
    unfold stepsF at h
    split at h
    · cases h
    · split at h
      · rename_i hz
        rcases List.mem_cons.1 h with rfl | h
        · exact ps_x hz
        · exact stepsF_x n _ o h
      · cases h
theorem parse_facts (l : List UInt8) : ((parseV l).2 ≠ 0 ∧ (parseV l).1 = []) ∨ ((parseV l).2 = 0 ∧ chkV (parseV l).1 = 0 ∧ ∀ o ∈ (parseV l).1, o.v.x < 18446744073709551616) := by
  unfold parseV
  cases splitV l with
  | none => exact .inl ⟨by decide, rfl⟩
  | some ws =>
    simp only
    by_cases h : (stepsV ws).2 = 0
    · rw [if_pos h]
      by_cases hc : chkV (stepsV ws).1 = 0
      · rw [if_pos hc]; exact .inr ⟨rfl, hc, fun o ho => stepsF_x _ _ o ho⟩
      · rw [if_neg hc]; exact .inl ⟨hc, rfl⟩
    · rw [if_neg h]; exact .inl ⟨h, rfl⟩
end Go.Proofs.YtbgccaconhmbaaaGreatDoor
namespace Go.Proofs.YtbgccaconhmbaaaGreatDoor
open Go.RowKit
def seg (l : List UInt8) (i k : Nat) : List UInt8 := (l.take k).drop i
theorem seg_self (l : List UInt8) (i : Nat) : seg l i i = [] := by unfold seg; rw [List.drop_eq_nil_of_le]; rw [List.length_take]; omega
theorem seg_snoc {l : List UInt8} {i k : Nat} (hi : i ≤ k) (hk : k < l.length) : seg l i (k + 1) = seg l i k ++ [l[k]] := by
  unfold seg
  rw [List.take_add_one, List.getElem?_eq_getElem hk, Option.toList, List.drop_append_of_le_length (by rw [List.length_take]; omega)]
theorem seg_drop {l : List UInt8} {i k : Nat} (hi : i ≤ k) (hk : k ≤ l.length) : l.drop i = seg l i k ++ l.drop k := by
  unfold seg
  conv => lhs; rw [← List.take_append_drop k l]
  rw [List.drop_append_of_le_length (by rw [List.length_take]; omega)]
theorem seg_cons {l : List UInt8} {i k : Nat} (hi : i < k) (hk : k ≤ l.length) : seg l i k = l[i]'(by omega) :: seg l (i + 1) k := by
  unfold seg
  rw [List.drop_eq_getElem_cons (by rw [List.length_take]; omega), List.getElem_take]
theorem seg_len {l : List UInt8} {i k : Nat} (hk : k ≤ l.length) : (seg l i k).length = k - i := by unfold seg; rw [List.length_drop, List.length_take]; omega
theorem split_skip {l : List UInt8} {i : Nat} (hi : i < l.length) (h : l[i] = 32) : splitV (l.drop i) = splitV (l.drop (i + 1)) := by
  rw [List.drop_eq_getElem_cons hi, h, split_blank]
theorem rest_of {l : List UInt8} {k : Nat} (h : l.length ≤ k ∨ ∃ h : k < l.length, l[k] = 32) : Rest (l.drop k) := by
  rcases h with h | ⟨h, e⟩
  · exact .inl (List.drop_of_length_le h)
  · exact .inr ⟨l.drop (k + 1), by rw [List.drop_eq_getElem_cons h, e]⟩
theorem split_plain {l : List UInt8} {i k : Nat} (hi : i < k) (hk : k ≤ l.length) (h1 : 32 ∉ seg l i k) (h2 : 34 ∉ seg l i k) (h : l.length ≤ k ∨ ∃ h : k < l.length, l[k] = 32) : splitV (l.drop i) = (splitV (l.drop k)).map (seg l i k :: ·) := by
  rw [seg_drop (Nat.le_of_lt hi) hk]
  exact split_word (.inl ⟨by rw [seg_cons hi hk]; simp, h1, h2⟩) (rest_of h)
theorem first_of (c : UInt8) : ∀ r : List UInt8, c ∉ r ∨ ∃ a b, r = a ++ c :: b ∧ c ∉ a
  | [] => .inl (by simp)
  | x :: r => by
    by_cases hx : x = c
    · subst hx; exact .inr ⟨[], r, rfl, by simp⟩
    · rcases first_of c r with h | ⟨a, b, rfl, h⟩
      · exact .inl (by simp [h, Ne.symm hx])
      · exact .inr ⟨x :: a, b, rfl, by simp [h, Ne.symm hx]⟩
theorem indexByte_yes {c : UInt8} : ∀ {l : List UInt8}, c ∈ l → 0 ≤ Lib.indexByte l c
  | [], h => by cases h
  | x :: l, h => by
    unfold Lib.indexByte
    by_cases hx : (x == c) = true
    · rw [if_pos hx]
      exact Int.le_refl _
    · rw [if_neg hx]
      have hm : c ∈ l := by
        rcases List.mem_cons.1 h with e | e
        · exact absurd (by rw [e]; exact beq_self_eq_true _) hx
        · exact e
      have := indexByte_yes hm
      rw [if_neg (by simp; omega)]
      omega
/-- A quote within a plain word. -/
theorem split_quote {l : List UInt8} {i k : Nat} (hi : i < k) (hk : k < l.length) (h1 : 32 ∉ seg l i k) (h2 : 34 ∉ seg l i k) (h : l[k] = 34) : splitV (l.drop i) = none := by
  rw [seg_drop (Nat.le_of_lt hi) (Nat.le_of_lt hk), List.drop_eq_getElem_cons hk, h]
  have hw := seg_cons hi (Nat.le_of_lt hk)
  obtain ⟨w, hww⟩ : ∃ w, seg l i k = w := ⟨_, rfl⟩
  rw [hww] at h1 h2 hw ⊢
  generalize l.drop (k + 1) = r
  have hh : Lib.hasPrefix (w ++ 34 :: r) [34] = false := pre_not (by
    rw [hw]
    show l[i] ≠ 34
    intro e
    exact h2 (by rw [hw, e]; simp))
  have ht : Lib.trimLeftB (w ++ 34 :: r) 32 = w ++ 34 :: r := by
    rw [hw]
    unfold Lib.trimLeftB
    rw [List.cons_append, List.dropWhile_cons_of_neg]
    intro e
    exact h1 (by rw [hw, eq_of_beq e]; simp)
  refine split_bad (by rw [ht, hw]; simp) ?_
  rw [ht]
  unfold sizeV
  rw [hh, if_neg (by decide)]
  have hm : (34 : UInt8) ∈ (Lib.cut (w ++ 34 :: r) [32]).1 := by
    rcases first_of 32 r with hr | ⟨a, b, rfl, hr⟩
    · rw [cut_no 32 _ (by simp [h1, hr])]
      simp
    · have e : w ++ 34 :: (a ++ 32 :: b) = (w ++ 34 :: a) ++ 32 :: b := by simp
      rw [e, cut_at 32 _ b (by simp [h1, hr])]
      simp
  rw [decide_eq_true (indexByte_yes hm)]
  rfl
theorem trim_quote (r : List UInt8) : Lib.trimLeftB (34 :: r) 32 = 34 :: r := by
  unfold Lib.trimLeftB
  rw [List.dropWhile_cons_of_neg (by decide)]
/-- A quote that is not closed. -/
theorem split_open {l : List UInt8} {i : Nat} (hi : i < l.length) (h : l[i] = 34) (h2 : 34 ∉ seg l (i + 1) l.length) : splitV (l.drop i) = none := by
  rw [List.drop_eq_getElem_cons hi, h]
  have e : l.drop (i + 1) = seg l (i + 1) l.length := by unfold seg; rw [List.take_length]
  rw [e]
  refine split_bad (by rw [trim_quote]; simp) ?_
  rw [trim_quote]
  unfold sizeV
  rw [(pre_34 _).1, if_pos rfl, (pre_34 _).2, cut_no 34 _ h2]
  rfl
theorem quote_form {l : List UInt8} {i k : Nat} (hi : i < k) (hk : k < l.length) (h : l[i]'(by omega) = 34) (hc : l[k] = 34) : seg l i (k + 1) = 34 :: (seg l (i + 1) k ++ [34]) := by
  rw [seg_cons (by omega) (by omega), seg_snoc (by omega) hk, h, hc]
theorem split_closed {l : List UInt8} {i k : Nat} (hi : i < k) (hk : k < l.length) (h : l[i]'(by omega) = 34) (hc : l[k] = 34) (h2 : 34 ∉ seg l (i + 1) k) (hr : l.length ≤ k + 1 ∨ ∃ h : k + 1 < l.length, l[k + 1] = 32) :
    splitV (l.drop i) = (splitV (l.drop (k + 1))).map (seg l i (k + 1) :: ·) := by
  rw [seg_drop (k := k + 1) (by omega) (by omega)]
  exact split_word (.inr ⟨_, quote_form hi hk h hc, h2⟩) (rest_of hr)
theorem split_glued {l : List UInt8} {i k : Nat} (hi : i < k) (hk : k + 1 < l.length) (h : l[i]'(by omega) = 34) (hc : l[k]'(by omega) = 34) (h2 : 34 ∉ seg l (i + 1) k) (hr : l[k + 1] ≠ 32) : splitV (l.drop i) = none := by
  rw [seg_drop (k := k + 1) (by omega) (by omega), quote_form hi (by omega) h hc, List.drop_eq_getElem_cons hk]
  generalize l.drop (k + 1 + 1) = r
  generalize l[k + 1] = c at *
  have e : 34 :: (seg l (i + 1) k ++ [34]) ++ c :: r = 34 :: (seg l (i + 1) k ++ 34 :: (c :: r)) := by simp
  rw [e]
  refine split_bad (by rw [trim_quote]; simp) ?_
  rw [trim_quote]
  unfold sizeV
  rw [(pre_34 _).1, if_pos rfl, (pre_34 _).2, cut_at 34 _ (c :: r) h2]
  have hp : Lib.hasPrefix (c :: r) [32] = false := by
    show ((32 : UInt8) == c && List.isPrefixOf [] r) = false
    rw [beq_eq_false_iff_ne.2 fun e => hr e.symm]; rfl
  simp only [hp]
  rfl
end Go.Proofs.YtbgccaconhmbaaaGreatDoor
namespace Go.Proofs.YtbgccaconhmbaaaGreatDoor
open Go.ChangeShapes Go.WideShapes Go.ChangeAt Go.RowKit Go.Deep
def SpltR (w : World) (R : Option (List Nm)) (e : Ending) (w' : World) : Prop :=
  Below w.heap.size w w' ∧ ((R = none ∧ e = .returned (.tuple #[.slice none 0 0, .int .i64 4])) ∨ ∃ ws u, R = some ws ∧ e = .returned (.tuple #[u, .int .i64 0]) ∧ w'.ownsRow w.heap.size 9 1 u ws.length (ws.map encStr))
theorem ext_seg (s : ByteArray) {l : List UInt8} (hl : s.data.toList = l) {i k : Nat} (_h1 : i ≤ k) (_h2 : k ≤ s.size) : s.extract i k = ⟨(seg l i k).toArray⟩ := by
  subst hl
  have h : (s.extract i k).data.toList = seg s.data.toList i k := by
    unfold seg
    rw [ByteArray.data_extract, Array.toList_extract, List.extract_eq_take_drop, List.drop_take]
  rw [← h]
theorem get_l (s : ByteArray) {l : List UInt8} (hl : s.data.toList = l) {i : Nat} (h : i < s.size) (h2 : i < l.length) : l[i] = s[i] := by
  subst hl
  rfl
theorem byte_is {c : UInt8} {n : Nat} (h : c = UInt8.ofNat n) (hn : n < 256) : ((c.toNat : Int) == (n : Int)) = true := by
  subst h
  simp
  omega
theorem byte_not {c : UInt8} {n : Nat} (h : c ≠ UInt8.ofNat n) : ((c.toNat : Int) == (n : Int)) = false := by
  rw [beq_eq_false_iff_ne]
  intro e
  apply h
  have : c.toNat = n := by omega
  rw [← this]; simp
set_option maxRecDepth 100000 in
set_option maxHeartbeats 4000000 in
theorem rsplit_any (s : ByteArray) (hs : s.size ≤ 1000000) (w : World) : Calls Tryz.prog 55 #[.string s] w (SpltR w (splitV s.data.toList)) := by
  obtain ⟨i0, hi, hz0, hz1, hz2⟩ := info_parts info_str
  obtain ⟨l, hl⟩ : ∃ l, s.data.toList = l := ⟨_, rfl⟩
  have hln : l.length = s.size := by rw [← hl]; exact (Lib.size_eq s).symm
  rw [hl]
  obtain ⟨R, hR0⟩ : ∃ R, splitV l = R := ⟨_, rfl⟩
  rw [hR0]
  have HR0 := Lib.hid hR0
  have HLN := Lib.hid hln
  have HLL := Lib.hid hl
  clear hR0 hln hl
  go_enter Tryz.func55, Tryz.ntmps55
  go_wp2
  go_loopw [4, 5, 6] (fun vo vi _ wr => ∃ (i : Nat) (out : List Nm), vi = .int .i64 i ∧ i ≤ s.size ∧ Hid (R = (splitV (l.drop i)).map (out ++ ·) ∧ out.length ≤ i) ∧ Hid (Below w.heap.size w wr) ∧ Hid (wr.ownsRow w.heap.size 9 1 vo out.length (out.map encStr))) (fun _ vi _ _ => s.size - (intOf vi).toNat)
  case atStart => exact ⟨0, [], rfl, Nat.zero_le _, Lib.hid ⟨by rw [List.drop_zero, HR0.out]; cases R <;> rfl, Nat.zero_le _⟩, Lib.hid (Below.refl _ _), Lib.hid (World.ownsRow_nil _ _ _ _)⟩
  case round =>
    obtain ⟨i, out, rfl, hi2, HX, HB, HO⟩ := hrel
    have hlo := HX.out.2
    have HM1 := Lib.hid (show out.length + 1 ≤ maxLen by unfold maxLen; omega)
    have HM2 := Lib.hid (show (out.length + 1) * 16 ≤ 140737488355328 by omega)
    by_cases hlt : i < s.size
    · have hil : i < l.length := by rw [HLN.out]; exact hlt
      have hgi := get_l s HLL.out hlt hil
      by_cases h32 : s[i] = 32
      · have HX2 : Hid (R = (splitV (l.drop (i + 1))).map (out ++ ·) ∧ out.length ≤ i + 1) := Lib.hid ⟨by rw [HX.out.1, split_skip hil (by rw [hgi]; exact h32)], by omega⟩
        have b1 := byte_is (n := 32) h32 (by decide)
        clear HX hgi
        go_wp2_with fail
        exact ⟨⟨i + 1, out, rfl, by omega, HX2, HB, HO⟩, by simp [intOf]; omega⟩
      · have b1 := byte_not (n := 32) h32
        have hR := HX.out.1
        clear HX
        by_cases h34 : s[i] = 34
        · have b2 := byte_is (n := 34) h34 (by decide)
          have hq : l[i] = 34 := by rw [hgi]; exact h34
          go_wp2_with fail
          go_loop [6] (fun vk => ∃ k : Nat, vk = .int .i64 k ∧ i + 1 ≤ k ∧ k ≤ s.size ∧ 34 ∉ seg l (i + 1) k) (fun vk => s.size - (intOf vk).toNat)
          case atStart => exact ⟨i + 1, rfl, Nat.le_refl _, by omega, by rw [seg_self]; simp⟩
          case round =>
            obtain ⟨k, rfl, hk1, hk2, hno⟩ := hrel
            have HNO := Lib.hid hno
            clear hno
            by_cases hk : k < s.size
            · have hkl : k < l.length := by rw [HLN.out]; exact hk
              have hgk := get_l s HLL.out hk hkl
              by_cases hc : s[k] = 34
              · have c1 := byte_is (n := 34) hc (by decide)
                have c2 : ((s[k].toNat : Int) != 34) = false := by simpa using c1
                have hlc : l[k] = 34 := by rw [hgk]; exact hc
                have n1 : ((k : Int) == (s.size : Int)) = false := by rw [beq_eq_false_iff_ne]; omega
                have n2 : (k == s.size) = false := by rw [beq_eq_false_iff_ne]; omega
                by_cases hk9 : k + 1 < s.size
                · have hk9l : k + 1 < l.length := by rw [HLN.out]; exact hk9
                  have hg9 := get_l s HLL.out hk9 hk9l
                  have hx9 : ((k : Int) + 1).toNat = k + 1 := by omega
                  by_cases hsp : s[k + 1] = 32
                  · have d1 := byte_is (n := 32) hsp (by decide)
                    have d2 : ((s[k + 1].toNat : Int) != 32) = false := by simpa using d1
                    have HX2 : Hid (R = (splitV (l.drop (k + 1))).map ((out ++ [seg l i (k + 1)]) ++ ·) ∧ (out ++ [seg l i (k + 1)]).length ≤ k + 1) := Lib.hid ⟨by rw [hR, split_closed (by omega) hkl hq hlc HNO.out (.inr ⟨hk9l, by rw [hg9]; exact hsp⟩), Option.map_map]; congr 1; funext x; simp, by rw [List.length_append, List.length_singleton]; omega⟩
                    have hex := ext_seg s (i := i) (k := k + 1) HLL.out (by omega) (by omega)
                    generalize seg l i (k + 1) = W at *
                    clear HNO hq hlc hR h34 h32 hc hsp
                    have q1 : (i : Int) ≤ (k : Int) + 1 := by omega
                    have q2 : (k : Int) + 1 ≤ (s.size : Int) := by omega
                    go_wp2_with fail
                    go_loop [6] (fun vk => vk = .int .i64 ((k : Int) + 1)) (fun _ => 0)
                    case atStart => rfl
                    case round =>
                      obtain rfl := hrel
                      go_wp2_with (at_builtin; refine wpList_append_own _ rfl (.tmp 68) (.tmp 73) 26 rfl w.heap.size 9 i0 (.string ⟨#[]⟩) 1 16 under_strs hi hz0 hz1 hz2 rfl (by decide) _ _ _ rfl (HO.out.alloc _) ⟨wr.heap.size, 0, none⟩ 1 1 [.string ⟨W.toArray⟩] rfl rfl (cell_nm_at _ _ _ rfl) (one_nm _) HM1.out HM2.out (by have := HB.out.size; simp; omega) ?_; intro v2 w2 hown' hgrow _; have HO2 := Lib.hid hown'; have HB2 := Lib.hid ((HB.out.alloc HB.out.size _).grown hgrow (HB.out.alloc HB.out.size _).size fun q hq => (HO.out.lt q hq).1); clear hown' hgrow)
                      go_roundw
                      case rel => exact ⟨k + 1, out ++ [W], by go_num, by omega, HX2, HB2, by rw [List.length_append, List.map_append]; exact HO2⟩
                      case measure => simp [intOf]; omega
                  · have d1 := byte_not (n := 32) hsp
                    have d2 : ((s[k + 1].toNat : Int) != 32) = true := by simpa using d1
                    have HN : Hid (R = none) := Lib.hid (by rw [hR, split_glued (by omega) hk9l hq hlc HNO.out (by rw [hg9]; exact hsp)]; rfl)
                    clear HNO hq hlc hR h34 h32 hc hsp
                    go_wp2_with fail
                    go_ret2
                    exact ⟨HB.out, .inl ⟨HN.out, rfl⟩⟩
                · have hke : k + 1 = s.size := by omega
                  have hx9 : ((k : Int) + 1).toNat = k + 1 := by omega
                  have HX2 : Hid (R = (splitV (l.drop (k + 1))).map ((out ++ [seg l i (k + 1)]) ++ ·) ∧ (out ++ [seg l i (k + 1)]).length ≤ k + 1) := Lib.hid ⟨by rw [hR, split_closed (by omega) hkl hq hlc HNO.out (.inl (by rw [HLN.out]; omega)), Option.map_map]; congr 1; funext x; simp, by rw [List.length_append, List.length_singleton]; omega⟩
                  have hex := ext_seg s (i := i) (k := k + 1) HLL.out (by omega) (by omega)
                  generalize seg l i (k + 1) = W at *
                  clear HNO hq hlc hR h34 h32 hc
                  have n5 : ¬ ((k : Int) + 1 < (s.size : Int)) := by omega
                  have n6 : ¬ (k + 1 < s.size) := by omega
                  have n7 : decide ((k : Int) + 1 < (s.size : Int)) = false := decide_eq_false n5
                  clear hke
                  have q1 : (i : Int) ≤ (k : Int) + 1 := by omega
                  have q2 : (k : Int) + 1 ≤ (s.size : Int) := by omega
                  go_wp2_with fail
                  go_loop [6] (fun vk => vk = .int .i64 ((k : Int) + 1)) (fun _ => 0)
                  case atStart => rfl
                  case round =>
                    obtain rfl := hrel
                    go_wp2_with (at_builtin; refine wpList_append_own _ rfl (.tmp 68) (.tmp 73) 26 rfl w.heap.size 9 i0 (.string ⟨#[]⟩) 1 16 under_strs hi hz0 hz1 hz2 rfl (by decide) _ _ _ rfl (HO.out.alloc _) ⟨wr.heap.size, 0, none⟩ 1 1 [.string ⟨W.toArray⟩] rfl rfl (cell_nm_at _ _ _ rfl) (one_nm _) HM1.out HM2.out (by have := HB.out.size; simp; omega) ?_; intro v2 w2 hown' hgrow _; have HO2 := Lib.hid hown'; have HB2 := Lib.hid ((HB.out.alloc HB.out.size _).grown hgrow (HB.out.alloc HB.out.size _).size fun q hq => (HO.out.lt q hq).1); clear hown' hgrow)
                    go_roundw
                    case rel => exact ⟨k + 1, out ++ [W], by go_num, by omega, HX2, HB2, by rw [List.length_append, List.map_append]; exact HO2⟩
                    case measure => simp [intOf]; omega
              · have c1 := byte_not (n := 34) hc
                have c2 : ((s[k].toNat : Int) != 34) = true := by simpa using c1
                have hno2 : 34 ∉ seg l (i + 1) (k + 1) := by
                  rw [seg_snoc (by omega) hkl, hgk]
                  intro h
                  rcases List.mem_append.1 h with h | h
                  · exact HNO.out h
                  · exact hc (List.mem_singleton.1 h).symm
                clear HNO hc hgk
                go_wp2_with fail
                exact ⟨⟨k + 1, rfl, by omega, by omega, hno2⟩, by simp [intOf]; omega⟩
            · obtain rfl : k = s.size := by omega
              have HN : Hid (R = none) := Lib.hid (by rw [hR, split_open hil hq (by rw [HLN.out]; exact HNO.out)]; rfl)
              clear HNO hq hR h34 h32
              go_wp2_with fail
              go_ret2
              exact ⟨HB.out, .inl ⟨HN.out, rfl⟩⟩
        · have b2 := byte_not (n := 34) h34
          go_wp2_with fail
          go_loop [6] (fun vk => ∃ k : Nat, vk = .int .i64 k ∧ i ≤ k ∧ k ≤ s.size ∧ 32 ∉ seg l i k ∧ 34 ∉ seg l i k) (fun vk => s.size - (intOf vk).toNat)
          case atStart => exact ⟨i, rfl, Nat.le_refl _, by omega, by rw [seg_self]; simp, by rw [seg_self]; simp⟩
          case round =>
            obtain ⟨k, rfl, hk1, hk2, hn1, hn2⟩ := hrel
            have HN1 := Lib.hid hn1
            have HN2 := Lib.hid hn2
            clear hn1 hn2
            by_cases hk : k < s.size
            · have hkl : k < l.length := by rw [HLN.out]; exact hk
              have hgk := get_l s HLL.out hk hkl
              by_cases hsp : s[k] = 32
              · have hki : i < k := by
                  rcases Nat.lt_or_ge i k with h | h
                  · exact h
                  · obtain rfl : i = k := by omega
                    exact absurd hsp h32
                have d1 := byte_is (n := 32) hsp (by decide)
                have d2 : ((s[k].toNat : Int) != 32) = false := by simpa using d1
                have HX2 : Hid (R = (splitV (l.drop (k))).map ((out ++ [seg l i (k)]) ++ ·) ∧ (out ++ [seg l i (k)]).length ≤ k) := Lib.hid ⟨by rw [hR, split_plain hki (by omega) HN1.out HN2.out (.inr ⟨hkl, by rw [hgk]; exact hsp⟩), Option.map_map]; congr 1; funext x; simp, by rw [List.length_append, List.length_singleton]; omega⟩
                have hex := ext_seg s (i := i) (k := k) HLL.out (by omega) (by omega)
                generalize seg l i (k) = W at *
                clear HN1 HN2 hR h34 h32 hsp hgk hgi
                go_wp2_with (at_builtin; refine wpList_append_own _ rfl (.tmp 68) (.tmp 73) 26 rfl w.heap.size 9 i0 (.string ⟨#[]⟩) 1 16 under_strs hi hz0 hz1 hz2 rfl (by decide) _ _ _ rfl (HO.out.alloc _) ⟨wr.heap.size, 0, none⟩ 1 1 [.string ⟨W.toArray⟩] rfl rfl (cell_nm_at _ _ _ rfl) (one_nm _) HM1.out HM2.out (by have := HB.out.size; simp; omega) ?_; intro v2 w2 hown' hgrow _; have HO2 := Lib.hid hown'; have HB2 := Lib.hid ((HB.out.alloc HB.out.size _).grown hgrow (HB.out.alloc HB.out.size _).size fun q hq => (HO.out.lt q hq).1); clear hown' hgrow)
                go_roundw
                case rel => exact ⟨k, out ++ [W], rfl, by omega, HX2, HB2, by rw [List.length_append, List.map_append]; exact HO2⟩
                case measure => simp [intOf]; omega
              · have d1 := byte_not (n := 32) hsp
                have d2 : ((s[k].toNat : Int) != 32) = true := by simpa using d1
                by_cases hqt : s[k] = 34
                · have hki : i < k := by
                    rcases Nat.lt_or_ge i k with h | h
                    · exact h
                    · obtain rfl : i = k := by omega
                      exact absurd hqt h34
                  have c1 := byte_is (n := 34) hqt (by decide)
                  have HN : Hid (R = none) := Lib.hid (by rw [hR, split_quote hki hkl HN1.out HN2.out (by rw [hgk]; exact hqt)]; rfl)
                  clear HN1 HN2 hR h34 h32 hsp hgk hgi hqt
                  go_wp2_with fail
                  go_ret2
                  exact ⟨HB.out, .inl ⟨HN.out, rfl⟩⟩
                · have c1 := byte_not (n := 34) hqt
                  have hn1 : 32 ∉ seg l i (k + 1) := by
                    rw [seg_snoc hk1 hkl, hgk]
                    intro h
                    rcases List.mem_append.1 h with h | h
                    · exact HN1.out h
                    · exact hsp (List.mem_singleton.1 h).symm
                  have hn2 : 34 ∉ seg l i (k + 1) := by
                    rw [seg_snoc hk1 hkl, hgk]
                    intro h
                    rcases List.mem_append.1 h with h | h
                    · exact HN2.out h
                    · exact hqt (List.mem_singleton.1 h).symm
                  clear HN1 HN2 hsp hqt hgk
                  go_wp2_with fail
                  exact ⟨⟨k + 1, rfl, by omega, by omega, hn1, hn2⟩, by simp [intOf]; omega⟩
            · obtain rfl : k = s.size := by omega
              have HX2 : Hid (R = (splitV (l.drop (s.size))).map ((out ++ [seg l i (s.size)]) ++ ·) ∧ (out ++ [seg l i (s.size)]).length ≤ s.size) := Lib.hid ⟨by rw [hR, split_plain hlt (by rw [HLN.out]; exact Nat.le_refl _) HN1.out HN2.out (.inl (by rw [HLN.out]; exact Nat.le_refl _)), Option.map_map]; congr 1; funext x; simp, by rw [List.length_append, List.length_singleton]; omega⟩
              have hex := ext_seg s (i := i) (k := s.size) HLL.out (by omega) (by omega)
              generalize seg l i (s.size) = W at *
              clear HN1 HN2 hR h34 h32 hgi
              go_wp2_with (at_builtin; refine wpList_append_own _ rfl (.tmp 68) (.tmp 73) 26 rfl w.heap.size 9 i0 (.string ⟨#[]⟩) 1 16 under_strs hi hz0 hz1 hz2 rfl (by decide) _ _ _ rfl (HO.out.alloc _) ⟨wr.heap.size, 0, none⟩ 1 1 [.string ⟨W.toArray⟩] rfl rfl (cell_nm_at _ _ _ rfl) (one_nm _) HM1.out HM2.out (by have := HB.out.size; simp; omega) ?_; intro v2 w2 hown' hgrow _; have HO2 := Lib.hid hown'; have HB2 := Lib.hid ((HB.out.alloc HB.out.size _).grown hgrow (HB.out.alloc HB.out.size _).size fun q hq => (HO.out.lt q hq).1); clear hown' hgrow)
              go_roundw
              case rel => exact ⟨s.size, out ++ [W], rfl, by omega, HX2, HB2, by rw [List.length_append, List.map_append]; exact HO2⟩
              case measure => simp [intOf]; omega
    · obtain rfl : i = s.size := by omega
      have hR : R = some out := by
        rw [HX.out.1, List.drop_of_length_le (by rw [HLN.out]; exact Nat.le_refl _)]
        show Option.map _ (some []) = _
        simp
      have HRR := Lib.hid hR
      clear HX hR
      go_wp2_with fail
      go_ret2
      exact ⟨HB.out, .inr ⟨out, _, HRR.out, rfl, HO.out⟩⟩
end Go.Proofs.YtbgccaconhmbaaaGreatDoor
