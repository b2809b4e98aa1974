/- What was written is read again: reads of items in plain terms. No program is named. Conditions: texts of at most 20000 bytes where that is said. -/
import Derived.Test.YtioopibmpcbcjaaI
import Derived.Test.YtioopibmpcbcjaaR7
namespace Go.Proofs.Ytioopibmpcbcjaa
/-- The bytes of items. -/
def flat (xs : List It) : List UInt8 := xs.flatMap itB
theorem flat_cons (t : It) (r : List It) : flat (t :: r) = itB t ++ flat r := rfl
theorem take_succ_it {xs : List It} {k : Nat} (h : k < xs.length) : xs.take (k + 1) = xs.take k ++ [xs.getD k default] := by
  rw [List.take_add_one, List.getD_eq_getElem?_getD, List.getElem?_eq_getElem h]; rfl
theorem flat_take {xs : List It} {k : Nat} (h : k < xs.length) : flat (xs.take (k + 1)) = flat (xs.take k) ++ itB (xs.getD k default) := by
  rw [take_succ_it h]
  unfold flat
  rw [List.flatMap_append]
  simp
theorem drop_it {xs : List It} {k : Nat} (h : k < xs.length) : xs.drop k = xs.getD k default :: xs.drop (k + 1) := by
  rw [List.drop_eq_getElem_cons h, List.getD_eq_getElem?_getD, List.getElem?_eq_getElem h]; rfl
theorem few_texts {xs : List It} (h : wei xs ≤ 20000) : ∀ t ∈ xs, t.s.length ≤ 20000 := by
  induction xs with
  | nil => intro t ht; cases ht
  | cons u r ih =>
    have e : wei (u :: r) = min u.s.length 20001 + wei r := rfl
    intro t ht
    rcases List.mem_cons.1 ht with rfl | ht
    · omega
    · exact ih (by omega) t ht
theorem flat_len {xs : List It} (h : wei xs ≤ 20000) (hwf : ∀ t ∈ xs, t.wf) : (flat xs).length ≤ xs.length * 10 + wei xs := by
  induction xs with
  | nil => simp [flat, wei]
  | cons u r ih =>
    have e : wei (u :: r) = min u.s.length 20001 + wei r := rfl
    have hu := few_texts h u (List.mem_cons_self)
    have h1 := itB_le (hwf u (List.mem_cons_self)) (by omega)
    have h2 := ih (by omega) (fun t ht => hwf t (List.mem_cons_of_mem _ ht))
    rw [flat_cons, List.length_append, List.length_cons, e]
    omega
theorem flat_take_le (xs : List It) (k : Nat) : (flat (xs.take k)).length ≤ (flat xs).length := by
  have e : flat xs = flat (xs.take k) ++ flat (xs.drop k) := by
    unfold flat; rw [← List.flatMap_append, List.take_append_drop]
  rw [e, List.length_append]; omega
theorem few_yes {xs : List It} (h : fewB xs = true) : xs.length ≤ 400 ∧ wei xs ≤ 20000 := by
  unfold fewB at h
  simp only [Bool.and_eq_true, decide_eq_true_eq] at h
  obtain ⟨h1, h2⟩ := h
  rw [List.take_of_length_le h1] at h2
  exact ⟨h1, h2⟩
theorem few_flat {xs : List It} (h : fewB xs = true) (hwf : ∀ t ∈ xs, t.wf) : (flat xs).length ≤ 24000 := by
  obtain ⟨h1, h2⟩ := few_yes h
  have := flat_len h2 hwf
  omega
theorem few_text {xs : List It} (h : fewB xs = true) {t : It} (ht : t ∈ xs) : t.s.length ≤ 20000 := few_texts (few_yes h).2 t ht

/-- A read of an item: the state behind it; is it the item? -/
def stI (t : It) (s : Rst) : Rst :=
  if t.k = 0 then (rInt s).2 else if t.k = 1 then (rFlag s).2 else if t.k = 2 then (rFloat s).2 else if t.k = 3 then (rText 20000 s).2 else s
def okI (t : It) (s : Rst) : Bool :=
  if t.k = 0 then (rInt s).1 == t.n else if t.k = 1 then (rFlag s).1 == t.b else if t.k = 2 then (rFloat s).1 == canon t.x else if t.k = 3 then (rText 20000 s).1 == t.s else true
def goes : List It → Rst → Bool × Rst
  | [], s => (true, s)
  | t :: r, s => if okI t s = true then goes r (stI t s) else (false, stI t s)

theorem rInt_ok {s : Rst} {u : Nat} {C : List UInt8} (he : s.er = 0) (hd : s.bs.drop s.pl = vb u ++ C) (hu : u < 18446744073709551616) :
    rInt s = (unf u, { s with pl := s.pl + (vb u).length }) ∧ look s = ((unf u, (vb u).length), s) := by
  have hg : grp (s.bs.drop s.pl) = (vb u).length := by rw [hd, grp_vb]
  have hrow : rowAt s = vb u := by unfold rowAt; rw [hg, hd, List.take_left]
  have hl : look s = ((unf u, (vb u).length), s) := by
    rw [look_ok he (by rw [hg]; have := vb_pos u; omega) (by rw [hrow]; exact ⟨by rw [val_vb], by rw [val_vb]; exact hu⟩), hrow, val_vb, hg]
  refine ⟨?_, hl⟩
  unfold rInt
  rw [hl]
  unfold number
  simp only
  rw [if_neg (by simp [he])]
theorem le_w8 : ∀ k u, u < 256 ^ k → le (w8 k u) = u
  | 0, u, h => by simp [w8, le]; omega
  | k + 1, u, h => by
    have h1 : u / 256 < 256 ^ k := by rw [Nat.pow_succ] at h; omega
    simp only [w8, le, ofNat_toNat (show u % 256 < 256 by omega), le_w8 k _ h1]
    omega
theorem w8_le : ∀ l : List UInt8, w8 l.length (le l) = l
  | [] => rfl
  | x :: r => by
    have := byte_lt x
    have e1 : (x.toNat + 256 * le r) % 256 = x.toNat := by omega
    have e2 : (x.toNat + 256 * le r) / 256 = le r := by omega
    simp only [List.length_cons, w8, le, e1, e2, ofNat_self, w8_le r]
/-- WHAT WAS WRITTEN IS READ. -/
theorem back_one {s : Rst} {t : It} {C : List UInt8} (hwf : t.wf) (hs : t.s.length ≤ 20000) (he : s.er = 0) (hd : s.bs.drop s.pl = itB t ++ C) (hle : s.pl ≤ s.bs.length) :
    okI t s = true ∧ stI t s = { s with pl := s.pl + (itB t).length } := by
  obtain ⟨⟨_, _⟩, ⟨n1, n2⟩, hx, _⟩ := hwf
  have hlen := congrArg List.length hd
  rw [List.length_drop, List.length_append] at hlen
  unfold okI stI
  by_cases h0 : t.k = 0
  · have hit : itB t = vb (foldN t.n) := by unfold itB; rw [if_pos h0]
    rw [hit] at hd ⊢
    obtain ⟨h1, _⟩ := rInt_ok he hd (foldN_lt n1 n2)
    rw [if_pos h0, if_pos h0, h1, unf_foldN]
    simp
  by_cases h1 : t.k = 1
  · have hit : itB t = [bif t.b then 1 else 0] := by unfold itB; rw [if_neg h0, if_pos h1]
    rw [hit] at hd hlen ⊢
    simp at hlen
    have hget : s.bs.getD s.pl 0 = bif t.b then 1 else 0 := by
      have := getD_drop s.bs s.pl 0
      rw [Nat.add_zero] at this
      rw [← this, hd]; rfl
    have hR : rFlag s = (t.b, { s with pl := s.pl + 1 }) := by
      unfold rFlag
      rw [if_neg (by simp [he]), if_neg (by omega), hget]
      cases t.b <;> rfl
    rw [if_neg h0, if_neg h0, if_pos h1, if_pos h1, hR]
    simp
  by_cases h2 : t.k = 2
  · have hit : itB t = w8 8 (canon t.x) := by unfold itB; rw [if_neg h0, if_neg h1, if_pos h2]
    rw [hit] at hd hlen ⊢
    rw [w8_length] at hlen
    have hle8 : leAt s = canon t.x := by
      unfold leAt
      rw [hd, List.take_left' (by rw [w8_length])]
      exact le_w8 8 _ (by have := canon_lt hx; omega)
    have hR : rFloat s = (canon t.x, { s with pl := s.pl + 8 }) := by
      unfold rFloat
      rw [if_neg (by simp [he]), if_neg (by omega), hle8, if_neg (by rw [canon_canon]; simp)]
    rw [if_neg h0, if_neg h0, if_neg h1, if_neg h1, if_pos h2, if_pos h2, hR, w8_length]
    simp
  by_cases h3 : t.k = 3
  · have hit : itB t = vb (foldN (t.s.length : Int)) ++ t.s := by unfold itB; rw [if_neg h0, if_neg h1, if_neg h2, if_pos h3]
    rw [hit] at hd hlen ⊢
    rw [List.length_append] at hlen ⊢
    obtain ⟨_, hl⟩ := rInt_ok (u := foldN (t.s.length : Int)) (C := t.s ++ C) he (by rw [hd, List.append_assoc]) (foldN_lt (by omega) (by omega))
    rw [unf_foldN] at hl
    have hR : rText 20000 s = (t.s, { s with pl := s.pl + ((vb (foldN (t.s.length : Int))).length + t.s.length) }) := by
      unfold rText
      rw [hl]
      simp only
      rw [if_neg (by simp [he]), if_neg (by omega), if_neg (by omega), if_neg (by omega), Int.toNat_natCast, ← List.drop_drop, hd, List.append_assoc, List.drop_left, List.take_left, Nat.add_assoc]
    rw [if_neg h0, if_neg h0, if_neg h1, if_neg h1, if_neg h2, if_neg h2, if_pos h3, if_pos h3, hR]
    simp
  · have hit : itB t = [] := by unfold itB; rw [if_neg h0, if_neg h1, if_neg h2, if_neg h3]
    rw [hit, if_neg h0, if_neg h0, if_neg h1, if_neg h1, if_neg h2, if_neg h2, if_neg h3, if_neg h3]
    simp
theorem back_all : ∀ (xs : List It) (s : Rst), (∀ t ∈ xs, t.wf ∧ t.s.length ≤ 20000) → s.er = 0 → s.bs.drop s.pl = flat xs → s.pl ≤ s.bs.length → goes xs s = (true, { s with pl := s.bs.length })
  | [], s, _, he, hd, hle => by
    have := congrArg List.length hd
    simp [flat] at this
    have e : s.pl = s.bs.length := by omega
    unfold goes
    rw [← e]
  | t :: r, s, hw, he, hd, hle => by
    obtain ⟨w1, w2⟩ := hw t List.mem_cons_self
    rw [flat_cons] at hd
    obtain ⟨h1, h2⟩ := back_one w1 w2 he hd hle
    have hlen := congrArg List.length hd
    rw [List.length_drop, List.length_append] at hlen
    unfold goes
    rw [if_pos h1, h2]
    exact back_all r { s with pl := s.pl + (itB t).length } (fun u hu => hw u (List.mem_cons_of_mem _ hu)) he (by simp only; rw [← List.drop_drop, hd, List.drop_left]) (by simp only; omega)
/-- WHAT IS CUT OFF HAS A FAULT. -/
theorem cut_vb (u : Nat) : ∀ (P C : List UInt8), vb u = P ++ C → C ≠ [] → grp P = 0 := by
  refine vb_ind (p := fun u => ∀ (P C : List UInt8), vb u = P ++ C → C ≠ [] → grp P = 0) (fun u h P C e hC => ?_) (fun u h ih P C e hC => ?_) u
  · rw [vb_lo h] at e
    match P, e with
    | [], _ => rfl
    | x :: r, e =>
      simp at e
      exact absurd e.2.2 hC
  · rw [vb_hi h] at e
    match P, e with
    | [], _ => rfl
    | x :: r, e =>
      simp only [List.cons_append, List.cons.injEq] at e
      obtain ⟨rfl, e2⟩ := e
      have := ih r C e2 hC
      simp only [grp, this, ofNat_toNat (show u % 128 + 128 < 256 by omega)]
      rw [if_neg (by omega)]; simp
theorem cut_one {s : Rst} {t : It} {C : List UInt8} (hwf : t.wf) (hs : t.s.length ≤ 20000) (he : s.er = 0) (hd : itB t = s.bs.drop s.pl ++ C) (hC : C ≠ []) (hle : s.pl ≤ s.bs.length) : (stI t s).er = 5 := by
  obtain ⟨⟨_, _⟩, ⟨n1, n2⟩, hx, _⟩ := hwf
  have hCl := List.length_pos_iff.2 hC
  have hlen := congrArg List.length hd
  rw [List.length_append, List.length_drop] at hlen
  have hshort : ∀ {u : Nat} {D : List UInt8}, vb u = s.bs.drop s.pl ++ D → D ≠ [] → look s = ((0, 0), stopR 5 s.bs.length s) := fun e hD => look_short he (cut_vb _ _ _ e hD)
  have h5 : (stopR 5 s.bs.length s).er = 5 := by rw [stop_if he]
  unfold stI
  by_cases h0 : t.k = 0
  · have hit : itB t = vb (foldN t.n) := by unfold itB; rw [if_pos h0]
    rw [hit] at hd
    rw [if_pos h0]
    unfold rInt
    rw [hshort hd hC]
    unfold number
    simp only
    rw [if_pos (by rw [h5]; decide)]
    exact h5
  by_cases h1 : t.k = 1
  · have hit : itB t = [bif t.b then 1 else 0] := by unfold itB; rw [if_neg h0, if_pos h1]
    rw [hit] at hlen
    simp at hlen
    rw [if_neg h0, if_pos h1]
    unfold rFlag
    rw [if_neg (by simp [he]), if_pos (by omega)]
    exact h5
  by_cases h2 : t.k = 2
  · have hit : itB t = w8 8 (canon t.x) := by unfold itB; rw [if_neg h0, if_neg h1, if_pos h2]
    rw [hit, w8_length] at hlen
    rw [if_neg h0, if_neg h1, if_pos h2]
    unfold rFloat
    rw [if_neg (by simp [he]), if_pos (by omega)]
    exact h5
  by_cases h3 : t.k = 3
  · have hit : itB t = vb (foldN (t.s.length : Int)) ++ t.s := by unfold itB; rw [if_neg h0, if_neg h1, if_neg h2, if_pos h3]
    rw [hit] at hd hlen
    rw [List.length_append] at hlen
    rw [if_neg h0, if_neg h1, if_neg h2, if_pos h3]
    unfold rText
    by_cases hc : s.bs.length - s.pl < (vb (foldN (t.s.length : Int))).length
    · have e : ∃ D, vb (foldN (t.s.length : Int)) = s.bs.drop s.pl ++ D ∧ D ≠ [] := by
        refine ⟨(vb (foldN (t.s.length : Int))).drop (s.bs.drop s.pl).length, ?_, fun e => ?_⟩
        · have h6 := congrArg (List.take (s.bs.drop s.pl).length) hd
          rw [List.take_left, List.take_append_of_le_length (by rw [List.length_drop]; omega)] at h6
          rw [← h6, List.length_take, Nat.min_eq_left (by rw [List.length_drop]; omega), List.take_append_drop]
        · have := congrArg List.length e
          rw [List.length_drop, List.length_drop] at this
          simp at this
          omega
      obtain ⟨D, e1, e2⟩ := e
      rw [hshort e1 e2]
      simp only
      rw [if_pos (by rw [h5]; decide)]
      exact h5
    · have e : s.bs.drop s.pl = vb (foldN (t.s.length : Int)) ++ (s.bs.drop s.pl).drop (vb (foldN (t.s.length : Int))).length := by
        have h6 := congrArg (List.take (vb (foldN (t.s.length : Int))).length) hd
        rw [List.take_left, List.take_append_of_le_length (by rw [List.length_drop]; omega)] at h6
        conv => lhs; rw [← List.take_append_drop (vb (foldN (t.s.length : Int))).length (s.bs.drop s.pl)]
        rw [← h6]
      obtain ⟨_, hl⟩ := rInt_ok he e (foldN_lt (n := (t.s.length : Int)) (by omega) (by omega))
      rw [unf_foldN] at hl
      rw [hl]
      simp only
      rw [if_neg (by simp [he]), if_neg (by omega), if_neg (by omega), if_pos (by omega)]
      exact h5
  · have hit : itB t = [] := by unfold itB; rw [if_neg h0, if_neg h1, if_neg h2, if_neg h3]
    rw [hit] at hlen
    simp at hlen
    omega
theorem look_stays {s : Rst} (h : s.er ≠ 0) : look s = ((0, 0), s) := look_err h
theorem dead_one {s : Rst} (t : It) (h : s.er ≠ 0) : stI t s = s := by
  unfold stI rInt rFlag rFloat rText
  rw [look_err h]
  unfold number
  simp only
  rw [if_pos h, if_pos h, if_pos h]
  repeat' split
  all_goals rfl
theorem dead_all : ∀ (xs : List It) (s : Rst), s.er ≠ 0 → (goes xs s).2 = s
  | [], s, _ => rfl
  | t :: r, s, h => by
    unfold goes
    rw [dead_one t h]
    split
    · exact dead_all r s h
    · rfl
theorem cut_all : ∀ (xs : List It) (s : Rst) (C : List UInt8), (∀ t ∈ xs, t.wf ∧ t.s.length ≤ 20000) → s.er = 0 → flat xs = s.bs.drop s.pl ++ C → C ≠ [] → s.pl ≤ s.bs.length → (goes xs s).2.er = 5
  | [], s, C, _, _, hd, hC, _ => by
    simp [flat] at hd
    exact absurd hd.2 hC
  | t :: r, s, C, hw, he, hd, hC, hle => by
    obtain ⟨w1, w2⟩ := hw t List.mem_cons_self
    rw [flat_cons] at hd
    have hlen := congrArg List.length hd
    rw [List.length_append, List.length_append, List.length_drop] at hlen
    by_cases hc : s.bs.length - s.pl < (itB t).length
    · have e1 : itB t = s.bs.drop s.pl ++ (itB t).drop (s.bs.drop s.pl).length := by
        have h6 := congrArg (List.take (s.bs.drop s.pl).length) hd
        rw [List.take_left, List.take_append_of_le_length (by rw [List.length_drop]; omega)] at h6
        conv => lhs; rw [← List.take_append_drop (s.bs.drop s.pl).length (itB t)]
        rw [h6]
      have h5 := cut_one w1 w2 he e1 (fun e => by have := congrArg List.length e; rw [List.length_drop, List.length_drop] at this; simp at this; omega) hle
      unfold goes
      split
      · rw [dead_all r _ (by rw [h5]; decide)]; exact h5
      · exact h5
    · have e : s.bs.drop s.pl = itB t ++ (s.bs.drop s.pl).drop (itB t).length := by
        have h6 := congrArg (List.take (itB t).length) hd
        rw [List.take_left, List.take_append_of_le_length (by rw [List.length_drop]; omega)] at h6
        conv => lhs; rw [← List.take_append_drop (itB t).length (s.bs.drop s.pl)]
        rw [← h6]
      obtain ⟨h1, h2⟩ := back_one w1 w2 he e hle
      unfold goes
      rw [if_pos h1, h2]
      refine cut_all r _ C (fun u hu => hw u (List.mem_cons_of_mem _ hu)) he ?_ hC (by simp only; omega)
      simp only
      rw [← List.drop_drop]
      have h7 := congrArg (List.drop (itB t).length) hd
      rw [List.drop_left, List.drop_append_of_le_length (by rw [List.length_drop]; omega)] at h7
      exact h7
end Go.Proofs.Ytioopibmpcbcjaa
