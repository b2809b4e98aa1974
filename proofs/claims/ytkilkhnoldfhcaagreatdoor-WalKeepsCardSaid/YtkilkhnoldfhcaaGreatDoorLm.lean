/- wal and raceref7 read the same number out of a name: that of the segment whose name it is. Conditions: none of its own. -/
import Derived.Test.YtkilkhnoldfhcaaGreatDoorLk
import Derived.Lib.AtoiTie
namespace Go.Proofs.YtkilkhnoldfhcaaGreatDoor
open Go.RowKit
theorem dig_mk {r : Nat} (h : r < 10) : isDig (UInt8.ofNat (48 + r)) = true ∧ (UInt8.ofNat (48 + r)).toNat = 48 + r := by
  have e : (UInt8.ofNat (48 + r)).toNat = 48 + r := by rw [UInt8.toNat_ofNat']; omega
  exact ⟨by unfold isDig; rw [e]; simp; omega, e⟩
theorem digits_dig (u : Nat) : (Lib.decDigits u).all isDig = true ∧ dv (Lib.decDigits u) = u := by
  induction u using Nat.strongRecOn with
  | ind u ih =>
    rw [Lib.decDigits]
    by_cases h : u < 10
    · rw [dif_pos h]
      obtain ⟨h1, h2⟩ := dig_mk h
      refine ⟨by simpa using h1, ?_⟩
      show 10 * 0 + ((UInt8.ofNat (48 + u)).toNat - 48) = u
      rw [h2]; omega
    · rw [dif_neg h]
      obtain ⟨h1, h2⟩ := ih (u / 10) (by omega)
      obtain ⟨h3, h4⟩ := dig_mk (r := u % 10) (by omega)
      refine ⟨by rw [List.all_append, h1]; simpa using h3, ?_⟩
      rw [dv_snoc, h2, h4]
      omega
theorem zeros_dig (l : Nm) : ∀ k, dv (Lib.repeatL [48] k ++ l) = dv l ∧ (l.all isDig = true → (Lib.repeatL [48] k ++ l).all isDig = true)
  | 0 => ⟨rfl, fun h => h⟩
  | k + 1 => by
    obtain ⟨h1, h2⟩ := zeros_dig l k
    refine ⟨?_, fun h => ?_⟩
    · rw [← h1]; rfl
    · show (isDig 48 && (Lib.repeatL [48] k ++ l).all isDig) = true
      rw [h2 h]; rfl
theorem num8_dig (n : Nat) : (num8 n).all isDig = true ∧ dv (num8 n) = n := by
  obtain ⟨h1, h2⟩ := digits_dig n
  obtain ⟨h3, h4⟩ := zeros_dig (Lib.decDigits n) (8 - (Lib.decDigits n).length)
  exact ⟨h4 h1, h3.trans h2⟩
/-- Digits of one length that spell one number are the same. -/
theorem dv_inj : ∀ (k : Nat) (l m : Nm), l.length = k → m.length = k → l.all isDig = true → m.all isDig = true → dv l = dv m → l = m
  | 0, l, m, h, h2, _, _, _ => by rw [List.length_eq_zero_iff.1 h, List.length_eq_zero_iff.1 h2]
  | k + 1, l, m, h, h2, h3, h4, h5 => by
    obtain ⟨l, c, rfl⟩ : ∃ x c, l = x ++ [c] := ⟨l.dropLast, l.getLast (by rintro rfl; simp at h), (List.dropLast_concat_getLast _).symm⟩
    obtain ⟨m, d, rfl⟩ : ∃ x c, m = x ++ [c] := ⟨m.dropLast, m.getLast (by rintro rfl; simp at h2), (List.dropLast_concat_getLast _).symm⟩
    rw [List.all_append, Bool.and_eq_true] at h3 h4
    have hc := isDig_le (c := c) (by simpa using h3.2)
    have hd := isDig_le (c := d) (by simpa using h4.2)
    rw [dv_snoc, dv_snoc] at h5
    have e1 := dv_inj k l m (by simpa using h) (by simpa using h2) h3.1 h4.1 (by omega)
    have e2 : c = d := UInt8.toNat_inj.1 (by omega)
    rw [e1, e2]
theorem decFrom_dv : ∀ (l : Nm) (acc : Nat), l.all isDig = true → Lib.decFrom acc l = some (l.foldl (fun n c => 10 * n + (c.toNat - 48)) acc)
  | [], _, _ => rfl
  | c :: l, acc, h => by
    rw [List.all_cons, Bool.and_eq_true] at h
    have hc := isDig_le h.1
    unfold Lib.decFrom Lib.digitVal
    rw [if_pos hc]
    show Lib.decFrom (acc * 10 + (c.toNat - 48)) l = _
    rw [decFrom_dv l _ h.2, Nat.mul_comm acc 10]
    rfl
theorem atoi_dig {l : Nm} (h : l.all isDig = true) (h0 : l ≠ []) (h8 : l.length ≤ 18) : Lib.atoiAll l = .ok (dv l : Int) := by
  rw [Lib.atoiAll_short l h8]
  cases l with
  | nil => exact absurd rfl h0
  | cons c r =>
    have hc := isDig_le (c := c) (by rw [List.all_cons, Bool.and_eq_true] at h; exact h.1)
    have h45 : (c == 45) = false := by
      cases e : c == 45 with
      | false => rfl
      | true => have := eq_of_beq e; subst this; exact absurd hc (by decide)
    have h43 : (c == 43) = false := by
      cases e : c == 43 with
      | false => rfl
      | true => have := eq_of_beq e; subst this; exact absurd hc (by decide)
    unfold Lib.atoi Lib.decNat
    have e := decFrom_dv (c :: r) 0 h
    simp only [h45, h43, List.isEmpty_cons, Bool.false_eq_true, if_false]
    rw [e]
    rfl
theorem seg_pre (dir : Nm) (n : Nat) : segN dir n = (dir ++ [46]) ++ num8 n := by unfold segN; simp
theorem seg_drop (dir : Nm) (n : Nat) : (segN dir n).drop (dir.length + 1) = num8 n := by
  have e : dir.length + 1 = (dir ++ [46]).length := by simp
  rw [seg_pre, e, List.drop_left]
theorem seg_take (dir : Nm) (n : Nat) : (segN dir n).take (dir.length + 1) = dir ++ [46] := by
  have e : dir.length + 1 = (dir ++ [46]).length := by simp
  rw [seg_pre, e, List.take_left]
theorem numR_seg (dir : Nm) {n : Nat} (h : n ≤ 99999999) : numR dir (segN dir n) = n := by
  unfold numR
  rw [seg_drop, seg_take, if_pos ⟨segN_length h, rfl, (num8_dig n).1⟩]
  exact (num8_dig n).2
theorem numR_pos {dir name : Nm} (h : 0 < numR dir name) : name = segN dir (numR dir name) ∧ numR dir name ≤ 99999999 := by
  have h9 := h
  unfold numR at h9
  split at h9
  · rename_i hc
    obtain ⟨hl, ht, hd⟩ := hc
    have e : numR dir name = dv (name.drop (dir.length + 1)) := by unfold numR; rw [if_pos ⟨hl, ht, hd⟩]
    have h8 : (name.drop (dir.length + 1)).length = 8 := by rw [List.length_drop, hl]; omega
    have hlt := dv_lt 8 _ h8 hd
    have hle : dv (name.drop (dir.length + 1)) ≤ 99999999 := by have : (10 : Nat) ^ 8 = 100000000 := by decide
                                                                omega
    rw [e]
    refine ⟨?_, hle⟩
    have hD := dv_inj 8 _ _ h8 (num8_length hle) hd (num8_dig _).1 (num8_dig _).2.symm
    rw [seg_pre, ← ht, ← hD, List.take_append_drop]
  · omega
theorem numA_seg {dir : Nm} (h0 : dir ≠ []) (h11 : dir.length ≤ 11) {n : Nat} (h1 : 1 ≤ n) (h : n ≤ 99999999) : numA dir (segN dir n) = ((n : Int), true) := by
  have hp : Lib.hasPrefix (segN dir n) (dir ++ [46]) = true := by
    unfold Lib.hasPrefix
    rw [seg_pre]
    exact List.isPrefixOf_iff_prefix.2 (List.prefix_append _ _)
  have ht : Lib.trimPrefix (segN dir n) (dir ++ [46]) = num8 n := by
    unfold Lib.trimPrefix
    rw [if_pos hp]
    have e : (dir ++ [46]).length = dir.length + 1 := by simp
    rw [e, seg_drop]
  have h8 := num8_length h
  have ha : Lib.atoiAll (num8 n) = .ok (n : Int) := by
    have := atoi_dig (num8_dig n).1 (by intro e; rw [e] at h8; cases h8) (by omega)
    rw [(num8_dig n).2] at this
    exact this
  rw [numA_ok hp (by rw [ht]; exact ha), if_pos]
  unfold nameV
  rw [if_neg (by rintro (e | e); exact h0 e; omega), if_neg (by omega)]
  rfl
theorem numA_true {dir name : Nm} {v : Int} (h : numA dir name = (v, true)) : ∃ n : Nat, v = n ∧ name = segN dir n ∧ 1 ≤ n ∧ n ≤ 99999999 := by
  unfold numA at h
  split at h
  · split at h
    · rename_i u hu
      split at h
      · rename_i hn
        cases h
        unfold nameV at hn
        split at hn
        · cases hn
        · split at hn
          · cases hn
          · exact ⟨v.toNat, by omega, (congrArg Prod.fst hn).symm, by omega, by omega⟩
      · cases h
    · cases h
  · cases h
/-- Both read the same. -/
theorem num_both {dir : Nm} (h0 : dir ≠ []) (h11 : dir.length ≤ 11) (name : Nm) : numA dir name = if 0 < numR dir name then ((numR dir name : Int), true) else (0, false) := by
  by_cases h : 0 < numR dir name
  · rw [if_pos h]
    obtain ⟨h1, h2⟩ := numR_pos h
    have e := numA_seg h0 h11 (n := numR dir name) h h2
    rw [← h1] at e
    exact e
  · rw [if_neg h]
    cases e : numA dir name with
    | mk v b =>
      cases b with
      | false =>
        unfold numA at e
        split at e
        · split at e
          · split at e
            · cases e
            · exact e.symm
          · exact e.symm
        · exact e.symm
      | true =>
        obtain ⟨n, _, h2, h3, h4⟩ := numA_true e
        exact absurd (by rw [h2, numR_seg dir h4]; exact h3) h
end Go.Proofs.YtkilkhnoldfhcaaGreatDoor
