/- What the document asks of a frame, in its order, and the record with which bytes begin. Conditions: none. -/
import Derived.Test.YtcpncmdnefemmaaP
namespace Go.Proofs.Ytcpncmdnefemmaa
theorem four_iff {l : List UInt8} {N : Nat} (h : l.length = 4) (hN : N < 4294967296) : le l = N ↔ four N = l :=
  ⟨fun e => by rw [← e, four_le h], fun e => by rw [← e, le_four hN]⟩
theorem sum_no {b : List UInt8} {n : Nat} (hl : n + 4 ≤ b.length) (h : four (crc (b.take n)) ≠ (b.drop n).take 4) : sumB b n = false := by
  unfold sumB
  rw [Bool.and_eq_false_iff]
  right
  rw [beq_eq_false_iff_ne]
  intro e
  exact h ((four_iff (by rw [List.length_take, List.length_drop]; omega) (crc_lt _)).1 e)
theorem sum_ok {b : List UInt8} {n : Nat} (hl : n + 4 ≤ b.length) (h : four (crc (b.take n)) = (b.drop n).take 4) : sumB b n = true := by
  unfold sumB
  rw [Bool.and_eq_true, decide_eq_true_eq, beq_iff_eq]
  exact ⟨hl, (four_iff (by rw [List.length_take, List.length_drop]; omega) (crc_lt _)).2 h⟩
section
variable {c : List UInt8}
theorem ref_big (h : 262144 < le (c.take 4)) : firstV c = none := by
  unfold firstV
  split
  · rfl
  · rfl
theorem ref_head (hl : 12 ≤ c.length) (h : four (crc (c.take 4)) ≠ (c.drop 4).take 4) : firstV c = none := by
  unfold firstV
  rw [sum_no (by omega) h]
  rfl
theorem ref_short (hl : 12 ≤ c.length) (h : c.length - 12 < le (c.take 4)) : firstV c = none := by
  cases e : firstV c with
  | none => rfl
  | some p =>
    exfalso
    have h1 := first_len e
    obtain ⟨h2, h3⟩ := first_some e
    have h4 := congrArg (List.take 4) h3
    rw [take4_frame] at h4
    rw [h4, le_four (by omega)] at h
    omega
theorem ref_body (hl : 12 ≤ c.length) (hs : le (c.take 4) ≤ c.length - 12) (h : four (crc ((c.drop 8).take (le (c.take 4)))) ≠ ((c.drop 8).drop (le (c.take 4))).take 4) : firstV c = none := by
  unfold firstV
  rw [sum_no (b := c.drop 8) (by rw [List.length_drop]; omega) h]
  split
  · split <;> rfl
  · rfl
theorem ref_yes (hl : 12 ≤ c.length) (hb : le (c.take 4) ≤ 262144) (h1 : four (crc (c.take 4)) = (c.drop 4).take 4) (hs : le (c.take 4) ≤ c.length - 12) (h2 : four (crc ((c.drop 8).take (le (c.take 4)))) = ((c.drop 8).drop (le (c.take 4))).take 4) : firstV c = some ((c.drop 8).take (le (c.take 4))) := by
  unfold firstV
  rw [sum_ok (by omega) h1, sum_ok (b := c.drop 8) (by rw [List.length_drop]; omega) h2, if_pos rfl, if_neg (by omega), if_pos rfl]
theorem le_take4 (hl : 4 ≤ c.length) : le (c.take 4) = (c.getD 0 0).toNat + (c.getD 1 0).toNat * 256 + (c.getD 2 0).toNat * 65536 + (c.getD 3 0).toNat * 16777216 := by
  match c, hl with
  | a :: b :: d :: e :: r, _ =>
    show a.toNat + 256 * (b.toNat + 256 * (d.toNat + 256 * (e.toNat + 256 * 0))) = a.toNat + b.toNat * 256 + d.toNat * 65536 + e.toNat * 16777216
    omega
end
end Go.Proofs.Ytcpncmdnefemmaa
