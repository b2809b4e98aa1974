/- The CRC-32C of bytes in plain numbers: bit by bit, by halves of a byte; what is turned in one byte turns the sum. Conditions: none of its own. Frames in plain terms: the frame of a record, the record with which bytes begin, the records at the beginning of bytes; what a turned byte and what is cut off do to them. Conditions: none of its own. What the document asks of a frame, in its order, and the record with which bytes begin. Conditions: none. -/
import Derived.Lib.Hide
namespace Go.Proofs.YtkilkhnoldfhcaaGreatDoor.Fr
/-- A bit shifted out of the register. -/
def bit (r : Nat) : Nat := if r % 2 = 1 then r / 2 ^^^ 2197175160 else r / 2
def bit4 (r : Nat) : Nat := bit (bit (bit (bit r)))
/-- A byte taken in. -/
def stp (r x : Nat) : Nat := bit4 (bit4 (r ^^^ x))
theorem xor_zero {a b : Nat} (h : a ^^^ b = 0) : a = b := by
  have := congrArg (· ^^^ b) h
  simpa [Nat.xor_assoc] using this
theorem bit_xor (a b : Nat) : bit (a ^^^ b) = bit a ^^^ bit b := by
  have h1 : (a ^^^ b) / 2 = a / 2 ^^^ b / 2 := Nat.xor_div_two
  have h2 : (a ^^^ b) % 2 = (a + b) % 2 := by
    have h := @Nat.xor_mod_two_eq_one a b
    rcases Nat.mod_two_eq_zero_or_one (a ^^^ b) with h0 | h0
    · rw [h0] at h ⊢; simp at h; omega
    · rw [h0] at h ⊢; simp at h; omega
  unfold bit
  rw [h1, h2]
  rcases Nat.mod_two_eq_zero_or_one a with ha | ha <;> rcases Nat.mod_two_eq_zero_or_one b with hb | hb
  · rw [if_neg (by omega), if_neg (by omega), if_neg (by omega)]
  · rw [if_pos (by omega), if_neg (by omega), if_pos (by omega), Nat.xor_assoc]
  · rw [if_pos (by omega), if_pos (by omega), if_neg (by omega), Nat.xor_assoc, Nat.xor_assoc, Nat.xor_comm (b / 2)]
  · rw [if_neg (by omega), if_pos (by omega), if_pos (by omega), Nat.xor_assoc, ← Nat.xor_assoc 2197175160, Nat.xor_comm 2197175160, Nat.xor_assoc, Nat.xor_self, Nat.xor_zero]
theorem xor_lt {a b : Nat} (ha : a < 4294967296) (hb : b < 4294967296) : a ^^^ b < 4294967296 := Nat.xor_lt_two_pow (n := 32) ha hb
theorem bit_lt {r : Nat} (h : r < 4294967296) : bit r < 4294967296 := by
  unfold bit
  split
  · exact xor_lt (by omega) (by omega)
  · omega
theorem bit_zero {d : Nat} (h : d < 4294967296) (h0 : bit d = 0) : d = 0 := by
  unfold bit at h0
  split at h0
  · have h2 : d / 2 = 2197175160 := xor_zero h0
    omega
  · omega
theorem bit_inj {a b : Nat} (ha : a < 4294967296) (hb : b < 4294967296) (h : bit a = bit b) : a = b := by
  have : bit (a ^^^ b) = 0 := by rw [bit_xor, h, Nat.xor_self]
  exact xor_zero (bit_zero (xor_lt ha hb) this)
theorem bit4_lt {r : Nat} (h : r < 4294967296) : bit4 r < 4294967296 := bit_lt (bit_lt (bit_lt (bit_lt h)))
theorem bit4_inj {a b : Nat} (ha : a < 4294967296) (hb : b < 4294967296) (h : bit4 a = bit4 b) : a = b :=
  bit_inj ha hb (bit_inj (bit_lt ha) (bit_lt hb) (bit_inj (bit_lt (bit_lt ha)) (bit_lt (bit_lt hb)) (bit_inj (bit_lt (bit_lt (bit_lt ha))) (bit_lt (bit_lt (bit_lt hb))) h)))
theorem bit4_xor (a b : Nat) : bit4 (a ^^^ b) = bit4 a ^^^ bit4 b := by unfold bit4; rw [bit_xor, bit_xor, bit_xor, bit_xor]
theorem bit_two (m : Nat) : bit (2 * m) = m := by unfold bit; rw [if_neg (by omega)]; omega
theorem bit4_16 (m : Nat) : bit4 (16 * m) = m := by
  unfold bit4
  rw [show 16 * m = 2 * (2 * (2 * (2 * m))) by omega, bit_two, bit_two, bit_two, bit_two]
theorem split16 (r : Nat) : r = (16 * (r / 16)) ^^^ (r % 16) := by
  apply Nat.eq_of_testBit_eq
  intro i
  rw [Nat.testBit_xor, show 16 * (r / 16) = (r / 2 ^ 4) * 2 ^ 4 by omega, show r % 16 = r % 2 ^ 4 by omega, Nat.testBit_mul_two_pow, Nat.testBit_mod_two_pow, Nat.testBit_div_two_pow]
  by_cases hi : 4 ≤ i
  · have : i - 4 + 4 = i := by omega
    simp [hi, this, show ¬ i < 4 by omega]
  · simp [hi]; omega
/-- Half a byte shifted out at once. -/
theorem bit4_half (r : Nat) : bit4 r = r / 16 ^^^ bit4 (r % 16) := by
  conv => lhs; rw [split16 r]
  rw [bit4_xor, bit4_16]
theorem stp_lt {r x : Nat} (h : r < 4294967296) (hx : x < 256) : stp r x < 4294967296 := bit4_lt (bit4_lt (xor_lt h (by omega)))
theorem stp_inj {r q x : Nat} (hr : r < 4294967296) (hq : q < 4294967296) (hx : x < 256) (h : stp r x = stp q x) : r = q := by
  have h2 := bit4_inj (xor_lt hr (by omega)) (xor_lt hq (by omega)) (bit4_inj (bit4_lt (xor_lt hr (by omega))) (bit4_lt (xor_lt hq (by omega))) h)
  have := congrArg (· ^^^ x) h2
  simpa [Nat.xor_assoc] using this
theorem stp_inj2 {r x y : Nat} (hr : r < 4294967296) (hx : x < 256) (hy : y < 256) (h : stp r x = stp r y) : x = y := by
  have h2 := bit4_inj (xor_lt hr (by omega)) (xor_lt hr (by omega)) (bit4_inj (bit4_lt (xor_lt hr (by omega))) (bit4_lt (xor_lt hr (by omega))) h)
  have := congrArg (r ^^^ ·) h2
  simpa [← Nat.xor_assoc] using this
/-- The register behind bytes. -/
def reg (r : Nat) (l : List UInt8) : Nat := l.foldl (fun r b => stp r b.toNat) r
theorem reg_cons (r : Nat) (x : UInt8) (l : List UInt8) : reg r (x :: l) = reg (stp r x.toNat) l := rfl
theorem reg_append (r : Nat) (l m : List UInt8) : reg r (l ++ m) = reg (reg r l) m := List.foldl_append ..
theorem byte_lt (x : UInt8) : x.toNat < 256 := x.toNat_lt
theorem reg_lt : ∀ (l : List UInt8) {r : Nat}, r < 4294967296 → reg r l < 4294967296
  | [], _, h => h
  | x :: l, _, h => reg_lt l (stp_lt h (byte_lt x))
theorem reg_inj : ∀ (l : List UInt8) {r q : Nat}, r < 4294967296 → q < 4294967296 → reg r l = reg q l → r = q
  | [], _, _, _, _, h => h
  | x :: l, _, _, hr, hq, h => stp_inj hr hq (byte_lt x) (reg_inj l (stp_lt hr (byte_lt x)) (stp_lt hq (byte_lt x)) h)
theorem reg_take {l : List UInt8} {k : Nat} (h : k < l.length) (r : Nat) : reg r (l.take (k + 1)) = stp (reg r (l.take k)) (l.getD k 0).toNat := by
  rw [List.take_add_one, List.getD_eq_getElem?_getD, List.getElem?_eq_getElem h]
  unfold reg
  rw [List.foldl_append]
  rfl
/-- The sum of bytes. -/
def crc (l : List UInt8) : Nat := 4294967295 - reg 4294967295 l
theorem crc_lt (l : List UInt8) : crc l < 4294967296 := by unfold crc; omega
theorem crc_eq {l m : List UInt8} (h : crc l = crc m) : reg 4294967295 l = reg 4294967295 m := by
  have h1 := reg_lt l (r := 4294967295) (by omega)
  have h2 := reg_lt m (r := 4294967295) (by omega)
  unfold crc at h
  omega
/-- ONE BYTE TURNED TURNS THE SUM. -/
theorem crc_turn {a c : List UInt8} {x y : UInt8} (h : crc (a ++ x :: c) = crc (a ++ y :: c)) : x = y := by
  have h := crc_eq h
  rw [reg_append, reg_append, reg_cons, reg_cons] at h
  have hr := reg_lt a (r := 4294967295) (by omega)
  have := stp_inj2 hr (byte_lt x) (byte_lt y) (reg_inj c (stp_lt hr (byte_lt x)) (stp_lt hr (byte_lt y)) h)
  exact UInt8.toNat_inj.1 this
theorem crc_set {l : List UInt8} {k : Nat} {y : UInt8} (hk : k < l.length) (h : crc (l.set k y) = crc l) : y = l.getD k 0 := by
  have e : l = l.take k ++ l.getD k 0 :: l.drop (k + 1) := by
    rw [List.getD_eq_getElem?_getD, List.getElem?_eq_getElem hk]
    simp
  have e2 : l.set k y = l.take k ++ y :: l.drop (k + 1) := by rw [List.set_eq_take_append_cons_drop, if_pos hk]
  rw [e2] at h
  conv at h => rhs; rw [e]
  exact crc_turn h
/-- A number in four bytes. -/
def four (n : Nat) : List UInt8 := [UInt8.ofNat (n % 256), UInt8.ofNat (n / 256 % 256), UInt8.ofNat (n / 65536 % 256), UInt8.ofNat (n / 16777216 % 256)]
def le : List UInt8 → Nat
  | [] => 0
  | x :: r => x.toNat + 256 * le r
theorem ofNat_toNat {n : Nat} (h : n < 256) : (UInt8.ofNat n).toNat = n := by
  simp [UInt8.toNat_ofNat']; omega
theorem four_length (n : Nat) : (four n).length = 4 := rfl
theorem le_four {n : Nat} (h : n < 4294967296) : le (four n) = n := by
  simp only [four, le, ofNat_toNat (Nat.mod_lt _ (show 256 > 0 by decide))]
  omega
theorem ofNat_self (x : UInt8) : UInt8.ofNat x.toNat = x := by simp
theorem four_le {l : List UInt8} (h : l.length = 4) : four (le l) = l := by
  match l, h with
  | [a, b, c, d], _ =>
    have ha := byte_lt a; have hb := byte_lt b; have hc := byte_lt c; have hd := byte_lt d
    simp only [four, le]
    rw [show (a.toNat + 256 * (b.toNat + 256 * (c.toNat + 256 * (d.toNat + 256 * 0)))) % 256 = a.toNat by omega,
      show (a.toNat + 256 * (b.toNat + 256 * (c.toNat + 256 * (d.toNat + 256 * 0)))) / 256 % 256 = b.toNat by omega,
      show (a.toNat + 256 * (b.toNat + 256 * (c.toNat + 256 * (d.toNat + 256 * 0)))) / 65536 % 256 = c.toNat by omega,
      show (a.toNat + 256 * (b.toNat + 256 * (c.toNat + 256 * (d.toNat + 256 * 0)))) / 16777216 % 256 = d.toNat by omega]
    simp only [ofNat_self]
theorem le_lt {l : List UInt8} (h : l.length = 4) : le l < 4294967296 := by
  match l, h with
  | [a, b, c, d], _ =>
    have ha := byte_lt a; have hb := byte_lt b; have hc := byte_lt c; have hd := byte_lt d
    simp only [le]
    omega
theorem four_inj {a b : Nat} (ha : a < 4294967296) (hb : b < 4294967296) (h : four a = four b) : a = b := by rw [← le_four ha, h, le_four hb]
end Go.Proofs.YtkilkhnoldfhcaaGreatDoor.Fr
namespace Go.Proofs.YtkilkhnoldfhcaaGreatDoor.Fr
/-- The frame of a record. -/
def frameV (p : List UInt8) : List UInt8 := four p.length ++ (four (crc (four p.length)) ++ (p ++ four (crc p)))
theorem frame_length (p : List UInt8) : (frameV p).length = p.length + 12 := by
  simp only [frameV, List.length_append, four_length]; omega
/-- Do n bytes and their sum stand at the beginning? -/
def sumB (b : List UInt8) (n : Nat) : Bool := decide (n + 4 ≤ b.length) && (le ((b.drop n).take 4) == crc (b.take n))
theorem sum_yes {b : List UInt8} {n : Nat} : sumB b n = true ↔ ∃ r, b = b.take n ++ (four (crc (b.take n)) ++ r) ∧ n ≤ b.length := by
  unfold sumB
  rw [Bool.and_eq_true, decide_eq_true_eq, beq_iff_eq]
  constructor
  · rintro ⟨h1, h2⟩
    refine ⟨(b.drop n).drop 4, ?_, by omega⟩
    have h4 : ((b.drop n).take 4).length = 4 := by rw [List.length_take, List.length_drop]; omega
    rw [← h2, four_le h4, List.take_append_drop, List.take_append_drop]
  · rintro ⟨r, h, hn⟩
    have hl := congrArg List.length h
    rw [List.length_append, List.length_append, four_length, List.length_take] at hl
    refine ⟨by omega, ?_⟩
    have hd : b.drop n = four (crc (b.take n)) ++ r := by
      have := congrArg (List.drop n) h
      rw [List.drop_left' (by rw [List.length_take]; omega)] at this
      exact this
    rw [hd, List.take_left' (four_length _), le_four (crc_lt _)]
theorem sum_self (p r : List UInt8) : sumB (p ++ (four (crc p) ++ r)) p.length = true :=
  sum_yes.2 ⟨r, by rw [List.take_left], by rw [List.length_append]; omega⟩
/-- The record with which bytes begin. -/
def firstV (b : List UInt8) : Option (List UInt8) :=
  if sumB b 4 = true then (if 262144 < le (b.take 4) then none else if sumB (b.drop 8) (le (b.take 4)) = true then some ((b.drop 8).take (le (b.take 4))) else none) else none
theorem first_frame {p : List UInt8} (hp : p.length ≤ 262144) (r : List UInt8) : firstV (frameV p ++ r) = some p := by
  have e : frameV p ++ r = four p.length ++ (four (crc (four p.length)) ++ (p ++ (four (crc p) ++ r))) := by simp [frameV]
  have h4 : (frameV p ++ r).take 4 = four p.length := by rw [e]; exact List.take_left' (four_length _)
  have h8 : (frameV p ++ r).drop 8 = p ++ (four (crc p) ++ r) := by
    rw [e, ← List.append_assoc, List.drop_left' (by simp [four_length])]
  have s1 : sumB (frameV p ++ r) 4 = true := by
    rw [e]
    exact sum_self (four p.length) _
  unfold firstV
  rw [s1, h4, h8, le_four (by omega), if_pos rfl, if_neg (by omega), sum_self, if_pos rfl, List.take_left]
theorem first_some {b p : List UInt8} (h : firstV b = some p) : p.length ≤ 262144 ∧ b = frameV p ++ b.drop (p.length + 12) := by
  unfold firstV at h
  split at h
  case isFalse => cases h
  split at h
  · cases h
  split at h
  case isFalse => cases h
  rename_i s1 hn s2
  obtain ⟨r1, e1, l1⟩ := sum_yes.1 s1
  obtain ⟨r2, e2, l2⟩ := sum_yes.1 s2
  obtain rfl := Option.some.inj h
  have h4 : (b.take 4).length = 4 := by rw [List.length_take]; omega
  have hlen : ((b.drop 8).take (le (b.take 4))).length = le (b.take 4) := by rw [List.length_take]; omega
  have hd : b.drop 8 = r1 := by
    have := congrArg (List.drop 8) e1
    rw [← List.append_assoc, List.drop_left' (by rw [List.length_append, h4, four_length])] at this
    exact this
  refine ⟨by rw [hlen]; omega, ?_⟩
  have e3 : b = frameV ((b.drop 8).take (le (b.take 4))) ++ r2 := by
    unfold frameV
    rw [hlen, four_le h4, List.append_assoc, List.append_assoc, List.append_assoc, ← e2, hd]
    exact e1
  have e4 := congrArg (List.drop (((b.drop 8).take (le (b.take 4))).length + 12)) e3
  rw [List.drop_left' (frame_length _)] at e4
  rw [e4]
  exact e3
theorem first_len {b p : List UInt8} (h : firstV b = some p) : p.length + 12 ≤ b.length := by
  have := congrArg List.length (first_some h).2
  rw [List.length_append, frame_length] at this
  omega
theorem first_short {b : List UInt8} (h : b.length < 12) : firstV b = none := by
  cases e : firstV b with
  | none => rfl
  | some p => have := first_len e; omega
/-- The records of the frames at the beginning, and where the last of them ends. -/
def scanV (b : List UInt8) : List (List UInt8) × Nat :=
  match h : firstV b with
  | none => ([], 0)
  | some p => (p :: (scanV (b.drop (p.length + 12))).1, p.length + 12 + (scanV (b.drop (p.length + 12))).2)
termination_by b.length
decreasing_by all_goals (have := first_len h; rw [List.length_drop]; omega)
theorem scan_none {b : List UInt8} (h : firstV b = none) : scanV b = ([], 0) := by
  rw [scanV]
  split
  · rfl
  · rename_i e; rw [h] at e; cases e
theorem scan_some {b p : List UInt8} (h : firstV b = some p) : scanV b = (p :: (scanV (b.drop (p.length + 12))).1, p.length + 12 + (scanV (b.drop (p.length + 12))).2) := by
  rw [scanV]
  split
  · rename_i e; rw [h] at e; cases e
  · rename_i q e; rw [h] at e; cases e; rfl
/-- What is true of no record, and is handed on from what stands behind a record, is true of all. -/
theorem scan_ind {P : List UInt8 → Prop} (h0 : ∀ b, firstV b = none → P b) (h1 : ∀ b p, firstV b = some p → P (b.drop (p.length + 12)) → P b) : ∀ b, P b := by
  intro b
  induction hn : b.length using Nat.strongRecOn generalizing b with
  | _ n ih =>
    cases e : firstV b with
    | none => exact h0 b e
    | some p =>
      have := first_len e
      exact h1 b p e (ih (b.drop (p.length + 12)).length (by rw [List.length_drop]; omega) _ rfl)
/-- Frames one behind the other. -/
def joinV (l : List (List UInt8)) : List UInt8 := l.flatMap frameV
theorem join_cons (p : List UInt8) (l : List (List UInt8)) : joinV (p :: l) = frameV p ++ joinV l := rfl
/-- FRAMES ONE BEHIND THE OTHER TELL THEIR RECORDS, WHATEVER STANDS BEHIND. -/
theorem scan_join (r : List UInt8) : ∀ (l : List (List UInt8)), (∀ p ∈ l, p.length ≤ 262144) → scanV (joinV l ++ r) = (l ++ (scanV r).1, (joinV l).length + (scanV r).2)
  | [], _ => by simp [joinV]
  | p :: l, h => by
    have ih := scan_join r l (fun q hq => h q (List.mem_cons_of_mem _ hq))
    have hf : firstV (joinV (p :: l) ++ r) = some p := by
      rw [join_cons, List.append_assoc]; exact first_frame (h p List.mem_cons_self) _
    rw [scan_some hf]
    have hd : (joinV (p :: l) ++ r).drop (p.length + 12) = joinV l ++ r := by
      rw [join_cons, List.append_assoc, List.drop_left' (frame_length _)]
    rw [hd, ih, join_cons, List.length_append, frame_length]
    simp only [List.cons_append, Prod.mk.injEq, true_and]
    omega
theorem scan_small {b : List UInt8} : (∀ p ∈ (scanV b).1, p.length ≤ 262144) ∧ b.take (scanV b).2 = joinV (scanV b).1 ∧ (scanV b).2 ≤ b.length ∧ scanV (b.drop (scanV b).2) = ([], 0) := by
  refine scan_ind (P := fun b => (∀ p ∈ (scanV b).1, p.length ≤ 262144) ∧ b.take (scanV b).2 = joinV (scanV b).1 ∧ (scanV b).2 ≤ b.length ∧ scanV (b.drop (scanV b).2) = ([], 0)) (fun b h => ?_) (fun b p h ih => ?_) b
  · rw [scan_none h]
    refine ⟨by simp, by simp [joinV], by simp, ?_⟩
    simpa using scan_none h
  · obtain ⟨i1, i2, i3, i4⟩ := ih
    have hl := first_len h
    obtain ⟨h1, h2⟩ := first_some h
    rw [scan_some h]
    rw [List.length_drop] at i3
    refine ⟨?_, ?_, by simp only; omega, ?_⟩
    · intro q hq
      rcases List.mem_cons.1 hq with rfl | hq
      · exact h1
      · exact i1 q hq
    · simp only
      rw [join_cons, ← i2, List.take_add, ← List.take_append_drop (p.length + 12) b]
      congr 1
      · have := congrArg (List.take (p.length + 12)) h2
        rw [List.take_left' (frame_length _)] at this
        rw [List.take_append_drop]
        exact this
    · simp only
      rw [← List.drop_drop]
      exact i4
theorem take4_frame (p s : List UInt8) : (frameV p ++ s).take 4 = four p.length := by
  have e : frameV p ++ s = four p.length ++ (four (crc (four p.length)) ++ (p ++ (four (crc p) ++ s))) := by simp [frameV]
  rw [e]; exact List.take_left' (four_length _)
/-- WHAT IS CUT OFF IS NO FRAME. -/
theorem first_cut {p s : List UInt8} (hp : p.length ≤ 262144) {j : Nat} (hj : j < p.length + 12) : firstV ((frameV p ++ s).take j) = none := by
  cases e : firstV ((frameV p ++ s).take j) with
  | none => rfl
  | some q =>
    have h1 := first_len e
    obtain ⟨h2, h3⟩ := first_some e
    have hl : ((frameV p ++ s).take j).length = j := by rw [List.length_take, List.length_append, frame_length]; omega
    have h4 := congrArg (List.take 4) h3
    rw [take4_frame, List.take_take, Nat.min_eq_left (by omega), take4_frame] at h4
    have := four_inj (by omega) (by omega) h4
    omega
theorem set_eq {l : List UInt8} {j : Nat} {y : UInt8} (hj : j < l.length) (h : l.set j y = l) : y = l.getD j 0 := by
  have := congrArg (fun m => m.getD j 0) h
  simp only [List.getD_eq_getElem?_getD] at this
  rw [List.getElem?_set_self hj] at this
  rw [List.getD_eq_getElem?_getD]
  simpa using this
theorem getD_left {a b : List UInt8} {j : Nat} (h : j < a.length) : (a ++ b).getD j 0 = a.getD j 0 := by
  rw [List.getD_eq_getElem?_getD, List.getD_eq_getElem?_getD, List.getElem?_append_left h]
theorem getD_right {a b : List UInt8} {j : Nat} (h : a.length ≤ j) : (a ++ b).getD j 0 = b.getD (j - a.length) 0 := by
  rw [List.getD_eq_getElem?_getD, List.getD_eq_getElem?_getD, List.getElem?_append_right h]
/-- WHAT HAS ONE BYTE TURNED IS NO FRAME. -/
theorem first_turn {p s : List UInt8} (hp : p.length ≤ 262144) {j : Nat} (hj : j < p.length + 12) {y : UInt8} (hy : y ≠ (frameV p).getD j 0) : firstV ((frameV p).set j y ++ s) = none := by
  cases e : firstV ((frameV p).set j y ++ s) with
  | none => rfl
  | some q =>
    exfalso
    apply hy
    have FL : ∀ {a b : Nat}, (four a).length = (four b).length := fun {a b} => by rw [four_length, four_length]
    obtain ⟨h2, h3⟩ := first_some e
    have e1 : ∀ (q r : List UInt8), frameV q ++ r = four q.length ++ (four (crc (four q.length)) ++ (q ++ (four (crc q) ++ r))) := fun q r => by simp [frameV]
    rw [e1] at h3
    generalize ((frameV p).set j y ++ s).drop (q.length + 12) = r at h3
    unfold frameV at h3 ⊢
    by_cases h4 : j < 4
    · rw [List.set_append_left _ _ (by rw [four_length]; exact h4), List.append_assoc, List.append_assoc] at h3
      obtain ⟨a1, a2⟩ := List.append_inj h3 (by rw [List.length_set]; exact FL)
      obtain ⟨b1, _⟩ := List.append_inj a2 FL
      have := four_inj (crc_lt _) (crc_lt _) b1
      rw [← a1] at this
      rw [getD_left (by rw [four_length]; exact h4)]
      exact crc_set (by rw [four_length]; exact h4) this.symm
    rw [List.set_append_right _ _ (by rw [four_length]; omega), four_length, List.append_assoc] at h3
    obtain ⟨a1, a2⟩ := List.append_inj h3 FL
    rw [getD_right (by rw [four_length]; omega), four_length]
    have hn : p.length = q.length := four_inj (by omega) (by omega) a1
    by_cases h8 : j < 8
    · rw [List.set_append_left _ _ (by rw [four_length]; omega), List.append_assoc] at a2
      obtain ⟨b1, _⟩ := List.append_inj a2 (by rw [List.length_set]; exact FL)
      rw [getD_left (by rw [four_length]; omega)]
      rw [← hn] at b1
      exact set_eq (by rw [four_length]; omega) b1
    rw [List.set_append_right _ _ (by rw [four_length]; omega), four_length, List.append_assoc] at a2
    obtain ⟨_, a3⟩ := List.append_inj a2 FL
    rw [getD_right (by rw [four_length]; omega), four_length]
    by_cases hp : j - 4 - 4 < p.length
    · rw [List.set_append_left _ _ hp, List.append_assoc] at a3
      obtain ⟨b1, b2⟩ := List.append_inj a3 (by rw [List.length_set]; exact hn)
      obtain ⟨c1, _⟩ := List.append_inj b2 FL
      have := four_inj (crc_lt _) (crc_lt _) c1
      rw [← b1] at this
      rw [getD_left hp]
      exact crc_set hp this.symm
    · rw [List.set_append_right _ _ (by omega), List.append_assoc] at a3
      obtain ⟨b1, b2⟩ := List.append_inj a3 hn
      subst b1
      obtain ⟨c1, _⟩ := List.append_inj b2 (by rw [List.length_set])
      rw [getD_right (by omega)]
      exact set_eq (by rw [four_length]; omega) c1
theorem join_append (a b : List (List UInt8)) : joinV (a ++ b) = joinV a ++ joinV b := by unfold joinV; exact List.flatMap_append
theorem join_take_le (l : List (List UInt8)) (k : Nat) : (joinV (l.take k)).length ≤ (joinV l).length := by
  conv => rhs; rw [← List.take_append_drop k l]
  rw [join_append, List.length_append]; omega
theorem join_take {l : List (List UInt8)} {k : Nat} (h : k < l.length) : joinV (l.take (k + 1)) = joinV (l.take k) ++ frameV (l.getD k []) := by
  rw [List.take_add_one, List.getD_eq_getElem?_getD, List.getElem?_eq_getElem h, join_append]
  simp [joinV]
theorem join_split {l : List (List UInt8)} {k : Nat} (h : k < l.length) : joinV l = joinV (l.take k) ++ (frameV (l.getD k []) ++ joinV (l.drop (k + 1))) := by
  conv => lhs; rw [← List.take_append_drop (k + 1) l]
  rw [join_append, join_take h, List.append_assoc]
theorem get_small {l : List (List UInt8)} (h : ∀ p ∈ l, p.length ≤ 262144) (k : Nat) : (l.getD k []).length ≤ 262144 := by
  rw [List.getD_eq_getElem?_getD]
  cases e : l[k]? with
  | none => simp
  | some p => exact h p (List.mem_of_getElem? e)
theorem scan_ahead {l : List (List UInt8)} (h : ∀ p ∈ l, p.length ≤ 262144) (k : Nat) {r : List UInt8} (hr : firstV r = none) : scanV (joinV (l.take k) ++ r) = (l.take k, (joinV (l.take k)).length) := by
  rw [scan_join r _ (fun p hp => h p (List.mem_of_mem_take hp)), scan_none hr]
  simp
/-- CUT OFF ANYWHERE: JUST THE WHOLE ONES AHEAD. -/
theorem scan_cut {l : List (List UInt8)} (h : ∀ p ∈ l, p.length ≤ 262144) {k : Nat} (hk : k < l.length) {at_ : Nat} (h1 : (joinV (l.take k)).length ≤ at_) (h2 : at_ < (joinV (l.take k)).length + (12 + (l.getD k []).length)) :
    scanV ((joinV l).take at_) = (l.take k, (joinV (l.take k)).length) := by
  rw [join_split hk, List.take_append, List.take_of_length_le h1]
  exact scan_ahead h k (first_cut (get_small h k) (by omega))
/-- ONE BYTE TURNED: JUST THE WHOLE ONES AHEAD. -/
theorem scan_turn {l : List (List UInt8)} (h : ∀ p ∈ l, p.length ≤ 262144) {k : Nat} (hk : k < l.length) {at_ : Nat} (h1 : (joinV (l.take k)).length ≤ at_) (h2 : at_ < (joinV (l.take k)).length + (12 + (l.getD k []).length)) {y : UInt8} (hy : y ≠ (joinV l).getD at_ 0) :
    scanV ((joinV l).set at_ y) = (l.take k, (joinV (l.take k)).length) := by
  rw [join_split hk] at hy ⊢
  rw [getD_right h1, getD_left (by rw [frame_length]; omega)] at hy
  rw [List.set_append_right _ _ h1, List.set_append_left _ _ (by rw [frame_length]; omega)]
  exact scan_ahead h k (first_turn (get_small h k) (by omega) hy)
end Go.Proofs.YtkilkhnoldfhcaaGreatDoor.Fr
namespace Go.Proofs.YtkilkhnoldfhcaaGreatDoor.Fr
theorem four_iff {l : List UInt8} {N : Nat} (h : l.length = 4) (hN : N < 4294967296) : le l = N ↔ four N = l :=
  ⟨fun e => by rw [← e, four_le h], fun e => by rw [← e, le_four hN]⟩
theorem sum_no {b : List UInt8} {n : Nat} (hl : n + 4 ≤ b.length) (h : four (crc (b.take n)) ≠ (b.drop n).take 4) : sumB b n = false := by
  unfold sumB
  rw [Bool.and_eq_false_iff]
  right
  rw [beq_eq_false_iff_ne]
  intro e
  exact h ((four_iff (by rw [List.length_take, List.length_drop]; omega) (crc_lt _)).1 e)
theorem sum_ok {b : List UInt8} {n : Nat} (hl : n + 4 ≤ b.length) (h : four (crc (b.take n)) = (b.drop n).take 4) : sumB b n = true := by
  unfold sumB
  rw [Bool.and_eq_true, decide_eq_true_eq, beq_iff_eq]
  exact ⟨hl, (four_iff (by rw [List.length_take, List.length_drop]; omega) (crc_lt _)).2 h⟩
section
variable {c : List UInt8}
theorem ref_big (h : 262144 < le (c.take 4)) : firstV c = none := by
  unfold firstV
  split
  · rfl
  · rfl
theorem ref_head (hl : 12 ≤ c.length) (h : four (crc (c.take 4)) ≠ (c.drop 4).take 4) : firstV c = none := by
  unfold firstV
  rw [sum_no (by omega) h]
  rfl
theorem ref_short (hl : 12 ≤ c.length) (h : c.length - 12 < le (c.take 4)) : firstV c = none := by
  cases e : firstV c with
  | none => rfl
  | some p =>
    exfalso
    have h1 := first_len e
    obtain ⟨h2, h3⟩ := first_some e
    have h4 := congrArg (List.take 4) h3
    rw [take4_frame] at h4
    rw [h4, le_four (by omega)] at h
    omega
theorem ref_body (hl : 12 ≤ c.length) (hs : le (c.take 4) ≤ c.length - 12) (h : four (crc ((c.drop 8).take (le (c.take 4)))) ≠ ((c.drop 8).drop (le (c.take 4))).take 4) : firstV c = none := by
  unfold firstV
  rw [sum_no (b := c.drop 8) (by rw [List.length_drop]; omega) h]
  split
  · split <;> rfl
  · rfl
theorem ref_yes (hl : 12 ≤ c.length) (hb : le (c.take 4) ≤ 262144) (h1 : four (crc (c.take 4)) = (c.drop 4).take 4) (hs : le (c.take 4) ≤ c.length - 12) (h2 : four (crc ((c.drop 8).take (le (c.take 4)))) = ((c.drop 8).drop (le (c.take 4))).take 4) : firstV c = some ((c.drop 8).take (le (c.take 4))) := by
  unfold firstV
  rw [sum_ok (by omega) h1, sum_ok (b := c.drop 8) (by rw [List.length_drop]; omega) h2, if_pos rfl, if_neg (by omega), if_pos rfl]
theorem le_take4 (hl : 4 ≤ c.length) : le (c.take 4) = (c.getD 0 0).toNat + (c.getD 1 0).toNat * 256 + (c.getD 2 0).toNat * 65536 + (c.getD 3 0).toNat * 16777216 := by
  match c, hl with
  | a :: b :: d :: e :: r, _ =>
    show a.toNat + 256 * (b.toNat + 256 * (d.toNat + 256 * (e.toNat + 256 * 0))) = a.toNat + b.toNat * 256 + d.toNat * 65536 + e.toNat * 16777216
    omega
end
end Go.Proofs.YtkilkhnoldfhcaaGreatDoor.Fr
