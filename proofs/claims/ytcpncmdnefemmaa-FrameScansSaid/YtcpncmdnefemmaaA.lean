/- The CRC-32C of bytes in plain numbers: bit by bit, by halves of a byte; what is turned in one byte turns the sum. Conditions: none of its own. -/
import Derived.Lib.Hide
namespace Go.Proofs.Ytcpncmdnefemmaa
/-- A bit shifted out of the register. -/
def bit (r : Nat) : Nat := if r % 2 = 1 then r / 2 ^^^ 2197175160 else r / 2
def bit4 (r : Nat) : Nat := bit (bit (bit (bit r)))
/-- A byte taken in. -/
def stp (r x : Nat) : Nat := bit4 (bit4 (r ^^^ x))
theorem xor_zero {a b : Nat} (h : a ^^^ b = 0) : a = b := by
  have := congrArg (· ^^^ b) h
  simpa [Nat.xor_assoc] using this
theorem bit_xor (a b : Nat) : bit (a ^^^ b) = bit a ^^^ bit b := by
  have h1 : (a ^^^ b) / 2 = a / 2 ^^^ b / 2 := Nat.xor_div_two
  have h2 : (a ^^^ b) % 2 = (a + b) % 2 := by
    have h := @Nat.xor_mod_two_eq_one a b
    rcases Nat.mod_two_eq_zero_or_one (a ^^^ b) with h0 | h0
    · rw [h0] at h ⊢; simp at h; omega
    · rw [h0] at h ⊢; simp at h; omega
  unfold bit
  rw [h1, h2]
  rcases Nat.mod_two_eq_zero_or_one a with ha | ha <;> rcases Nat.mod_two_eq_zero_or_one b with hb | hb
  · rw [if_neg (by omega), if_neg (by omega), if_neg (by omega)]
  · rw [if_pos (by omega), if_neg (by omega), if_pos (by omega), Nat.xor_assoc]
  · rw [if_pos (by omega), if_pos (by omega), if_neg (by omega), Nat.xor_assoc, Nat.xor_assoc, Nat.xor_comm (b / 2)]
  · rw [if_neg (by omega), if_pos (by omega), if_pos (by omega), Nat.xor_assoc, ← Nat.xor_assoc 2197175160, Nat.xor_comm 2197175160, Nat.xor_assoc, Nat.xor_self, Nat.xor_zero]
theorem xor_lt {a b : Nat} (ha : a < 4294967296) (hb : b < 4294967296) : a ^^^ b < 4294967296 := Nat.xor_lt_two_pow (n := 32) ha hb
theorem bit_lt {r : Nat} (h : r < 4294967296) : bit r < 4294967296 := by
  unfold bit
  split
  · exact xor_lt (by omega) (by omega)
  · omega
theorem bit_zero {d : Nat} (h : d < 4294967296) (h0 : bit d = 0) : d = 0 := by
  unfold bit at h0
  split at h0
  · have h2 : d / 2 = 2197175160 := xor_zero h0
    omega
  · omega
theorem bit_inj {a b : Nat} (ha : a < 4294967296) (hb : b < 4294967296) (h : bit a = bit b) : a = b := by
  have : bit (a ^^^ b) = 0 := by rw [bit_xor, h, Nat.xor_self]
  exact xor_zero (bit_zero (xor_lt ha hb) this)
theorem bit4_lt {r : Nat} (h : r < 4294967296) : bit4 r < 4294967296 := bit_lt (bit_lt (bit_lt (bit_lt h)))
theorem bit4_inj {a b : Nat} (ha : a < 4294967296) (hb : b < 4294967296) (h : bit4 a = bit4 b) : a = b :=
  bit_inj ha hb (bit_inj (bit_lt ha) (bit_lt hb) (bit_inj (bit_lt (bit_lt ha)) (bit_lt (bit_lt hb)) (bit_inj (bit_lt (bit_lt (bit_lt ha))) (bit_lt (bit_lt (bit_lt hb))) h)))
theorem bit4_xor (a b : Nat) : bit4 (a ^^^ b) = bit4 a ^^^ bit4 b := by unfold bit4; rw [bit_xor, bit_xor, bit_xor, bit_xor]
theorem bit_two (m : Nat) : bit (2 * m) = m := by unfold bit; rw [if_neg (by omega)]; omega
theorem bit4_16 (m : Nat) : bit4 (16 * m) = m := by
  unfold bit4
  rw [show 16 * m = 2 * (2 * (2 * (2 * m))) by omega, bit_two, bit_two, bit_two, bit_two]
theorem split16 (r : Nat) : r = (16 * (r / 16)) ^^^ (r % 16) := by
  apply Nat.eq_of_testBit_eq
  intro i
  rw [Nat.testBit_xor, show 16 * (r / 16) = (r / 2 ^ 4) * 2 ^ 4 by omega, show r % 16 = r % 2 ^ 4 by omega, Nat.testBit_mul_two_pow, Nat.testBit_mod_two_pow, Nat.testBit_div_two_pow]
  by_cases hi : 4 ≤ i
  · have : i - 4 + 4 = i := by omega
    simp [hi, this, show ¬ i < 4 by omega]
  · simp [hi]; omega
/-- Half a byte shifted out at once. -/
theorem bit4_half (r : Nat) : bit4 r = r / 16 ^^^ bit4 (r % 16) := by
  conv => lhs; rw [split16 r]
  rw [bit4_xor, bit4_16]
theorem stp_lt {r x : Nat} (h : r < 4294967296) (hx : x < 256) : stp r x < 4294967296 := bit4_lt (bit4_lt (xor_lt h (by omega)))
theorem stp_inj {r q x : Nat} (hr : r < 4294967296) (hq : q < 4294967296) (hx : x < 256) (h : stp r x = stp q x) : r = q := by
  have h2 := bit4_inj (xor_lt hr (by omega)) (xor_lt hq (by omega)) (bit4_inj (bit4_lt (xor_lt hr (by omega))) (bit4_lt (xor_lt hq (by omega))) h)
  have := congrArg (· ^^^ x) h2
  simpa [Nat.xor_assoc] using this
theorem stp_inj2 {r x y : Nat} (hr : r < 4294967296) (hx : x < 256) (hy : y < 256) (h : stp r x = stp r y) : x = y := by
  have h2 := bit4_inj (xor_lt hr (by omega)) (xor_lt hr (by omega)) (bit4_inj (bit4_lt (xor_lt hr (by omega))) (bit4_lt (xor_lt hr (by omega))) h)
  have := congrArg (r ^^^ ·) h2
  simpa [← Nat.xor_assoc] using this
/-- The register behind bytes. -/
def reg (r : Nat) (l : List UInt8) : Nat := l.foldl (fun r b => stp r b.toNat) r
theorem reg_cons (r : Nat) (x : UInt8) (l : List UInt8) : reg r (x :: l) = reg (stp r x.toNat) l := rfl
theorem reg_append (r : Nat) (l m : List UInt8) : reg r (l ++ m) = reg (reg r l) m := List.foldl_append ..
theorem byte_lt (x : UInt8) : x.toNat < 256 := x.toNat_lt
theorem reg_lt : ∀ (l : List UInt8) {r : Nat}, r < 4294967296 → reg r l < 4294967296
  | [], _, h => h
  | x :: l, _, h => reg_lt l (stp_lt h (byte_lt x))
theorem reg_inj : ∀ (l : List UInt8) {r q : Nat}, r < 4294967296 → q < 4294967296 → reg r l = reg q l → r = q
  | [], _, _, _, _, h => h
  | x :: l, _, _, hr, hq, h => stp_inj hr hq (byte_lt x) (reg_inj l (stp_lt hr (byte_lt x)) (stp_lt hq (byte_lt x)) h)
theorem reg_take {l : List UInt8} {k : Nat} (h : k < l.length) (r : Nat) : reg r (l.take (k + 1)) = stp (reg r (l.take k)) (l.getD k 0).toNat := by
  rw [List.take_add_one, List.getD_eq_getElem?_getD, List.getElem?_eq_getElem h]
  unfold reg
  rw [List.foldl_append]
  rfl
/-- The sum of bytes. -/
def crc (l : List UInt8) : Nat := 4294967295 - reg 4294967295 l
theorem crc_lt (l : List UInt8) : crc l < 4294967296 := by unfold crc; omega
theorem crc_eq {l m : List UInt8} (h : crc l = crc m) : reg 4294967295 l = reg 4294967295 m := by
  have h1 := reg_lt l (r := 4294967295) (by omega)
  have h2 := reg_lt m (r := 4294967295) (by omega)
  unfold crc at h
  omega
/-- ONE BYTE TURNED TURNS THE SUM. -/
theorem crc_turn {a c : List UInt8} {x y : UInt8} (h : crc (a ++ x :: c) = crc (a ++ y :: c)) : x = y := by
  have h := crc_eq h
  rw [reg_append, reg_append, reg_cons, reg_cons] at h
  have hr := reg_lt a (r := 4294967295) (by omega)
  have := stp_inj2 hr (byte_lt x) (byte_lt y) (reg_inj c (stp_lt hr (byte_lt x)) (stp_lt hr (byte_lt y)) h)
  exact UInt8.toNat_inj.1 this
theorem crc_set {l : List UInt8} {k : Nat} {y : UInt8} (hk : k < l.length) (h : crc (l.set k y) = crc l) : y = l.getD k 0 := by
  have e : l = l.take k ++ l.getD k 0 :: l.drop (k + 1) := by
    rw [List.getD_eq_getElem?_getD, List.getElem?_eq_getElem hk]
    simp
  have e2 : l.set k y = l.take k ++ y :: l.drop (k + 1) := by rw [List.set_eq_take_append_cons_drop, if_pos hk]
  rw [e2] at h
  conv at h => rhs; rw [e]
  exact crc_turn h
/-- A number in four bytes. -/
def four (n : Nat) : List UInt8 := [UInt8.ofNat (n % 256), UInt8.ofNat (n / 256 % 256), UInt8.ofNat (n / 65536 % 256), UInt8.ofNat (n / 16777216 % 256)]
def le : List UInt8 → Nat
  | [] => 0
  | x :: r => x.toNat + 256 * le r
theorem ofNat_toNat {n : Nat} (h : n < 256) : (UInt8.ofNat n).toNat = n := by
  simp [UInt8.toNat_ofNat']; omega
theorem four_length (n : Nat) : (four n).length = 4 := rfl
theorem le_four {n : Nat} (h : n < 4294967296) : le (four n) = n := by
  simp only [four, le, ofNat_toNat (Nat.mod_lt _ (show 256 > 0 by decide))]
  omega
theorem ofNat_self (x : UInt8) : UInt8.ofNat x.toNat = x := by simp
theorem four_le {l : List UInt8} (h : l.length = 4) : four (le l) = l := by
  match l, h with
  | [a, b, c, d], _ =>
    have ha := byte_lt a; have hb := byte_lt b; have hc := byte_lt c; have hd := byte_lt d
    simp only [four, le]
    rw [show (a.toNat + 256 * (b.toNat + 256 * (c.toNat + 256 * (d.toNat + 256 * 0)))) % 256 = a.toNat by omega,
      show (a.toNat + 256 * (b.toNat + 256 * (c.toNat + 256 * (d.toNat + 256 * 0)))) / 256 % 256 = b.toNat by omega,
      show (a.toNat + 256 * (b.toNat + 256 * (c.toNat + 256 * (d.toNat + 256 * 0)))) / 65536 % 256 = c.toNat by omega,
      show (a.toNat + 256 * (b.toNat + 256 * (c.toNat + 256 * (d.toNat + 256 * 0)))) / 16777216 % 256 = d.toNat by omega]
    simp only [ofNat_self]
theorem le_lt {l : List UInt8} (h : l.length = 4) : le l < 4294967296 := by
  match l, h with
  | [a, b, c, d], _ =>
    have ha := byte_lt a; have hb := byte_lt b; have hc := byte_lt c; have hd := byte_lt d
    simp only [le]
    omega
theorem four_inj {a b : Nat} (ha : a < 4294967296) (hb : b < 4294967296) (h : four a = four b) : a = b := by rw [← le_four ha, h, le_four hb]
end Go.Proofs.Ytcpncmdnefemmaa
