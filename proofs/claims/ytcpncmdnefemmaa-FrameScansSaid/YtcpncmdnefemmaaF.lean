/- frame.number, summed, first; bytes.Clone. Conditions: none of its own. -/
import Derived.Test.YtcpncmdnefemmaaE
namespace Go.Proofs.Ytcpncmdnefemmaa
open Go.RowKit
theorem le_snoc : ∀ (l : List UInt8) (x : UInt8), le (l ++ [x]) = le l + x.toNat * 256 ^ l.length
  | [], x => by simp [le]
  | y :: l, x => by
    have := le_snoc l x
    simp only [List.cons_append, le, this, List.length_cons, Nat.pow_succ, Nat.mul_add]
    rw [Nat.mul_comm 256 (x.toNat * 256 ^ l.length), Nat.mul_assoc]
    omega
theorem le_bd : ∀ (l : List UInt8), le l < 256 ^ l.length
  | [] => by simp [le]
  | y :: l => by
    have := le_bd l
    have h := byte_lt y
    simp only [le, List.length_cons, Nat.pow_succ]
    omega
theorem or_add {i u x : Nat} (h : u < 2 ^ i) : u ||| x * 2 ^ i = u + x * 2 ^ i := by
  rw [Nat.or_comm, Nat.mul_comm, ← Nat.two_pow_add_eq_or_of_lt h, Nat.add_comm]
theorem or_byte {r x k : Nat} (hk : k < 4) (hx : x < 256) (hr : r < 256 ^ k) : bits .or .u32 (r : Int) ((x : Int) * 2 ^ (k * 8) % 4294967296) = ((r + x * 256 ^ k : Nat) : Int) := by
  have e : 256 ^ k = 2 ^ (k * 8) := by rw [show 256 = 2 ^ 8 from rfl, ← Nat.pow_mul, Nat.mul_comm]
  have h1 : x * 2 ^ (k * 8) < 4294967296 := by
    have : k = 0 ∨ k = 1 ∨ k = 2 ∨ k = 3 := by omega
    rcases this with rfl | rfl | rfl | rfl <;> omega
  have h2 : r < 4294967296 := by
    have : k = 0 ∨ k = 1 ∨ k = 2 ∨ k = 3 := by omega
    rcases this with rfl | rfl | rfl | rfl <;> omega
  have e2 : ((x : Int) * 2 ^ (k * 8) % 4294967296) = ((x * 2 ^ (k * 8) : Nat) : Int) := by
    have : ((x : Int) * 2 ^ (k * 8)) = ((x * 2 ^ (k * 8) : Nat) : Int) := by rw [Int.natCast_mul, Int.natCast_pow]; rfl
    rw [this]
    exact Int.emod_eq_of_lt (by omega) (by omega)
  rw [e2, bor32 h2 h1, e, or_add (by rw [← e]; exact hr)]
set_option maxRecDepth 100000 in
theorem number_any {B : Nat} {w : World} {ao : Option Addr} {n cap : Nat} {l : List UInt8} (h : SB B w ao n cap l) (h4 : n = 4) : Calls Try.prog 29 #[.slice ao n cap] w fun e w' => e = .returned (.int .u32 (le l : Nat)) ∧ w = w' := by
  have hlen := h.len
  have HL := Lib.hid hlen
  have H := Lib.hid h
  clear h hlen
  subst h4
  go_enter Try.func29, Try.ntmps29
  go_wp2
  go_loop [3, 8] (fun r i => ∃ k : Nat, k ≤ 4 ∧ i = .int .i64 k ∧ r = .int .u32 (le (l.take k) : Nat)) (fun _ i => 4 - (intOf i).toNat)
  case atStart => exact ⟨0, Nat.zero_le _, rfl, rfl⟩
  case round =>
    obtain ⟨k, hk, rfl, rfl⟩ := hrel
    by_cases hk4 : k < 4
    · rcases H.out.cells with h0 | ⟨b, off, rfl, _, hcell⟩
      · omega
      have hc := hcell k hk4
      have hT : l.take (k + 1) = l.take k ++ [l.getD k 0] := by
        have : k < l.length := by rw [← HL.out]; exact hk4
        rw [List.take_add_one, List.getD_eq_getElem?_getD, List.getElem?_eq_getElem this]; exact rfl
      have hx := byte_lt (l.getD k 0)
      have hM : (l.take k).length = k := by rw [List.length_take, ← HL.out]; omega
      have hb := le_bd (l.take k)
      rw [hM] at hb
      have HS : Hid (le (l.take (k + 1)) = le (l.take k) + (l.getD k 0).toNat * 256 ^ k) := by rw [hT, le_snoc, hM]; exact rfl
      clear hcell hT hM
      generalize le (l.take k) = r at *
      generalize (l.getD k 0).toNat = x at *
      have e1 : IntKind.u32.wrap (x : Int) = x := wrapu32 (by omega)
      have HO := Lib.hid (or_byte hk4 hx hb)
      go_wp2
      exact ⟨⟨k + 1, by omega, by go_num, by rw [HS.out, HO.out]⟩, by simp [intOf]; omega⟩
    · obtain rfl : k = 4 := by omega
      have HT : Hid (l.take 4 = l) := List.take_of_length_le (by rw [← HL.out]; omega)
      rw [HT.out]
      go_wp2
      go_ret
      exact ⟨rfl, rfl⟩
section
variable {B : Nat} {w : World} {ao : Option Addr} {n cap : Nat} {l : List UInt8}
theorem SB.top (h : SB B w ao n cap l) {hi : Nat} (h1 : hi ≤ n) : SB B w ao hi cap (l.take hi) := by
  have hl := h.len
  have hc := h.le
  refine ⟨by rw [List.length_take]; omega, by omega, h.max, h.nil, ?_⟩
  by_cases hz : hi = 0
  · exact .inl hz
  rcases h.cells with h0 | ⟨b, off, rfl, hB, hcell⟩
  · omega
  · refine .inr ⟨b, off, rfl, hB, fun i hi => ?_⟩
    rw [hcell i (by omega), List.getD_eq_getElem?_getD, List.getD_eq_getElem?_getD, List.getElem?_take_of_lt hi]
theorem SB.mid (h : SB B w ao n cap l) {lo m c : Nat} (h1 : lo + m ≤ n) (hc : c = cap - lo) : SB B w (Option.map (fun x => x.add lo) ao) m c ((l.drop lo).take m) := by
  have hl := h.len
  have hle := h.le
  have hmx := h.max
  subst hc
  refine ⟨by rw [List.length_take, List.length_drop]; omega, by omega, by omega, ?_, ?_⟩
  · intro e
    have : ao = none := by simpa using e
    have := h.nil this
    omega
  · by_cases hz : m = 0
    · exact .inl hz
    · rcases h.cells with h0 | ⟨b, off, rfl, hB, hcell⟩
      · omega
      · refine .inr ⟨b, off + lo, by simp [Addr.add], hB, fun i hi => ?_⟩
        rw [Nat.add_assoc, hcell (lo + i) (by omega), List.getD_eq_getElem?_getD, List.getD_eq_getElem?_getD, List.getElem?_take_of_lt hi, List.getElem?_drop]
theorem SB.end_ (h : SB B w ao n cap l) {lo m c : Nat} (h1 : lo ≤ n) (hm : m = n - lo) (hc : c = cap - lo) : SB B w (Option.map (fun x => x.add lo) ao) m c (l.drop lo) := by
  have := h.mid (lo := lo) (m := n - lo) (c := c) (by omega) hc
  rw [List.take_of_length_le (by rw [List.length_drop, h.len]; omega)] at this
  rw [hm]
  exact this
end
theorem sum_len {l : List UInt8} {k : Nat} (hs : sumB l k = true) : k + 4 ≤ l.length := by
  unfold sumB at hs
  rw [Bool.and_eq_true, decide_eq_true_eq] at hs
  exact hs.1
theorem beq_int (a b : Nat) : ((a : Int) == (b : Int)) = (a == b) := by
  by_cases h : a = b
  · subst h; simp
  · rw [beq_eq_false_iff_ne.2 h, beq_eq_false_iff_ne]; omega
set_option maxRecDepth 100000 in
theorem summed_yes {w : World} {ao : Option Addr} {n cap : Nat} {l : List UInt8} (h : SB w.heap.size w ao n cap l) (k : Nat) (hs : sumB l k = true) : Calls Try.prog 28 #[.slice ao n cap, .int .i64 (k : Nat)] w fun e w' => e = .returned (.tuple #[.slice ao k cap, .bool true]) ∧ Below w.heap.size w w' := by
  have hmax := h.max
  have hle := h.le
  have hk : k + 4 ≤ n := by rw [h.len]; exact sum_len hs
  unfold maxLen at hmax
  have HN := Lib.hid (h.mid (lo := k) (m := 4) (c := cap - k) hk rfl)
  have HT := Lib.hid (h.top (hi := k) (by omega))
  have ht : ((le ((l.drop k).take 4) : Int) != (crc (l.take k) : Int)) = false := by
    unfold sumB at hs
    rw [Bool.and_eq_true] at hs
    rw [bne_eq_false_iff_eq, eq_of_beq hs.2]
  clear h hs
  generalize hle4 : le ((l.drop k).take 4) = a at *
  generalize hcr : crc (l.take k) = b at *
  have HA := Lib.hid hle4
  have HC := Lib.hid hcr
  clear hle4 hcr
  go_enter Try.func28, Try.ntmps28
  go_wp2_with (first
    | (go_at_call 29; (refine (number_any HN.out (by omega)).mono ?_); rw [HA.out]; rintro e w1 ⟨rfl, rfl⟩)
    | (go_at_call 14; (refine (sum_any HT.out).mono ?_); rw [HC.out]; rintro e w2 ⟨rfl, hb⟩; have HB := Lib.hid hb; clear hb))
  go_ret2
  exact ⟨rfl, HB.out⟩
set_option maxRecDepth 100000 in
theorem summed_no {w : World} {ao : Option Addr} {n cap : Nat} {l : List UInt8} (h : SB w.heap.size w ao n cap l) (k : Nat) (hk0 : k ≤ 4294967296) (hs : sumB l k = false) : Calls Try.prog 28 #[.slice ao n cap, .int .i64 (k : Nat)] w fun e w' => e = .returned (.tuple #[.slice none 0 0, .bool false]) ∧ Below w.heap.size w w' := by
  have hmax := h.max
  have hle := h.le
  have hlen := h.len
  unfold maxLen at hmax
  by_cases hk : k + 4 ≤ n
  · have HN := Lib.hid (h.mid (lo := k) (m := 4) (c := cap - k) hk rfl)
    have HT := Lib.hid (h.top (hi := k) (by omega))
    have ht : ((le ((l.drop k).take 4) : Int) != (crc (l.take k) : Int)) = true := by
      unfold sumB at hs
      rw [← hlen, decide_eq_true hk, Bool.true_and, beq_eq_false_iff_ne] at hs
      rw [bne_iff_ne]
      omega
    clear h hs hlen
    generalize hle4 : le ((l.drop k).take 4) = a at *
    generalize hcr : crc (l.take k) = b at *
    have HA := Lib.hid hle4
    have HC := Lib.hid hcr
    clear hle4 hcr
    go_enter Try.func28, Try.ntmps28
    go_wp2_with (first
      | (go_at_call 29; (refine (number_any HN.out (by omega)).mono ?_); rw [HA.out]; rintro e w1 ⟨rfl, rfl⟩)
      | (go_at_call 14; (refine (sum_any HT.out).mono ?_); rw [HC.out]; rintro e w2 ⟨rfl, hb⟩; have HB := Lib.hid hb; clear hb))
    go_ret2
    exact ⟨rfl, HB.out⟩
  · clear h hs hlen
    go_enter Try.func28, Try.ntmps28
    go_wp2
    go_ret2
    exact ⟨rfl, Below.refl _ _⟩
end Go.Proofs.Ytcpncmdnefemmaa
