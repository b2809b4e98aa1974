/- The contract of wire.Reader's Float. Conditions: the reader's own bytes. -/
import Derived.Test.YtioopibmpcbcjaaR6
namespace Go.Proofs.Ytioopibmpcbcjaa
open Go.RowKit
theorem le_append (a b : List UInt8) : le (a ++ b) = le a + 2 ^ (8 * a.length) * le b := by
  induction a with
  | nil => simp [le]
  | cons x r ih =>
    have e : 2 ^ (8 * (r.length + 1)) = 256 * 2 ^ (8 * r.length) := by rw [Nat.mul_add, Nat.pow_add]; omega
    simp only [List.cons_append, le, ih, List.length_cons]
    rw [e, Nat.mul_add, Nat.mul_assoc]
    omega
theorem le_take_succ {l : List UInt8} {k : Nat} (h : k < l.length) : le (l.take (k + 1)) = le (l.take k) + (l.getD k 0).toNat * 2 ^ (8 * k) := by
  rw [take_succ_getD h, le_append, List.length_take, Nat.min_eq_left (by omega)]
  simp only [le, Nat.mul_zero, Nat.add_zero]
  rw [Nat.mul_comm]
theorem le_lt (l : List UInt8) : le l < 2 ^ (8 * l.length) := by
  induction l with
  | nil => simp [le]
  | cons x r ih =>
    have e : 2 ^ (8 * (r.length + 1)) = 256 * 2 ^ (8 * r.length) := by rw [Nat.mul_add, Nat.pow_add]; omega
    have := byte_lt x
    simp only [le, List.length_cons, e]
    omega
theorem le_take_lt (l : List UInt8) (k : Nat) (h : k ≤ l.length) : le (l.take k) < 2 ^ (8 * k) := by
  have := le_lt (l.take k)
  rwa [List.length_take, Nat.min_eq_left h] at this
theorem shl8 {k n : Nat} {y : UInt8} (hk : k < 8) (hy : y.toNat < 256) (hn : n < 2 ^ (8 * k)) :
    bits .or .u64 (n : Int) (IntKind.u64.wrap ((y.toNat : Int) * 2 ^ (k * 8))) = ((n + y.toNat * 2 ^ (8 * k) : Nat) : Int) ∧ n + y.toNat * 2 ^ (8 * k) < 18446744073709551616 := by
  have h1 : (y.toNat + 1) * 2 ^ (8 * k) ≤ 256 * 2 ^ (8 * k) := Nat.mul_le_mul_right _ hy
  have h2 : 256 * 2 ^ (8 * k) = 2 ^ (8 * (k + 1)) := by rw [Nat.mul_add, Nat.pow_add]; omega
  have h3 : 2 ^ (8 * (k + 1)) ≤ 2 ^ 64 := Nat.pow_le_pow_right (by decide) (by omega)
  rw [Nat.add_mul, Nat.one_mul] at h1
  have h4 : n + y.toNat * 2 ^ (8 * k) < 18446744073709551616 := by omega
  refine ⟨?_, h4⟩
  have e : ((y.toNat : Int) * 2 ^ (k * 8)) = ((y.toNat * 2 ^ (8 * k) : Nat) : Int) := by rw [Nat.mul_comm k 8]; simp
  rw [e, wrap_nat (by omega), bor (by omega) (by omega), or_add hn]
section
variable {t : TypeId} {K : Nat → Prop} {w : World} {p : Nat} {v : Value} {s : Rst}
theorem float_left (h : Rd 71 K w p v s) (hl : leftR s < 8) : Calls Try.prog 28 #[.pointer (some ⟨p, 0, none⟩)] w fun x w' => x = .returned (.float .f64 (rFloat s).1) ∧ Rd 71 K w' p v (rFloat s).2 ∧ Fr (fun k => k = p) w w' := by
  have hle := h.le
  have hR : rFloat s = (0, stopR 5 s.bs.length s) := by
    unfold rFloat
    unfold leftR at hl
    split
    · rename_i he; rw [stop_not he]
    · rename_i he
      rw [if_neg he] at hl
      rw [if_pos (by omega)]
  rw [hR]
  have hl2 : ((leftR s : Nat) : Int) < 8 := by omega
  have H := Lib.hid h
  have hroom := h.room
  obtain ⟨ao, cap, hv, _⟩ := h.has
  have HV := Lib.hid hv
  clear h hR hv
  generalize s.bs.length = N at *
  go_enter Try.func28, Try.ntmps28
  go_wp2_with (first
    | (go_at_call 33; refine (left_any H.out).mono ?_; rintro x w1 ⟨rfl, h1, f1⟩; have d0 := h1.c0; rw [HV.out] at d0; have H1 := Lib.hid h1; have F1 := Lib.hid f1; clear h1 f1)
    | (go_at_call 56; ((with_reducible refine (meet_any H1.out 5 N).mono ?_); rintro x w2 ⟨rfl, h2, f2⟩; have H2 := Lib.hid h2; have F2 := Lib.hid f2; clear h2 f2))
    | go_quiet (fail))
  go_ret
  exact ⟨rfl, H2.out, F1.out.same F2.out⟩
theorem float_more (h : Rd 71 K w p v s) (he : s.er = 0) (hl : s.pl + 8 ≤ s.bs.length) : Calls Try.prog 28 #[.pointer (some ⟨p, 0, none⟩)] w fun x w' => x = .returned (.float .f64 (rFloat s).1) ∧ Rd 71 K w' p v (rFloat s).2 ∧ Fr (fun k => k = p) w w' := by
  have hL : leftR s = s.bs.length - s.pl := by unfold leftR; rw [if_neg (by simp [he])]
  have hleft : ¬ ((leftR s : Nat) : Int) < 8 := by omega
  have hroom := h.room
  obtain ⟨b, off, cap, rfl, hcap, hc63, _, _, _⟩ := h.cells (by omega)
  have H := Lib.hid h
  clear h hL
  have hrl : ((s.bs.drop s.pl).take 8).length = 8 := by rw [List.length_take, List.length_drop]; omega
  have HGET : Hid (∀ j, j < 8 → ((s.bs.drop s.pl).take 8).getD j 0 = s.bs.getD (s.pl + j) 0) := fun j hj => by rw [getD_take hj, getD_drop]
  have HRL := Lib.hid hrl
  generalize hN : s.bs.length = N at *
  have HN := Lib.hid hN
  clear hN hrl
  go_enter Try.func28, Try.ntmps28
  go_wp2_with (first
    | (go_at_call 33; refine (left_any H.out).mono ?_; rintro x w1 ⟨rfl, h1, f1⟩; have d0 := h1.c0; have d1 := h1.c1; have fr1 := h1.free 1; have H1 := Lib.hid h1; have F1 := Lib.hid f1; clear h1 f1)
    | go_quiet (fail))
  go_loopw [3, 32] (fun u i wr => ∃ k n : Nat, k ≤ 8 ∧ i = .int .i64 k ∧ u = .int .u64 n ∧ n < 18446744073709551616 ∧ Hid (n = le (((s.bs.drop s.pl).take 8).take k)) ∧ wr = w1.drewN nq) (fun _ i _ => 8 - (intOf i).toNat)
  case atStart => exact ⟨0, 0, Nat.zero_le _, rfl, rfl, by decide, rfl, rfl⟩
  case round =>
    obtain ⟨k, n, hk, rfl, rfl, hn64, hr, rfl⟩ := hrel
    by_cases hlt : k < 8
    · have dc := H1.out.at (i := s.pl + k) (by rw [HN.out]; omega)
      have dd : off + s.pl + k = off + (s.pl + k) := Nat.add_assoc _ _ _
      rw [← dd] at dc
      clear dd
      have hv1 := le_take_succ (l := (s.bs.drop s.pl).take 8) (k := k) (by rw [HRL.out]; exact hlt)
      rw [HGET.out k hlt, ← hr.out] at hv1
      generalize s.bs.getD (s.pl + k) 0 = y at *
      have hv := Lib.hid hv1
      have hy := byte_lt y
      have hn8 := le_take_lt ((s.bs.drop s.pl).take 8) k (by rw [HRL.out]; exact hk)
      rw [← hr.out] at hn8
      have key := shl8 (k := k) (n := n) hlt hy hn8
      have KEY := Lib.hid key
      clear hv1 hn8 hr key
      go_wp2
      exact ⟨⟨k + 1, _, by omega, by simp, congrArg (Value.int IntKind.u64) KEY.out.1, KEY.out.2, hv.out.symm, trivial⟩, by simp [intOf]; omega⟩
    · obtain rfl : k = 8 := by omega
      have hnL : n = leAt s := by
        have := hr.out
        rwa [List.take_of_length_le (l := (s.bs.drop s.pl).take 8) (by rw [HRL.out]; exact Nat.le_refl _)] at this
      clear hr hlt
      subst hnL
      by_cases hc : canon (leAt s) = leAt s
      · have hR : Hid (rFloat s = (leAt s, { s with pl := s.pl + 8 })) := by
          show _ = _
          unfold rFloat
          rw [if_neg (by simp [he]), if_neg (by rw [HN.out]; omega), if_neg (by simp [hc])]
        generalize leAt s = L at *
        go_wp2_with (first
          | (go_at_call 57; ((with_reducible refine (of_any L _).mono ?_); rintro x w2 ⟨rfl, rfl⟩))
          | (go_at_call 58; ((with_reducible refine (bits_any L _).mono ?_); rintro x w2 ⟨rfl, rfl⟩))
          | go_quiet (fail))
        go_ret
        rw [hR.out]
        exact ⟨rfl, (H1.out.drewN _).set1i (s.pl + 8) (by simp) (by rw [HN.out]; exact hl), (F1.out.drewN _).same (fr_set1 _ 1 _)⟩
      · have hR : Hid (rFloat s = (0, stopR 4 s.pl s)) := by
          show _ = _
          unfold rFloat
          rw [if_neg (by simp [he]), if_neg (by rw [HN.out]; omega), if_pos hc]
        generalize leAt s = L at *
        have hcc := canon_canon L
        have hne : (((canon L : Nat) : Int) != (L : Int)) = true := by rw [bne_iff_ne]; omega
        have C := Lib.hid hc
        clear hc
        go_wp2_with (first
          | (go_at_call 57; ((with_reducible refine (of_any L _).mono ?_); rintro x w2 ⟨rfl, rfl⟩))
          | (go_at_call 58; ((with_reducible refine (bits_any (canon L) _).mono ?_); rintro x w2 ⟨rfl, rfl⟩))
          | (go_at_call 56; ((with_reducible refine (meet_any (H1.out.drewN _) 4 s.pl).mono ?_); rintro x w2 ⟨rfl, h2, f2⟩; have H2 := Lib.hid h2; have F2 := Lib.hid f2; clear h2 f2))
          | go_quiet (fail))
        go_ret
        rw [hR.out]
        exact ⟨rfl, H2.out, (F1.out.drewN _).same F2.out⟩
theorem float_any (h : Rd 71 K w p v s) : Calls Try.prog 28 #[.pointer (some ⟨p, 0, none⟩)] w fun x w' => x = .returned (.float .f64 (rFloat s).1) ∧ Rd 71 K w' p v (rFloat s).2 ∧ Fr (fun k => k = p) w w' := by
  by_cases hl : leftR s < 8
  · exact float_left h hl
  · have h1 : s.er = 0 ∧ s.pl + 8 ≤ s.bs.length := by
      unfold leftR at hl
      split at hl
      · omega
      · rename_i h1; exact ⟨by simpa using h1, by omega⟩
    exact float_more h h1.1 h1.2
end
end Go.Proofs.Ytioopibmpcbcjaa
