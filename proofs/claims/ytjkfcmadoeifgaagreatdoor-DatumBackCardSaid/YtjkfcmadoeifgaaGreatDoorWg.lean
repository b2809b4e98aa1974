/- Package wire in memory (X1, X2): ported. Conditions: those of each law. -/
import Derived.Test.YtjkfcmadoeifgaaGreatDoorWd
namespace Go.Proofs.YtjkfcmadoeifgaaGreatDoor
section
open Go.RowKit
section
variable {t : TypeId} {K : Nat → Prop} {w : World} {p : Nat} {v : Value} {s : Rst}
/-- What the reader's slice gives the walk where something is left. -/
theorem Rd.cellsT (h : Rd t K w p v s) (hl : s.pl < s.bs.length) : ∃ b off cap, v = .slice (some ⟨b, off, none⟩) s.bs.length cap ∧ s.bs.length ≤ cap ∧ cap ≤ 9223372036854775807 ∧ b < w.heap.size ∧ b ≠ p ∧
    ∀ i, i < s.bs.length → w.cell? ⟨b, off + i, none⟩ = some (.int .u8 ((s.bs.getD i 0).toNat : Int)) := by
  obtain ⟨ao, cap, rfl, h1, h2, _, h4⟩ := h.has
  rcases h4 with h4 | ⟨b, off, rfl, hB, hlt, hc⟩
  · rw [h4] at hl; simp at hl
  · exact ⟨b, off, cap, rfl, h1, by unfold maxLen at h2; omega, hlt, h.lo b hB, hc⟩
end
end
section
open Go.RowKit
theorem le_drop {l : List UInt8} {j : Nat} (h : j < l.length) : le (l.drop j) = (l.getD j 0).toNat + 256 * le (l.drop (j + 1)) := by
  rw [List.drop_eq_getElem_cons h, List.getD_eq_getElem?_getD, List.getElem?_eq_getElem h]
  rfl
/-- A byte behind the others, in 64 bits. -/
theorem shl_byte {n y : Nat} (hn : n < 72057594037927936) (hy : y < 256) : bits .or .u64 ((n : Int) * 256) (y : Int) = ((y + 256 * n : Nat) : Int) := by
  rw [show ((n : Int) * 256) = ((n * 256 : Nat) : Int) by simp, bor (by omega) (by omega)]
  congr 1
  rw [Nat.or_comm, show n * 256 = n * 2 ^ 8 by rfl, or_add (i := 8) hy]
  omega
section
variable {t : TypeId} {K : Nat → Prop} {w : World} {p : Nat} {v : Value} {s : Rst}
theorem rfloat_dead (h : Rd 40 K w p v s) (he : s.er ≠ 0) : Calls Tryz.prog 51 #[.pointer (some ⟨p, 0, none⟩)] w fun x w' => x = .returned (.float .f64 (rFloat s).1) ∧ Rd 40 K w' p v (rFloat s).2 ∧ Fr (fun k => k = p) w w' := by
  have hR : rFloat s = (0, s) := by unfold rFloat; rw [if_pos he]
  rw [hR]
  have c2 := h.c2
  have hb : (s.er != 0) = true := by rw [bne_iff_ne]; exact he
  have H := Lib.hid h
  clear h hR he
  go_enter Tryz.func51, Tryz.ntmps51
  go_wp2
  go_ret
  exact ⟨rfl, H.out, Fr.refl _ _⟩
theorem rfloat_end (h : Rd 40 K w p v s) (he : s.er = 0) (hl : s.bs.length < s.pl + 8) : Calls Tryz.prog 51 #[.pointer (some ⟨p, 0, none⟩)] w fun x w' => x = .returned (.float .f64 (rFloat s).1) ∧ Rd 40 K w' p v (rFloat s).2 ∧ Fr (fun k => k = p) w w' := by
  have hR : rFloat s = (0, stopR 5 s.bs.length s) := by unfold rFloat; rw [if_neg (by simp [he]), if_pos hl]
  rw [hR]
  have c2 := h.c2
  have c1 := h.c1
  have c0 := h.c0
  rw [he] at c2
  have hroom := h.room
  have hle := h.le
  have H := Lib.hid h
  obtain ⟨ao, cap, rfl, _⟩ := h.has
  clear h hR he
  generalize s.bs.length = N at *
  generalize s.pl = q at *
  have hlt : (N : Int) - (q : Int) < 8 := by omega
  go_enter Tryz.func51, Tryz.ntmps51
  go_wp2_with (first
    | (go_at_call 80; ((with_reducible refine (stop_any (H.out.drewN _) 5 N).mono ?_); rintro x w2 ⟨rfl, h2, f2⟩; have H2 := Lib.hid h2; have F2 := Lib.hid f2; clear h2 f2))
    | go_quiet (fail))
  go_ret
  exact ⟨rfl, H2.out, Fr.same ((Fr.refl _ _).drewN _) F2.out⟩
set_option maxRecDepth 100000 in
theorem rfloat_more (h : Rd 40 K w p v s) (he : s.er = 0) (hl : s.pl + 8 ≤ s.bs.length) : Calls Tryz.prog 51 #[.pointer (some ⟨p, 0, none⟩)] w fun x w' => x = .returned (.float .f64 (rFloat s).1) ∧ Rd 40 K w' p v (rFloat s).2 ∧ Fr (fun k => k = p) w w' := by
  have c2 := h.c2
  have c1 := h.c1
  have c0 := h.c0
  have fr1 := h.free 1
  rw [he] at c2
  have hroom := h.room
  have H := Lib.hid h
  have HE := Lib.hid he
  have hrl : ((s.bs.drop s.pl).take 8).length = 8 := by rw [List.length_take, List.length_drop]; omega
  have HGET : Hid (∀ j, j < 8 → ((s.bs.drop s.pl).take 8).getD j 0 = s.bs.getD (s.pl + j) 0) := fun j hj => by rw [getD_take hj, getD_drop]
  have hLT : ∀ j, j ≤ 8 → le (((s.bs.drop s.pl).take 8).drop j) < 256 ^ (8 - j) := fun j hj => by
    have := le_lt (((s.bs.drop s.pl).take 8).drop j)
    rw [List.length_drop, hrl, Nat.pow_mul] at this
    exact this
  have HLT := Lib.hid hLT
  have HRL := Lib.hid hrl
  obtain ⟨b, off, cap, rfl, hcap, hc63, _, _, hc⟩ := h.cellsT (by omega)
  have HC := Lib.hid hc
  clear h he hLT hrl hc
  have HT : Hid (∃ T, T = (s.bs.drop s.pl).take 8) := ⟨_, rfl⟩
  obtain ⟨T, hT⟩ := HT.out
  have HLE : Hid (leAt s = le T) := by show _ = _; unfold leAt; rw [hT]
  rw [← hT] at HGET HLT HRL
  clear hT HT
  generalize hN : s.bs.length = N at *
  have HN := Lib.hid hN
  generalize hq : s.pl = q at *
  have HQ := Lib.hid hq
  clear hN hq
  have hnl : ¬ ((N : Int) - (q : Int) < 8) := by omega
  go_enter Tryz.func51, Tryz.ntmps51
  go_wp2_with (first
    | go_quiet (fail))
  go_loopw [3, 4] (fun u i wr => ∃ j : Nat, j ≤ 8 ∧ i = .int .i64 ((j : Int) - 1) ∧ u = .int .u64 (le (T.drop j)) ∧ ∃ nq, wr = w.drewN nq) (fun _ i _ => (intOf i + 1).toNat)
  case atStart => exact ⟨8, Nat.le_refl _, rfl, by rw [List.drop_eq_nil_of_le (by rw [HRL.out]; exact Nat.le_refl _)]; rfl, _, rfl⟩
  case round =>
    obtain ⟨j, hj, rfl, rfl, nq', rfl⟩ := hrel
    by_cases h0 : j = 0
    · subst h0
      rw [show (((0 : Nat) : Int) - 1) = -1 by rfl, List.drop_zero, ← HLE.out]
      have hL64 : leAt s < 18446744073709551616 := by
        rw [HLE.out]
        have := HLT.out 0 (by omega)
        rwa [List.drop_zero] at this
      clear HLE HLT HGET HRL
      by_cases hc : canon (leAt s) = leAt s
      · have hR : Hid (rFloat s = (leAt s, { s with pl := s.pl + 8 })) := by
          show _ = _
          unfold rFloat
          rw [if_neg (by simp [HE.out]), if_neg (by rw [HN.out, HQ.out]; omega), if_neg (by simp [hc])]
        generalize leAt s = L at *
        go_wp2_with (first
          | (go_at_call 81; ((with_reducible refine (rof_any L _).mono ?_); rintro x w2 ⟨rfl, rfl⟩))
          | (go_at_call 82; ((with_reducible refine (rbits_any L _).mono ?_); rintro x w2 ⟨rfl, rfl⟩))
          | go_quiet (fail))
        go_ret
        rw [hR.out]
        exact ⟨rfl, by have := (H.out.drewN nq').set1i (s.pl + 8) (y := (q : Int) + 8) (by rw [HQ.out]; simp) (by rw [HN.out, HQ.out]; exact hl); exact this, ((Fr.refl _ _).drewN _).same (fr_set1 _ 1 _)⟩
      · have hR : Hid (rFloat s = (0, stopR 4 s.pl s)) := by
          show _ = _
          unfold rFloat
          rw [if_neg (by simp [HE.out]), if_neg (by rw [HN.out, HQ.out]; omega), if_pos hc]
        rw [HQ.out] at hR
        generalize leAt s = L at *
        have hcc := canon_canon L
        have hne : (((canon L : Nat) : Int) != (L : Int)) = true := by rw [bne_iff_ne]; omega
        have C := Lib.hid hc
        clear hc
        go_wp2_with (first
          | (go_at_call 81; ((with_reducible refine (rof_any L _).mono ?_); rintro x w2 ⟨rfl, rfl⟩))
          | (go_at_call 82; ((with_reducible refine (rbits_any (canon L) _).mono ?_); rintro x w2 ⟨rfl, rfl⟩))
          | (go_at_call 80; ((with_reducible refine (stop_any (H.out.drewN _) 4 q).mono ?_); rintro x w2 ⟨rfl, h2, f2⟩; have H2 := Lib.hid h2; have F2 := Lib.hid f2; clear h2 f2))
          | go_quiet (fail))
        go_ret
        rw [hR.out]
        exact ⟨rfl, H2.out, Fr.same ((Fr.refl _ _).drewN _) F2.out⟩
    · obtain ⟨i, rfl⟩ : ∃ i, j = i + 1 := ⟨j - 1, by omega⟩
      have dc := HC.out (q + i) (by omega)
      have dd : off + q + i = off + (q + i) := Nat.add_assoc _ _ _
      have hd := le_drop (l := T) (j := i) (by rw [HRL.out]; omega)
      rw [HGET.out i (by omega)] at hd
      have hn8 := HLT.out (i + 1) (by omega)
      have hn8' : le (T.drop (i + 1)) < 72057594037927936 := Nat.lt_of_lt_of_le hn8 (by
        have := Nat.pow_le_pow_right (n := 256) (by omega) (show 8 - (i + 1) ≤ 7 by omega)
        exact this)
      rw [show (((i + 1 : Nat) : Int) - 1) = (i : Int) by omega]
      generalize s.bs.getD (q + i) 0 = y at *
      generalize le (T.drop (i + 1)) = n at *
      have hy := byte_lt y
      have KEY := Lib.hid (shl_byte hn8' hy)
      have HD := Lib.hid hd
      have HDD := Lib.hid dd
      clear hd hn8 dd
      go_wp2_with (first
        | go_quiet (fail))
      exact ⟨⟨i, by omega, rfl, by rw [HD.out, KEY.out], _, rfl⟩, by simp [intOf]⟩
theorem rfloat_any (h : Rd 40 K w p v s) : Calls Tryz.prog 51 #[.pointer (some ⟨p, 0, none⟩)] w fun x w' => x = .returned (.float .f64 (rFloat s).1) ∧ Rd 40 K w' p v (rFloat s).2 ∧ Fr (fun k => k = p) w w' := by
  by_cases he : s.er = 0
  · by_cases hl : s.bs.length < s.pl + 8
    · exact rfloat_end h he hl
    · exact rfloat_more h he (by omega)
  · exact rfloat_dead h he
end
end
end Go.Proofs.YtjkfcmadoeifgaaGreatDoor
