/- The contracts of raceref2.Reader's Flag. Conditions: the reader's own bytes. -/
import Derived.Test.YtioopibmpcbcjaaR7
namespace Go.Proofs.Ytioopibmpcbcjaa
open Go.RowKit
section
variable {t : TypeId} {K : Nat → Prop} {w : World} {p : Nat} {v : Value} {s : Rst}
/-- What the reader's slice gives the walk where something is left. -/
theorem Rd.cellsT (h : Rd t K w p v s) (hl : s.pl < s.bs.length) : ∃ b off cap, v = .slice (some ⟨b, off, none⟩) s.bs.length cap ∧ s.bs.length ≤ cap ∧ cap ≤ 9223372036854775807 ∧ b < w.heap.size ∧ b ≠ p ∧
    ∀ i, i < s.bs.length → w.cell? ⟨b, off + i, none⟩ = some (.int .u8 ((s.bs.getD i 0).toNat : Int)) := by
  obtain ⟨ao, cap, rfl, h1, h2, _, h4⟩ := h.has
  rcases h4 with h4 | ⟨b, off, rfl, hB, hlt, hc⟩
  · rw [h4] at hl; simp at hl
  · exact ⟨b, off, cap, rfl, h1, by unfold maxLen at h2; omega, hlt, h.lo b hB, hc⟩
theorem rflag_dead (h : Rd 41 K w p v s) (he : s.er ≠ 0) : Calls Try.prog 45 #[.pointer (some ⟨p, 0, none⟩)] w fun x w' => x = .returned (.bool (rFlag s).1) ∧ Rd 41 K w' p v (rFlag s).2 ∧ Fr (fun k => k = p) w w' := by
  have hR : rFlag s = (false, s) := by unfold rFlag; rw [if_pos he]
  rw [hR]
  have c2 := h.c2
  have hb : (s.er != 0) = true := by rw [bne_iff_ne]; exact he
  have H := Lib.hid h
  clear h hR he
  go_enter Try.func45, Try.ntmps45
  go_wp2
  go_ret
  exact ⟨rfl, H.out, Fr.refl _ _⟩
theorem rflag_end (h : Rd 41 K w p v s) (he : s.er = 0) (hl : s.pl = s.bs.length) : Calls Try.prog 45 #[.pointer (some ⟨p, 0, none⟩)] w fun x w' => x = .returned (.bool (rFlag s).1) ∧ Rd 41 K w' p v (rFlag s).2 ∧ Fr (fun k => k = p) w w' := by
  have hR : rFlag s = (false, stopR 5 s.bs.length s) := by unfold rFlag; rw [if_neg (by simp [he]), if_pos hl]
  rw [hR]
  have c2 := h.c2
  have c1 := h.c1
  have c0 := h.c0
  rw [he] at c2
  rw [hl] at c1
  have hroom := h.room
  have H := Lib.hid h
  obtain ⟨ao, cap, rfl, _⟩ := h.has
  clear h hR he hl
  generalize s.bs.length = N at *
  have hb : ((N : Int) == (N : Int)) = true := beq_self_eq_true _
  go_enter Try.func45, Try.ntmps45
  go_wp2_with (first
    | (go_at_call 62; ((with_reducible refine (stop_any (H.out.drewN _) 5 N).mono ?_); rintro x w2 ⟨rfl, h2, f2⟩; have H2 := Lib.hid h2; have F2 := Lib.hid f2; clear h2 f2))
    | go_quiet (fail))
  go_ret
  exact ⟨rfl, H2.out, Fr.same ((Fr.refl _ _).drewN _) F2.out⟩
theorem rflag_form (h : Rd 41 K w p v s) (he : s.er = 0) (hl : s.pl < s.bs.length) (hx : 1 < (s.bs.getD s.pl 0).toNat) : Calls Try.prog 45 #[.pointer (some ⟨p, 0, none⟩)] w fun x w' => x = .returned (.bool (rFlag s).1) ∧ Rd 41 K w' p v (rFlag s).2 ∧ Fr (fun k => k = p) w w' := by
  have hR : rFlag s = (false, stopR 4 s.pl s) := by
    unfold rFlag
    rw [if_neg (by simp [he]), if_neg (by omega), if_pos hx]
  rw [hR]
  have c2 := h.c2
  have c1 := h.c1
  have c0 := h.c0
  rw [he] at c2
  have hroom := h.room
  obtain ⟨b, off, cap, rfl, hcap, hc63, _, _, hc⟩ := h.cellsT hl
  have dc := hc s.pl hl
  have H := Lib.hid h
  have hne : ((s.pl : Int) == (s.bs.length : Int)) = false := by rw [beq_eq_false_iff_ne]; omega
  clear h hR he hc
  generalize s.bs.getD s.pl 0 = X at *
  generalize s.bs.length = N at *
  generalize hq : s.pl = q at *
  have HQ := Lib.hid hq
  clear hq
  go_enter Try.func45, Try.ntmps45
  go_wp2_with (first
    | (go_at_call 62; ((with_reducible refine (stop_any (H.out.drewN _) 4 q).mono ?_); rintro x w2 ⟨rfl, h2, f2⟩; have H2 := Lib.hid h2; have F2 := Lib.hid f2; clear h2 f2))
    | go_quiet (fail))
  go_ret
  exact ⟨rfl, H2.out, Fr.same ((Fr.refl _ _).drewN _) F2.out⟩
theorem rflag_ok (h : Rd 41 K w p v s) (he : s.er = 0) (hl : s.pl < s.bs.length) (hx : ¬ 1 < (s.bs.getD s.pl 0).toNat) : Calls Try.prog 45 #[.pointer (some ⟨p, 0, none⟩)] w fun x w' => x = .returned (.bool (rFlag s).1) ∧ Rd 41 K w' p v (rFlag s).2 ∧ Fr (fun k => k = p) w w' := by
  have hR : rFlag s = ((s.bs.getD s.pl 0).toNat == 1, { s with pl := s.pl + 1 }) := by
    unfold rFlag
    rw [if_neg (by simp [he]), if_neg (by omega), if_neg hx]
  rw [hR]
  have c2 := h.c2
  have c1 := h.c1
  have c0 := h.c0
  have fr1 := h.free 1
  rw [he] at c2
  have hroom := h.room
  obtain ⟨b, off, cap, rfl, hcap, hc63, _, _, hc⟩ := h.cellsT hl
  have dc := hc s.pl hl
  have H := Lib.hid h
  have HL := Lib.hid hl
  have hne : ((s.pl : Int) == (s.bs.length : Int)) = false := by rw [beq_eq_false_iff_ne]; omega
  clear h hR he hc
  obtain ⟨X, hX⟩ : ∃ X, X = s.bs.getD s.pl 0 := ⟨_, rfl⟩
  rw [← hX] at hx dc ⊢
  clear hX
  have HEQ : Hid (((X.toNat : Int) == 1) = (X.toNat == 1)) := by
    show _ = _
    rcases (show X.toNat = 0 ∨ X.toNat = 1 by omega) with h | h <;> rw [h] <;> rfl
  generalize hN : s.bs.length = N at *
  have HN := Lib.hid hN
  clear hN
  go_enter Try.func45, Try.ntmps45
  go_wp2_with (first
    | go_quiet (fail))
  go_ret
  refine ⟨?_, ((H.out.drewN _).set1i (s.pl + 1) (by simp) (by rw [HN.out]; exact hl)), (((Fr.refl _ _).drewN _).same (fr_set1 _ 1 _))⟩
  show Ending.returned (Value.bool (((X.toNat : Int) == 1))) = _
  rw [HEQ.out]
theorem rflag_any (h : Rd 41 K w p v s) : Calls Try.prog 45 #[.pointer (some ⟨p, 0, none⟩)] w fun x w' => x = .returned (.bool (rFlag s).1) ∧ Rd 41 K w' p v (rFlag s).2 ∧ Fr (fun k => k = p) w w' := by
  by_cases he : s.er = 0
  · by_cases hl : s.pl = s.bs.length
    · exact rflag_end h he hl
    · have hlt : s.pl < s.bs.length := by have := h.le; omega
      by_cases hx : 1 < (s.bs.getD s.pl 0).toNat
      · exact rflag_form h he hlt hx
      · exact rflag_ok h he hlt hx
  · exact rflag_dead h he
end
end Go.Proofs.Ytioopibmpcbcjaa
