/- The contracts of wire.Reader's Flag and Float. Conditions: the reader's own bytes. -/
import Derived.Test.YtioopibmpcbcjaaR5
namespace Go.Proofs.Ytioopibmpcbcjaa
open Go.RowKit
section
variable {t : TypeId} {K : Nat → Prop} {w : World} {p : Nat} {v : Value} {s : Rst}
theorem Rd.at {b off n cap : Nat} (h : Rd t K w p (.slice (some ⟨b, off, none⟩) n cap) s) {i : Nat} (hi : i < s.bs.length) : w.cell? ⟨b, off + i, none⟩ = some (.int .u8 ((s.bs.getD i 0).toNat : Int)) := by
  obtain ⟨ao, cap, hv, h1, h2, h3, h4⟩ := h.has
  simp at hv
  obtain ⟨rfl, _, rfl⟩ := hv
  rcases h4 with h4 | ⟨b', off', he, _, _, hc⟩
  · rw [h4] at hi; simp at hi
  · simp at he
    obtain ⟨rfl, rfl⟩ := he
    exact hc i hi
theorem Rd.set1i (h : Rd t K w p v s) (q : Nat) {y : Int} (hy : y = q) (hq : q ≤ s.bs.length) : Rd t K (w.setCell ⟨p, 1, none⟩ (.int .i64 y)) p v { s with pl := q } := by
  subst hy; exact h.set1 q hq
theorem flag_left (h : Rd 71 K w p v s) (hl : leftR s = 0) : Calls Try.prog 27 #[.pointer (some ⟨p, 0, none⟩)] w fun x w' => x = .returned (.bool (rFlag s).1) ∧ Rd 71 K w' p v (rFlag s).2 ∧ Fr (fun k => k = p) w w' := by
  have hle := h.le
  have hR : rFlag s = (false, stopR 5 s.bs.length s) := by
    unfold rFlag
    unfold leftR at hl
    split
    · rename_i he; rw [stop_not he]
    · rename_i he
      rw [if_neg he] at hl
      rw [if_pos (by omega)]
  rw [hR]
  have hb : ((stopR 5 s.bs.length s).er != 0) = true := by rw [bne_iff_ne]; exact stop_er (by decide) _ _
  have H := Lib.hid h
  have hroom := h.room
  obtain ⟨ao, cap, hv, _⟩ := h.has
  have HV := Lib.hid hv
  clear h hR hv
  generalize s.bs.length = N at *
  go_enter Try.func27, Try.ntmps27
  go_wp2_with (first
    | (go_at_call 33; refine (left_any H.out).mono ?_; rintro x w1 ⟨rfl, h1, f1⟩; have d0 := h1.c0; rw [HV.out] at d0; have H1 := Lib.hid h1; have F1 := Lib.hid f1; clear h1 f1)
    | (go_at_call 56; ((with_reducible refine (meet_any H1.out 5 N).mono ?_); rintro x w2 ⟨rfl, h2, f2⟩; have d2 := h2.c2; have H2 := Lib.hid h2; have F2 := Lib.hid f2; clear h2 f2))
    | go_quiet (fail))
  go_ret
  exact ⟨rfl, H2.out, F1.out.same F2.out⟩
theorem flag_form (h : Rd 71 K w p v s) (he : s.er = 0) (hl : s.pl < s.bs.length) (hx : 1 < (s.bs.getD s.pl 0).toNat) : Calls Try.prog 27 #[.pointer (some ⟨p, 0, none⟩)] w fun x w' => x = .returned (.bool (rFlag s).1) ∧ Rd 71 K w' p v (rFlag s).2 ∧ Fr (fun k => k = p) w w' := by
  have hR : rFlag s = (false, stopR 4 s.pl s) := by
    unfold rFlag
    rw [if_neg (by simp [he]), if_neg (by omega), if_pos hx]
  rw [hR]
  have hb : ((stopR 4 s.pl s).er != 0) = true := by rw [bne_iff_ne]; exact stop_er (by decide) _ _
  have hL : leftR s = s.bs.length - s.pl := by unfold leftR; rw [if_neg (by simp [he])]
  have hleft : ((leftR s : Nat) : Int) ≠ 0 := by omega
  have hleft2 : (((leftR s : Nat) : Int) == 0) = false := by rw [beq_eq_false_iff_ne]; exact hleft
  have hroom := h.room
  obtain ⟨b, off, cap, rfl, hcap, hc63, _, _, _⟩ := h.cells hl
  have H := Lib.hid h
  have HL := Lib.hid hl
  clear h hR hL hleft he
  have HX : Hid (∃ X, X = s.bs.getD s.pl 0) := ⟨_, rfl⟩
  obtain ⟨X, hX⟩ := HX.out
  rw [← hX] at hx
  have HXE := Lib.hid hX
  clear hX
  generalize hN : s.bs.length = N at *
  have HN := Lib.hid hN
  clear hN
  go_enter Try.func27, Try.ntmps27
  go_wp2_with (first
    | (go_at_call 33; refine (left_any H.out).mono ?_; rintro x w1 ⟨rfl, h1, f1⟩; have d0 := h1.c0; have d1 := h1.c1; have dc := h1.at (i := s.pl) (by rw [HN.out]; exact hl); rw [← HXE.out] at dc; have H1 := Lib.hid h1; have F1 := Lib.hid f1; clear h1 f1)
    | (go_at_call 56; ((with_reducible refine (meet_any (H1.out.drewN _) 4 s.pl).mono ?_); rintro x w2 ⟨rfl, h2, f2⟩; have d2 := h2.c2; have H2 := Lib.hid h2; have F2 := Lib.hid f2; clear h2 f2))
    | go_quiet (fail))
  go_ret
  exact ⟨rfl, H2.out, (F1.out.drewN _).same F2.out⟩
theorem flag_ok (h : Rd 71 K w p v s) (he : s.er = 0) (hl : s.pl < s.bs.length) (hx : ¬ 1 < (s.bs.getD s.pl 0).toNat) : Calls Try.prog 27 #[.pointer (some ⟨p, 0, none⟩)] w fun x w' => x = .returned (.bool (rFlag s).1) ∧ Rd 71 K w' p v (rFlag s).2 ∧ Fr (fun k => k = p) w w' := by
  have hR : rFlag s = ((s.bs.getD s.pl 0).toNat == 1, { s with pl := s.pl + 1 }) := by
    unfold rFlag
    rw [if_neg (by simp [he]), if_neg (by omega), if_neg hx]
  rw [hR]
  have hb : (s.er != 0) = false := by rw [bne_eq_false_iff_eq]; exact he
  have hL : leftR s = s.bs.length - s.pl := by unfold leftR; rw [if_neg (by simp [he])]
  have hleft : ((leftR s : Nat) : Int) ≠ 0 := by omega
  have hleft2 : (((leftR s : Nat) : Int) == 0) = false := by rw [beq_eq_false_iff_ne]; exact hleft
  have hroom := h.room
  obtain ⟨b, off, cap, rfl, hcap, hc63, _, _, _⟩ := h.cells hl
  have H := Lib.hid h
  have HL := Lib.hid hl
  clear h hR hL hleft he
  have HX : Hid (∃ X, X = s.bs.getD s.pl 0) := ⟨_, rfl⟩
  obtain ⟨X, hX⟩ := HX.out
  rw [← hX] at hx ⊢
  have HXE := Lib.hid hX
  clear hX
  generalize hN : s.bs.length = N at *
  have HN := Lib.hid hN
  clear hN
  have hx' : X.toNat ≤ 1 := by omega
  have HEQ : Hid (((X.toNat : Int) == 1) = (X.toNat == 1)) := by
    show _ = _
    rcases (show X.toNat = 0 ∨ X.toNat = 1 by omega) with h | h <;> rw [h] <;> rfl
  go_enter Try.func27, Try.ntmps27
  go_wp2_with (first
    | (go_at_call 33; refine (left_any H.out).mono ?_; rintro x w1 ⟨rfl, h1, f1⟩; have d0 := h1.c0; have d1 := h1.c1; have d2 := h1.c2; have fr1 := h1.free 1; have dc := h1.at (i := s.pl) (by rw [HN.out]; exact hl); rw [← HXE.out] at dc; have H1 := Lib.hid h1; have F1 := Lib.hid f1; clear h1 f1)
    | go_quiet (fail))
  go_ret
  refine ⟨?_, ((H1.out.drewN _).set1i (s.pl + 1) (by simp) (by rw [HN.out]; exact hl)).drewN _, ((F1.out.drewN _).same (fr_set1 _ 1 _)).drewN _⟩
  show Ending.returned (Value.bool (((X.toNat : Int) == 1))) = _
  rw [HEQ.out]
theorem flag_any (h : Rd 71 K w p v s) : Calls Try.prog 27 #[.pointer (some ⟨p, 0, none⟩)] w fun x w' => x = .returned (.bool (rFlag s).1) ∧ Rd 71 K w' p v (rFlag s).2 ∧ Fr (fun k => k = p) w w' := by
  by_cases hl : leftR s = 0
  · exact flag_left h hl
  · have h1 : s.er = 0 ∧ s.pl < s.bs.length := by
      unfold leftR at hl
      split at hl
      · exact absurd rfl hl
      · rename_i h1; exact ⟨by simpa using h1, by omega⟩
    by_cases hx : 1 < (s.bs.getD s.pl 0).toNat
    · exact flag_form h h1.1 h1.2 hx
    · exact flag_ok h h1.1 h1.2 hx
end
end Go.Proofs.Ytioopibmpcbcjaa
