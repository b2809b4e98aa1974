/- The contract of wire.Reader's integer: the number at the place, the place unmoved. Conditions: the reader's own bytes. -/
import Derived.Test.YtioopibmpcbcjaaR2
namespace Go.Proofs.Ytioopibmpcbcjaa
open Go.RowKit
theorem groups_none (ao : Option Addr) (cap : Nat) (w : World) : Calls Try.prog 66 #[.slice ao 0 cap] w fun x w' => x = .returned (.int .i64 0) ∧ w' = w :=
  groups_cells ao 0 0 cap [] (by simp) (by simp) w (by simp)
theorem groups_at (b off cap n G : Nat) (l : List UInt8) (hn : n = l.length) (hG : grp l = G) (hl : n ≤ 140737488355328) (w : World)
    (hcell : ∀ i, i < l.length → w.cell? ⟨b, off + i, none⟩ = some (.int .u8 ((l.getD i 0).toNat : Int))) :
    Calls Try.prog 66 #[.slice (some ⟨b, off, none⟩) n cap] w fun x w' => x = .returned (.int .i64 (G : Nat)) ∧ w' = w := by
  subst hn; subst hG
  exact groups_cells _ b off cap l (fun _ => rfl) hl w hcell
theorem join_at (b off cap n : Nat) (l : List UInt8) (hn : n = l.length) (h0 : 0 < n) (hg : grp l = n) (hl : n ≤ 140737488355328) (w : World)
    (hcell : ∀ i, i < l.length → w.cell? ⟨b, off + i, none⟩ = some (.int .u8 ((l.getD i 0).toNat : Int))) :
    Calls Try.prog 67 #[.slice (some ⟨b, off, none⟩) n cap] w fun x w' => x = .returned (.tuple #[.int .u64 (joinN l : Nat), .bool (joinB l)]) ∧ w' = w := by
  subst hn
  exact join_any b off cap l h0 hg hl w hcell
section
variable {K : Nat → Prop} {w : World} {p : Nat} {v : Value} {s : Rst}
theorem look_err (h : s.er ≠ 0) : look s = ((0, 0), s) := by unfold look; rw [if_pos h]
theorem look_short (h : s.er = 0) (hg : grp (s.bs.drop s.pl) = 0) : look s = ((0, 0), stopR 5 s.bs.length s) := by unfold look; rw [if_neg (by simp [h]), if_pos hg]
theorem look_form (h : s.er = 0) (hg : grp (s.bs.drop s.pl) ≠ 0) (hf : ¬ fits (rowAt s)) : look s = ((0, 0), stopR 4 s.pl s) := by unfold look; rw [if_neg (by simp [h]), if_neg hg, if_neg hf]
theorem look_ok (h : s.er = 0) (hg : grp (s.bs.drop s.pl) ≠ 0) (hf : fits (rowAt s)) : look s = ((unf (val (rowAt s)), grp (s.bs.drop s.pl)), s) := by unfold look; rw [if_neg (by simp [h]), if_neg hg, if_pos hf]
/-- What the reader's slice gives the walk where something is left. -/
theorem Rd.cells (h : Rd 71 K w p v s) (hl : s.pl < s.bs.length) : ∃ b off cap, v = .slice (some ⟨b, off, none⟩) s.bs.length cap ∧ s.bs.length ≤ cap ∧ cap ≤ 9223372036854775807 ∧ b < w.heap.size ∧ b ≠ p ∧
    ∀ i, i < s.bs.length → w.cell? ⟨b, off + i, none⟩ = some (.int .u8 ((s.bs.getD i 0).toNat : Int)) := by
  obtain ⟨ao, cap, hv, h1, h2, h3, h4⟩ := h.has
  rcases h4 with h4 | ⟨b, off, rfl, hB, hlt, hc⟩
  · rw [h4] at hl; simp at hl
  · exact ⟨b, off, cap, hv, h1, by unfold maxLen at h2; omega, hlt, h.lo b hB, hc⟩
theorem getD_drop (l : List UInt8) (k i : Nat) : (l.drop k).getD i 0 = l.getD (k + i) 0 := by
  simp [List.getD_eq_getElem?_getD, List.getElem?_drop]
theorem getD_take {l : List UInt8} {k i : Nat} (h : i < k) : (l.take k).getD i 0 = l.getD i 0 := by
  simp [List.getD_eq_getElem?_getD, h]
theorem integer_err (h : Rd 71 K w p v s) (he : s.er ≠ 0) : Calls Try.prog 54 #[.pointer (some ⟨p, 0, none⟩)] w fun x w' => x = .returned (.tuple #[.int .i64 (look s).1.1, .int .i64 ((look s).1.2 : Nat)]) ∧ Rd 71 K w' p v (look s).2 ∧ Fr (fun k => k = p) w w' := by
  rw [look_err he]
  have c2 := h.c2
  have hb : (s.er != 0) = true := by simp [he]
  have H := Lib.hid h; clear h he
  go_enter Try.func54, Try.ntmps54
  go_wp2
  go_returns
  exact ⟨rfl, H.out, Fr.refl _ _⟩
/-- Nothing is left. -/
theorem integer_end (h : Rd 71 K w p v s) (he : s.er = 0) (hl : s.pl = s.bs.length) : Calls Try.prog 54 #[.pointer (some ⟨p, 0, none⟩)] w fun x w' => x = .returned (.tuple #[.int .i64 (look s).1.1, .int .i64 ((look s).1.2 : Nat)]) ∧ Rd 71 K w' p v (look s).2 ∧ Fr (fun k => k = p) w w' := by
  rw [look_short he (by rw [hl, List.drop_length]; rfl)]
  have c0 := h.c0
  have c1 := h.c1
  have c2 := h.c2
  rw [he] at c2
  rw [hl] at c1
  have H := Lib.hid h
  obtain ⟨ao, cap, hv, h1, h2, h3, _⟩ := h.has
  have hp := h.pla rfl
  clear h
  rw [hv] at c0
  have hroom := H.out.room
  rcases hp with hp | ⟨b, off, n, c, hp⟩
  · rw [hv] at hp
    simp at hp
    obtain ⟨rfl, hbs, rfl⟩ := hp
    have HB := Lib.hid hbs
    rw [hbs] at c0 c1
    simp only [List.length_nil] at c0 c1
    clear h3 h1 hbs
    go_enter Try.func54, Try.ntmps54
    go_wp2_with (first
      | (go_at_call 66; refine (groups_none _ _ _).mono ?_; rintro x w1 ⟨rfl, rfl⟩)
      | (go_at_call 56; refine (meet_any (H.out.drewN _) 5 0).mono ?_; rintro x w1 ⟨rfl, h1, f1⟩; have H1 := Lib.hid h1; have F1 := Lib.hid f1; clear h1 f1)
      | go_quiet (fail))
    go_returns
    have := H1.out
    rw [show (0 : Nat) = s.bs.length by rw [HB.out]; rfl] at this
    exact ⟨rfl, this, Fr.same ((Fr.refl _ w).drewN _) F1.out⟩
  · rw [hv] at hp
    simp at hp
    obtain ⟨rfl, hnn, rfl⟩ := hp
    clear hnn
    have hcap : cap ≤ 9223372036854775807 := by unfold maxLen at h2; omega
    clear h2 h3 hl hv
    generalize hN : s.bs.length = N at *
    have HN := Lib.hid hN; clear hN
    go_enter Try.func54, Try.ntmps54
    go_wp2_with (first
      | (go_at_call 66; refine (groups_none _ _ _).mono ?_; rintro x w1 ⟨rfl, rfl⟩)
      | (go_at_call 56; refine (meet_any (H.out.drewN _) 5 N).mono ?_; rintro x w1 ⟨rfl, h1, f1⟩; have H1 := Lib.hid h1; have F1 := Lib.hid f1; clear h1 f1)
      | go_quiet (fail))
    all_goals go_returns
    all_goals exact ⟨rfl, H1.out, Fr.same ((Fr.refl _ w).drewN _) F1.out⟩
/-- Something is left. -/
theorem integer_more (h : Rd 71 K w p v s) (he : s.er = 0) (hl : s.pl < s.bs.length) : Calls Try.prog 54 #[.pointer (some ⟨p, 0, none⟩)] w fun x w' => x = .returned (.tuple #[.int .i64 (look s).1.1, .int .i64 ((look s).1.2 : Nat)]) ∧ Rd 71 K w' p v (look s).2 ∧ Fr (fun k => k = p) w w' := by
  have c0 := h.c0
  have c1 := h.c1
  have c2 := h.c2
  rw [he] at c2
  have hroom := h.room
  have H := Lib.hid h
  obtain ⟨b, off, cap, hv, h1, h2, h3, h4, hc⟩ := h.cells hl
  rw [hv] at c0
  clear h h3 h4
  have HE := Lib.hid he
  generalize hrest : s.bs.drop s.pl = rest
  have hrl : s.bs.length - s.pl = rest.length := by rw [← hrest, List.length_drop]
  have hcr : ∀ i, i < rest.length → w.cell? ⟨b, off + s.pl + i, none⟩ = some (.int .u8 ((rest.getD i 0).toNat : Int)) := fun i hi => by
    rw [← hrest, getD_drop, Nat.add_assoc]; exact hc _ (by omega)
  have HR := Lib.hid hrest
  have HRL := Lib.hid hrl
  have HCR := Lib.hid hcr
  have hgl := grp_le rest
  rw [← hrl] at hgl
  clear hc hcr hrl hrest hv he
  have HRowAt : Hid (rowAt s = rest.take (grp rest)) := by show _ = _; unfold rowAt; rw [HR.out]
  generalize hG : grp rest = G at *
  have HG := Lib.hid hG
  by_cases h0 : G = 0
  · subst h0
    have HL : Hid (look s = ((0, 0), stopR 5 s.bs.length s)) := look_short HE.out (by rw [HR.out]; exact hG)
    rw [HL.out]
    clear hG
    generalize s.bs.length = N at *
    go_enter Try.func54, Try.ntmps54
    go_wp2_with (first
      | (go_at_call 66; ((with_reducible refine (groups_at b (off + s.pl) (cap - s.pl) (N - s.pl) 0 rest HRL.out HG.out (by omega) _ (fun i hi => by simpa using HCR.out i hi)).mono ?_); rintro x w1 ⟨rfl, rfl⟩))
      | (go_at_call 56; ((with_reducible refine (meet_any (H.out.drewN _) 5 N).mono ?_); rintro x w1 ⟨rfl, h1, f1⟩; have H1 := Lib.hid h1; have F1 := Lib.hid f1; clear h1 f1))
      | go_quiet (fail))
    go_returns
    exact ⟨rfl, H1.out, Fr.same ((Fr.refl _ w).drewN _) F1.out⟩
  · have h0' : ((G : Int) == 0) = false := by rw [beq_eq_false_iff_ne]; omega
    have hne : grp (s.bs.drop s.pl) ≠ 0 := by rw [HR.out, hG]; exact h0
    have hgt : grp (rest.take G) = G := by have := grp_take (l := rest) (by rw [hG]; exact h0); rwa [hG] at this
    have hlt : G = (rest.take G).length := by rw [List.length_take, ← HRL.out]; omega
    have HCT : Hid (∀ i, i < (rest.take G).length → w.cell? ⟨b, off + s.pl + i, none⟩ = some (.int .u8 (((rest.take G).getD i 0).toNat : Int))) := fun i hi => by
      rw [← hlt] at hi
      rw [getD_take hi]
      exact HCR.out i (by rw [← HRL.out]; omega)
    have HGT := Lib.hid hgt
    have HLT := Lib.hid hlt
    by_cases hf : fits (rest.take G)
    · have HL : Hid (look s = ((unf (val (rest.take G)), G), s)) := by
        show _ = _
        rw [look_ok HE.out hne (by rw [HRowAt.out]; exact hf), HRowAt.out, HR.out, hG]
      rw [HL.out]
      have hjb := joinB_yes hf
      have hjn := joinN_yes hf
      have hU := hf.2
      clear hgt hlt hne hG hf
      generalize rest.take G = row at *
      generalize val row = U at *
      generalize s.bs.length = N at *
      go_enter Try.func54, Try.ntmps54
      go_wp2_with (first
        | (go_at_call 66; ((with_reducible refine (groups_at b (off + s.pl) (cap - s.pl) (N - s.pl) G rest HRL.out HG.out (by omega) _ (fun i hi => by simpa using HCR.out i hi)).mono ?_); rintro x w1 ⟨rfl, rfl⟩))
        | (go_at_call 67; ((with_reducible refine (join_at b (off + s.pl) (cap - s.pl) G row HLT.out (by omega) HGT.out (by omega) _ (fun i hi => by simpa using HCT.out i hi)).mono ?_); rintro x w1 ⟨rfl, rfl⟩))
        | (go_at_call 68; ((with_reducible refine (unfold_any U hU _).mono ?_); rintro x w1 ⟨rfl, rfl⟩))
        | go_quiet (fail))
      all_goals go_returns
      all_goals exact ⟨rfl, H.out.drewN _, (Fr.refl _ w).drewN _⟩
    · have HL : Hid (look s = ((0, 0), stopR 4 s.pl s)) := by
        show _ = _
        rw [look_form HE.out hne (by rw [HRowAt.out]; exact hf)]
      rw [HL.out]
      have hjb := joinB_no hf
      clear hgt hlt hne hG hf
      generalize rest.take G = row at *
      generalize s.bs.length = N at *
      go_enter Try.func54, Try.ntmps54
      go_wp2_with (first
        | (go_at_call 66; ((with_reducible refine (groups_at b (off + s.pl) (cap - s.pl) (N - s.pl) G rest HRL.out HG.out (by omega) _ (fun i hi => by simpa using HCR.out i hi)).mono ?_); rintro x w1 ⟨rfl, rfl⟩))
        | (go_at_call 67; ((with_reducible refine (join_at b (off + s.pl) (cap - s.pl) G row HLT.out (by omega) HGT.out (by omega) _ (fun i hi => by simpa using HCT.out i hi)).mono ?_); rintro x w1 ⟨rfl, rfl⟩))
        | (go_at_call 56; ((with_reducible refine (meet_any (H.out.drewN _) 4 s.pl).mono ?_); rintro x w1 ⟨rfl, h1, f1⟩; have H1 := Lib.hid h1; have F1 := Lib.hid f1; clear h1 f1))
        | go_quiet (fail))
      all_goals go_returns
      all_goals exact ⟨rfl, H1.out, Fr.same ((Fr.refl _ w).drewN _) F1.out⟩
theorem integer_any (h : Rd 71 K w p v s) : Calls Try.prog 54 #[.pointer (some ⟨p, 0, none⟩)] w fun x w' => x = .returned (.tuple #[.int .i64 (look s).1.1, .int .i64 ((look s).1.2 : Nat)]) ∧ Rd 71 K w' p v (look s).2 ∧ Fr (fun k => k = p) w w' := by
  by_cases he : s.er = 0
  · by_cases hl : s.pl = s.bs.length
    · exact integer_end h he hl
    · exact integer_more h he (by have := h.le; omega)
  · exact integer_err h he
end
end Go.Proofs.Ytioopibmpcbcjaa
