/- Contracts of wire.Reader's Int, Count, Choice, Text, Flag, Float. Conditions: the reader's own bytes. -/
import Derived.Test.YtioopibmpcbcjaaR3
namespace Go.Proofs.Ytioopibmpcbcjaa
open Go.RowKit
section
variable {K : Nat → Prop} {w : World} {p : Nat} {v : Value} {s : Rst}
theorem fits_len {row : List UInt8} (h : fits row) : row.length ≤ 10 := by
  have := vb_len_le (val row) h.2; rwa [h.1] at this
/-- What a look leaves: the bytes and the place. -/
theorem look_keeps (s : Rst) : (look s).2.bs = s.bs ∧ (look s).2.pl = s.pl := by
  unfold look stopR; repeat' split
  all_goals exact ⟨rfl, rfl⟩
theorem look_size (h : s.pl ≤ s.bs.length) : s.pl + (look s).1.2 ≤ s.bs.length := by
  have hg := grp_le (s.bs.drop s.pl)
  rw [List.length_drop] at hg
  unfold look; repeat' split
  all_goals simp only []
  all_goals omega
theorem look_fault (h : (look s).2.er ≠ 0) : (look s).1 = (0, 0) := by
  unfold look at *; repeat' split at h
  all_goals repeat' split
  all_goals first | rfl | (exfalso; simp_all; done) | skip
theorem look_range : -9223372036854775808 ≤ (look s).1.1 ∧ (look s).1.1 < 9223372036854775808 := by
  unfold look; repeat' split
  · exact ⟨by simp, by simp⟩
  · exact ⟨by simp, by simp⟩
  · rename_i h; exact unf_range h.2
  · exact ⟨by simp, by simp⟩
theorem int_any (h : Rd 71 K w p v s) : Calls Try.prog 26 #[.pointer (some ⟨p, 0, none⟩)] w fun x w' => x = .returned (.int .i64 (rInt s).1) ∧ Rd 71 K w' p v (rInt s).2 ∧ Fr (fun k => k = p) w w' := by
  have hsz : (look s).2.pl + (look s).1.2 ≤ (look s).2.bs.length := by rw [(look_keeps s).1, (look_keeps s).2]; exact look_size h.le
  have H := Lib.hid h; clear h
  unfold rInt
  generalize hL : look s = L at *
  obtain ⟨⟨n, k⟩, s1⟩ := L
  simp only at hsz ⊢
  have HL := Lib.hid hL; clear hL
  have HS := Lib.hid hsz; clear hsz
  have hi := integer_any H.out
  rw [HL.out] at hi
  have HI := Lib.hid hi; clear hi
  go_enter Try.func26, Try.ntmps26
  go_wp2_with (first
    | (go_at_call 54; refine (HI.out).mono ?_; rintro x w1 ⟨rfl, h1, f1⟩; have H1 := Lib.hid h1; have F1 := Lib.hid f1; clear h1 f1)
    | (go_at_call 55; refine (number_any H1.out n k HS.out).mono ?_; rintro x w2 ⟨rfl, h2, f2⟩; have H2 := Lib.hid h2; have F2 := Lib.hid f2; clear h2 f2))
  go_ret
  exact ⟨rfl, H2.out, F1.out.same F2.out⟩
theorem count_any (h : Rd 71 K w p v s) (most : Int) : Calls Try.prog 31 #[.pointer (some ⟨p, 0, none⟩), .int .i64 most] w fun x w' => x = .returned (.int .i64 (rSz most 3 s).1) ∧ Rd 71 K w' p v (rSz most 3 s).2 ∧ Fr (fun k => k = p) w w' := by
  have hsz : (look s).2.pl + (look s).1.2 ≤ (look s).2.bs.length := by rw [(look_keeps s).1, (look_keeps s).2]; exact look_size h.le
  have hpl := (look_keeps s).2
  have hz := look_fault (s := s)
  have H := Lib.hid h; clear h
  unfold rSz
  generalize hL : look s = L at *
  obtain ⟨⟨n, k⟩, s1⟩ := L
  simp only at hsz hpl hz ⊢
  have HL := Lib.hid hL; clear hL
  have hi := integer_any H.out
  rw [HL.out] at hi
  have HI := Lib.hid hi; clear hi
  rw [← hpl]
  have HP := Lib.hid hpl
  have HZ := Lib.hid hz
  have HS := Lib.hid hsz
  clear hpl hz hsz
  by_cases h0 : n < 0
  · have HC : Hid ((if s1.er ≠ 0 then ((0 : Int), s1) else if n < 0 then (0, stopR 4 s1.pl s1) else if most < n then (0, stopR 3 s1.pl s1) else (n, { s1 with pl := s1.pl + k })) = number n k (stopR 4 s1.pl s1)) := by
      show _ = _
      by_cases he : s1.er = 0
      · rw [if_neg (by simp [he]), if_pos h0, stop_if he]; rfl
      · have := HZ.out he; simp at this; omega
    have HS2 : Hid ((stopR 4 s1.pl s1).pl + k ≤ (stopR 4 s1.pl s1).bs.length) := by show _ ≤ _; unfold stopR; split <;> exact HS.out
    rw [HC.out]
    go_enter Try.func31, Try.ntmps31
    go_wp2_with (first
      | (go_at_call 54; refine (HI.out).mono ?_; rintro x w1 ⟨rfl, h1, f1⟩; have d1 := h1.c1; have H1 := Lib.hid h1; have F1 := Lib.hid f1; clear h1 f1)
      | (go_at_call 56; ((with_reducible refine (meet_any H1.out 4 s1.pl).mono ?_); rintro x w2 ⟨rfl, h2, f2⟩; have H2 := Lib.hid h2; have F2 := Lib.hid f2; clear h2 f2))
      | (go_at_call 55; refine (number_any H2.out n k HS2.out).mono ?_; rintro x w3 ⟨rfl, h3, f3⟩; have H3 := Lib.hid h3; have F3 := Lib.hid f3; clear h3 f3)
      | go_quiet (fail))
    go_ret
    exact ⟨rfl, H3.out, (F1.out.same F2.out).same F3.out⟩
  · by_cases h1 : most < n
    · have HC : Hid ((if s1.er ≠ 0 then ((0 : Int), s1) else if n < 0 then (0, stopR 4 s1.pl s1) else if most < n then (0, stopR 3 s1.pl s1) else (n, { s1 with pl := s1.pl + k })) = number n k (stopR 3 s1.pl s1)) := by
        show _ = _
        by_cases he : s1.er = 0
        · rw [if_neg (by simp [he]), if_neg h0, if_pos h1, stop_if he]; rfl
        · rw [if_pos he, stop_not he]; unfold number; rw [if_pos he]
      have HS2 : Hid ((stopR 3 s1.pl s1).pl + k ≤ (stopR 3 s1.pl s1).bs.length) := by show _ ≤ _; unfold stopR; split <;> exact HS.out
      rw [HC.out]
      go_enter Try.func31, Try.ntmps31
      go_wp2_with (first
        | (go_at_call 54; refine (HI.out).mono ?_; rintro x w1 ⟨rfl, h1, f1⟩; have d1 := h1.c1; have H1 := Lib.hid h1; have F1 := Lib.hid f1; clear h1 f1)
        | (go_at_call 56; ((with_reducible refine (meet_any H1.out 3 s1.pl).mono ?_); rintro x w2 ⟨rfl, h2, f2⟩; have H2 := Lib.hid h2; have F2 := Lib.hid f2; clear h2 f2))
        | (go_at_call 55; refine (number_any H2.out n k HS2.out).mono ?_; rintro x w3 ⟨rfl, h3, f3⟩; have H3 := Lib.hid h3; have F3 := Lib.hid f3; clear h3 f3)
        | go_quiet (fail))
      go_ret
      exact ⟨rfl, H3.out, (F1.out.same F2.out).same F3.out⟩
    · have HC : Hid ((if s1.er ≠ 0 then ((0 : Int), s1) else if n < 0 then (0, stopR 4 s1.pl s1) else if most < n then (0, stopR 3 s1.pl s1) else (n, { s1 with pl := s1.pl + k })) = number n k s1) := by
        show _ = _
        unfold number
        split
        · rfl
        · rfl
      rw [HC.out]
      go_enter Try.func31, Try.ntmps31
      go_wp2_with (first
        | (go_at_call 54; refine (HI.out).mono ?_; rintro x w1 ⟨rfl, h1, f1⟩; have d1 := h1.c1; have H1 := Lib.hid h1; have F1 := Lib.hid f1; clear h1 f1)
        | (go_at_call 55; refine (number_any H1.out n k HS.out).mono ?_; rintro x w3 ⟨rfl, h3, f3⟩; have H3 := Lib.hid h3; have F3 := Lib.hid f3; clear h3 f3)
        | go_quiet (fail))
      go_ret
      exact ⟨rfl, H3.out, F1.out.same F3.out⟩
theorem choice_any (h : Rd 71 K w p v s) (most : Int) : Calls Try.prog 32 #[.pointer (some ⟨p, 0, none⟩), .int .i64 most] w fun x w' => x = .returned (.int .i64 (rSz most 4 s).1) ∧ Rd 71 K w' p v (rSz most 4 s).2 ∧ Fr (fun k => k = p) w w' := by
  have hsz : (look s).2.pl + (look s).1.2 ≤ (look s).2.bs.length := by rw [(look_keeps s).1, (look_keeps s).2]; exact look_size h.le
  have hpl := (look_keeps s).2
  have hz := look_fault (s := s)
  have H := Lib.hid h; clear h
  unfold rSz
  generalize hL : look s = L at *
  obtain ⟨⟨n, k⟩, s1⟩ := L
  simp only at hsz hpl hz ⊢
  have HL := Lib.hid hL; clear hL
  have hi := integer_any H.out
  rw [HL.out] at hi
  have HI := Lib.hid hi; clear hi
  rw [← hpl]
  have HP := Lib.hid hpl
  have HZ := Lib.hid hz
  have HS := Lib.hid hsz
  clear hpl hz hsz
  by_cases h0 : n < 0
  · have HC : Hid ((if s1.er ≠ 0 then ((0 : Int), s1) else if n < 0 then (0, stopR 4 s1.pl s1) else if most < n then (0, stopR 4 s1.pl s1) else (n, { s1 with pl := s1.pl + k })) = number n k (stopR 4 s1.pl s1)) := by
      show _ = _
      by_cases he : s1.er = 0
      · rw [if_neg (by simp [he]), if_pos h0, stop_if he]; rfl
      · have := HZ.out he; simp at this; omega
    have HS2 : Hid ((stopR 4 s1.pl s1).pl + k ≤ (stopR 4 s1.pl s1).bs.length) := by show _ ≤ _; unfold stopR; split <;> exact HS.out
    rw [HC.out]
    go_enter Try.func32, Try.ntmps32
    go_wp2_with (first
      | (go_at_call 54; refine (HI.out).mono ?_; rintro x w1 ⟨rfl, h1, f1⟩; have d1 := h1.c1; have H1 := Lib.hid h1; have F1 := Lib.hid f1; clear h1 f1)
      | (go_at_call 56; ((with_reducible refine (meet_any H1.out 4 s1.pl).mono ?_); rintro x w2 ⟨rfl, h2, f2⟩; have H2 := Lib.hid h2; have F2 := Lib.hid f2; clear h2 f2))
      | (go_at_call 55; refine (number_any H2.out n k HS2.out).mono ?_; rintro x w3 ⟨rfl, h3, f3⟩; have H3 := Lib.hid h3; have F3 := Lib.hid f3; clear h3 f3)
      | go_quiet (fail))
    go_ret
    exact ⟨rfl, H3.out, (F1.out.same F2.out).same F3.out⟩
  · by_cases h1 : most < n
    · have HC : Hid ((if s1.er ≠ 0 then ((0 : Int), s1) else if n < 0 then (0, stopR 4 s1.pl s1) else if most < n then (0, stopR 4 s1.pl s1) else (n, { s1 with pl := s1.pl + k })) = number n k (stopR 4 s1.pl s1)) := by
        show _ = _
        by_cases he : s1.er = 0
        · rw [if_neg (by simp [he]), if_neg h0, if_pos h1, stop_if he]; rfl
        · rw [if_pos he, stop_not he]; unfold number; rw [if_pos he]
      have HS2 : Hid ((stopR 4 s1.pl s1).pl + k ≤ (stopR 4 s1.pl s1).bs.length) := by show _ ≤ _; unfold stopR; split <;> exact HS.out
      rw [HC.out]
      go_enter Try.func32, Try.ntmps32
      go_wp2_with (first
        | (go_at_call 54; refine (HI.out).mono ?_; rintro x w1 ⟨rfl, h1, f1⟩; have d1 := h1.c1; have H1 := Lib.hid h1; have F1 := Lib.hid f1; clear h1 f1)
        | (go_at_call 56; ((with_reducible refine (meet_any H1.out 4 s1.pl).mono ?_); rintro x w2 ⟨rfl, h2, f2⟩; have H2 := Lib.hid h2; have F2 := Lib.hid f2; clear h2 f2))
        | (go_at_call 55; refine (number_any H2.out n k HS2.out).mono ?_; rintro x w3 ⟨rfl, h3, f3⟩; have H3 := Lib.hid h3; have F3 := Lib.hid f3; clear h3 f3)
        | go_quiet (fail))
      go_ret
      exact ⟨rfl, H3.out, (F1.out.same F2.out).same F3.out⟩
    · have HC : Hid ((if s1.er ≠ 0 then ((0 : Int), s1) else if n < 0 then (0, stopR 4 s1.pl s1) else if most < n then (0, stopR 4 s1.pl s1) else (n, { s1 with pl := s1.pl + k })) = number n k s1) := by
        show _ = _
        unfold number
        split
        · rfl
        · rfl
      rw [HC.out]
      go_enter Try.func32, Try.ntmps32
      go_wp2_with (first
        | (go_at_call 54; refine (HI.out).mono ?_; rintro x w1 ⟨rfl, h1, f1⟩; have d1 := h1.c1; have H1 := Lib.hid h1; have F1 := Lib.hid f1; clear h1 f1)
        | (go_at_call 55; refine (number_any H1.out n k HS.out).mono ?_; rintro x w3 ⟨rfl, h3, f3⟩; have H3 := Lib.hid h3; have F3 := Lib.hid f3; clear h3 f3)
        | go_quiet (fail))
      go_ret
      exact ⟨rfl, H3.out, F1.out.same F3.out⟩
end
end Go.Proofs.Ytioopibmpcbcjaa
