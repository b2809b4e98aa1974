/- Package wire in memory (R4, R5, R6, R7): ported. Conditions: those of each law. -/
import Derived.Test.YtjkfcmadoeifgaaGreatDoorWb
namespace Go.Proofs.YtjkfcmadoeifgaaGreatDoor
section
open Go.RowKit
section
variable {K : Nat → Prop} {w : World} {p : Nat} {v : Value} {s : Rst}
theorem fits_len {row : List UInt8} (h : fits row) : row.length ≤ 10 := by
  have := vb_len_le (val row) h.2; rwa [h.1] at this
/-- What a look leaves: the bytes and the place. -/
theorem look_keeps (s : Rst) : (look s).2.bs = s.bs ∧ (look s).2.pl = s.pl := by
  unfold look stopR; repeat' split
  all_goals exact ⟨rfl, rfl⟩
theorem look_size (h : s.pl ≤ s.bs.length) : s.pl + (look s).1.2 ≤ s.bs.length := by
  have hg := grp_le (s.bs.drop s.pl)
  rw [List.length_drop] at hg
  unfold look; repeat' split
  all_goals simp only []
  all_goals omega
theorem look_fault (h : (look s).2.er ≠ 0) : (look s).1 = (0, 0) := by
  unfold look at *; repeat' split at h
  all_goals repeat' split
  all_goals first | rfl | (exfalso; simp_all; done) | skip
theorem look_range : -9223372036854775808 ≤ (look s).1.1 ∧ (look s).1.1 < 9223372036854775808 := by
  unfold look; repeat' split
  · exact ⟨by simp, by simp⟩
  · exact ⟨by simp, by simp⟩
  · rename_i h; exact unf_range h.2
  · exact ⟨by simp, by simp⟩
theorem choice_any (h : Rd 69 K w p v s) (most : Int) : Calls Tryz.prog 46 #[.pointer (some ⟨p, 0, none⟩), .int .i64 most] w fun x w' => x = .returned (.int .i64 (rSz most 4 s).1) ∧ Rd 69 K w' p v (rSz most 4 s).2 ∧ Fr (fun k => k = p) w w' := by
  have hsz : (look s).2.pl + (look s).1.2 ≤ (look s).2.bs.length := by rw [(look_keeps s).1, (look_keeps s).2]; exact look_size h.le
  have hpl := (look_keeps s).2
  have hz := look_fault (s := s)
  have H := Lib.hid h; clear h
  unfold rSz
  generalize hL : look s = L at *
  obtain ⟨⟨n, k⟩, s1⟩ := L
  simp only at hsz hpl hz ⊢
  have HL := Lib.hid hL; clear hL
  have hi := integer_any H.out
  rw [HL.out] at hi
  have HI := Lib.hid hi; clear hi
  rw [← hpl]
  have HP := Lib.hid hpl
  have HZ := Lib.hid hz
  have HS := Lib.hid hsz
  clear hpl hz hsz
  by_cases h0 : n < 0
  · have HC : Hid ((if s1.er ≠ 0 then ((0 : Int), s1) else if n < 0 then (0, stopR 4 s1.pl s1) else if most < n then (0, stopR 4 s1.pl s1) else (n, { s1 with pl := s1.pl + k })) = number n k (stopR 4 s1.pl s1)) := by
      show _ = _
      by_cases he : s1.er = 0
      · rw [if_neg (by simp [he]), if_pos h0, stop_if he]; rfl
      · have := HZ.out he; simp at this; omega
    have HS2 : Hid ((stopR 4 s1.pl s1).pl + k ≤ (stopR 4 s1.pl s1).bs.length) := by show _ ≤ _; unfold stopR; split <;> exact HS.out
    rw [HC.out]
    go_enter Tryz.func46, Tryz.ntmps46
    go_wp2_with (first
      | (go_at_call 75; refine (HI.out).mono ?_; rintro x w1 ⟨rfl, h1, f1⟩; have d1 := h1.c1; have H1 := Lib.hid h1; have F1 := Lib.hid f1; clear h1 f1)
      | (go_at_call 76; ((with_reducible refine (meet_any H1.out 4 s1.pl).mono ?_); rintro x w2 ⟨rfl, h2, f2⟩; have H2 := Lib.hid h2; have F2 := Lib.hid f2; clear h2 f2))
      | (go_at_call 77; refine (wnumber_any H2.out n k HS2.out).mono ?_; rintro x w3 ⟨rfl, h3, f3⟩; have H3 := Lib.hid h3; have F3 := Lib.hid f3; clear h3 f3)
      | go_quiet (fail))
    go_ret
    exact ⟨rfl, H3.out, (F1.out.same F2.out).same F3.out⟩
  · by_cases h1 : most < n
    · have HC : Hid ((if s1.er ≠ 0 then ((0 : Int), s1) else if n < 0 then (0, stopR 4 s1.pl s1) else if most < n then (0, stopR 4 s1.pl s1) else (n, { s1 with pl := s1.pl + k })) = number n k (stopR 4 s1.pl s1)) := by
        show _ = _
        by_cases he : s1.er = 0
        · rw [if_neg (by simp [he]), if_neg h0, if_pos h1, stop_if he]; rfl
        · rw [if_pos he, stop_not he]; unfold number; rw [if_pos he]
      have HS2 : Hid ((stopR 4 s1.pl s1).pl + k ≤ (stopR 4 s1.pl s1).bs.length) := by show _ ≤ _; unfold stopR; split <;> exact HS.out
      rw [HC.out]
      go_enter Tryz.func46, Tryz.ntmps46
      go_wp2_with (first
        | (go_at_call 75; refine (HI.out).mono ?_; rintro x w1 ⟨rfl, h1, f1⟩; have d1 := h1.c1; have H1 := Lib.hid h1; have F1 := Lib.hid f1; clear h1 f1)
        | (go_at_call 76; ((with_reducible refine (meet_any H1.out 4 s1.pl).mono ?_); rintro x w2 ⟨rfl, h2, f2⟩; have H2 := Lib.hid h2; have F2 := Lib.hid f2; clear h2 f2))
        | (go_at_call 77; refine (wnumber_any H2.out n k HS2.out).mono ?_; rintro x w3 ⟨rfl, h3, f3⟩; have H3 := Lib.hid h3; have F3 := Lib.hid f3; clear h3 f3)
        | go_quiet (fail))
      go_ret
      exact ⟨rfl, H3.out, (F1.out.same F2.out).same F3.out⟩
    · have HC : Hid ((if s1.er ≠ 0 then ((0 : Int), s1) else if n < 0 then (0, stopR 4 s1.pl s1) else if most < n then (0, stopR 4 s1.pl s1) else (n, { s1 with pl := s1.pl + k })) = number n k s1) := by
        show _ = _
        unfold number
        split
        · rfl
        · rfl
      rw [HC.out]
      go_enter Tryz.func46, Tryz.ntmps46
      go_wp2_with (first
        | (go_at_call 75; refine (HI.out).mono ?_; rintro x w1 ⟨rfl, h1, f1⟩; have d1 := h1.c1; have H1 := Lib.hid h1; have F1 := Lib.hid f1; clear h1 f1)
        | (go_at_call 77; refine (wnumber_any H1.out n k HS.out).mono ?_; rintro x w3 ⟨rfl, h3, f3⟩; have H3 := Lib.hid h3; have F3 := Lib.hid f3; clear h3 f3)
        | go_quiet (fail))
      go_ret
      exact ⟨rfl, H3.out, F1.out.same F3.out⟩
end
end
section
open Go.RowKit
/-- The bytes of a slice of a slice as a string. -/
theorem conv_cut (W : World) (b off cap i n n' c : Nat) (l : List UInt8) (hn : l.length = n) (hn' : n' = n) (hfit : i + n ≤ cap) (hcell : ∀ j, j < n → W.cell? ⟨b, off + (i + j), none⟩ = some (.int .u8 ((l.getD j 0).toNat : Int))) :
    (convert 32 9 (.slice (if cap = i then some ⟨b, off, none⟩ else some ⟨b, off + i, none⟩) n' c)).run Tryz.prog W = .ok (.string ⟨l.toArray⟩) W := by
  subst hn'
  split
  · have h0 : n' = 0 := by omega
    exact conv_row W b off n' c l hn (fun j hj => by omega)
  · exact conv_row W b (off + i) n' c l hn (fun j hj => by rw [Nat.add_assoc]; exact hcell j hj)
theorem stop_er {e : Int} (he : e ≠ 0) (q : Nat) (s : Rst) : (stopR e q s).er ≠ 0 := by
  unfold stopR; split
  · exact he
  · rename_i h; exact h
section
variable {K : Nat → Prop} {w : World} {p : Nat} {v : Value} {s : Rst}
theorem look_some (h : (look s).2.er = 0) : s.er = 0 ∧ s.pl < s.bs.length := by
  unfold look at h
  split at h
  · rename_i h1; exact absurd h h1
  · rename_i h1
    have h1' : s.er = 0 := by simpa using h1
    split at h
    · exact absurd h (stop_er (by decide) _ _)
    · rename_i h2
      refine ⟨h1', ?_⟩
      rcases Nat.lt_or_ge s.pl s.bs.length with h3 | h3
      · exact h3
      · exact absurd (by rw [List.drop_of_length_le h3]; rfl) h2
theorem wtext_neg {n : Int} {k : Nat} {s1 : Rst} (hL : look s = ((n, k), s1)) (h : Rd 69 K w p v s) (most : Int) (hn : n < 0) : Calls Tryz.prog 48 #[.pointer (some ⟨p, 0, none⟩), .int .i64 most] w fun x w' => x = .returned (.string ⟨(rText most s).1.toArray⟩) ∧ Rd 69 K w' p v (rText most s).2 ∧ Fr (fun k => k = p) w w' := by
  have hkeep := look_keeps s
  rw [hL] at hkeep
  have hR : rText most s = ([], stopR 4 s.pl s1) := by
    have hz := look_fault (s := s)
    unfold rText
    rw [hL] at *
    simp only at *
    have he : s1.er = 0 := by
      by_cases he : s1.er = 0
      · exact he
      · have := hz he; simp at this; omega
    rw [if_neg (by simp [he]), if_pos hn]
  rw [hR]
  have hi := integer_any h
  rw [hL] at hi
  have hE := stop_er (e := 4) (by decide) s.pl s1
  have hb : ((stopR 4 s.pl s1).er != 0) = true := by rw [bne_iff_ne]; exact hE
  have hk2 := hkeep.2
  have hk1 := congrArg List.length hkeep.1
  have hsz := look_size (s := s) h.le
  rw [hL] at hsz
  simp only at hsz
  have hroom := h.room
  have HI := Lib.hid hi
  have HK1 := Lib.hid hk1
  have HK2 := Lib.hid hk2
  obtain ⟨ao, cap, hv, _⟩ := h.has
  have HV := Lib.hid hv
  clear hi hL hR hkeep h hE hk1 hk2 hv
  generalize s.bs.length = N at *
  generalize s.pl = q at *
  go_enter Tryz.func48, Tryz.ntmps48
  go_wp2_with (first
    | (go_at_call 75; go_loud (refine (HI.out).mono ?_); rintro x w1 ⟨rfl, h1, f1⟩; have d0 := h1.c0; rw [HV.out] at d0; have d1 := h1.c1; rw [HK2.out] at d1; have H1 := Lib.hid h1; have F1 := Lib.hid f1; clear h1 f1)
    | (go_at_call 76; ((with_reducible refine (meet_any H1.out 4 q).mono ?_); rintro x w2 ⟨rfl, h2, f2⟩; have d2 := h2.c2; have H2 := Lib.hid h2; have F2 := Lib.hid f2; clear h2 f2))
    | go_quiet (fail))
  all_goals go_ret
  all_goals exact ⟨rfl, H2.out, F1.out.same F2.out⟩
theorem text_long {n : Int} {k : Nat} {s1 : Rst} (hL : look s = ((n, k), s1)) (h : Rd 69 K w p v s) (most : Int) (h0 : ¬ n < 0) (hn : most < n) : Calls Tryz.prog 48 #[.pointer (some ⟨p, 0, none⟩), .int .i64 most] w fun x w' => x = .returned (.string ⟨(rText most s).1.toArray⟩) ∧ Rd 69 K w' p v (rText most s).2 ∧ Fr (fun k => k = p) w w' := by
  have hkeep := look_keeps s
  rw [hL] at hkeep
  have hR : rText most s = ([], stopR 2 s.pl s1) := by
    have hz := look_fault (s := s)
    unfold rText
    rw [hL] at *
    simp only at *
    by_cases he : s1.er = 0
    · rw [if_neg (by simp [he]), if_neg h0, if_pos hn]
    · rw [if_pos he, stop_not he]
  rw [hR]
  have hi := integer_any h
  rw [hL] at hi
  have hE := stop_er (e := 2) (by decide) s.pl s1
  have hb : ((stopR 2 s.pl s1).er != 0) = true := by rw [bne_iff_ne]; exact hE
  have hk2 := hkeep.2
  have hk1 := congrArg List.length hkeep.1
  have hsz := look_size (s := s) h.le
  rw [hL] at hsz
  simp only at hsz
  have hroom := h.room
  have HI := Lib.hid hi
  have HK1 := Lib.hid hk1
  have HK2 := Lib.hid hk2
  obtain ⟨ao, cap, hv, _⟩ := h.has
  have HV := Lib.hid hv
  clear hi hL hR hkeep h hE hk1 hk2 hv
  generalize s.bs.length = N at *
  generalize s.pl = q at *
  go_enter Tryz.func48, Tryz.ntmps48
  go_wp2_with (first
    | (go_at_call 75; refine (HI.out).mono ?_; rintro x w1 ⟨rfl, h1, f1⟩; have d0 := h1.c0; rw [HV.out] at d0; have d1 := h1.c1; rw [HK2.out] at d1; have H1 := Lib.hid h1; have F1 := Lib.hid f1; clear h1 f1)
    | (go_at_call 76; ((with_reducible refine (meet_any H1.out 2 q).mono ?_); rintro x w2 ⟨rfl, h2, f2⟩; have d2 := h2.c2; have H2 := Lib.hid h2; have F2 := Lib.hid f2; clear h2 f2))
    | go_quiet (fail))
  all_goals go_ret
  all_goals exact ⟨rfl, H2.out, F1.out.same F2.out⟩
theorem text_short {n : Int} {k : Nat} {s1 : Rst} (hL : look s = ((n, k), s1)) (h : Rd 69 K w p v s) (most : Int) (h0 : ¬ n < 0) (hn : ¬ most < n) (hs : (s.bs.length : Int) - ((s.pl : Int) + k) < n) : Calls Tryz.prog 48 #[.pointer (some ⟨p, 0, none⟩), .int .i64 most] w fun x w' => x = .returned (.string ⟨(rText most s).1.toArray⟩) ∧ Rd 69 K w' p v (rText most s).2 ∧ Fr (fun k => k = p) w w' := by
  have hkeep := look_keeps s
  rw [hL] at hkeep
  have hR : rText most s = ([], stopR 5 s.bs.length s1) := by
    have hz := look_fault (s := s)
    unfold rText
    rw [hL] at *
    simp only at *
    have hle := h.le
    by_cases he : s1.er = 0
    · rw [if_neg (by simp [he]), if_neg h0, if_neg hn, if_pos (by omega)]
    · have := hz he
      simp at this
      omega
  rw [hR]
  have hi := integer_any h
  rw [hL] at hi
  have hE := stop_er (e := 5) (by decide) s.bs.length s1
  have hb : ((stopR 5 s.bs.length s1).er != 0) = true := by rw [bne_iff_ne]; exact hE
  have hk2 := hkeep.2
  have hk1 := congrArg List.length hkeep.1
  have hsz := look_size (s := s) h.le
  rw [hL] at hsz
  simp only at hsz
  have hroom := h.room
  have HI := Lib.hid hi
  have HK1 := Lib.hid hk1
  have HK2 := Lib.hid hk2
  obtain ⟨ao, cap, hv, _⟩ := h.has
  have HV := Lib.hid hv
  clear hi hL hR hkeep h hE hk1 hk2 hv
  generalize s.bs.length = N at *
  generalize s.pl = q at *
  go_enter Tryz.func48, Tryz.ntmps48
  go_wp2_with (first
    | (go_at_call 75; refine (HI.out).mono ?_; rintro x w1 ⟨rfl, h1, f1⟩; have d0 := h1.c0; rw [HV.out] at d0; have d1 := h1.c1; rw [HK2.out] at d1; have H1 := Lib.hid h1; have F1 := Lib.hid f1; clear h1 f1)
    | (go_at_call 76; ((with_reducible refine (meet_any H1.out 5 N).mono ?_); rintro x w2 ⟨rfl, h2, f2⟩; have d2 := h2.c2; have H2 := Lib.hid h2; have F2 := Lib.hid f2; clear h2 f2))
    | go_quiet (fail))
  all_goals go_ret
  all_goals exact ⟨rfl, H2.out, F1.out.same F2.out⟩
theorem text_err {n : Int} {k : Nat} {s1 : Rst} (hL : look s = ((n, k), s1)) (h : Rd 69 K w p v s) (most : Int) (he : s1.er ≠ 0) (hm : ¬ most < 0) : Calls Tryz.prog 48 #[.pointer (some ⟨p, 0, none⟩), .int .i64 most] w fun x w' => x = .returned (.string ⟨(rText most s).1.toArray⟩) ∧ Rd 69 K w' p v (rText most s).2 ∧ Fr (fun k => k = p) w w' := by
  have hkeep := look_keeps s
  rw [hL] at hkeep
  have hz := look_fault (s := s)
  rw [hL] at hz
  simp only at hz hkeep
  have hz' := hz he
  simp at hz'
  obtain ⟨rfl, rfl⟩ := hz'
  have hR : rText most s = ([], s1) := by
    unfold rText
    rw [hL]
    simp only
    rw [if_pos he]
  rw [hR]
  have hi := integer_any h
  rw [hL] at hi
  have hb : (s1.er != 0) = true := by rw [bne_iff_ne]; exact he
  have hk2 := hkeep.2
  have hk1 := congrArg List.length hkeep.1
  have hle := h.le
  have hroom := h.room
  have HI := Lib.hid hi
  have HK1 := Lib.hid hk1
  have HK2 := Lib.hid hk2
  obtain ⟨ao, cap, hv, _⟩ := h.has
  have HV := Lib.hid hv
  clear hi hL hR hkeep h hk1 hk2 hv hz he
  generalize s.bs.length = N at *
  generalize s.pl = q at *
  go_enter Tryz.func48, Tryz.ntmps48
  go_wp2_with (first
    | (go_at_call 75; refine (HI.out).mono ?_; rintro x w1 ⟨rfl, h1, f1⟩; have d0 := h1.c0; rw [HV.out] at d0; have d1 := h1.c1; rw [HK2.out] at d1; have d2 := h1.c2; have H1 := Lib.hid h1; have F1 := Lib.hid f1; clear h1 f1)
    | go_quiet (fail))
  all_goals go_ret
  all_goals exact ⟨rfl, H1.out, F1.out⟩
theorem text_ok {m k : Nat} {s1 : Rst} (hL : look s = (((m : Int), k), s1)) (h : Rd 69 K w p v s) (most : Int) (he : s1.er = 0) (hm : ¬ most < (m : Int)) (hs : ¬ (s.bs.length : Int) - ((s.pl : Int) + k) < m) : Calls Tryz.prog 48 #[.pointer (some ⟨p, 0, none⟩), .int .i64 most] w fun x w' => x = .returned (.string ⟨(rText most s).1.toArray⟩) ∧ Rd 69 K w' p v (rText most s).2 ∧ Fr (fun k => k = p) w w' := by
  have hkeep := look_keeps s
  rw [hL] at hkeep
  simp only at hkeep
  have hsz := look_size (s := s) h.le
  rw [hL] at hsz
  simp only at hsz
  have hR : rText most s = ((s.bs.drop (s.pl + k)).take m, { s1 with pl := s.pl + k + m }) := by
    unfold rText
    rw [hL]
    simp only
    rw [if_neg (by simp [he]), if_neg (by omega), if_neg hm, if_neg (by omega)]
    rfl
  rw [hR]
  have hsome := look_some (s := s) (by rw [hL]; exact he)
  have hi := integer_any h
  rw [hL] at hi
  have hb : (s1.er != 0) = false := by rw [bne_eq_false_iff_eq]; exact he
  have hroom := h.room
  obtain ⟨b, off, cap, hv, hcap, hc63, hbl, hbp, _⟩ := h.cells hsome.2
  have HI := Lib.hid hi
  have HK1 := Lib.hid (congrArg List.length hkeep.1)
  have HK2 := Lib.hid hkeep.2
  have HKB := Lib.hid hkeep.1
  have HV := Lib.hid hv
  have hlen : ((s.bs.drop (s.pl + k)).take m).length = m := by rw [List.length_take, List.length_drop]; omega
  have HLEN := Lib.hid hlen
  have HGET : Hid (∀ j, j < m → ((s.bs.drop (s.pl + k)).take m).getD j 0 = s.bs.getD (s.pl + k + j) 0) := fun j hj => by rw [getD_take hj, getD_drop]
  have hlt1 : s1.pl < s1.bs.length := by rw [hkeep.1, hkeep.2]; exact hsome.2
  have HLT1 := Lib.hid hlt1
  clear hi hL hR hkeep h hv hsome hlen hlt1 he hbl hbp
  generalize (s.bs.drop (s.pl + k)).take m = T at *
  generalize s.bs = bs at *
  generalize hN : bs.length = N at *
  have HN := Lib.hid hN
  clear hN
  generalize s.pl = q at *
  have hfit : (m : Int) ≤ (N : Int) - ((q : Int) + k) := by omega
  have hmost : (m : Int) ≤ most := by omega
  clear hs hm
  go_enter Tryz.func48, Tryz.ntmps48
  go_wp2_with (first
    | (go_at_call 75; refine (HI.out).mono ?_; rintro x w1 ⟨rfl, h1, f1⟩; have d0 := h1.c0; rw [HV.out] at d0; have d1 := h1.c1; rw [HK2.out] at d1; have d2 := h1.c2; have fr1 := h1.free 1; have H1 := Lib.hid h1; have F1 := Lib.hid f1; clear h1 f1))
  have H2 := H1.out.set1 (q + k + m) (by rw [HK1.out]; omega)
  have F2 := Lib.hid (fr_set1 (p := p) w1 1 (.int .i64 ((q : Int) + k + m)))
  simp only [Int.natCast_add] at H2
  obtain ⟨W, hW⟩ : ∃ W, W = w1.setCell ⟨p, 1, none⟩ (.int .i64 ((q : Int) + k + m)) := ⟨_, rfl⟩
  rw [← hW] at H2 F2 ⊢
  have e0 := H2.c0
  have e1 := H2.c1
  rw [HV.out] at e0
  simp only [Int.natCast_add] at e1
  have hcv : ∀ nq, (convert 32 9 (.slice (if cap = q + k then some ⟨b, off, none⟩ else some ⟨b, off + (q + k), none⟩) m (cap - (q + k)))).run Tryz.prog (W.drewN nq) = .ok (.string ⟨T.toArray⟩) (W.drewN nq) := fun nq => by
    obtain ⟨b', off', cap', hv', _, _, _, _, hc⟩ := (H1.out).cells HLT1.out
    rw [HV.out] at hv'
    simp at hv'
    obtain ⟨⟨rfl, rfl⟩, _, rfl⟩ := hv'
    refine conv_cut (W.drewN nq) b off cap (q + k) m _ _ T HLEN.out rfl (by omega) (fun j hj => ?_)
    rw [HGET.out j hj, show off + (q + k + j) = off + (q + k + j) from rfl, ← HKB.out]
    have h3 := ((F2.out.drewN nq).block b (by assumption) (by assumption))
    exact (World.cell?_of_block (a := ⟨b, off + (q + k + j), none⟩) h3).trans (hc (q + k + j) (by rw [HK1.out]; omega))
  have HH2 := Lib.hid H2
  clear d0 d1 d2 fr1 hW H2
  go_quiet (fail)
  go_wp2
  all_goals go_ret
  all_goals exact ⟨rfl, (HH2.out).drewN _, (F1.out.same F2.out).drewN _⟩
theorem text_any (h : Rd 69 K w p v s) (most : Int) : Calls Tryz.prog 48 #[.pointer (some ⟨p, 0, none⟩), .int .i64 most] w fun x w' => x = .returned (.string ⟨(rText most s).1.toArray⟩) ∧ Rd 69 K w' p v (rText most s).2 ∧ Fr (fun k => k = p) w w' := by
  generalize hL : look s = L
  obtain ⟨⟨n, k⟩, s1⟩ := L
  by_cases h0 : n < 0
  · exact wtext_neg hL h most h0
  by_cases h1 : most < n
  · exact text_long hL h most h0 h1
  by_cases h2 : (s.bs.length : Int) - ((s.pl : Int) + k) < n
  · exact text_short hL h most h0 h1 h2
  by_cases he : s1.er = 0
  · obtain ⟨m, rfl⟩ := Int.eq_ofNat_of_zero_le (show 0 ≤ n by omega)
    exact text_ok hL h most he h1 h2
  · have hz := look_fault (s := s)
    rw [hL] at hz
    have := hz he
    simp at this
    exact text_err hL h most he (by omega)
end
end
section
open Go.RowKit
section
variable {t : TypeId} {K : Nat → Prop} {w : World} {p : Nat} {v : Value} {s : Rst}
theorem Rd.at {b off n cap : Nat} (h : Rd t K w p (.slice (some ⟨b, off, none⟩) n cap) s) {i : Nat} (hi : i < s.bs.length) : w.cell? ⟨b, off + i, none⟩ = some (.int .u8 ((s.bs.getD i 0).toNat : Int)) := by
  obtain ⟨ao, cap, hv, h1, h2, h3, h4⟩ := h.has
  simp at hv
  obtain ⟨rfl, _, rfl⟩ := hv
  rcases h4 with h4 | ⟨b', off', he, _, _, hc⟩
  · rw [h4] at hi; simp at hi
  · simp at he
    obtain ⟨rfl, rfl⟩ := he
    exact hc i hi
theorem Rd.set1i (h : Rd t K w p v s) (q : Nat) {y : Int} (hy : y = q) (hq : q ≤ s.bs.length) : Rd t K (w.setCell ⟨p, 1, none⟩ (.int .i64 y)) p v { s with pl := q } := by
  subst hy; exact h.set1 q hq
end
end
section
open Go.RowKit
theorem le_append (a b : List UInt8) : le (a ++ b) = le a + 2 ^ (8 * a.length) * le b := by
  induction a with
  | nil => simp [le]
  | cons x r ih =>
    have e : 2 ^ (8 * (r.length + 1)) = 256 * 2 ^ (8 * r.length) := by rw [Nat.mul_add, Nat.pow_add]; omega
    simp only [List.cons_append, le, ih, List.length_cons]
    rw [e, Nat.mul_add, Nat.mul_assoc]
    omega
theorem le_take_succ {l : List UInt8} {k : Nat} (h : k < l.length) : le (l.take (k + 1)) = le (l.take k) + (l.getD k 0).toNat * 2 ^ (8 * k) := by
  rw [take_succ_getD h, le_append, List.length_take, Nat.min_eq_left (by omega)]
  simp only [le, Nat.mul_zero, Nat.add_zero]
  rw [Nat.mul_comm]
theorem le_lt (l : List UInt8) : le l < 2 ^ (8 * l.length) := by
  induction l with
  | nil => simp [le]
  | cons x r ih =>
    have e : 2 ^ (8 * (r.length + 1)) = 256 * 2 ^ (8 * r.length) := by rw [Nat.mul_add, Nat.pow_add]; omega
    have := byte_lt x
    simp only [le, List.length_cons, e]
    omega
theorem le_take_lt (l : List UInt8) (k : Nat) (h : k ≤ l.length) : le (l.take k) < 2 ^ (8 * k) := by
  have := le_lt (l.take k)
  rwa [List.length_take, Nat.min_eq_left h] at this
theorem shl8 {k n : Nat} {y : UInt8} (hk : k < 8) (hy : y.toNat < 256) (hn : n < 2 ^ (8 * k)) :
    bits .or .u64 (n : Int) (IntKind.u64.wrap ((y.toNat : Int) * 2 ^ (k * 8))) = ((n + y.toNat * 2 ^ (8 * k) : Nat) : Int) ∧ n + y.toNat * 2 ^ (8 * k) < 18446744073709551616 := by
  have h1 : (y.toNat + 1) * 2 ^ (8 * k) ≤ 256 * 2 ^ (8 * k) := Nat.mul_le_mul_right _ hy
  have h2 : 256 * 2 ^ (8 * k) = 2 ^ (8 * (k + 1)) := by rw [Nat.mul_add, Nat.pow_add]; omega
  have h3 : 2 ^ (8 * (k + 1)) ≤ 2 ^ 64 := Nat.pow_le_pow_right (by decide) (by omega)
  rw [Nat.add_mul, Nat.one_mul] at h1
  have h4 : n + y.toNat * 2 ^ (8 * k) < 18446744073709551616 := by omega
  refine ⟨?_, h4⟩
  have e : ((y.toNat : Int) * 2 ^ (k * 8)) = ((y.toNat * 2 ^ (8 * k) : Nat) : Int) := by rw [Nat.mul_comm k 8]; simp
  rw [e, wrap_nat (by omega), bor (by omega) (by omega), or_add hn]
section
variable {t : TypeId} {K : Nat → Prop} {w : World} {p : Nat} {v : Value} {s : Rst}
theorem float_left (h : Rd 69 K w p v s) (hl : leftR s < 8) : Calls Tryz.prog 47 #[.pointer (some ⟨p, 0, none⟩)] w fun x w' => x = .returned (.float .f64 (rFloat s).1) ∧ Rd 69 K w' p v (rFloat s).2 ∧ Fr (fun k => k = p) w w' := by
  have hle := h.le
  have hR : rFloat s = (0, stopR 5 s.bs.length s) := by
    unfold rFloat
    unfold leftR at hl
    split
    · rename_i he; rw [stop_not he]
    · rename_i he
      rw [if_neg he] at hl
      rw [if_pos (by omega)]
  rw [hR]
  have hl2 : ((leftR s : Nat) : Int) < 8 := by omega
  have H := Lib.hid h
  have hroom := h.room
  obtain ⟨ao, cap, hv, _⟩ := h.has
  have HV := Lib.hid hv
  clear h hR hv
  generalize s.bs.length = N at *
  go_enter Tryz.func47, Tryz.ntmps47
  go_wp2_with (first
    | (go_at_call 53; refine (left_any H.out).mono ?_; rintro x w1 ⟨rfl, h1, f1⟩; have d0 := h1.c0; rw [HV.out] at d0; have H1 := Lib.hid h1; have F1 := Lib.hid f1; clear h1 f1)
    | (go_at_call 76; ((with_reducible refine (meet_any H1.out 5 N).mono ?_); rintro x w2 ⟨rfl, h2, f2⟩; have H2 := Lib.hid h2; have F2 := Lib.hid f2; clear h2 f2))
    | go_quiet (fail))
  go_ret
  exact ⟨rfl, H2.out, F1.out.same F2.out⟩
theorem float_more (h : Rd 69 K w p v s) (he : s.er = 0) (hl : s.pl + 8 ≤ s.bs.length) : Calls Tryz.prog 47 #[.pointer (some ⟨p, 0, none⟩)] w fun x w' => x = .returned (.float .f64 (rFloat s).1) ∧ Rd 69 K w' p v (rFloat s).2 ∧ Fr (fun k => k = p) w w' := by
  have hL : leftR s = s.bs.length - s.pl := by unfold leftR; rw [if_neg (by simp [he])]
  have hleft : ¬ ((leftR s : Nat) : Int) < 8 := by omega
  have hroom := h.room
  obtain ⟨b, off, cap, rfl, hcap, hc63, _, _, _⟩ := h.cells (by omega)
  have H := Lib.hid h
  clear h hL
  have hrl : ((s.bs.drop s.pl).take 8).length = 8 := by rw [List.length_take, List.length_drop]; omega
  have HGET : Hid (∀ j, j < 8 → ((s.bs.drop s.pl).take 8).getD j 0 = s.bs.getD (s.pl + j) 0) := fun j hj => by rw [getD_take hj, getD_drop]
  have HRL := Lib.hid hrl
  generalize hN : s.bs.length = N at *
  have HN := Lib.hid hN
  clear hN hrl
  go_enter Tryz.func47, Tryz.ntmps47
  go_wp2_with (first
    | (go_at_call 53; refine (left_any H.out).mono ?_; rintro x w1 ⟨rfl, h1, f1⟩; have d0 := h1.c0; have d1 := h1.c1; have fr1 := h1.free 1; have H1 := Lib.hid h1; have F1 := Lib.hid f1; clear h1 f1)
    | go_quiet (fail))
  go_loopw [3, 32] (fun u i wr => ∃ k n : Nat, k ≤ 8 ∧ i = .int .i64 k ∧ u = .int .u64 n ∧ n < 18446744073709551616 ∧ Hid (n = le (((s.bs.drop s.pl).take 8).take k)) ∧ wr = w1.drewN nq) (fun _ i _ => 8 - (intOf i).toNat)
  case atStart => exact ⟨0, 0, Nat.zero_le _, rfl, rfl, by decide, rfl, rfl⟩
  case round =>
    obtain ⟨k, n, hk, rfl, rfl, hn64, hr, rfl⟩ := hrel
    by_cases hlt : k < 8
    · have dc := H1.out.at (i := s.pl + k) (by rw [HN.out]; omega)
      have dd : off + s.pl + k = off + (s.pl + k) := Nat.add_assoc _ _ _
      rw [← dd] at dc
      clear dd
      have hv1 := le_take_succ (l := (s.bs.drop s.pl).take 8) (k := k) (by rw [HRL.out]; exact hlt)
      rw [HGET.out k hlt, ← hr.out] at hv1
      generalize s.bs.getD (s.pl + k) 0 = y at *
      have hv := Lib.hid hv1
      have hy := byte_lt y
      have hn8 := le_take_lt ((s.bs.drop s.pl).take 8) k (by rw [HRL.out]; exact hk)
      rw [← hr.out] at hn8
      have key := shl8 (k := k) (n := n) hlt hy hn8
      have KEY := Lib.hid key
      clear hv1 hn8 hr key
      go_wp2
      exact ⟨⟨k + 1, _, by omega, by simp, congrArg (Value.int IntKind.u64) KEY.out.1, KEY.out.2, hv.out.symm, trivial⟩, by simp [intOf]; omega⟩
    · obtain rfl : k = 8 := by omega
      have hnL : n = leAt s := by
        have := hr.out
        rwa [List.take_of_length_le (l := (s.bs.drop s.pl).take 8) (by rw [HRL.out]; exact Nat.le_refl _)] at this
      clear hr hlt
      subst hnL
      by_cases hc : canon (leAt s) = leAt s
      · have hR : Hid (rFloat s = (leAt s, { s with pl := s.pl + 8 })) := by
          show _ = _
          unfold rFloat
          rw [if_neg (by simp [he]), if_neg (by rw [HN.out]; omega), if_neg (by simp [hc])]
        generalize leAt s = L at *
        go_wp2_with (first
          | (go_at_call 78; ((with_reducible refine (of_any L _).mono ?_); rintro x w2 ⟨rfl, rfl⟩))
          | (go_at_call 66; ((with_reducible refine (bits_any L _).mono ?_); rintro x w2 ⟨rfl, rfl⟩))
          | go_quiet (fail))
        go_ret
        rw [hR.out]
        exact ⟨rfl, (H1.out.drewN _).set1i (s.pl + 8) (by simp) (by rw [HN.out]; exact hl), (F1.out.drewN _).same (fr_set1 _ 1 _)⟩
      · have hR : Hid (rFloat s = (0, stopR 4 s.pl s)) := by
          show _ = _
          unfold rFloat
          rw [if_neg (by simp [he]), if_neg (by rw [HN.out]; omega), if_pos hc]
        generalize leAt s = L at *
        have hcc := canon_canon L
        have hne : (((canon L : Nat) : Int) != (L : Int)) = true := by rw [bne_iff_ne]; omega
        have C := Lib.hid hc
        clear hc
        go_wp2_with (first
          | (go_at_call 78; ((with_reducible refine (of_any L _).mono ?_); rintro x w2 ⟨rfl, rfl⟩))
          | (go_at_call 66; ((with_reducible refine (bits_any (canon L) _).mono ?_); rintro x w2 ⟨rfl, rfl⟩))
          | (go_at_call 76; ((with_reducible refine (meet_any (H1.out.drewN _) 4 s.pl).mono ?_); rintro x w2 ⟨rfl, h2, f2⟩; have H2 := Lib.hid h2; have F2 := Lib.hid f2; clear h2 f2))
          | go_quiet (fail))
        go_ret
        rw [hR.out]
        exact ⟨rfl, H2.out, (F1.out.drewN _).same F2.out⟩
theorem float_any (h : Rd 69 K w p v s) : Calls Tryz.prog 47 #[.pointer (some ⟨p, 0, none⟩)] w fun x w' => x = .returned (.float .f64 (rFloat s).1) ∧ Rd 69 K w' p v (rFloat s).2 ∧ Fr (fun k => k = p) w w' := by
  by_cases hl : leftR s < 8
  · exact float_left h hl
  · have h1 : s.er = 0 ∧ s.pl + 8 ≤ s.bs.length := by
      unfold leftR at hl
      split at hl
      · omega
      · rename_i h1; exact ⟨by simpa using h1, by omega⟩
    exact float_more h h1.1 h1.2
end
end
end Go.Proofs.YtjkfcmadoeifgaaGreatDoor
