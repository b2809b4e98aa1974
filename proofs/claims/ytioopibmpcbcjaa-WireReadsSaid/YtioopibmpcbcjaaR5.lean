/- The contract of wire.Reader's Text. Conditions: the reader's own bytes. -/
import Derived.Test.YtioopibmpcbcjaaR4
namespace Go.Proofs.Ytioopibmpcbcjaa
open Go.RowKit
theorem strOf (l : List UInt8) : strOfNums (l.map fun b => (b.toNat : Int)) = ⟨l.toArray⟩ := by
  unfold strOfNums
  congr 2
  rw [List.map_map]
  conv => rhs; rw [← List.map_id l]
  apply List.map_congr_left
  intro x _
  simp
/-- The bytes of a slice as a string. -/
theorem conv_row (W : World) (b off n c : Nat) (l : List UInt8) (hn : l.length = n) (hcell : ∀ i, i < n → W.cell? ⟨b, off + i, none⟩ = some (.int .u8 ((l.getD i 0).toNat : Int))) :
    (convert 31 9 (.slice (some ⟨b, off, none⟩) n c)).run Try.prog W = .ok (.string ⟨l.toArray⟩) W := by
  rw [← strOf l]
  refine run_convert_bytes_arg (P := Try.prog) W 31 5 (by kernel_rfl) (by kernel_rfl) b off n c (l.map fun b => (b.toNat : Int)) (by simpa using hn) (fun i hi => ?_) 9 (by kernel_rfl)
  rw [hcell i hi]
  simp [List.getD_eq_getElem?_getD, List.getElem?_map]
  rw [List.getElem?_eq_getElem (by omega)]
  simp
theorem conv_none (W : World) (n c : Nat) : (convert 31 9 (.slice none n c)).run Try.prog W = .ok (.string ⟨#[]⟩) W :=
  run_convert_bytes_nil (P := Try.prog) W 31 5 (by kernel_rfl) (by kernel_rfl) n c 9 (by kernel_rfl)
/-- The bytes of a slice of a slice as a string. -/
theorem conv_cut (W : World) (b off cap i n n' c : Nat) (l : List UInt8) (hn : l.length = n) (hn' : n' = n) (hfit : i + n ≤ cap) (hcell : ∀ j, j < n → W.cell? ⟨b, off + (i + j), none⟩ = some (.int .u8 ((l.getD j 0).toNat : Int))) :
    (convert 31 9 (.slice (if cap = i then some ⟨b, off, none⟩ else some ⟨b, off + i, none⟩) n' c)).run Try.prog W = .ok (.string ⟨l.toArray⟩) W := by
  subst hn'
  split
  · have h0 : n' = 0 := by omega
    exact conv_row W b off n' c l hn (fun j hj => by omega)
  · exact conv_row W b (off + i) n' c l hn (fun j hj => by rw [Nat.add_assoc]; exact hcell j hj)
theorem stop_er {e : Int} (he : e ≠ 0) (q : Nat) (s : Rst) : (stopR e q s).er ≠ 0 := by
  unfold stopR; split
  · exact he
  · rename_i h; exact h
section
variable {K : Nat → Prop} {w : World} {p : Nat} {v : Value} {s : Rst}
theorem look_some (h : (look s).2.er = 0) : s.er = 0 ∧ s.pl < s.bs.length := by
  unfold look at h
  split at h
  · rename_i h1; exact absurd h h1
  · rename_i h1
    have h1' : s.er = 0 := by simpa using h1
    split at h
    · exact absurd h (stop_er (by decide) _ _)
    · rename_i h2
      refine ⟨h1', ?_⟩
      rcases Nat.lt_or_ge s.pl s.bs.length with h3 | h3
      · exact h3
      · exact absurd (by rw [List.drop_of_length_le h3]; rfl) h2
theorem text_neg {n : Int} {k : Nat} {s1 : Rst} (hL : look s = ((n, k), s1)) (h : Rd 71 K w p v s) (most : Int) (hn : n < 0) : Calls Try.prog 29 #[.pointer (some ⟨p, 0, none⟩), .int .i64 most] w fun x w' => x = .returned (.string ⟨(rText most s).1.toArray⟩) ∧ Rd 71 K w' p v (rText most s).2 ∧ Fr (fun k => k = p) w w' := by
  have hkeep := look_keeps s
  rw [hL] at hkeep
  have hR : rText most s = ([], stopR 4 s.pl s1) := by
    have hz := look_fault (s := s)
    unfold rText
    rw [hL] at *
    simp only at *
    have he : s1.er = 0 := by
      by_cases he : s1.er = 0
      · exact he
      · have := hz he; simp at this; omega
    rw [if_neg (by simp [he]), if_pos hn]
  rw [hR]
  have hi := integer_any h
  rw [hL] at hi
  have hE := stop_er (e := 4) (by decide) s.pl s1
  have hb : ((stopR 4 s.pl s1).er != 0) = true := by rw [bne_iff_ne]; exact hE
  have hk2 := hkeep.2
  have hk1 := congrArg List.length hkeep.1
  have hsz := look_size (s := s) h.le
  rw [hL] at hsz
  simp only at hsz
  have hroom := h.room
  have HI := Lib.hid hi
  have HK1 := Lib.hid hk1
  have HK2 := Lib.hid hk2
  obtain ⟨ao, cap, hv, _⟩ := h.has
  have HV := Lib.hid hv
  clear hi hL hR hkeep h hE hk1 hk2 hv
  generalize s.bs.length = N at *
  generalize s.pl = q at *
  go_enter Try.func29, Try.ntmps29
  go_wp2_with (first
    | (go_at_call 54; go_loud (refine (HI.out).mono ?_); rintro x w1 ⟨rfl, h1, f1⟩; have d0 := h1.c0; rw [HV.out] at d0; have d1 := h1.c1; rw [HK2.out] at d1; have H1 := Lib.hid h1; have F1 := Lib.hid f1; clear h1 f1)
    | (go_at_call 56; ((with_reducible refine (meet_any H1.out 4 q).mono ?_); rintro x w2 ⟨rfl, h2, f2⟩; have d2 := h2.c2; have H2 := Lib.hid h2; have F2 := Lib.hid f2; clear h2 f2))
    | go_quiet (fail))
  all_goals go_ret
  all_goals exact ⟨rfl, H2.out, F1.out.same F2.out⟩
theorem text_long {n : Int} {k : Nat} {s1 : Rst} (hL : look s = ((n, k), s1)) (h : Rd 71 K w p v s) (most : Int) (h0 : ¬ n < 0) (hn : most < n) : Calls Try.prog 29 #[.pointer (some ⟨p, 0, none⟩), .int .i64 most] w fun x w' => x = .returned (.string ⟨(rText most s).1.toArray⟩) ∧ Rd 71 K w' p v (rText most s).2 ∧ Fr (fun k => k = p) w w' := by
  have hkeep := look_keeps s
  rw [hL] at hkeep
  have hR : rText most s = ([], stopR 2 s.pl s1) := by
    have hz := look_fault (s := s)
    unfold rText
    rw [hL] at *
    simp only at *
    by_cases he : s1.er = 0
    · rw [if_neg (by simp [he]), if_neg h0, if_pos hn]
    · rw [if_pos he, stop_not he]
  rw [hR]
  have hi := integer_any h
  rw [hL] at hi
  have hE := stop_er (e := 2) (by decide) s.pl s1
  have hb : ((stopR 2 s.pl s1).er != 0) = true := by rw [bne_iff_ne]; exact hE
  have hk2 := hkeep.2
  have hk1 := congrArg List.length hkeep.1
  have hsz := look_size (s := s) h.le
  rw [hL] at hsz
  simp only at hsz
  have hroom := h.room
  have HI := Lib.hid hi
  have HK1 := Lib.hid hk1
  have HK2 := Lib.hid hk2
  obtain ⟨ao, cap, hv, _⟩ := h.has
  have HV := Lib.hid hv
  clear hi hL hR hkeep h hE hk1 hk2 hv
  generalize s.bs.length = N at *
  generalize s.pl = q at *
  go_enter Try.func29, Try.ntmps29
  go_wp2_with (first
    | (go_at_call 54; refine (HI.out).mono ?_; rintro x w1 ⟨rfl, h1, f1⟩; have d0 := h1.c0; rw [HV.out] at d0; have d1 := h1.c1; rw [HK2.out] at d1; have H1 := Lib.hid h1; have F1 := Lib.hid f1; clear h1 f1)
    | (go_at_call 56; ((with_reducible refine (meet_any H1.out 2 q).mono ?_); rintro x w2 ⟨rfl, h2, f2⟩; have d2 := h2.c2; have H2 := Lib.hid h2; have F2 := Lib.hid f2; clear h2 f2))
    | go_quiet (fail))
  all_goals go_ret
  all_goals exact ⟨rfl, H2.out, F1.out.same F2.out⟩
theorem text_short {n : Int} {k : Nat} {s1 : Rst} (hL : look s = ((n, k), s1)) (h : Rd 71 K w p v s) (most : Int) (h0 : ¬ n < 0) (hn : ¬ most < n) (hs : (s.bs.length : Int) - ((s.pl : Int) + k) < n) : Calls Try.prog 29 #[.pointer (some ⟨p, 0, none⟩), .int .i64 most] w fun x w' => x = .returned (.string ⟨(rText most s).1.toArray⟩) ∧ Rd 71 K w' p v (rText most s).2 ∧ Fr (fun k => k = p) w w' := by
  have hkeep := look_keeps s
  rw [hL] at hkeep
  have hR : rText most s = ([], stopR 5 s.bs.length s1) := by
    have hz := look_fault (s := s)
    unfold rText
    rw [hL] at *
    simp only at *
    have hle := h.le
    by_cases he : s1.er = 0
    · rw [if_neg (by simp [he]), if_neg h0, if_neg hn, if_pos (by omega)]
    · have := hz he
      simp at this
      omega
  rw [hR]
  have hi := integer_any h
  rw [hL] at hi
  have hE := stop_er (e := 5) (by decide) s.bs.length s1
  have hb : ((stopR 5 s.bs.length s1).er != 0) = true := by rw [bne_iff_ne]; exact hE
  have hk2 := hkeep.2
  have hk1 := congrArg List.length hkeep.1
  have hsz := look_size (s := s) h.le
  rw [hL] at hsz
  simp only at hsz
  have hroom := h.room
  have HI := Lib.hid hi
  have HK1 := Lib.hid hk1
  have HK2 := Lib.hid hk2
  obtain ⟨ao, cap, hv, _⟩ := h.has
  have HV := Lib.hid hv
  clear hi hL hR hkeep h hE hk1 hk2 hv
  generalize s.bs.length = N at *
  generalize s.pl = q at *
  go_enter Try.func29, Try.ntmps29
  go_wp2_with (first
    | (go_at_call 54; refine (HI.out).mono ?_; rintro x w1 ⟨rfl, h1, f1⟩; have d0 := h1.c0; rw [HV.out] at d0; have d1 := h1.c1; rw [HK2.out] at d1; have H1 := Lib.hid h1; have F1 := Lib.hid f1; clear h1 f1)
    | (go_at_call 56; ((with_reducible refine (meet_any H1.out 5 N).mono ?_); rintro x w2 ⟨rfl, h2, f2⟩; have d2 := h2.c2; have H2 := Lib.hid h2; have F2 := Lib.hid f2; clear h2 f2))
    | go_quiet (fail))
  all_goals go_ret
  all_goals exact ⟨rfl, H2.out, F1.out.same F2.out⟩
theorem text_err {n : Int} {k : Nat} {s1 : Rst} (hL : look s = ((n, k), s1)) (h : Rd 71 K w p v s) (most : Int) (he : s1.er ≠ 0) (hm : ¬ most < 0) : Calls Try.prog 29 #[.pointer (some ⟨p, 0, none⟩), .int .i64 most] w fun x w' => x = .returned (.string ⟨(rText most s).1.toArray⟩) ∧ Rd 71 K w' p v (rText most s).2 ∧ Fr (fun k => k = p) w w' := by
  have hkeep := look_keeps s
  rw [hL] at hkeep
  have hz := look_fault (s := s)
  rw [hL] at hz
  simp only at hz hkeep
  have hz' := hz he
  simp at hz'
  obtain ⟨rfl, rfl⟩ := hz'
  have hR : rText most s = ([], s1) := by
    unfold rText
    rw [hL]
    simp only
    rw [if_pos he]
  rw [hR]
  have hi := integer_any h
  rw [hL] at hi
  have hb : (s1.er != 0) = true := by rw [bne_iff_ne]; exact he
  have hk2 := hkeep.2
  have hk1 := congrArg List.length hkeep.1
  have hle := h.le
  have hroom := h.room
  have HI := Lib.hid hi
  have HK1 := Lib.hid hk1
  have HK2 := Lib.hid hk2
  obtain ⟨ao, cap, hv, _⟩ := h.has
  have HV := Lib.hid hv
  clear hi hL hR hkeep h hk1 hk2 hv hz he
  generalize s.bs.length = N at *
  generalize s.pl = q at *
  go_enter Try.func29, Try.ntmps29
  go_wp2_with (first
    | (go_at_call 54; refine (HI.out).mono ?_; rintro x w1 ⟨rfl, h1, f1⟩; have d0 := h1.c0; rw [HV.out] at d0; have d1 := h1.c1; rw [HK2.out] at d1; have d2 := h1.c2; have H1 := Lib.hid h1; have F1 := Lib.hid f1; clear h1 f1)
    | go_quiet (fail))
  all_goals go_ret
  all_goals exact ⟨rfl, H1.out, F1.out⟩
theorem text_ok {m k : Nat} {s1 : Rst} (hL : look s = (((m : Int), k), s1)) (h : Rd 71 K w p v s) (most : Int) (he : s1.er = 0) (hm : ¬ most < (m : Int)) (hs : ¬ (s.bs.length : Int) - ((s.pl : Int) + k) < m) : Calls Try.prog 29 #[.pointer (some ⟨p, 0, none⟩), .int .i64 most] w fun x w' => x = .returned (.string ⟨(rText most s).1.toArray⟩) ∧ Rd 71 K w' p v (rText most s).2 ∧ Fr (fun k => k = p) w w' := by
  have hkeep := look_keeps s
  rw [hL] at hkeep
  simp only at hkeep
  have hsz := look_size (s := s) h.le
  rw [hL] at hsz
  simp only at hsz
  have hR : rText most s = ((s.bs.drop (s.pl + k)).take m, { s1 with pl := s.pl + k + m }) := by
    unfold rText
    rw [hL]
    simp only
    rw [if_neg (by simp [he]), if_neg (by omega), if_neg hm, if_neg (by omega)]
    rfl
  rw [hR]
  have hsome := look_some (s := s) (by rw [hL]; exact he)
  have hi := integer_any h
  rw [hL] at hi
  have hb : (s1.er != 0) = false := by rw [bne_eq_false_iff_eq]; exact he
  have hroom := h.room
  obtain ⟨b, off, cap, hv, hcap, hc63, hbl, hbp, _⟩ := h.cells hsome.2
  have HI := Lib.hid hi
  have HK1 := Lib.hid (congrArg List.length hkeep.1)
  have HK2 := Lib.hid hkeep.2
  have HKB := Lib.hid hkeep.1
  have HV := Lib.hid hv
  have hlen : ((s.bs.drop (s.pl + k)).take m).length = m := by rw [List.length_take, List.length_drop]; omega
  have HLEN := Lib.hid hlen
  have HGET : Hid (∀ j, j < m → ((s.bs.drop (s.pl + k)).take m).getD j 0 = s.bs.getD (s.pl + k + j) 0) := fun j hj => by rw [getD_take hj, getD_drop]
  have hlt1 : s1.pl < s1.bs.length := by rw [hkeep.1, hkeep.2]; exact hsome.2
  have HLT1 := Lib.hid hlt1
  clear hi hL hR hkeep h hv hsome hlen hlt1 he hbl hbp
  generalize (s.bs.drop (s.pl + k)).take m = T at *
  generalize s.bs = bs at *
  generalize hN : bs.length = N at *
  have HN := Lib.hid hN
  clear hN
  generalize s.pl = q at *
  have hfit : (m : Int) ≤ (N : Int) - ((q : Int) + k) := by omega
  have hmost : (m : Int) ≤ most := by omega
  clear hs hm
  go_enter Try.func29, Try.ntmps29
  go_wp2_with (first
    | (go_at_call 54; refine (HI.out).mono ?_; rintro x w1 ⟨rfl, h1, f1⟩; have d0 := h1.c0; rw [HV.out] at d0; have d1 := h1.c1; rw [HK2.out] at d1; have d2 := h1.c2; have fr1 := h1.free 1; have H1 := Lib.hid h1; have F1 := Lib.hid f1; clear h1 f1))
  have H2 := H1.out.set1 (q + k + m) (by rw [HK1.out]; omega)
  have F2 := Lib.hid (fr_set1 (p := p) w1 1 (.int .i64 ((q : Int) + k + m)))
  simp only [Int.natCast_add] at H2
  obtain ⟨W, hW⟩ : ∃ W, W = w1.setCell ⟨p, 1, none⟩ (.int .i64 ((q : Int) + k + m)) := ⟨_, rfl⟩
  rw [← hW] at H2 F2 ⊢
  have e0 := H2.c0
  have e1 := H2.c1
  rw [HV.out] at e0
  simp only [Int.natCast_add] at e1
  have hcv : ∀ nq, (convert 31 9 (.slice (if cap = q + k then some ⟨b, off, none⟩ else some ⟨b, off + (q + k), none⟩) m (cap - (q + k)))).run Try.prog (W.drewN nq) = .ok (.string ⟨T.toArray⟩) (W.drewN nq) := fun nq => by
    obtain ⟨b', off', cap', hv', _, _, _, _, hc⟩ := (H1.out).cells HLT1.out
    rw [HV.out] at hv'
    simp at hv'
    obtain ⟨⟨rfl, rfl⟩, _, rfl⟩ := hv'
    refine conv_cut (W.drewN nq) b off cap (q + k) m _ _ T HLEN.out rfl (by omega) (fun j hj => ?_)
    rw [HGET.out j hj, show off + (q + k + j) = off + (q + k + j) from rfl, ← HKB.out]
    have h3 := ((F2.out.drewN nq).block b (by assumption) (by assumption))
    exact (World.cell?_of_block (a := ⟨b, off + (q + k + j), none⟩) h3).trans (hc (q + k + j) (by rw [HK1.out]; omega))
  have HH2 := Lib.hid H2
  clear d0 d1 d2 fr1 hW H2
  go_quiet (fail)
  go_wp2
  all_goals go_ret
  all_goals exact ⟨rfl, (HH2.out).drewN _, (F1.out.same F2.out).drewN _⟩
theorem text_any (h : Rd 71 K w p v s) (most : Int) : Calls Try.prog 29 #[.pointer (some ⟨p, 0, none⟩), .int .i64 most] w fun x w' => x = .returned (.string ⟨(rText most s).1.toArray⟩) ∧ Rd 71 K w' p v (rText most s).2 ∧ Fr (fun k => k = p) w w' := by
  generalize hL : look s = L
  obtain ⟨⟨n, k⟩, s1⟩ := L
  by_cases h0 : n < 0
  · exact text_neg hL h most h0
  by_cases h1 : most < n
  · exact text_long hL h most h0 h1
  by_cases h2 : (s.bs.length : Int) - ((s.pl : Int) + k) < n
  · exact text_short hL h most h0 h1 h2
  by_cases he : s1.er = 0
  · obtain ⟨m, rfl⟩ := Int.eq_ofNat_of_zero_le (show 0 ≤ n by omega)
    exact text_ok hL h most he h1 h2
  · have hz := look_fault (s := s)
    rw [hL] at hz
    have := hz he
    simp at this
    exact text_err hL h most he (by omega)
end
end Go.Proofs.Ytioopibmpcbcjaa
