/- wire.Reader behind a fault: each read returns nothing and moves nothing. racelaw2.stands. Conditions: the reader's own bytes. -/
import Derived.Test.YtioopibmpcbcjaaX7
import Derived.Deep.QuietTactic
import Derived.BigQuiet
namespace Go.Proofs.Ytioopibmpcbcjaa
open Go.RowKit
section
variable {K L : Nat → Prop} {w : World} {p q : Nat} {v u : Value} {s x : Rst}
/-- Left and place only read. -/
theorem left_q (h : Rd 71 K w p v s) : Calls Try.prog 33 #[.pointer (some ⟨p, 0, none⟩)] w fun x w' => x = .returned (.int .i64 (leftR s : Nat)) ∧ ∃ m, w' = w.drewN m := by
  have c0 := h.c0
  have c1 := h.c1
  have c2 := h.c2
  have hr := h.room
  have hl := h.le
  obtain ⟨ao, cap, rfl, hx⟩ := h.has
  clear hx h
  by_cases he : s.er = 0
  · have hb : (s.er != 0) = false := by simp [he]
    have e : leftR s = s.bs.length - s.pl := by unfold leftR; rw [if_neg (by simp [he])]
    have HE := Lib.hid e; clear he e
    go_enter Try.func33, Try.ntmps33
    go_wp2_with (go_quiet (fail))
    go_ret
    rw [HE.out]
    exact ⟨by simp; omega, _, rfl⟩
  · have hb : (s.er != 0) = true := by simp [he]
    have e : leftR s = 0 := by unfold leftR; rw [if_pos he]
    have HE := Lib.hid e; clear he e
    go_enter Try.func33, Try.ntmps33
    go_wp2
    go_ret
    rw [HE.out]
    exact ⟨rfl, 0, rfl⟩
theorem rleft_q (h : Rd 41 K w p v s) : Calls Try.prog 52 #[.pointer (some ⟨p, 0, none⟩)] w fun x w' => x = .returned (.int .i64 (leftR s : Nat)) ∧ ∃ m, w' = w.drewN m := by
  have c0 := h.c0
  have c1 := h.c1
  have c2 := h.c2
  have hr := h.room
  have hl := h.le
  obtain ⟨ao, cap, rfl, hx⟩ := h.has
  clear hx h
  by_cases he : s.er = 0
  · have hb : (s.er != 0) = false := by simp [he]
    have e : leftR s = s.bs.length - s.pl := by unfold leftR; rw [if_neg (by simp [he])]
    have HE := Lib.hid e; clear he e
    go_enter Try.func52, Try.ntmps52
    go_wp2_with (go_quiet (fail))
    go_ret
    rw [HE.out]
    exact ⟨by simp; omega, _, rfl⟩
  · have hb : (s.er != 0) = true := by simp [he]
    have e : leftR s = 0 := by unfold leftR; rw [if_pos he]
    have HE := Lib.hid e; clear he e
    go_enter Try.func52, Try.ntmps52
    go_wp2
    go_ret
    rw [HE.out]
    exact ⟨rfl, 0, rfl⟩
theorem integer_dead (h : Rd 71 K w p v s) (he : s.er ≠ 0) : Calls Try.prog 54 #[.pointer (some ⟨p, 0, none⟩)] w fun x w' => x = .returned (.tuple #[.int .i64 0, .int .i64 0]) ∧ w' = w := by
  have c2 := h.c2
  have hb : (s.er != 0) = true := by simp [he]
  clear h he
  go_enter Try.func54, Try.ntmps54
  go_wp2
  go_returns
  exact ⟨rfl, rfl⟩
theorem number_dead (h : Rd 71 K w p v s) (he : s.er ≠ 0) (a b : Int) : Calls Try.prog 55 #[.pointer (some ⟨p, 0, none⟩), .int .i64 a, .int .i64 b] w fun x w' => x = .returned (.int .i64 0) ∧ w' = w := by
  have c2 := h.c2
  have hb : (s.er != 0) = true := by simp [he]
  clear h he
  go_enter Try.func55, Try.ntmps55
  go_wp2
  go_ret
  exact ⟨rfl, rfl⟩
theorem meet_dead (h : Rd 71 K w p v s) (he : s.er ≠ 0) (a b : Int) : Calls Try.prog 56 #[.pointer (some ⟨p, 0, none⟩), .int .i64 a, .int .i64 b] w fun x w' => x = .returned (.tuple #[]) ∧ w' = w := by
  have c2 := h.c2
  have hb : (s.er == 0) = false := by simp [he]
  clear h he
  go_enter Try.func56, Try.ntmps56
  go_wp2
  go_returns
  exact ⟨rfl, rfl⟩
theorem int_dead (h : Rd 71 K w p v s) (he : s.er ≠ 0) : Calls Try.prog 26 #[.pointer (some ⟨p, 0, none⟩)] w fun x w' => x = .returned (.int .i64 0) ∧ ∃ m, w' = w.drewN m := by
  have HI := Lib.hid (integer_dead h he)
  have HN := fun a b => Lib.hid (number_dead h he a b)
  clear h he
  go_enter Try.func26, Try.ntmps26
  go_wp2_with (first
    | (go_at_call 54; refine (HI.out).mono ?_; rintro x w1 ⟨rfl, hww⟩; obtain rfl := hww.symm)
    | (go_at_call 55; refine (HN _ _).out.mono ?_; rintro x w2 ⟨rfl, hww⟩; obtain rfl := hww.symm))
  go_ret
  exact ⟨rfl, 0, rfl⟩
theorem count_dead (h : Rd 71 K w p v s) (he : s.er ≠ 0) (most : Int) : Calls Try.prog 31 #[.pointer (some ⟨p, 0, none⟩), .int .i64 most] w fun x w' => x = .returned (.int .i64 0) ∧ ∃ m, w' = w.drewN m := by
  have HI := Lib.hid (integer_dead h he)
  have HN := fun a b => Lib.hid (number_dead h he a b)
  have HM := fun a b => Lib.hid (meet_dead h he a b)
  have c1 := h.c1
  clear h he
  by_cases hm : most < 0
  · go_enter Try.func31, Try.ntmps31
    go_wp2_with (first
      | (go_at_call 54; refine (HI.out).mono ?_; rintro x w1 ⟨rfl, hww⟩; obtain rfl := hww.symm)
      | (go_at_call 56; refine (HM _ _).out.mono ?_; rintro x w2 ⟨rfl, hww⟩; obtain rfl := hww.symm)
      | (go_at_call 55; refine (HN _ _).out.mono ?_; rintro x w2 ⟨rfl, hww⟩; obtain rfl := hww.symm)
      | go_quiet (fail))
    go_ret
    exact ⟨rfl, 0, rfl⟩
  · go_enter Try.func31, Try.ntmps31
    go_wp2_with (first
      | (go_at_call 54; refine (HI.out).mono ?_; rintro x w1 ⟨rfl, hww⟩; obtain rfl := hww.symm)
      | (go_at_call 55; refine (HN _ _).out.mono ?_; rintro x w2 ⟨rfl, hww⟩; obtain rfl := hww.symm)
      | go_quiet (fail))
    go_ret
    exact ⟨rfl, 0, rfl⟩
theorem choice_dead (h : Rd 71 K w p v s) (he : s.er ≠ 0) (most : Int) : Calls Try.prog 32 #[.pointer (some ⟨p, 0, none⟩), .int .i64 most] w fun x w' => x = .returned (.int .i64 0) ∧ ∃ m, w' = w.drewN m := by
  have HI := Lib.hid (integer_dead h he)
  have HN := fun a b => Lib.hid (number_dead h he a b)
  have HM := fun a b => Lib.hid (meet_dead h he a b)
  have c1 := h.c1
  clear h he
  by_cases hm : most < 0
  · go_enter Try.func32, Try.ntmps32
    go_wp2_with (first
      | (go_at_call 54; refine (HI.out).mono ?_; rintro x w1 ⟨rfl, hww⟩; obtain rfl := hww.symm)
      | (go_at_call 56; refine (HM _ _).out.mono ?_; rintro x w2 ⟨rfl, hww⟩; obtain rfl := hww.symm)
      | (go_at_call 55; refine (HN _ _).out.mono ?_; rintro x w2 ⟨rfl, hww⟩; obtain rfl := hww.symm)
      | go_quiet (fail))
    go_ret
    exact ⟨rfl, 0, rfl⟩
  · go_enter Try.func32, Try.ntmps32
    go_wp2_with (first
      | (go_at_call 54; refine (HI.out).mono ?_; rintro x w1 ⟨rfl, hww⟩; obtain rfl := hww.symm)
      | (go_at_call 55; refine (HN _ _).out.mono ?_; rintro x w2 ⟨rfl, hww⟩; obtain rfl := hww.symm)
      | go_quiet (fail))
    go_ret
    exact ⟨rfl, 0, rfl⟩
theorem text_dead (h : Rd 71 K w p v s) (he : s.er ≠ 0) (most : Int) : Calls Try.prog 29 #[.pointer (some ⟨p, 0, none⟩), .int .i64 most] w fun x w' => x = .returned (.string ⟨#[]⟩) ∧ ∃ m, w' = w.drewN m := by
  have HI := Lib.hid (integer_dead h he)
  have HM := fun a b => Lib.hid (meet_dead h he a b)
  have c0 := h.c0
  have c1 := h.c1
  have c2 := h.c2
  have hr := h.room
  have hl := h.le
  have hb : (s.er != 0) = true := by simp [he]
  obtain ⟨ao, cap, rfl, hx⟩ := h.has
  clear h he hx
  by_cases hm : most < 0
  · go_enter Try.func29, Try.ntmps29
    go_wp2_with (first
      | (go_at_call 54; refine (HI.out).mono ?_; rintro x w1 ⟨rfl, hww⟩; obtain rfl := hww.symm)
      | (go_at_call 56; refine (HM _ _).out.mono ?_; rintro x w2 ⟨rfl, hww⟩; obtain rfl := hww.symm))
    go_ret
    exact ⟨rfl, 0, rfl⟩
  · go_enter Try.func29, Try.ntmps29
    go_wp2_with (first
      | (go_at_call 54; refine (HI.out).mono ?_; rintro x w1 ⟨rfl, hww⟩; obtain rfl := hww.symm))
    go_ret
    exact ⟨rfl, 0, rfl⟩
def StandsDone (K L : Nat → Prop) (w : World) (p q : Nat) (v u : Value) (s x : Rst) : Prop :=
  Calls Try.prog 21 #[.pointer (some ⟨p, 0, none⟩), .pointer (some ⟨q, 0, none⟩)] w fun e w' => e = .returned (.bool true) ∧ Two K L w' p q v u s x ∧ Fr (foot2 p q) w w'
theorem stands_no (h : Two K L w p q v u s x) (hl : Like s x) (he : s.er = 0) : StandsDone K L w p q v u s x := by
  unfold StandsDone
  have hEnd := hl.end
  have hLeft := hl.left
  obtain ⟨bs, pl, er, fp⟩ := s
  obtain ⟨bs', pl', er', fp'⟩ := x
  obtain ⟨e1, e2, e3, -, e5⟩ := hl
  simp only at he e1 e2 e3 e5
  subst he
  obtain rfl := e5 rfl
  subst e1 e2 e3
  have H := Lib.hid h
  have HN := Lib.hid hEnd
  have HL : Hid (∀ w', Rd 41 L w' q u ⟨bs', pl', 0, fp'⟩ → Calls Try.prog 52 #[.pointer (some ⟨q, 0, none⟩)] w' fun x w'' => x = .returned (.int .i64 (leftR ⟨bs', pl', 0, 0⟩ : Nat)) ∧ ∃ m, w'' = w'.drewN m) := fun w' h => by
    have := rleft_q h
    rwa [hLeft] at this
  have b4 : (((leftR ⟨bs', pl', 0, 0⟩ : Nat) : Int) == ((leftR ⟨bs', pl', 0, 0⟩ : Nat) : Int)) = true := beq_self_eq_true _
  clear h hEnd hLeft e5
  have b1 : ((endR ⟨bs', pl', 0, 0⟩).1 == (endR ⟨bs', pl', 0, 0⟩).1) = true := beq_self_eq_true _
  have b2 : (((endR ⟨bs', pl', 0, 0⟩).2 : Int) == ((endR ⟨bs', pl', 0, 0⟩).2 : Int)) = true := beq_self_eq_true _
  have b3 : ((pl' : Int) == (pl' : Int)) = true := beq_self_eq_true _
  go_enter Try.func21, Try.ntmps21
  go_wp2_with (first
    | (go_at_call 24; refine (fault_any H.out.a).mono ?_; rintro e w1 ⟨rfl, h1, f1⟩; have H1 := Lib.hid (H.out.ga h1 f1); have F1 := Lib.hid (f2a (q := q) (Fr.refl _ _) f1); clear h1 f1)
    | (go_at_call 23; refine (end_any H1.out.a (fun _ => rfl)).mono ?_; rintro e w2 ⟨rfl, h1, f1⟩; have H2 := Lib.hid (H1.out.ga h1 f1); have F2 := Lib.hid (f2a F1.out f1); clear h1 f1)
    | (go_at_call 51; refine (rend_any H2.out.b).mono ?_; rw [HN.out]; rintro e w3 ⟨rfl, h1, f1⟩; have H3 := Lib.hid (H2.out.gb h1 f1); have F3 := Lib.hid (f2b F2.out f1); have d1 := H3.out.b.c1; have d2 := H3.out.b.c2; have d3 := H3.out.b.c3; clear h1 f1))
  go_quiet (first
    | (go_at_call 25; refine Calls.quiet_of_same (place_any (H3.out.drewN _).a))
    | (go_at_call 33; refine Calls.quiet_of (left_q (H3.out.drewN _).a))
    | (go_at_call 52; refine Calls.quiet_of (HL.out _ (H3.out.drewN _).b)))
  go_wp2
  go_ret
  exact ⟨rfl, H3.out.drewN _, F3.out.drewN _⟩
theorem stands_err (h : Two K L w p q v u s x) (hl : Like s x) (he : s.er ≠ 0) : StandsDone K L w p q v u s x := by
  unfold StandsDone
  have hLeft := hl.left
  obtain ⟨bs, pl, er, fp⟩ := s
  obtain ⟨bs', pl', er', fp'⟩ := x
  obtain ⟨e1, e2, e3, e4, -⟩ := hl
  simp only at he e1 e2 e3 e4
  subst e1 e2 e3
  obtain rfl := (e4 he).symm
  have H := Lib.hid h
  have HL : Hid (∀ w', Rd 41 L w' q u ⟨bs', pl', er', fp⟩ → Calls Try.prog 52 #[.pointer (some ⟨q, 0, none⟩)] w' fun x w'' => x = .returned (.int .i64 (leftR ⟨bs', pl', er', fp⟩ : Nat)) ∧ ∃ m, w'' = w'.drewN m) := fun w' h => by
    have := rleft_q h
    rwa [hLeft] at this
  have b4 : (((leftR ⟨bs', pl', er', fp⟩ : Nat) : Int) == ((leftR ⟨bs', pl', er', fp⟩ : Nat) : Int)) = true := beq_self_eq_true _
  have b5 : (er' == er') = true := beq_self_eq_true _
  have b6 : ((fp : Int) == (fp : Int)) = true := beq_self_eq_true _
  have b7 : (er' == 0) = false := by rw [beq_eq_false_iff_ne]; exact he
  have HE := Lib.hid he
  clear h hLeft he e4
  have b1 : ((endR ⟨bs', pl', er', fp⟩).1 == (endR ⟨bs', pl', er', fp⟩).1) = true := beq_self_eq_true _
  have b2 : (((endR ⟨bs', pl', er', fp⟩).2 : Int) == ((endR ⟨bs', pl', er', fp⟩).2 : Int)) = true := beq_self_eq_true _
  have b3 : ((pl' : Int) == (pl' : Int)) = true := beq_self_eq_true _
  go_enter Try.func21, Try.ntmps21
  go_wp2_with (first
    | (go_at_call 24; refine (fault_any H.out.a).mono ?_; rintro e w1 ⟨rfl, h1, f1⟩; have H1 := Lib.hid (H.out.ga h1 f1); have F1 := Lib.hid (f2a (q := q) (Fr.refl _ _) f1); clear h1 f1)
    | (go_at_call 23; refine (end_any H1.out.a (fun e => absurd e HE.out)).mono ?_; rintro e w2 ⟨rfl, h1, f1⟩; have H2 := Lib.hid (H1.out.ga h1 f1); have F2 := Lib.hid (f2a F1.out f1); clear h1 f1)
    | (go_at_call 51; refine (rend_any H2.out.b).mono ?_; rintro e w3 ⟨rfl, h1, f1⟩; have H3 := Lib.hid (H2.out.gb h1 f1); have F3 := Lib.hid (f2b F2.out f1); have d1 := H3.out.b.c1; have d2 := H3.out.b.c2; have d3 := H3.out.b.c3; clear h1 f1))
  go_quiet (first
    | (go_at_call 25; refine Calls.quiet_of_same (place_any (H3.out.drewN _).a))
    | (go_at_call 33; refine Calls.quiet_of (left_q (H3.out.drewN _).a))
    | (go_at_call 52; refine Calls.quiet_of (HL.out _ (H3.out.drewN _).b)))
  go_wp2
  go_ret
  exact ⟨rfl, H3.out.drewN _, F3.out.drewN _⟩
theorem stands_any (h : Two K L w p q v u s x) (hl : Like s x) : StandsDone K L w p q v u s x := by
  by_cases he : s.er = 0
  · exact stands_no h hl he
  · exact stands_err h hl he
end
end Go.Proofs.Ytioopibmpcbcjaa
