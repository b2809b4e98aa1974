/- Contracts of the small methods of wire.Reader and raceref2.Reader: faults, places, what is left. Conditions: the reader's own bytes. -/
import Derived.Test.YtioopibmpcbcjaaM
import Derived.BigQuiet
import Derived.Handy
namespace Go.Proofs.Ytioopibmpcbcjaa
open Go.RowKit
theorem stop_if {s : Rst} (h : s.er = 0) (e : Int) (q : Nat) : stopR e q s = { s with er := e, fp := q } := by unfold stopR; rw [if_pos h]
theorem stop_not {s : Rst} (h : s.er ≠ 0) (e : Int) (q : Nat) : stopR e q s = s := by unfold stopR; rw [if_neg h]
/-- Fail. -/
def failR (e : Int) (s : Rst) : Rst := if e = 0 then s else stopR e s.pl s
theorem failR_no (s : Rst) : failR 0 s = s := if_pos rfl
theorem failR_yes {e : Int} (h : e ≠ 0) (s : Rst) : failR e s = stopR e s.pl s := if_neg h
section
variable {K : Nat → Prop} {w : World} {p : Nat} {v : Value} {s : Rst}
theorem meet_any (h : Rd 71 K w p v s) (e : Int) (q : Nat) : Calls Try.prog 56 #[.pointer (some ⟨p, 0, none⟩), .int .i64 e, .int .i64 (q : Int)] w fun x w' => x = .returned (.tuple #[]) ∧ Rd 71 K w' p v (stopR e q s) ∧ Fr (fun k => k = p) w w' := by
  have c2 := h.c2
  have c3 := h.c3
  have f2 := h.free 2
  have f3 := h.free 3
  have H := Lib.hid h; clear h
  by_cases he : s.er = 0
  · have hb : (s.er == 0) = true := by simp [he]
    have HE := Lib.hid he; clear he
    go_enter Try.func56, Try.ntmps56
    go_wp2
    go_returns
    exact ⟨rfl, by rw [stop_if HE.out]; exact H.out.set23 e q, fr_set2 w 2 3 _ _⟩
  · have hb : (s.er == 0) = false := by simp [he]
    have HE := Lib.hid he; clear he
    go_enter Try.func56, Try.ntmps56
    go_wp2
    go_returns
    exact ⟨rfl, by rw [stop_not HE.out]; exact H.out, Fr.refl _ _⟩
theorem stop_any (h : Rd 41 K w p v s) (e : Int) (q : Nat) : Calls Try.prog 62 #[.pointer (some ⟨p, 0, none⟩), .int .i64 e, .int .i64 (q : Int)] w fun x w' => x = .returned (.tuple #[]) ∧ Rd 41 K w' p v (stopR e q s) ∧ Fr (fun k => k = p) w w' := by
  have c2 := h.c2
  have c3 := h.c3
  have f2 := h.free 2
  have f3 := h.free 3
  have H := Lib.hid h; clear h
  by_cases he : s.er = 0
  · have hb : (s.er == 0) = true := by simp [he]
    have HE := Lib.hid he; clear he
    go_enter Try.func62, Try.ntmps62
    go_wp2
    go_returns
    exact ⟨rfl, by rw [stop_if HE.out]; exact H.out.set23 e q, fr_set2 w 2 3 _ _⟩
  · have hb : (s.er == 0) = false := by simp [he]
    have HE := Lib.hid he; clear he
    go_enter Try.func62, Try.ntmps62
    go_wp2
    go_returns
    exact ⟨rfl, by rw [stop_not HE.out]; exact H.out, Fr.refl _ _⟩
theorem left_any (h : Rd 71 K w p v s) : Calls Try.prog 33 #[.pointer (some ⟨p, 0, none⟩)] w fun x w' => x = .returned (.int .i64 (leftR s : Nat)) ∧ Rd 71 K w' p v s ∧ Fr (fun k => k = p) w w' := by
  have c0 := h.c0
  have c1 := h.c1
  have c2 := h.c2
  have hr := h.room
  have hl := h.le
  obtain ⟨ao, cap, rfl, hx⟩ := h.has
  clear hx
  have H := Lib.hid h; clear h
  by_cases he : s.er = 0
  · have hb : (s.er != 0) = false := by simp [he]
    have e : leftR s = s.bs.length - s.pl := by unfold leftR; rw [if_neg (by simp [he])]
    have HE := Lib.hid e; clear he e
    go_enter Try.func33, Try.ntmps33
    go_wp2_with (go_quiet (fail))
    go_ret
    rw [HE.out]
    exact ⟨by simp; omega, H.out.drewN _, (Fr.refl _ _).drewN _⟩
  · have hb : (s.er != 0) = true := by simp [he]
    have e : leftR s = 0 := by unfold leftR; rw [if_pos he]
    have HE := Lib.hid e; clear he e
    go_enter Try.func33, Try.ntmps33
    go_wp2
    go_ret
    rw [HE.out]
    exact ⟨rfl, H.out, Fr.refl _ _⟩
theorem rleft_any (h : Rd 41 K w p v s) : Calls Try.prog 52 #[.pointer (some ⟨p, 0, none⟩)] w fun x w' => x = .returned (.int .i64 (leftR s : Nat)) ∧ Rd 41 K w' p v s ∧ Fr (fun k => k = p) w w' := by
  have c0 := h.c0
  have c1 := h.c1
  have c2 := h.c2
  have hr := h.room
  have hl := h.le
  obtain ⟨ao, cap, rfl, hx⟩ := h.has
  clear hx
  have H := Lib.hid h; clear h
  by_cases he : s.er = 0
  · have hb : (s.er != 0) = false := by simp [he]
    have e : leftR s = s.bs.length - s.pl := by unfold leftR; rw [if_neg (by simp [he])]
    have HE := Lib.hid e; clear he e
    go_enter Try.func52, Try.ntmps52
    go_wp2_with (go_quiet (fail))
    go_ret
    rw [HE.out]
    exact ⟨by simp; omega, H.out.drewN _, (Fr.refl _ _).drewN _⟩
  · have hb : (s.er != 0) = true := by simp [he]
    have e : leftR s = 0 := by unfold leftR; rw [if_pos he]
    have HE := Lib.hid e; clear he e
    go_enter Try.func52, Try.ntmps52
    go_wp2
    go_ret
    rw [HE.out]
    exact ⟨rfl, H.out, Fr.refl _ _⟩
theorem number_any (h : Rd 71 K w p v s) (n : Int) (k : Nat) (hk : s.pl + k ≤ s.bs.length) : Calls Try.prog 55 #[.pointer (some ⟨p, 0, none⟩), .int .i64 n, .int .i64 (k : Int)] w fun x w' => x = .returned (.int .i64 (number n k s).1) ∧ Rd 71 K w' p v (number n k s).2 ∧ Fr (fun k => k = p) w w' := by
  have c1 := h.c1
  have c2 := h.c2
  have f1 := h.free 1
  have hr := h.room
  have H := Lib.hid h; clear h
  by_cases he : s.er = 0
  · have hb : (s.er != 0) = false := by simp [he]
    have HE := Lib.hid he; clear he
    go_enter Try.func55, Try.ntmps55
    go_wp2
    go_ret
    have := H.out.set1 (s.pl + k) hk
    have e : number n k s = (n, { s with pl := s.pl + k }) := by unfold number; rw [if_neg (by simp [HE.out])]
    rw [e]
    exact ⟨rfl, by simpa using this, fr_set1 w 1 _⟩
  · have hb : (s.er != 0) = true := by simp [he]
    have HE := Lib.hid he; clear he
    go_enter Try.func55, Try.ntmps55
    go_wp2
    go_ret
    have e : number n k s = (0, s) := by unfold number; rw [if_pos HE.out]
    rw [e]
    exact ⟨rfl, H.out, Fr.refl _ _⟩
theorem fault_any (h : Rd 71 K w p v s) : Calls Try.prog 24 #[.pointer (some ⟨p, 0, none⟩)] w fun x w' => x = .returned (.tuple #[.int .i64 s.er, .int .i64 (s.fp : Int)]) ∧ Rd 71 K w' p v s ∧ Fr (fun k => k = p) w w' := by
  have c2 := h.c2
  have c3 := h.c3
  have H := Lib.hid h; clear h
  go_enter Try.func24, Try.ntmps24
  go_wp2_with (go_quiet (fail))
  go_returns
  exact ⟨rfl, H.out.drewN _, (Fr.refl _ _).drewN _⟩
theorem place_any (h : Rd 71 K w p v s) : Calls Try.prog 25 #[.pointer (some ⟨p, 0, none⟩)] w fun x w' => x = .returned (.int .i64 (s.pl : Int)) ∧ w' = w := by
  have c1 := h.c1
  clear h
  go_enter Try.func25, Try.ntmps25
  go_wp2
  go_ret
  exact ⟨rfl, rfl⟩
theorem end_any (h : Rd 71 K w p v s) (hg : s.er = 0 → s.fp = 0) : Calls Try.prog 23 #[.pointer (some ⟨p, 0, none⟩)] w fun x w' => x = .returned (.tuple #[.int .i64 (endR s).1, .int .i64 ((endR s).2 : Nat)]) ∧ Rd 71 K w' p v s ∧ Fr (fun k => k = p) w w' := by
  have hr := h.room
  have hl := h.le
  have HG := Lib.hid hg; clear hg
  have H := Lib.hid h; clear h
  go_enter Try.func23, Try.ntmps23
  go_wp2_with (first
    | (go_at_call 33; refine (left_any H.out).mono ?_; rintro x w1 ⟨rfl, h1, f1⟩; have d1 := h1.c1; have H1 := Lib.hid h1; have F1 := Lib.hid f1; clear h1 f1)
    | (go_at_call 24; refine (fault_any H1.out).mono ?_; rintro x w2 ⟨rfl, h2, f2⟩; have H2 := Lib.hid h2; have F2 := Lib.hid (F1.out.same f2); clear h2 f2)
    | go_quiet (fail))
  · go_returns
    rename_i ht
    have e : endR s = (6, s.pl) := by
      by_cases h1 : s.er = 0
      · have h3 : leftR s = s.bs.length - s.pl := by unfold leftR; rw [if_neg (by simp [h1])]
        unfold endR; rw [if_neg (by simp [h1]), if_pos (by omega)]
      · have h3 : leftR s = 0 := by unfold leftR; rw [if_pos h1]
        omega
    rw [e]
    exact ⟨rfl, H1.out.drewN _, F1.out.drewN _⟩
  · go_returns
    rename_i ht
    have e : endR s = (s.er, s.fp) := by
      by_cases h1 : s.er = 0
      · have h3 : leftR s = s.bs.length - s.pl := by unfold leftR; rw [if_neg (by simp [h1])]
        unfold endR; rw [if_neg (by simp [h1]), if_neg (by omega), HG.out h1, h1]
      · unfold endR; rw [if_pos h1]
    rw [e]
    exact ⟨rfl, H2.out, F2.out⟩
theorem fail_any (h : Rd 71 K w p v s) (e : Int) : Calls Try.prog 30 #[.pointer (some ⟨p, 0, none⟩), .int .i64 e] w fun x w' => x = .returned (.tuple #[]) ∧ Rd 71 K w' p v (failR e s) ∧ Fr (fun k => k = p) w w' := by
  have c1 := h.c1
  have H := Lib.hid h; clear h
  by_cases he : e = 0
  · subst he
    go_enter Try.func30, Try.ntmps30
    go_wp2
    go_returns
    rw [failR_no]
    exact ⟨rfl, H.out, Fr.refl _ _⟩
  · have hb : (e != 0) = true := by simp [he]
    have HE := Lib.hid he; clear he
    go_enter Try.func30, Try.ntmps30
    go_wp2_with (go_at_call 56; refine (meet_any H.out e s.pl).mono ?_; rintro x w1 ⟨rfl, h1, f1⟩; have H1 := Lib.hid h1; have F1 := Lib.hid f1; clear h1 f1)
    go_returns
    rw [failR_yes HE.out]
    exact ⟨rfl, H1.out, F1.out⟩
theorem rfail_any (h : Rd 41 K w p v s) (e : Int) : Calls Try.prog 50 #[.pointer (some ⟨p, 0, none⟩), .int .i64 e] w fun x w' => x = .returned (.tuple #[]) ∧ Rd 41 K w' p v (stopR e s.pl s) ∧ Fr (fun k => k = p) w w' := by
  have c1 := h.c1
  have H := Lib.hid h; clear h
  go_enter Try.func50, Try.ntmps50
  go_wp2_with (go_at_call 62; refine (stop_any H.out e s.pl).mono ?_; rintro x w1 ⟨rfl, h1, f1⟩; have H1 := Lib.hid h1; have F1 := Lib.hid f1; clear h1 f1)
  go_returns
  exact ⟨rfl, H1.out, F1.out⟩
theorem rend_any (h : Rd 41 K w p v s) : Calls Try.prog 51 #[.pointer (some ⟨p, 0, none⟩)] w fun x w' => x = .returned (.tuple #[.int .i64 (endR s).1, .int .i64 ((endR s).2 : Nat)]) ∧ Rd 41 K w' p v s ∧ Fr (fun k => k = p) w w' := by
  have c0 := h.c0
  have c1 := h.c1
  have c2 := h.c2
  have c3 := h.c3
  have hr := h.room
  have hl := h.le
  obtain ⟨ao, cap, rfl, hx⟩ := h.has
  have H := Lib.hid h; clear hx h
  by_cases he : s.er = 0
  · have hb : (s.er != 0) = false := by simp [he]
    have e : endR s = if s.pl < s.bs.length then (6, s.pl) else (0, 0) := by unfold endR; rw [if_neg (by simp [he])]
    have HE := Lib.hid e; clear he e
    go_enter Try.func51, Try.ntmps51
    go_wp2_with (go_quiet (fail))
    · go_returns
      rename_i ht
      rw [HE.out, if_pos ht]
      exact ⟨rfl, (H.out.drewN _).drewN _, ((Fr.refl _ _).drewN _).drewN _⟩
    · go_returns
      rename_i ht
      rw [HE.out, if_neg ht]
      exact ⟨rfl, H.out.drewN _, (Fr.refl _ _).drewN _⟩
  · have hb : (s.er != 0) = true := by simp [he]
    have e : endR s = (s.er, s.fp) := by unfold endR; rw [if_pos he]
    have HE := Lib.hid e; clear he e
    go_enter Try.func51, Try.ntmps51
    go_wp2_with (go_quiet (fail))
    go_returns
    rw [HE.out]
    exact ⟨rfl, H.out.drewN _, (Fr.refl _ _).drewN _⟩
end
end Go.Proofs.Ytioopibmpcbcjaa
