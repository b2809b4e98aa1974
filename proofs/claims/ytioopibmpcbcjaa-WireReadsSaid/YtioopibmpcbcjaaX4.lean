/- The contracts of raceref2.Reader's size, Count and Choice. Conditions: the reader's own bytes. -/
import Derived.Test.YtioopibmpcbcjaaX3
namespace Go.Proofs.Ytioopibmpcbcjaa
open Go.RowKit
section
variable {t : TypeId} {K : Nat → Prop} {w : World} {p : Nat} {v : Value} {s : Rst}
theorem look_state (h : (look s).2.er = 0) : (look s).2 = s := by
  have h0 := (look_some h).1
  unfold look at h ⊢
  rw [if_neg (by simp [h0])] at h ⊢
  split
  · rename_i hg
    rw [if_pos hg] at h
    exact absurd h (stop_er (by decide) _ _)
  · rename_i hg
    rw [if_neg hg] at h
    split
    · rfl
    · rename_i hf
      rw [if_neg hf] at h
      exact absurd h (stop_er (by decide) _ _)
def SizeDone (K : Nat → Prop) (w : World) (p : Nat) (v : Value) (s : Rst) (most above : Int) : Prop := Calls Try.prog 64 #[.pointer (some ⟨p, 0, none⟩), .int .i64 most, .int .i64 above] w fun x w' => x = .returned (.int .i64 (rSz most above s).1) ∧ Rd 41 K w' p v (rSz most above s).2 ∧ Fr (fun k => k = p) w w'
theorem rsize_err (h : Rd 41 K w p v s) (most above : Int) (he : (look s).2.er ≠ 0) : SizeDone K w p v s most above := by
  unfold SizeDone
  have hR : rSz most above s = (0, (look s).2) := by unfold rSz; rw [if_pos he]
  have hI : rInt s = (0, (look s).2) := by unfold rInt number; rw [if_pos he]
  have hi := rint_any h
  unfold IntDone at hi
  rw [hI] at hi
  rw [hR]
  have c1 := h.c1
  have hb : ((look s).2.er != 0) = true := by rw [bne_iff_ne]; exact he
  have HI := Lib.hid hi
  clear h hR hI he hi
  generalize (look s).2 = s1 at *
  go_enter Try.func64, Try.ntmps64
  go_wp2_with (first
    | (go_at_call 44; refine (HI.out).mono ?_; rintro x w1 ⟨rfl, h1, f1⟩; have d2 := h1.c2; have H1 := Lib.hid h1; have F1 := Lib.hid f1; clear h1 f1))
  go_ret
  exact ⟨rfl, H1.out, F1.out⟩
theorem rsize_ok (h : Rd 41 K w p v s) (most above : Int) (he : (look s).2.er = 0) : SizeDone K w p v s most above := by
  unfold SizeDone
  have hs := look_state he
  have hsz := look_size (s := s) h.le
  have hrg := look_range (s := s)
  have hR : rSz most above s = if (look s).1.1 < 0 then (0, stopR 4 s.pl s) else if most < (look s).1.1 then (0, stopR above s.pl s) else ((look s).1.1, { s with pl := s.pl + (look s).1.2 }) := by
    unfold rSz
    rw [if_neg (by simp [he]), hs]
  have hI : rInt s = ((look s).1.1, { s with pl := s.pl + (look s).1.2 }) := by unfold rInt number; rw [if_neg (by simp [he]), hs]
  have hi := rint_any h
  unfold IntDone at hi
  rw [hI] at hi
  rw [hR]
  have c1 := h.c1
  rw [hs] at he
  have HE := Lib.hid he
  have hle := h.le
  have HLE := Lib.hid hle
  clear h hR hI he hs
  generalize (look s).1.1 = n at *
  generalize (look s).1.2 = k at *
  have HI := Lib.hid hi
  have HSZ := Lib.hid hsz
  clear hi hsz hle
  by_cases h0 : n < 0
  · rw [if_pos h0]
    go_enter Try.func64, Try.ntmps64
    go_wp2_with (first
      | (go_at_call 44; refine (HI.out).mono ?_; rintro x w1 ⟨rfl, h1, f1⟩; have d2 := h1.c2; rw [show ({ s with pl := s.pl + k } : Rst).er = 0 from HE.out] at d2; have fr1 := h1.free 1; have d1 := h1.c1; have H1 := Lib.hid h1; have F1 := Lib.hid f1; clear h1 f1)
      | (go_at_call 62; ((with_reducible refine (stop_any (H1.out.set1 s.pl HLE.out) 4 s.pl).mono ?_); rintro x w2 ⟨rfl, h2, f2⟩; have H2 := Lib.hid h2; have F2 := Lib.hid f2; clear h2 f2)))
    go_ret
    exact ⟨rfl, H2.out, (F1.out.same (fr_set1 _ 1 _)).same F2.out⟩
  · rw [if_neg h0]
    by_cases hm : most < n
    · rw [if_pos hm]
      go_enter Try.func64, Try.ntmps64
      go_wp2_with (first
        | (go_at_call 44; refine (HI.out).mono ?_; rintro x w1 ⟨rfl, h1, f1⟩; have d2 := h1.c2; rw [show ({ s with pl := s.pl + k } : Rst).er = 0 from HE.out] at d2; have fr1 := h1.free 1; have d1 := h1.c1; have H1 := Lib.hid h1; have F1 := Lib.hid f1; clear h1 f1)
        | (go_at_call 62; ((with_reducible refine (stop_any (H1.out.set1 s.pl HLE.out) above s.pl).mono ?_); rintro x w2 ⟨rfl, h2, f2⟩; have H2 := Lib.hid h2; have F2 := Lib.hid f2; clear h2 f2)))
      go_ret
      exact ⟨rfl, H2.out, (F1.out.same (fr_set1 _ 1 _)).same F2.out⟩
    · rw [if_neg hm]
      go_enter Try.func64, Try.ntmps64
      go_wp2_with (first
        | (go_at_call 44; refine (HI.out).mono ?_; rintro x w1 ⟨rfl, h1, f1⟩; have d2 := h1.c2; rw [show ({ s with pl := s.pl + k } : Rst).er = 0 from HE.out] at d2; have H1 := Lib.hid h1; have F1 := Lib.hid f1; clear h1 f1))
      go_ret
      exact ⟨rfl, H1.out, F1.out⟩
theorem rsize_any (h : Rd 41 K w p v s) (most above : Int) : SizeDone K w p v s most above := by
  by_cases he : (look s).2.er = 0
  · exact rsize_ok h most above he
  · exact rsize_err h most above he
theorem rcount_any (h : Rd 41 K w p v s) (most : Int) : Calls Try.prog 48 #[.pointer (some ⟨p, 0, none⟩), .int .i64 most] w fun x w' => x = .returned (.int .i64 (rSz most 3 s).1) ∧ Rd 41 K w' p v (rSz most 3 s).2 ∧ Fr (fun k => k = p) w w' := by
  have hi := rsize_any h most 3
  unfold SizeDone at hi
  have HI := Lib.hid hi
  clear h hi
  go_enter Try.func48, Try.ntmps48
  go_wp2_with (first
    | (go_at_call 64; refine (HI.out).mono ?_; rintro x w1 ⟨rfl, h1, f1⟩; have H1 := Lib.hid h1; have F1 := Lib.hid f1; clear h1 f1))
  go_ret
  exact ⟨rfl, H1.out, F1.out⟩
theorem rchoice_any (h : Rd 41 K w p v s) (most : Int) : Calls Try.prog 49 #[.pointer (some ⟨p, 0, none⟩), .int .i64 most] w fun x w' => x = .returned (.int .i64 (rSz most 4 s).1) ∧ Rd 41 K w' p v (rSz most 4 s).2 ∧ Fr (fun k => k = p) w w' := by
  have hi := rsize_any h most 4
  unfold SizeDone at hi
  have HI := Lib.hid hi
  clear h hi
  go_enter Try.func49, Try.ntmps49
  go_wp2_with (first
    | (go_at_call 64; refine (HI.out).mono ?_; rintro x w1 ⟨rfl, h1, f1⟩; have H1 := Lib.hid h1; have F1 := Lib.hid f1; clear h1 f1))
  go_ret
  exact ⟨rfl, H1.out, F1.out⟩
end
end Go.Proofs.Ytioopibmpcbcjaa
