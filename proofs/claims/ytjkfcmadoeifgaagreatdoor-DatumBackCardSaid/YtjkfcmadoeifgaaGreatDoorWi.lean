/- Package wire in memory (X4, X5, X6): ported. Conditions: those of each law. -/
import Derived.Test.YtjkfcmadoeifgaaGreatDoorWh
import Derived.Deep.DeepCutAuto
namespace Go.Proofs.YtjkfcmadoeifgaaGreatDoor
section
open Go.RowKit
section
variable {t : TypeId} {K : Nat → Prop} {w : World} {p : Nat} {v : Value} {s : Rst}
theorem look_state (h : (look s).2.er = 0) : (look s).2 = s := by
  have h0 := (look_some h).1
  unfold look at h ⊢
  rw [if_neg (by simp [h0])] at h ⊢
  split
  · rename_i hg
    rw [if_pos hg] at h
    exact absurd h (stop_er (by decide) _ _)
  · rename_i hg
    rw [if_neg hg] at h
    split
    · rfl
    · rename_i hf
      rw [if_neg hf] at h
      exact absurd h (stop_er (by decide) _ _)
def SizeDone (K : Nat → Prop) (w : World) (p : Nat) (v : Value) (s : Rst) (most above : Int) : Prop := Calls Tryz.prog 79 #[.pointer (some ⟨p, 0, none⟩), .int .i64 most, .int .i64 above] w fun x w' => x = .returned (.int .i64 (rSz most above s).1) ∧ Rd 40 K w' p v (rSz most above s).2 ∧ Fr (fun k => k = p) w w'
theorem rsize_err (h : Rd 40 K w p v s) (most above : Int) (he : (look s).2.er ≠ 0) : SizeDone K w p v s most above := by
  unfold SizeDone
  have hR : rSz most above s = (0, (look s).2) := by unfold rSz; rw [if_pos he]
  have hI : rInt s = (0, (look s).2) := by unfold rInt number; rw [if_pos he]
  have hi := rint_any h
  unfold IntDone at hi
  rw [hI] at hi
  rw [hR]
  have c1 := h.c1
  have hb : ((look s).2.er != 0) = true := by rw [bne_iff_ne]; exact he
  have HI := Lib.hid hi
  clear h hR hI he hi
  generalize (look s).2 = s1 at *
  go_enter Tryz.func79, Tryz.ntmps79
  go_wp2_with (first
    | (go_at_call 100; refine (HI.out).mono ?_; rintro x w1 ⟨rfl, h1, f1⟩; have d2 := h1.c2; have H1 := Lib.hid h1; have F1 := Lib.hid f1; clear h1 f1))
  go_ret
  exact ⟨rfl, H1.out, F1.out⟩
theorem rsize_ok (h : Rd 40 K w p v s) (most above : Int) (he : (look s).2.er = 0) : SizeDone K w p v s most above := by
  unfold SizeDone
  have hs := look_state he
  have hsz := look_size (s := s) h.le
  have hrg := look_range (s := s)
  have hR : rSz most above s = if (look s).1.1 < 0 then (0, stopR 4 s.pl s) else if most < (look s).1.1 then (0, stopR above s.pl s) else ((look s).1.1, { s with pl := s.pl + (look s).1.2 }) := by
    unfold rSz
    rw [if_neg (by simp [he]), hs]
  have hI : rInt s = ((look s).1.1, { s with pl := s.pl + (look s).1.2 }) := by unfold rInt number; rw [if_neg (by simp [he]), hs]
  have hi := rint_any h
  unfold IntDone at hi
  rw [hI] at hi
  rw [hR]
  have c1 := h.c1
  rw [hs] at he
  have HE := Lib.hid he
  have hle := h.le
  have HLE := Lib.hid hle
  clear h hR hI he hs
  generalize (look s).1.1 = n at *
  generalize (look s).1.2 = k at *
  have HI := Lib.hid hi
  have HSZ := Lib.hid hsz
  clear hi hsz hle
  by_cases h0 : n < 0
  · rw [if_pos h0]
    go_enter Tryz.func79, Tryz.ntmps79
    go_wp2_with (first
      | (go_at_call 100; refine (HI.out).mono ?_; rintro x w1 ⟨rfl, h1, f1⟩; have d2 := h1.c2; rw [show ({ s with pl := s.pl + k } : Rst).er = 0 from HE.out] at d2; have fr1 := h1.free 1; have d1 := h1.c1; have H1 := Lib.hid h1; have F1 := Lib.hid f1; clear h1 f1)
      | (go_at_call 80; ((with_reducible refine (stop_any (H1.out.set1 s.pl HLE.out) 4 s.pl).mono ?_); rintro x w2 ⟨rfl, h2, f2⟩; have H2 := Lib.hid h2; have F2 := Lib.hid f2; clear h2 f2)))
    go_ret
    exact ⟨rfl, H2.out, (F1.out.same (fr_set1 _ 1 _)).same F2.out⟩
  · rw [if_neg h0]
    by_cases hm : most < n
    · rw [if_pos hm]
      go_enter Tryz.func79, Tryz.ntmps79
      go_wp2_with (first
        | (go_at_call 100; refine (HI.out).mono ?_; rintro x w1 ⟨rfl, h1, f1⟩; have d2 := h1.c2; rw [show ({ s with pl := s.pl + k } : Rst).er = 0 from HE.out] at d2; have fr1 := h1.free 1; have d1 := h1.c1; have H1 := Lib.hid h1; have F1 := Lib.hid f1; clear h1 f1)
        | (go_at_call 80; ((with_reducible refine (stop_any (H1.out.set1 s.pl HLE.out) above s.pl).mono ?_); rintro x w2 ⟨rfl, h2, f2⟩; have H2 := Lib.hid h2; have F2 := Lib.hid f2; clear h2 f2)))
      go_ret
      exact ⟨rfl, H2.out, (F1.out.same (fr_set1 _ 1 _)).same F2.out⟩
    · rw [if_neg hm]
      go_enter Tryz.func79, Tryz.ntmps79
      go_wp2_with (first
        | (go_at_call 100; refine (HI.out).mono ?_; rintro x w1 ⟨rfl, h1, f1⟩; have d2 := h1.c2; rw [show ({ s with pl := s.pl + k } : Rst).er = 0 from HE.out] at d2; have H1 := Lib.hid h1; have F1 := Lib.hid f1; clear h1 f1))
      go_ret
      exact ⟨rfl, H1.out, F1.out⟩
theorem rsize_any (h : Rd 40 K w p v s) (most above : Int) : SizeDone K w p v s most above := by
  by_cases he : (look s).2.er = 0
  · exact rsize_ok h most above he
  · exact rsize_err h most above he
theorem rchoice_any (h : Rd 40 K w p v s) (most : Int) : Calls Tryz.prog 50 #[.pointer (some ⟨p, 0, none⟩), .int .i64 most] w fun x w' => x = .returned (.int .i64 (rSz most 4 s).1) ∧ Rd 40 K w' p v (rSz most 4 s).2 ∧ Fr (fun k => k = p) w w' := by
  have hi := rsize_any h most 4
  unfold SizeDone at hi
  have HI := Lib.hid hi
  clear h hi
  go_enter Tryz.func50, Tryz.ntmps50
  go_wp2_with (first
    | (go_at_call 79; refine (HI.out).mono ?_; rintro x w1 ⟨rfl, h1, f1⟩; have H1 := Lib.hid h1; have F1 := Lib.hid f1; clear h1 f1))
  go_ret
  exact ⟨rfl, H1.out, F1.out⟩
end
end
section
open Go.RowKit
section
variable {t : TypeId} {K : Nat → Prop} {w : World} {p : Nat} {v : Value} {s : Rst}
theorem rText_err {most : Int} (he : (rSz most 2 s).2.er ≠ 0) : rText most s = ([], (rSz most 2 s).2) := by
  unfold rSz at he ⊢
  unfold rText
  by_cases h0 : (look s).2.er ≠ 0
  · rw [if_pos h0, if_pos h0]
  · rw [if_neg h0] at he
    rw [if_neg h0, if_neg h0]
    by_cases h1 : (look s).1.1 < 0
    · rw [if_pos h1, if_pos h1]
    · rw [if_neg h1] at he
      rw [if_neg h1, if_neg h1]
      by_cases h2 : most < (look s).1.1
      · rw [if_pos h2, if_pos h2]
      · rw [if_neg h2] at he
        exact absurd (by simpa using h0) he
theorem rText_ok {most : Int} (hle : s.pl ≤ s.bs.length) (he : (rSz most 2 s).2.er = 0) : ∃ m k : Nat, s.er = 0 ∧ s.pl < s.bs.length ∧ s.pl + k ≤ s.bs.length ∧ (m : Int) ≤ most ∧ (m : Int) < 9223372036854775808 ∧ rSz most 2 s = ((m : Int), { s with pl := s.pl + k }) ∧
    rText most s = if (s.bs.length : Int) - (s.pl + k : Nat) < m then ([], stopR 5 s.bs.length s) else ((s.bs.drop (s.pl + k)).take m, { s with pl := s.pl + k + m }) := by
  have hsz := look_size (s := s) hle
  have hrg := look_range (s := s)
  unfold rSz at he ⊢
  unfold rText
  by_cases h0 : (look s).2.er ≠ 0
  · rw [if_pos h0] at he; exact absurd he h0
  · rw [if_neg h0] at he
    have h0' : (look s).2.er = 0 := by simpa using h0
    have hs := look_state h0'
    rw [if_neg h0, if_neg h0]
    by_cases h1 : (look s).1.1 < 0
    · rw [if_pos h1] at he; exact absurd he (stop_er (by decide) _ _)
    · rw [if_neg h1] at he
      rw [if_neg h1, if_neg h1]
      by_cases h2 : most < (look s).1.1
      · rw [if_pos h2] at he; exact absurd he (stop_er (by decide) _ _)
      · rw [if_neg h2, if_neg h2, hs]
        refine ⟨(look s).1.1.toNat, (look s).1.2, (look_some h0').1, (look_some h0').2, hsz, by omega, by omega, by rw [Int.toNat_of_nonneg (by omega)], ?_⟩
        rw [Int.toNat_of_nonneg (by omega)]
/-- A piece of the bytes as a string. -/
theorem Rd.convCut {b off n cap q m : Nat} {T : List UInt8} (h : Rd t K w p (.slice (some ⟨b, off, none⟩) n cap) s) (hfit : q + m ≤ cap) (hm : q + m ≤ s.bs.length) (hl : T.length = m) (hg : ∀ j, j < m → T.getD j 0 = s.bs.getD (q + j) 0) (nq : Nat) :
    (convert 32 9 (.slice (if cap = q then some ⟨b, off, none⟩ else some ⟨b, off + q, none⟩) m (cap - q))).run Tryz.prog (w.drewN nq) = .ok (.string ⟨T.toArray⟩) (w.drewN nq) :=
  conv_cut (w.drewN nq) b off cap q m _ _ T hl rfl hfit (fun j hj => by rw [hg j hj]; exact (h.drewN nq).at (by omega))
theorem rtext_err (h : Rd 40 K w p v s) (most : Int) (he : (rSz most 2 s).2.er ≠ 0) : Calls Tryz.prog 52 #[.pointer (some ⟨p, 0, none⟩), .int .i64 most] w fun x w' => x = .returned (.string ⟨(rText most s).1.toArray⟩) ∧ Rd 40 K w' p v (rText most s).2 ∧ Fr (fun k => k = p) w w' := by
  rw [rText_err he]
  have hi := rsize_any h most 2
  unfold SizeDone at hi
  have c1 := h.c1
  have hb : ((rSz most 2 s).2.er != 0) = true := by rw [bne_iff_ne]; exact he
  have HI := Lib.hid hi
  clear h hi he
  generalize rSz most 2 s = R at *
  go_enter Tryz.func52, Tryz.ntmps52
  go_wp2_with (first
    | (go_at_call 79; refine (HI.out).mono ?_; rintro x w1 ⟨rfl, h1, f1⟩; have d2 := h1.c2; have H1 := Lib.hid h1; have F1 := Lib.hid f1; clear h1 f1))
  go_ret
  exact ⟨rfl, H1.out, F1.out⟩
set_option maxRecDepth 100000 in
theorem rtext_ok (h : Rd 40 K w p v s) (most : Int) (he : (rSz most 2 s).2.er = 0) : Calls Tryz.prog 52 #[.pointer (some ⟨p, 0, none⟩), .int .i64 most] w fun x w' => x = .returned (.string ⟨(rText most s).1.toArray⟩) ∧ Rd 40 K w' p v (rText most s).2 ∧ Fr (fun k => k = p) w w' := by
  obtain ⟨m, k, h0, hlt, hk, hm, hm2, hS, hT⟩ := rText_ok h.le he
  rw [hT]
  have hi := rsize_any h most 2
  unfold SizeDone at hi
  rw [hS] at hi
  have c1 := h.c1
  have hroom := h.room
  obtain ⟨b, off, cap, hv, hcap, hc63, hbl, hbp, _⟩ := h.cellsT hlt
  have HI := Lib.hid hi
  have HV := Lib.hid hv
  have HE := Lib.hid h0
  have HLE := Lib.hid h.le
  have HLT := Lib.hid hlt
  clear h hi he hS hT hv h0 hbl hbp
  generalize hN : s.bs.length = N at *
  have HN := Lib.hid hN
  clear hN
  by_cases hs : (N : Int) - ((s.pl + k : Nat) : Int) < m
  · rw [if_pos hs]
    generalize hq : s.pl = q at *
    have HQ := Lib.hid hq
    have HLEq : Hid (q ≤ s.bs.length) := by show _ ≤ _; rw [HN.out]; omega
    clear hq
    rw [Int.natCast_add] at hs
    go_enter Tryz.func52, Tryz.ntmps52
    go_wp2_with (first
      | (go_at_call 79; refine (HI.out).mono ?_; rintro x w1 ⟨rfl, h1, f1⟩; have d0 := h1.c0; rw [HV.out] at d0; have d1 := h1.c1; simp only [Int.natCast_add] at d1; have d2 := h1.c2; rw [show ({ s with pl := q + k } : Rst).er = 0 from HE.out] at d2; have fr1 := h1.free 1; have H1 := Lib.hid h1; have F1 := Lib.hid f1; clear h1 f1)
      | (go_at_call 80; refine (stop_any ((H1.out.drewN _).set1 q HLEq.out) 5 N).mono ?_; rintro x w2 ⟨rfl, h2, f2⟩; have H2 := Lib.hid h2; have F2 := Lib.hid f2; clear h2 f2)
      | go_quiet (fail))
    go_ret
    have := H2.out
    rw [show ({ ({ s with pl := q + k } : Rst) with pl := q } : Rst) = s by rw [← HQ.out]] at this
    exact ⟨rfl, this, ((F1.out.drewN _).same (fr_set1 _ 1 _)).same F2.out⟩
  · rw [if_neg hs]
    have hlen : ((s.bs.drop (s.pl + k)).take m).length = m := by rw [List.length_take, List.length_drop]; have := HN.out; omega
    have HGET : Hid (∀ j, j < m → ((s.bs.drop (s.pl + k)).take m).getD j 0 = s.bs.getD (s.pl + k + j) 0) := fun j hj => by rw [getD_take hj, getD_drop]
    have HLEN := Lib.hid hlen
    clear hlen
    generalize (s.bs.drop (s.pl + k)).take m = T at *
    generalize hq : s.pl = q at *
    have HQ := Lib.hid hq
    clear hq
    rw [Int.natCast_add] at hs
    have hfit : (m : Int) ≤ (N : Int) - ((q : Int) + k) := by omega
    clear hs hm
    go_enter Tryz.func52, Tryz.ntmps52
    go_upto_region 5 with (first
      | (go_at_call 79; refine (HI.out).mono ?_; rintro x w1 ⟨rfl, h1, f1⟩; have d0 := h1.c0; rw [HV.out] at d0; have d1 := h1.c1; simp only [Int.natCast_add] at d1; have d2 := h1.c2; rw [show ({ s with pl := q + k } : Rst).er = 0 from HE.out] at d2; have fr1 := h1.free 1; rw [HV.out] at h1; have H1 := Lib.hid h1; have F1 := Lib.hid f1; clear h1 f1)
      | fail)
    have hnl : ¬ ((N : Int) - ((q : Int) + k) < m) := by omega
    clear hfit hm2 HI
    go_quiet (fail)
    go_upto_region 9 with (fail)
    have hqkm : q + k + m ≤ N := by omega
    have hcv := H1.out.convCut (q := q + k) (T := T) (m := m) (by omega) (by rw [show ({ s with pl := q + k } : Rst).bs.length = N from HN.out]; omega) HLEN.out HGET.out
    have hx1 : (q : Int) + k + m ≤ cap := by omega
    have hx2 : (q : Int) + k ≤ (q : Int) + k + m := by omega
    clear hnl
    go_quiet (fail)
    all_goals go_wp2
    all_goals go_ret
    all_goals exact ⟨rfl, by rw [HV.out]; exact (H1.out.drewN _).set1i (q + k + m) (by simp) (by show _ ≤ s.bs.length; rw [HN.out]; exact hqkm), (F1.out.drewN _).same (fr_set1 _ 1 _)⟩
theorem rtext_any (h : Rd 40 K w p v s) (most : Int) : Calls Tryz.prog 52 #[.pointer (some ⟨p, 0, none⟩), .int .i64 most] w fun x w' => x = .returned (.string ⟨(rText most s).1.toArray⟩) ∧ Rd 40 K w' p v (rText most s).2 ∧ Fr (fun k => k = p) w w' := by
  by_cases he : (rSz most 2 s).2.er = 0
  · exact rtext_ok h most he
  · exact rtext_err h most he
end
end
section
open Go.RowKit
/-- wire's state and the document's. -/
structure Like (s x : Rst) : Prop where
  bs : x.bs = s.bs
  pl : x.pl = s.pl
  er : x.er = s.er
  fp : s.er ≠ 0 → x.fp = s.fp
  no : s.er = 0 → s.fp = 0
theorem Like.stop {s x : Rst} (h : Like s x) {e : Int} (he : e ≠ 0) (q : Nat) : Like (stopR e q s) (stopR e q x) := by
  unfold stopR
  rw [h.er]
  split
  · exact ⟨h.bs, h.pl, rfl, fun _ => rfl, fun h0 => absurd h0 he⟩
  · exact h
theorem Like.move {s x : Rst} (h : Like s x) {q q' : Nat} (hq : q' = q) : Like { s with pl := q } { x with pl := q' } := ⟨h.bs, hq, h.er, h.fp, h.no⟩
theorem Like.lk {s x : Rst} (h : Like s x) : (look x).1 = (look s).1 ∧ Like (look s).2 (look x).2 := by
  have hr : rowAt x = rowAt s := by unfold rowAt; rw [h.bs, h.pl]
  unfold look
  rw [h.bs, h.pl, h.er, hr]
  split
  · exact ⟨rfl, h⟩
  · split
    · exact ⟨rfl, h.stop (by decide) _⟩
    · split
      · exact ⟨rfl, h⟩
      · exact ⟨rfl, h.stop (by decide) _⟩
theorem Like.int {s x : Rst} (h : Like s x) : (rInt x).1 = (rInt s).1 ∧ Like (rInt s).2 (rInt x).2 := by
  obtain ⟨h1, h2⟩ := h.lk
  unfold rInt number
  rw [h1, h2.er]
  split
  · exact ⟨rfl, h2⟩
  · exact ⟨rfl, ⟨h2.bs, by simp only [h2.pl], rfl, h2.fp, h2.no⟩⟩
theorem Like.size {s x : Rst} (h : Like s x) (most : Int) {e : Int} (he : e ≠ 0) : (rSz most e x).1 = (rSz most e s).1 ∧ Like (rSz most e s).2 (rSz most e x).2 := by
  obtain ⟨h1, h2⟩ := h.lk
  unfold rSz
  rw [h1, h2.er, h.pl]
  split
  · exact ⟨rfl, h2⟩
  · split
    · exact ⟨rfl, h2.stop (by decide) _⟩
    · split
      · exact ⟨rfl, h2.stop he _⟩
      · exact ⟨rfl, h2.move rfl⟩
theorem Like.text {s x : Rst} (h : Like s x) (most : Int) : (rText most x).1 = (rText most s).1 ∧ Like (rText most s).2 (rText most x).2 := by
  obtain ⟨h1, h2⟩ := h.lk
  unfold rText
  rw [h1, h2.er, h.pl, h.bs]
  split
  · exact ⟨rfl, h2⟩
  · split
    · exact ⟨rfl, h2.stop (by decide) _⟩
    · split
      · exact ⟨rfl, h2.stop (by decide) _⟩
      · split
        · exact ⟨rfl, h2.stop (by decide) _⟩
        · exact ⟨rfl, h2.move rfl⟩
theorem Like.flag {s x : Rst} (h : Like s x) : (rFlag x).1 = (rFlag s).1 ∧ Like (rFlag s).2 (rFlag x).2 := by
  unfold rFlag
  rw [h.er, h.pl, h.bs]
  split
  · exact ⟨rfl, h⟩
  · split
    · exact ⟨rfl, h.stop (by decide) _⟩
    · split
      · exact ⟨rfl, h.stop (by decide) _⟩
      · exact ⟨rfl, ⟨rfl, rfl, rfl, h.fp, h.no⟩⟩
theorem Like.float {s x : Rst} (h : Like s x) : (rFloat x).1 = (rFloat s).1 ∧ Like (rFloat s).2 (rFloat x).2 := by
  have hl : leAt x = leAt s := by unfold leAt; rw [h.bs, h.pl]
  unfold rFloat
  rw [h.er, h.pl, h.bs, hl]
  split
  · exact ⟨rfl, h⟩
  · split
    · exact ⟨rfl, h.stop (by decide) _⟩
    · split
      · exact ⟨rfl, h.stop (by decide) _⟩
      · exact ⟨rfl, ⟨rfl, rfl, rfl, h.fp, h.no⟩⟩
theorem Like.fail {s x : Rst} (h : Like s x) (e : Int) : Like (failR e s) (stopR e x.pl x) := by
  by_cases he : e = 0
  · subst he
    rw [failR_no]
    unfold stopR
    split
    · rename_i h0
      have h1 : s.er = 0 := by rw [← h.er]; exact h0
      exact ⟨h.bs, h.pl, h1.symm, fun hn => absurd h1 hn, h.no⟩
    · exact h
  · rw [failR_yes he, h.pl]
    exact h.stop he _
theorem Like.end {s x : Rst} (h : Like s x) : endR x = endR s := by
  unfold endR
  rw [h.er, h.pl, h.bs]
  split
  · rename_i h0; rw [h.fp h0]
  · rfl
theorem Like.left {s x : Rst} (h : Like s x) : leftR x = leftR s := by unfold leftR; rw [h.er, h.pl, h.bs]
end
end Go.Proofs.YtjkfcmadoeifgaaGreatDoor
