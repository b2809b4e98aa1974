/- The contract of raceref2.Reader's Text. Conditions: the reader's own bytes. -/
import Derived.Test.YtioopibmpcbcjaaX4
import Derived.Deep.DeepCutAuto
namespace Go.Proofs.Ytioopibmpcbcjaa
open Go.RowKit
section
variable {t : TypeId} {K : Nat → Prop} {w : World} {p : Nat} {v : Value} {s : Rst}
theorem rText_err {most : Int} (he : (rSz most 2 s).2.er ≠ 0) : rText most s = ([], (rSz most 2 s).2) := by
  unfold rSz at he ⊢
  unfold rText
  by_cases h0 : (look s).2.er ≠ 0
  · rw [if_pos h0, if_pos h0]
  · rw [if_neg h0] at he
    rw [if_neg h0, if_neg h0]
    by_cases h1 : (look s).1.1 < 0
    · rw [if_pos h1, if_pos h1]
    · rw [if_neg h1] at he
      rw [if_neg h1, if_neg h1]
      by_cases h2 : most < (look s).1.1
      · rw [if_pos h2, if_pos h2]
      · rw [if_neg h2] at he
        exact absurd (by simpa using h0) he
theorem rText_ok {most : Int} (hle : s.pl ≤ s.bs.length) (he : (rSz most 2 s).2.er = 0) : ∃ m k : Nat, s.er = 0 ∧ s.pl < s.bs.length ∧ s.pl + k ≤ s.bs.length ∧ (m : Int) ≤ most ∧ (m : Int) < 9223372036854775808 ∧ rSz most 2 s = ((m : Int), { s with pl := s.pl + k }) ∧
    rText most s = if (s.bs.length : Int) - (s.pl + k : Nat) < m then ([], stopR 5 s.bs.length s) else ((s.bs.drop (s.pl + k)).take m, { s with pl := s.pl + k + m }) := by
  have hsz := look_size (s := s) hle
  have hrg := look_range (s := s)
  unfold rSz at he ⊢
  unfold rText
  by_cases h0 : (look s).2.er ≠ 0
  · rw [if_pos h0] at he; exact absurd he h0
  · rw [if_neg h0] at he
    have h0' : (look s).2.er = 0 := by simpa using h0
    have hs := look_state h0'
    rw [if_neg h0, if_neg h0]
    by_cases h1 : (look s).1.1 < 0
    · rw [if_pos h1] at he; exact absurd he (stop_er (by decide) _ _)
    · rw [if_neg h1] at he
      rw [if_neg h1, if_neg h1]
      by_cases h2 : most < (look s).1.1
      · rw [if_pos h2] at he; exact absurd he (stop_er (by decide) _ _)
      · rw [if_neg h2, if_neg h2, hs]
        refine ⟨(look s).1.1.toNat, (look s).1.2, (look_some h0').1, (look_some h0').2, hsz, by omega, by omega, by rw [Int.toNat_of_nonneg (by omega)], ?_⟩
        rw [Int.toNat_of_nonneg (by omega)]
/-- A piece of the bytes as a string. -/
theorem Rd.convCut {b off n cap q m : Nat} {T : List UInt8} (h : Rd t K w p (.slice (some ⟨b, off, none⟩) n cap) s) (hfit : q + m ≤ cap) (hm : q + m ≤ s.bs.length) (hl : T.length = m) (hg : ∀ j, j < m → T.getD j 0 = s.bs.getD (q + j) 0) (nq : Nat) :
    (convert 31 9 (.slice (if cap = q then some ⟨b, off, none⟩ else some ⟨b, off + q, none⟩) m (cap - q))).run Try.prog (w.drewN nq) = .ok (.string ⟨T.toArray⟩) (w.drewN nq) :=
  conv_cut (w.drewN nq) b off cap q m _ _ T hl rfl hfit (fun j hj => by rw [hg j hj]; exact (h.drewN nq).at (by omega))
theorem rtext_err (h : Rd 41 K w p v s) (most : Int) (he : (rSz most 2 s).2.er ≠ 0) : Calls Try.prog 47 #[.pointer (some ⟨p, 0, none⟩), .int .i64 most] w fun x w' => x = .returned (.string ⟨(rText most s).1.toArray⟩) ∧ Rd 41 K w' p v (rText most s).2 ∧ Fr (fun k => k = p) w w' := by
  rw [rText_err he]
  have hi := rsize_any h most 2
  unfold SizeDone at hi
  have c1 := h.c1
  have hb : ((rSz most 2 s).2.er != 0) = true := by rw [bne_iff_ne]; exact he
  have HI := Lib.hid hi
  clear h hi he
  generalize rSz most 2 s = R at *
  go_enter Try.func47, Try.ntmps47
  go_wp2_with (first
    | (go_at_call 64; refine (HI.out).mono ?_; rintro x w1 ⟨rfl, h1, f1⟩; have d2 := h1.c2; have H1 := Lib.hid h1; have F1 := Lib.hid f1; clear h1 f1))
  go_ret
  exact ⟨rfl, H1.out, F1.out⟩
set_option maxRecDepth 100000 in
theorem rtext_ok (h : Rd 41 K w p v s) (most : Int) (he : (rSz most 2 s).2.er = 0) : Calls Try.prog 47 #[.pointer (some ⟨p, 0, none⟩), .int .i64 most] w fun x w' => x = .returned (.string ⟨(rText most s).1.toArray⟩) ∧ Rd 41 K w' p v (rText most s).2 ∧ Fr (fun k => k = p) w w' := by
  obtain ⟨m, k, h0, hlt, hk, hm, hm2, hS, hT⟩ := rText_ok h.le he
  rw [hT]
  have hi := rsize_any h most 2
  unfold SizeDone at hi
  rw [hS] at hi
  have c1 := h.c1
  have hroom := h.room
  obtain ⟨b, off, cap, hv, hcap, hc63, hbl, hbp, _⟩ := h.cellsT hlt
  have HI := Lib.hid hi
  have HV := Lib.hid hv
  have HE := Lib.hid h0
  have HLE := Lib.hid h.le
  have HLT := Lib.hid hlt
  clear h hi he hS hT hv h0 hbl hbp
  generalize hN : s.bs.length = N at *
  have HN := Lib.hid hN
  clear hN
  by_cases hs : (N : Int) - ((s.pl + k : Nat) : Int) < m
  · rw [if_pos hs]
    generalize hq : s.pl = q at *
    have HQ := Lib.hid hq
    have HLEq : Hid (q ≤ s.bs.length) := by show _ ≤ _; rw [HN.out]; omega
    clear hq
    rw [Int.natCast_add] at hs
    go_enter Try.func47, Try.ntmps47
    go_wp2_with (first
      | (go_at_call 64; refine (HI.out).mono ?_; rintro x w1 ⟨rfl, h1, f1⟩; have d0 := h1.c0; rw [HV.out] at d0; have d1 := h1.c1; simp only [Int.natCast_add] at d1; have d2 := h1.c2; rw [show ({ s with pl := q + k } : Rst).er = 0 from HE.out] at d2; have fr1 := h1.free 1; have H1 := Lib.hid h1; have F1 := Lib.hid f1; clear h1 f1)
      | (go_at_call 62; refine (stop_any ((H1.out.drewN _).set1 q HLEq.out) 5 N).mono ?_; rintro x w2 ⟨rfl, h2, f2⟩; have H2 := Lib.hid h2; have F2 := Lib.hid f2; clear h2 f2)
      | go_quiet (fail))
    go_ret
    have := H2.out
    rw [show ({ ({ s with pl := q + k } : Rst) with pl := q } : Rst) = s by rw [← HQ.out]] at this
    exact ⟨rfl, this, ((F1.out.drewN _).same (fr_set1 _ 1 _)).same F2.out⟩
  · rw [if_neg hs]
    have hlen : ((s.bs.drop (s.pl + k)).take m).length = m := by rw [List.length_take, List.length_drop]; have := HN.out; omega
    have HGET : Hid (∀ j, j < m → ((s.bs.drop (s.pl + k)).take m).getD j 0 = s.bs.getD (s.pl + k + j) 0) := fun j hj => by rw [getD_take hj, getD_drop]
    have HLEN := Lib.hid hlen
    clear hlen
    generalize (s.bs.drop (s.pl + k)).take m = T at *
    generalize hq : s.pl = q at *
    have HQ := Lib.hid hq
    clear hq
    rw [Int.natCast_add] at hs
    have hfit : (m : Int) ≤ (N : Int) - ((q : Int) + k) := by omega
    clear hs hm
    go_enter Try.func47, Try.ntmps47
    go_upto_region 5 with (first
      | (go_at_call 64; refine (HI.out).mono ?_; rintro x w1 ⟨rfl, h1, f1⟩; have d0 := h1.c0; rw [HV.out] at d0; have d1 := h1.c1; simp only [Int.natCast_add] at d1; have d2 := h1.c2; rw [show ({ s with pl := q + k } : Rst).er = 0 from HE.out] at d2; have fr1 := h1.free 1; rw [HV.out] at h1; have H1 := Lib.hid h1; have F1 := Lib.hid f1; clear h1 f1)
      | fail)
    have hnl : ¬ ((N : Int) - ((q : Int) + k) < m) := by omega
    clear hfit hm2 HI
    go_quiet (fail)
    go_upto_region 9 with (fail)
    have hqkm : q + k + m ≤ N := by omega
    have hcv := H1.out.convCut (q := q + k) (T := T) (m := m) (by omega) (by rw [show ({ s with pl := q + k } : Rst).bs.length = N from HN.out]; omega) HLEN.out HGET.out
    have hx1 : (q : Int) + k + m ≤ cap := by omega
    have hx2 : (q : Int) + k ≤ (q : Int) + k + m := by omega
    clear hnl
    go_quiet (fail)
    all_goals go_wp2
    all_goals go_ret
    all_goals exact ⟨rfl, by rw [HV.out]; exact (H1.out.drewN _).set1i (q + k + m) (by simp) (by show _ ≤ s.bs.length; rw [HN.out]; exact hqkm), (F1.out.drewN _).same (fr_set1 _ 1 _)⟩
theorem rtext_any (h : Rd 41 K w p v s) (most : Int) : Calls Try.prog 47 #[.pointer (some ⟨p, 0, none⟩), .int .i64 most] w fun x w' => x = .returned (.string ⟨(rText most s).1.toArray⟩) ∧ Rd 41 K w' p v (rText most s).2 ∧ Fr (fun k => k = p) w w' := by
  by_cases he : (rSz most 2 s).2.er = 0
  · exact rtext_ok h most he
  · exact rtext_err h most he
end
end Go.Proofs.Ytioopibmpcbcjaa
