/- raceref3.Unquote. Conditions: no more than 2000 bytes. -/
import Derived.Test.YtjkfcmadoeifgaaDoorRr
namespace Go.Proofs.YtjkfcmadoeifgaaDoor
open Go.RowKit
/-- What is left of the middle from a place on. -/
def restL (l : List UInt8) (j : Nat) : List UInt8 := (l.drop j).take (l.length - 1 - j)
theorem rest_one (l : List UInt8) : restL l 1 = midV l := by
  unfold restL midV
  rw [show l.length - 1 - 1 = l.length - 2 by omega]
theorem rest_len (l : List UInt8) (j : Nat) : (restL l j).length = l.length - 1 - j := by
  unfold restL
  rw [List.length_take, List.length_drop]
  omega
theorem rest_drop (l : List UInt8) (j k : Nat) : (restL l j).drop k = restL l (j + k) := by
  unfold restL
  rw [List.drop_take, List.drop_drop, show l.length - 1 - j - k = l.length - 1 - (j + k) by omega]
theorem rest_at (s : ByteArray) (j k : Nat) (h : j + k < s.size - 1) (h2 : j + k < s.size) : (restL s.data.toList j).getD k 0 = s[j + k] := by
  have hl : s.data.toList.length = s.size := (Lib.size_eq s).symm
  unfold restL
  rw [List.getD_eq_getElem?_getD, List.getElem?_take, if_pos (by omega), List.getElem?_drop, List.getElem?_eq_getElem (by omega)]
  rfl
theorem hexU_lt (c : UInt8) : hexU c ≤ 16 := by
  rcases hexU_cases c with ⟨_, _, h⟩ | ⟨_, _, h⟩ | ⟨_, _, h⟩ <;> omega
theorem hexU_neg {c : UInt8} : hexI c < 0 ↔ hexU c = 16 := by
  unfold hexU
  rcases hexI_cases c with h | ⟨n, hn, h⟩
  · rw [h]; simp
  · rw [h, if_neg (by omega)]; omega
theorem hexU_val {c : UInt8} (h : ¬ hexI c < 0) : (hexI c).toNat = hexU c ∧ hexU c ≤ 15 := by
  have h2 : ¬ hexU c = 16 := fun e => h (hexU_neg.2 e)
  have := hexU_lt c
  refine ⟨?_, by omega⟩
  unfold hexU
  rw [if_neg h]
set_option maxRecDepth 100000 in
set_option maxHeartbeats 2000000 in
theorem runquote_any (s : ByteArray) (hs : s.size ≤ 2000) (w : World) :
    Calls Tryd.prog 20 #[.string s] w fun e w' => e = .returned (.tuple #[.string ⟨(unqS (unqV s.data.toList)).toArray⟩, .int .i64 (unqE (unqV s.data.toList))]) ∧ Below w.heap.size w w' := by
  have HQ : Hid (unqV s.data.toList = runqV s.data.toList) := (runq_eq _).symm
  have HLN : Hid (s.data.toList.length = s.size) := (Lib.size_eq s).symm
  obtain ⟨i0, hi, hz0, hz1, hz2⟩ := info_parts info5
  go_enter Tryd.func20, Tryd.ntmps20
  go_wp2
  go_loopw [4, 6] (fun v i wr => ∃ (j : Nat) (A : List UInt8), i = .int .i64 j ∧ 1 ≤ j ∧ j ≤ s.size + 1 ∧ Hid (wr.ownsRow w.heap.size 5 1 v A.length (bys A)) ∧ Hid (midL (midV s.data.toList).length (midV s.data.toList) = (midL (restL s.data.toList j).length (restL s.data.toList j)).map (A ++ ·)) ∧ A.length ≤ j ∧ Hid (Below w.heap.size w wr)) (fun _ i _ => s.size + 1 - (intOf i).toNat)
  case atStart => exact ⟨1, [], rfl, by omega, by omega, World.ownsRow_nil _ _ _ _, by show _ = _; rw [rest_one]; simp, by simp, Below.refl _ _⟩
  case round =>
    obtain ⟨j, A, rfl, hj1, hj2, HO, HM, hA, HB⟩ := hrel
    by_cases hlt : (j : Int) < (s.size : Int) - 1
    · have hjs : j < s.size := by omega
      have HR0 := Lib.hid (rest_at s j 0 (by omega) (by omega))
      have HRL := Lib.hid (rest_len s.data.toList j)
      rw [HLN.out] at HRL
      have HNE : Hid (restL s.data.toList j ≠ []) := fun e => by have := HRL.out; rw [e] at this; simp at this; omega
      by_cases h92 : s[j] = 92
      · have i1 : ((s[j].toNat : Int) != 92) = false := by rw [h92]; rfl
        by_cases h3 : (s.size : Int) - 1 ≤ (j : Int) + 2
        · have HN : Hid (runqV s.data.toList = none) := by
            have e := midL_none (n := (restL s.data.toList j).length) HNE.out (by rw [HR0.out]; exact h92) (.inl (by rw [HRL.out]; omega))
            show _ = _
            unfold runqV
            rw [HM.out, e]
            rfl
          clear h92
          go_wp2
          go_ret2
          rw [HQ.out, HN.out]
          exact ⟨rfl, HB.out⟩
        · have hb1 : j + 1 < s.size - 1 := by omega
          have hb2 : j + 2 < s.size - 1 := by omega
          have HR1 := Lib.hid (rest_at s j 1 hb1 (by omega))
          have HR2 := Lib.hid (rest_at s j 2 hb2 (by omega))
          have hx1 : ((j : Int) + 1).toNat = j + 1 := by omega
          have hx2 : ((j : Int) + 2).toNat = j + 2 := by omega
          have hj1' : j + 1 < s.size := by omega
          have hj2' : j + 2 < s.size := by omega
          have HA1 := Lib.hid (rvalue_any s[j + 1])
          have HA2 := Lib.hid (rvalue_any s[j + 2])
          by_cases g1 : 15 < hexU s[j + 1]
          · have HN : Hid (runqV s.data.toList = none) := by
              have e := midL_none (n := (restL s.data.toList j).length) HNE.out (by rw [HR0.out]; exact h92) (.inr (.inl (by rw [HR1.out]; exact hexU_neg.2 (by have := hexU_lt s[j + 1]; omega))))
              show _ = _
              unfold runqV
              rw [HM.out, e]
              rfl
            have g1' : (15 : Int) < (hexU s[j + 1] : Int) := by omega
            clear h92 g1
            go_wp2_with (go_at_call 38; ((with_reducible refine (rvalue_any _ _).mono ?_); rintro e w' ⟨rfl, rfl⟩))
            go_ret2
            rw [HQ.out, HN.out]
            exact ⟨rfl, HB.out⟩
          by_cases g2 : 15 < hexU s[j + 2]
          · have HN : Hid (runqV s.data.toList = none) := by
              have e := midL_none (n := (restL s.data.toList j).length) HNE.out (by rw [HR0.out]; exact h92) (.inr (.inr (by rw [HR2.out]; exact hexU_neg.2 (by have := hexU_lt s[j + 2]; omega))))
              show _ = _
              unfold runqV
              rw [HM.out, e]
              rfl
            have g1' : ¬ (15 : Int) < (hexU s[j + 1] : Int) := by omega
            have g2' : (15 : Int) < (hexU s[j + 2] : Int) := by omega
            clear h92 g1 g2
            go_wp2_with (go_at_call 38; ((with_reducible refine (rvalue_any _ _).mono ?_); rintro e w' ⟨rfl, rfl⟩))
            go_ret2
            rw [HQ.out, HN.out]
            exact ⟨rfl, HB.out⟩
          have HM2 : Hid (midL (midV s.data.toList).length (midV s.data.toList) = (midL (restL s.data.toList (j + 3)).length (restL s.data.toList (j + 3))).map ((A ++ [UInt8.ofNat (16 * hexU s[j + 1] + hexU s[j + 2])]) ++ ·)) := by
            have k1 : ¬ hexI s[j + 1] < 0 := by rw [hexU_neg]; omega
            have k2 : ¬ hexI s[j + 2] < 0 := by rw [hexU_neg]; omega
            show _ = _
            rw [HM.out, midL_more3 HNE.out (by rw [HR0.out]; exact h92) (by rw [HRL.out, HR1.out, HR2.out]; omega), HR1.out, HR2.out, (hexU_val k1).1, (hexU_val k2).1, rest_drop, Option.map_map]
            congr 1
            funext x
            simp
          have g1' : ¬ (15 : Int) < (hexU s[j + 1] : Int) := by omega
          have g2' : ¬ (15 : Int) < (hexU s[j + 2] : Int) := by omega
          have g1n : (0 : Int) ≤ (hexU s[j + 1] : Int) := by omega
          have g2n : (0 : Int) ≤ (hexU s[j + 2] : Int) := by omega
          have HC : Hid ((((16 : Int) * (hexU s[j + 1] : Int) + (hexU s[j + 2] : Int))) = ((UInt8.ofNat (16 * hexU s[j + 1] + hexU s[j + 2])).toNat : Int)) := by
            show _ = _
            rw [UInt8.toNat_ofNat']
            omega
          generalize UInt8.ofNat (16 * hexU s[j + 1] + hexU s[j + 2]) = c at *
          clear h92 g1 g2
          go_wp2_with (go_at_call 38; ((with_reducible refine (rvalue_any _ _).mono ?_); rintro e w' ⟨rfl, rfl⟩))
          have hw1 : IntKind.i64.wrap ((j : Int) + 1) = (j : Int) + 1 := by rw [IntKind.wrap_i64]; omega
          have hw2 : IntKind.i64.wrap ((j : Int) + 2) = (j : Int) + 2 := by rw [IntKind.wrap_i64]; omega
          have hw3 : IntKind.u8.wrap (16 * (hexU s[j + 1] : Int)) = 16 * (hexU s[j + 1] : Int) := by rw [IntKind.wrap_u8']; omega
          have hw4 : IntKind.u8.wrap (16 * (hexU s[j + 1] : Int) + (hexU s[j + 2] : Int)) = 16 * (hexU s[j + 1] : Int) + (hexU s[j + 2] : Int) := by rw [IntKind.wrap_u8']; omega
          refine wp_region_any (by kernel_rfl) ?_
          change wpAny _ _ _ _ _ _ _ (World.drew _)
          refine wpAny_take (i := 0) (v := ?v0) rfl (by kernel_rfl) (by kernel_rfl) (by kernel_rfl) (fun _ _ _ h => h) (Or.inl ⟨by rfl, ?y0⟩) ?r0
          case y0 => first | (intro W; go_simp; done) | (intro W; go_simp; with_reducible rfl)
          try go_simp
          refine wpAny_take (i := 1) (v := ?v1) rfl (by kernel_rfl) (by kernel_rfl) (by kernel_rfl) (fun _ _ _ h => h) (Or.inl ⟨by rfl, ?y1⟩) ?r1
          case y1 => first | (intro W; go_simp; done) | (intro W; go_simp; with_reducible rfl)
          try go_simp
          refine wpAny_take (i := 2) (v := ?v2) rfl (by kernel_rfl) (by kernel_rfl) (by kernel_rfl) (fun _ _ _ h => h) (Or.inl ⟨by rfl, ?y2⟩) ?r2
          case y2 => first | (intro W; go_simp; done) | (intro W; go_simp; with_reducible rfl)
          try go_simp
          refine wpAny_take (i := 3) (v := ?v3) rfl (by kernel_rfl) (by kernel_rfl) (by kernel_rfl) (fun _ _ _ h => h) (Or.inl ⟨by rfl, ?y3⟩) ?r3
          case y3 => first | (intro W; go_simp; done) | (intro W; go_simp; with_reducible rfl)
          try go_simp
          refine wpAny_take (i := 4) (v := ?v4) rfl (by kernel_rfl) (by kernel_rfl) (by kernel_rfl) (fun _ _ _ h => h) (Or.inl ⟨by rfl, ?y4⟩) ?r4
          case y4 => first | (intro W; go_simp; done) | (intro W; go_simp; with_reducible rfl)
          try go_simp
          refine wpAny_take (i := 7) (v := ?v7) rfl (by kernel_rfl) (by kernel_rfl) (by kernel_rfl) (fun _ _ _ h => h) (Or.inl ⟨by rfl, ?y7⟩) ?r7
          case y7 => first | (intro W; go_simp; done) | (intro W; go_simp; with_reducible rfl)
          try go_simp
          refine wpAny_take (i := 8) (v := ?v8) rfl (by kernel_rfl) (by kernel_rfl) (by kernel_rfl) (fun _ _ _ h => h) (Or.inl ⟨by rfl, ?y8⟩) ?r8
          case y8 => first | (intro W; go_simp; done) | (intro W; go_simp; with_reducible rfl)
          try go_simp
          refine wpAny_take (i := 9) (v := ?v9) rfl (by kernel_rfl) (by kernel_rfl) (by kernel_rfl) (fun _ _ _ h => h) (Or.inl ⟨by rfl, ?y9⟩) ?r9
          case y9 => first | (intro W; go_simp; done) | (intro W; go_simp; with_reducible rfl)
          try go_simp
          refine wpAny_take (i := 10) (v := ?v10) rfl (by kernel_rfl) (by kernel_rfl) (by kernel_rfl) (fun _ _ _ h => h) (Or.inl ⟨by rfl, ?y10⟩) ?r10
          case y10 => first | (intro W; go_simp; done) | (intro W; go_simp; with_reducible rfl)
          try go_simp
          refine wpAny_ready (rs := [5]) (by kernel_rfl) (by simp) ?_
          refine AllReady.cons rfl (fun K hK => ?_) AllReady.nil
          go_simp
          go_wp2_with (first
            | (go_at_call 38; ((with_reducible refine (rvalue_any _ _).mono ?_); rintro e w' ⟨rfl, rfl⟩)))
          refine wpAny_take (i := 6) (v := ?v6) rfl (by kernel_rfl) (by kernel_rfl) (by kernel_rfl) (fun _ _ _ h => h) (Or.inl ⟨by rfl, ?y6⟩) ?r6
          case y6 => first | (intro W; go_simp; done) | (intro W; go_simp; with_reducible rfl)
          try go_simp
          refine wpAny_ready (rs := [11]) (by kernel_rfl) (by simp) ?_
          refine AllReady.cons rfl (fun K hK => ?_) AllReady.nil
          go_simp
          go_wp2_with (first
            | (go_at_call 38; ((with_reducible refine (rvalue_any _ _).mono ?_); rintro e w' ⟨rfl, rfl⟩)))
          refine wpAny_take (i := 12) (v := ?v12) rfl (by kernel_rfl) (by kernel_rfl) (by kernel_rfl) (fun _ _ _ h => h) (Or.inl ⟨by rfl, ?y12⟩) ?r12
          case y12 => first | (intro W; go_simp; done) | (intro W; go_simp; with_reducible rfl)
          try go_simp
          refine wpAny_ready (rs := [13]) (by kernel_rfl) (by simp) ?_
          refine AllReady.cons rfl (fun K hK => ?_) AllReady.nil
          go_simp
          refine hK _ _ ?_
          clear hK K
          rw [HC.out]
          refine wpAny_ready (rs := [14]) (by kernel_rfl) (by simp) ?_
          refine AllReady.cons rfl (fun K hK => ?_) AllReady.nil
          refine step_append_F (v := u4) rfl (.tmp 46) (.tmp 59) rfl (by simp [Act.eval]) ((show RowF w.heap.size wr u4 A from .inl HO.out).below ((Below.refl wr.heap.size wr).drew.alloc (Nat.le_refl _) _)) (by have := HB.out.size; simp; omega) ⟨wr.heap.size, 0, none⟩ 1 [c] (by simp [Act.eval]) (by simp) (cell_one_new _ _ _) (by simp; omega) ?_
          intro v2 w2 hown hgrow hat
          have HO2 := Lib.hid hown
          have HG2 := Lib.hid hgrow
          clear hown hgrow hat
          refine hK _ _ ?_
          clear hK K
          try go_simp
          refine wpAny_take (i := 15) (v := ?v15) rfl (by kernel_rfl) (by kernel_rfl) (by kernel_rfl) (fun _ _ _ h => h) (Or.inl ⟨by rfl, ?y15⟩) ?r15
          case y15 => first | (intro W; go_simp; done) | (intro W; go_simp; with_reducible rfl)
          try go_simp
          refine wpAny_done (by kernel_rfl) ?_ _
          clear hw1 hw2 hw3 hw4
          go_wp2
          refine ⟨⟨j + 3, A ++ [c], by simp; omega, by omega, by omega, ?_, HM2, by simp; omega, ?_⟩, by simp [intOf]; omega⟩
          · have := HO2.out
            rw [← bys_append] at this
            have e : (A ++ [c]).length = A.length + 1 := by simp
            rw [e]
            exact this
          · exact ((HB.out.drew).alloc (HB.out.drew).size _).grown HG2.out ((HB.out.drew).alloc (HB.out.drew).size _).size (fun i e => (HO.out.lt i e).1)
      · have i1 : ((s[j].toNat : Int) != 92) = true := by
          rw [bne_iff_ne]
          intro e
          exact h92 (UInt8.toNat_inj.1 (by show s[j].toNat = 92; omega))
        have HM2 : Hid (midL (midV s.data.toList).length (midV s.data.toList) = (midL (restL s.data.toList (j + 1)).length (restL s.data.toList (j + 1))).map ((A ++ [s[j]]) ++ ·)) := by
          show _ = _
          rw [HM.out, midL_more HNE.out (by rw [HR0.out]; exact h92), HR0.out, rest_drop, Option.map_map]
          congr 1
          funext x
          simp
        clear h92
        go_wp2_with (first
          | (at_builtin; refine wpList_append_own _ rfl (.tmp 19) (.tmp 23) 50 rfl w.heap.size 5 i0 (.int .u8 0) 1 1 under50 hi hz0 hz1 hz2 rfl (by decide) _ _ _ rfl (HO.out.alloc _) ⟨wr.heap.size, 0, none⟩ 1 1 (bys [s[j]]) rfl rfl (cell_one_new _ _ _) (bys_one _) (by unfold maxLen; omega) (by omega) (by have := HB.out.size; simp; omega) ?_; intro v2 w2 hown' hgrow _; have HO2 := Lib.hid hown'; have HG2 := Lib.hid hgrow; clear hown' hgrow))
        refine ⟨⟨j + 1, A ++ [s[j]], by simp, by omega, by omega, ?_, HM2, by simp; omega, ?_⟩, by simp [intOf]; omega⟩
        · have := HO2.out
          rw [← bys_append] at this
          have e : (A ++ [s[j]]).length = A.length + 1 := by simp
          rw [e]
          exact this
        · exact (HB.out.alloc HB.out.size _).grown HG2.out (HB.out.alloc HB.out.size _).size (fun i e => (HO.out.lt i e).1)
    · have hre : Hid (restL s.data.toList j = []) := by
        apply List.eq_nil_of_length_eq_zero
        rw [rest_len, HLN.out]
        omega
      have HMA : Hid (midL (midV s.data.toList).length (midV s.data.toList) = some A) := by
        show _ = _
        rw [HM.out, hre.out, midL_nil]
        simp
      have HQA := fun w => Lib.hid (rquote_any ⟨A.toArray⟩ (by show A.length ≤ _; omega) w)
      rw [show (⟨A.toArray⟩ : ByteArray).data.toList = A from rfl] at HQA
      have hcv := conv_own HO.out
      by_cases heq : quoteV A = s.data.toList
      · have HU : Hid (unqV s.data.toList = some A) := by
          show _ = _
          rw [HQ.out]
          unfold runqV
          rw [HMA.out]
          exact if_pos heq
        go_wp2_with (go_at_call 24; ((with_reducible refine (HQA _).out.mono ?_); rintro e w1 ⟨rfl, hb⟩; have HB1 := Lib.hid (HB.out.trans (hb.mono HB.out.size)); have hcv1 := conv_own (own_below HO.out hb); clear hb))
        go_ret2
        rw [HU.out]
        exact ⟨rfl, HB1.out⟩
      · have HU : Hid (unqV s.data.toList = none) := by
          show _ = _
          rw [HQ.out]
          unfold runqV
          rw [HMA.out]
          exact if_neg heq
        go_wp2_with (go_at_call 24; ((with_reducible refine (HQA _).out.mono ?_); rintro e w1 ⟨rfl, hb⟩; have HB1 := Lib.hid (HB.out.trans (hb.mono HB.out.size)); have hcv1 := conv_own (own_below HO.out hb); clear hb))
        · go_ret2
          rw [HU.out]
          exact ⟨rfl, HB1.out⟩
        · exfalso
          have ht : (!(quoteV A == s.toList)) = false := by assumption
          rw [Bool.not_eq_false', beq_iff_eq, Lib.toList_data] at ht
          exact heq ht
end Go.Proofs.YtjkfcmadoeifgaaDoor
