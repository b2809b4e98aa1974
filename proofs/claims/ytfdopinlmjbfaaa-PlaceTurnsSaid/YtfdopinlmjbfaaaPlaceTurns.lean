/- Whether ranges are a cover hangs not on their order; without one of them they are none, with one twice neither: racelaw4.PlaceTurns answers true and leaves its arguments as they were. Conditions: none. -/
import Derived.Test.YtfdopinlmjbfaaaCp
import Derived.Test.YtfdopinlmjbfaaaOs
import Derived.Test.YtfdopinlmjbfaaaXb
import Derived.RegionTactic
namespace Go.Proofs.Ytfdopinlmjbfaaa
open Go.ChangeShapes Go.WideShapes Go.ChangeAt Go.RowKit
theorem placeTurns_none (w : World) (v : Value) (n : Nat) (ao : Option Addr) (cap : Nat) (k : Int) (h : 200 < n ∨ n = 0) :
    Calls Try.prog 11 #[.slice ao n cap, v, .int .i64 k] w fun e w' => e = .returned (.bool true) ∧ Below w.heap.size w w' := by
  rcases h with h | rfl
  · have hgt : (200 : Int) < (n : Int) := by omega
    clear h
    go_enter Try.func11, Try.ntmps11
    go_wp2_with (first
      | (go_at_call 12; ((with_reducible refine (first_any _).mono ?_); rintro e w' ⟨rfl, rfl⟩)))
    go_ret
    exact ⟨rfl, Below.refl _ _⟩
  · go_enter Try.func11, Try.ntmps11
    go_wp2_with (first
      | (go_at_call 12; ((with_reducible refine (first_any _).mono ?_); rintro e w' ⟨rfl, rfl⟩)))
    go_ret
    exact ⟨rfl, Below.refl _ _⟩
set_option maxRecDepth 100000 in
set_option maxHeartbeats 8000000 in
theorem placeTurns_some (w : World) (ao : Option Addr) (cap n : Nat) (l : List RV) (HN : Hid (l.length = n)) (hw : ∀ r ∈ l, r.wf) (h0 : 0 < n) (h : n ≤ 200) (hl : HasR (fun k => k < w.heap.size) w (.slice ao n cap) l) (to : Option Addr) (tn tcap : Nat) (t : List I64) (ht : XB iv ⟨0, by decide⟩ w.heap.size w to tn tcap t) (k : Int) :
    Calls Try.prog 11 #[.slice ao n cap, .slice to tn tcap, .int .i64 k] w fun e w' => e = .returned (.bool true) ∧ Below w.heap.size w w' := by
  obtain ⟨i0, hi, hz0, hz1, hz2⟩ := info34s
  have hao : ao = none → n = 0 ∧ cap = 0 := by
    obtain ⟨ao', cap', e, _, _, h3, _⟩ := hl
    simp at e
    obtain ⟨rfl, _, rfl⟩ := e
    intro h
    exact ⟨by rw [← HN.out, (h3 h).2]; rfl, (h3 h).1⟩
  have hgt : ¬ (200 : Int) < (n : Int) := by omega
  have hn0 : ((n : Int) == 0) = false := by rw [beq_eq_false_iff_ne]; omega
  have HAO := Lib.hid hao
  have HNL : Hid ((cellsR l).length = n * 4) := by rw [cellsR_length, HN.out]; exact rfl
  have HW := Lib.hid hw
  have HL := Lib.hid hl
  have HT := Lib.hid ht
  have htn := ht.lt
  have HB := Lib.hid (Below.refl w.heap.size w)
  have HP0 := Lib.hid (List.Perm.refl l)
  clear hao hw hl ht
  go_enter Try.func11, Try.ntmps11
  go_wp2_with (first
    | (go_at_call 12; ((with_reducible refine (first_any _).mono ?_); rintro e w' ⟨rfl, rfl⟩))
    | (go_at_call 31; ((with_reducible refine (check_any HL.out HW.out).mono ?_); rintro e w1 ⟨rfl, hb⟩; have HL1 := Lib.hid ((HL.out.below hb).below (below1 w1 (.cells #[] 34))); have HB1 := Lib.hid hb; clear hb))
    | (at_builtin; refine wpList_append_row rfl (.tmp 25) (.tmp 26) 41 rfl w1.heap.size 34 i0 _ 4 32 Try.underlying41 hi hz0 hz1 hz2 rfl (by decide) _ 0 [] rfl (World.ownsRow_made w1 #[] 0 (Nat.le_refl _) (Nat.zero_le _) (by simp)) ao n cap (cellsR l) rfl HAO.out HNL.out HL1.out.news (cellsR_one l) (by unfold maxLen; omega) (by omega) (by simp) ?_; intro v2 w2 hown hg; have hb2 := ((below1 w1 (.cells #[] 34))).grown hg (by simp) (fun k hk => by cases hk; exact Nat.le_refl _); rw [Nat.zero_add, List.nil_append] at hown; have HO := Lib.hid hown; have HW2 := Lib.hid hb2; clear hown hg hb2))
  obtain ⟨g, mc, hv⟩ := own_shape HO.out h0
  subst hv
  go_loopw [9] (fun i wr => ∃ (q : Nat) (M : List RV), i = .int .i64 q ∧ q ≤ tn ∧ Hid (M.Perm l) ∧ Hid (wr.ownsRow w1.heap.size 34 4 (.slice (some ⟨g, 0, none⟩) n mc) n (cellsR M)) ∧ Hid (Below w1.heap.size w1 wr)) (fun i _ => tn - (intOf i).toNat)
  case atStart => exact ⟨0, l, rfl, Nat.zero_le _, HP0, HO, HW2⟩
  case round =>
    obtain ⟨q, M, rfl, hq, HP, HO, HW2⟩ := hrel
    by_cases hq2 : q < tn ∧ q < 200
    · obtain ⟨hqn, hq200⟩ := hq2
      obtain ⟨tb, toff, rfl, ct⟩ := (((HT.out.below HB1.out).below (HW2.out.mono HB1.out.size))).at_ hqn
      replace ct : wr.cell? ⟨tb, toff + q, none⟩ = some (.int .i64 (t.getD q ⟨0, by decide⟩).1) := ct
      have hX := (t.getD q ⟨0, by decide⟩).2
      generalize (t.getD q ⟨0, by decide⟩).1 = X at *
      have hJ : (Int.tmod X (n : Int)).natAbs < n := by
        have a1 := Int.tmod_lt_of_pos X (show (0 : Int) < n by omega)
        have a2 := Int.lt_tmod_of_pos X (show (0 : Int) < n by omega)
        omega
      have hJ2 : (0 < (Int.tmod X (n : Int)).natAbs ∧ Int.tmod X (n : Int) = -((Int.tmod X (n : Int)).natAbs : Int)) ∨ Int.tmod X (n : Int) = ((Int.tmod X (n : Int)).natAbs : Int) := by omega
      generalize hJe : (Int.tmod X (n : Int)).natAbs = J at *
      clear hJe
      have hML : M.length = n := by rw [HP.out.length_eq, HN.out]
      have HML := Lib.hid hML
      generalize hm0 : M.getD 0 RV.zero = A
      generalize hmJ : M.getD J RV.zero = D
      have hA := own_at HO.out (show 0 < M.length by omega) hm0
      have hB := own_at HO.out (show J < M.length by omega) hmJ
      rw [Nat.zero_mul] at hA
      obtain ⟨a0, a1, a2, a3, x0, x1, x2, x3⟩ := hA
      obtain ⟨b0, b1, b2, b3, y0, y1, y2, y3⟩ := hB
      have HSW := Lib.hid (swap_at (by omega) (by omega) hm0 hmJ)
      obtain ⟨ai, ae, al, ah⟩ := A
      obtain ⟨di, de, dl, dh⟩ := D
      simp only at a0 a1 a2 a3 b0 b1 b2 b3
      clear hm0 hmJ hML
      have hst := run_stf
      rcases hJ2 with ⟨hJ0, e1⟩ | e1
      · go_wp2
        refine wp_region_any (by kernel_rfl) ?_
        change wpAny _ _ _ _ _ _ _ (World.drew _)
        refine wpAny_take (i := 0) (v := ?vap_0) rfl (by kernel_rfl) (by kernel_rfl) (by kernel_rfl) (fun _ _ _ h => h) (Or.inl ⟨by rfl, ?yap_0⟩) ?rap_0
        case yap_0 => first | (intro W; go_simp; done) | (intro W; go_simp; with_reducible rfl)
        go_simp
        refine wpAny_take (i := 1) (v := ?vap_1) rfl (by kernel_rfl) (by kernel_rfl) (by kernel_rfl) (fun _ _ _ h => h) (Or.inl ⟨by rfl, ?yap_1⟩) ?rap_1
        case yap_1 => first | (intro W; go_simp; done) | (intro W; go_simp; with_reducible rfl)
        go_simp
        refine wpAny_take (i := 2) (v := ?vap_2) rfl (by kernel_rfl) (by kernel_rfl) (by kernel_rfl) (fun _ _ _ h => h) (Or.inl ⟨by rfl, ?yap_2⟩) ?rap_2
        case yap_2 => first | (intro W; go_simp; done) | (intro W; go_simp; with_reducible rfl)
        go_simp
        refine wpAny_take (i := 3) (v := ?vap_3) rfl (by kernel_rfl) (by kernel_rfl) (by kernel_rfl) (fun _ _ _ h => h) (Or.inl ⟨by rfl, ?yap_3⟩) ?rap_3
        case yap_3 => first | (intro W; go_simp; done) | (intro W; go_simp; with_reducible rfl)
        go_simp
        refine wpAny_take (i := 4) (v := ?vap_4) rfl (by kernel_rfl) (by kernel_rfl) (by kernel_rfl) (fun _ _ _ h => h) (Or.inl ⟨by rfl, ?yap_4⟩) ?rap_4
        case yap_4 => first | (intro W; go_simp; done) | (intro W; go_simp; with_reducible rfl)
        go_simp
        refine wpAny_take (i := 5) (v := ?vap_5) rfl (by kernel_rfl) (by kernel_rfl) (by kernel_rfl) (fun _ _ _ h => h) (Or.inl ⟨by rfl, ?yap_5⟩) ?rap_5
        case yap_5 => first | (intro W; go_simp; done) | (intro W; go_simp; with_reducible rfl)
        go_simp
        refine wpAny_take (i := 7) (v := ?vap_7) rfl (by kernel_rfl) (by kernel_rfl) (by kernel_rfl) (fun _ _ _ h => h) (Or.inl ⟨by rfl, ?yap_7⟩) ?rap_7
        case yap_7 => first | (intro W; go_simp; done) | (intro W; go_simp; with_reducible rfl)
        go_simp
        refine wpAny_take (i := 8) (v := ?vap_8) rfl (by kernel_rfl) (by kernel_rfl) (by kernel_rfl) (fun _ _ _ h => h) (Or.inl ⟨by rfl, ?yap_8⟩) ?rap_8
        case yap_8 => first | (intro W; go_simp; done) | (intro W; go_simp; with_reducible rfl)
        go_simp
        refine wpAny_ready (rs := [6, 9]) (by kernel_rfl) (by simp) ?_
        refine AllReady.cons rfl (fun K hK => ?_) (AllReady.cons rfl (fun K hK => ?_) AllReady.nil)
        · go_simp
          go_wp2_with (first | fail)
          refine wpAny_ready (rs := [9]) (by kernel_rfl) (by simp) ?_
          refine AllReady.cons rfl (fun K hK => ?_) AllReady.nil
          go_simp
          go_wp2_with (first | fail)
          refine wpAny_take (i := 10) (v := ?vb9p_10) rfl (by kernel_rfl) (by kernel_rfl) (by kernel_rfl) (fun _ _ _ h => h) (Or.inl ⟨by rfl, ?yb9p_10⟩) ?rb9p_10
          case yb9p_10 => first | (intro W; go_simp; done) | (intro W; go_simp; with_reducible rfl)
          go_simp
          refine wpAny_ready (rs := [11]) (by kernel_rfl) (by simp) ?_
          refine AllReady.cons rfl (fun K hK => ?_) AllReady.nil
          go_simp
          go_wp2_with (first | fail)
          have hM0 : 0 < M.length := by rw [HML.out]; exact h0
          have hbS := Lib.hid (show Below w1.heap.size w1 ((((wr.setCell ⟨g, 0, none⟩ (.int .i64 di)).setCell ⟨g, 1, none⟩ (.int .i64 de)).setCell ⟨g, 2, none⟩ (.float .f64 dl)).setCell ⟨g, 3, none⟩ (.float .f64 dh)) from below_setR HW2.out ((HO.out.lt g rfl).1) 0 ⟨di, de, dl, dh⟩)
          have hO2 := Lib.hid (show ((((wr.setCell ⟨g, 0, none⟩ (.int .i64 di)).setCell ⟨g, 1, none⟩ (.int .i64 de)).setCell ⟨g, 2, none⟩ (.float .f64 dl)).setCell ⟨g, 3, none⟩ (.float .f64 dh)).ownsRow w1.heap.size 34 4 (.slice (some ⟨g, 0, none⟩) n mc) n (cellsR (M.set 0 ⟨di, de, dl, dh⟩)) from (own_set (j := 0) HO.out hM0 ⟨di, de, dl, dh⟩).1)
          have hML2 : (M.set 0 ⟨di, de, dl, dh⟩).length = n := by rw [List.length_set]; exact HML.out
          generalize M.set 0 ⟨di, de, dl, dh⟩ = M2 at *
          clear b0 b1 b2 b3 y0 y1 y2 y3 a0 a1 a2 a3 x0 x1 x2 x3
          generalize (((wr.setCell ⟨g, 0, none⟩ (.int .i64 di)).setCell ⟨g, 1, none⟩ (.int .i64 de)).setCell ⟨g, 2, none⟩ (.float .f64 dl)).setCell ⟨g, 3, none⟩ (.float .f64 dh) = wa at *
          obtain ⟨⟨ri, re, rl, rh⟩, b0, b1, b2, b3, y0, y1, y2, y3⟩ := oc_set hO2.out (j := J) (by omega)
          simp only at b0 b1 b2 b3
          refine wpAny_take (i := 12) (v := ?vd9p_12) rfl (by kernel_rfl) (by kernel_rfl) (by kernel_rfl) (fun _ _ _ h => h) (Or.inl ⟨by rfl, ?yd9p_12⟩) ?rd9p_12
          case yd9p_12 => first | (intro W; go_simp; done) | (intro W; go_simp; with_reducible rfl)
          go_simp
          refine wpAny_ready (rs := [13]) (by kernel_rfl) (by simp) ?_
          refine AllReady.cons rfl (fun K hK => ?_) AllReady.nil
          go_simp
          go_wp2_with (first | fail)
          refine wpAny_done (by kernel_rfl) ?_ _
          have hS := Lib.hid (own_set hO2.out (show J < M2.length by omega) ⟨ai, ae, al, ah⟩).1
          have hb3 := Lib.hid (below_setR hbS.out ((hO2.out.lt g rfl).1) (J * 4) ⟨ai, ae, al, ah⟩)
          clear b0 b1 b2 b3 y0 y1 y2 y3
          go_wp2
          exact ⟨⟨q + 1, M2.set J ⟨ai, ae, al, ah⟩, by go_num, by omega, HSW.out.trans HP.out, hS.out, hb3.out.drew⟩, by simp [intOf]; omega⟩
        · go_simp
          go_wp2_with (first | fail)
          refine wpAny_ready (rs := [6]) (by kernel_rfl) (by simp) ?_
          refine AllReady.cons rfl (fun K hK => ?_) AllReady.nil
          go_simp
          go_wp2_with (first | fail)
          refine wpAny_take (i := 10) (v := ?vb6p_10) rfl (by kernel_rfl) (by kernel_rfl) (by kernel_rfl) (fun _ _ _ h => h) (Or.inl ⟨by rfl, ?yb6p_10⟩) ?rb6p_10
          case yb6p_10 => first | (intro W; go_simp; done) | (intro W; go_simp; with_reducible rfl)
          go_simp
          refine wpAny_ready (rs := [11]) (by kernel_rfl) (by simp) ?_
          refine AllReady.cons rfl (fun K hK => ?_) AllReady.nil
          go_simp
          go_wp2_with (first | fail)
          have hM0 : 0 < M.length := by rw [HML.out]; exact h0
          have hbS := Lib.hid (show Below w1.heap.size w1 ((((wr.setCell ⟨g, 0, none⟩ (.int .i64 di)).setCell ⟨g, 1, none⟩ (.int .i64 de)).setCell ⟨g, 2, none⟩ (.float .f64 dl)).setCell ⟨g, 3, none⟩ (.float .f64 dh)) from below_setR HW2.out ((HO.out.lt g rfl).1) 0 ⟨di, de, dl, dh⟩)
          have hO2 := Lib.hid (show ((((wr.setCell ⟨g, 0, none⟩ (.int .i64 di)).setCell ⟨g, 1, none⟩ (.int .i64 de)).setCell ⟨g, 2, none⟩ (.float .f64 dl)).setCell ⟨g, 3, none⟩ (.float .f64 dh)).ownsRow w1.heap.size 34 4 (.slice (some ⟨g, 0, none⟩) n mc) n (cellsR (M.set 0 ⟨di, de, dl, dh⟩)) from (own_set (j := 0) HO.out hM0 ⟨di, de, dl, dh⟩).1)
          have hML2 : (M.set 0 ⟨di, de, dl, dh⟩).length = n := by rw [List.length_set]; exact HML.out
          generalize M.set 0 ⟨di, de, dl, dh⟩ = M2 at *
          clear b0 b1 b2 b3 y0 y1 y2 y3 a0 a1 a2 a3 x0 x1 x2 x3
          generalize (((wr.setCell ⟨g, 0, none⟩ (.int .i64 di)).setCell ⟨g, 1, none⟩ (.int .i64 de)).setCell ⟨g, 2, none⟩ (.float .f64 dl)).setCell ⟨g, 3, none⟩ (.float .f64 dh) = wa at *
          obtain ⟨⟨ri, re, rl, rh⟩, b0, b1, b2, b3, y0, y1, y2, y3⟩ := oc_set hO2.out (j := J) (by omega)
          simp only at b0 b1 b2 b3
          refine wpAny_take (i := 12) (v := ?vd6p_12) rfl (by kernel_rfl) (by kernel_rfl) (by kernel_rfl) (fun _ _ _ h => h) (Or.inl ⟨by rfl, ?yd6p_12⟩) ?rd6p_12
          case yd6p_12 => first | (intro W; go_simp; done) | (intro W; go_simp; with_reducible rfl)
          go_simp
          refine wpAny_ready (rs := [13]) (by kernel_rfl) (by simp) ?_
          refine AllReady.cons rfl (fun K hK => ?_) AllReady.nil
          go_simp
          go_wp2_with (first | fail)
          refine wpAny_done (by kernel_rfl) ?_ _
          have hS := Lib.hid (own_set hO2.out (show J < M2.length by omega) ⟨ai, ae, al, ah⟩).1
          have hb3 := Lib.hid (below_setR hbS.out ((hO2.out.lt g rfl).1) (J * 4) ⟨ai, ae, al, ah⟩)
          clear b0 b1 b2 b3 y0 y1 y2 y3
          go_wp2
          exact ⟨⟨q + 1, M2.set J ⟨ai, ae, al, ah⟩, by go_num, by omega, HSW.out.trans HP.out, hS.out, hb3.out.drew⟩, by simp [intOf]; omega⟩
      · go_wp2
        refine wp_region_any (by kernel_rfl) ?_
        change wpAny _ _ _ _ _ _ _ (World.drew _)
        refine wpAny_take (i := 0) (v := ?van_0) rfl (by kernel_rfl) (by kernel_rfl) (by kernel_rfl) (fun _ _ _ h => h) (Or.inl ⟨by rfl, ?yan_0⟩) ?ran_0
        case yan_0 => first | (intro W; go_simp; done) | (intro W; go_simp; with_reducible rfl)
        go_simp
        refine wpAny_take (i := 1) (v := ?van_1) rfl (by kernel_rfl) (by kernel_rfl) (by kernel_rfl) (fun _ _ _ h => h) (Or.inl ⟨by rfl, ?yan_1⟩) ?ran_1
        case yan_1 => first | (intro W; go_simp; done) | (intro W; go_simp; with_reducible rfl)
        go_simp
        refine wpAny_take (i := 2) (v := ?van_2) rfl (by kernel_rfl) (by kernel_rfl) (by kernel_rfl) (fun _ _ _ h => h) (Or.inl ⟨by rfl, ?yan_2⟩) ?ran_2
        case yan_2 => first | (intro W; go_simp; done) | (intro W; go_simp; with_reducible rfl)
        go_simp
        refine wpAny_take (i := 3) (v := ?van_3) rfl (by kernel_rfl) (by kernel_rfl) (by kernel_rfl) (fun _ _ _ h => h) (Or.inl ⟨by rfl, ?yan_3⟩) ?ran_3
        case yan_3 => first | (intro W; go_simp; done) | (intro W; go_simp; with_reducible rfl)
        go_simp
        refine wpAny_take (i := 4) (v := ?van_4) rfl (by kernel_rfl) (by kernel_rfl) (by kernel_rfl) (fun _ _ _ h => h) (Or.inl ⟨by rfl, ?yan_4⟩) ?ran_4
        case yan_4 => first | (intro W; go_simp; done) | (intro W; go_simp; with_reducible rfl)
        go_simp
        refine wpAny_take (i := 5) (v := ?van_5) rfl (by kernel_rfl) (by kernel_rfl) (by kernel_rfl) (fun _ _ _ h => h) (Or.inl ⟨by rfl, ?yan_5⟩) ?ran_5
        case yan_5 => first | (intro W; go_simp; done) | (intro W; go_simp; with_reducible rfl)
        go_simp
        refine wpAny_take (i := 7) (v := ?van_7) rfl (by kernel_rfl) (by kernel_rfl) (by kernel_rfl) (fun _ _ _ h => h) (Or.inl ⟨by rfl, ?yan_7⟩) ?ran_7
        case yan_7 => first | (intro W; go_simp; done) | (intro W; go_simp; with_reducible rfl)
        go_simp
        refine wpAny_take (i := 8) (v := ?van_8) rfl (by kernel_rfl) (by kernel_rfl) (by kernel_rfl) (fun _ _ _ h => h) (Or.inl ⟨by rfl, ?yan_8⟩) ?ran_8
        case yan_8 => first | (intro W; go_simp; done) | (intro W; go_simp; with_reducible rfl)
        go_simp
        refine wpAny_ready (rs := [6, 9]) (by kernel_rfl) (by simp) ?_
        refine AllReady.cons rfl (fun K hK => ?_) (AllReady.cons rfl (fun K hK => ?_) AllReady.nil)
        · go_simp
          go_wp2_with (first | fail)
          refine wpAny_ready (rs := [9]) (by kernel_rfl) (by simp) ?_
          refine AllReady.cons rfl (fun K hK => ?_) AllReady.nil
          go_simp
          go_wp2_with (first | fail)
          refine wpAny_take (i := 10) (v := ?vb9n_10) rfl (by kernel_rfl) (by kernel_rfl) (by kernel_rfl) (fun _ _ _ h => h) (Or.inl ⟨by rfl, ?yb9n_10⟩) ?rb9n_10
          case yb9n_10 => first | (intro W; go_simp; done) | (intro W; go_simp; with_reducible rfl)
          go_simp
          refine wpAny_ready (rs := [11]) (by kernel_rfl) (by simp) ?_
          refine AllReady.cons rfl (fun K hK => ?_) AllReady.nil
          go_simp
          go_wp2_with (first | fail)
          have hM0 : 0 < M.length := by rw [HML.out]; exact h0
          have hbS := Lib.hid (show Below w1.heap.size w1 ((((wr.setCell ⟨g, 0, none⟩ (.int .i64 di)).setCell ⟨g, 1, none⟩ (.int .i64 de)).setCell ⟨g, 2, none⟩ (.float .f64 dl)).setCell ⟨g, 3, none⟩ (.float .f64 dh)) from below_setR HW2.out ((HO.out.lt g rfl).1) 0 ⟨di, de, dl, dh⟩)
          have hO2 := Lib.hid (show ((((wr.setCell ⟨g, 0, none⟩ (.int .i64 di)).setCell ⟨g, 1, none⟩ (.int .i64 de)).setCell ⟨g, 2, none⟩ (.float .f64 dl)).setCell ⟨g, 3, none⟩ (.float .f64 dh)).ownsRow w1.heap.size 34 4 (.slice (some ⟨g, 0, none⟩) n mc) n (cellsR (M.set 0 ⟨di, de, dl, dh⟩)) from (own_set (j := 0) HO.out hM0 ⟨di, de, dl, dh⟩).1)
          have hML2 : (M.set 0 ⟨di, de, dl, dh⟩).length = n := by rw [List.length_set]; exact HML.out
          generalize M.set 0 ⟨di, de, dl, dh⟩ = M2 at *
          clear b0 b1 b2 b3 y0 y1 y2 y3 a0 a1 a2 a3 x0 x1 x2 x3
          generalize (((wr.setCell ⟨g, 0, none⟩ (.int .i64 di)).setCell ⟨g, 1, none⟩ (.int .i64 de)).setCell ⟨g, 2, none⟩ (.float .f64 dl)).setCell ⟨g, 3, none⟩ (.float .f64 dh) = wa at *
          obtain ⟨⟨ri, re, rl, rh⟩, b0, b1, b2, b3, y0, y1, y2, y3⟩ := oc_set hO2.out (j := J) (by omega)
          simp only at b0 b1 b2 b3
          refine wpAny_take (i := 12) (v := ?vd9n_12) rfl (by kernel_rfl) (by kernel_rfl) (by kernel_rfl) (fun _ _ _ h => h) (Or.inl ⟨by rfl, ?yd9n_12⟩) ?rd9n_12
          case yd9n_12 => first | (intro W; go_simp; done) | (intro W; go_simp; with_reducible rfl)
          go_simp
          refine wpAny_ready (rs := [13]) (by kernel_rfl) (by simp) ?_
          refine AllReady.cons rfl (fun K hK => ?_) AllReady.nil
          go_simp
          go_wp2_with (first | fail)
          refine wpAny_done (by kernel_rfl) ?_ _
          have hS := Lib.hid (own_set hO2.out (show J < M2.length by omega) ⟨ai, ae, al, ah⟩).1
          have hb3 := Lib.hid (below_setR hbS.out ((hO2.out.lt g rfl).1) (J * 4) ⟨ai, ae, al, ah⟩)
          clear b0 b1 b2 b3 y0 y1 y2 y3
          go_wp2
          exact ⟨⟨q + 1, M2.set J ⟨ai, ae, al, ah⟩, by go_num, by omega, HSW.out.trans HP.out, hS.out, hb3.out.drew⟩, by simp [intOf]; omega⟩
        · go_simp
          go_wp2_with (first | fail)
          refine wpAny_ready (rs := [6]) (by kernel_rfl) (by simp) ?_
          refine AllReady.cons rfl (fun K hK => ?_) AllReady.nil
          go_simp
          go_wp2_with (first | fail)
          refine wpAny_take (i := 10) (v := ?vb6n_10) rfl (by kernel_rfl) (by kernel_rfl) (by kernel_rfl) (fun _ _ _ h => h) (Or.inl ⟨by rfl, ?yb6n_10⟩) ?rb6n_10
          case yb6n_10 => first | (intro W; go_simp; done) | (intro W; go_simp; with_reducible rfl)
          go_simp
          refine wpAny_ready (rs := [11]) (by kernel_rfl) (by simp) ?_
          refine AllReady.cons rfl (fun K hK => ?_) AllReady.nil
          go_simp
          go_wp2_with (first | fail)
          have hM0 : 0 < M.length := by rw [HML.out]; exact h0
          have hbS := Lib.hid (show Below w1.heap.size w1 ((((wr.setCell ⟨g, 0, none⟩ (.int .i64 di)).setCell ⟨g, 1, none⟩ (.int .i64 de)).setCell ⟨g, 2, none⟩ (.float .f64 dl)).setCell ⟨g, 3, none⟩ (.float .f64 dh)) from below_setR HW2.out ((HO.out.lt g rfl).1) 0 ⟨di, de, dl, dh⟩)
          have hO2 := Lib.hid (show ((((wr.setCell ⟨g, 0, none⟩ (.int .i64 di)).setCell ⟨g, 1, none⟩ (.int .i64 de)).setCell ⟨g, 2, none⟩ (.float .f64 dl)).setCell ⟨g, 3, none⟩ (.float .f64 dh)).ownsRow w1.heap.size 34 4 (.slice (some ⟨g, 0, none⟩) n mc) n (cellsR (M.set 0 ⟨di, de, dl, dh⟩)) from (own_set (j := 0) HO.out hM0 ⟨di, de, dl, dh⟩).1)
          have hML2 : (M.set 0 ⟨di, de, dl, dh⟩).length = n := by rw [List.length_set]; exact HML.out
          generalize M.set 0 ⟨di, de, dl, dh⟩ = M2 at *
          clear b0 b1 b2 b3 y0 y1 y2 y3 a0 a1 a2 a3 x0 x1 x2 x3
          generalize (((wr.setCell ⟨g, 0, none⟩ (.int .i64 di)).setCell ⟨g, 1, none⟩ (.int .i64 de)).setCell ⟨g, 2, none⟩ (.float .f64 dl)).setCell ⟨g, 3, none⟩ (.float .f64 dh) = wa at *
          obtain ⟨⟨ri, re, rl, rh⟩, b0, b1, b2, b3, y0, y1, y2, y3⟩ := oc_set hO2.out (j := J) (by omega)
          simp only at b0 b1 b2 b3
          refine wpAny_take (i := 12) (v := ?vd6n_12) rfl (by kernel_rfl) (by kernel_rfl) (by kernel_rfl) (fun _ _ _ h => h) (Or.inl ⟨by rfl, ?yd6n_12⟩) ?rd6n_12
          case yd6n_12 => first | (intro W; go_simp; done) | (intro W; go_simp; with_reducible rfl)
          go_simp
          refine wpAny_ready (rs := [13]) (by kernel_rfl) (by simp) ?_
          refine AllReady.cons rfl (fun K hK => ?_) AllReady.nil
          go_simp
          go_wp2_with (first | fail)
          refine wpAny_done (by kernel_rfl) ?_ _
          have hS := Lib.hid (own_set hO2.out (show J < M2.length by omega) ⟨ai, ae, al, ah⟩).1
          have hb3 := Lib.hid (below_setR hbS.out ((hO2.out.lt g rfl).1) (J * 4) ⟨ai, ae, al, ah⟩)
          clear b0 b1 b2 b3 y0 y1 y2 y3
          go_wp2
          exact ⟨⟨q + 1, M2.set J ⟨ai, ae, al, ah⟩, by go_num, by omega, HSW.out.trans HP.out, hS.out, hb3.out.drew⟩, by simp [intOf]; omega⟩
    · have hq3 : (q < tn ∧ ¬ q < 200) ∨ ¬ q < tn := by omega
      clear hq2
      have hMn : M.length = n := by rw [HP.out.length_eq, HN.out]
      have HWM : Hid (∀ r ∈ M, r.wf) := fun r hr => HW.out r (HP.out.mem_iff.1 hr)
      have HRM := Lib.hid (own_ranges (show wr.ownsRow w1.heap.size 34 4 (.slice (some ⟨g, 0, none⟩) n mc) M.length (cellsR M) by rw [hMn]; exact HO.out))
      have HBW := Lib.hid (HB1.out.trans (HW2.out.mono HB1.out.size))
      have hcov : checkV M = 0 ↔ checkV l = 0 := check_zero.trans (Iff.trans ⟨fun h => h.perm HP.out, fun h => h.perm HP.out.symm⟩ check_zero.symm)
      by_cases hc : checkV l = 0
      · have hcM := hcov.2 hc
        have HCov := Lib.hid (check_zero.1 hc)
        have HCM := Lib.hid hcM
        generalize checkV l = c at *
        subst hc
        have hK : (Int.tmod k (n : Int)).natAbs < n := by
          have a1 := Int.tmod_lt_of_pos k (show (0 : Int) < n by omega)
          have a2 := Int.lt_tmod_of_pos k (show (0 : Int) < n by omega)
          omega
        have hK2 : (0 < (Int.tmod k (n : Int)).natAbs ∧ Int.tmod k (n : Int) = -((Int.tmod k (n : Int)).natAbs : Int)) ∨ Int.tmod k (n : Int) = ((Int.tmod k (n : Int)).natAbs : Int) := by omega
        generalize hKe : (Int.tmod k (n : Int)).natAbs = K at *
        clear hKe hcov hcM
        obtain ⟨lb, lo, rfl⟩ : ∃ b o, ao = some ⟨b, o, none⟩ := by
          obtain ⟨ao', cap', e, _, _, _, h5⟩ := HL.out
          simp at e
          obtain ⟨rfl, _, _⟩ := e
          rcases h5 with rfl | ⟨b, o, h6, _⟩
          · have := HN.out; simp at this; omega
          · exact ⟨b, o, h6⟩
        have hcap : n ≤ cap := by
          obtain ⟨ao', cap', e, h1, _⟩ := HL.out
          simp at e
          obtain ⟨_, rfl, rfl⟩ := e
          exact h1
        have HWL : Hid (∀ r ∈ l.take K ++ l.drop (K + 1), r.wf) := fun r hr => by
          rcases List.mem_append.1 hr with hr | hr
          · exact HW.out r (List.mem_of_mem_take hr)
          · exact HW.out r (List.mem_of_mem_drop hr)
        have hKl : K < l.length := by rw [HN.out]; omega
        have HNL1 := Lib.hid (fun h => HCov.out.less hKl (check_zero.1 h) : checkV (l.take K ++ l.drop (K + 1)) ≠ 0)
        have HNL2 := Lib.hid (fun h => Cov.twice (s := M) hKl HP.out.symm (check_zero.1 h) : checkV (M ++ [l[K]]) ≠ 0)
        have hWr := HW.out _ (List.getElem_mem hKl)
        obtain ⟨e0, e2, e3, e4, hlb⟩ : Hid (w.cell? ⟨lb, lo + K * 4, none⟩ = some (.int .i64 l[K].i)) ∧ Hid (w.cell? ⟨lb, lo + K * 4 + 1, none⟩ = some (.int .i64 l[K].e)) ∧ Hid (w.cell? ⟨lb, lo + K * 4 + 2, none⟩ = some (.float .f64 l[K].lo)) ∧ Hid (w.cell? ⟨lb, lo + K * 4 + 3, none⟩ = some (.float .f64 l[K].hi)) ∧ Hid (lb < w.heap.size) := by
          obtain ⟨ao', cap', e, _, _, _, h5⟩ := HL.out
          simp at e
          obtain ⟨rfl, _, _⟩ := e
          rcases h5 with h5 | ⟨b, o, h6, _, h8, h9⟩
          · rw [h5] at hKl; simp at hKl
          · simp at h6
            obtain ⟨rfl, rfl⟩ := h6
            exact ⟨(h9 K hKl).c0, (h9 K hKl).c1, (h9 K hKl).c2, (h9 K hKl).c3, h8⟩
        generalize l[K] = r at *
        obtain ⟨ri, re, rl, rh⟩ := r
        have HWM2 : Hid (∀ q ∈ M ++ [⟨ri, re, rl, rh⟩], q.wf) := fun q hq => by
          rcases List.mem_append.1 hq with hq | hq
          · exact HWM.out q hq
          · obtain rfl := List.mem_singleton.1 hq; exact hWr
        have HMn := Lib.hid hMn
        have HB7 : Hid (w1.heap.size ≤ wr.heap.size) := HW2.out.size
        clear hWr hKl
        have HCMa := Lib.hid (check_any HRM.out HWM.out)
        rw [HCM.out] at HCMa
        have hcc : (n = K + 1 ∧ cap = K + 1) ∨ (K + 1 ≤ cap ∧ ¬ cap = K + 1) := by omega
        have f1 : (K : Int) ≤ (K : Int) + 1 := by omega
        have f2 : K ≤ K + 1 := by omega
        have f3 : K + 1 ≤ n := by omega
        have f4 : K ≤ cap := by omega
        have f7 : (0 : Int) ≤ (K : Int) + 1 := by omega
        have f8 : (K : Int) + 1 ≤ (n : Int) := by omega
        have f6 : IntKind.i64.wrap ((K : Int) + 1) = (K : Int) + 1 := IntWalk.i64_in _ (by omega)
        have hcc : (n ≤ K + 1 ∧ cap = K + 1) ∨ (K + 1 ≤ cap ∧ ¬ cap = K + 1) := by omega
        rcases hq3 with ⟨_, hq4⟩ | hq4 <;> rcases hK2 with ⟨hK0, e1⟩ | e1 <;> rcases hcc with ⟨hcn, rfl⟩ | ⟨f5, hcK⟩
        · have HX := Lib.hid (show HasR (fun k => k < w.heap.size) w (.slice (some ⟨lb, lo, none⟩) 0 0) (l.drop (K + 1)) by rw [List.drop_of_length_le (by rw [HN.out]; exact hcn)]; exact ⟨_, 0, rfl, Nat.le_refl _, by decide, (fun e => by cases e), .inl rfl⟩)
          have HLS : Hid ((l.take K ++ l.drop (K + 1)).length = K) := by rw [List.length_append, List.length_take, List.length_drop, HN.out]; exact (show min K n + (n - (K + 1)) = K by omega)
          go_wp2_with (first
            | (go_at_call 31; ((with_reducible refine HCMa.out.mono ?_); rintro e w3 ⟨rfl, hb⟩; have HO := Lib.hid (own_below HO.out hb); have HB7 := Lib.hid (Nat.le_trans HB7.out hb.size); have HBW := Lib.hid (HBW.out.trans (hb.mono HBW.out.size)); clear hb)))
          refine wp_region_any (by kernel_rfl) ?_
          change wpAny _ _ _ _ _ _ _ (World.drew _)
          refine wpAny_take (i := 1) (v := ?vz0_1) rfl (by kernel_rfl) (by kernel_rfl) (by kernel_rfl) (fun _ _ _ h => h) (Or.inl ⟨by rfl, ?yz0_1⟩) ?rz0_1
          case yz0_1 => first | (intro W; go_simp; done) | (intro W; go_simp; with_reducible rfl)
          go_simp
          refine wpAny_take (i := 2) (v := ?vz0_2) rfl (by kernel_rfl) (by kernel_rfl) (by kernel_rfl) (fun _ _ _ h => h) (Or.inl ⟨by rfl, ?yz0_2⟩) ?rz0_2
          case yz0_2 => first | (intro W; go_simp; done) | (intro W; go_simp; with_reducible rfl)
          go_simp
          refine wpAny_take (i := 3) (v := ?vz0_3) rfl (by kernel_rfl) (by kernel_rfl) (by kernel_rfl) (fun _ _ _ h => h) (Or.inl ⟨by rfl, ?yz0_3⟩) ?rz0_3
          case yz0_3 => first | (intro W; go_simp; done) | (intro W; go_simp; with_reducible rfl)
          go_simp
          refine wpAny_take (i := 5) (v := ?vz0_5) rfl (by kernel_rfl) (by kernel_rfl) (by kernel_rfl) (fun _ _ _ h => h) (Or.inl ⟨by rfl, ?yz0_5⟩) ?rz0_5
          case yz0_5 => first | (intro W; go_simp; done) | (intro W; go_simp; with_reducible rfl)
          go_simp
          refine wpAny_take (i := 6) (v := ?vz0_6) rfl (by kernel_rfl) (by kernel_rfl) (by kernel_rfl) (fun _ _ _ h => h) (Or.inl ⟨by rfl, ?yz0_6⟩) ?rz0_6
          case yz0_6 => first | (intro W; go_simp; done) | (intro W; go_simp; with_reducible rfl)
          go_simp
          refine wpAny_take (i := 7) (v := ?vz0_7) rfl (by kernel_rfl) (by kernel_rfl) (by kernel_rfl) (fun _ _ _ h => h) (Or.inl ⟨by rfl, ?yz0_7⟩) ?rz0_7
          case yz0_7 => first | (intro W; go_simp; done) | (intro W; go_simp; with_reducible rfl)
          go_simp
          refine wpAny_take (i := 8) (v := ?vz0_8) rfl (by kernel_rfl) (by kernel_rfl) (by kernel_rfl) (fun _ _ _ h => h) (Or.inl ⟨by rfl, ?yz0_8⟩) ?rz0_8
          case yz0_8 => first | (intro W; go_simp; done) | (intro W; go_simp; with_reducible rfl)
          go_simp
          refine wpAny_ready (rs := [0]) (by kernel_rfl) (by simp) ?_
          refine AllReady.cons rfl (fun K hK => ?_) AllReady.nil
          go_simp
          go_wp2_with (first | fail)
          have hW3 := HBW.out.size
          have hLa := Lib.hid (((HL.out.below HBW.out).below (below1 w3 (.cells #[] 34))).below ((Below.refl _ _).drew))
          refine wpAny_ready (rs := [4]) (by kernel_rfl) (by simp) ?_
          refine AllReady.cons rfl (fun K' hK' => ?_) AllReady.nil
          refine oper_append_ranges (w := (w3.alloc (.cells #[] 34)).drew) (wanted_none rfl _) (.tmp 78) (.tmp 81) rfl (B := w3.heap.size) (M := []) (n := 0) rfl (World.ownsRow_made w3 #[] 0 (Nat.le_refl _) (Nat.zero_le _) (by simp)) (by simp) rfl (has_top hLa.out (k := K) (by omega)) (by omega) ?_
          intro v4 w4 ho4 hg4
          refine hK' _ _ ?_
          clear hK' K'
          have hb4 := Lib.hid (((below1 w3 (.cells #[] 34)).drew).grown hg4 (by simp) (fun k hk => by cases hk; exact Nat.le_refl _))
          rw [Nat.zero_add, List.nil_append] at ho4
          obtain ⟨ao4, c4, rfl⟩ := own_slice ho4
          have HO4 := Lib.hid ho4
          clear ho4 hg4
          go_simp
          have HW4 := Lib.hid (Nat.le_trans hW3 hb4.out.size)
          have HXw := Lib.hid ((HX.out.below HBW.out).below hb4.out)
          refine wpAny_ready (rs := [9]) (by kernel_rfl) (by simp) ?_
          refine AllReady.cons rfl (fun K' hK' => ?_) AllReady.nil
          refine oper_append_ranges (wanted_none rfl _) (.tmp 82) (.tmp 86) rfl (B := w3.heap.size) (M := l.take K) (n := K) rfl HO4.out hb4.out.size rfl HXw.out (by omega) ?_
          intro v5 w5 ho5 hg5
          refine hK' _ _ ?_
          clear hK' K'
          have hb5 := Lib.hid ((hb4.out).trans (own_below_grown HO4.out hb4.out.size hg5))
          try rw [Nat.add_zero] at ho5
          obtain ⟨ao5, c5, rfl⟩ := own_slice ho5
          have HO5 := Lib.hid (own_ranges (show w5.ownsRow w3.heap.size 34 4 _ (l.take K ++ l.drop (K + 1)).length (cellsR (l.take K ++ l.drop (K + 1))) by rw [HLS.out]; exact ho5))
          have HOm := Lib.hid (own_below HO.out hb5.out)
          have HBW5 := Lib.hid (HBW.out.trans (hb5.out.mono hW3))
          clear ho5 hg5
          go_simp
          refine wpAny_take (i := 10) (v := ?vy0_10) rfl (by kernel_rfl) (by kernel_rfl) (by kernel_rfl) (fun _ _ _ h => h) (Or.inl ⟨by rfl, ?yy0_10⟩) ?ry0_10
          case yy0_10 => first | (intro W; go_simp; done) | (intro W; go_simp; with_reducible rfl)
          go_simp
          refine wpAny_done (by kernel_rfl) ?_ _
          have HCL := Lib.hid (check_any HO5.out HWL.out)
          have ht1 : (checkV (l.take K ++ l.drop (K + 1)) != 0) = true := bne_iff_ne.2 HNL1.out
          have ht2 : (checkV (M ++ [⟨ri, re, rl, rh⟩]) != 0) = true := bne_iff_ne.2 HNL2.out
          generalize checkV (l.take K ++ l.drop (K + 1)) = d1 at *
          generalize hd2 : checkV (M ++ [⟨ri, re, rl, rh⟩]) = d2 at *
          have HD2 := Lib.hid hd2
          clear hd2
          go_wp2_with (first
            | (go_at_call 12; ((with_reducible refine (first_any _).mono ?_); rintro e w' ⟨rfl, rfl⟩))
            | (go_at_call 31; have t0 := HC7; ((with_reducible refine HC7.out.mono ?_); rw [HD2.out]; rintro e w8 ⟨rfl, hb⟩; have HBW5 := Lib.hid (HBW5.out.trans (hb.mono HBW5.out.size)); clear hb))
            | (go_at_call 31; ((with_reducible refine HCL.out.mono ?_); rintro e w6 ⟨rfl, hb⟩; have HOm := Lib.hid (own_below HOm.out hb); have hs6 := hb.size; have hs5 := hb5.out.size; have HBW5 := Lib.hid (HBW5.out.trans (hb.mono HBW5.out.size)); have q0 := (HBW5.out.cell (p := ⟨lb, lo + K * 4, none⟩) hlb.out).trans e0.out; have q1 := (HBW5.out.cell (p := ⟨lb, lo + K * 4 + 1, none⟩) hlb.out).trans e2.out; have q2 := (HBW5.out.cell (p := ⟨lb, lo + K * 4 + 2, none⟩) hlb.out).trans e3.out; have q3 := (HBW5.out.cell (p := ⟨lb, lo + K * 4 + 3, none⟩) hlb.out).trans e4.out; have hz6 := HBW5.out.size; clear hb))
            | (at_builtin; refine wpList_append_ranges (by rfl) (.tmp 95) (.tmp 100) rfl (B := w1.heap.size) (M := M) (n := n) rfl (HOm.out.alloc _) (by have := HB7.out; simp; omega) rfl (has_lit w6 ⟨ri, re, rl, rh⟩) (by omega) ?_; intro v7 w7 ho7 hg7; have hb7 := own_below_grown (HOm.out.alloc (robj ⟨ri, re, rl, rh⟩)) (by have := HB7.out; simp; omega) hg7; have HBW5 := Lib.hid ((HBW5.out.trans ((below1 w6 (robj ⟨ri, re, rl, rh⟩)).mono hz6)).trans (hb7.mono HB1.out.size)); obtain ⟨ao7, c7, rfl⟩ := own_slice ho7; have ho8 := own_ranges (w := w7) (base := w1.heap.size) (v := .slice ao7 (n + 1) c7) (l := M ++ [⟨ri, re, rl, rh⟩]) (by rw [List.length_append, HMn.out]; exact ho7); have HC7 := Lib.hid (check_any ho8 HWM2.out); clear ho7 hg7 ho8 hb7))
          go_ret
          exact ⟨rfl, HBW5.out⟩
        · have HX := Lib.hid (has_rest HL.out (k := K + 1) (by omega))
          have HLS : Hid ((l.take K ++ l.drop (K + 1)).length = K + (n - (K + 1))) := by rw [List.length_append, List.length_take, List.length_drop, HN.out]; exact (show min K n + (n - (K + 1)) = K + (n - (K + 1)) by omega)
          go_wp2_with (first
            | (go_at_call 31; ((with_reducible refine HCMa.out.mono ?_); rintro e w3 ⟨rfl, hb⟩; have HO := Lib.hid (own_below HO.out hb); have HB7 := Lib.hid (Nat.le_trans HB7.out hb.size); have HBW := Lib.hid (HBW.out.trans (hb.mono HBW.out.size)); clear hb)))
          refine wp_region_any (by kernel_rfl) ?_
          change wpAny _ _ _ _ _ _ _ (World.drew _)
          refine wpAny_take (i := 1) (v := ?vz1_1) rfl (by kernel_rfl) (by kernel_rfl) (by kernel_rfl) (fun _ _ _ h => h) (Or.inl ⟨by rfl, ?yz1_1⟩) ?rz1_1
          case yz1_1 => first | (intro W; go_simp; done) | (intro W; go_simp; with_reducible rfl)
          go_simp
          refine wpAny_take (i := 2) (v := ?vz1_2) rfl (by kernel_rfl) (by kernel_rfl) (by kernel_rfl) (fun _ _ _ h => h) (Or.inl ⟨by rfl, ?yz1_2⟩) ?rz1_2
          case yz1_2 => first | (intro W; go_simp; done) | (intro W; go_simp; with_reducible rfl)
          go_simp
          refine wpAny_take (i := 3) (v := ?vz1_3) rfl (by kernel_rfl) (by kernel_rfl) (by kernel_rfl) (fun _ _ _ h => h) (Or.inl ⟨by rfl, ?yz1_3⟩) ?rz1_3
          case yz1_3 => first | (intro W; go_simp; done) | (intro W; go_simp; with_reducible rfl)
          go_simp
          refine wpAny_take (i := 5) (v := ?vz1_5) rfl (by kernel_rfl) (by kernel_rfl) (by kernel_rfl) (fun _ _ _ h => h) (Or.inl ⟨by rfl, ?yz1_5⟩) ?rz1_5
          case yz1_5 => first | (intro W; go_simp; done) | (intro W; go_simp; with_reducible rfl)
          go_simp
          refine wpAny_take (i := 6) (v := ?vz1_6) rfl (by kernel_rfl) (by kernel_rfl) (by kernel_rfl) (fun _ _ _ h => h) (Or.inl ⟨by rfl, ?yz1_6⟩) ?rz1_6
          case yz1_6 => first | (intro W; go_simp; done) | (intro W; go_simp; with_reducible rfl)
          go_simp
          refine wpAny_take (i := 7) (v := ?vz1_7) rfl (by kernel_rfl) (by kernel_rfl) (by kernel_rfl) (fun _ _ _ h => h) (Or.inl ⟨by rfl, ?yz1_7⟩) ?rz1_7
          case yz1_7 => first | (intro W; go_simp; done) | (intro W; go_simp; with_reducible rfl)
          go_simp
          refine wpAny_take (i := 8) (v := ?vz1_8) rfl (by kernel_rfl) (by kernel_rfl) (by kernel_rfl) (fun _ _ _ h => h) (Or.inl ⟨by rfl, ?yz1_8⟩) ?rz1_8
          case yz1_8 => first | (intro W; go_simp; done) | (intro W; go_simp; with_reducible rfl)
          go_simp
          refine wpAny_ready (rs := [0]) (by kernel_rfl) (by simp) ?_
          refine AllReady.cons rfl (fun K hK => ?_) AllReady.nil
          go_simp
          go_wp2_with (first | fail)
          have hW3 := HBW.out.size
          have hLa := Lib.hid (((HL.out.below HBW.out).below (below1 w3 (.cells #[] 34))).below ((Below.refl _ _).drew))
          refine wpAny_ready (rs := [4]) (by kernel_rfl) (by simp) ?_
          refine AllReady.cons rfl (fun K' hK' => ?_) AllReady.nil
          refine oper_append_ranges (w := (w3.alloc (.cells #[] 34)).drew) (wanted_none rfl _) (.tmp 78) (.tmp 81) rfl (B := w3.heap.size) (M := []) (n := 0) rfl (World.ownsRow_made w3 #[] 0 (Nat.le_refl _) (Nat.zero_le _) (by simp)) (by simp) rfl (has_top hLa.out (k := K) (by omega)) (by omega) ?_
          intro v4 w4 ho4 hg4
          refine hK' _ _ ?_
          clear hK' K'
          have hb4 := Lib.hid (((below1 w3 (.cells #[] 34)).drew).grown hg4 (by simp) (fun k hk => by cases hk; exact Nat.le_refl _))
          rw [Nat.zero_add, List.nil_append] at ho4
          obtain ⟨ao4, c4, rfl⟩ := own_slice ho4
          have HO4 := Lib.hid ho4
          clear ho4 hg4
          go_simp
          have HW4 := Lib.hid (Nat.le_trans hW3 hb4.out.size)
          have HXw := Lib.hid ((HX.out.below HBW.out).below hb4.out)
          refine wpAny_ready (rs := [9]) (by kernel_rfl) (by simp) ?_
          refine AllReady.cons rfl (fun K' hK' => ?_) AllReady.nil
          refine oper_append_ranges (wanted_none rfl _) (.tmp 82) (.tmp 86) rfl (B := w3.heap.size) (M := l.take K) (n := K) rfl HO4.out hb4.out.size rfl HXw.out (by omega) ?_
          intro v5 w5 ho5 hg5
          refine hK' _ _ ?_
          clear hK' K'
          have hb5 := Lib.hid ((hb4.out).trans (own_below_grown HO4.out hb4.out.size hg5))
          try rw [Nat.add_zero] at ho5
          obtain ⟨ao5, c5, rfl⟩ := own_slice ho5
          have HO5 := Lib.hid (own_ranges (show w5.ownsRow w3.heap.size 34 4 _ (l.take K ++ l.drop (K + 1)).length (cellsR (l.take K ++ l.drop (K + 1))) by rw [HLS.out]; exact ho5))
          have HOm := Lib.hid (own_below HO.out hb5.out)
          have HBW5 := Lib.hid (HBW.out.trans (hb5.out.mono hW3))
          clear ho5 hg5
          go_simp
          refine wpAny_take (i := 10) (v := ?vy1_10) rfl (by kernel_rfl) (by kernel_rfl) (by kernel_rfl) (fun _ _ _ h => h) (Or.inl ⟨by rfl, ?yy1_10⟩) ?ry1_10
          case yy1_10 => first | (intro W; go_simp; done) | (intro W; go_simp; with_reducible rfl)
          go_simp
          refine wpAny_done (by kernel_rfl) ?_ _
          have HCL := Lib.hid (check_any HO5.out HWL.out)
          have ht1 : (checkV (l.take K ++ l.drop (K + 1)) != 0) = true := bne_iff_ne.2 HNL1.out
          have ht2 : (checkV (M ++ [⟨ri, re, rl, rh⟩]) != 0) = true := bne_iff_ne.2 HNL2.out
          generalize checkV (l.take K ++ l.drop (K + 1)) = d1 at *
          generalize hd2 : checkV (M ++ [⟨ri, re, rl, rh⟩]) = d2 at *
          have HD2 := Lib.hid hd2
          clear hd2
          go_wp2_with (first
            | (go_at_call 12; ((with_reducible refine (first_any _).mono ?_); rintro e w' ⟨rfl, rfl⟩))
            | (go_at_call 31; have t0 := HC7; ((with_reducible refine HC7.out.mono ?_); rw [HD2.out]; rintro e w8 ⟨rfl, hb⟩; have HBW5 := Lib.hid (HBW5.out.trans (hb.mono HBW5.out.size)); clear hb))
            | (go_at_call 31; ((with_reducible refine HCL.out.mono ?_); rintro e w6 ⟨rfl, hb⟩; have HOm := Lib.hid (own_below HOm.out hb); have hs6 := hb.size; have hs5 := hb5.out.size; have HBW5 := Lib.hid (HBW5.out.trans (hb.mono HBW5.out.size)); have q0 := (HBW5.out.cell (p := ⟨lb, lo + K * 4, none⟩) hlb.out).trans e0.out; have q1 := (HBW5.out.cell (p := ⟨lb, lo + K * 4 + 1, none⟩) hlb.out).trans e2.out; have q2 := (HBW5.out.cell (p := ⟨lb, lo + K * 4 + 2, none⟩) hlb.out).trans e3.out; have q3 := (HBW5.out.cell (p := ⟨lb, lo + K * 4 + 3, none⟩) hlb.out).trans e4.out; have hz6 := HBW5.out.size; clear hb))
            | (at_builtin; refine wpList_append_ranges (by rfl) (.tmp 95) (.tmp 100) rfl (B := w1.heap.size) (M := M) (n := n) rfl (HOm.out.alloc _) (by have := HB7.out; simp; omega) rfl (has_lit w6 ⟨ri, re, rl, rh⟩) (by omega) ?_; intro v7 w7 ho7 hg7; have hb7 := own_below_grown (HOm.out.alloc (robj ⟨ri, re, rl, rh⟩)) (by have := HB7.out; simp; omega) hg7; have HBW5 := Lib.hid ((HBW5.out.trans ((below1 w6 (robj ⟨ri, re, rl, rh⟩)).mono hz6)).trans (hb7.mono HB1.out.size)); obtain ⟨ao7, c7, rfl⟩ := own_slice ho7; have ho8 := own_ranges (w := w7) (base := w1.heap.size) (v := .slice ao7 (n + 1) c7) (l := M ++ [⟨ri, re, rl, rh⟩]) (by rw [List.length_append, HMn.out]; exact ho7); have HC7 := Lib.hid (check_any ho8 HWM2.out); clear ho7 hg7 ho8 hb7))
          go_ret
          exact ⟨rfl, HBW5.out⟩
        · have HX := Lib.hid (show HasR (fun k => k < w.heap.size) w (.slice (some ⟨lb, lo, none⟩) 0 0) (l.drop (K + 1)) by rw [List.drop_of_length_le (by rw [HN.out]; exact hcn)]; exact ⟨_, 0, rfl, Nat.le_refl _, by decide, (fun e => by cases e), .inl rfl⟩)
          have HLS : Hid ((l.take K ++ l.drop (K + 1)).length = K) := by rw [List.length_append, List.length_take, List.length_drop, HN.out]; exact (show min K n + (n - (K + 1)) = K by omega)
          go_wp2_with (first
            | (go_at_call 31; ((with_reducible refine HCMa.out.mono ?_); rintro e w3 ⟨rfl, hb⟩; have HO := Lib.hid (own_below HO.out hb); have HB7 := Lib.hid (Nat.le_trans HB7.out hb.size); have HBW := Lib.hid (HBW.out.trans (hb.mono HBW.out.size)); clear hb)))
          refine wp_region_any (by kernel_rfl) ?_
          change wpAny _ _ _ _ _ _ _ (World.drew _)
          refine wpAny_take (i := 1) (v := ?vz2_1) rfl (by kernel_rfl) (by kernel_rfl) (by kernel_rfl) (fun _ _ _ h => h) (Or.inl ⟨by rfl, ?yz2_1⟩) ?rz2_1
          case yz2_1 => first | (intro W; go_simp; done) | (intro W; go_simp; with_reducible rfl)
          go_simp
          refine wpAny_take (i := 2) (v := ?vz2_2) rfl (by kernel_rfl) (by kernel_rfl) (by kernel_rfl) (fun _ _ _ h => h) (Or.inl ⟨by rfl, ?yz2_2⟩) ?rz2_2
          case yz2_2 => first | (intro W; go_simp; done) | (intro W; go_simp; with_reducible rfl)
          go_simp
          refine wpAny_take (i := 3) (v := ?vz2_3) rfl (by kernel_rfl) (by kernel_rfl) (by kernel_rfl) (fun _ _ _ h => h) (Or.inl ⟨by rfl, ?yz2_3⟩) ?rz2_3
          case yz2_3 => first | (intro W; go_simp; done) | (intro W; go_simp; with_reducible rfl)
          go_simp
          refine wpAny_take (i := 5) (v := ?vz2_5) rfl (by kernel_rfl) (by kernel_rfl) (by kernel_rfl) (fun _ _ _ h => h) (Or.inl ⟨by rfl, ?yz2_5⟩) ?rz2_5
          case yz2_5 => first | (intro W; go_simp; done) | (intro W; go_simp; with_reducible rfl)
          go_simp
          refine wpAny_take (i := 6) (v := ?vz2_6) rfl (by kernel_rfl) (by kernel_rfl) (by kernel_rfl) (fun _ _ _ h => h) (Or.inl ⟨by rfl, ?yz2_6⟩) ?rz2_6
          case yz2_6 => first | (intro W; go_simp; done) | (intro W; go_simp; with_reducible rfl)
          go_simp
          refine wpAny_take (i := 7) (v := ?vz2_7) rfl (by kernel_rfl) (by kernel_rfl) (by kernel_rfl) (fun _ _ _ h => h) (Or.inl ⟨by rfl, ?yz2_7⟩) ?rz2_7
          case yz2_7 => first | (intro W; go_simp; done) | (intro W; go_simp; with_reducible rfl)
          go_simp
          refine wpAny_take (i := 8) (v := ?vz2_8) rfl (by kernel_rfl) (by kernel_rfl) (by kernel_rfl) (fun _ _ _ h => h) (Or.inl ⟨by rfl, ?yz2_8⟩) ?rz2_8
          case yz2_8 => first | (intro W; go_simp; done) | (intro W; go_simp; with_reducible rfl)
          go_simp
          refine wpAny_ready (rs := [0]) (by kernel_rfl) (by simp) ?_
          refine AllReady.cons rfl (fun K hK => ?_) AllReady.nil
          go_simp
          go_wp2_with (first | fail)
          have hW3 := HBW.out.size
          have hLa := Lib.hid (((HL.out.below HBW.out).below (below1 w3 (.cells #[] 34))).below ((Below.refl _ _).drew))
          refine wpAny_ready (rs := [4]) (by kernel_rfl) (by simp) ?_
          refine AllReady.cons rfl (fun K' hK' => ?_) AllReady.nil
          refine oper_append_ranges (w := (w3.alloc (.cells #[] 34)).drew) (wanted_none rfl _) (.tmp 78) (.tmp 81) rfl (B := w3.heap.size) (M := []) (n := 0) rfl (World.ownsRow_made w3 #[] 0 (Nat.le_refl _) (Nat.zero_le _) (by simp)) (by simp) rfl (has_top hLa.out (k := K) (by omega)) (by omega) ?_
          intro v4 w4 ho4 hg4
          refine hK' _ _ ?_
          clear hK' K'
          have hb4 := Lib.hid (((below1 w3 (.cells #[] 34)).drew).grown hg4 (by simp) (fun k hk => by cases hk; exact Nat.le_refl _))
          rw [Nat.zero_add, List.nil_append] at ho4
          obtain ⟨ao4, c4, rfl⟩ := own_slice ho4
          have HO4 := Lib.hid ho4
          clear ho4 hg4
          go_simp
          have HW4 := Lib.hid (Nat.le_trans hW3 hb4.out.size)
          have HXw := Lib.hid ((HX.out.below HBW.out).below hb4.out)
          refine wpAny_ready (rs := [9]) (by kernel_rfl) (by simp) ?_
          refine AllReady.cons rfl (fun K' hK' => ?_) AllReady.nil
          refine oper_append_ranges (wanted_none rfl _) (.tmp 82) (.tmp 86) rfl (B := w3.heap.size) (M := l.take K) (n := K) rfl HO4.out hb4.out.size rfl HXw.out (by omega) ?_
          intro v5 w5 ho5 hg5
          refine hK' _ _ ?_
          clear hK' K'
          have hb5 := Lib.hid ((hb4.out).trans (own_below_grown HO4.out hb4.out.size hg5))
          try rw [Nat.add_zero] at ho5
          obtain ⟨ao5, c5, rfl⟩ := own_slice ho5
          have HO5 := Lib.hid (own_ranges (show w5.ownsRow w3.heap.size 34 4 _ (l.take K ++ l.drop (K + 1)).length (cellsR (l.take K ++ l.drop (K + 1))) by rw [HLS.out]; exact ho5))
          have HOm := Lib.hid (own_below HO.out hb5.out)
          have HBW5 := Lib.hid (HBW.out.trans (hb5.out.mono hW3))
          clear ho5 hg5
          go_simp
          refine wpAny_take (i := 10) (v := ?vy2_10) rfl (by kernel_rfl) (by kernel_rfl) (by kernel_rfl) (fun _ _ _ h => h) (Or.inl ⟨by rfl, ?yy2_10⟩) ?ry2_10
          case yy2_10 => first | (intro W; go_simp; done) | (intro W; go_simp; with_reducible rfl)
          go_simp
          refine wpAny_done (by kernel_rfl) ?_ _
          have HCL := Lib.hid (check_any HO5.out HWL.out)
          have ht1 : (checkV (l.take K ++ l.drop (K + 1)) != 0) = true := bne_iff_ne.2 HNL1.out
          have ht2 : (checkV (M ++ [⟨ri, re, rl, rh⟩]) != 0) = true := bne_iff_ne.2 HNL2.out
          generalize checkV (l.take K ++ l.drop (K + 1)) = d1 at *
          generalize hd2 : checkV (M ++ [⟨ri, re, rl, rh⟩]) = d2 at *
          have HD2 := Lib.hid hd2
          clear hd2
          go_wp2_with (first
            | (go_at_call 12; ((with_reducible refine (first_any _).mono ?_); rintro e w' ⟨rfl, rfl⟩))
            | (go_at_call 31; have t0 := HC7; ((with_reducible refine HC7.out.mono ?_); rw [HD2.out]; rintro e w8 ⟨rfl, hb⟩; have HBW5 := Lib.hid (HBW5.out.trans (hb.mono HBW5.out.size)); clear hb))
            | (go_at_call 31; ((with_reducible refine HCL.out.mono ?_); rintro e w6 ⟨rfl, hb⟩; have HOm := Lib.hid (own_below HOm.out hb); have hs6 := hb.size; have hs5 := hb5.out.size; have HBW5 := Lib.hid (HBW5.out.trans (hb.mono HBW5.out.size)); have q0 := (HBW5.out.cell (p := ⟨lb, lo + K * 4, none⟩) hlb.out).trans e0.out; have q1 := (HBW5.out.cell (p := ⟨lb, lo + K * 4 + 1, none⟩) hlb.out).trans e2.out; have q2 := (HBW5.out.cell (p := ⟨lb, lo + K * 4 + 2, none⟩) hlb.out).trans e3.out; have q3 := (HBW5.out.cell (p := ⟨lb, lo + K * 4 + 3, none⟩) hlb.out).trans e4.out; have hz6 := HBW5.out.size; clear hb))
            | (at_builtin; refine wpList_append_ranges (by rfl) (.tmp 95) (.tmp 100) rfl (B := w1.heap.size) (M := M) (n := n) rfl (HOm.out.alloc _) (by have := HB7.out; simp; omega) rfl (has_lit w6 ⟨ri, re, rl, rh⟩) (by omega) ?_; intro v7 w7 ho7 hg7; have hb7 := own_below_grown (HOm.out.alloc (robj ⟨ri, re, rl, rh⟩)) (by have := HB7.out; simp; omega) hg7; have HBW5 := Lib.hid ((HBW5.out.trans ((below1 w6 (robj ⟨ri, re, rl, rh⟩)).mono hz6)).trans (hb7.mono HB1.out.size)); obtain ⟨ao7, c7, rfl⟩ := own_slice ho7; have ho8 := own_ranges (w := w7) (base := w1.heap.size) (v := .slice ao7 (n + 1) c7) (l := M ++ [⟨ri, re, rl, rh⟩]) (by rw [List.length_append, HMn.out]; exact ho7); have HC7 := Lib.hid (check_any ho8 HWM2.out); clear ho7 hg7 ho8 hb7))
          go_ret
          exact ⟨rfl, HBW5.out⟩
        · have HX := Lib.hid (has_rest HL.out (k := K + 1) (by omega))
          have HLS : Hid ((l.take K ++ l.drop (K + 1)).length = K + (n - (K + 1))) := by rw [List.length_append, List.length_take, List.length_drop, HN.out]; exact (show min K n + (n - (K + 1)) = K + (n - (K + 1)) by omega)
          go_wp2_with (first
            | (go_at_call 31; ((with_reducible refine HCMa.out.mono ?_); rintro e w3 ⟨rfl, hb⟩; have HO := Lib.hid (own_below HO.out hb); have HB7 := Lib.hid (Nat.le_trans HB7.out hb.size); have HBW := Lib.hid (HBW.out.trans (hb.mono HBW.out.size)); clear hb)))
          refine wp_region_any (by kernel_rfl) ?_
          change wpAny _ _ _ _ _ _ _ (World.drew _)
          refine wpAny_take (i := 1) (v := ?vz3_1) rfl (by kernel_rfl) (by kernel_rfl) (by kernel_rfl) (fun _ _ _ h => h) (Or.inl ⟨by rfl, ?yz3_1⟩) ?rz3_1
          case yz3_1 => first | (intro W; go_simp; done) | (intro W; go_simp; with_reducible rfl)
          go_simp
          refine wpAny_take (i := 2) (v := ?vz3_2) rfl (by kernel_rfl) (by kernel_rfl) (by kernel_rfl) (fun _ _ _ h => h) (Or.inl ⟨by rfl, ?yz3_2⟩) ?rz3_2
          case yz3_2 => first | (intro W; go_simp; done) | (intro W; go_simp; with_reducible rfl)
          go_simp
          refine wpAny_take (i := 3) (v := ?vz3_3) rfl (by kernel_rfl) (by kernel_rfl) (by kernel_rfl) (fun _ _ _ h => h) (Or.inl ⟨by rfl, ?yz3_3⟩) ?rz3_3
          case yz3_3 => first | (intro W; go_simp; done) | (intro W; go_simp; with_reducible rfl)
          go_simp
          refine wpAny_take (i := 5) (v := ?vz3_5) rfl (by kernel_rfl) (by kernel_rfl) (by kernel_rfl) (fun _ _ _ h => h) (Or.inl ⟨by rfl, ?yz3_5⟩) ?rz3_5
          case yz3_5 => first | (intro W; go_simp; done) | (intro W; go_simp; with_reducible rfl)
          go_simp
          refine wpAny_take (i := 6) (v := ?vz3_6) rfl (by kernel_rfl) (by kernel_rfl) (by kernel_rfl) (fun _ _ _ h => h) (Or.inl ⟨by rfl, ?yz3_6⟩) ?rz3_6
          case yz3_6 => first | (intro W; go_simp; done) | (intro W; go_simp; with_reducible rfl)
          go_simp
          refine wpAny_take (i := 7) (v := ?vz3_7) rfl (by kernel_rfl) (by kernel_rfl) (by kernel_rfl) (fun _ _ _ h => h) (Or.inl ⟨by rfl, ?yz3_7⟩) ?rz3_7
          case yz3_7 => first | (intro W; go_simp; done) | (intro W; go_simp; with_reducible rfl)
          go_simp
          refine wpAny_take (i := 8) (v := ?vz3_8) rfl (by kernel_rfl) (by kernel_rfl) (by kernel_rfl) (fun _ _ _ h => h) (Or.inl ⟨by rfl, ?yz3_8⟩) ?rz3_8
          case yz3_8 => first | (intro W; go_simp; done) | (intro W; go_simp; with_reducible rfl)
          go_simp
          refine wpAny_ready (rs := [0]) (by kernel_rfl) (by simp) ?_
          refine AllReady.cons rfl (fun K hK => ?_) AllReady.nil
          go_simp
          go_wp2_with (first | fail)
          have hW3 := HBW.out.size
          have hLa := Lib.hid (((HL.out.below HBW.out).below (below1 w3 (.cells #[] 34))).below ((Below.refl _ _).drew))
          refine wpAny_ready (rs := [4]) (by kernel_rfl) (by simp) ?_
          refine AllReady.cons rfl (fun K' hK' => ?_) AllReady.nil
          refine oper_append_ranges (w := (w3.alloc (.cells #[] 34)).drew) (wanted_none rfl _) (.tmp 78) (.tmp 81) rfl (B := w3.heap.size) (M := []) (n := 0) rfl (World.ownsRow_made w3 #[] 0 (Nat.le_refl _) (Nat.zero_le _) (by simp)) (by simp) rfl (has_top hLa.out (k := K) (by omega)) (by omega) ?_
          intro v4 w4 ho4 hg4
          refine hK' _ _ ?_
          clear hK' K'
          have hb4 := Lib.hid (((below1 w3 (.cells #[] 34)).drew).grown hg4 (by simp) (fun k hk => by cases hk; exact Nat.le_refl _))
          rw [Nat.zero_add, List.nil_append] at ho4
          obtain ⟨ao4, c4, rfl⟩ := own_slice ho4
          have HO4 := Lib.hid ho4
          clear ho4 hg4
          go_simp
          have HW4 := Lib.hid (Nat.le_trans hW3 hb4.out.size)
          have HXw := Lib.hid ((HX.out.below HBW.out).below hb4.out)
          refine wpAny_ready (rs := [9]) (by kernel_rfl) (by simp) ?_
          refine AllReady.cons rfl (fun K' hK' => ?_) AllReady.nil
          refine oper_append_ranges (wanted_none rfl _) (.tmp 82) (.tmp 86) rfl (B := w3.heap.size) (M := l.take K) (n := K) rfl HO4.out hb4.out.size rfl HXw.out (by omega) ?_
          intro v5 w5 ho5 hg5
          refine hK' _ _ ?_
          clear hK' K'
          have hb5 := Lib.hid ((hb4.out).trans (own_below_grown HO4.out hb4.out.size hg5))
          try rw [Nat.add_zero] at ho5
          obtain ⟨ao5, c5, rfl⟩ := own_slice ho5
          have HO5 := Lib.hid (own_ranges (show w5.ownsRow w3.heap.size 34 4 _ (l.take K ++ l.drop (K + 1)).length (cellsR (l.take K ++ l.drop (K + 1))) by rw [HLS.out]; exact ho5))
          have HOm := Lib.hid (own_below HO.out hb5.out)
          have HBW5 := Lib.hid (HBW.out.trans (hb5.out.mono hW3))
          clear ho5 hg5
          go_simp
          refine wpAny_take (i := 10) (v := ?vy3_10) rfl (by kernel_rfl) (by kernel_rfl) (by kernel_rfl) (fun _ _ _ h => h) (Or.inl ⟨by rfl, ?yy3_10⟩) ?ry3_10
          case yy3_10 => first | (intro W; go_simp; done) | (intro W; go_simp; with_reducible rfl)
          go_simp
          refine wpAny_done (by kernel_rfl) ?_ _
          have HCL := Lib.hid (check_any HO5.out HWL.out)
          have ht1 : (checkV (l.take K ++ l.drop (K + 1)) != 0) = true := bne_iff_ne.2 HNL1.out
          have ht2 : (checkV (M ++ [⟨ri, re, rl, rh⟩]) != 0) = true := bne_iff_ne.2 HNL2.out
          generalize checkV (l.take K ++ l.drop (K + 1)) = d1 at *
          generalize hd2 : checkV (M ++ [⟨ri, re, rl, rh⟩]) = d2 at *
          have HD2 := Lib.hid hd2
          clear hd2
          go_wp2_with (first
            | (go_at_call 12; ((with_reducible refine (first_any _).mono ?_); rintro e w' ⟨rfl, rfl⟩))
            | (go_at_call 31; have t0 := HC7; ((with_reducible refine HC7.out.mono ?_); rw [HD2.out]; rintro e w8 ⟨rfl, hb⟩; have HBW5 := Lib.hid (HBW5.out.trans (hb.mono HBW5.out.size)); clear hb))
            | (go_at_call 31; ((with_reducible refine HCL.out.mono ?_); rintro e w6 ⟨rfl, hb⟩; have HOm := Lib.hid (own_below HOm.out hb); have hs6 := hb.size; have hs5 := hb5.out.size; have HBW5 := Lib.hid (HBW5.out.trans (hb.mono HBW5.out.size)); have q0 := (HBW5.out.cell (p := ⟨lb, lo + K * 4, none⟩) hlb.out).trans e0.out; have q1 := (HBW5.out.cell (p := ⟨lb, lo + K * 4 + 1, none⟩) hlb.out).trans e2.out; have q2 := (HBW5.out.cell (p := ⟨lb, lo + K * 4 + 2, none⟩) hlb.out).trans e3.out; have q3 := (HBW5.out.cell (p := ⟨lb, lo + K * 4 + 3, none⟩) hlb.out).trans e4.out; have hz6 := HBW5.out.size; clear hb))
            | (at_builtin; refine wpList_append_ranges (by rfl) (.tmp 95) (.tmp 100) rfl (B := w1.heap.size) (M := M) (n := n) rfl (HOm.out.alloc _) (by have := HB7.out; simp; omega) rfl (has_lit w6 ⟨ri, re, rl, rh⟩) (by omega) ?_; intro v7 w7 ho7 hg7; have hb7 := own_below_grown (HOm.out.alloc (robj ⟨ri, re, rl, rh⟩)) (by have := HB7.out; simp; omega) hg7; have HBW5 := Lib.hid ((HBW5.out.trans ((below1 w6 (robj ⟨ri, re, rl, rh⟩)).mono hz6)).trans (hb7.mono HB1.out.size)); obtain ⟨ao7, c7, rfl⟩ := own_slice ho7; have ho8 := own_ranges (w := w7) (base := w1.heap.size) (v := .slice ao7 (n + 1) c7) (l := M ++ [⟨ri, re, rl, rh⟩]) (by rw [List.length_append, HMn.out]; exact ho7); have HC7 := Lib.hid (check_any ho8 HWM2.out); clear ho7 hg7 ho8 hb7))
          go_ret
          exact ⟨rfl, HBW5.out⟩
        · have HX := Lib.hid (show HasR (fun k => k < w.heap.size) w (.slice (some ⟨lb, lo, none⟩) 0 0) (l.drop (K + 1)) by rw [List.drop_of_length_le (by rw [HN.out]; exact hcn)]; exact ⟨_, 0, rfl, Nat.le_refl _, by decide, (fun e => by cases e), .inl rfl⟩)
          have HLS : Hid ((l.take K ++ l.drop (K + 1)).length = K) := by rw [List.length_append, List.length_take, List.length_drop, HN.out]; exact (show min K n + (n - (K + 1)) = K by omega)
          go_wp2_with (first
            | (go_at_call 31; ((with_reducible refine HCMa.out.mono ?_); rintro e w3 ⟨rfl, hb⟩; have HO := Lib.hid (own_below HO.out hb); have HB7 := Lib.hid (Nat.le_trans HB7.out hb.size); have HBW := Lib.hid (HBW.out.trans (hb.mono HBW.out.size)); clear hb)))
          refine wp_region_any (by kernel_rfl) ?_
          change wpAny _ _ _ _ _ _ _ (World.drew _)
          refine wpAny_take (i := 1) (v := ?vz4_1) rfl (by kernel_rfl) (by kernel_rfl) (by kernel_rfl) (fun _ _ _ h => h) (Or.inl ⟨by rfl, ?yz4_1⟩) ?rz4_1
          case yz4_1 => first | (intro W; go_simp; done) | (intro W; go_simp; with_reducible rfl)
          go_simp
          refine wpAny_take (i := 2) (v := ?vz4_2) rfl (by kernel_rfl) (by kernel_rfl) (by kernel_rfl) (fun _ _ _ h => h) (Or.inl ⟨by rfl, ?yz4_2⟩) ?rz4_2
          case yz4_2 => first | (intro W; go_simp; done) | (intro W; go_simp; with_reducible rfl)
          go_simp
          refine wpAny_take (i := 3) (v := ?vz4_3) rfl (by kernel_rfl) (by kernel_rfl) (by kernel_rfl) (fun _ _ _ h => h) (Or.inl ⟨by rfl, ?yz4_3⟩) ?rz4_3
          case yz4_3 => first | (intro W; go_simp; done) | (intro W; go_simp; with_reducible rfl)
          go_simp
          refine wpAny_take (i := 5) (v := ?vz4_5) rfl (by kernel_rfl) (by kernel_rfl) (by kernel_rfl) (fun _ _ _ h => h) (Or.inl ⟨by rfl, ?yz4_5⟩) ?rz4_5
          case yz4_5 => first | (intro W; go_simp; done) | (intro W; go_simp; with_reducible rfl)
          go_simp
          refine wpAny_take (i := 6) (v := ?vz4_6) rfl (by kernel_rfl) (by kernel_rfl) (by kernel_rfl) (fun _ _ _ h => h) (Or.inl ⟨by rfl, ?yz4_6⟩) ?rz4_6
          case yz4_6 => first | (intro W; go_simp; done) | (intro W; go_simp; with_reducible rfl)
          go_simp
          refine wpAny_take (i := 7) (v := ?vz4_7) rfl (by kernel_rfl) (by kernel_rfl) (by kernel_rfl) (fun _ _ _ h => h) (Or.inl ⟨by rfl, ?yz4_7⟩) ?rz4_7
          case yz4_7 => first | (intro W; go_simp; done) | (intro W; go_simp; with_reducible rfl)
          go_simp
          refine wpAny_take (i := 8) (v := ?vz4_8) rfl (by kernel_rfl) (by kernel_rfl) (by kernel_rfl) (fun _ _ _ h => h) (Or.inl ⟨by rfl, ?yz4_8⟩) ?rz4_8
          case yz4_8 => first | (intro W; go_simp; done) | (intro W; go_simp; with_reducible rfl)
          go_simp
          refine wpAny_ready (rs := [0]) (by kernel_rfl) (by simp) ?_
          refine AllReady.cons rfl (fun K hK => ?_) AllReady.nil
          go_simp
          go_wp2_with (first | fail)
          have hW3 := HBW.out.size
          have hLa := Lib.hid (((HL.out.below HBW.out).below (below1 w3 (.cells #[] 34))).below ((Below.refl _ _).drew))
          refine wpAny_ready (rs := [4]) (by kernel_rfl) (by simp) ?_
          refine AllReady.cons rfl (fun K' hK' => ?_) AllReady.nil
          refine oper_append_ranges (w := (w3.alloc (.cells #[] 34)).drew) (wanted_none rfl _) (.tmp 78) (.tmp 81) rfl (B := w3.heap.size) (M := []) (n := 0) rfl (World.ownsRow_made w3 #[] 0 (Nat.le_refl _) (Nat.zero_le _) (by simp)) (by simp) rfl (has_top hLa.out (k := K) (by omega)) (by omega) ?_
          intro v4 w4 ho4 hg4
          refine hK' _ _ ?_
          clear hK' K'
          have hb4 := Lib.hid (((below1 w3 (.cells #[] 34)).drew).grown hg4 (by simp) (fun k hk => by cases hk; exact Nat.le_refl _))
          rw [Nat.zero_add, List.nil_append] at ho4
          obtain ⟨ao4, c4, rfl⟩ := own_slice ho4
          have HO4 := Lib.hid ho4
          clear ho4 hg4
          go_simp
          have HW4 := Lib.hid (Nat.le_trans hW3 hb4.out.size)
          have HXw := Lib.hid ((HX.out.below HBW.out).below hb4.out)
          refine wpAny_ready (rs := [9]) (by kernel_rfl) (by simp) ?_
          refine AllReady.cons rfl (fun K' hK' => ?_) AllReady.nil
          refine oper_append_ranges (wanted_none rfl _) (.tmp 82) (.tmp 86) rfl (B := w3.heap.size) (M := l.take K) (n := K) rfl HO4.out hb4.out.size rfl HXw.out (by omega) ?_
          intro v5 w5 ho5 hg5
          refine hK' _ _ ?_
          clear hK' K'
          have hb5 := Lib.hid ((hb4.out).trans (own_below_grown HO4.out hb4.out.size hg5))
          try rw [Nat.add_zero] at ho5
          obtain ⟨ao5, c5, rfl⟩ := own_slice ho5
          have HO5 := Lib.hid (own_ranges (show w5.ownsRow w3.heap.size 34 4 _ (l.take K ++ l.drop (K + 1)).length (cellsR (l.take K ++ l.drop (K + 1))) by rw [HLS.out]; exact ho5))
          have HOm := Lib.hid (own_below HO.out hb5.out)
          have HBW5 := Lib.hid (HBW.out.trans (hb5.out.mono hW3))
          clear ho5 hg5
          go_simp
          refine wpAny_take (i := 10) (v := ?vy4_10) rfl (by kernel_rfl) (by kernel_rfl) (by kernel_rfl) (fun _ _ _ h => h) (Or.inl ⟨by rfl, ?yy4_10⟩) ?ry4_10
          case yy4_10 => first | (intro W; go_simp; done) | (intro W; go_simp; with_reducible rfl)
          go_simp
          refine wpAny_done (by kernel_rfl) ?_ _
          have HCL := Lib.hid (check_any HO5.out HWL.out)
          have ht1 : (checkV (l.take K ++ l.drop (K + 1)) != 0) = true := bne_iff_ne.2 HNL1.out
          have ht2 : (checkV (M ++ [⟨ri, re, rl, rh⟩]) != 0) = true := bne_iff_ne.2 HNL2.out
          generalize checkV (l.take K ++ l.drop (K + 1)) = d1 at *
          generalize hd2 : checkV (M ++ [⟨ri, re, rl, rh⟩]) = d2 at *
          have HD2 := Lib.hid hd2
          clear hd2
          go_wp2_with (first
            | (go_at_call 12; ((with_reducible refine (first_any _).mono ?_); rintro e w' ⟨rfl, rfl⟩))
            | (go_at_call 31; have t0 := HC7; ((with_reducible refine HC7.out.mono ?_); rw [HD2.out]; rintro e w8 ⟨rfl, hb⟩; have HBW5 := Lib.hid (HBW5.out.trans (hb.mono HBW5.out.size)); clear hb))
            | (go_at_call 31; ((with_reducible refine HCL.out.mono ?_); rintro e w6 ⟨rfl, hb⟩; have HOm := Lib.hid (own_below HOm.out hb); have hs6 := hb.size; have hs5 := hb5.out.size; have HBW5 := Lib.hid (HBW5.out.trans (hb.mono HBW5.out.size)); have q0 := (HBW5.out.cell (p := ⟨lb, lo + K * 4, none⟩) hlb.out).trans e0.out; have q1 := (HBW5.out.cell (p := ⟨lb, lo + K * 4 + 1, none⟩) hlb.out).trans e2.out; have q2 := (HBW5.out.cell (p := ⟨lb, lo + K * 4 + 2, none⟩) hlb.out).trans e3.out; have q3 := (HBW5.out.cell (p := ⟨lb, lo + K * 4 + 3, none⟩) hlb.out).trans e4.out; have hz6 := HBW5.out.size; clear hb))
            | (at_builtin; refine wpList_append_ranges (by rfl) (.tmp 95) (.tmp 100) rfl (B := w1.heap.size) (M := M) (n := n) rfl (HOm.out.alloc _) (by have := HB7.out; simp; omega) rfl (has_lit w6 ⟨ri, re, rl, rh⟩) (by omega) ?_; intro v7 w7 ho7 hg7; have hb7 := own_below_grown (HOm.out.alloc (robj ⟨ri, re, rl, rh⟩)) (by have := HB7.out; simp; omega) hg7; have HBW5 := Lib.hid ((HBW5.out.trans ((below1 w6 (robj ⟨ri, re, rl, rh⟩)).mono hz6)).trans (hb7.mono HB1.out.size)); obtain ⟨ao7, c7, rfl⟩ := own_slice ho7; have ho8 := own_ranges (w := w7) (base := w1.heap.size) (v := .slice ao7 (n + 1) c7) (l := M ++ [⟨ri, re, rl, rh⟩]) (by rw [List.length_append, HMn.out]; exact ho7); have HC7 := Lib.hid (check_any ho8 HWM2.out); clear ho7 hg7 ho8 hb7))
          go_ret
          exact ⟨rfl, HBW5.out⟩
        · have HX := Lib.hid (has_rest HL.out (k := K + 1) (by omega))
          have HLS : Hid ((l.take K ++ l.drop (K + 1)).length = K + (n - (K + 1))) := by rw [List.length_append, List.length_take, List.length_drop, HN.out]; exact (show min K n + (n - (K + 1)) = K + (n - (K + 1)) by omega)
          go_wp2_with (first
            | (go_at_call 31; ((with_reducible refine HCMa.out.mono ?_); rintro e w3 ⟨rfl, hb⟩; have HO := Lib.hid (own_below HO.out hb); have HB7 := Lib.hid (Nat.le_trans HB7.out hb.size); have HBW := Lib.hid (HBW.out.trans (hb.mono HBW.out.size)); clear hb)))
          refine wp_region_any (by kernel_rfl) ?_
          change wpAny _ _ _ _ _ _ _ (World.drew _)
          refine wpAny_take (i := 1) (v := ?vz5_1) rfl (by kernel_rfl) (by kernel_rfl) (by kernel_rfl) (fun _ _ _ h => h) (Or.inl ⟨by rfl, ?yz5_1⟩) ?rz5_1
          case yz5_1 => first | (intro W; go_simp; done) | (intro W; go_simp; with_reducible rfl)
          go_simp
          refine wpAny_take (i := 2) (v := ?vz5_2) rfl (by kernel_rfl) (by kernel_rfl) (by kernel_rfl) (fun _ _ _ h => h) (Or.inl ⟨by rfl, ?yz5_2⟩) ?rz5_2
          case yz5_2 => first | (intro W; go_simp; done) | (intro W; go_simp; with_reducible rfl)
          go_simp
          refine wpAny_take (i := 3) (v := ?vz5_3) rfl (by kernel_rfl) (by kernel_rfl) (by kernel_rfl) (fun _ _ _ h => h) (Or.inl ⟨by rfl, ?yz5_3⟩) ?rz5_3
          case yz5_3 => first | (intro W; go_simp; done) | (intro W; go_simp; with_reducible rfl)
          go_simp
          refine wpAny_take (i := 5) (v := ?vz5_5) rfl (by kernel_rfl) (by kernel_rfl) (by kernel_rfl) (fun _ _ _ h => h) (Or.inl ⟨by rfl, ?yz5_5⟩) ?rz5_5
          case yz5_5 => first | (intro W; go_simp; done) | (intro W; go_simp; with_reducible rfl)
          go_simp
          refine wpAny_take (i := 6) (v := ?vz5_6) rfl (by kernel_rfl) (by kernel_rfl) (by kernel_rfl) (fun _ _ _ h => h) (Or.inl ⟨by rfl, ?yz5_6⟩) ?rz5_6
          case yz5_6 => first | (intro W; go_simp; done) | (intro W; go_simp; with_reducible rfl)
          go_simp
          refine wpAny_take (i := 7) (v := ?vz5_7) rfl (by kernel_rfl) (by kernel_rfl) (by kernel_rfl) (fun _ _ _ h => h) (Or.inl ⟨by rfl, ?yz5_7⟩) ?rz5_7
          case yz5_7 => first | (intro W; go_simp; done) | (intro W; go_simp; with_reducible rfl)
          go_simp
          refine wpAny_take (i := 8) (v := ?vz5_8) rfl (by kernel_rfl) (by kernel_rfl) (by kernel_rfl) (fun _ _ _ h => h) (Or.inl ⟨by rfl, ?yz5_8⟩) ?rz5_8
          case yz5_8 => first | (intro W; go_simp; done) | (intro W; go_simp; with_reducible rfl)
          go_simp
          refine wpAny_ready (rs := [0]) (by kernel_rfl) (by simp) ?_
          refine AllReady.cons rfl (fun K hK => ?_) AllReady.nil
          go_simp
          go_wp2_with (first | fail)
          have hW3 := HBW.out.size
          have hLa := Lib.hid (((HL.out.below HBW.out).below (below1 w3 (.cells #[] 34))).below ((Below.refl _ _).drew))
          refine wpAny_ready (rs := [4]) (by kernel_rfl) (by simp) ?_
          refine AllReady.cons rfl (fun K' hK' => ?_) AllReady.nil
          refine oper_append_ranges (w := (w3.alloc (.cells #[] 34)).drew) (wanted_none rfl _) (.tmp 78) (.tmp 81) rfl (B := w3.heap.size) (M := []) (n := 0) rfl (World.ownsRow_made w3 #[] 0 (Nat.le_refl _) (Nat.zero_le _) (by simp)) (by simp) rfl (has_top hLa.out (k := K) (by omega)) (by omega) ?_
          intro v4 w4 ho4 hg4
          refine hK' _ _ ?_
          clear hK' K'
          have hb4 := Lib.hid (((below1 w3 (.cells #[] 34)).drew).grown hg4 (by simp) (fun k hk => by cases hk; exact Nat.le_refl _))
          rw [Nat.zero_add, List.nil_append] at ho4
          obtain ⟨ao4, c4, rfl⟩ := own_slice ho4
          have HO4 := Lib.hid ho4
          clear ho4 hg4
          go_simp
          have HW4 := Lib.hid (Nat.le_trans hW3 hb4.out.size)
          have HXw := Lib.hid ((HX.out.below HBW.out).below hb4.out)
          refine wpAny_ready (rs := [9]) (by kernel_rfl) (by simp) ?_
          refine AllReady.cons rfl (fun K' hK' => ?_) AllReady.nil
          refine oper_append_ranges (wanted_none rfl _) (.tmp 82) (.tmp 86) rfl (B := w3.heap.size) (M := l.take K) (n := K) rfl HO4.out hb4.out.size rfl HXw.out (by omega) ?_
          intro v5 w5 ho5 hg5
          refine hK' _ _ ?_
          clear hK' K'
          have hb5 := Lib.hid ((hb4.out).trans (own_below_grown HO4.out hb4.out.size hg5))
          try rw [Nat.add_zero] at ho5
          obtain ⟨ao5, c5, rfl⟩ := own_slice ho5
          have HO5 := Lib.hid (own_ranges (show w5.ownsRow w3.heap.size 34 4 _ (l.take K ++ l.drop (K + 1)).length (cellsR (l.take K ++ l.drop (K + 1))) by rw [HLS.out]; exact ho5))
          have HOm := Lib.hid (own_below HO.out hb5.out)
          have HBW5 := Lib.hid (HBW.out.trans (hb5.out.mono hW3))
          clear ho5 hg5
          go_simp
          refine wpAny_take (i := 10) (v := ?vy5_10) rfl (by kernel_rfl) (by kernel_rfl) (by kernel_rfl) (fun _ _ _ h => h) (Or.inl ⟨by rfl, ?yy5_10⟩) ?ry5_10
          case yy5_10 => first | (intro W; go_simp; done) | (intro W; go_simp; with_reducible rfl)
          go_simp
          refine wpAny_done (by kernel_rfl) ?_ _
          have HCL := Lib.hid (check_any HO5.out HWL.out)
          have ht1 : (checkV (l.take K ++ l.drop (K + 1)) != 0) = true := bne_iff_ne.2 HNL1.out
          have ht2 : (checkV (M ++ [⟨ri, re, rl, rh⟩]) != 0) = true := bne_iff_ne.2 HNL2.out
          generalize checkV (l.take K ++ l.drop (K + 1)) = d1 at *
          generalize hd2 : checkV (M ++ [⟨ri, re, rl, rh⟩]) = d2 at *
          have HD2 := Lib.hid hd2
          clear hd2
          go_wp2_with (first
            | (go_at_call 12; ((with_reducible refine (first_any _).mono ?_); rintro e w' ⟨rfl, rfl⟩))
            | (go_at_call 31; have t0 := HC7; ((with_reducible refine HC7.out.mono ?_); rw [HD2.out]; rintro e w8 ⟨rfl, hb⟩; have HBW5 := Lib.hid (HBW5.out.trans (hb.mono HBW5.out.size)); clear hb))
            | (go_at_call 31; ((with_reducible refine HCL.out.mono ?_); rintro e w6 ⟨rfl, hb⟩; have HOm := Lib.hid (own_below HOm.out hb); have hs6 := hb.size; have hs5 := hb5.out.size; have HBW5 := Lib.hid (HBW5.out.trans (hb.mono HBW5.out.size)); have q0 := (HBW5.out.cell (p := ⟨lb, lo + K * 4, none⟩) hlb.out).trans e0.out; have q1 := (HBW5.out.cell (p := ⟨lb, lo + K * 4 + 1, none⟩) hlb.out).trans e2.out; have q2 := (HBW5.out.cell (p := ⟨lb, lo + K * 4 + 2, none⟩) hlb.out).trans e3.out; have q3 := (HBW5.out.cell (p := ⟨lb, lo + K * 4 + 3, none⟩) hlb.out).trans e4.out; have hz6 := HBW5.out.size; clear hb))
            | (at_builtin; refine wpList_append_ranges (by rfl) (.tmp 95) (.tmp 100) rfl (B := w1.heap.size) (M := M) (n := n) rfl (HOm.out.alloc _) (by have := HB7.out; simp; omega) rfl (has_lit w6 ⟨ri, re, rl, rh⟩) (by omega) ?_; intro v7 w7 ho7 hg7; have hb7 := own_below_grown (HOm.out.alloc (robj ⟨ri, re, rl, rh⟩)) (by have := HB7.out; simp; omega) hg7; have HBW5 := Lib.hid ((HBW5.out.trans ((below1 w6 (robj ⟨ri, re, rl, rh⟩)).mono hz6)).trans (hb7.mono HB1.out.size)); obtain ⟨ao7, c7, rfl⟩ := own_slice ho7; have ho8 := own_ranges (w := w7) (base := w1.heap.size) (v := .slice ao7 (n + 1) c7) (l := M ++ [⟨ri, re, rl, rh⟩]) (by rw [List.length_append, HMn.out]; exact ho7); have HC7 := Lib.hid (check_any ho8 HWM2.out); clear ho7 hg7 ho8 hb7))
          go_ret
          exact ⟨rfl, HBW5.out⟩
        · have HX := Lib.hid (show HasR (fun k => k < w.heap.size) w (.slice (some ⟨lb, lo, none⟩) 0 0) (l.drop (K + 1)) by rw [List.drop_of_length_le (by rw [HN.out]; exact hcn)]; exact ⟨_, 0, rfl, Nat.le_refl _, by decide, (fun e => by cases e), .inl rfl⟩)
          have HLS : Hid ((l.take K ++ l.drop (K + 1)).length = K) := by rw [List.length_append, List.length_take, List.length_drop, HN.out]; exact (show min K n + (n - (K + 1)) = K by omega)
          go_wp2_with (first
            | (go_at_call 31; ((with_reducible refine HCMa.out.mono ?_); rintro e w3 ⟨rfl, hb⟩; have HO := Lib.hid (own_below HO.out hb); have HB7 := Lib.hid (Nat.le_trans HB7.out hb.size); have HBW := Lib.hid (HBW.out.trans (hb.mono HBW.out.size)); clear hb)))
          refine wp_region_any (by kernel_rfl) ?_
          change wpAny _ _ _ _ _ _ _ (World.drew _)
          refine wpAny_take (i := 1) (v := ?vz6_1) rfl (by kernel_rfl) (by kernel_rfl) (by kernel_rfl) (fun _ _ _ h => h) (Or.inl ⟨by rfl, ?yz6_1⟩) ?rz6_1
          case yz6_1 => first | (intro W; go_simp; done) | (intro W; go_simp; with_reducible rfl)
          go_simp
          refine wpAny_take (i := 2) (v := ?vz6_2) rfl (by kernel_rfl) (by kernel_rfl) (by kernel_rfl) (fun _ _ _ h => h) (Or.inl ⟨by rfl, ?yz6_2⟩) ?rz6_2
          case yz6_2 => first | (intro W; go_simp; done) | (intro W; go_simp; with_reducible rfl)
          go_simp
          refine wpAny_take (i := 3) (v := ?vz6_3) rfl (by kernel_rfl) (by kernel_rfl) (by kernel_rfl) (fun _ _ _ h => h) (Or.inl ⟨by rfl, ?yz6_3⟩) ?rz6_3
          case yz6_3 => first | (intro W; go_simp; done) | (intro W; go_simp; with_reducible rfl)
          go_simp
          refine wpAny_take (i := 5) (v := ?vz6_5) rfl (by kernel_rfl) (by kernel_rfl) (by kernel_rfl) (fun _ _ _ h => h) (Or.inl ⟨by rfl, ?yz6_5⟩) ?rz6_5
          case yz6_5 => first | (intro W; go_simp; done) | (intro W; go_simp; with_reducible rfl)
          go_simp
          refine wpAny_take (i := 6) (v := ?vz6_6) rfl (by kernel_rfl) (by kernel_rfl) (by kernel_rfl) (fun _ _ _ h => h) (Or.inl ⟨by rfl, ?yz6_6⟩) ?rz6_6
          case yz6_6 => first | (intro W; go_simp; done) | (intro W; go_simp; with_reducible rfl)
          go_simp
          refine wpAny_take (i := 7) (v := ?vz6_7) rfl (by kernel_rfl) (by kernel_rfl) (by kernel_rfl) (fun _ _ _ h => h) (Or.inl ⟨by rfl, ?yz6_7⟩) ?rz6_7
          case yz6_7 => first | (intro W; go_simp; done) | (intro W; go_simp; with_reducible rfl)
          go_simp
          refine wpAny_take (i := 8) (v := ?vz6_8) rfl (by kernel_rfl) (by kernel_rfl) (by kernel_rfl) (fun _ _ _ h => h) (Or.inl ⟨by rfl, ?yz6_8⟩) ?rz6_8
          case yz6_8 => first | (intro W; go_simp; done) | (intro W; go_simp; with_reducible rfl)
          go_simp
          refine wpAny_ready (rs := [0]) (by kernel_rfl) (by simp) ?_
          refine AllReady.cons rfl (fun K hK => ?_) AllReady.nil
          go_simp
          go_wp2_with (first | fail)
          have hW3 := HBW.out.size
          have hLa := Lib.hid (((HL.out.below HBW.out).below (below1 w3 (.cells #[] 34))).below ((Below.refl _ _).drew))
          refine wpAny_ready (rs := [4]) (by kernel_rfl) (by simp) ?_
          refine AllReady.cons rfl (fun K' hK' => ?_) AllReady.nil
          refine oper_append_ranges (w := (w3.alloc (.cells #[] 34)).drew) (wanted_none rfl _) (.tmp 78) (.tmp 81) rfl (B := w3.heap.size) (M := []) (n := 0) rfl (World.ownsRow_made w3 #[] 0 (Nat.le_refl _) (Nat.zero_le _) (by simp)) (by simp) rfl (has_top hLa.out (k := K) (by omega)) (by omega) ?_
          intro v4 w4 ho4 hg4
          refine hK' _ _ ?_
          clear hK' K'
          have hb4 := Lib.hid (((below1 w3 (.cells #[] 34)).drew).grown hg4 (by simp) (fun k hk => by cases hk; exact Nat.le_refl _))
          rw [Nat.zero_add, List.nil_append] at ho4
          obtain ⟨ao4, c4, rfl⟩ := own_slice ho4
          have HO4 := Lib.hid ho4
          clear ho4 hg4
          go_simp
          have HW4 := Lib.hid (Nat.le_trans hW3 hb4.out.size)
          have HXw := Lib.hid ((HX.out.below HBW.out).below hb4.out)
          refine wpAny_ready (rs := [9]) (by kernel_rfl) (by simp) ?_
          refine AllReady.cons rfl (fun K' hK' => ?_) AllReady.nil
          refine oper_append_ranges (wanted_none rfl _) (.tmp 82) (.tmp 86) rfl (B := w3.heap.size) (M := l.take K) (n := K) rfl HO4.out hb4.out.size rfl HXw.out (by omega) ?_
          intro v5 w5 ho5 hg5
          refine hK' _ _ ?_
          clear hK' K'
          have hb5 := Lib.hid ((hb4.out).trans (own_below_grown HO4.out hb4.out.size hg5))
          try rw [Nat.add_zero] at ho5
          obtain ⟨ao5, c5, rfl⟩ := own_slice ho5
          have HO5 := Lib.hid (own_ranges (show w5.ownsRow w3.heap.size 34 4 _ (l.take K ++ l.drop (K + 1)).length (cellsR (l.take K ++ l.drop (K + 1))) by rw [HLS.out]; exact ho5))
          have HOm := Lib.hid (own_below HO.out hb5.out)
          have HBW5 := Lib.hid (HBW.out.trans (hb5.out.mono hW3))
          clear ho5 hg5
          go_simp
          refine wpAny_take (i := 10) (v := ?vy6_10) rfl (by kernel_rfl) (by kernel_rfl) (by kernel_rfl) (fun _ _ _ h => h) (Or.inl ⟨by rfl, ?yy6_10⟩) ?ry6_10
          case yy6_10 => first | (intro W; go_simp; done) | (intro W; go_simp; with_reducible rfl)
          go_simp
          refine wpAny_done (by kernel_rfl) ?_ _
          have HCL := Lib.hid (check_any HO5.out HWL.out)
          have ht1 : (checkV (l.take K ++ l.drop (K + 1)) != 0) = true := bne_iff_ne.2 HNL1.out
          have ht2 : (checkV (M ++ [⟨ri, re, rl, rh⟩]) != 0) = true := bne_iff_ne.2 HNL2.out
          generalize checkV (l.take K ++ l.drop (K + 1)) = d1 at *
          generalize hd2 : checkV (M ++ [⟨ri, re, rl, rh⟩]) = d2 at *
          have HD2 := Lib.hid hd2
          clear hd2
          go_wp2_with (first
            | (go_at_call 12; ((with_reducible refine (first_any _).mono ?_); rintro e w' ⟨rfl, rfl⟩))
            | (go_at_call 31; have t0 := HC7; ((with_reducible refine HC7.out.mono ?_); rw [HD2.out]; rintro e w8 ⟨rfl, hb⟩; have HBW5 := Lib.hid (HBW5.out.trans (hb.mono HBW5.out.size)); clear hb))
            | (go_at_call 31; ((with_reducible refine HCL.out.mono ?_); rintro e w6 ⟨rfl, hb⟩; have HOm := Lib.hid (own_below HOm.out hb); have hs6 := hb.size; have hs5 := hb5.out.size; have HBW5 := Lib.hid (HBW5.out.trans (hb.mono HBW5.out.size)); have q0 := (HBW5.out.cell (p := ⟨lb, lo + K * 4, none⟩) hlb.out).trans e0.out; have q1 := (HBW5.out.cell (p := ⟨lb, lo + K * 4 + 1, none⟩) hlb.out).trans e2.out; have q2 := (HBW5.out.cell (p := ⟨lb, lo + K * 4 + 2, none⟩) hlb.out).trans e3.out; have q3 := (HBW5.out.cell (p := ⟨lb, lo + K * 4 + 3, none⟩) hlb.out).trans e4.out; have hz6 := HBW5.out.size; clear hb))
            | (at_builtin; refine wpList_append_ranges (by rfl) (.tmp 95) (.tmp 100) rfl (B := w1.heap.size) (M := M) (n := n) rfl (HOm.out.alloc _) (by have := HB7.out; simp; omega) rfl (has_lit w6 ⟨ri, re, rl, rh⟩) (by omega) ?_; intro v7 w7 ho7 hg7; have hb7 := own_below_grown (HOm.out.alloc (robj ⟨ri, re, rl, rh⟩)) (by have := HB7.out; simp; omega) hg7; have HBW5 := Lib.hid ((HBW5.out.trans ((below1 w6 (robj ⟨ri, re, rl, rh⟩)).mono hz6)).trans (hb7.mono HB1.out.size)); obtain ⟨ao7, c7, rfl⟩ := own_slice ho7; have ho8 := own_ranges (w := w7) (base := w1.heap.size) (v := .slice ao7 (n + 1) c7) (l := M ++ [⟨ri, re, rl, rh⟩]) (by rw [List.length_append, HMn.out]; exact ho7); have HC7 := Lib.hid (check_any ho8 HWM2.out); clear ho7 hg7 ho8 hb7))
          go_ret
          exact ⟨rfl, HBW5.out⟩
        · have HX := Lib.hid (has_rest HL.out (k := K + 1) (by omega))
          have HLS : Hid ((l.take K ++ l.drop (K + 1)).length = K + (n - (K + 1))) := by rw [List.length_append, List.length_take, List.length_drop, HN.out]; exact (show min K n + (n - (K + 1)) = K + (n - (K + 1)) by omega)
          go_wp2_with (first
            | (go_at_call 31; ((with_reducible refine HCMa.out.mono ?_); rintro e w3 ⟨rfl, hb⟩; have HO := Lib.hid (own_below HO.out hb); have HB7 := Lib.hid (Nat.le_trans HB7.out hb.size); have HBW := Lib.hid (HBW.out.trans (hb.mono HBW.out.size)); clear hb)))
          refine wp_region_any (by kernel_rfl) ?_
          change wpAny _ _ _ _ _ _ _ (World.drew _)
          refine wpAny_take (i := 1) (v := ?vz7_1) rfl (by kernel_rfl) (by kernel_rfl) (by kernel_rfl) (fun _ _ _ h => h) (Or.inl ⟨by rfl, ?yz7_1⟩) ?rz7_1
          case yz7_1 => first | (intro W; go_simp; done) | (intro W; go_simp; with_reducible rfl)
          go_simp
          refine wpAny_take (i := 2) (v := ?vz7_2) rfl (by kernel_rfl) (by kernel_rfl) (by kernel_rfl) (fun _ _ _ h => h) (Or.inl ⟨by rfl, ?yz7_2⟩) ?rz7_2
          case yz7_2 => first | (intro W; go_simp; done) | (intro W; go_simp; with_reducible rfl)
          go_simp
          refine wpAny_take (i := 3) (v := ?vz7_3) rfl (by kernel_rfl) (by kernel_rfl) (by kernel_rfl) (fun _ _ _ h => h) (Or.inl ⟨by rfl, ?yz7_3⟩) ?rz7_3
          case yz7_3 => first | (intro W; go_simp; done) | (intro W; go_simp; with_reducible rfl)
          go_simp
          refine wpAny_take (i := 5) (v := ?vz7_5) rfl (by kernel_rfl) (by kernel_rfl) (by kernel_rfl) (fun _ _ _ h => h) (Or.inl ⟨by rfl, ?yz7_5⟩) ?rz7_5
          case yz7_5 => first | (intro W; go_simp; done) | (intro W; go_simp; with_reducible rfl)
          go_simp
          refine wpAny_take (i := 6) (v := ?vz7_6) rfl (by kernel_rfl) (by kernel_rfl) (by kernel_rfl) (fun _ _ _ h => h) (Or.inl ⟨by rfl, ?yz7_6⟩) ?rz7_6
          case yz7_6 => first | (intro W; go_simp; done) | (intro W; go_simp; with_reducible rfl)
          go_simp
          refine wpAny_take (i := 7) (v := ?vz7_7) rfl (by kernel_rfl) (by kernel_rfl) (by kernel_rfl) (fun _ _ _ h => h) (Or.inl ⟨by rfl, ?yz7_7⟩) ?rz7_7
          case yz7_7 => first | (intro W; go_simp; done) | (intro W; go_simp; with_reducible rfl)
          go_simp
          refine wpAny_take (i := 8) (v := ?vz7_8) rfl (by kernel_rfl) (by kernel_rfl) (by kernel_rfl) (fun _ _ _ h => h) (Or.inl ⟨by rfl, ?yz7_8⟩) ?rz7_8
          case yz7_8 => first | (intro W; go_simp; done) | (intro W; go_simp; with_reducible rfl)
          go_simp
          refine wpAny_ready (rs := [0]) (by kernel_rfl) (by simp) ?_
          refine AllReady.cons rfl (fun K hK => ?_) AllReady.nil
          go_simp
          go_wp2_with (first | fail)
          have hW3 := HBW.out.size
          have hLa := Lib.hid (((HL.out.below HBW.out).below (below1 w3 (.cells #[] 34))).below ((Below.refl _ _).drew))
          refine wpAny_ready (rs := [4]) (by kernel_rfl) (by simp) ?_
          refine AllReady.cons rfl (fun K' hK' => ?_) AllReady.nil
          refine oper_append_ranges (w := (w3.alloc (.cells #[] 34)).drew) (wanted_none rfl _) (.tmp 78) (.tmp 81) rfl (B := w3.heap.size) (M := []) (n := 0) rfl (World.ownsRow_made w3 #[] 0 (Nat.le_refl _) (Nat.zero_le _) (by simp)) (by simp) rfl (has_top hLa.out (k := K) (by omega)) (by omega) ?_
          intro v4 w4 ho4 hg4
          refine hK' _ _ ?_
          clear hK' K'
          have hb4 := Lib.hid (((below1 w3 (.cells #[] 34)).drew).grown hg4 (by simp) (fun k hk => by cases hk; exact Nat.le_refl _))
          rw [Nat.zero_add, List.nil_append] at ho4
          obtain ⟨ao4, c4, rfl⟩ := own_slice ho4
          have HO4 := Lib.hid ho4
          clear ho4 hg4
          go_simp
          have HW4 := Lib.hid (Nat.le_trans hW3 hb4.out.size)
          have HXw := Lib.hid ((HX.out.below HBW.out).below hb4.out)
          refine wpAny_ready (rs := [9]) (by kernel_rfl) (by simp) ?_
          refine AllReady.cons rfl (fun K' hK' => ?_) AllReady.nil
          refine oper_append_ranges (wanted_none rfl _) (.tmp 82) (.tmp 86) rfl (B := w3.heap.size) (M := l.take K) (n := K) rfl HO4.out hb4.out.size rfl HXw.out (by omega) ?_
          intro v5 w5 ho5 hg5
          refine hK' _ _ ?_
          clear hK' K'
          have hb5 := Lib.hid ((hb4.out).trans (own_below_grown HO4.out hb4.out.size hg5))
          try rw [Nat.add_zero] at ho5
          obtain ⟨ao5, c5, rfl⟩ := own_slice ho5
          have HO5 := Lib.hid (own_ranges (show w5.ownsRow w3.heap.size 34 4 _ (l.take K ++ l.drop (K + 1)).length (cellsR (l.take K ++ l.drop (K + 1))) by rw [HLS.out]; exact ho5))
          have HOm := Lib.hid (own_below HO.out hb5.out)
          have HBW5 := Lib.hid (HBW.out.trans (hb5.out.mono hW3))
          clear ho5 hg5
          go_simp
          refine wpAny_take (i := 10) (v := ?vy7_10) rfl (by kernel_rfl) (by kernel_rfl) (by kernel_rfl) (fun _ _ _ h => h) (Or.inl ⟨by rfl, ?yy7_10⟩) ?ry7_10
          case yy7_10 => first | (intro W; go_simp; done) | (intro W; go_simp; with_reducible rfl)
          go_simp
          refine wpAny_done (by kernel_rfl) ?_ _
          have HCL := Lib.hid (check_any HO5.out HWL.out)
          have ht1 : (checkV (l.take K ++ l.drop (K + 1)) != 0) = true := bne_iff_ne.2 HNL1.out
          have ht2 : (checkV (M ++ [⟨ri, re, rl, rh⟩]) != 0) = true := bne_iff_ne.2 HNL2.out
          generalize checkV (l.take K ++ l.drop (K + 1)) = d1 at *
          generalize hd2 : checkV (M ++ [⟨ri, re, rl, rh⟩]) = d2 at *
          have HD2 := Lib.hid hd2
          clear hd2
          go_wp2_with (first
            | (go_at_call 12; ((with_reducible refine (first_any _).mono ?_); rintro e w' ⟨rfl, rfl⟩))
            | (go_at_call 31; have t0 := HC7; ((with_reducible refine HC7.out.mono ?_); rw [HD2.out]; rintro e w8 ⟨rfl, hb⟩; have HBW5 := Lib.hid (HBW5.out.trans (hb.mono HBW5.out.size)); clear hb))
            | (go_at_call 31; ((with_reducible refine HCL.out.mono ?_); rintro e w6 ⟨rfl, hb⟩; have HOm := Lib.hid (own_below HOm.out hb); have hs6 := hb.size; have hs5 := hb5.out.size; have HBW5 := Lib.hid (HBW5.out.trans (hb.mono HBW5.out.size)); have q0 := (HBW5.out.cell (p := ⟨lb, lo + K * 4, none⟩) hlb.out).trans e0.out; have q1 := (HBW5.out.cell (p := ⟨lb, lo + K * 4 + 1, none⟩) hlb.out).trans e2.out; have q2 := (HBW5.out.cell (p := ⟨lb, lo + K * 4 + 2, none⟩) hlb.out).trans e3.out; have q3 := (HBW5.out.cell (p := ⟨lb, lo + K * 4 + 3, none⟩) hlb.out).trans e4.out; have hz6 := HBW5.out.size; clear hb))
            | (at_builtin; refine wpList_append_ranges (by rfl) (.tmp 95) (.tmp 100) rfl (B := w1.heap.size) (M := M) (n := n) rfl (HOm.out.alloc _) (by have := HB7.out; simp; omega) rfl (has_lit w6 ⟨ri, re, rl, rh⟩) (by omega) ?_; intro v7 w7 ho7 hg7; have hb7 := own_below_grown (HOm.out.alloc (robj ⟨ri, re, rl, rh⟩)) (by have := HB7.out; simp; omega) hg7; have HBW5 := Lib.hid ((HBW5.out.trans ((below1 w6 (robj ⟨ri, re, rl, rh⟩)).mono hz6)).trans (hb7.mono HB1.out.size)); obtain ⟨ao7, c7, rfl⟩ := own_slice ho7; have ho8 := own_ranges (w := w7) (base := w1.heap.size) (v := .slice ao7 (n + 1) c7) (l := M ++ [⟨ri, re, rl, rh⟩]) (by rw [List.length_append, HMn.out]; exact ho7); have HC7 := Lib.hid (check_any ho8 HWM2.out); clear ho7 hg7 ho8 hb7))
          go_ret
          exact ⟨rfl, HBW5.out⟩
      · have hcM : checkV M ≠ 0 := fun h => hc (hcov.1 h)
        have ht1 : (checkV M == 0) = false := beq_eq_false_iff_ne.2 hcM
        have ht2 : (checkV l == 0) = false := beq_eq_false_iff_ne.2 hc
        have ht3 : (checkV l != 0) = true := bne_iff_ne.2 hc
        have HCM := Lib.hid (check_any HRM.out HWM.out)
        clear hcov
        generalize checkV l = c at *
        generalize checkV M = d at *
        rcases hq3 with ⟨_, hq4⟩ | hq4
        all_goals
          go_wp2_with (first
            | (go_at_call 31; ((with_reducible refine HCM.out.mono ?_); rintro e w3 ⟨rfl, hb⟩; have HBW := Lib.hid (HBW.out.trans (hb.mono HBW.out.size)); clear hb))
            | (go_at_call 12; ((with_reducible refine (first_any _).mono ?_); rintro e w' ⟨rfl, rfl⟩)))
          go_ret
          exact ⟨rfl, HBW.out⟩
theorem open_introw {H : Type} {enc : TypeId × Value → H} {w : World} {base : Nat} {held : Bool} {fuel : Nat} {v : Value} {x : DataW H × List MemPlace} (h : DataW.trod enc Try.prog w base (fun _ => true) held fuel 50 [v] = some x) : ∃ l : List I64, ∃ ao cap, v = .slice ao l.length cap ∧ XB iv ⟨0, by decide⟩ w.heap.size w ao l.length cap l := by
  obtain ⟨ao, cap, l, h1, h2⟩ := open_ints h
  exact ⟨l, ao, cap, h1, h2⟩
theorem placeTurns_walk (W : World) (v : Value) (l : List RV) (r : HasR (fun k => k < W.heap.size) W v l ∧ (∀ r ∈ l, r.wf) ∧ l.length ≤ maxLen) (u : Value) (t : List I64) (ht : ∃ ao cap, u = .slice ao t.length cap ∧ XB iv ⟨0, by decide⟩ W.heap.size W ao t.length cap t) (k : Int) (_ : -9223372036854775808 ≤ k) (_ : k ≤ 9223372036854775807) :
    Calls Try.prog 11 #[v, u, .int .i64 k] W fun e w' => e = .returned (.bool true) ∧ Below W.heap.size W w' := by
  obtain ⟨hr, hw, _⟩ := r
  have hr0 := hr
  obtain ⟨ao, cap, rfl, _⟩ := hr
  obtain ⟨to, tcap, rfl, hx⟩ := ht
  by_cases h : 200 < l.length ∨ l.length = 0
  · exact placeTurns_none W _ l.length ao cap k h
  · exact placeTurns_some W ao cap l.length l rfl hw (by omega) (by omega) hr0 to _ tcap t hx k

set_option maxRecDepth 100000 in
theorem placeTurns_lifted (os : Os) (started : os.Started) (H : Type) (enc : TypeId × Value → H) :
    ReturnsInHanded {} Try.checked os 11 .any (Rows.placeTurnsSpec.pre6 enc Try.prog Try.f11 [] false) (Rows.placeTurnsSpec.post enc Try.prog Try.f11 false true false false) := by
  refine returnsInHanded_of_change (C := Try.checked) own started (by kernel_rfl) Try.func11
    (ChangeSpec.witness6 (enc := enc) (C := Try.checked) false ⟨#[], #[.slice none 0 0, .slice none 0 0, .int .i64 0], []⟩ 8 (by kernel_rfl) (by kernel_rfl) (by kernel_rfl) (by kernel_rfl)) ?_
  intro W base args ds gs before hval0 hW _ _
  have hval : ∀ (j : Nat) t v, Try.f11.params[j]? = some t → args[j]? = some v → Value.okWide Try.prog W .any base t v := hval0
  have hW' := hW
  obtain ⟨p, q, hA0, hV, rfl, hfz, hnd⟩ := hW
  have hA : DataW.TrodAll enc Try.prog W 0 (fun _ => true) true Try.f11.params.toList args.toList ds p := hA0
  rw [Try.params11] at hA hval
  obtain ⟨v0, v1, v2, d0, d1, d2, p0, p1, p2, rfl, rfl, rfl, h0, h1, h2⟩ := trodAll_three hA
  obtain ⟨b0, len0, cap0, rfl⟩ := okWide_slice Try.underlying41 (hval 0 41 v0 rfl rfl)
  have k0 := h0
  obtain ⟨fuel0, g0⟩ := h0
  obtain ⟨b1, len1, cap1, rfl⟩ := okWide_slice Try.underlying50 (hval 1 50 v1 rfl rfl)
  have k1 := h1
  obtain ⟨fuel1, g1⟩ := h1
  obtain ⟨a2, rfl, rfl, rfl, wf2⟩ := open_int Try.underlying3 (hval 2 3 v2 rfl rfl) h2
  obtain ⟨rfl, rfl⟩ := trodVars_none hV
  clear hA0 hval0
  simp only [List.append_nil] at hW'
  have hlt : ∀ x ∈ p0 ++ p1 ++ [], x.block < W.heap.size := fun x hx => hW'.lt x (by simpa using hx)
  obtain ⟨xs0, r0⟩ := open_ranges g0
  obtain ⟨xs1, r1⟩ := open_introw g1
  have hwf2 := wf2
  simp [Lit.wf, IntKind.min, IntKind.max, IntKind.signed, IntKind.bits] at hwf2
  refine Calls.mono (?walk : Calls _ _ _ _ fun e w' => e = .returned (.bool true) ∧ Below W.heap.size W w') fun e W' ⟨he, hw⟩ => ?_
  case walk =>
    exact placeTurns_walk W _ xs0 r0 _ xs1 r1 a2 (by omega) (by omega)
  subst he
  exact ⟨_, rfl, post_of_below (pa := p0 ++ (p1 ++ [])) (pv := []) hW' (fun _ _ _ => trodAll_mk1 (shut_bool Try.underlying4 _)) (fun sp hsp => trodAll_mk3 (WideElems.Trod_stays laidOut (by kernel_rfl) (of_decide_eq_true (by kernel_rfl)) k0 (fun x hx => hw.same (hlt x (by first | (simp [hx]; done) | exact nomatch hx))) (fun x hx => hsp x (by first | (simp [hx]; done) | exact nomatch hx))) (WideElems.Trod_stays laidOut (by kernel_rfl) (of_decide_eq_true (by kernel_rfl)) k1 (fun x hx => hw.same (hlt x (by first | (simp [hx]; done) | exact nomatch hx))) (fun x hx => hsp x (by first | (simp [hx]; done) | exact nomatch hx))) (shut_int Try.underlying3 wf2)) (fun _ _ => rfl) (by simp) hw (ok_one (by kernel_rfl) rfl (okWide_bool_mk Try.underlying4 _))⟩
/-- THE ROW. -/
theorem placeTurns_holds : Rows.PlaceTurnsSaid :=
  OpenClaim.holds_of_wide 11 Try.f11 rfl rfl rfl rfl rfl rfl rfl ⟨rfl, rfl, rfl, rfl, rfl⟩ rfl rfl rfl rfl rfl (by kernel_rfl) Try.func11 (by kernel_rfl)
    (of_decide_eq_true (by kernel_rfl)) (by unfold Func.isWrapper; first | (rw [if_pos (by decide +kernel)]; kernel_rfl) | (rw [if_neg (by decide +kernel)]; exact ⟨rfl, rfl⟩))
    (fun os started H enc _ => placeTurns_lifted os started H enc)
#print axioms placeTurns_holds
end Go.Proofs.Ytfdopinlmjbfaaa
