/- slices.Reverse at ranges; Route. Conditions: none of its own. -/
import Derived.Test.YtfcdajkgopcmpaaDt
import Derived.Test.YtfcdajkgopcmpaaDi
namespace Go.Proofs.Ytfcdajkgopcmpaa
open Go.ChangeShapes Go.WideShapes Go.ChangeAt Go.RowKit Go.Deep
structure Rv (M X : List RV) (k : Nat) : Prop where
  len : X.length = M.length
  val : ∀ p, p < M.length → X.getD p RV.zero = if p < k ∨ M.length ≤ p + k then M.getD (M.length - 1 - p) RV.zero else M.getD p RV.zero
theorem getD_set9 (X : List RV) (i p : Nat) (a : RV) (hi : i < X.length) : (X.set i a).getD p RV.zero = if p = i then a else X.getD p RV.zero := by
  simp only [List.getD_eq_getElem?_getD, List.getElem?_set]
  by_cases h : p = i
  · subst h; simp [hi]
  · rw [if_neg h, if_neg (fun e => h e.symm)]
theorem Rv.zero (M : List RV) : Rv M M 0 := ⟨rfl, fun p hp => by rw [if_neg (by omega)]⟩
theorem Rv.step {M X : List RV} {k : Nat} (h : Rv M X k) (hk : 2 * k + 1 < M.length) {a b : RV} (ha : X.getD k RV.zero = a) (hb : X.getD (M.length - 1 - k) RV.zero = b) : Rv M ((X.set k b).set (M.length - 1 - k) a) (k + 1) := by
  refine ⟨by rw [List.length_set, List.length_set]; exact h.len, fun p hp => ?_⟩
  have hl := h.len
  rw [getD_set9 _ _ _ _ (by rw [List.length_set]; omega), getD_set9 _ _ _ _ (by omega)]
  have h1 := h.val k (by omega)
  have h2 := h.val (M.length - 1 - k) (by omega)
  rw [if_neg (by omega)] at h1 h2
  rw [← ha, ← hb, h1, h2]
  by_cases e1 : p = M.length - 1 - k
  · rw [if_pos e1, if_pos (by omega), e1, show M.length - 1 - (M.length - 1 - k) = k by omega]
  · rw [if_neg e1]
    by_cases e2 : p = k
    · rw [if_pos e2, if_pos (by omega), e2]
    · rw [if_neg e2, h.val p hp]
      by_cases e3 : p < k ∨ M.length ≤ p + k
      · rw [if_pos e3, if_pos (by omega)]
      · rw [if_neg e3, if_neg (by omega)]
theorem Rv.all {M X : List RV} {k : Nat} (h : Rv M X k) (hk : ¬ 2 * k + 1 < M.length) : X = M.reverse := by
  refine List.ext_getElem (by rw [h.len, List.length_reverse]) fun p h1 h2 => ?_
  have hp : p < M.length := by rw [← h.len]; exact h1
  have e := h.val p hp
  rw [List.getElem_reverse]
  rw [getD_in h1] at e
  rw [e]
  split
  · rw [getD_in (by omega)]
  · rw [getD_in hp]
    congr 1
    omega
section
variable {C S P : Nat → Prop} {w w' : World} {a m : Nat} {L l : List RV} {v : Value}
set_option maxRecDepth 100000 in
set_option maxHeartbeats 4000000 in
theorem reverse_any {B n cap : Nat} {ao : Option Addr} {M : List RV} (h : w.ownsRow B 37 4 (.slice ao n cap) n (cellsR M)) (hn : M.length = n) (h12 : n ≤ 12) (hB : B ≤ w.heap.size) :
    Calls Try.prog 31 #[.slice ao n cap] w fun e w' => e = .returned (.tuple #[]) ∧ w'.ownsRow B 37 4 (.slice ao n cap) n (cellsR M.reverse) ∧ Below B w w' := by
  have hst := run_stf
  have H := Lib.hid h
  have HN := Lib.hid hn
  have hBB := Lib.hid hB
  clear h hn hB
  go_enter Try.func31, Try.ntmps31
  go_wp2
  go_loopw [2, 3] (fun vi vj wr => ∃ (k : Nat) (X : List RV), vi = .int .i64 k ∧ vj = .int .i64 ((n : Int) - 1 - k) ∧ k ≤ n ∧ Hid (Rv M X k) ∧ Hid (wr.ownsRow B 37 4 (.slice ao n cap) n (cellsR X)) ∧ Hid (Below B w wr)) (fun vi _ _ => n - (RowKit.intOf vi).toNat)
  case atStart => exact ⟨0, M, rfl, by simp, Nat.zero_le _, Rv.zero M, H, Below.refl _ _⟩
  case round =>
    obtain ⟨k, X, rfl, rfl, hk, HRV, HO, HW⟩ := hrel
    by_cases hlt : 2 * k + 1 < n
    · have hlt2 : (k : Int) < (n : Int) - 1 - k := by omega
      obtain ⟨g, cap2, e9⟩ := own_shape HO.out (by omega)
      simp only [Value.slice.injEq, true_and] at e9
      obtain ⟨rfl, rfl⟩ := e9
      have hXL : X.length = n := by rw [HRV.out.len]; exact HN.out
      have HXL := Lib.hid hXL
      have HST := Lib.hid (fun a b => HRV.out.step (a := a) (b := b) (by rw [HN.out]; exact hlt))
      rw [HN.out] at HST
      obtain ⟨A, hA⟩ : ∃ A, X.getD k RV.zero = A := ⟨_, rfl⟩
      obtain ⟨D, hD⟩ : ∃ D, X.getD (n - 1 - k) RV.zero = D := ⟨_, rfl⟩
      have HST2 := Lib.hid (HST.out A D hA hD)
      have oA := own_at HO.out (by omega) hA
      have oD := own_at HO.out (by omega) hD
      have hJ : (n : Int) - 1 - k = ((n - 1 - k : Nat) : Int) := by omega
      rw [hJ] at hlt2 ⊢
      have HS1 := (own_set HO.out (j := k) (by omega) D)
      have HS2 := Lib.hid ((own_set HS1.1 (j := n - 1 - k) (by rw [List.length_set]; omega) A).1)
      have HWS := Lib.hid (below_setR (below_setR HW.out (HO.out.lt g rfl).1 (k * 4) D) (HO.out.lt g rfl).1 ((n - 1 - k) * 4) A)
      have hne : k ≠ n - 1 - k := by omega
      have hkn : k < n := by omega
      have hJn : n - 1 - k < n := by omega
      clear hXL hA hD HS1 HST
      generalize n - 1 - k = J at *
      obtain ⟨a1, a2, a3, a4⟩ := A
      obtain ⟨d1, d2, d3, d4⟩ := D
      obtain ⟨a0, b0, c0, e0, f0, g0, h0, i0⟩ := oA
      obtain ⟨a5, b5, c5, e5, f5, g5, h5, i5⟩ := oD
      simp only at a0 b0 c0 e0 a5 b5 c5 e5
      go_wp2
      go_region
      dsimp only [setR] at HS2 HWS
      generalize ((((((((wr.setCell ⟨g, k * 4, none⟩ (.int .i64 d1)).setCell ⟨g, k * 4 + 1, none⟩ (.int .i64 d2)).setCell ⟨g, k * 4 + 2, none⟩ (.float .f64 d3)).setCell ⟨g, k * 4 + 3, none⟩ (.float .f64 d4)).setCell ⟨g, J * 4, none⟩ (.int .i64 a1)).setCell ⟨g, J * 4 + 1, none⟩ (.int .i64 a2)).setCell ⟨g, J * 4 + 2, none⟩ (.float .f64 a3)).setCell ⟨g, J * 4 + 3, none⟩ (.float .f64 a4)) = w2 at *
      have HS3 : Hid (w2.drew.ownsRow B 37 4 (.slice (some ⟨g, 0, none⟩) n cap) n (cellsR ((X.set k ⟨d1, d2, d3, d4⟩).set J ⟨a1, a2, a3, a4⟩))) := Lib.hid HS2.out
      have HW3 := Lib.hid HWS.out.drew
      have HJ9 : Hid ((J : Int) - 1 = (n : Int) - 1 - ((k + 1 : Nat) : Int)) := Lib.hid (by omega)
      go_wp2
      rw [HJ9.out]
      go_roundw
      case rel => exact ⟨k + 1, _, by go_num, rfl, by omega, HST2, HS3, HW3⟩
      case measure => simp [RowKit.intOf]; omega
    · have hlt2 : ¬ (k : Int) < (n : Int) - 1 - k := by omega
      have e := HRV.out.all (by rw [HN.out]; exact hlt)
      subst e
      go_wp2
      go_end0
      exact ⟨rfl, HO.out, HW.out⟩
theorem key_list (s : List UInt8) (w : World) : Calls Try.prog 30 #[.string ⟨s.toArray⟩] w fun e w' => e = .returned (.bool (keyB ⟨s.toArray⟩)) ∧ w = w' := by
  have e0 : keyB ⟨s.toArray⟩ = (decide (1 ≤ s.length) && decide (s.length ≤ 24)) := rfl
  cases hs : s == []
  · have h1 : 1 ≤ s.length := by
      cases s with
      | nil => simp at hs
      | cons => simp
    have e : keyB ⟨s.toArray⟩ = decide ((s.length : Int) ≤ 24) := by
      rw [e0, decide_eq_true h1, Bool.true_and]
      by_cases h : s.length ≤ 24
      · rw [decide_eq_true h, decide_eq_true (by omega)]
      · rw [decide_eq_false h, decide_eq_false (by omega)]
    rw [e]
    have h2 : (s != []) = true := by simp [bne, hs]
    clear e e0
    go_enter Try.func30, Try.ntmps30
    go_wp2
    go_ret
    exact ⟨rfl, rfl⟩
  · have h0 : s = [] := by simpa using hs
    subst h0
    clear e0
    go_enter Try.func30, Try.ntmps30
    go_wp2
    go_ret
    exact ⟨rfl, rfl⟩
theorem key_any (s : ByteArray) (w : World) : Calls Try.prog 30 #[.string s] w fun e w' => e = .returned (.bool (keyB s)) ∧ w = w' := key_list s.data.toList w
theorem route_yes {L : List RV} {s : ByteArray} (h : keyB s = true) : routeL L s = findV L.reverse (ofH s.data.toList) := by
  unfold routeL
  rw [if_pos h, find_rev]
set_option maxRecDepth 100000 in
set_option maxHeartbeats 4000000 in
theorem droute_any (h : DKm C w a L) (s : ByteArray) (hs : s.size ≤ 9223372036854775807) :
    Calls Try.prog 12 #[ptr a, .string s] w fun e w' => e = .returned (.tuple #[ragg (routeL L s).1, .bool (routeL L s).2]) ∧ Below w.heap.size w w' := by
  have hst := run_stf
  have HCK := fun w => Lib.hid (key_any s w)
  have HP := Lib.hid (at_new w RV.zero)
  have HW := Lib.hid (below1 w (robj RV.zero))
  have h12 : L.length ≤ 12 := by obtain ⟨m, h⟩ := h; exact may_len h.rise h.may
  have HL := Lib.hid (dlist_any (show DKm C (w.alloc (robj RV.zero)) a L from by obtain ⟨m, h⟩ := h; exact ⟨m, h.below HW.out⟩))
  obtain ⟨n, hn⟩ : ∃ n, L.length = n := ⟨_, rfl⟩
  have HN := Lib.hid hn
  rw [hn] at HL h12
  clear h hn
  dsimp only [robj, RV.zero] at HL HW HP
  cases hkb : keyB s with
  | false =>
    have HRT : Hid (routeL L s = (RV.zero, false)) := Lib.hid (by unfold routeL; rw [hkb]; rfl)
    simp only [hkb] at HCK
    rw [HRT.out]
    clear hkb HRT HL
    have f0 := HP.out.f0; have f1 := HP.out.f1; have f2 := HP.out.f2; have f3 := HP.out.f3
    have y0 := HP.out.c0; have y1 := HP.out.c1; have y2 := HP.out.c2; have y3 := HP.out.c3
    go_enter Try.func12, Try.ntmps12
    go_wp2_with (go_at_call 30; refine (HCK _).out.mono ?_; rintro e w3 ⟨rfl, rfl⟩)
    exact bodyPost_ret (res_two rfl _ rfl HP.out) rfl ⟨rfl, HW.out⟩
  | true =>
    have HOF := fun w => Lib.hid (of_any s hs w)
    rw [route_yes hkb]
    simp only [hkb] at HCK
    clear hkb
    generalize ofH s.data.toList = X at *
    go_enter Try.func12, Try.ntmps12
    go_wp2_with (first
      | (go_at_call 30; refine (HCK _).out.mono ?_; rintro e w3 ⟨rfl, rfl⟩)
      | (go_at_call 18; refine HL.out.mono ?_; rintro e w4 ⟨ao, cap, rfl, h1, h2⟩; have HO4 := Lib.hid h1; have HB4 := Lib.hid h2; have HW4 := Lib.hid (HW.out.trans (h2.mono HW.out.size)); have HP4 := Lib.hid (HP.out.below h2 HP.out.lt); clear h1 h2)
      | (go_at_call 31; refine (reverse_any HO4.out HN.out h12 HB4.out.size).mono ?_; rintro e w5 ⟨rfl, h1, h2⟩; have HO5 := Lib.hid h1; have HW5 := Lib.hid (HW4.out.trans (h2.mono HW.out.size)); have HP5 := Lib.hid (HP4.out.below h2 HP.out.lt); clear h1 h2)
      | (go_at_call 33; refine (HOF _).out.mono ?_; rintro e w6 ⟨rfl, rfl⟩)
      | (go_at_call 32; refine (find_any X (own_ranges (l := L.reverse) (by rw [List.length_reverse, HN.out]; exact HO5.out)) (by rw [List.length_reverse, HN.out]; omega)).mono ?_; rintro e w7 ⟨rfl, h2⟩; have HW7 := Lib.hid (HW5.out.trans (h2.mono HW5.out.size)); have HP7 := Lib.hid (HP5.out.below h2 HP5.out.lt); have f0 := HP7.out.f0; have f1 := HP7.out.f1; have f2 := HP7.out.f2; have f3 := HP7.out.f3; have y0 := HP7.out.c0; have y1 := HP7.out.c1; have y2 := HP7.out.c2; have y3 := HP7.out.c3; clear h2)
      | fail)
    exact bodyPost_ret (res_two rfl _ rfl (HP7.out.setAll (findV L.reverse X).1)) rfl ⟨rfl, below_set4 HW7.out (Nat.le_refl _) (findV L.reverse X).1⟩
end
end Go.Proofs.Ytfcdajkgopcmpaa
