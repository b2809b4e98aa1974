/- Of frames one behind the other of which one byte is another one, or that are cut off, just the whole ones ahead of that are told: racelaw5.FrameTorn answers true and leaves its arguments as they were. Conditions: none. -/
import Derived.Test.YtcpncmdnefemmaaW
import Derived.Test.YtcpncmdnefemmaaZ
import Derived.Test.YtcpncmdnefemmaaO
import Derived.Test.YtcpncmdnefemmaaT
namespace Go.Proofs.Ytcpncmdnefemmaa
open Go.ChangeShapes Go.WideShapes Go.ChangeAt Go.RowKit
theorem ofInt8 {n : Nat} (h : n < 256) : (BitVec.ofInt 8 (n : Int)).toNat = n := by
  rw [BitVec.ofInt_natCast, BitVec.toNat_ofNat]; exact Nat.mod_eq_of_lt (by omega)
theorem bxor8 {a b : Nat} (ha : a < 256) (hb : b < 256) : bits .xor .u8 (a : Int) (b : Int) = ((a ^^^ b : Nat) : Int) := by
  show IntKind.u8.wrap ((BitVec.ofInt 8 (a : Int) ^^^ BitVec.ofInt 8 (b : Int)).toNat : Int) = _
  rw [BitVec.toNat_xor, ofInt8 ha, ofInt8 hb, wrapu8, Nat.mod_eq_of_lt (Nat.xor_lt_two_pow (n := 8) ha hb)]
/-- A byte with another mask is another byte. -/
theorem xor_byte (x : UInt8) (m : Nat) (h0 : m ≠ 0) (hm : m < 256) : ∃ y : UInt8, y ≠ x ∧ bits .xor .u8 (x.toNat : Int) (m : Int) = (y.toNat : Int) := by
  have hx := byte_lt x
  have hl : x.toNat ^^^ m < 256 := Nat.xor_lt_two_pow (n := 8) hx hm
  refine ⟨UInt8.ofNat (x.toNat ^^^ m), ?_, by rw [bxor8 hx hm, ofNat_toNat hl]⟩
  intro e
  have e2 := congrArg UInt8.toNat e
  rw [ofNat_toNat hl] at e2
  have e3 := congrArg (x.toNat ^^^ ·) e2
  simp only [← Nat.xor_assoc, Nat.xor_self, Nat.zero_xor] at e3
  exact h0 e3
theorem bys_set (l : List UInt8) (i : Nat) (y : UInt8) : bys (l.set i y) = (bys l).set i (.int .u8 (y.toNat : Int)) := by
  unfold bys; rw [List.map_set]
theorem frameTorn_none (w : World) (ao : Option Addr) (n cap : Nat) (L : List (List UInt8)) (h : RB w.heap.size w ao n cap L) (a x : Int) (c : Bool) (hf : fewB L = false) :
    Calls Try.prog 7 #[.slice ao n cap, .int .i64 a, .int .u8 x, .bool c] w fun e w' => e = .returned (.bool true) ∧ Below w.heap.size w w' := by
  have HB := Lib.hid (Below.refl w.heap.size w)
  have H := Lib.hid h
  have HF := Lib.hid hf
  clear h hf
  go_enter Try.func7, Try.ntmps7
  go_wp2_with (first
    | (go_at_call 10; (with_reducible refine (first_any _).mono ?_); rintro e w1 ⟨rfl, hb⟩; have HB := Lib.hid (HB.out.trans (hb.mono HB.out.size)); clear hb)
    | (go_at_call 20; (with_reducible refine (few_any (H.out.below HB.out)).mono ?_); rw [HF.out]; rintro e w2 ⟨rfl, rfl⟩))
  go_ret
  exact ⟨rfl, HB.out⟩
set_option maxHeartbeats 1000000 in
set_option maxRecDepth 100000 in
theorem frameTorn_skip (w : World) (ao : Option Addr) (n cap : Nat) (L : List (List UInt8)) (HN : Hid (L.length = n)) (h : RB w.heap.size w ao n cap L) (a x : Int) (c : Bool) (hf : fewB L = true) (hs : (joinV L).length = 0 ∨ ((joinV L).length ≠ 0 ∧ x = 0 ∧ c = false)) :
    Calls Try.prog 7 #[.slice ao n cap, .int .i64 a, .int .u8 x, .bool c] w fun e w' => e = .returned (.bool true) ∧ Below w.heap.size w w' := by
  have hcap := h.le
  have HB := Lib.hid (Below.refl w.heap.size w)
  obtain ⟨f1, f2⟩ := few_yes hf
  have hl20 := wei_mem f2
  have hj := join_len f2
  have H := Lib.hid h
  have HF := Lib.hid hf
  have HW := Lib.hid f2
  have F1 := Lib.hid f1
  have hn100 : n ≤ 100 := by rw [← HN.out]; exact f1
  have HP := Lib.hid (fun p hp => show p.length ≤ 262144 by have := hl20 p hp; omega : ∀ p ∈ L, p.length ≤ 262144)
  generalize hJ : (joinV L).length = J at *
  have HJ := Lib.hid hJ
  have hJ2 : J ≤ 21200 := by omega
  clear h hf f1 f2 hl20 hj hJ
  rcases hs with rfl | ⟨hJ0, rfl, rfl⟩
  all_goals
    try have hz : ((J : Int) == 0) = false := by rw [beq_eq_false_iff_ne]; omega
    go_enter Try.func7, Try.ntmps7
    go_wp2_with (first
      | (go_at_call 10; (with_reducible refine (first_any _).mono ?_); rintro e w1 ⟨rfl, hb⟩; have HB := Lib.hid (HB.out.trans (hb.mono HB.out.size)); clear hb)
      | (go_at_call 20; (with_reducible refine (few_any (H.out.below HB.out)).mono ?_); rw [HF.out]; rintro e w2 ⟨rfl, rfl⟩)
      | (go_at_call 21; (with_reducible refine (joined_any ((H.out.below HB.out)) HB.out.size F1.out HW.out).mono ?_); rw [HJ.out]; rintro e w3 ⟨v, rfl, ho, hb⟩; obtain ⟨jo, jc, rfl⟩ := own_slice ho; have HB := Lib.hid (HB.out.trans (hb.mono HB.out.size)); clear ho hb))
    go_ret
    exact ⟨rfl, HB.out⟩
set_option maxHeartbeats 2000000 in
set_option maxRecDepth 100000 in
theorem frameTorn_ptrue (w : World) (ao : Option Addr) (n cap : Nat) (L : List (List UInt8)) (HN : Hid (L.length = n)) (h : RB w.heap.size w ao n cap L) (A : Nat) (_hA : (A : Int) ≤ 9223372036854775807) (x : Int) (hf : fewB L = true) (h0 : (joinV L).length ≠ 0) :
    Calls Try.prog 7 #[.slice ao n cap, .int .i64 (A : Int), .int .u8 x, .bool true] w fun e w' => e = .returned (.bool true) ∧ Below w.heap.size w w' := by
  have hcap := h.le
  have HB := Lib.hid (Below.refl w.heap.size w)
  obtain ⟨f1, f2⟩ := few_yes hf
  have hl20 := wei_mem f2
  have hj := join_len f2
  have H := Lib.hid h
  have HF := Lib.hid hf
  have HW := Lib.hid f2
  have F1 := Lib.hid f1
  have hn100 : n ≤ 100 := by rw [← HN.out]; exact f1
  have HP := Lib.hid (fun p hp => show p.length ≤ 262144 by have := hl20 p hp; omega : ∀ p ∈ L, p.length ≤ 262144)
  generalize hJ : (joinV L).length = J at *
  have HJ := Lib.hid hJ
  have hJ2 : J ≤ 21200 := by omega
  clear h hf f1 f2 hl20 hj hJ
  have hz : ((J : Int) == 0) = false := by rw [beq_eq_false_iff_ne]; omega
  have hi : A % J < J := Nat.mod_lt _ (by omega)
  have e1 : Int.tmod (A : Int) (J : Int) = ((A % J : Nat) : Int) := rfl
  generalize A % J = i at *
  have hx2 : (x == 0) = true ∨ (x == 0) = false := by cases (x == 0) <;> simp
  rcases hx2 with hx2 | hx2
  all_goals
    go_enter Try.func7, Try.ntmps7
    go_wp2_with (first
      | (go_at_call 10; (with_reducible refine (first_any _).mono ?_); rintro e w1 ⟨rfl, hb⟩; have HB := Lib.hid (HB.out.trans (hb.mono HB.out.size)); clear hb)
      | (go_at_call 20; (with_reducible refine (few_any (H.out.below HB.out)).mono ?_); rw [HF.out]; rintro e w2 ⟨rfl, rfl⟩)
      | (go_at_call 21; (with_reducible refine (joined_any ((H.out.below HB.out)) HB.out.size F1.out HW.out).mono ?_); rw [HJ.out]; rintro e w3 ⟨v, rfl, ho, hb⟩; rw [← HJ.out] at ho; obtain ⟨jo, jc, rfl⟩ := own_slice ho; have hsb := own_sb ho; have hjc := hsb.le; rw [HJ.out] at hsb hjc ⊢; have HX := Lib.hid (hsb.top (hi := i) (by omega)); have HB := Lib.hid (HB.out.trans (hb.mono HB.out.size)); clear ho hb hsb))
    go_loop [11, 12] (fun k e => ∃ q : Nat, k = .int .i64 q ∧ e = .int .i64 ((joinV (L.take q)).length : Nat) ∧ q ≤ n ∧ (joinV (L.take q)).length ≤ i) (fun k _ => n - (intOf k).toNat)
    case atStart => exact ⟨0, rfl, rfl, Nat.zero_le _, Nat.zero_le _⟩
    case round =>
      obtain ⟨q, rfl, rfl, hq, hqi⟩ := hrel
      have hqn : q < n := by
        rcases Nat.lt_or_ge q n with h1 | h1
        · exact h1
        · rw [List.take_of_length_le (by rw [HN.out]; exact h1), HJ.out] at hqi; omega
      obtain ⟨b, off, ro, m, d, rfl, c1, s1⟩ := (H.out.below HB.out).at_ hqn
      have HT := Lib.hid ((H.out.below HB.out).top (hi := q) hq)
      have hm := s1.len
      have hlim : m ≤ 21200 := by
        have h1 := join_split (l := L) (k := q) (by rw [HN.out]; exact hqn)
        have h2 := congrArg List.length h1
        rw [List.length_append, List.length_append, frame_length, HJ.out] at h2
        omega
      have hq1 : (joinV (L.take (q + 1))).length = (joinV (L.take q)).length + 12 + m := by
        rw [join_take (by rw [HN.out]; exact hqn), List.length_append, frame_length, ← hm]; omega
      have HQ := Lib.hid hq1
      clear hq1
      have HS : Hid (i < (joinV (L.take q)).length + (12 + m) → scanV ((joinV L).take i) = (L.take q, (joinV (L.take q)).length)) := fun h => scan_cut HP.out (by rw [HN.out]; exact hqn) hqi (by rw [← hm]; exact h)
      have HTL : Hid ((L.take q).length = q) := by rw [List.length_take, HN.out]; exact Nat.min_eq_left hq
      have HLL := Lib.hid (beq_self_eq_true (L.take q))
      clear s1 hm
      generalize (joinV (L.take q)).length = E at *
      by_cases hin : E + 12 + m ≤ i
      · have hin2 : (E : Int) + 12 + (m : Int) ≤ (i : Int) := by omega
        clear HS
        go_wp2
        go_round
        case rel => exact ⟨q + 1, by go_num, by rw [HQ.out]; go_num, by omega, by rw [HQ.out]; omega⟩
        case measure => simp [intOf]; omega
      · have hin2 : ¬ (E : Int) + 12 + (m : Int) ≤ (i : Int) := by omega
        have HS2 := Lib.hid (HS.out (by omega))
        clear HS
        go_wp2_with (first
          | (go_at_call 17; (with_reducible refine (scan_any HX.out (by omega)).mono ?_); rintro e w4 ⟨v4, us4, rfl, hr, hb⟩; rw [HS2.out] at hr ⊢; obtain ⟨ro1, rc1, rfl⟩ := own_slice hr.own; have hr3 := hr.rb rfl; dsimp only at hr3 ⊢; rw [HTL.out] at hr3 ⊢; have HR1 := Lib.hid hr3; have HT := Lib.hid (HT.out.below (hb.mono HB.out.size)); have HB := Lib.hid (HB.out.trans (hb.mono HB.out.size)); clear hr hb hr3)
          | (go_at_call 10; (with_reducible refine (first_any _).mono ?_); rintro e w5 ⟨rfl, hb⟩; have HR1 := Lib.hid (HR1.out.below hb); have HT := Lib.hid (HT.out.below (hb.mono HB.out.size)); have HB := Lib.hid (HB.out.trans (hb.mono HB.out.size)); clear hb)
          | (go_at_call 19; (with_reducible refine (rows_any HR1.out HT.out).mono ?_); rw [HLL.out]; rintro e w6 ⟨rfl, kk, rfl⟩; have HE := Lib.hid (HB.out.trans ((below_drewN _ kk).mono HB.out.size))))
        go_ret
        exact ⟨rfl, HE.out⟩
set_option maxHeartbeats 2000000 in
set_option maxRecDepth 100000 in
theorem frameTorn_pfalse (w : World) (ao : Option Addr) (n cap : Nat) (L : List (List UInt8)) (HN : Hid (L.length = n)) (h : RB w.heap.size w ao n cap L) (A : Nat) (_hA : (A : Int) ≤ 9223372036854775807) (x : Nat) (hx0 : x ≠ 0) (hx1 : x < 256) (hf : fewB L = true) (h0 : (joinV L).length ≠ 0) :
    Calls Try.prog 7 #[.slice ao n cap, .int .i64 (A : Int), .int .u8 (x : Nat), .bool false] w fun e w' => e = .returned (.bool true) ∧ Below w.heap.size w w' := by
  have hcap := h.le
  have HB := Lib.hid (Below.refl w.heap.size w)
  obtain ⟨f1, f2⟩ := few_yes hf
  have hl20 := wei_mem f2
  have hj := join_len f2
  have H := Lib.hid h
  have HF := Lib.hid hf
  have HW := Lib.hid f2
  have F1 := Lib.hid f1
  have hn100 : n ≤ 100 := by rw [← HN.out]; exact f1
  have HP := Lib.hid (fun p hp => show p.length ≤ 262144 by have := hl20 p hp; omega : ∀ p ∈ L, p.length ≤ 262144)
  generalize hJ : (joinV L).length = J at *
  have HJ := Lib.hid hJ
  have hJ2 : J ≤ 21200 := by omega
  clear h hf f1 f2 hl20 hj hJ
  have hz : ((J : Int) == 0) = false := by rw [beq_eq_false_iff_ne]; omega
  have hi : A % J < J := Nat.mod_lt _ (by omega)
  have e1 : Int.tmod (A : Int) (J : Int) = ((A % J : Nat) : Int) := rfl
  generalize A % J = i at *
  have hx2 : ((x : Int) == 0) = false := by rw [beq_eq_false_iff_ne]; omega
  obtain ⟨y, hy, e7⟩ := xor_byte ((joinV L).getD i 0) x hx0 hx1
  have c2 : (bys (joinV L))[i]? = some (.int .u8 (((joinV L).getD i 0).toNat : Int)) := by
    simp [bys, List.getD_eq_getElem?_getD, List.getElem?_eq_getElem (show i < (joinV L).length by rw [HJ.out]; exact hi)]
  have HC := Lib.hid c2
  have HY := Lib.hid hy
  clear hy c2
  generalize hzz : (joinV L).getD i 0 = z at *
  have HZ := Lib.hid hzz
  clear hzz
  go_enter Try.func7, Try.ntmps7
  go_wp2_with (first
    | (go_at_call 10; (with_reducible refine (first_any _).mono ?_); rintro e w1 ⟨rfl, hb⟩; have HB := Lib.hid (HB.out.trans (hb.mono HB.out.size)); clear hb)
    | (go_at_call 20; (with_reducible refine (few_any (H.out.below HB.out)).mono ?_); rw [HF.out]; rintro e w2 ⟨rfl, rfl⟩)
    | (go_at_call 21; (with_reducible refine (joined_any ((H.out.below HB.out)) HB.out.size F1.out HW.out).mono ?_); rw [HJ.out]; rintro e w3 ⟨v, rfl, ho, hb⟩; rw [← HJ.out] at ho; obtain ⟨g, jc, hv⟩ := own_shape ho (by rw [HJ.out]; omega); subst hv; rw [HJ.out] at ho ⊢; have c1 := ho.cellAt i (by omega); rw [HC.out] at c1; have fr1 := ho.frozenAt i; have HO := Lib.hid ho; have HS1 := Lib.hid HB.out.size; have HB := Lib.hid (HB.out.trans (hb.mono HB.out.size)); clear ho hb))
  have hO3 := (HO.out.stored i (.int .u8 (y.toNat : Int))).1
  rw [← bys_set] at hO3
  have hB3 := Lib.hid (HB.out.setCell (p := ⟨g, i, none⟩) (Nat.le_trans HS1.out (HO.out.lt g rfl).1) (.int .u8 (y.toNat : Int)))
  have HX := Lib.hid (own_sb hO3)
  clear HB
  have HB := hB3
  clear hO3 hB3 c1 fr1 HO
  generalize w3.setCell ⟨g, i, none⟩ (.int .u8 (y.toNat : Int)) = w3 at *
  go_loop [11, 12] (fun k e => ∃ q : Nat, k = .int .i64 q ∧ e = .int .i64 ((joinV (L.take q)).length : Nat) ∧ q ≤ n ∧ (joinV (L.take q)).length ≤ i) (fun k _ => n - (intOf k).toNat)
  case atStart => exact ⟨0, rfl, rfl, Nat.zero_le _, Nat.zero_le _⟩
  case round =>
    obtain ⟨q, rfl, rfl, hq, hqi⟩ := hrel
    have hqn : q < n := by
      rcases Nat.lt_or_ge q n with h1 | h1
      · exact h1
      · rw [List.take_of_length_le (by rw [HN.out]; exact h1), HJ.out] at hqi; omega
    obtain ⟨b, off, ro, m, d, rfl, c1, s1⟩ := (H.out.below HB.out).at_ hqn
    have HT := Lib.hid ((H.out.below HB.out).top (hi := q) hq)
    have hm := s1.len
    have hlim : m ≤ 21200 := by
      have h1 := join_split (l := L) (k := q) (by rw [HN.out]; exact hqn)
      have h2 := congrArg List.length h1
      rw [List.length_append, List.length_append, frame_length, HJ.out] at h2
      omega
    have hq1 : (joinV (L.take (q + 1))).length = (joinV (L.take q)).length + 12 + m := by
      rw [join_take (by rw [HN.out]; exact hqn), List.length_append, frame_length, ← hm]; omega
    have HQ := Lib.hid hq1
    clear hq1
    have HS : Hid (i < (joinV (L.take q)).length + (12 + m) → scanV ((joinV L).set i y) = (L.take q, (joinV (L.take q)).length)) := fun h => scan_turn HP.out (by rw [HN.out]; exact hqn) hqi (by rw [← hm]; exact h) (by rw [HZ.out]; exact HY.out)
    have HTL : Hid ((L.take q).length = q) := by rw [List.length_take, HN.out]; exact Nat.min_eq_left hq
    have HLL := Lib.hid (beq_self_eq_true (L.take q))
    clear s1 hm
    generalize (joinV (L.take q)).length = E at *
    by_cases hin : E + 12 + m ≤ i
    · have hin2 : (E : Int) + 12 + (m : Int) ≤ (i : Int) := by omega
      clear HS
      go_wp2
      go_round
      case rel => exact ⟨q + 1, by go_num, by rw [HQ.out]; go_num, by omega, by rw [HQ.out]; omega⟩
      case measure => simp [intOf]; omega
    · have hin2 : ¬ (E : Int) + 12 + (m : Int) ≤ (i : Int) := by omega
      have HS2 := Lib.hid (HS.out (by omega))
      clear HS
      go_wp2_with (first
        | (go_at_call 17; (with_reducible refine (scan_any HX.out (by omega)).mono ?_); rintro e w4 ⟨v4, us4, rfl, hr, hb⟩; rw [HS2.out] at hr ⊢; obtain ⟨ro1, rc1, rfl⟩ := own_slice hr.own; have hr3 := hr.rb rfl; dsimp only at hr3 ⊢; rw [HTL.out] at hr3 ⊢; have HR1 := Lib.hid hr3; have HT := Lib.hid (HT.out.below (hb.mono HB.out.size)); have HB := Lib.hid (HB.out.trans (hb.mono HB.out.size)); clear hr hb hr3)
        | (go_at_call 10; (with_reducible refine (first_any _).mono ?_); rintro e w5 ⟨rfl, hb⟩; have HR1 := Lib.hid (HR1.out.below hb); have HT := Lib.hid (HT.out.below (hb.mono HB.out.size)); have HB := Lib.hid (HB.out.trans (hb.mono HB.out.size)); clear hb)
        | (go_at_call 19; (with_reducible refine (rows_any HR1.out HT.out).mono ?_); rw [HLL.out]; rintro e w6 ⟨rfl, kk, rfl⟩; have HE := Lib.hid (HB.out.trans ((below_drewN _ kk).mono HB.out.size))))
      go_ret
      exact ⟨rfl, HE.out⟩
set_option maxHeartbeats 2000000 in
set_option maxRecDepth 100000 in
theorem frameTorn_ntrue (w : World) (ao : Option Addr) (n cap : Nat) (L : List (List UInt8)) (HN : Hid (L.length = n)) (h : RB w.heap.size w ao n cap L) (A : Nat) (hA : (A : Int) ≤ 9223372036854775807) (x : Int) (hf : fewB L = true) (h0 : (joinV L).length ≠ 0) :
    Calls Try.prog 7 #[.slice ao n cap, .int .i64 (-(A : Int) - 1), .int .u8 x, .bool true] w fun e w' => e = .returned (.bool true) ∧ Below w.heap.size w w' := by
  have hcap := h.le
  have HB := Lib.hid (Below.refl w.heap.size w)
  obtain ⟨f1, f2⟩ := few_yes hf
  have hl20 := wei_mem f2
  have hj := join_len f2
  have H := Lib.hid h
  have HF := Lib.hid hf
  have HW := Lib.hid f2
  have F1 := Lib.hid f1
  have hn100 : n ≤ 100 := by rw [← HN.out]; exact f1
  have HP := Lib.hid (fun p hp => show p.length ≤ 262144 by have := hl20 p hp; omega : ∀ p ∈ L, p.length ≤ 262144)
  generalize hJ : (joinV L).length = J at *
  have HJ := Lib.hid hJ
  have hJ2 : J ≤ 21200 := by omega
  clear h hf f1 f2 hl20 hj hJ
  have hz : ((J : Int) == 0) = false := by rw [beq_eq_false_iff_ne]; omega
  have hi : A % J < J := Nat.mod_lt _ (by omega)
  have e1 : Int.tmod (A : Int) (J : Int) = ((A % J : Nat) : Int) := rfl
  generalize A % J = i at *
  have hx2 : (x == 0) = true ∨ (x == 0) = false := by cases (x == 0) <;> simp
  rcases hx2 with hx2 | hx2
  all_goals
    go_enter Try.func7, Try.ntmps7
    go_wp2_with (first
      | (go_at_call 10; (with_reducible refine (first_any _).mono ?_); rintro e w1 ⟨rfl, hb⟩; have HB := Lib.hid (HB.out.trans (hb.mono HB.out.size)); clear hb)
      | (go_at_call 20; (with_reducible refine (few_any (H.out.below HB.out)).mono ?_); rw [HF.out]; rintro e w2 ⟨rfl, rfl⟩)
      | (go_at_call 21; (with_reducible refine (joined_any ((H.out.below HB.out)) HB.out.size F1.out HW.out).mono ?_); rw [HJ.out]; rintro e w3 ⟨v, rfl, ho, hb⟩; rw [← HJ.out] at ho; obtain ⟨jo, jc, rfl⟩ := own_slice ho; have hsb := own_sb ho; have hjc := hsb.le; rw [HJ.out] at hsb hjc ⊢; have HX := Lib.hid (hsb.top (hi := i) (by omega)); have HB := Lib.hid (HB.out.trans (hb.mono HB.out.size)); clear ho hb hsb))
    go_loop [11, 12] (fun k e => ∃ q : Nat, k = .int .i64 q ∧ e = .int .i64 ((joinV (L.take q)).length : Nat) ∧ q ≤ n ∧ (joinV (L.take q)).length ≤ i) (fun k _ => n - (intOf k).toNat)
    case atStart => exact ⟨0, rfl, rfl, Nat.zero_le _, Nat.zero_le _⟩
    case round =>
      obtain ⟨q, rfl, rfl, hq, hqi⟩ := hrel
      have hqn : q < n := by
        rcases Nat.lt_or_ge q n with h1 | h1
        · exact h1
        · rw [List.take_of_length_le (by rw [HN.out]; exact h1), HJ.out] at hqi; omega
      obtain ⟨b, off, ro, m, d, rfl, c1, s1⟩ := (H.out.below HB.out).at_ hqn
      have HT := Lib.hid ((H.out.below HB.out).top (hi := q) hq)
      have hm := s1.len
      have hlim : m ≤ 21200 := by
        have h1 := join_split (l := L) (k := q) (by rw [HN.out]; exact hqn)
        have h2 := congrArg List.length h1
        rw [List.length_append, List.length_append, frame_length, HJ.out] at h2
        omega
      have hq1 : (joinV (L.take (q + 1))).length = (joinV (L.take q)).length + 12 + m := by
        rw [join_take (by rw [HN.out]; exact hqn), List.length_append, frame_length, ← hm]; omega
      have HQ := Lib.hid hq1
      clear hq1
      have HS : Hid (i < (joinV (L.take q)).length + (12 + m) → scanV ((joinV L).take i) = (L.take q, (joinV (L.take q)).length)) := fun h => scan_cut HP.out (by rw [HN.out]; exact hqn) hqi (by rw [← hm]; exact h)
      have HTL : Hid ((L.take q).length = q) := by rw [List.length_take, HN.out]; exact Nat.min_eq_left hq
      have HLL := Lib.hid (beq_self_eq_true (L.take q))
      clear s1 hm
      generalize (joinV (L.take q)).length = E at *
      by_cases hin : E + 12 + m ≤ i
      · have hin2 : (E : Int) + 12 + (m : Int) ≤ (i : Int) := by omega
        clear HS
        go_wp2
        go_round
        case rel => exact ⟨q + 1, by go_num, by rw [HQ.out]; go_num, by omega, by rw [HQ.out]; omega⟩
        case measure => simp [intOf]; omega
      · have hin2 : ¬ (E : Int) + 12 + (m : Int) ≤ (i : Int) := by omega
        have HS2 := Lib.hid (HS.out (by omega))
        clear HS
        go_wp2_with (first
          | (go_at_call 17; (with_reducible refine (scan_any HX.out (by omega)).mono ?_); rintro e w4 ⟨v4, us4, rfl, hr, hb⟩; rw [HS2.out] at hr ⊢; obtain ⟨ro1, rc1, rfl⟩ := own_slice hr.own; have hr3 := hr.rb rfl; dsimp only at hr3 ⊢; rw [HTL.out] at hr3 ⊢; have HR1 := Lib.hid hr3; have HT := Lib.hid (HT.out.below (hb.mono HB.out.size)); have HB := Lib.hid (HB.out.trans (hb.mono HB.out.size)); clear hr hb hr3)
          | (go_at_call 10; (with_reducible refine (first_any _).mono ?_); rintro e w5 ⟨rfl, hb⟩; have HR1 := Lib.hid (HR1.out.below hb); have HT := Lib.hid (HT.out.below (hb.mono HB.out.size)); have HB := Lib.hid (HB.out.trans (hb.mono HB.out.size)); clear hb)
          | (go_at_call 19; (with_reducible refine (rows_any HR1.out HT.out).mono ?_); rw [HLL.out]; rintro e w6 ⟨rfl, kk, rfl⟩; have HE := Lib.hid (HB.out.trans ((below_drewN _ kk).mono HB.out.size))))
        go_ret
        exact ⟨rfl, HE.out⟩
set_option maxHeartbeats 2000000 in
set_option maxRecDepth 100000 in
theorem frameTorn_nfalse (w : World) (ao : Option Addr) (n cap : Nat) (L : List (List UInt8)) (HN : Hid (L.length = n)) (h : RB w.heap.size w ao n cap L) (A : Nat) (hA : (A : Int) ≤ 9223372036854775807) (x : Nat) (hx0 : x ≠ 0) (hx1 : x < 256) (hf : fewB L = true) (h0 : (joinV L).length ≠ 0) :
    Calls Try.prog 7 #[.slice ao n cap, .int .i64 (-(A : Int) - 1), .int .u8 (x : Nat), .bool false] w fun e w' => e = .returned (.bool true) ∧ Below w.heap.size w w' := by
  have hcap := h.le
  have HB := Lib.hid (Below.refl w.heap.size w)
  obtain ⟨f1, f2⟩ := few_yes hf
  have hl20 := wei_mem f2
  have hj := join_len f2
  have H := Lib.hid h
  have HF := Lib.hid hf
  have HW := Lib.hid f2
  have F1 := Lib.hid f1
  have hn100 : n ≤ 100 := by rw [← HN.out]; exact f1
  have HP := Lib.hid (fun p hp => show p.length ≤ 262144 by have := hl20 p hp; omega : ∀ p ∈ L, p.length ≤ 262144)
  generalize hJ : (joinV L).length = J at *
  have HJ := Lib.hid hJ
  have hJ2 : J ≤ 21200 := by omega
  clear h hf f1 f2 hl20 hj hJ
  have hz : ((J : Int) == 0) = false := by rw [beq_eq_false_iff_ne]; omega
  have hi : A % J < J := Nat.mod_lt _ (by omega)
  have e1 : Int.tmod (A : Int) (J : Int) = ((A % J : Nat) : Int) := rfl
  generalize A % J = i at *
  have hx2 : ((x : Int) == 0) = false := by rw [beq_eq_false_iff_ne]; omega
  obtain ⟨y, hy, e7⟩ := xor_byte ((joinV L).getD i 0) x hx0 hx1
  have c2 : (bys (joinV L))[i]? = some (.int .u8 (((joinV L).getD i 0).toNat : Int)) := by
    simp [bys, List.getD_eq_getElem?_getD, List.getElem?_eq_getElem (show i < (joinV L).length by rw [HJ.out]; exact hi)]
  have HC := Lib.hid c2
  have HY := Lib.hid hy
  clear hy c2
  generalize hzz : (joinV L).getD i 0 = z at *
  have HZ := Lib.hid hzz
  clear hzz
  go_enter Try.func7, Try.ntmps7
  go_wp2_with (first
    | (go_at_call 10; (with_reducible refine (first_any _).mono ?_); rintro e w1 ⟨rfl, hb⟩; have HB := Lib.hid (HB.out.trans (hb.mono HB.out.size)); clear hb)
    | (go_at_call 20; (with_reducible refine (few_any (H.out.below HB.out)).mono ?_); rw [HF.out]; rintro e w2 ⟨rfl, rfl⟩)
    | (go_at_call 21; (with_reducible refine (joined_any ((H.out.below HB.out)) HB.out.size F1.out HW.out).mono ?_); rw [HJ.out]; rintro e w3 ⟨v, rfl, ho, hb⟩; rw [← HJ.out] at ho; obtain ⟨g, jc, hv⟩ := own_shape ho (by rw [HJ.out]; omega); subst hv; rw [HJ.out] at ho ⊢; have c1 := ho.cellAt i (by omega); rw [HC.out] at c1; have fr1 := ho.frozenAt i; have HO := Lib.hid ho; have HS1 := Lib.hid HB.out.size; have HB := Lib.hid (HB.out.trans (hb.mono HB.out.size)); clear ho hb))
  have hO3 := (HO.out.stored i (.int .u8 (y.toNat : Int))).1
  rw [← bys_set] at hO3
  have hB3 := Lib.hid (HB.out.setCell (p := ⟨g, i, none⟩) (Nat.le_trans HS1.out (HO.out.lt g rfl).1) (.int .u8 (y.toNat : Int)))
  have HX := Lib.hid (own_sb hO3)
  clear HB
  have HB := hB3
  clear hO3 hB3 c1 fr1 HO
  generalize w3.setCell ⟨g, i, none⟩ (.int .u8 (y.toNat : Int)) = w3 at *
  go_loop [11, 12] (fun k e => ∃ q : Nat, k = .int .i64 q ∧ e = .int .i64 ((joinV (L.take q)).length : Nat) ∧ q ≤ n ∧ (joinV (L.take q)).length ≤ i) (fun k _ => n - (intOf k).toNat)
  case atStart => exact ⟨0, rfl, rfl, Nat.zero_le _, Nat.zero_le _⟩
  case round =>
    obtain ⟨q, rfl, rfl, hq, hqi⟩ := hrel
    have hqn : q < n := by
      rcases Nat.lt_or_ge q n with h1 | h1
      · exact h1
      · rw [List.take_of_length_le (by rw [HN.out]; exact h1), HJ.out] at hqi; omega
    obtain ⟨b, off, ro, m, d, rfl, c1, s1⟩ := (H.out.below HB.out).at_ hqn
    have HT := Lib.hid ((H.out.below HB.out).top (hi := q) hq)
    have hm := s1.len
    have hlim : m ≤ 21200 := by
      have h1 := join_split (l := L) (k := q) (by rw [HN.out]; exact hqn)
      have h2 := congrArg List.length h1
      rw [List.length_append, List.length_append, frame_length, HJ.out] at h2
      omega
    have hq1 : (joinV (L.take (q + 1))).length = (joinV (L.take q)).length + 12 + m := by
      rw [join_take (by rw [HN.out]; exact hqn), List.length_append, frame_length, ← hm]; omega
    have HQ := Lib.hid hq1
    clear hq1
    have HS : Hid (i < (joinV (L.take q)).length + (12 + m) → scanV ((joinV L).set i y) = (L.take q, (joinV (L.take q)).length)) := fun h => scan_turn HP.out (by rw [HN.out]; exact hqn) hqi (by rw [← hm]; exact h) (by rw [HZ.out]; exact HY.out)
    have HTL : Hid ((L.take q).length = q) := by rw [List.length_take, HN.out]; exact Nat.min_eq_left hq
    have HLL := Lib.hid (beq_self_eq_true (L.take q))
    clear s1 hm
    generalize (joinV (L.take q)).length = E at *
    by_cases hin : E + 12 + m ≤ i
    · have hin2 : (E : Int) + 12 + (m : Int) ≤ (i : Int) := by omega
      clear HS
      go_wp2
      go_round
      case rel => exact ⟨q + 1, by go_num, by rw [HQ.out]; go_num, by omega, by rw [HQ.out]; omega⟩
      case measure => simp [intOf]; omega
    · have hin2 : ¬ (E : Int) + 12 + (m : Int) ≤ (i : Int) := by omega
      have HS2 := Lib.hid (HS.out (by omega))
      clear HS
      go_wp2_with (first
        | (go_at_call 17; (with_reducible refine (scan_any HX.out (by omega)).mono ?_); rintro e w4 ⟨v4, us4, rfl, hr, hb⟩; rw [HS2.out] at hr ⊢; obtain ⟨ro1, rc1, rfl⟩ := own_slice hr.own; have hr3 := hr.rb rfl; dsimp only at hr3 ⊢; rw [HTL.out] at hr3 ⊢; have HR1 := Lib.hid hr3; have HT := Lib.hid (HT.out.below (hb.mono HB.out.size)); have HB := Lib.hid (HB.out.trans (hb.mono HB.out.size)); clear hr hb hr3)
        | (go_at_call 10; (with_reducible refine (first_any _).mono ?_); rintro e w5 ⟨rfl, hb⟩; have HR1 := Lib.hid (HR1.out.below hb); have HT := Lib.hid (HT.out.below (hb.mono HB.out.size)); have HB := Lib.hid (HB.out.trans (hb.mono HB.out.size)); clear hb)
        | (go_at_call 19; (with_reducible refine (rows_any HR1.out HT.out).mono ?_); rw [HLL.out]; rintro e w6 ⟨rfl, kk, rfl⟩; have HE := Lib.hid (HB.out.trans ((below_drewN _ kk).mono HB.out.size))))
      go_ret
      exact ⟨rfl, HE.out⟩
theorem frameTorn_walk (w : World) (ao : Option Addr) (cap : Nat) (L : List (List UInt8)) (h : RB w.heap.size w ao L.length cap L) (a : Int) (ha1 : -9223372036854775808 ≤ a) (ha2 : a ≤ 9223372036854775807) (x : Int) (hx1 : 0 ≤ x) (hx2 : x ≤ 255) (c : Bool) :
    Calls Try.prog 7 #[.slice ao L.length cap, .int .i64 a, .int .u8 x, .bool c] w fun e w' => e = .returned (.bool true) ∧ Below w.heap.size w w' := by
  cases hf : fewB L with
  | false => exact frameTorn_none w ao _ cap L h a x c hf
  | true =>
    by_cases hJ : (joinV L).length = 0
    · exact frameTorn_skip w ao _ cap L rfl h a x c hf (.inl hJ)
    by_cases hxc : x = 0 ∧ c = false
    · exact frameTorn_skip w ao _ cap L rfl h a x c hf (.inr ⟨hJ, hxc⟩)
    have cut : (∃ A : Nat, a = (A : Int) ∧ (A : Int) ≤ 9223372036854775807) ∨ (∃ A : Nat, a = -(A : Int) - 1 ∧ (A : Int) ≤ 9223372036854775807) := by
      by_cases h : a < 0
      · exact .inr ⟨(-(a + 1)).toNat, by omega, by omega⟩
      · exact .inl ⟨a.toNat, by omega, by omega⟩
    obtain ⟨X, rfl⟩ : ∃ X : Nat, x = (X : Int) := ⟨x.toNat, by omega⟩
    cases c with
    | true =>
      rcases cut with ⟨A, rfl, hA⟩ | ⟨A, rfl, hA⟩
      · exact frameTorn_ptrue w ao _ cap L rfl h A hA _ hf hJ
      · exact frameTorn_ntrue w ao _ cap L rfl h A hA _ hf hJ
    | false =>
      have hX : X ≠ 0 := fun e => hxc ⟨by omega, rfl⟩
      rcases cut with ⟨A, rfl, hA⟩ | ⟨A, rfl, hA⟩
      · exact frameTorn_pfalse w ao _ cap L rfl h A hA X hX (by omega) hf hJ
      · exact frameTorn_nfalse w ao _ cap L rfl h A hA X hX (by omega) hf hJ

set_option maxRecDepth 100000 in
theorem frameTorn_lifted (os : Os) (started : os.Started) (H : Type) (enc : TypeId × Value → H) :
    ReturnsInHanded {} Try.checked os 7 .any (Rows.frameTornSpec.pre6 enc Try.prog Try.f7 [] false) (Rows.frameTornSpec.post enc Try.prog Try.f7 false true false false) := by
  refine returnsInHanded_of_change (C := Try.checked) own started (by kernel_rfl) Try.func7
    (ChangeSpec.witness6 (enc := enc) (C := Try.checked) false ⟨#[], #[.slice none 0 0, .int .i64 0, .int .u8 0, .bool false], []⟩ 8 (by kernel_rfl) (by kernel_rfl) (by kernel_rfl) (by kernel_rfl)) ?_
  intro W base args ds gs before hval0 hW _ _
  have hval : ∀ (j : Nat) t v, Try.f7.params[j]? = some t → args[j]? = some v → Value.okWide Try.prog W .any base t v := hval0
  have hW' := hW
  obtain ⟨p, q, hA0, hV, rfl, hfz, hnd⟩ := hW
  have hA : DataW.TrodAll enc Try.prog W 0 (fun _ => true) true Try.f7.params.toList args.toList ds p := hA0
  rw [Try.params7] at hA hval
  obtain ⟨v0, v1, v2, v3, d0, d1, d2, d3, p0, p1, p2, p3, rfl, rfl, rfl, h0, h1, h2, h3⟩ := trodAll_four hA
  obtain ⟨b0, len0, cap0, rfl⟩ := okWide_slice Try.underlying33 (hval 0 33 v0 rfl rfl)
  have k0 := h0
  obtain ⟨fuel0, g0⟩ := h0
  obtain ⟨a1, rfl, rfl, rfl, wf1⟩ := open_int Try.underlying3 (hval 1 3 v1 rfl rfl) h1
  obtain ⟨a2, rfl, rfl, rfl, wf2⟩ := open_int Try.underlying5 (hval 2 5 v2 rfl rfl) h2
  obtain ⟨a3, rfl, rfl, rfl⟩ := open_bool Try.underlying4 (hval 3 4 v3 rfl rfl) h3
  obtain ⟨rfl, rfl⟩ := trodVars_none hV
  clear hA0 hval0
  simp only [List.append_nil] at hW'
  have hlt : ∀ x ∈ p0 ++ [] ++ [] ++ [], x.block < W.heap.size := fun x hx => hW'.lt x (by simpa using hx)
  obtain ⟨ao0, c0, xs0, hv0, r0⟩ := open_rb g0
  have hwf1 := wf1
  simp [Lit.wf, IntKind.min, IntKind.max, IntKind.signed, IntKind.bits] at hwf1
  have hwf2 := wf2
  simp [Lit.wf, IntKind.min, IntKind.max, IntKind.signed, IntKind.bits] at hwf2
  refine Calls.mono (?walk : Calls _ _ _ _ fun e w' => e = .returned (.bool true) ∧ Below W.heap.size W w') fun e W' ⟨he, hw⟩ => ?_
  case walk =>
    rw [hv0]
    exact frameTorn_walk W ao0 c0 xs0 r0 a1 (by omega) (by omega) a2 (by omega) (by omega) a3
  subst he
  exact ⟨_, rfl, post_of_below (pa := p0 ++ ([] ++ ([] ++ []))) (pv := []) hW' (fun _ _ _ => trodAll_mk1 (shut_bool Try.underlying4 _)) (fun sp hsp => trodAll_mk4 (WideElems.Trod_stays laidOut (by kernel_rfl) (of_decide_eq_true (by kernel_rfl)) k0 (fun x hx => hw.same (hlt x (by first | (simp [hx]; done) | exact nomatch hx))) (fun x hx => hsp x (by first | (simp [hx]; done) | exact nomatch hx))) (shut_int Try.underlying3 wf1) (shut_int Try.underlying5 wf2) (shut_bool Try.underlying4 _)) (fun _ _ => rfl) (by simp) hw (ok_one (by kernel_rfl) rfl (okWide_bool_mk Try.underlying4 _))⟩
/-- THE ROW. -/
theorem frameTorn_holds : Rows.FrameTornSaid :=
  OpenClaim.holds_of_wide 7 Try.f7 rfl rfl rfl rfl rfl rfl rfl ⟨rfl, rfl, rfl, rfl, rfl⟩ rfl rfl rfl rfl rfl (by kernel_rfl) Try.func7 (by kernel_rfl)
    (of_decide_eq_true (by kernel_rfl)) (by unfold Func.isWrapper; first | (rw [if_pos (by decide +kernel)]; kernel_rfl) | (rw [if_neg (by decide +kernel)]; exact ⟨rfl, rfl⟩))
    (fun os started H enc _ => frameTorn_lifted os started H enc)
#print axioms frameTorn_holds
end Go.Proofs.Ytcpncmdnefemmaa
