/- What the chapter's examples fix: racelaw8's first answers true. Conditions: the library's table holds what its initialiser lays. -/
import Derived.Test.YtmpokhjchbaleaaDoorD
namespace Go.Proofs.YtmpokhjchbaleaaDoor
open Go.RowKit
theorem ex_print : printS ⟨7, 0, 3⟩ = [55, 46, 48, 46, 51] := by
  have h (u : Nat) (hu : u < 10) : decV (u : Int) = [UInt8.ofNat (48 + u)] := by
    unfold decV
    rw [Lib.itoa_nonneg, Lib.decDigits_one hu]
  unfold printS
  rw [show decV 7 = _ from h 7 (by omega), show decV 0 = _ from h 0 (by omega), show decV 3 = _ from h 3 (by omega)]
  rfl
theorem t1 : newS 3 ⟨5, 0, 9⟩ = (some ⟨5, 0, 3⟩, 0) := by decide +kernel
theorem t2 : mayS ⟨5, 0, 3⟩ = true := by decide +kernel
theorem t2' : mayS ⟨5, 1, 3⟩ = true := by decide +kernel
theorem t3 : peekS ⟨5, 0, 3⟩ 2 = (⟨5, 1, 3⟩, 0) := by decide +kernel
theorem t3' : nowS ⟨5, 0, 3⟩ 2 = ⟨5, 1, 3⟩ := by decide +kernel
theorem t4 : peekS ⟨5, 1, 3⟩ 7 = (⟨7, 0, 3⟩, 0) := by decide +kernel
theorem t4' : nowS ⟨5, 1, 3⟩ 7 = ⟨7, 0, 3⟩ := by decide +kernel
theorem t5 : priorS ⟨1, 0, 0⟩ = (⟨0, 65535, 63⟩, true) := by decide +kernel
theorem t6 : (⟨7, 0, 3⟩ : St).wf := by unfold St.wf; decide +kernel
theorem n_new (w : World) : Calls Tryd.prog 23 #[.int .i64 3, sagg ⟨5, 0, 9⟩] w fun e w' => (∃ k, e = .returned (.tuple #[ptr k, .int .i64 0]) ∧ w.heap.size ≤ k ∧ At w' k ⟨5, 0, 3⟩) ∧ Below w.heap.size w w' := by
  refine (new_any w 3 ⟨5, 0, 9⟩).mono ?_
  rw [t1]
  rintro e w' ⟨⟨v, rfl, k, rfl, hk, ha⟩, hb⟩
  exact ⟨⟨k, rfl, hk, ha⟩, hb⟩
theorem n_2 (w : World) (k : Nat) (h : At w k ⟨5, 0, 3⟩) : Calls Tryd.prog 25 #[ptr k, .int .i64 2] w fun e w' => e = .returned (.tuple #[sagg ⟨5, 1, 3⟩, .int .i64 0]) ∧ Tn (fun j => j = k) w w' ∧ At w' k ⟨5, 1, 3⟩ := by
  have := now_any w k ⟨5, 0, 3⟩ h t2 2
  rw [t3, t3'] at this
  exact this
theorem n_7 (w : World) (k : Nat) (h : At w k ⟨5, 1, 3⟩) : Calls Tryd.prog 25 #[ptr k, .int .i64 7] w fun e w' => e = .returned (.tuple #[sagg ⟨7, 0, 3⟩, .int .i64 0]) ∧ Tn (fun j => j = k) w w' ∧ At w' k ⟨7, 0, 3⟩ := by
  have := now_any w k ⟨5, 1, 3⟩ h t2' 7
  rw [t4, t4'] at this
  exact this
theorem n_p (w : World) : Calls Tryd.prog 11 #[sagg ⟨1, 0, 0⟩] w fun e w' => e = .returned (.tuple #[sagg ⟨0, 65535, 63⟩, .bool true]) ∧ Below w.heap.size w w' := by
  have := prior_any ⟨1, 0, 0⟩ w
  rw [t5] at this
  exact this
theorem q_1 (w : World) : (Op.equalIn 9999 23 (sagg ⟨5, 1, 3⟩) (sagg ⟨5, 1, 3⟩)).run Tryd.prog w = .ok true w := (eq_st _ _ w).trans (by rw [decide_eq_true rfl])
theorem q_2 (w : World) : (Op.equalIn 9999 23 (sagg ⟨7, 0, 3⟩) (sagg ⟨7, 0, 3⟩)).run Tryd.prog w = .ok true w := (eq_st _ _ w).trans (by rw [decide_eq_true rfl])
theorem q_3 (w : World) : (Op.equalIn 9999 23 (sagg ⟨0, 65535, 63⟩) (sagg ⟨0, 65535, 63⟩)).run Tryd.prog w = .ok true w := (eq_st _ _ w).trans (by rw [decide_eq_true rfl])
theorem n_x (w : World) (h : Pow w) : Calls Tryd.prog 19 #[sagg ⟨7, 0, 3⟩] w fun e w' => e = .returned (.string ⟨#[55, 46, 48, 46, 51]⟩) ∧ Below w.heap.size w w' := by
  have := print_any ⟨7, 0, 3⟩ t6 w h
  rw [ex_print] at this
  exact this
set_option maxRecDepth 100000 in
set_option maxHeartbeats 1000000 in
theorem first_any (w : World) (hT : Pow w) : Calls Tryd.prog 10 #[] w fun e w' => e = .returned (.bool true) ∧ Below w.heap.size w w' := by
  have HT := Lib.hid hT
  have q1 := q_1
  have q2 := q_2
  have q3 := q_3
  clear hT
  go_enter Tryd.func10, Tryd.ntmps10
  go_wp2_with (first
    | (go_at_call 23; (with_reducible refine (n_new _).mono ?_); rintro e w1 ⟨⟨k, rfl, hk, ha⟩, hb⟩; have HB := Lib.hid hb; have HK := Lib.hid ha; have HKk := Lib.hid hk; clear hb ha hk)
    | (go_at_call 25; (with_reducible refine (n_2 _ _ HK.out).mono ?_); rintro e w2 ⟨rfl, ht, ha⟩; have HB2 := Lib.hid ((HB.out.trans (ht.below (B := w.heap.size) HB.out.size (fun j e => e ▸ HKk.out))).alloc (Nat.le_trans HB.out.size ht.size) (sobj ⟨5, 1, 3⟩)); have HA := Lib.hid (at_new w2 ⟨5, 1, 3⟩); have HK2 := Lib.hid (ha.alloc (sobj ⟨5, 1, 3⟩)); have HL := Lib.hid (show k < w2.heap.size from ha.lt); clear ht ha)
    | (go_at_call 25; (with_reducible refine (n_7 _ _ HK2.out).mono ?_); rintro e w3 ⟨rfl, ht, ha⟩; have HB3 := Lib.hid ((HB2.out.trans (ht.below (B := w.heap.size) HB2.out.size (fun j e => e ▸ HKk.out))).alloc (Nat.le_trans HB2.out.size ht.size) (sobj ⟨7, 0, 3⟩)); have HA := Lib.hid ((HA.out.tn ht (fun e => Nat.lt_irrefl _ (Nat.lt_of_lt_of_eq HL.out e))).alloc (sobj ⟨7, 0, 3⟩)); have HA2 := Lib.hid (at_new w3 ⟨7, 0, 3⟩); clear ht ha)
    | (go_at_call 11; (with_reducible refine (n_p _).mono ?_); rintro e w4 ⟨rfl, hb⟩; have HB4 := Lib.hid ((HB3.out.trans (hb.mono HB3.out.size)).alloc (Nat.le_trans HB3.out.size hb.size) (sobj ⟨0, 65535, 63⟩)); have HA := Lib.hid ((HA.out.below hb HA.out.lt)); have HA2 := Lib.hid ((HA2.out.below hb HA2.out.lt)); have HA3 := Lib.hid (at_new w4 ⟨0, 65535, 63⟩); have a0 := HA.out.c0; have a1 := HA.out.c1; have a2 := HA.out.c2; have a3 := HA.out.lt; have b0 := HA2.out.c0; have b1 := HA2.out.c1; have b2 := HA2.out.c2; have b3 := HA2.out.lt; clear hb)
    | (go_at_call 19; (with_reducible refine (n_x _ (HT.out.below HB4.out)).mono ?_); rintro e w5 ⟨rfl, hb⟩; have HB5 := Lib.hid (HB4.out.trans (hb.mono HB4.out.size)); clear hb))
  go_ret
  exact ⟨rfl, HB5.out⟩
end Go.Proofs.YtmpokhjchbaleaaDoor
