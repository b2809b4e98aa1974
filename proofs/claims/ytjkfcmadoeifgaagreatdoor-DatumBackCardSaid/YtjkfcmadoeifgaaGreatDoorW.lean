/- num.Parse. Conditions: texts of at most a million bytes. -/
import Derived.Test.YtjkfcmadoeifgaaGreatDoorV
namespace Go.Proofs.YtjkfcmadoeifgaaGreatDoor
open Go.RowKit Go.Lib

theorem cut_l (t a k : List UInt8) (f : Bool) (h : Lib.cut t [112] = (a, k, f)) (hs : t.length ≤ 1000000) (w : World) :
    Calls Tryz.prog 103 #[.string ⟨t.toArray⟩, .string ⟨#[112]⟩] w fun e w' => e = .returned (.tuple #[.string ⟨a.toArray⟩, .string ⟨k.toArray⟩, .bool f]) ∧ Drew w w' := by
  have := cut_p ⟨t.toArray⟩ w (by rw [mk_size]; exact hs)
  rw [mk_list, h] at this
  exact this
theorem isCount_l (t : List UInt8) (b : Bool) (h : cntB t = b) (hs : t.length ≤ 1000000) (w : World) :
    Calls Tryz.prog 104 #[.string ⟨t.toArray⟩] w fun e w' => e = .returned (.bool b) ∧ Below w.heap.size w w' := by
  have := isCount_any ⟨t.toArray⟩ (by rw [mk_size]; exact hs) w
  rw [mk_list, h] at this
  exact this
theorem isInteger_l (t : List UInt8) (b : Bool) (h : intB t = b) (hs : t.length ≤ 1000000) (w : World) :
    Calls Tryz.prog 105 #[.string ⟨t.toArray⟩] w fun e w' => e = .returned (.bool b) ∧ Below w.heap.size w w' := by
  have := isInteger_any ⟨t.toArray⟩ (by rw [mk_size]; exact hs) w
  rw [mk_list, h] at this
  exact this
theorem cntB_digits {t : List UInt8} (h : cntB t = true) : t.all digB = true := by
  cases t with
  | nil => cases h
  | cons c t => simp only [cntB, Bool.and_eq_true] at h; exact h.2
theorem intB_digits {t : List UInt8} (h : intB t = true) : (Lib.trimPrefix t [45]).all digB = true := by
  unfold intB at h
  rw [Bool.or_eq_true] at h
  rcases h with h | h
  · have : t = [48] := by simpa using h
    subst this; rfl
  · exact cntB_digits h
theorem countOf_l (t : List UInt8) (h : cntB t = true) (hs : t.length ≤ 1000000) (w : World) :
    Calls Tryz.prog 107 #[.string ⟨t.toArray⟩] w fun e w' => e = .returned (.int .i64 (satN t : Nat)) ∧ Below w.heap.size w w' := by
  have := countOf_any ⟨t.toArray⟩ (by rw [mk_size]; exact hs) (by rw [mk_list]; exact cntB_digits h) w
  rw [mk_list] at this
  exact this
theorem integerOf_l (t : List UInt8) (h : intB t = true) (hs : t.length ≤ 1000000) (w : World) :
    Calls Tryz.prog 108 #[.string ⟨t.toArray⟩] w fun e w' => e = .returned (.int .i64 (intN t)) ∧ Below w.heap.size w w' := by
  have := integerOf_any ⟨t.toArray⟩ (by rw [mk_size]; exact hs) (by rw [mk_list]; exact intB_digits h) w
  rw [mk_list] at this
  exact this
theorem intN_le (t : List UInt8) : intN t ≤ 9007199254740992 := by
  have := satN_le (Lib.trimPrefix t [45])
  unfold intN
  cases Lib.hasPrefix t [45]
  · simp only [cond_false]; omega
  · simp only [cond_true]; omega
theorem drew_below {w w' : World} (h : Drew w w') : Below w.heap.size w w' := by
  obtain ⟨n, rfl⟩ := h
  exact below_drewN (Below.refl _ _) n
theorem parse_nan (w : World) : Calls Tryz.prog 88 #[.string ⟨#[110, 97, 110]⟩] w fun e w' => e = .returned (.tuple #[.float .f64 oneNaN, .int .i64 0]) ∧ w = w' := by
  have H := Lib.hid (fun w => of_any 9221120237041090560 w)
  have HC : Hid (canon 9221120237041090560 = oneNaN) := by unfold Hid; decide
  go_enter Tryz.func88, Tryz.ntmps88
  go_wp2_with (go_at_call 78; refine (H.out _).mono ?_; rw [HC.out]; rintro e w' ⟨rfl, rfl⟩)
  go_ret2
  exact ⟨rfl, rfl⟩
theorem parse_inf (w : World) : Calls Tryz.prog 88 #[.string ⟨#[105, 110, 102]⟩] w fun e w' => e = .returned (.tuple #[.float .f64 infR, .int .i64 0]) ∧ w = w' := by
  have H := Lib.hid (fun w => of_any 9218868437227405312 w)
  have HC : Hid (canon 9218868437227405312 = infR) := by unfold Hid; decide
  go_enter Tryz.func88, Tryz.ntmps88
  go_wp2_with (go_at_call 78; refine (H.out _).mono ?_; rw [HC.out]; rintro e w' ⟨rfl, rfl⟩)
  go_ret2
  exact ⟨rfl, rfl⟩
theorem parse_minf (w : World) : Calls Tryz.prog 88 #[.string ⟨#[45, 105, 110, 102]⟩] w fun e w' => e = .returned (.tuple #[.float .f64 18442240474082181120, .int .i64 0]) ∧ w = w' := by
  have H := Lib.hid (fun w => of_any 18442240474082181120 w)
  have HC : Hid (canon 18442240474082181120 = 18442240474082181120) := by unfold Hid; decide
  go_enter Tryz.func88, Tryz.ntmps88
  go_wp2_with (go_at_call 78; refine (H.out _).mono ?_; rw [HC.out]; rintro e w' ⟨rfl, rfl⟩)
  go_ret2
  exact ⟨rfl, rfl⟩
theorem parse_zero (w : World) : Calls Tryz.prog 88 #[.string ⟨#[48]⟩] w fun e w' => e = .returned (.tuple #[.float .f64 0, .int .i64 0]) ∧ w = w' := by
  go_enter Tryz.func88, Tryz.ntmps88
  go_wp2_with fail
  go_ret2
  exact ⟨rfl, rfl⟩
theorem parse_mzero (w : World) : Calls Tryz.prog 88 #[.string ⟨#[45, 48]⟩] w fun e w' => e = .returned (.tuple #[.float .f64 9223372036854775808, .int .i64 0]) ∧ w = w' := by
  have H := Lib.hid (fun w => of_any 9223372036854775808 w)
  have HC : Hid (canon 9223372036854775808 = 9223372036854775808) := by unfold Hid; decide
  go_enter Tryz.func88, Tryz.ntmps88
  go_wp2_with (go_at_call 78; refine (H.out _).mono ?_; rw [HC.out]; rintro e w' ⟨rfl, rfl⟩)
  go_ret2
  exact ⟨rfl, rfl⟩
set_option maxRecDepth 100000 in
set_option maxHeartbeats 800000 in
theorem parse_nocut (s : ByteArray) (n1 : (s.toList == [110, 97, 110]) = false) (n2 : (s.toList == [105, 110, 102]) = false) (n3 : (s.toList == [45, 105, 110, 102]) = false) (n4 : (s.toList == [48]) = false) (n5 : (s.toList == [45, 48]) = false) (t a k : List UInt8) (neg f : Bool) (hp : Lib.hasPrefix s.data.toList (⟨#[45]⟩ : ByteArray).data.toList = neg) (ht : Lib.trimPrefix s.data.toList (⟨#[45]⟩ : ByteArray).data.toList = t)
    (hc : Lib.cut t [112] = (a, k, f)) (htl : t.length ≤ 1000000) (hal : a.length ≤ 1000000) (hkl : k.length ≤ 1000000) (hf : f = false) (w : World) :
    Calls Tryz.prog 88 #[.string s] w fun e w' => e = .returned (.tuple #[.float .f64 0, .int .i64 4]) ∧ Below w.heap.size w w' := by
  have HP := Lib.hid hp; clear hp
  have HT := Lib.hid ht; clear ht
  have HTL := Lib.hid htl; clear htl
  have HAL := Lib.hid hal; clear hal
  have HKL := Lib.hid hkl; clear hkl
  subst hf
  have HC := Lib.hid hc; clear hc
  go_enter Tryz.func88, Tryz.ntmps88
  go_wp2_with (first
    | (go_at_call 57; refine (Tryz.strings_CutPrefix s ⟨#[45]⟩ _).mono ?_; rw [HP.out, HT.out]; rintro e w' ⟨rfl, rfl⟩)
    | (go_at_call 103; refine (cut_l t a k _ HC.out HTL.out _).mono ?_; rintro e w0 ⟨rfl, hb0⟩; have HB0 := Lib.hid (drew_below hb0); clear hb0))
  go_ret2
  exact ⟨rfl, HB0.out⟩
set_option maxRecDepth 100000 in
set_option maxHeartbeats 800000 in
theorem parse_nocount (s : ByteArray) (n1 : (s.toList == [110, 97, 110]) = false) (n2 : (s.toList == [105, 110, 102]) = false) (n3 : (s.toList == [45, 105, 110, 102]) = false) (n4 : (s.toList == [48]) = false) (n5 : (s.toList == [45, 48]) = false) (t a k : List UInt8) (neg f : Bool) (hp : Lib.hasPrefix s.data.toList (⟨#[45]⟩ : ByteArray).data.toList = neg) (ht : Lib.trimPrefix s.data.toList (⟨#[45]⟩ : ByteArray).data.toList = t)
    (hc : Lib.cut t [112] = (a, k, f)) (htl : t.length ≤ 1000000) (hal : a.length ≤ 1000000) (hkl : k.length ≤ 1000000) (hf : f = true) (ha : cntB a = false) (w : World) :
    Calls Tryz.prog 88 #[.string s] w fun e w' => e = .returned (.tuple #[.float .f64 0, .int .i64 4]) ∧ Below w.heap.size w w' := by
  have HP := Lib.hid hp; clear hp
  have HT := Lib.hid ht; clear ht
  have HTL := Lib.hid htl; clear htl
  have HAL := Lib.hid hal; clear hal
  have HKL := Lib.hid hkl; clear hkl
  subst hf
  have HC := Lib.hid hc; clear hc
  have HA := Lib.hid ha; clear ha
  go_enter Tryz.func88, Tryz.ntmps88
  go_wp2_with (first
    | (go_at_call 57; refine (Tryz.strings_CutPrefix s ⟨#[45]⟩ _).mono ?_; rw [HP.out, HT.out]; rintro e w' ⟨rfl, rfl⟩)
    | (go_at_call 103; refine (cut_l t a k _ HC.out HTL.out _).mono ?_; rintro e w0 ⟨rfl, hb0⟩; have HB0 := Lib.hid (drew_below hb0); clear hb0)
    | (go_at_call 104; refine (isCount_l a _ HA.out HAL.out _).mono ?_; rintro e w1 ⟨rfl, hb1⟩; have HB1 := Lib.hid hb1; clear hb1))
  go_ret2
  exact ⟨rfl, HB0.out.trans (HB1.out.mono HB0.out.size)⟩
set_option maxRecDepth 100000 in
set_option maxHeartbeats 800000 in
theorem parse_noint (s : ByteArray) (n1 : (s.toList == [110, 97, 110]) = false) (n2 : (s.toList == [105, 110, 102]) = false) (n3 : (s.toList == [45, 105, 110, 102]) = false) (n4 : (s.toList == [48]) = false) (n5 : (s.toList == [45, 48]) = false) (t a k : List UInt8) (neg f : Bool) (hp : Lib.hasPrefix s.data.toList (⟨#[45]⟩ : ByteArray).data.toList = neg) (ht : Lib.trimPrefix s.data.toList (⟨#[45]⟩ : ByteArray).data.toList = t)
    (hc : Lib.cut t [112] = (a, k, f)) (htl : t.length ≤ 1000000) (hal : a.length ≤ 1000000) (hkl : k.length ≤ 1000000) (hf : f = true) (ha : cntB a = true) (hk : intB k = false) (w : World) :
    Calls Tryz.prog 88 #[.string s] w fun e w' => e = .returned (.tuple #[.float .f64 0, .int .i64 4]) ∧ Below w.heap.size w w' := by
  have HP := Lib.hid hp; clear hp
  have HT := Lib.hid ht; clear ht
  have HTL := Lib.hid htl; clear htl
  have HAL := Lib.hid hal; clear hal
  have HKL := Lib.hid hkl; clear hkl
  subst hf
  have HC := Lib.hid hc; clear hc
  have HA := Lib.hid ha; clear ha
  have HK := Lib.hid hk; clear hk
  go_enter Tryz.func88, Tryz.ntmps88
  go_wp2_with (first
    | (go_at_call 57; refine (Tryz.strings_CutPrefix s ⟨#[45]⟩ _).mono ?_; rw [HP.out, HT.out]; rintro e w' ⟨rfl, rfl⟩)
    | (go_at_call 103; refine (cut_l t a k _ HC.out HTL.out _).mono ?_; rintro e w0 ⟨rfl, hb0⟩; have HB0 := Lib.hid (drew_below hb0); clear hb0)
    | (go_at_call 104; refine (isCount_l a _ HA.out HAL.out _).mono ?_; rintro e w1 ⟨rfl, hb1⟩; have HB1 := Lib.hid hb1; clear hb1)
    | (go_at_call 105; refine (isInteger_l k _ HK.out HKL.out _).mono ?_; rintro e w2 ⟨rfl, hb2⟩; have HB2 := Lib.hid hb2; clear hb2))
  go_ret2
  exact ⟨rfl, HB0.out.trans ((HB1.out.mono HB0.out.size).trans (HB2.out.mono (Nat.le_trans HB0.out.size HB1.out.size)))⟩
set_option maxRecDepth 100000 in
set_option maxHeartbeats 800000 in
theorem parse_range (s : ByteArray) (n1 : (s.toList == [110, 97, 110]) = false) (n2 : (s.toList == [105, 110, 102]) = false) (n3 : (s.toList == [45, 105, 110, 102]) = false) (n4 : (s.toList == [48]) = false) (n5 : (s.toList == [45, 48]) = false) (t a k : List UInt8) (neg f : Bool) (hp : Lib.hasPrefix s.data.toList (⟨#[45]⟩ : ByteArray).data.toList = neg) (ht : Lib.trimPrefix s.data.toList (⟨#[45]⟩ : ByteArray).data.toList = t)
    (hc : Lib.cut t [112] = (a, k, f)) (htl : t.length ≤ 1000000) (hal : a.length ≤ 1000000) (hkl : k.length ≤ 1000000) (hf : f = true) (ha : cntB a = true) (hk : intB k = true) (hfit : ¬ Fits (satN a) (intN k)) (w : World) :
    Calls Tryz.prog 88 #[.string s] w fun e w' => e = .returned (.tuple #[.float .f64 0, .int .i64 1]) ∧ Below w.heap.size w w' := by
  have HP := Lib.hid hp; clear hp
  have HT := Lib.hid ht; clear ht
  have HTL := Lib.hid htl; clear htl
  have HAL := Lib.hid hal; clear hal
  have HKL := Lib.hid hkl; clear hkl
  subst hf
  have HC := Lib.hid hc; clear hc
  have HA := Lib.hid ha; clear ha
  have HK := Lib.hid hk; clear hk
  have HF := Lib.hid hfit; clear hfit
  go_enter Tryz.func88, Tryz.ntmps88
  go_wp2_with (first
    | (go_at_call 57; refine (Tryz.strings_CutPrefix s ⟨#[45]⟩ _).mono ?_; rw [HP.out, HT.out]; rintro e w' ⟨rfl, rfl⟩)
    | (go_at_call 103; refine (cut_l t a k _ HC.out HTL.out _).mono ?_; rintro e w0 ⟨rfl, hb0⟩; have HB0 := Lib.hid (drew_below hb0); clear hb0)
    | (go_at_call 104; refine (isCount_l a _ HA.out HAL.out _).mono ?_; rintro e w1 ⟨rfl, hb1⟩; have HB1 := Lib.hid hb1; clear hb1)
    | (go_at_call 105; refine (isInteger_l k _ HK.out HKL.out _).mono ?_; rintro e w2 ⟨rfl, hb2⟩; have HB2 := Lib.hid hb2; clear hb2)
    | (go_at_call 107; refine (countOf_l a HA.out HAL.out _).mono ?_; rintro e w3 ⟨rfl, hb3⟩; have HB3 := Lib.hid hb3; clear hb3)
    | (go_at_call 108; refine (integerOf_l k HK.out HKL.out _).mono ?_; rintro e w4 ⟨rfl, hb4⟩; have HB4 := Lib.hid hb4; clear hb4)
    | (go_at_call 106; refine (join_no _ _ HF.out (intN_le k) _).mono ?_; rintro e w' ⟨rfl, rfl⟩))
  go_ret2
  exact ⟨rfl, HB0.out.trans ((HB1.out.mono HB0.out.size).trans ((HB2.out.mono (Nat.le_trans HB0.out.size HB1.out.size)).trans ((HB3.out.mono (Nat.le_trans HB0.out.size (Nat.le_trans HB1.out.size HB2.out.size))).trans (HB4.out.mono (Nat.le_trans HB0.out.size (Nat.le_trans HB1.out.size (Nat.le_trans HB2.out.size HB3.out.size)))))))⟩
set_option maxRecDepth 100000 in
set_option maxHeartbeats 800000 in
theorem parse_pos (s : ByteArray) (n1 : (s.toList == [110, 97, 110]) = false) (n2 : (s.toList == [105, 110, 102]) = false) (n3 : (s.toList == [45, 105, 110, 102]) = false) (n4 : (s.toList == [48]) = false) (n5 : (s.toList == [45, 48]) = false) (t a k : List UInt8) (neg f : Bool) (hp : Lib.hasPrefix s.data.toList (⟨#[45]⟩ : ByteArray).data.toList = neg) (ht : Lib.trimPrefix s.data.toList (⟨#[45]⟩ : ByteArray).data.toList = t)
    (hc : Lib.cut t [112] = (a, k, f)) (htl : t.length ≤ 1000000) (hal : a.length ≤ 1000000) (hkl : k.length ≤ 1000000) (hf : f = true) (ha : cntB a = true) (hk : intB k = true) (hfit : Fits (satN a) (intN k)) (hneg : neg = false) (w : World) :
    Calls Tryz.prog 88 #[.string s] w fun e w' => e = .returned (.tuple #[.float .f64 (ofOdd (satN a) (intN k)), .int .i64 0]) ∧ Below w.heap.size w w' := by
  have HP := Lib.hid hp; clear hp
  have HT := Lib.hid ht; clear ht
  have HTL := Lib.hid htl; clear htl
  have HAL := Lib.hid hal; clear hal
  have HKL := Lib.hid hkl; clear hkl
  subst hneg
  subst hf
  have HC := Lib.hid hc; clear hc
  have HA := Lib.hid ha; clear ha
  have HK := Lib.hid hk; clear hk
  have HF := Lib.hid hfit; clear hfit
  go_enter Tryz.func88, Tryz.ntmps88
  go_wp2_with (first
    | (go_at_call 57; refine (Tryz.strings_CutPrefix s ⟨#[45]⟩ _).mono ?_; rw [HP.out, HT.out]; rintro e w' ⟨rfl, rfl⟩)
    | (go_at_call 103; refine (cut_l t a k _ HC.out HTL.out _).mono ?_; rintro e w0 ⟨rfl, hb0⟩; have HB0 := Lib.hid (drew_below hb0); clear hb0)
    | (go_at_call 104; refine (isCount_l a _ HA.out HAL.out _).mono ?_; rintro e w1 ⟨rfl, hb1⟩; have HB1 := Lib.hid hb1; clear hb1)
    | (go_at_call 105; refine (isInteger_l k _ HK.out HKL.out _).mono ?_; rintro e w2 ⟨rfl, hb2⟩; have HB2 := Lib.hid hb2; clear hb2)
    | (go_at_call 107; refine (countOf_l a HA.out HAL.out _).mono ?_; rintro e w3 ⟨rfl, hb3⟩; have HB3 := Lib.hid hb3; clear hb3)
    | (go_at_call 108; refine (integerOf_l k HK.out HKL.out _).mono ?_; rintro e w4 ⟨rfl, hb4⟩; have HB4 := Lib.hid hb4; clear hb4)
    | (go_at_call 106; refine (join_yes _ _ HF.out _).mono ?_; rintro e w' ⟨rfl, rfl⟩))
  go_ret2
  exact ⟨rfl, HB0.out.trans ((HB1.out.mono HB0.out.size).trans ((HB2.out.mono (Nat.le_trans HB0.out.size HB1.out.size)).trans ((HB3.out.mono (Nat.le_trans HB0.out.size (Nat.le_trans HB1.out.size HB2.out.size))).trans (HB4.out.mono (Nat.le_trans HB0.out.size (Nat.le_trans HB1.out.size (Nat.le_trans HB2.out.size HB3.out.size)))))))⟩
/-- A float turned round. -/
theorem xor_top_lo {n : Nat} (h : n < 9223372036854775808) : n ^^^ 9223372036854775808 = 9223372036854775808 + n := by
  have := xor_top_hi (n := 9223372036854775808 + n) (by omega) (by omega)
  have e : n = (9223372036854775808 + n) ^^^ 9223372036854775808 := by rw [this]; omega
  conv => lhs; rw [e, Nat.xor_assoc, Nat.xor_self, Nat.xor_zero]
theorem run_neg_lo {b : Nat} (h : b < 9223372036854775808) (w : World) : (Op.unary .neg (.float .f64 b)).run Tryz.prog w = .ok (.float .f64 (9223372036854775808 + b)) w := by
  have : (Op.unary .neg (.float .f64 b)).run Tryz.prog w = .ok (.float .f64 (b ^^^ 9223372036854775808)) w := rfl
  rw [this, xor_top_lo h]
theorem run_neg_hi {b : Nat} (h : 9223372036854775808 ≤ b) (h2 : b < 18446744073709551616) (w : World) : (Op.unary .neg (.float .f64 b)).run Tryz.prog w = .ok (.float .f64 (b - 9223372036854775808)) w := by
  have : (Op.unary .neg (.float .f64 b)).run Tryz.prog w = .ok (.float .f64 (b ^^^ 9223372036854775808)) w := rfl
  rw [this, xor_top_hi h h2]
set_option maxRecDepth 100000 in
set_option maxHeartbeats 800000 in
theorem parse_neg (s : ByteArray) (n1 : (s.toList == [110, 97, 110]) = false) (n2 : (s.toList == [105, 110, 102]) = false) (n3 : (s.toList == [45, 105, 110, 102]) = false) (n4 : (s.toList == [48]) = false) (n5 : (s.toList == [45, 48]) = false) (t a k : List UInt8) (neg f : Bool) (hp : Lib.hasPrefix s.data.toList (⟨#[45]⟩ : ByteArray).data.toList = neg) (ht : Lib.trimPrefix s.data.toList (⟨#[45]⟩ : ByteArray).data.toList = t)
    (hc : Lib.cut t [112] = (a, k, f)) (htl : t.length ≤ 1000000) (hal : a.length ≤ 1000000) (hkl : k.length ≤ 1000000) (hf : f = true) (ha : cntB a = true) (hk : intB k = true) (hfit : Fits (satN a) (intN k)) (hneg : neg = true) (w : World) :
    Calls Tryz.prog 88 #[.string s] w fun e w' => e = .returned (.tuple #[.float .f64 (9223372036854775808 + ofOdd (satN a) (intN k)), .int .i64 0]) ∧ Below w.heap.size w w' := by
  have HP := Lib.hid hp; clear hp
  have HT := Lib.hid ht; clear ht
  have HTL := Lib.hid htl; clear htl
  have HAL := Lib.hid hal; clear hal
  have HKL := Lib.hid hkl; clear hkl
  subst hneg
  subst hf
  have HC := Lib.hid hc; clear hc
  have HA := Lib.hid ha; clear ha
  have HK := Lib.hid hk; clear hk
  have hngt := run_neg_lo (b := ofOdd (satN a) (intN k)) (by have := (ofOdd_spec hfit).2.1; unfold infR at this; omega)
  have HF := Lib.hid hfit; clear hfit
  go_enter Tryz.func88, Tryz.ntmps88
  go_wp2_with (first
    | (go_at_call 57; refine (Tryz.strings_CutPrefix s ⟨#[45]⟩ _).mono ?_; rw [HP.out, HT.out]; rintro e w' ⟨rfl, rfl⟩)
    | (go_at_call 103; refine (cut_l t a k _ HC.out HTL.out _).mono ?_; rintro e w0 ⟨rfl, hb0⟩; have HB0 := Lib.hid (drew_below hb0); clear hb0)
    | (go_at_call 104; refine (isCount_l a _ HA.out HAL.out _).mono ?_; rintro e w1 ⟨rfl, hb1⟩; have HB1 := Lib.hid hb1; clear hb1)
    | (go_at_call 105; refine (isInteger_l k _ HK.out HKL.out _).mono ?_; rintro e w2 ⟨rfl, hb2⟩; have HB2 := Lib.hid hb2; clear hb2)
    | (go_at_call 107; refine (countOf_l a HA.out HAL.out _).mono ?_; rintro e w3 ⟨rfl, hb3⟩; have HB3 := Lib.hid hb3; clear hb3)
    | (go_at_call 108; refine (integerOf_l k HK.out HKL.out _).mono ?_; rintro e w4 ⟨rfl, hb4⟩; have HB4 := Lib.hid hb4; clear hb4)
    | (go_at_call 106; refine (join_yes _ _ HF.out _).mono ?_; rintro e w' ⟨rfl, rfl⟩))
  go_ret2
  exact ⟨rfl, HB0.out.trans ((HB1.out.mono HB0.out.size).trans ((HB2.out.mono (Nat.le_trans HB0.out.size HB1.out.size)).trans ((HB3.out.mono (Nat.le_trans HB0.out.size (Nat.le_trans HB1.out.size HB2.out.size))).trans (HB4.out.mono (Nat.le_trans HB0.out.size (Nat.le_trans HB1.out.size (Nat.le_trans HB2.out.size HB3.out.size)))))))⟩
end Go.Proofs.YtjkfcmadoeifgaaGreatDoor
