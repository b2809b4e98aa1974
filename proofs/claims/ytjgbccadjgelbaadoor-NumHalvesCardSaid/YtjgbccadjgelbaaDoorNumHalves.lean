/- For any two floats, num's sum and product turned round are the same, what is taken from itself is nought, or NaN of what is infinite or none, a product or quotient with 1 is itself, and the least and the most of two are the two: racelaw1.NumHalves answers true and leaves its arguments as they were. Conditions: none beyond the row's own (the listed tables of Go's library, tied to the program's text). -/
import Derived.Test.YtjgbccadjgelbaaDoorRows
import Derived.Test.YtjgbccadjgelbaaDoorCards
import Derived.Test.YtjgbccadjgelbaaDoorTie
import Derived.Test.YtjgbccadjgelbaaDoorE
import Derived.Test.YtjgbccadjgelbaaDoorF
import Derived.Test.YtjgbccadjgelbaaDoorG
import Derived.Test.YtjgbccadjgelbaaDoorY
import Derived.Test.YtjgbccadjgelbaaDoorZ
import Derived.Test.YtjgbccadjgelbaaDoorHelp
import Derived.Test.YtjgbccadjgelbaaDoorHalf
import Derived.SevenTiedAt
namespace Go.Proofs.YtjgbccadjgelbaaDoor
open Go.ChangeShapes Go.WideShapes Go.ChangeAt Go.RowKit
theorem add_is (a b k : Nat) (h : resN (Ieee.double.add a b) = k) (w : World) :
    Calls Tryd.prog 29 #[.float .f64 a, .float .f64 b] w fun e w' => e = .returned (.float .f64 k) ∧ Drew w w' := by
  subst h; exact add_any a b w
theorem sub_is (a b k : Nat) (h : resN (Ieee.double.sub a b) = k) (w : World) :
    Calls Tryd.prog 31 #[.float .f64 a, .float .f64 b] w fun e w' => e = .returned (.float .f64 k) ∧ Drew w w' := by
  subst h; exact sub_any a b w
theorem mul_is (a b k : Nat) (h : resN (Ieee.double.mul a b) = k) (w : World) :
    Calls Tryd.prog 32 #[.float .f64 a, .float .f64 b] w fun e w' => e = .returned (.float .f64 k) ∧ Drew w w' := by
  subst h; exact mul_any a b w
theorem div_is (a b k : Nat) (h : resN (Ieee.double.div a b) = k) (w : World) :
    Calls Tryd.prog 33 #[.float .f64 a, .float .f64 b] w fun e w' => e = .returned (.float .f64 k) ∧ Drew w w' := by
  subst h; exact div_any a b w
set_option maxRecDepth 100000 in
set_option maxHeartbeats 1600000 in
theorem numHalves_A_in (a b ca cb u v c : Nat) (k : Int) (ha : a < 18446744073709551616) (hb : b < 18446744073709551616) (hca : ca < 18446744073709551616) (hcb : cb < 18446744073709551616) (hk : k ≤ 0)
    (c0 : ((c : Int) == 0) = false) (c1 : ((c : Int) == 1) = false) (c8 : ((c : Int) == 8) = false) (HCL : Hid (clsN a = c)) (HSUB : Hid (resN (Ieee.double.sub a a) = 0)) (HS0 : Hid (canon 0 = 0))
    (HCA : Hid (canon a = ca)) (HCB : Hid (canon b = cb)) (HCCA : Hid (canon ca = ca)) (HCCB : Hid (canon cb = cb))
    (HU1 : Hid (resN (Ieee.double.add a b) = u)) (HU2 : Hid (resN (Ieee.double.add b a) = u)) (HU : Hid (canon u = u)) (HV1 : Hid (resN (Ieee.double.mul a b) = v)) (HV2 : Hid (resN (Ieee.double.mul b a) = v)) (HV : Hid (canon v = v))
    (HLE : Hid (leastN a b = ca)) (HMO : Hid (mostN a b = cb)) (HK : Hid (cmpN (rankN ca) (rankN cb) = k)) (HM1 : Hid (resN (Ieee.double.mul a 4607182418800017408) = ca)) (HD1 : Hid (resN (Ieee.double.div a 4607182418800017408) = ca)) (w : World) (hT : Tabs w) :
    Calls Tryd.prog 11 #[.float .f64 a, .float .f64 b] w fun e w' => e = .returned (.bool true) ∧ Below w.heap.size w w' := by
  have HT := Lib.hid hT; clear hT
  have HA := Lib.hid ha; clear ha
  have HBB := Lib.hid hb; clear hb
  have HCAL := Lib.hid hca; clear hca
  have HCBL := Lib.hid hcb; clear hcb
  go_enter Tryd.func11, Tryd.ntmps11
  go_wp2_with (first
    | (go_at_call 15; refine (first_any _ HT.out).mono ?_; rintro e w1 ⟨rfl, hb1⟩; have HT1 := Lib.hid (HT.out.below hb1); have HB1 := Lib.hid hb1; clear hb1 HT)
    | (go_at_call 15; refine (first_any _ (tabs_drewN HT1.out _)).mono ?_; rintro e w2 ⟨rfl, hb2⟩; have HB2 := Lib.hid hb2; clear hb2)
    | (go_at_call 23; ((with_reducible refine (class_is a _ HCL.out HA.out _).mono ?_)); rintro e w' ⟨rfl, rfl⟩)
    | (go_at_call 31; ((with_reducible refine (sub_is a a _ HSUB.out _).mono ?_)); rintro e w' ⟨rfl, n, rfl⟩)
    | (go_at_call 29; first
        | ((with_reducible refine (add_is a b _ HU1.out _).mono ?_); rintro e w' ⟨rfl, n, rfl⟩)
        | ((with_reducible refine (add_is b a _ HU2.out _).mono ?_); rintro e w' ⟨rfl, n, rfl⟩))
    | (go_at_call 32; first
        | ((with_reducible refine (mul_is a b _ HV1.out _).mono ?_); rintro e w' ⟨rfl, n, rfl⟩)
        | ((with_reducible refine (mul_is b a _ HV2.out _).mono ?_); rintro e w' ⟨rfl, n, rfl⟩)
        | ((with_reducible refine (mul_is a 4607182418800017408 _ HM1.out _).mono ?_); rintro e w' ⟨rfl, n, rfl⟩))
    | (go_at_call 33; ((with_reducible refine (div_is a 4607182418800017408 _ HD1.out _).mono ?_)); rintro e w' ⟨rfl, n, rfl⟩)
    | (go_at_call 34; ((with_reducible refine (least_is a b _ HLE.out HA.out HBB.out _).mono ?_)); rintro e w' ⟨rfl, rfl⟩)
    | (go_at_call 35; ((with_reducible refine (most_is a b _ HMO.out HA.out HBB.out _).mono ?_)); rintro e w' ⟨rfl, rfl⟩)
    | (go_at_call 36; ((with_reducible refine (cmp_is ca cb _ HK.out HCAL.out HCBL.out _).mono ?_)); rintro e w' ⟨rfl, rfl⟩)
    | (go_at_call 21; first
        | ((with_reducible refine (bits_is a _ HCA.out _).mono ?_); rintro e w' ⟨rfl, rfl⟩)
        | ((with_reducible refine (bits_is b _ HCB.out _).mono ?_); rintro e w' ⟨rfl, rfl⟩)
        | ((with_reducible refine (bits_is ca _ HCCA.out _).mono ?_); rintro e w' ⟨rfl, rfl⟩)
        | ((with_reducible refine (bits_is cb _ HCCB.out _).mono ?_); rintro e w' ⟨rfl, rfl⟩)
        | ((with_reducible refine (bits_is u _ HU.out _).mono ?_); rintro e w' ⟨rfl, rfl⟩)
        | ((with_reducible refine (bits_is v _ HV.out _).mono ?_); rintro e w' ⟨rfl, rfl⟩)
        | ((with_reducible refine (bits_is 0 _ HS0.out _).mono ?_); rintro e w' ⟨rfl, rfl⟩)))
  all_goals go_ret
  all_goals exact ⟨by first | rfl | (refine ret_b ?_; simp; done) | (refine ret_b ?_; simp; omega), below_drewN (HB1.out.trans ((below_drewN (Below.refl _ _) _).trans (HB2.out.mono HB1.out.size))) _⟩
set_option maxRecDepth 100000 in
set_option maxHeartbeats 1600000 in
theorem numHalves_A_0 (a b ca cb u v : Nat) (k : Int) (ha : a < 18446744073709551616) (hb : b < 18446744073709551616) (hca : ca < 18446744073709551616) (hcb : cb < 18446744073709551616) (hk : k ≤ 0)
    (HCL : Hid (clsN a = 0)) (HSUB : Hid (resN (Ieee.double.sub a a) = oneNaN)) (HS0 : Hid (canon oneNaN = oneNaN)) (HSN : Hid (clsN oneNaN = 0)) (HNL : Hid (oneNaN < 18446744073709551616)) (hnz : (((oneNaN : Nat) : Int) == 0) = false)
    (HCA : Hid (canon a = ca)) (HCB : Hid (canon b = cb)) (HCCA : Hid (canon ca = ca)) (HCCB : Hid (canon cb = cb))
    (HU1 : Hid (resN (Ieee.double.add a b) = u)) (HU2 : Hid (resN (Ieee.double.add b a) = u)) (HU : Hid (canon u = u)) (HV1 : Hid (resN (Ieee.double.mul a b) = v)) (HV2 : Hid (resN (Ieee.double.mul b a) = v)) (HV : Hid (canon v = v))
    (HLE : Hid (leastN a b = ca)) (HMO : Hid (mostN a b = cb)) (HK : Hid (cmpN (rankN ca) (rankN cb) = k)) (HM1 : Hid (resN (Ieee.double.mul a 4607182418800017408) = ca)) (HD1 : Hid (resN (Ieee.double.div a 4607182418800017408) = ca)) (w : World) (hT : Tabs w) :
    Calls Tryd.prog 11 #[.float .f64 a, .float .f64 b] w fun e w' => e = .returned (.bool true) ∧ Below w.heap.size w w' := by
  have HT := Lib.hid hT; clear hT
  have HA := Lib.hid ha; clear ha
  have HBB := Lib.hid hb; clear hb
  have HCAL := Lib.hid hca; clear hca
  have HCBL := Lib.hid hcb; clear hcb
  go_enter Tryd.func11, Tryd.ntmps11
  go_wp2_with (first
    | (go_at_call 15; refine (first_any _ HT.out).mono ?_; rintro e w1 ⟨rfl, hb1⟩; have HT1 := Lib.hid (HT.out.below hb1); have HB1 := Lib.hid hb1; clear hb1 HT)
    | (go_at_call 15; refine (first_any _ (tabs_drewN HT1.out _)).mono ?_; rintro e w2 ⟨rfl, hb2⟩; have HB2 := Lib.hid hb2; clear hb2)
    | (go_at_call 23; first
        | ((with_reducible refine (class_is a _ HCL.out HA.out _).mono ?_); rintro e w' ⟨rfl, rfl⟩)
        | ((with_reducible refine (class_is oneNaN _ HSN.out HNL.out _).mono ?_); rintro e w' ⟨rfl, rfl⟩))
    | (go_at_call 31; ((with_reducible refine (sub_is a a _ HSUB.out _).mono ?_)); rintro e w' ⟨rfl, n, rfl⟩)
    | (go_at_call 29; first
        | ((with_reducible refine (add_is a b _ HU1.out _).mono ?_); rintro e w' ⟨rfl, n, rfl⟩)
        | ((with_reducible refine (add_is b a _ HU2.out _).mono ?_); rintro e w' ⟨rfl, n, rfl⟩))
    | (go_at_call 32; first
        | ((with_reducible refine (mul_is a b _ HV1.out _).mono ?_); rintro e w' ⟨rfl, n, rfl⟩)
        | ((with_reducible refine (mul_is b a _ HV2.out _).mono ?_); rintro e w' ⟨rfl, n, rfl⟩)
        | ((with_reducible refine (mul_is a 4607182418800017408 _ HM1.out _).mono ?_); rintro e w' ⟨rfl, n, rfl⟩))
    | (go_at_call 33; ((with_reducible refine (div_is a 4607182418800017408 _ HD1.out _).mono ?_)); rintro e w' ⟨rfl, n, rfl⟩)
    | (go_at_call 34; ((with_reducible refine (least_is a b _ HLE.out HA.out HBB.out _).mono ?_)); rintro e w' ⟨rfl, rfl⟩)
    | (go_at_call 35; ((with_reducible refine (most_is a b _ HMO.out HA.out HBB.out _).mono ?_)); rintro e w' ⟨rfl, rfl⟩)
    | (go_at_call 36; ((with_reducible refine (cmp_is ca cb _ HK.out HCAL.out HCBL.out _).mono ?_)); rintro e w' ⟨rfl, rfl⟩)
    | (go_at_call 21; first
        | ((with_reducible refine (bits_is a _ HCA.out _).mono ?_); rintro e w' ⟨rfl, rfl⟩)
        | ((with_reducible refine (bits_is b _ HCB.out _).mono ?_); rintro e w' ⟨rfl, rfl⟩)
        | ((with_reducible refine (bits_is ca _ HCCA.out _).mono ?_); rintro e w' ⟨rfl, rfl⟩)
        | ((with_reducible refine (bits_is cb _ HCCB.out _).mono ?_); rintro e w' ⟨rfl, rfl⟩)
        | ((with_reducible refine (bits_is u _ HU.out _).mono ?_); rintro e w' ⟨rfl, rfl⟩)
        | ((with_reducible refine (bits_is v _ HV.out _).mono ?_); rintro e w' ⟨rfl, rfl⟩)
        | ((with_reducible refine (bits_is oneNaN _ HS0.out _).mono ?_); rintro e w' ⟨rfl, rfl⟩)))
  all_goals go_ret
  all_goals exact ⟨by first | rfl | (refine ret_b ?_; simp; done) | (refine ret_b ?_; simp; omega), below_drewN (HB1.out.trans ((below_drewN (Below.refl _ _) _).trans (HB2.out.mono HB1.out.size))) _⟩
set_option maxRecDepth 100000 in
set_option maxHeartbeats 1600000 in
theorem numHalves_A_1 (a b ca cb u v : Nat) (k : Int) (ha : a < 18446744073709551616) (hb : b < 18446744073709551616) (hca : ca < 18446744073709551616) (hcb : cb < 18446744073709551616) (hk : k ≤ 0)
    (HCL : Hid (clsN a = 1)) (HSUB : Hid (resN (Ieee.double.sub a a) = oneNaN)) (HS0 : Hid (canon oneNaN = oneNaN)) (HSN : Hid (clsN oneNaN = 0)) (HNL : Hid (oneNaN < 18446744073709551616)) (hnz : (((oneNaN : Nat) : Int) == 0) = false)
    (HCA : Hid (canon a = ca)) (HCB : Hid (canon b = cb)) (HCCA : Hid (canon ca = ca)) (HCCB : Hid (canon cb = cb))
    (HU1 : Hid (resN (Ieee.double.add a b) = u)) (HU2 : Hid (resN (Ieee.double.add b a) = u)) (HU : Hid (canon u = u)) (HV1 : Hid (resN (Ieee.double.mul a b) = v)) (HV2 : Hid (resN (Ieee.double.mul b a) = v)) (HV : Hid (canon v = v))
    (HLE : Hid (leastN a b = ca)) (HMO : Hid (mostN a b = cb)) (HK : Hid (cmpN (rankN ca) (rankN cb) = k)) (HM1 : Hid (resN (Ieee.double.mul a 4607182418800017408) = ca)) (HD1 : Hid (resN (Ieee.double.div a 4607182418800017408) = ca)) (w : World) (hT : Tabs w) :
    Calls Tryd.prog 11 #[.float .f64 a, .float .f64 b] w fun e w' => e = .returned (.bool true) ∧ Below w.heap.size w w' := by
  have HT := Lib.hid hT; clear hT
  have HA := Lib.hid ha; clear ha
  have HBB := Lib.hid hb; clear hb
  have HCAL := Lib.hid hca; clear hca
  have HCBL := Lib.hid hcb; clear hcb
  go_enter Tryd.func11, Tryd.ntmps11
  go_wp2_with (first
    | (go_at_call 15; refine (first_any _ HT.out).mono ?_; rintro e w1 ⟨rfl, hb1⟩; have HT1 := Lib.hid (HT.out.below hb1); have HB1 := Lib.hid hb1; clear hb1 HT)
    | (go_at_call 15; refine (first_any _ (tabs_drewN HT1.out _)).mono ?_; rintro e w2 ⟨rfl, hb2⟩; have HB2 := Lib.hid hb2; clear hb2)
    | (go_at_call 23; first
        | ((with_reducible refine (class_is a _ HCL.out HA.out _).mono ?_); rintro e w' ⟨rfl, rfl⟩)
        | ((with_reducible refine (class_is oneNaN _ HSN.out HNL.out _).mono ?_); rintro e w' ⟨rfl, rfl⟩))
    | (go_at_call 31; ((with_reducible refine (sub_is a a _ HSUB.out _).mono ?_)); rintro e w' ⟨rfl, n, rfl⟩)
    | (go_at_call 29; first
        | ((with_reducible refine (add_is a b _ HU1.out _).mono ?_); rintro e w' ⟨rfl, n, rfl⟩)
        | ((with_reducible refine (add_is b a _ HU2.out _).mono ?_); rintro e w' ⟨rfl, n, rfl⟩))
    | (go_at_call 32; first
        | ((with_reducible refine (mul_is a b _ HV1.out _).mono ?_); rintro e w' ⟨rfl, n, rfl⟩)
        | ((with_reducible refine (mul_is b a _ HV2.out _).mono ?_); rintro e w' ⟨rfl, n, rfl⟩)
        | ((with_reducible refine (mul_is a 4607182418800017408 _ HM1.out _).mono ?_); rintro e w' ⟨rfl, n, rfl⟩))
    | (go_at_call 33; ((with_reducible refine (div_is a 4607182418800017408 _ HD1.out _).mono ?_)); rintro e w' ⟨rfl, n, rfl⟩)
    | (go_at_call 34; ((with_reducible refine (least_is a b _ HLE.out HA.out HBB.out _).mono ?_)); rintro e w' ⟨rfl, rfl⟩)
    | (go_at_call 35; ((with_reducible refine (most_is a b _ HMO.out HA.out HBB.out _).mono ?_)); rintro e w' ⟨rfl, rfl⟩)
    | (go_at_call 36; ((with_reducible refine (cmp_is ca cb _ HK.out HCAL.out HCBL.out _).mono ?_)); rintro e w' ⟨rfl, rfl⟩)
    | (go_at_call 21; first
        | ((with_reducible refine (bits_is a _ HCA.out _).mono ?_); rintro e w' ⟨rfl, rfl⟩)
        | ((with_reducible refine (bits_is b _ HCB.out _).mono ?_); rintro e w' ⟨rfl, rfl⟩)
        | ((with_reducible refine (bits_is ca _ HCCA.out _).mono ?_); rintro e w' ⟨rfl, rfl⟩)
        | ((with_reducible refine (bits_is cb _ HCCB.out _).mono ?_); rintro e w' ⟨rfl, rfl⟩)
        | ((with_reducible refine (bits_is u _ HU.out _).mono ?_); rintro e w' ⟨rfl, rfl⟩)
        | ((with_reducible refine (bits_is v _ HV.out _).mono ?_); rintro e w' ⟨rfl, rfl⟩)
        | ((with_reducible refine (bits_is oneNaN _ HS0.out _).mono ?_); rintro e w' ⟨rfl, rfl⟩)))
  all_goals go_ret
  all_goals exact ⟨by first | rfl | (refine ret_b ?_; simp; done) | (refine ret_b ?_; simp; omega), below_drewN (HB1.out.trans ((below_drewN (Below.refl _ _) _).trans (HB2.out.mono HB1.out.size))) _⟩
set_option maxRecDepth 100000 in
set_option maxHeartbeats 1600000 in
theorem numHalves_A_8 (a b ca cb u v : Nat) (k : Int) (ha : a < 18446744073709551616) (hb : b < 18446744073709551616) (hca : ca < 18446744073709551616) (hcb : cb < 18446744073709551616) (hk : k ≤ 0)
    (HCL : Hid (clsN a = 8)) (HSUB : Hid (resN (Ieee.double.sub a a) = oneNaN)) (HS0 : Hid (canon oneNaN = oneNaN)) (HSN : Hid (clsN oneNaN = 0)) (HNL : Hid (oneNaN < 18446744073709551616)) (hnz : (((oneNaN : Nat) : Int) == 0) = false)
    (HCA : Hid (canon a = ca)) (HCB : Hid (canon b = cb)) (HCCA : Hid (canon ca = ca)) (HCCB : Hid (canon cb = cb))
    (HU1 : Hid (resN (Ieee.double.add a b) = u)) (HU2 : Hid (resN (Ieee.double.add b a) = u)) (HU : Hid (canon u = u)) (HV1 : Hid (resN (Ieee.double.mul a b) = v)) (HV2 : Hid (resN (Ieee.double.mul b a) = v)) (HV : Hid (canon v = v))
    (HLE : Hid (leastN a b = ca)) (HMO : Hid (mostN a b = cb)) (HK : Hid (cmpN (rankN ca) (rankN cb) = k)) (HM1 : Hid (resN (Ieee.double.mul a 4607182418800017408) = ca)) (HD1 : Hid (resN (Ieee.double.div a 4607182418800017408) = ca)) (w : World) (hT : Tabs w) :
    Calls Tryd.prog 11 #[.float .f64 a, .float .f64 b] w fun e w' => e = .returned (.bool true) ∧ Below w.heap.size w w' := by
  have HT := Lib.hid hT; clear hT
  have HA := Lib.hid ha; clear ha
  have HBB := Lib.hid hb; clear hb
  have HCAL := Lib.hid hca; clear hca
  have HCBL := Lib.hid hcb; clear hcb
  go_enter Tryd.func11, Tryd.ntmps11
  go_wp2_with (first
    | (go_at_call 15; refine (first_any _ HT.out).mono ?_; rintro e w1 ⟨rfl, hb1⟩; have HT1 := Lib.hid (HT.out.below hb1); have HB1 := Lib.hid hb1; clear hb1 HT)
    | (go_at_call 15; refine (first_any _ (tabs_drewN HT1.out _)).mono ?_; rintro e w2 ⟨rfl, hb2⟩; have HB2 := Lib.hid hb2; clear hb2)
    | (go_at_call 23; first
        | ((with_reducible refine (class_is a _ HCL.out HA.out _).mono ?_); rintro e w' ⟨rfl, rfl⟩)
        | ((with_reducible refine (class_is oneNaN _ HSN.out HNL.out _).mono ?_); rintro e w' ⟨rfl, rfl⟩))
    | (go_at_call 31; ((with_reducible refine (sub_is a a _ HSUB.out _).mono ?_)); rintro e w' ⟨rfl, n, rfl⟩)
    | (go_at_call 29; first
        | ((with_reducible refine (add_is a b _ HU1.out _).mono ?_); rintro e w' ⟨rfl, n, rfl⟩)
        | ((with_reducible refine (add_is b a _ HU2.out _).mono ?_); rintro e w' ⟨rfl, n, rfl⟩))
    | (go_at_call 32; first
        | ((with_reducible refine (mul_is a b _ HV1.out _).mono ?_); rintro e w' ⟨rfl, n, rfl⟩)
        | ((with_reducible refine (mul_is b a _ HV2.out _).mono ?_); rintro e w' ⟨rfl, n, rfl⟩)
        | ((with_reducible refine (mul_is a 4607182418800017408 _ HM1.out _).mono ?_); rintro e w' ⟨rfl, n, rfl⟩))
    | (go_at_call 33; ((with_reducible refine (div_is a 4607182418800017408 _ HD1.out _).mono ?_)); rintro e w' ⟨rfl, n, rfl⟩)
    | (go_at_call 34; ((with_reducible refine (least_is a b _ HLE.out HA.out HBB.out _).mono ?_)); rintro e w' ⟨rfl, rfl⟩)
    | (go_at_call 35; ((with_reducible refine (most_is a b _ HMO.out HA.out HBB.out _).mono ?_)); rintro e w' ⟨rfl, rfl⟩)
    | (go_at_call 36; ((with_reducible refine (cmp_is ca cb _ HK.out HCAL.out HCBL.out _).mono ?_)); rintro e w' ⟨rfl, rfl⟩)
    | (go_at_call 21; first
        | ((with_reducible refine (bits_is a _ HCA.out _).mono ?_); rintro e w' ⟨rfl, rfl⟩)
        | ((with_reducible refine (bits_is b _ HCB.out _).mono ?_); rintro e w' ⟨rfl, rfl⟩)
        | ((with_reducible refine (bits_is ca _ HCCA.out _).mono ?_); rintro e w' ⟨rfl, rfl⟩)
        | ((with_reducible refine (bits_is cb _ HCCB.out _).mono ?_); rintro e w' ⟨rfl, rfl⟩)
        | ((with_reducible refine (bits_is u _ HU.out _).mono ?_); rintro e w' ⟨rfl, rfl⟩)
        | ((with_reducible refine (bits_is v _ HV.out _).mono ?_); rintro e w' ⟨rfl, rfl⟩)
        | ((with_reducible refine (bits_is oneNaN _ HS0.out _).mono ?_); rintro e w' ⟨rfl, rfl⟩)))
  all_goals go_ret
  all_goals exact ⟨by first | rfl | (refine ret_b ?_; simp; done) | (refine ret_b ?_; simp; omega), below_drewN (HB1.out.trans ((below_drewN (Below.refl _ _) _).trans (HB2.out.mono HB1.out.size))) _⟩
set_option maxRecDepth 100000 in
set_option maxHeartbeats 1600000 in
theorem numHalves_B_in (a b ca cb u v c : Nat) (k : Int) (ha : a < 18446744073709551616) (hb : b < 18446744073709551616) (hca : ca < 18446744073709551616) (hcb : cb < 18446744073709551616) (hcc : ((cb : Int) == (ca : Int)) = false) (hk : k ≤ 0)
    (c0 : ((c : Int) == 0) = false) (c1 : ((c : Int) == 1) = false) (c8 : ((c : Int) == 8) = false) (HCL : Hid (clsN a = c)) (HSUB : Hid (resN (Ieee.double.sub a a) = 0)) (HS0 : Hid (canon 0 = 0))
    (HCA : Hid (canon a = ca)) (HCB : Hid (canon b = cb)) (HCCA : Hid (canon ca = ca)) (HCCB : Hid (canon cb = cb))
    (HU1 : Hid (resN (Ieee.double.add a b) = u)) (HU2 : Hid (resN (Ieee.double.add b a) = u)) (HU : Hid (canon u = u)) (HV1 : Hid (resN (Ieee.double.mul a b) = v)) (HV2 : Hid (resN (Ieee.double.mul b a) = v)) (HV : Hid (canon v = v))
    (HLE : Hid (leastN a b = cb)) (HMO : Hid (mostN a b = ca)) (HK : Hid (cmpN (rankN cb) (rankN ca) = k)) (HM1 : Hid (resN (Ieee.double.mul a 4607182418800017408) = ca)) (HD1 : Hid (resN (Ieee.double.div a 4607182418800017408) = ca)) (w : World) (hT : Tabs w) :
    Calls Tryd.prog 11 #[.float .f64 a, .float .f64 b] w fun e w' => e = .returned (.bool true) ∧ Below w.heap.size w w' := by
  have HT := Lib.hid hT; clear hT
  have HA := Lib.hid ha; clear ha
  have HBB := Lib.hid hb; clear hb
  have HCAL := Lib.hid hca; clear hca
  have HCBL := Lib.hid hcb; clear hcb
  go_enter Tryd.func11, Tryd.ntmps11
  go_wp2_with (first
    | (go_at_call 15; refine (first_any _ HT.out).mono ?_; rintro e w1 ⟨rfl, hb1⟩; have HT1 := Lib.hid (HT.out.below hb1); have HB1 := Lib.hid hb1; clear hb1 HT)
    | (go_at_call 15; refine (first_any _ (tabs_drewN HT1.out _)).mono ?_; rintro e w2 ⟨rfl, hb2⟩; have HB2 := Lib.hid hb2; clear hb2)
    | (go_at_call 23; ((with_reducible refine (class_is a _ HCL.out HA.out _).mono ?_)); rintro e w' ⟨rfl, rfl⟩)
    | (go_at_call 31; ((with_reducible refine (sub_is a a _ HSUB.out _).mono ?_)); rintro e w' ⟨rfl, n, rfl⟩)
    | (go_at_call 29; first
        | ((with_reducible refine (add_is a b _ HU1.out _).mono ?_); rintro e w' ⟨rfl, n, rfl⟩)
        | ((with_reducible refine (add_is b a _ HU2.out _).mono ?_); rintro e w' ⟨rfl, n, rfl⟩))
    | (go_at_call 32; first
        | ((with_reducible refine (mul_is a b _ HV1.out _).mono ?_); rintro e w' ⟨rfl, n, rfl⟩)
        | ((with_reducible refine (mul_is b a _ HV2.out _).mono ?_); rintro e w' ⟨rfl, n, rfl⟩)
        | ((with_reducible refine (mul_is a 4607182418800017408 _ HM1.out _).mono ?_); rintro e w' ⟨rfl, n, rfl⟩))
    | (go_at_call 33; ((with_reducible refine (div_is a 4607182418800017408 _ HD1.out _).mono ?_)); rintro e w' ⟨rfl, n, rfl⟩)
    | (go_at_call 34; ((with_reducible refine (least_is a b _ HLE.out HA.out HBB.out _).mono ?_)); rintro e w' ⟨rfl, rfl⟩)
    | (go_at_call 35; ((with_reducible refine (most_is a b _ HMO.out HA.out HBB.out _).mono ?_)); rintro e w' ⟨rfl, rfl⟩)
    | (go_at_call 36; ((with_reducible refine (cmp_is cb ca _ HK.out HCBL.out HCAL.out _).mono ?_)); rintro e w' ⟨rfl, rfl⟩)
    | (go_at_call 21; first
        | ((with_reducible refine (bits_is a _ HCA.out _).mono ?_); rintro e w' ⟨rfl, rfl⟩)
        | ((with_reducible refine (bits_is b _ HCB.out _).mono ?_); rintro e w' ⟨rfl, rfl⟩)
        | ((with_reducible refine (bits_is ca _ HCCA.out _).mono ?_); rintro e w' ⟨rfl, rfl⟩)
        | ((with_reducible refine (bits_is cb _ HCCB.out _).mono ?_); rintro e w' ⟨rfl, rfl⟩)
        | ((with_reducible refine (bits_is u _ HU.out _).mono ?_); rintro e w' ⟨rfl, rfl⟩)
        | ((with_reducible refine (bits_is v _ HV.out _).mono ?_); rintro e w' ⟨rfl, rfl⟩)
        | ((with_reducible refine (bits_is 0 _ HS0.out _).mono ?_); rintro e w' ⟨rfl, rfl⟩)))
  all_goals go_ret
  all_goals exact ⟨by first | rfl | (refine ret_b ?_; simp; done) | (refine ret_b ?_; simp; omega), below_drewN (HB1.out.trans ((below_drewN (Below.refl _ _) _).trans (HB2.out.mono HB1.out.size))) _⟩
set_option maxRecDepth 100000 in
set_option maxHeartbeats 1600000 in
theorem numHalves_B_0 (a b ca cb u v : Nat) (k : Int) (ha : a < 18446744073709551616) (hb : b < 18446744073709551616) (hca : ca < 18446744073709551616) (hcb : cb < 18446744073709551616) (hcc : ((cb : Int) == (ca : Int)) = false) (hk : k ≤ 0)
    (HCL : Hid (clsN a = 0)) (HSUB : Hid (resN (Ieee.double.sub a a) = oneNaN)) (HS0 : Hid (canon oneNaN = oneNaN)) (HSN : Hid (clsN oneNaN = 0)) (HNL : Hid (oneNaN < 18446744073709551616)) (hnz : (((oneNaN : Nat) : Int) == 0) = false)
    (HCA : Hid (canon a = ca)) (HCB : Hid (canon b = cb)) (HCCA : Hid (canon ca = ca)) (HCCB : Hid (canon cb = cb))
    (HU1 : Hid (resN (Ieee.double.add a b) = u)) (HU2 : Hid (resN (Ieee.double.add b a) = u)) (HU : Hid (canon u = u)) (HV1 : Hid (resN (Ieee.double.mul a b) = v)) (HV2 : Hid (resN (Ieee.double.mul b a) = v)) (HV : Hid (canon v = v))
    (HLE : Hid (leastN a b = cb)) (HMO : Hid (mostN a b = ca)) (HK : Hid (cmpN (rankN cb) (rankN ca) = k)) (HM1 : Hid (resN (Ieee.double.mul a 4607182418800017408) = ca)) (HD1 : Hid (resN (Ieee.double.div a 4607182418800017408) = ca)) (w : World) (hT : Tabs w) :
    Calls Tryd.prog 11 #[.float .f64 a, .float .f64 b] w fun e w' => e = .returned (.bool true) ∧ Below w.heap.size w w' := by
  have HT := Lib.hid hT; clear hT
  have HA := Lib.hid ha; clear ha
  have HBB := Lib.hid hb; clear hb
  have HCAL := Lib.hid hca; clear hca
  have HCBL := Lib.hid hcb; clear hcb
  go_enter Tryd.func11, Tryd.ntmps11
  go_wp2_with (first
    | (go_at_call 15; refine (first_any _ HT.out).mono ?_; rintro e w1 ⟨rfl, hb1⟩; have HT1 := Lib.hid (HT.out.below hb1); have HB1 := Lib.hid hb1; clear hb1 HT)
    | (go_at_call 15; refine (first_any _ (tabs_drewN HT1.out _)).mono ?_; rintro e w2 ⟨rfl, hb2⟩; have HB2 := Lib.hid hb2; clear hb2)
    | (go_at_call 23; first
        | ((with_reducible refine (class_is a _ HCL.out HA.out _).mono ?_); rintro e w' ⟨rfl, rfl⟩)
        | ((with_reducible refine (class_is oneNaN _ HSN.out HNL.out _).mono ?_); rintro e w' ⟨rfl, rfl⟩))
    | (go_at_call 31; ((with_reducible refine (sub_is a a _ HSUB.out _).mono ?_)); rintro e w' ⟨rfl, n, rfl⟩)
    | (go_at_call 29; first
        | ((with_reducible refine (add_is a b _ HU1.out _).mono ?_); rintro e w' ⟨rfl, n, rfl⟩)
        | ((with_reducible refine (add_is b a _ HU2.out _).mono ?_); rintro e w' ⟨rfl, n, rfl⟩))
    | (go_at_call 32; first
        | ((with_reducible refine (mul_is a b _ HV1.out _).mono ?_); rintro e w' ⟨rfl, n, rfl⟩)
        | ((with_reducible refine (mul_is b a _ HV2.out _).mono ?_); rintro e w' ⟨rfl, n, rfl⟩)
        | ((with_reducible refine (mul_is a 4607182418800017408 _ HM1.out _).mono ?_); rintro e w' ⟨rfl, n, rfl⟩))
    | (go_at_call 33; ((with_reducible refine (div_is a 4607182418800017408 _ HD1.out _).mono ?_)); rintro e w' ⟨rfl, n, rfl⟩)
    | (go_at_call 34; ((with_reducible refine (least_is a b _ HLE.out HA.out HBB.out _).mono ?_)); rintro e w' ⟨rfl, rfl⟩)
    | (go_at_call 35; ((with_reducible refine (most_is a b _ HMO.out HA.out HBB.out _).mono ?_)); rintro e w' ⟨rfl, rfl⟩)
    | (go_at_call 36; ((with_reducible refine (cmp_is cb ca _ HK.out HCBL.out HCAL.out _).mono ?_)); rintro e w' ⟨rfl, rfl⟩)
    | (go_at_call 21; first
        | ((with_reducible refine (bits_is a _ HCA.out _).mono ?_); rintro e w' ⟨rfl, rfl⟩)
        | ((with_reducible refine (bits_is b _ HCB.out _).mono ?_); rintro e w' ⟨rfl, rfl⟩)
        | ((with_reducible refine (bits_is ca _ HCCA.out _).mono ?_); rintro e w' ⟨rfl, rfl⟩)
        | ((with_reducible refine (bits_is cb _ HCCB.out _).mono ?_); rintro e w' ⟨rfl, rfl⟩)
        | ((with_reducible refine (bits_is u _ HU.out _).mono ?_); rintro e w' ⟨rfl, rfl⟩)
        | ((with_reducible refine (bits_is v _ HV.out _).mono ?_); rintro e w' ⟨rfl, rfl⟩)
        | ((with_reducible refine (bits_is oneNaN _ HS0.out _).mono ?_); rintro e w' ⟨rfl, rfl⟩)))
  all_goals go_ret
  all_goals exact ⟨by first | rfl | (refine ret_b ?_; simp; done) | (refine ret_b ?_; simp; omega), below_drewN (HB1.out.trans ((below_drewN (Below.refl _ _) _).trans (HB2.out.mono HB1.out.size))) _⟩
set_option maxRecDepth 100000 in
set_option maxHeartbeats 1600000 in
theorem numHalves_B_1 (a b ca cb u v : Nat) (k : Int) (ha : a < 18446744073709551616) (hb : b < 18446744073709551616) (hca : ca < 18446744073709551616) (hcb : cb < 18446744073709551616) (hcc : ((cb : Int) == (ca : Int)) = false) (hk : k ≤ 0)
    (HCL : Hid (clsN a = 1)) (HSUB : Hid (resN (Ieee.double.sub a a) = oneNaN)) (HS0 : Hid (canon oneNaN = oneNaN)) (HSN : Hid (clsN oneNaN = 0)) (HNL : Hid (oneNaN < 18446744073709551616)) (hnz : (((oneNaN : Nat) : Int) == 0) = false)
    (HCA : Hid (canon a = ca)) (HCB : Hid (canon b = cb)) (HCCA : Hid (canon ca = ca)) (HCCB : Hid (canon cb = cb))
    (HU1 : Hid (resN (Ieee.double.add a b) = u)) (HU2 : Hid (resN (Ieee.double.add b a) = u)) (HU : Hid (canon u = u)) (HV1 : Hid (resN (Ieee.double.mul a b) = v)) (HV2 : Hid (resN (Ieee.double.mul b a) = v)) (HV : Hid (canon v = v))
    (HLE : Hid (leastN a b = cb)) (HMO : Hid (mostN a b = ca)) (HK : Hid (cmpN (rankN cb) (rankN ca) = k)) (HM1 : Hid (resN (Ieee.double.mul a 4607182418800017408) = ca)) (HD1 : Hid (resN (Ieee.double.div a 4607182418800017408) = ca)) (w : World) (hT : Tabs w) :
    Calls Tryd.prog 11 #[.float .f64 a, .float .f64 b] w fun e w' => e = .returned (.bool true) ∧ Below w.heap.size w w' := by
  have HT := Lib.hid hT; clear hT
  have HA := Lib.hid ha; clear ha
  have HBB := Lib.hid hb; clear hb
  have HCAL := Lib.hid hca; clear hca
  have HCBL := Lib.hid hcb; clear hcb
  go_enter Tryd.func11, Tryd.ntmps11
  go_wp2_with (first
    | (go_at_call 15; refine (first_any _ HT.out).mono ?_; rintro e w1 ⟨rfl, hb1⟩; have HT1 := Lib.hid (HT.out.below hb1); have HB1 := Lib.hid hb1; clear hb1 HT)
    | (go_at_call 15; refine (first_any _ (tabs_drewN HT1.out _)).mono ?_; rintro e w2 ⟨rfl, hb2⟩; have HB2 := Lib.hid hb2; clear hb2)
    | (go_at_call 23; first
        | ((with_reducible refine (class_is a _ HCL.out HA.out _).mono ?_); rintro e w' ⟨rfl, rfl⟩)
        | ((with_reducible refine (class_is oneNaN _ HSN.out HNL.out _).mono ?_); rintro e w' ⟨rfl, rfl⟩))
    | (go_at_call 31; ((with_reducible refine (sub_is a a _ HSUB.out _).mono ?_)); rintro e w' ⟨rfl, n, rfl⟩)
    | (go_at_call 29; first
        | ((with_reducible refine (add_is a b _ HU1.out _).mono ?_); rintro e w' ⟨rfl, n, rfl⟩)
        | ((with_reducible refine (add_is b a _ HU2.out _).mono ?_); rintro e w' ⟨rfl, n, rfl⟩))
    | (go_at_call 32; first
        | ((with_reducible refine (mul_is a b _ HV1.out _).mono ?_); rintro e w' ⟨rfl, n, rfl⟩)
        | ((with_reducible refine (mul_is b a _ HV2.out _).mono ?_); rintro e w' ⟨rfl, n, rfl⟩)
        | ((with_reducible refine (mul_is a 4607182418800017408 _ HM1.out _).mono ?_); rintro e w' ⟨rfl, n, rfl⟩))
    | (go_at_call 33; ((with_reducible refine (div_is a 4607182418800017408 _ HD1.out _).mono ?_)); rintro e w' ⟨rfl, n, rfl⟩)
    | (go_at_call 34; ((with_reducible refine (least_is a b _ HLE.out HA.out HBB.out _).mono ?_)); rintro e w' ⟨rfl, rfl⟩)
    | (go_at_call 35; ((with_reducible refine (most_is a b _ HMO.out HA.out HBB.out _).mono ?_)); rintro e w' ⟨rfl, rfl⟩)
    | (go_at_call 36; ((with_reducible refine (cmp_is cb ca _ HK.out HCBL.out HCAL.out _).mono ?_)); rintro e w' ⟨rfl, rfl⟩)
    | (go_at_call 21; first
        | ((with_reducible refine (bits_is a _ HCA.out _).mono ?_); rintro e w' ⟨rfl, rfl⟩)
        | ((with_reducible refine (bits_is b _ HCB.out _).mono ?_); rintro e w' ⟨rfl, rfl⟩)
        | ((with_reducible refine (bits_is ca _ HCCA.out _).mono ?_); rintro e w' ⟨rfl, rfl⟩)
        | ((with_reducible refine (bits_is cb _ HCCB.out _).mono ?_); rintro e w' ⟨rfl, rfl⟩)
        | ((with_reducible refine (bits_is u _ HU.out _).mono ?_); rintro e w' ⟨rfl, rfl⟩)
        | ((with_reducible refine (bits_is v _ HV.out _).mono ?_); rintro e w' ⟨rfl, rfl⟩)
        | ((with_reducible refine (bits_is oneNaN _ HS0.out _).mono ?_); rintro e w' ⟨rfl, rfl⟩)))
  all_goals go_ret
  all_goals exact ⟨by first | rfl | (refine ret_b ?_; simp; done) | (refine ret_b ?_; simp; omega), below_drewN (HB1.out.trans ((below_drewN (Below.refl _ _) _).trans (HB2.out.mono HB1.out.size))) _⟩
set_option maxRecDepth 100000 in
set_option maxHeartbeats 1600000 in
theorem numHalves_B_8 (a b ca cb u v : Nat) (k : Int) (ha : a < 18446744073709551616) (hb : b < 18446744073709551616) (hca : ca < 18446744073709551616) (hcb : cb < 18446744073709551616) (hcc : ((cb : Int) == (ca : Int)) = false) (hk : k ≤ 0)
    (HCL : Hid (clsN a = 8)) (HSUB : Hid (resN (Ieee.double.sub a a) = oneNaN)) (HS0 : Hid (canon oneNaN = oneNaN)) (HSN : Hid (clsN oneNaN = 0)) (HNL : Hid (oneNaN < 18446744073709551616)) (hnz : (((oneNaN : Nat) : Int) == 0) = false)
    (HCA : Hid (canon a = ca)) (HCB : Hid (canon b = cb)) (HCCA : Hid (canon ca = ca)) (HCCB : Hid (canon cb = cb))
    (HU1 : Hid (resN (Ieee.double.add a b) = u)) (HU2 : Hid (resN (Ieee.double.add b a) = u)) (HU : Hid (canon u = u)) (HV1 : Hid (resN (Ieee.double.mul a b) = v)) (HV2 : Hid (resN (Ieee.double.mul b a) = v)) (HV : Hid (canon v = v))
    (HLE : Hid (leastN a b = cb)) (HMO : Hid (mostN a b = ca)) (HK : Hid (cmpN (rankN cb) (rankN ca) = k)) (HM1 : Hid (resN (Ieee.double.mul a 4607182418800017408) = ca)) (HD1 : Hid (resN (Ieee.double.div a 4607182418800017408) = ca)) (w : World) (hT : Tabs w) :
    Calls Tryd.prog 11 #[.float .f64 a, .float .f64 b] w fun e w' => e = .returned (.bool true) ∧ Below w.heap.size w w' := by
  have HT := Lib.hid hT; clear hT
  have HA := Lib.hid ha; clear ha
  have HBB := Lib.hid hb; clear hb
  have HCAL := Lib.hid hca; clear hca
  have HCBL := Lib.hid hcb; clear hcb
  go_enter Tryd.func11, Tryd.ntmps11
  go_wp2_with (first
    | (go_at_call 15; refine (first_any _ HT.out).mono ?_; rintro e w1 ⟨rfl, hb1⟩; have HT1 := Lib.hid (HT.out.below hb1); have HB1 := Lib.hid hb1; clear hb1 HT)
    | (go_at_call 15; refine (first_any _ (tabs_drewN HT1.out _)).mono ?_; rintro e w2 ⟨rfl, hb2⟩; have HB2 := Lib.hid hb2; clear hb2)
    | (go_at_call 23; first
        | ((with_reducible refine (class_is a _ HCL.out HA.out _).mono ?_); rintro e w' ⟨rfl, rfl⟩)
        | ((with_reducible refine (class_is oneNaN _ HSN.out HNL.out _).mono ?_); rintro e w' ⟨rfl, rfl⟩))
    | (go_at_call 31; ((with_reducible refine (sub_is a a _ HSUB.out _).mono ?_)); rintro e w' ⟨rfl, n, rfl⟩)
    | (go_at_call 29; first
        | ((with_reducible refine (add_is a b _ HU1.out _).mono ?_); rintro e w' ⟨rfl, n, rfl⟩)
        | ((with_reducible refine (add_is b a _ HU2.out _).mono ?_); rintro e w' ⟨rfl, n, rfl⟩))
    | (go_at_call 32; first
        | ((with_reducible refine (mul_is a b _ HV1.out _).mono ?_); rintro e w' ⟨rfl, n, rfl⟩)
        | ((with_reducible refine (mul_is b a _ HV2.out _).mono ?_); rintro e w' ⟨rfl, n, rfl⟩)
        | ((with_reducible refine (mul_is a 4607182418800017408 _ HM1.out _).mono ?_); rintro e w' ⟨rfl, n, rfl⟩))
    | (go_at_call 33; ((with_reducible refine (div_is a 4607182418800017408 _ HD1.out _).mono ?_)); rintro e w' ⟨rfl, n, rfl⟩)
    | (go_at_call 34; ((with_reducible refine (least_is a b _ HLE.out HA.out HBB.out _).mono ?_)); rintro e w' ⟨rfl, rfl⟩)
    | (go_at_call 35; ((with_reducible refine (most_is a b _ HMO.out HA.out HBB.out _).mono ?_)); rintro e w' ⟨rfl, rfl⟩)
    | (go_at_call 36; ((with_reducible refine (cmp_is cb ca _ HK.out HCBL.out HCAL.out _).mono ?_)); rintro e w' ⟨rfl, rfl⟩)
    | (go_at_call 21; first
        | ((with_reducible refine (bits_is a _ HCA.out _).mono ?_); rintro e w' ⟨rfl, rfl⟩)
        | ((with_reducible refine (bits_is b _ HCB.out _).mono ?_); rintro e w' ⟨rfl, rfl⟩)
        | ((with_reducible refine (bits_is ca _ HCCA.out _).mono ?_); rintro e w' ⟨rfl, rfl⟩)
        | ((with_reducible refine (bits_is cb _ HCCB.out _).mono ?_); rintro e w' ⟨rfl, rfl⟩)
        | ((with_reducible refine (bits_is u _ HU.out _).mono ?_); rintro e w' ⟨rfl, rfl⟩)
        | ((with_reducible refine (bits_is v _ HV.out _).mono ?_); rintro e w' ⟨rfl, rfl⟩)
        | ((with_reducible refine (bits_is oneNaN _ HS0.out _).mono ?_); rintro e w' ⟨rfl, rfl⟩)))
  all_goals go_ret
  all_goals exact ⟨by first | rfl | (refine ret_b ?_; simp; done) | (refine ret_b ?_; simp; omega), below_drewN (HB1.out.trans ((below_drewN (Below.refl _ _) _).trans (HB2.out.mono HB1.out.size))) _⟩

theorem numHalves_walk (a b : Nat) (ha : a < 18446744073709551616) (hb : b < 18446744073709551616) (w : World) (hT : Tabs w) :
    Calls Tryd.prog 11 #[.float .f64 a, .float .f64 b] w fun e w' => e = .returned (.bool true) ∧ Below w.heap.size w w' := by
  have hca := canon_lt ha
  have hcb := canon_lt hb
  have u2 : resN (Ieee.double.add b a) = resN (Ieee.double.add a b) := by rw [add_comm']
  have v2 : resN (Ieee.double.mul b a) = resN (Ieee.double.mul a b) := by rw [mul_comm']
  have m1 : resN (Ieee.double.mul a 4607182418800017408) = canon a := mul_one_res ha
  have d1 : resN (Ieee.double.div a 4607182418800017408) = canon a := div_one_res ha
  have nz : (((oneNaN : Nat) : Int) == 0) = false := by decide
  by_cases h : rankN a ≤ rankN b
  · have hl := leastN_le h
    have hm : mostN a b = canon b := by
      by_cases h2 : rankN b ≤ rankN a
      · rw [mostN_le h2]; exact rank_inj ha hb (by omega)
      · exact mostN_gt h2
    have hk : cmpN (rankN (canon a)) (rankN (canon b)) ≤ 0 := by rw [rank_canon, rank_canon]; exact cmpN_nonpos h
    rcases sub_self_res ha with ⟨s0, n0, n1, n8⟩ | ⟨s0, hc⟩
    · exact numHalves_A_in a b _ _ _ _ _ _ ha hb hca hcb hk (by simp; omega) (by simp; omega) (by simp; omega) rfl s0 (show canon 0 = 0 by decide) rfl rfl (canon_canon a) (canon_canon b) rfl u2 (canon_res _) rfl v2 (canon_res _) hl hm rfl m1 d1 w hT
    · rcases hc with hc | hc | hc
      · exact numHalves_A_0 a b _ _ _ _ _ ha hb hca hcb hk hc s0 canon_one (cls_nan nanB_one) (show oneNaN < 18446744073709551616 by decide) nz rfl rfl (canon_canon a) (canon_canon b) rfl u2 (canon_res _) rfl v2 (canon_res _) hl hm rfl m1 d1 w hT
      · exact numHalves_A_1 a b _ _ _ _ _ ha hb hca hcb hk hc s0 canon_one (cls_nan nanB_one) (show oneNaN < 18446744073709551616 by decide) nz rfl rfl (canon_canon a) (canon_canon b) rfl u2 (canon_res _) rfl v2 (canon_res _) hl hm rfl m1 d1 w hT
      · exact numHalves_A_8 a b _ _ _ _ _ ha hb hca hcb hk hc s0 canon_one (cls_nan nanB_one) (show oneNaN < 18446744073709551616 by decide) nz rfl rfl (canon_canon a) (canon_canon b) rfl u2 (canon_res _) rfl v2 (canon_res _) hl hm rfl m1 d1 w hT
  · have hl := leastN_gt h
    have hm : mostN a b = canon a := mostN_le (by omega)
    have hne : ((canon b : Int) == (canon a : Int)) = false := by
      have : canon b ≠ canon a := by
        intro e
        have := rank_canon b
        rw [e, rank_canon] at this
        omega
      simp; omega
    have hk : cmpN (rankN (canon b)) (rankN (canon a)) ≤ 0 := by rw [rank_canon, rank_canon]; exact cmpN_nonpos (by omega)
    rcases sub_self_res ha with ⟨s0, n0, n1, n8⟩ | ⟨s0, hc⟩
    · exact numHalves_B_in a b _ _ _ _ _ _ ha hb hca hcb hne hk (by simp; omega) (by simp; omega) (by simp; omega) rfl s0 (show canon 0 = 0 by decide) rfl rfl (canon_canon a) (canon_canon b) rfl u2 (canon_res _) rfl v2 (canon_res _) hl hm rfl m1 d1 w hT
    · rcases hc with hc | hc | hc
      · exact numHalves_B_0 a b _ _ _ _ _ ha hb hca hcb hne hk hc s0 canon_one (cls_nan nanB_one) (show oneNaN < 18446744073709551616 by decide) nz rfl rfl (canon_canon a) (canon_canon b) rfl u2 (canon_res _) rfl v2 (canon_res _) hl hm rfl m1 d1 w hT
      · exact numHalves_B_1 a b _ _ _ _ _ ha hb hca hcb hne hk hc s0 canon_one (cls_nan nanB_one) (show oneNaN < 18446744073709551616 by decide) nz rfl rfl (canon_canon a) (canon_canon b) rfl u2 (canon_res _) rfl v2 (canon_res _) hl hm rfl m1 d1 w hT
      · exact numHalves_B_8 a b _ _ _ _ _ ha hb hca hcb hne hk hc s0 canon_one (cls_nan nanB_one) (show oneNaN < 18446744073709551616 by decide) nz rfl rfl (canon_canon a) (canon_canon b) rfl u2 (canon_res _) rfl v2 (canon_res _) hl hm rfl m1 d1 w hT

set_option maxRecDepth 100000 in
theorem numHalves_lifted (os : Os) (started : os.Started) (H : Type) (enc : TypeId × Value → H) :
    ReturnsInHanded {} Tryd.checked os 11 .any (fun w args => (Rows.numHalvesSpec.pre enc Tryd.prog Tryd.f11 [] false w args ∧ laidMetH Tryd.prog laid3 w) ∧ sizedMet enc Tryd.prog Tryd.f11 (OpenSpec.ofChange Rows.numHalvesSpec) false w args)
      (Rows.numHalvesSpec.post enc Tryd.prog Tryd.f11 false true false false) := by
  refine returnsInHanded_of_change_and (C := Tryd.checked) (X := fun w _ => laidMetH Tryd.prog laid3 w) (fun _ _ _ hh h => h.of_heap hh) own started (by kernel_rfl) Tryd.func11
    (ChangeSpec.witness_shaped (enc := enc) (C := Tryd.checked) (os := os) (X := fun w _ => laidMetH Tryd.prog laid3 w) false (World.doorLaid Tryd.prog 400 os) #[.float .f64 0, .float .f64 0] 8 rfl (World.shaped_of_RefB (by kernel_rfl) (by kernel_rfl)) (by kernel_rfl) (by kernel_rfl) (by kernel_rfl) (door_met os _)) ?_
  intro W base args ds gs before hval0 hW _ _ hL _
  have hval : ∀ (j : Nat) t v, Tryd.f11.params[j]? = some t → args[j]? = some v → Value.okWide Tryd.prog W .any base t v := hval0
  have hW' := hW
  obtain ⟨p, q, hA0, hV, rfl, hfz, hnd⟩ := hW
  have hA : DataW.TrodAll enc Tryd.prog W 0 (fun _ => true) true Tryd.f11.params.toList args.toList ds p := hA0
  rw [Tryd.params11] at hA hval
  obtain ⟨v0, v1, d0, d1, p0, p1, rfl, rfl, rfl, h0, h1⟩ := trodAll_two hA
  obtain ⟨n0, rfl, rfl, rfl, wf0⟩ := open_float Tryd.underlying23 (hval 0 23 v0 rfl rfl) h0
  obtain ⟨n1, rfl, rfl, rfl, wf1⟩ := open_float Tryd.underlying23 (hval 1 23 v1 rfl rfl) h1
  obtain ⟨rfl, rfl⟩ := trodVars_none hV
  clear hA0 hval0
  simp only [List.append_nil] at hW'
  have hT := tabs_of_laid hL
  have hwf0 := wf0
  simp [Lit.wf] at hwf0
  have hwf1 := wf1
  simp [Lit.wf] at hwf1
  refine (numHalves_walk n0 n1 (by omega) (by omega)  W hT).mono fun e W' ⟨he, hw⟩ => ?_
  subst he
  exact ⟨_, rfl, post_of_below (pa := []) (pv := []) hW' (fun _ _ _ => trodAll_mk1 (shut_bool Tryd.underlying4 _)) (fun sp _ => trodAll_mk2 (shut_float Tryd.underlying23 wf0) (shut_float Tryd.underlying23 wf1)) (fun _ _ => rfl) rfl hw (ok_one (by kernel_rfl) rfl (okWide_bool_mk Tryd.underlying4 _))⟩

theorem numHalves_holds : Rows.NumHalvesSaid :=
  OpenClaim.holds_of_wide 11 Tryd.f11 rfl rfl rfl rfl rfl rfl rfl ⟨rfl, rfl, rfl, rfl, rfl⟩ rfl rfl rfl rfl rfl (by kernel_rfl) Tryd.func11 (by kernel_rfl)
    (of_decide_eq_true (by kernel_rfl)) (by unfold Func.isWrapper; first | (rw [if_pos (by decide +kernel)]; kernel_rfl) | (rw [if_neg (by decide +kernel)]; exact ⟨rfl, rfl⟩))
    (fun os started H enc _ => numHalves_lifted os started H enc)
/-- THE TIED CARD. -/
theorem numHalves_card : Rows.NumHalvesCardSaid :=
  Claim7.holds_tied_plain_at .later [] [.data, .data, .data] true (true, "263a68124a9ec9e14e3c232618efbe301a45d4cac9ae9d43003c9ae83addfa09") false
    numHalves_holds (fun _ h => by cases h) (by kernel_rfl) (fun _ h => by cases h) numHalves_row_tie rfl ⟨rfl, rfl⟩ (by kernel_rfl) rfl
    (fun f fn hf hfn => by
      obtain rfl : f = 11 := Option.some.inj ((show Tryd.prog.funcNamed "headrace/racelaw1.NumHalves" = some 11 by kernel_rfl).symm.trans hf) |>.symm
      obtain rfl : fn = Tryd.f11 := (Option.some.inj (Tryd.func11.symm.trans hfn)).symm
      exact ⟨by kernel_rfl, fun j t ht => by
        rw [Tryd.params11] at ht
        have hm : t ∈ [23, 23] := by simpa using Array.mem_of_getElem? ht
        have hall : ([23, 23].all fun u => !Tryd.prog.wantsStandIn u) = true := by kernel_rfl
        exact (show Tryd.prog.wantsStandIn t = false by simpa using List.all_eq_true.1 hall t hm)⟩)
    (by kernel_rfl)
#print axioms numHalves_card
end Go.Proofs.YtjgbccadjgelbaaDoor
