/- For any three floats, num's order turns round, goes through and is that of the ranks, and a float and its canonical form are one: racelaw1.NumOrder answers true and leaves its arguments as they were. Conditions: none beyond the row's own (the listed tables of Go's library, tied to the program's text). -/
import Derived.Test.YtjgbccadjgelbaaDoorRows
import Derived.Test.YtjgbccadjgelbaaDoorCards
import Derived.Test.YtjgbccadjgelbaaDoorTie
import Derived.Test.YtjgbccadjgelbaaDoorE
import Derived.Test.YtjgbccadjgelbaaDoorF
import Derived.Test.YtjgbccadjgelbaaDoorG
import Derived.Test.YtjgbccadjgelbaaDoorY
import Derived.Test.YtjgbccadjgelbaaDoorZ
import Derived.Test.YtjgbccadjgelbaaDoorHelp
import Derived.SevenTiedAt
namespace Go.Proofs.YtjgbccadjgelbaaDoor
open Go.ChangeShapes Go.WideShapes Go.ChangeAt Go.RowKit
set_option maxRecDepth 100000 in
set_option maxHeartbeats 1600000 in
theorem numOrder_lt_yz_n (a b c : Nat) (ha : a < 18446744073709551616) (hb : b < 18446744073709551616) (hc : c < 18446744073709551616) (w : World) (hT : Tabs w)
    (y z : Int) (ra rb ca cb ka kb : Nat) (hy : y ≤ 0) (hz : z ≤ 0) (hkb : kb = 0) (hcc : ((ca : Int) == (cb : Int)) = false) (hrr : ra < rb)
    (HAB : Hid (cmpN (rankN a) (rankN b) = -1)) (HBA : Hid (cmpN (rankN b) (rankN a) = 1)) (HBC : Hid (cmpN (rankN b) (rankN c) = y)) (HAC : Hid (cmpN (rankN a) (rankN c) = z)) (HAA : Hid (cmpN (rankN a) (rankN a) = 0)) (HCC : Hid (cmpN (rankN (canon a)) (rankN a) = 0))
    (_HKA : Hid (clsN a = ka)) (HKB : Hid (clsN b = kb)) (HRA : Hid (rankN a = ra)) (HRB : Hid (rankN b = rb)) (HCA : Hid (canon a = ca)) (HCB : Hid (canon b = cb)) :
    Calls Tryd.prog 9 #[.float .f64 a, .float .f64 b, .float .f64 c] w fun e w' => e = .returned (.bool true) ∧ Below w.heap.size w w' := by
  have HT := Lib.hid hT; clear hT
  have HA := Lib.hid ha; clear ha
  have HBB := Lib.hid hb; clear hb
  have HC := Lib.hid hc; clear hc
  have HCAL : Hid (canon a < 18446744073709551616) := canon_lt HA.out
  go_enter Tryd.func9, Tryd.ntmps9
  go_wp2_with (first
    | (go_at_call 15; refine (first_any _ HT.out).mono ?_; rintro e w1 ⟨rfl, hb1⟩; have HT1 := Lib.hid (HT.out.below hb1); have HB1 := Lib.hid hb1; clear hb1 HT)
    | (go_at_call 15; refine (first_any _ HT1.out).mono ?_; rintro e w2 ⟨rfl, hb2⟩; have HB2 := Lib.hid hb2; clear hb2)
    | (go_at_call 36; first
        | ((with_reducible refine (cmp_is a b _ HAB.out HA.out HBB.out _).mono ?_); rintro e w' ⟨rfl, rfl⟩)
        | ((with_reducible refine (cmp_is b a _ HBA.out HBB.out HA.out _).mono ?_); rintro e w' ⟨rfl, rfl⟩)
        | ((with_reducible refine (cmp_is b c _ HBC.out HBB.out HC.out _).mono ?_); rintro e w' ⟨rfl, rfl⟩)
        | ((with_reducible refine (cmp_is a c _ HAC.out HA.out HC.out _).mono ?_); rintro e w' ⟨rfl, rfl⟩)
        | ((with_reducible refine (cmp_is a a _ HAA.out HA.out HA.out _).mono ?_); rintro e w' ⟨rfl, rfl⟩)
        | ((with_reducible refine (cmp_is (canon a) a _ HCC.out HCAL.out HA.out _).mono ?_); rintro e w' ⟨rfl, rfl⟩))
    | (go_at_call 19; refine (canon_any _ _).mono ?_; rintro e w' ⟨rfl, rfl⟩)
    | (go_at_call 21; first
        | ((with_reducible refine (bits_is a _ HCA.out _).mono ?_); rintro e w' ⟨rfl, rfl⟩)
        | ((with_reducible refine (bits_is b _ HCB.out _).mono ?_); rintro e w' ⟨rfl, rfl⟩))
    | (go_at_call 23; first
        | ((with_reducible refine (class_is a _ HKA.out HA.out _).mono ?_); rintro e w' ⟨rfl, rfl⟩)
        | ((with_reducible refine (class_is b _ HKB.out HBB.out _).mono ?_); rintro e w' ⟨rfl, rfl⟩))
    | (go_at_call 25; first
        | ((with_reducible refine (rank_is a _ HRA.out HA.out _).mono ?_); rintro e w' ⟨rfl, rfl⟩)
        | ((with_reducible refine (rank_is b _ HRB.out HBB.out _).mono ?_); rintro e w' ⟨rfl, rfl⟩)))
  all_goals go_ret
  all_goals exact ⟨by first | rfl | (refine ret_b ?_; simp; done) | (refine ret_b ?_; simp; omega), HB1.out.trans (HB2.out.mono HB1.out.size)⟩
set_option maxRecDepth 100000 in
set_option maxHeartbeats 1600000 in
theorem numOrder_lt_yz_k (a b c : Nat) (ha : a < 18446744073709551616) (hb : b < 18446744073709551616) (hc : c < 18446744073709551616) (w : World) (hT : Tabs w)
    (y z : Int) (ra rb ca cb ka kb : Nat) (hy : y ≤ 0) (hz : z ≤ 0) (hkb : ¬ kb = 0) (hka : ¬ ka = 0) (hkk : ka ≤ kb) (hcc : ((ca : Int) == (cb : Int)) = false) (hrr : ra < rb)
    (HAB : Hid (cmpN (rankN a) (rankN b) = -1)) (HBA : Hid (cmpN (rankN b) (rankN a) = 1)) (HBC : Hid (cmpN (rankN b) (rankN c) = y)) (HAC : Hid (cmpN (rankN a) (rankN c) = z)) (HAA : Hid (cmpN (rankN a) (rankN a) = 0)) (HCC : Hid (cmpN (rankN (canon a)) (rankN a) = 0))
    (HKA : Hid (clsN a = ka)) (HKB : Hid (clsN b = kb)) (HRA : Hid (rankN a = ra)) (HRB : Hid (rankN b = rb)) (HCA : Hid (canon a = ca)) (HCB : Hid (canon b = cb)) :
    Calls Tryd.prog 9 #[.float .f64 a, .float .f64 b, .float .f64 c] w fun e w' => e = .returned (.bool true) ∧ Below w.heap.size w w' := by
  have HT := Lib.hid hT; clear hT
  have HA := Lib.hid ha; clear ha
  have HBB := Lib.hid hb; clear hb
  have HC := Lib.hid hc; clear hc
  have HCAL : Hid (canon a < 18446744073709551616) := canon_lt HA.out
  go_enter Tryd.func9, Tryd.ntmps9
  go_wp2_with (first
    | (go_at_call 15; refine (first_any _ HT.out).mono ?_; rintro e w1 ⟨rfl, hb1⟩; have HT1 := Lib.hid (HT.out.below hb1); have HB1 := Lib.hid hb1; clear hb1 HT)
    | (go_at_call 15; refine (first_any _ HT1.out).mono ?_; rintro e w2 ⟨rfl, hb2⟩; have HB2 := Lib.hid hb2; clear hb2)
    | (go_at_call 36; first
        | ((with_reducible refine (cmp_is a b _ HAB.out HA.out HBB.out _).mono ?_); rintro e w' ⟨rfl, rfl⟩)
        | ((with_reducible refine (cmp_is b a _ HBA.out HBB.out HA.out _).mono ?_); rintro e w' ⟨rfl, rfl⟩)
        | ((with_reducible refine (cmp_is b c _ HBC.out HBB.out HC.out _).mono ?_); rintro e w' ⟨rfl, rfl⟩)
        | ((with_reducible refine (cmp_is a c _ HAC.out HA.out HC.out _).mono ?_); rintro e w' ⟨rfl, rfl⟩)
        | ((with_reducible refine (cmp_is a a _ HAA.out HA.out HA.out _).mono ?_); rintro e w' ⟨rfl, rfl⟩)
        | ((with_reducible refine (cmp_is (canon a) a _ HCC.out HCAL.out HA.out _).mono ?_); rintro e w' ⟨rfl, rfl⟩))
    | (go_at_call 19; refine (canon_any _ _).mono ?_; rintro e w' ⟨rfl, rfl⟩)
    | (go_at_call 21; first
        | ((with_reducible refine (bits_is a _ HCA.out _).mono ?_); rintro e w' ⟨rfl, rfl⟩)
        | ((with_reducible refine (bits_is b _ HCB.out _).mono ?_); rintro e w' ⟨rfl, rfl⟩))
    | (go_at_call 23; first
        | ((with_reducible refine (class_is a _ HKA.out HA.out _).mono ?_); rintro e w' ⟨rfl, rfl⟩)
        | ((with_reducible refine (class_is b _ HKB.out HBB.out _).mono ?_); rintro e w' ⟨rfl, rfl⟩))
    | (go_at_call 25; first
        | ((with_reducible refine (rank_is a _ HRA.out HA.out _).mono ?_); rintro e w' ⟨rfl, rfl⟩)
        | ((with_reducible refine (rank_is b _ HRB.out HBB.out _).mono ?_); rintro e w' ⟨rfl, rfl⟩)))
  all_goals go_ret
  all_goals exact ⟨by first | rfl | (refine ret_b ?_; simp; done) | (refine ret_b ?_; simp; omega), HB1.out.trans (HB2.out.mono HB1.out.size)⟩
set_option maxRecDepth 100000 in
set_option maxHeartbeats 1600000 in
theorem numOrder_lt_y_n (a b c : Nat) (ha : a < 18446744073709551616) (hb : b < 18446744073709551616) (hc : c < 18446744073709551616) (w : World) (hT : Tabs w)
    (y z : Int) (ra rb ca cb ka kb : Nat) (hy : 0 < y) (hkb : kb = 0) (hcc : ((ca : Int) == (cb : Int)) = false) (hrr : ra < rb)
    (HAB : Hid (cmpN (rankN a) (rankN b) = -1)) (HBA : Hid (cmpN (rankN b) (rankN a) = 1)) (HBC : Hid (cmpN (rankN b) (rankN c) = y)) (HAC : Hid (cmpN (rankN a) (rankN c) = z)) (HAA : Hid (cmpN (rankN a) (rankN a) = 0)) (HCC : Hid (cmpN (rankN (canon a)) (rankN a) = 0))
    (_HKA : Hid (clsN a = ka)) (HKB : Hid (clsN b = kb)) (HRA : Hid (rankN a = ra)) (HRB : Hid (rankN b = rb)) (HCA : Hid (canon a = ca)) (HCB : Hid (canon b = cb)) :
    Calls Tryd.prog 9 #[.float .f64 a, .float .f64 b, .float .f64 c] w fun e w' => e = .returned (.bool true) ∧ Below w.heap.size w w' := by
  have HT := Lib.hid hT; clear hT
  have HA := Lib.hid ha; clear ha
  have HBB := Lib.hid hb; clear hb
  have HC := Lib.hid hc; clear hc
  have HCAL : Hid (canon a < 18446744073709551616) := canon_lt HA.out
  go_enter Tryd.func9, Tryd.ntmps9
  go_wp2_with (first
    | (go_at_call 15; refine (first_any _ HT.out).mono ?_; rintro e w1 ⟨rfl, hb1⟩; have HT1 := Lib.hid (HT.out.below hb1); have HB1 := Lib.hid hb1; clear hb1 HT)
    | (go_at_call 15; refine (first_any _ HT1.out).mono ?_; rintro e w2 ⟨rfl, hb2⟩; have HB2 := Lib.hid hb2; clear hb2)
    | (go_at_call 36; first
        | ((with_reducible refine (cmp_is a b _ HAB.out HA.out HBB.out _).mono ?_); rintro e w' ⟨rfl, rfl⟩)
        | ((with_reducible refine (cmp_is b a _ HBA.out HBB.out HA.out _).mono ?_); rintro e w' ⟨rfl, rfl⟩)
        | ((with_reducible refine (cmp_is b c _ HBC.out HBB.out HC.out _).mono ?_); rintro e w' ⟨rfl, rfl⟩)
        | ((with_reducible refine (cmp_is a c _ HAC.out HA.out HC.out _).mono ?_); rintro e w' ⟨rfl, rfl⟩)
        | ((with_reducible refine (cmp_is a a _ HAA.out HA.out HA.out _).mono ?_); rintro e w' ⟨rfl, rfl⟩)
        | ((with_reducible refine (cmp_is (canon a) a _ HCC.out HCAL.out HA.out _).mono ?_); rintro e w' ⟨rfl, rfl⟩))
    | (go_at_call 19; refine (canon_any _ _).mono ?_; rintro e w' ⟨rfl, rfl⟩)
    | (go_at_call 21; first
        | ((with_reducible refine (bits_is a _ HCA.out _).mono ?_); rintro e w' ⟨rfl, rfl⟩)
        | ((with_reducible refine (bits_is b _ HCB.out _).mono ?_); rintro e w' ⟨rfl, rfl⟩))
    | (go_at_call 23; first
        | ((with_reducible refine (class_is a _ HKA.out HA.out _).mono ?_); rintro e w' ⟨rfl, rfl⟩)
        | ((with_reducible refine (class_is b _ HKB.out HBB.out _).mono ?_); rintro e w' ⟨rfl, rfl⟩))
    | (go_at_call 25; first
        | ((with_reducible refine (rank_is a _ HRA.out HA.out _).mono ?_); rintro e w' ⟨rfl, rfl⟩)
        | ((with_reducible refine (rank_is b _ HRB.out HBB.out _).mono ?_); rintro e w' ⟨rfl, rfl⟩)))
  all_goals go_ret
  all_goals exact ⟨by first | rfl | (refine ret_b ?_; simp; done) | (refine ret_b ?_; simp; omega), HB1.out.trans (HB2.out.mono HB1.out.size)⟩
set_option maxRecDepth 100000 in
set_option maxHeartbeats 1600000 in
theorem numOrder_lt_y_k (a b c : Nat) (ha : a < 18446744073709551616) (hb : b < 18446744073709551616) (hc : c < 18446744073709551616) (w : World) (hT : Tabs w)
    (y z : Int) (ra rb ca cb ka kb : Nat) (hy : 0 < y) (hkb : ¬ kb = 0) (hka : ¬ ka = 0) (hkk : ka ≤ kb) (hcc : ((ca : Int) == (cb : Int)) = false) (hrr : ra < rb)
    (HAB : Hid (cmpN (rankN a) (rankN b) = -1)) (HBA : Hid (cmpN (rankN b) (rankN a) = 1)) (HBC : Hid (cmpN (rankN b) (rankN c) = y)) (HAC : Hid (cmpN (rankN a) (rankN c) = z)) (HAA : Hid (cmpN (rankN a) (rankN a) = 0)) (HCC : Hid (cmpN (rankN (canon a)) (rankN a) = 0))
    (HKA : Hid (clsN a = ka)) (HKB : Hid (clsN b = kb)) (HRA : Hid (rankN a = ra)) (HRB : Hid (rankN b = rb)) (HCA : Hid (canon a = ca)) (HCB : Hid (canon b = cb)) :
    Calls Tryd.prog 9 #[.float .f64 a, .float .f64 b, .float .f64 c] w fun e w' => e = .returned (.bool true) ∧ Below w.heap.size w w' := by
  have HT := Lib.hid hT; clear hT
  have HA := Lib.hid ha; clear ha
  have HBB := Lib.hid hb; clear hb
  have HC := Lib.hid hc; clear hc
  have HCAL : Hid (canon a < 18446744073709551616) := canon_lt HA.out
  go_enter Tryd.func9, Tryd.ntmps9
  go_wp2_with (first
    | (go_at_call 15; refine (first_any _ HT.out).mono ?_; rintro e w1 ⟨rfl, hb1⟩; have HT1 := Lib.hid (HT.out.below hb1); have HB1 := Lib.hid hb1; clear hb1 HT)
    | (go_at_call 15; refine (first_any _ HT1.out).mono ?_; rintro e w2 ⟨rfl, hb2⟩; have HB2 := Lib.hid hb2; clear hb2)
    | (go_at_call 36; first
        | ((with_reducible refine (cmp_is a b _ HAB.out HA.out HBB.out _).mono ?_); rintro e w' ⟨rfl, rfl⟩)
        | ((with_reducible refine (cmp_is b a _ HBA.out HBB.out HA.out _).mono ?_); rintro e w' ⟨rfl, rfl⟩)
        | ((with_reducible refine (cmp_is b c _ HBC.out HBB.out HC.out _).mono ?_); rintro e w' ⟨rfl, rfl⟩)
        | ((with_reducible refine (cmp_is a c _ HAC.out HA.out HC.out _).mono ?_); rintro e w' ⟨rfl, rfl⟩)
        | ((with_reducible refine (cmp_is a a _ HAA.out HA.out HA.out _).mono ?_); rintro e w' ⟨rfl, rfl⟩)
        | ((with_reducible refine (cmp_is (canon a) a _ HCC.out HCAL.out HA.out _).mono ?_); rintro e w' ⟨rfl, rfl⟩))
    | (go_at_call 19; refine (canon_any _ _).mono ?_; rintro e w' ⟨rfl, rfl⟩)
    | (go_at_call 21; first
        | ((with_reducible refine (bits_is a _ HCA.out _).mono ?_); rintro e w' ⟨rfl, rfl⟩)
        | ((with_reducible refine (bits_is b _ HCB.out _).mono ?_); rintro e w' ⟨rfl, rfl⟩))
    | (go_at_call 23; first
        | ((with_reducible refine (class_is a _ HKA.out HA.out _).mono ?_); rintro e w' ⟨rfl, rfl⟩)
        | ((with_reducible refine (class_is b _ HKB.out HBB.out _).mono ?_); rintro e w' ⟨rfl, rfl⟩))
    | (go_at_call 25; first
        | ((with_reducible refine (rank_is a _ HRA.out HA.out _).mono ?_); rintro e w' ⟨rfl, rfl⟩)
        | ((with_reducible refine (rank_is b _ HRB.out HBB.out _).mono ?_); rintro e w' ⟨rfl, rfl⟩)))
  all_goals go_ret
  all_goals exact ⟨by first | rfl | (refine ret_b ?_; simp; done) | (refine ret_b ?_; simp; omega), HB1.out.trans (HB2.out.mono HB1.out.size)⟩
set_option maxRecDepth 100000 in
set_option maxHeartbeats 1600000 in
theorem numOrder_eq_yz_n (a b c : Nat) (ha : a < 18446744073709551616) (hb : b < 18446744073709551616) (hc : c < 18446744073709551616) (w : World) (hT : Tabs w)
    (y z : Int) (ra ca ka : Nat) (hy : y ≤ 0) (hz : z ≤ 0) (hkb : ka = 0)
    (HAB : Hid (cmpN (rankN a) (rankN b) = 0)) (HBA : Hid (cmpN (rankN b) (rankN a) = 0)) (HBC : Hid (cmpN (rankN b) (rankN c) = y)) (HAC : Hid (cmpN (rankN a) (rankN c) = z)) (HAA : Hid (cmpN (rankN a) (rankN a) = 0)) (HCC : Hid (cmpN (rankN (canon a)) (rankN a) = 0))
    (_HKA : Hid (clsN a = ka)) (HKB : Hid (clsN b = ka)) (HRA : Hid (rankN a = ra)) (HRB : Hid (rankN b = ra)) (HCA : Hid (canon a = ca)) (HCB : Hid (canon b = ca)) :
    Calls Tryd.prog 9 #[.float .f64 a, .float .f64 b, .float .f64 c] w fun e w' => e = .returned (.bool true) ∧ Below w.heap.size w w' := by
  have HT := Lib.hid hT; clear hT
  have HA := Lib.hid ha; clear ha
  have HBB := Lib.hid hb; clear hb
  have HC := Lib.hid hc; clear hc
  have HCAL : Hid (canon a < 18446744073709551616) := canon_lt HA.out
  go_enter Tryd.func9, Tryd.ntmps9
  go_wp2_with (first
    | (go_at_call 15; refine (first_any _ HT.out).mono ?_; rintro e w1 ⟨rfl, hb1⟩; have HT1 := Lib.hid (HT.out.below hb1); have HB1 := Lib.hid hb1; clear hb1 HT)
    | (go_at_call 15; refine (first_any _ HT1.out).mono ?_; rintro e w2 ⟨rfl, hb2⟩; have HB2 := Lib.hid hb2; clear hb2)
    | (go_at_call 36; first
        | ((with_reducible refine (cmp_is a b _ HAB.out HA.out HBB.out _).mono ?_); rintro e w' ⟨rfl, rfl⟩)
        | ((with_reducible refine (cmp_is b a _ HBA.out HBB.out HA.out _).mono ?_); rintro e w' ⟨rfl, rfl⟩)
        | ((with_reducible refine (cmp_is b c _ HBC.out HBB.out HC.out _).mono ?_); rintro e w' ⟨rfl, rfl⟩)
        | ((with_reducible refine (cmp_is a c _ HAC.out HA.out HC.out _).mono ?_); rintro e w' ⟨rfl, rfl⟩)
        | ((with_reducible refine (cmp_is a a _ HAA.out HA.out HA.out _).mono ?_); rintro e w' ⟨rfl, rfl⟩)
        | ((with_reducible refine (cmp_is (canon a) a _ HCC.out HCAL.out HA.out _).mono ?_); rintro e w' ⟨rfl, rfl⟩))
    | (go_at_call 19; refine (canon_any _ _).mono ?_; rintro e w' ⟨rfl, rfl⟩)
    | (go_at_call 21; first
        | ((with_reducible refine (bits_is a _ HCA.out _).mono ?_); rintro e w' ⟨rfl, rfl⟩)
        | ((with_reducible refine (bits_is b _ HCB.out _).mono ?_); rintro e w' ⟨rfl, rfl⟩))
    | (go_at_call 23; first
        | ((with_reducible refine (class_is a _ HKA.out HA.out _).mono ?_); rintro e w' ⟨rfl, rfl⟩)
        | ((with_reducible refine (class_is b _ HKB.out HBB.out _).mono ?_); rintro e w' ⟨rfl, rfl⟩))
    | (go_at_call 25; first
        | ((with_reducible refine (rank_is a _ HRA.out HA.out _).mono ?_); rintro e w' ⟨rfl, rfl⟩)
        | ((with_reducible refine (rank_is b _ HRB.out HBB.out _).mono ?_); rintro e w' ⟨rfl, rfl⟩)))
  all_goals go_ret
  all_goals exact ⟨by first | rfl | (refine ret_b ?_; simp; done) | (refine ret_b ?_; simp; omega), HB1.out.trans (HB2.out.mono HB1.out.size)⟩
set_option maxRecDepth 100000 in
set_option maxHeartbeats 1600000 in
theorem numOrder_eq_yz_k (a b c : Nat) (ha : a < 18446744073709551616) (hb : b < 18446744073709551616) (hc : c < 18446744073709551616) (w : World) (hT : Tabs w)
    (y z : Int) (ra ca ka : Nat) (hy : y ≤ 0) (hz : z ≤ 0) (hkb : ¬ ka = 0)
    (HAB : Hid (cmpN (rankN a) (rankN b) = 0)) (HBA : Hid (cmpN (rankN b) (rankN a) = 0)) (HBC : Hid (cmpN (rankN b) (rankN c) = y)) (HAC : Hid (cmpN (rankN a) (rankN c) = z)) (HAA : Hid (cmpN (rankN a) (rankN a) = 0)) (HCC : Hid (cmpN (rankN (canon a)) (rankN a) = 0))
    (HKA : Hid (clsN a = ka)) (HKB : Hid (clsN b = ka)) (HRA : Hid (rankN a = ra)) (HRB : Hid (rankN b = ra)) (HCA : Hid (canon a = ca)) (HCB : Hid (canon b = ca)) :
    Calls Tryd.prog 9 #[.float .f64 a, .float .f64 b, .float .f64 c] w fun e w' => e = .returned (.bool true) ∧ Below w.heap.size w w' := by
  have HT := Lib.hid hT; clear hT
  have HA := Lib.hid ha; clear ha
  have HBB := Lib.hid hb; clear hb
  have HC := Lib.hid hc; clear hc
  have HCAL : Hid (canon a < 18446744073709551616) := canon_lt HA.out
  go_enter Tryd.func9, Tryd.ntmps9
  go_wp2_with (first
    | (go_at_call 15; refine (first_any _ HT.out).mono ?_; rintro e w1 ⟨rfl, hb1⟩; have HT1 := Lib.hid (HT.out.below hb1); have HB1 := Lib.hid hb1; clear hb1 HT)
    | (go_at_call 15; refine (first_any _ HT1.out).mono ?_; rintro e w2 ⟨rfl, hb2⟩; have HB2 := Lib.hid hb2; clear hb2)
    | (go_at_call 36; first
        | ((with_reducible refine (cmp_is a b _ HAB.out HA.out HBB.out _).mono ?_); rintro e w' ⟨rfl, rfl⟩)
        | ((with_reducible refine (cmp_is b a _ HBA.out HBB.out HA.out _).mono ?_); rintro e w' ⟨rfl, rfl⟩)
        | ((with_reducible refine (cmp_is b c _ HBC.out HBB.out HC.out _).mono ?_); rintro e w' ⟨rfl, rfl⟩)
        | ((with_reducible refine (cmp_is a c _ HAC.out HA.out HC.out _).mono ?_); rintro e w' ⟨rfl, rfl⟩)
        | ((with_reducible refine (cmp_is a a _ HAA.out HA.out HA.out _).mono ?_); rintro e w' ⟨rfl, rfl⟩)
        | ((with_reducible refine (cmp_is (canon a) a _ HCC.out HCAL.out HA.out _).mono ?_); rintro e w' ⟨rfl, rfl⟩))
    | (go_at_call 19; refine (canon_any _ _).mono ?_; rintro e w' ⟨rfl, rfl⟩)
    | (go_at_call 21; first
        | ((with_reducible refine (bits_is a _ HCA.out _).mono ?_); rintro e w' ⟨rfl, rfl⟩)
        | ((with_reducible refine (bits_is b _ HCB.out _).mono ?_); rintro e w' ⟨rfl, rfl⟩))
    | (go_at_call 23; first
        | ((with_reducible refine (class_is a _ HKA.out HA.out _).mono ?_); rintro e w' ⟨rfl, rfl⟩)
        | ((with_reducible refine (class_is b _ HKB.out HBB.out _).mono ?_); rintro e w' ⟨rfl, rfl⟩))
    | (go_at_call 25; first
        | ((with_reducible refine (rank_is a _ HRA.out HA.out _).mono ?_); rintro e w' ⟨rfl, rfl⟩)
        | ((with_reducible refine (rank_is b _ HRB.out HBB.out _).mono ?_); rintro e w' ⟨rfl, rfl⟩)))
  all_goals go_ret
  all_goals exact ⟨by first | rfl | (refine ret_b ?_; simp; done) | (refine ret_b ?_; simp; omega), HB1.out.trans (HB2.out.mono HB1.out.size)⟩
set_option maxRecDepth 100000 in
set_option maxHeartbeats 1600000 in
theorem numOrder_eq_y_n (a b c : Nat) (ha : a < 18446744073709551616) (hb : b < 18446744073709551616) (hc : c < 18446744073709551616) (w : World) (hT : Tabs w)
    (y z : Int) (ra ca ka : Nat) (hy : 0 < y) (hkb : ka = 0)
    (HAB : Hid (cmpN (rankN a) (rankN b) = 0)) (HBA : Hid (cmpN (rankN b) (rankN a) = 0)) (HBC : Hid (cmpN (rankN b) (rankN c) = y)) (HAC : Hid (cmpN (rankN a) (rankN c) = z)) (HAA : Hid (cmpN (rankN a) (rankN a) = 0)) (HCC : Hid (cmpN (rankN (canon a)) (rankN a) = 0))
    (_HKA : Hid (clsN a = ka)) (HKB : Hid (clsN b = ka)) (HRA : Hid (rankN a = ra)) (HRB : Hid (rankN b = ra)) (HCA : Hid (canon a = ca)) (HCB : Hid (canon b = ca)) :
    Calls Tryd.prog 9 #[.float .f64 a, .float .f64 b, .float .f64 c] w fun e w' => e = .returned (.bool true) ∧ Below w.heap.size w w' := by
  have HT := Lib.hid hT; clear hT
  have HA := Lib.hid ha; clear ha
  have HBB := Lib.hid hb; clear hb
  have HC := Lib.hid hc; clear hc
  have HCAL : Hid (canon a < 18446744073709551616) := canon_lt HA.out
  go_enter Tryd.func9, Tryd.ntmps9
  go_wp2_with (first
    | (go_at_call 15; refine (first_any _ HT.out).mono ?_; rintro e w1 ⟨rfl, hb1⟩; have HT1 := Lib.hid (HT.out.below hb1); have HB1 := Lib.hid hb1; clear hb1 HT)
    | (go_at_call 15; refine (first_any _ HT1.out).mono ?_; rintro e w2 ⟨rfl, hb2⟩; have HB2 := Lib.hid hb2; clear hb2)
    | (go_at_call 36; first
        | ((with_reducible refine (cmp_is a b _ HAB.out HA.out HBB.out _).mono ?_); rintro e w' ⟨rfl, rfl⟩)
        | ((with_reducible refine (cmp_is b a _ HBA.out HBB.out HA.out _).mono ?_); rintro e w' ⟨rfl, rfl⟩)
        | ((with_reducible refine (cmp_is b c _ HBC.out HBB.out HC.out _).mono ?_); rintro e w' ⟨rfl, rfl⟩)
        | ((with_reducible refine (cmp_is a c _ HAC.out HA.out HC.out _).mono ?_); rintro e w' ⟨rfl, rfl⟩)
        | ((with_reducible refine (cmp_is a a _ HAA.out HA.out HA.out _).mono ?_); rintro e w' ⟨rfl, rfl⟩)
        | ((with_reducible refine (cmp_is (canon a) a _ HCC.out HCAL.out HA.out _).mono ?_); rintro e w' ⟨rfl, rfl⟩))
    | (go_at_call 19; refine (canon_any _ _).mono ?_; rintro e w' ⟨rfl, rfl⟩)
    | (go_at_call 21; first
        | ((with_reducible refine (bits_is a _ HCA.out _).mono ?_); rintro e w' ⟨rfl, rfl⟩)
        | ((with_reducible refine (bits_is b _ HCB.out _).mono ?_); rintro e w' ⟨rfl, rfl⟩))
    | (go_at_call 23; first
        | ((with_reducible refine (class_is a _ HKA.out HA.out _).mono ?_); rintro e w' ⟨rfl, rfl⟩)
        | ((with_reducible refine (class_is b _ HKB.out HBB.out _).mono ?_); rintro e w' ⟨rfl, rfl⟩))
    | (go_at_call 25; first
        | ((with_reducible refine (rank_is a _ HRA.out HA.out _).mono ?_); rintro e w' ⟨rfl, rfl⟩)
        | ((with_reducible refine (rank_is b _ HRB.out HBB.out _).mono ?_); rintro e w' ⟨rfl, rfl⟩)))
  all_goals go_ret
  all_goals exact ⟨by first | rfl | (refine ret_b ?_; simp; done) | (refine ret_b ?_; simp; omega), HB1.out.trans (HB2.out.mono HB1.out.size)⟩
set_option maxRecDepth 100000 in
set_option maxHeartbeats 1600000 in
theorem numOrder_eq_y_k (a b c : Nat) (ha : a < 18446744073709551616) (hb : b < 18446744073709551616) (hc : c < 18446744073709551616) (w : World) (hT : Tabs w)
    (y z : Int) (ra ca ka : Nat) (hy : 0 < y) (hkb : ¬ ka = 0)
    (HAB : Hid (cmpN (rankN a) (rankN b) = 0)) (HBA : Hid (cmpN (rankN b) (rankN a) = 0)) (HBC : Hid (cmpN (rankN b) (rankN c) = y)) (HAC : Hid (cmpN (rankN a) (rankN c) = z)) (HAA : Hid (cmpN (rankN a) (rankN a) = 0)) (HCC : Hid (cmpN (rankN (canon a)) (rankN a) = 0))
    (HKA : Hid (clsN a = ka)) (HKB : Hid (clsN b = ka)) (HRA : Hid (rankN a = ra)) (HRB : Hid (rankN b = ra)) (HCA : Hid (canon a = ca)) (HCB : Hid (canon b = ca)) :
    Calls Tryd.prog 9 #[.float .f64 a, .float .f64 b, .float .f64 c] w fun e w' => e = .returned (.bool true) ∧ Below w.heap.size w w' := by
  have HT := Lib.hid hT; clear hT
  have HA := Lib.hid ha; clear ha
  have HBB := Lib.hid hb; clear hb
  have HC := Lib.hid hc; clear hc
  have HCAL : Hid (canon a < 18446744073709551616) := canon_lt HA.out
  go_enter Tryd.func9, Tryd.ntmps9
  go_wp2_with (first
    | (go_at_call 15; refine (first_any _ HT.out).mono ?_; rintro e w1 ⟨rfl, hb1⟩; have HT1 := Lib.hid (HT.out.below hb1); have HB1 := Lib.hid hb1; clear hb1 HT)
    | (go_at_call 15; refine (first_any _ HT1.out).mono ?_; rintro e w2 ⟨rfl, hb2⟩; have HB2 := Lib.hid hb2; clear hb2)
    | (go_at_call 36; first
        | ((with_reducible refine (cmp_is a b _ HAB.out HA.out HBB.out _).mono ?_); rintro e w' ⟨rfl, rfl⟩)
        | ((with_reducible refine (cmp_is b a _ HBA.out HBB.out HA.out _).mono ?_); rintro e w' ⟨rfl, rfl⟩)
        | ((with_reducible refine (cmp_is b c _ HBC.out HBB.out HC.out _).mono ?_); rintro e w' ⟨rfl, rfl⟩)
        | ((with_reducible refine (cmp_is a c _ HAC.out HA.out HC.out _).mono ?_); rintro e w' ⟨rfl, rfl⟩)
        | ((with_reducible refine (cmp_is a a _ HAA.out HA.out HA.out _).mono ?_); rintro e w' ⟨rfl, rfl⟩)
        | ((with_reducible refine (cmp_is (canon a) a _ HCC.out HCAL.out HA.out _).mono ?_); rintro e w' ⟨rfl, rfl⟩))
    | (go_at_call 19; refine (canon_any _ _).mono ?_; rintro e w' ⟨rfl, rfl⟩)
    | (go_at_call 21; first
        | ((with_reducible refine (bits_is a _ HCA.out _).mono ?_); rintro e w' ⟨rfl, rfl⟩)
        | ((with_reducible refine (bits_is b _ HCB.out _).mono ?_); rintro e w' ⟨rfl, rfl⟩))
    | (go_at_call 23; first
        | ((with_reducible refine (class_is a _ HKA.out HA.out _).mono ?_); rintro e w' ⟨rfl, rfl⟩)
        | ((with_reducible refine (class_is b _ HKB.out HBB.out _).mono ?_); rintro e w' ⟨rfl, rfl⟩))
    | (go_at_call 25; first
        | ((with_reducible refine (rank_is a _ HRA.out HA.out _).mono ?_); rintro e w' ⟨rfl, rfl⟩)
        | ((with_reducible refine (rank_is b _ HRB.out HBB.out _).mono ?_); rintro e w' ⟨rfl, rfl⟩)))
  all_goals go_ret
  all_goals exact ⟨by first | rfl | (refine ret_b ?_; simp; done) | (refine ret_b ?_; simp; omega), HB1.out.trans (HB2.out.mono HB1.out.size)⟩
set_option maxRecDepth 100000 in
set_option maxHeartbeats 1600000 in
theorem numOrder_gt (a b c : Nat) (ha : a < 18446744073709551616) (hb : b < 18446744073709551616) (hc : c < 18446744073709551616) (w : World) (hT : Tabs w)
    (y z : Int) (ra rb ca cb ka kb : Nat) (hcc : ((ca : Int) == (cb : Int)) = false) (hrr : rb < ra)
    (HAB : Hid (cmpN (rankN a) (rankN b) = 1)) (HBA : Hid (cmpN (rankN b) (rankN a) = -1)) (HBC : Hid (cmpN (rankN b) (rankN c) = y)) (HAC : Hid (cmpN (rankN a) (rankN c) = z)) (HAA : Hid (cmpN (rankN a) (rankN a) = 0)) (HCC : Hid (cmpN (rankN (canon a)) (rankN a) = 0))
    (_HKA : Hid (clsN a = ka)) (_HKB : Hid (clsN b = kb)) (HRA : Hid (rankN a = ra)) (HRB : Hid (rankN b = rb)) (HCA : Hid (canon a = ca)) (HCB : Hid (canon b = cb)) :
    Calls Tryd.prog 9 #[.float .f64 a, .float .f64 b, .float .f64 c] w fun e w' => e = .returned (.bool true) ∧ Below w.heap.size w w' := by
  have HT := Lib.hid hT; clear hT
  have HA := Lib.hid ha; clear ha
  have HBB := Lib.hid hb; clear hb
  have HC := Lib.hid hc; clear hc
  have HCAL : Hid (canon a < 18446744073709551616) := canon_lt HA.out
  go_enter Tryd.func9, Tryd.ntmps9
  go_wp2_with (first
    | (go_at_call 15; refine (first_any _ HT.out).mono ?_; rintro e w1 ⟨rfl, hb1⟩; have HT1 := Lib.hid (HT.out.below hb1); have HB1 := Lib.hid hb1; clear hb1 HT)
    | (go_at_call 15; refine (first_any _ HT1.out).mono ?_; rintro e w2 ⟨rfl, hb2⟩; have HB2 := Lib.hid hb2; clear hb2)
    | (go_at_call 36; first
        | ((with_reducible refine (cmp_is a b _ HAB.out HA.out HBB.out _).mono ?_); rintro e w' ⟨rfl, rfl⟩)
        | ((with_reducible refine (cmp_is b a _ HBA.out HBB.out HA.out _).mono ?_); rintro e w' ⟨rfl, rfl⟩)
        | ((with_reducible refine (cmp_is b c _ HBC.out HBB.out HC.out _).mono ?_); rintro e w' ⟨rfl, rfl⟩)
        | ((with_reducible refine (cmp_is a c _ HAC.out HA.out HC.out _).mono ?_); rintro e w' ⟨rfl, rfl⟩)
        | ((with_reducible refine (cmp_is a a _ HAA.out HA.out HA.out _).mono ?_); rintro e w' ⟨rfl, rfl⟩)
        | ((with_reducible refine (cmp_is (canon a) a _ HCC.out HCAL.out HA.out _).mono ?_); rintro e w' ⟨rfl, rfl⟩))
    | (go_at_call 19; refine (canon_any _ _).mono ?_; rintro e w' ⟨rfl, rfl⟩)
    | (go_at_call 21; first
        | ((with_reducible refine (bits_is a _ HCA.out _).mono ?_); rintro e w' ⟨rfl, rfl⟩)
        | ((with_reducible refine (bits_is b _ HCB.out _).mono ?_); rintro e w' ⟨rfl, rfl⟩))
    | (go_at_call 23; first
        | ((with_reducible refine (class_is a _ HKA.out HA.out _).mono ?_); rintro e w' ⟨rfl, rfl⟩)
        | ((with_reducible refine (class_is b _ HKB.out HBB.out _).mono ?_); rintro e w' ⟨rfl, rfl⟩))
    | (go_at_call 25; first
        | ((with_reducible refine (rank_is a _ HRA.out HA.out _).mono ?_); rintro e w' ⟨rfl, rfl⟩)
        | ((with_reducible refine (rank_is b _ HRB.out HBB.out _).mono ?_); rintro e w' ⟨rfl, rfl⟩)))
  all_goals go_ret
  all_goals exact ⟨by first | rfl | (refine ret_b ?_; simp; done) | (refine ret_b ?_; simp; omega), HB1.out.trans (HB2.out.mono HB1.out.size)⟩

theorem numOrder_walk (a b c : Nat) (ha : a < 18446744073709551616) (hb : b < 18446744073709551616) (hc : c < 18446744073709551616) (w : World) (hT : Tabs w) :
    Calls Tryd.prog 9 #[.float .f64 a, .float .f64 b, .float .f64 c] w fun e w' => e = .returned (.bool true) ∧ Below w.heap.size w w' := by
  have haa := cmpN_eq (rankN a)
  have hcc : cmpN (rankN (canon a)) (rankN a) = 0 := by rw [rank_canon]; exact haa
  have ne : ∀ {x y : Nat}, x ≠ y → ((x : Int) == (y : Int)) = false := by intro x y h; simp; omega
  by_cases h1 : rankN a < rankN b
  · have hcn : canon a ≠ canon b := by
      intro e
      have := rank_canon a
      rw [e, rank_canon] at this
      omega
    by_cases hk : clsN b = 0
    · by_cases h2 : rankN b ≤ rankN c
      · exact numOrder_lt_yz_n a b c ha hb hc w hT _ _ _ _ _ _ _ _ (cmpN_nonpos h2) (cmpN_nonpos (by omega)) hk (ne hcn) h1 (cmpN_lt h1) (cmpN_gt h1) rfl rfl haa hcc rfl rfl rfl rfl rfl rfl
      · exact numOrder_lt_y_n a b c ha hb hc w hT _ _ _ _ _ _ _ _ (cmpN_posi h2) hk (ne hcn) h1 (cmpN_lt h1) (cmpN_gt h1) rfl rfl haa hcc rfl rfl rfl rfl rfl rfl
    · obtain ⟨k1, k2⟩ := cls_rank ha hb (by omega) hk
      by_cases h2 : rankN b ≤ rankN c
      · exact numOrder_lt_yz_k a b c ha hb hc w hT _ _ _ _ _ _ _ _ (cmpN_nonpos h2) (cmpN_nonpos (by omega)) hk k1 k2 (ne hcn) h1 (cmpN_lt h1) (cmpN_gt h1) rfl rfl haa hcc rfl rfl rfl rfl rfl rfl
      · exact numOrder_lt_y_k a b c ha hb hc w hT _ _ _ _ _ _ _ _ (cmpN_posi h2) hk k1 k2 (ne hcn) h1 (cmpN_lt h1) (cmpN_gt h1) rfl rfl haa hcc rfl rfl rfl rfl rfl rfl
  · by_cases h3 : rankN b < rankN a
    · have hcn : canon a ≠ canon b := by
        intro e
        have := rank_canon a
        rw [e, rank_canon] at this
        omega
      exact numOrder_gt a b c ha hb hc w hT _ _ _ _ _ _ _ _ (ne hcn) h3 (cmpN_gt h3) (cmpN_lt h3) rfl rfl haa hcc rfl rfl rfl rfl rfl rfl
    · have e : rankN a = rankN b := by omega
      have hcn := rank_inj ha hb e
      have hk : clsN b = clsN a := by rw [← cls_canon a, ← cls_canon b, hcn]
      have e1 : cmpN (rankN a) (rankN b) = 0 := by rw [e]; exact cmpN_eq _
      have e2 : cmpN (rankN b) (rankN a) = 0 := by rw [e]; exact cmpN_eq _
      by_cases hz : clsN a = 0
      · by_cases h2 : rankN b ≤ rankN c
        · exact numOrder_eq_yz_n a b c ha hb hc w hT _ _ _ _ _ (cmpN_nonpos h2) (cmpN_nonpos (by omega)) hz e1 e2 rfl rfl haa hcc rfl hk rfl e.symm rfl hcn.symm
        · exact numOrder_eq_y_n a b c ha hb hc w hT _ _ _ _ _ (cmpN_posi h2) hz e1 e2 rfl rfl haa hcc rfl hk rfl e.symm rfl hcn.symm
      · by_cases h2 : rankN b ≤ rankN c
        · exact numOrder_eq_yz_k a b c ha hb hc w hT _ _ _ _ _ (cmpN_nonpos h2) (cmpN_nonpos (by omega)) hz e1 e2 rfl rfl haa hcc rfl hk rfl e.symm rfl hcn.symm
        · exact numOrder_eq_y_k a b c ha hb hc w hT _ _ _ _ _ (cmpN_posi h2) hz e1 e2 rfl rfl haa hcc rfl hk rfl e.symm rfl hcn.symm

set_option maxRecDepth 100000 in
theorem numOrder_lifted (os : Os) (started : os.Started) (H : Type) (enc : TypeId × Value → H) :
    ReturnsInHanded {} Tryd.checked os 9 .any (fun w args => (Rows.numOrderSpec.pre enc Tryd.prog Tryd.f9 [] false w args ∧ laidMetH Tryd.prog laid3 w) ∧ sizedMet enc Tryd.prog Tryd.f9 (OpenSpec.ofChange Rows.numOrderSpec) false w args)
      (Rows.numOrderSpec.post enc Tryd.prog Tryd.f9 false true false false) := by
  refine returnsInHanded_of_change_and (C := Tryd.checked) (X := fun w _ => laidMetH Tryd.prog laid3 w) (fun _ _ _ hh h => h.of_heap hh) own started (by kernel_rfl) Tryd.func9
    (ChangeSpec.witness_shaped (enc := enc) (C := Tryd.checked) (os := os) (X := fun w _ => laidMetH Tryd.prog laid3 w) false (World.doorLaid Tryd.prog 400 os) #[.float .f64 0, .float .f64 0, .float .f64 0] 8 rfl (World.shaped_of_RefB (by kernel_rfl) (by kernel_rfl)) (by kernel_rfl) (by kernel_rfl) (by kernel_rfl) (door_met os _)) ?_
  intro W base args ds gs before hval0 hW _ _ hL _
  have hval : ∀ (j : Nat) t v, Tryd.f9.params[j]? = some t → args[j]? = some v → Value.okWide Tryd.prog W .any base t v := hval0
  have hW' := hW
  obtain ⟨p, q, hA0, hV, rfl, hfz, hnd⟩ := hW
  have hA : DataW.TrodAll enc Tryd.prog W 0 (fun _ => true) true Tryd.f9.params.toList args.toList ds p := hA0
  rw [Tryd.params9] at hA hval
  obtain ⟨v0, v1, v2, d0, d1, d2, p0, p1, p2, rfl, rfl, rfl, h0, h1, h2⟩ := trodAll_three hA
  obtain ⟨n0, rfl, rfl, rfl, wf0⟩ := open_float Tryd.underlying23 (hval 0 23 v0 rfl rfl) h0
  obtain ⟨n1, rfl, rfl, rfl, wf1⟩ := open_float Tryd.underlying23 (hval 1 23 v1 rfl rfl) h1
  obtain ⟨n2, rfl, rfl, rfl, wf2⟩ := open_float Tryd.underlying23 (hval 2 23 v2 rfl rfl) h2
  obtain ⟨rfl, rfl⟩ := trodVars_none hV
  clear hA0 hval0
  simp only [List.append_nil] at hW'
  have hT := tabs_of_laid hL
  have hwf0 := wf0
  simp [Lit.wf] at hwf0
  have hwf1 := wf1
  simp [Lit.wf] at hwf1
  have hwf2 := wf2
  simp [Lit.wf] at hwf2
  refine (numOrder_walk n0 n1 n2 (by omega) (by omega) (by omega)  W hT).mono fun e W' ⟨he, hw⟩ => ?_
  subst he
  exact ⟨_, rfl, post_of_below (pa := []) (pv := []) hW' (fun _ _ _ => trodAll_mk1 (shut_bool Tryd.underlying4 _)) (fun sp _ => trodAll_mk3 (shut_float Tryd.underlying23 wf0) (shut_float Tryd.underlying23 wf1) (shut_float Tryd.underlying23 wf2)) (fun _ _ => rfl) rfl hw (ok_one (by kernel_rfl) rfl (okWide_bool_mk Tryd.underlying4 _))⟩

theorem numOrder_holds : Rows.NumOrderSaid :=
  OpenClaim.holds_of_wide 9 Tryd.f9 rfl rfl rfl rfl rfl rfl rfl ⟨rfl, rfl, rfl, rfl, rfl⟩ rfl rfl rfl rfl rfl (by kernel_rfl) Tryd.func9 (by kernel_rfl)
    (of_decide_eq_true (by kernel_rfl)) (by unfold Func.isWrapper; first | (rw [if_pos (by decide +kernel)]; kernel_rfl) | (rw [if_neg (by decide +kernel)]; exact ⟨rfl, rfl⟩))
    (fun os started H enc _ => numOrder_lifted os started H enc)
/-- THE TIED CARD. -/
theorem numOrder_card : Rows.NumOrderCardSaid :=
  Claim7.holds_tied_plain_at .later [] [.data, .data, .data] true (true, "263a68124a9ec9e14e3c232618efbe301a45d4cac9ae9d43003c9ae83addfa09") false
    numOrder_holds (fun _ h => by cases h) (by kernel_rfl) (fun _ h => by cases h) numOrder_row_tie rfl ⟨rfl, rfl⟩ (by kernel_rfl) rfl
    (fun f fn hf hfn => by
      obtain rfl : f = 9 := Option.some.inj ((show Tryd.prog.funcNamed "headrace/racelaw1.NumOrder" = some 9 by kernel_rfl).symm.trans hf) |>.symm
      obtain rfl : fn = Tryd.f9 := (Option.some.inj (Tryd.func9.symm.trans hfn)).symm
      exact ⟨by kernel_rfl, fun j t ht => by
        rw [Tryd.params9] at ht
        have hm : t ∈ [23, 23, 23] := by simpa using Array.mem_of_getElem? ht
        have hall : ([23, 23, 23].all fun u => !Tryd.prog.wantsStandIn u) = true := by kernel_rfl
        exact (show Tryd.prog.wantsStandIn t = false by simpa using List.all_eq_true.1 hall t hm)⟩)
    (by kernel_rfl)
#print axioms numOrder_card
end Go.Proofs.YtjgbccadjgelbaaDoor
