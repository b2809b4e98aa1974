/- For any float, the text of it turned round is that of it with or without the sign, and both are read: racelaw1.NumSigns answers true and leaves its argument as it was. Conditions: none beyond the row's own (the listed tables of Go's library, tied to the program's text). -/
import Derived.Test.YtjgbccadjgelbaaDoorRows
import Derived.Test.YtjgbccadjgelbaaDoorCards
import Derived.Test.YtjgbccadjgelbaaDoorTie
import Derived.Test.YtjgbccadjgelbaaDoorE
import Derived.Test.YtjgbccadjgelbaaDoorF
import Derived.Test.YtjgbccadjgelbaaDoorG
import Derived.Test.YtjgbccadjgelbaaDoorY
import Derived.Test.YtjgbccadjgelbaaDoorZ
import Derived.Test.YtjgbccadjgelbaaDoorHelp
import Derived.Test.YtjgbccadjgelbaaDoorTurn
import Derived.ShutString
import Derived.Test.YtjgbccadjgelbaaDoorSaid
import Derived.SevenTiedAt
namespace Go.Proofs.YtjgbccadjgelbaaDoor
open Go.ChangeShapes Go.WideShapes Go.ChangeAt Go.RowKit
theorem text_sign {p : Nat} (h : p ≤ infR) : textN (9223372036854775808 + p) = 45 :: textN p := by
  by_cases h0 : p = 0
  · subst h0; rw [textN_4 (by decide), textN_5 (by decide)]
  · by_cases hi : p = infR
    · subst hi; rw [textN_1 (by decide), textN_8 (by decide)]
    · rw [text_neg (by omega) (by omega), text_pos (by omega) (by omega)]
theorem cls_sign {p : Nat} (h : p ≤ infR) : clsN (9223372036854775808 + p) = 9 - clsN p ∧ 5 ≤ clsN p ∧ clsN p ≤ 8 := by
  have h' := h
  unfold infR at h'
  have n1 : nanB (9223372036854775808 + p) = false := by unfold nanB infR; rw [decide_eq_false_iff_not]; omega
  have n2 : nanB p = false := by unfold nanB infR; rw [decide_eq_false_iff_not]; omega
  have c1 := clsN_neg n1 (by omega)
  have c2 := clsN_pos n2 (by omega)
  have e1 : (9223372036854775808 + p) % 9223372036854775808 = p := by omega
  have e2 : p % 9223372036854775808 = p := by omega
  have := distN_le p
  rw [e1] at c1
  rw [e2] at c2
  omega
/-- The text of a float below nought. -/
theorem print_m (m : Nat) (t : List UInt8) (h : textN m = 45 :: t) (hm : m < 18446744073709551616) (w : World) (hT : Tabs w) :
    Calls Tryd.prog 42 #[.float .f64 m] w fun e w' => e = .returned (.string (⟨#[45]⟩ ++ ⟨t.toArray⟩)) ∧ Below w.heap.size w w' := by
  have := print_any m hm w hT
  rw [h, ← ba_cons] at this
  exact this
theorem print_p (p : Nat) (t : List UInt8) (h : textN p = t) (hp : p < 18446744073709551616) (w : World) (hT : Tabs w) :
    Calls Tryd.prog 42 #[.float .f64 p] w fun e w' => e = .returned (.string ⟨t.toArray⟩) ∧ Below w.heap.size w w' := by
  subst h; exact print_any p hp w hT
theorem parse_m (m : Nat) (t : List UInt8) (h : textN m = 45 :: t) (hc : canon m = m) (hm : m < 18446744073709551616) (w : World) :
    Calls Tryd.prog 44 #[.string (⟨#[45]⟩ ++ ⟨t.toArray⟩)] w fun e w' => e = .returned (.tuple #[.float .f64 m, .int .i64 0]) ∧ Below w.heap.size w w' := by
  have := parse_back m hm w
  rw [h, ← ba_cons, hc] at this
  exact this
set_option maxRecDepth 100000 in
theorem numSigns_nan (x : Nat) (hx : x < 18446744073709551616) (HC : Hid (clsN x = 0)) (HTX : Hid (textN x = [110, 97, 110])) (w : World) (hT : Tabs w) :
    Calls Tryd.prog 13 #[.float .f64 x] w fun e w' => e = .returned (.bool true) ∧ Below w.heap.size w w' := by
  have HT := Lib.hid hT; clear hT
  have HX := Lib.hid hx; clear hx
  go_enter Tryd.func13, Tryd.ntmps13
  go_wp2_with (first
    | (go_at_call 15; refine (first_any _ HT.out).mono ?_; rintro e w1 ⟨rfl, hb1⟩; have HT1 := Lib.hid (HT.out.below hb1); have HB1 := Lib.hid hb1; clear hb1 HT)
    | (go_at_call 15; ((with_reducible refine (first_any _ HT1.out).mono ?_)); rintro e w2 ⟨rfl, hb2⟩; have HT2 := Lib.hid (HT1.out.below hb2); have HB2 := Lib.hid (HB1.out.trans (hb2.mono HB1.out.size)); clear hb2 HB1 HT1)
    | (go_at_call 42; ((with_reducible refine (print_p x _ HTX.out HX.out _ HT2.out).mono ?_)); rintro e w3 ⟨rfl, hb3⟩; have HT3 := Lib.hid (HT2.out.below hb3); have HB3 := Lib.hid (HB2.out.trans (hb3.mono HB2.out.size)); clear hb3 HB2 HT2)
    | (go_at_call 23; ((with_reducible refine (class_is x _ HC.out HX.out _).mono ?_)); rintro e w' ⟨rfl, rfl⟩))
  go_ret
  exact ⟨by first | rfl | (refine ret_b ?_; simp; done), HB3.out⟩
set_option maxRecDepth 100000 in
theorem numSigns_1 (p m : Nat) (t : List UInt8) (hp : p < 18446744073709551616) (hm : m < 18446744073709551616) (HTM : Hid (textN m = 45 :: t)) (HTP : Hid (textN p = t)) (HC : Hid (clsN m = 1)) (_HCM : Hid (clsN m = 1)) (HCN : Hid (canon m = m)) (hl : ¬ 9223372036854775807 < 1 + t.length)
    (hng : ∀ w, (Op.unary .neg (.float .f64 m)).run Tryd.prog w = .ok (.float .f64 p) w) (w : World) (hT : Tabs w) :
    Calls Tryd.prog 13 #[.float .f64 m] w fun e w' => e = .returned (.bool true) ∧ Below w.heap.size w w' := by
  have HT := Lib.hid hT; clear hT
  have HP := Lib.hid hp; clear hp
  have HM := Lib.hid hm; clear hm
  go_enter Tryd.func13, Tryd.ntmps13
  go_wp2_with (first
    | (go_at_call 15; refine (first_any _ HT.out).mono ?_; rintro e w1 ⟨rfl, hb1⟩; have HT1 := Lib.hid (HT.out.below hb1); have HB1 := Lib.hid hb1; clear hb1 HT)
    | (go_at_call 42; ((with_reducible refine (print_m m t HTM.out HM.out _ HT1.out).mono ?_)); rintro e w2 ⟨rfl, hb2⟩; have HT2 := Lib.hid (HT1.out.below hb2); have HB2 := Lib.hid (HB1.out.trans (hb2.mono HB1.out.size)); clear hb2 HB1 HT1)
    | (go_at_call 42; ((with_reducible refine (print_p p t HTP.out HP.out _ HT2.out).mono ?_)); rintro e w3 ⟨rfl, hb3⟩; have HT3 := Lib.hid (HT2.out.below hb3); have HB3 := Lib.hid (HB2.out.trans (hb3.mono HB2.out.size)); clear hb3 HB2 HT2)
    | (go_at_call 44; ((with_reducible refine (parse_m m t HTM.out HCN.out HM.out _).mono ?_)); rintro e w4 ⟨rfl, hb4⟩; have HT4 := Lib.hid (HT3.out.below hb4); have HB4 := Lib.hid (HB3.out.trans (hb4.mono HB3.out.size)); clear hb4 HB3 HT3)
    | (go_at_call 15; ((with_reducible refine (first_any _ HT4.out).mono ?_)); rintro e w5 ⟨rfl, hb5⟩; have HT5 := Lib.hid (HT4.out.below hb5); have HB5 := Lib.hid (HB4.out.trans (hb5.mono HB4.out.size)); clear hb5 HB4 HT4)
    | (go_at_call 23; first
        | ((with_reducible refine (class_is m _ HC.out HM.out _).mono ?_); rintro e w' ⟨rfl, rfl⟩)
        | ((with_reducible refine (class_is m _ HCM.out HM.out _).mono ?_); rintro e w' ⟨rfl, rfl⟩)))
  go_ret
  exact ⟨by first | rfl | (refine ret_b ?_; simp; done), HB5.out⟩
set_option maxRecDepth 100000 in
theorem numSigns_2 (p m : Nat) (t : List UInt8) (hp : p < 18446744073709551616) (hm : m < 18446744073709551616) (HTM : Hid (textN m = 45 :: t)) (HTP : Hid (textN p = t)) (HC : Hid (clsN m = 2)) (_HCM : Hid (clsN m = 2)) (HCN : Hid (canon m = m)) (hl : ¬ 9223372036854775807 < 1 + t.length)
    (hng : ∀ w, (Op.unary .neg (.float .f64 m)).run Tryd.prog w = .ok (.float .f64 p) w) (w : World) (hT : Tabs w) :
    Calls Tryd.prog 13 #[.float .f64 m] w fun e w' => e = .returned (.bool true) ∧ Below w.heap.size w w' := by
  have HT := Lib.hid hT; clear hT
  have HP := Lib.hid hp; clear hp
  have HM := Lib.hid hm; clear hm
  go_enter Tryd.func13, Tryd.ntmps13
  go_wp2_with (first
    | (go_at_call 15; refine (first_any _ HT.out).mono ?_; rintro e w1 ⟨rfl, hb1⟩; have HT1 := Lib.hid (HT.out.below hb1); have HB1 := Lib.hid hb1; clear hb1 HT)
    | (go_at_call 42; ((with_reducible refine (print_m m t HTM.out HM.out _ HT1.out).mono ?_)); rintro e w2 ⟨rfl, hb2⟩; have HT2 := Lib.hid (HT1.out.below hb2); have HB2 := Lib.hid (HB1.out.trans (hb2.mono HB1.out.size)); clear hb2 HB1 HT1)
    | (go_at_call 42; ((with_reducible refine (print_p p t HTP.out HP.out _ HT2.out).mono ?_)); rintro e w3 ⟨rfl, hb3⟩; have HT3 := Lib.hid (HT2.out.below hb3); have HB3 := Lib.hid (HB2.out.trans (hb3.mono HB2.out.size)); clear hb3 HB2 HT2)
    | (go_at_call 44; ((with_reducible refine (parse_m m t HTM.out HCN.out HM.out _).mono ?_)); rintro e w4 ⟨rfl, hb4⟩; have HT4 := Lib.hid (HT3.out.below hb4); have HB4 := Lib.hid (HB3.out.trans (hb4.mono HB3.out.size)); clear hb4 HB3 HT3)
    | (go_at_call 15; ((with_reducible refine (first_any _ HT4.out).mono ?_)); rintro e w5 ⟨rfl, hb5⟩; have HT5 := Lib.hid (HT4.out.below hb5); have HB5 := Lib.hid (HB4.out.trans (hb5.mono HB4.out.size)); clear hb5 HB4 HT4)
    | (go_at_call 23; first
        | ((with_reducible refine (class_is m _ HC.out HM.out _).mono ?_); rintro e w' ⟨rfl, rfl⟩)
        | ((with_reducible refine (class_is m _ HCM.out HM.out _).mono ?_); rintro e w' ⟨rfl, rfl⟩)))
  go_ret
  exact ⟨by first | rfl | (refine ret_b ?_; simp; done), HB5.out⟩
set_option maxRecDepth 100000 in
theorem numSigns_3 (p m : Nat) (t : List UInt8) (hp : p < 18446744073709551616) (hm : m < 18446744073709551616) (HTM : Hid (textN m = 45 :: t)) (HTP : Hid (textN p = t)) (HC : Hid (clsN m = 3)) (_HCM : Hid (clsN m = 3)) (HCN : Hid (canon m = m)) (hl : ¬ 9223372036854775807 < 1 + t.length)
    (hng : ∀ w, (Op.unary .neg (.float .f64 m)).run Tryd.prog w = .ok (.float .f64 p) w) (w : World) (hT : Tabs w) :
    Calls Tryd.prog 13 #[.float .f64 m] w fun e w' => e = .returned (.bool true) ∧ Below w.heap.size w w' := by
  have HT := Lib.hid hT; clear hT
  have HP := Lib.hid hp; clear hp
  have HM := Lib.hid hm; clear hm
  go_enter Tryd.func13, Tryd.ntmps13
  go_wp2_with (first
    | (go_at_call 15; refine (first_any _ HT.out).mono ?_; rintro e w1 ⟨rfl, hb1⟩; have HT1 := Lib.hid (HT.out.below hb1); have HB1 := Lib.hid hb1; clear hb1 HT)
    | (go_at_call 42; ((with_reducible refine (print_m m t HTM.out HM.out _ HT1.out).mono ?_)); rintro e w2 ⟨rfl, hb2⟩; have HT2 := Lib.hid (HT1.out.below hb2); have HB2 := Lib.hid (HB1.out.trans (hb2.mono HB1.out.size)); clear hb2 HB1 HT1)
    | (go_at_call 42; ((with_reducible refine (print_p p t HTP.out HP.out _ HT2.out).mono ?_)); rintro e w3 ⟨rfl, hb3⟩; have HT3 := Lib.hid (HT2.out.below hb3); have HB3 := Lib.hid (HB2.out.trans (hb3.mono HB2.out.size)); clear hb3 HB2 HT2)
    | (go_at_call 44; ((with_reducible refine (parse_m m t HTM.out HCN.out HM.out _).mono ?_)); rintro e w4 ⟨rfl, hb4⟩; have HT4 := Lib.hid (HT3.out.below hb4); have HB4 := Lib.hid (HB3.out.trans (hb4.mono HB3.out.size)); clear hb4 HB3 HT3)
    | (go_at_call 15; ((with_reducible refine (first_any _ HT4.out).mono ?_)); rintro e w5 ⟨rfl, hb5⟩; have HT5 := Lib.hid (HT4.out.below hb5); have HB5 := Lib.hid (HB4.out.trans (hb5.mono HB4.out.size)); clear hb5 HB4 HT4)
    | (go_at_call 23; first
        | ((with_reducible refine (class_is m _ HC.out HM.out _).mono ?_); rintro e w' ⟨rfl, rfl⟩)
        | ((with_reducible refine (class_is m _ HCM.out HM.out _).mono ?_); rintro e w' ⟨rfl, rfl⟩)))
  go_ret
  exact ⟨by first | rfl | (refine ret_b ?_; simp; done), HB5.out⟩
set_option maxRecDepth 100000 in
theorem numSigns_4 (p m : Nat) (t : List UInt8) (hp : p < 18446744073709551616) (hm : m < 18446744073709551616) (HTM : Hid (textN m = 45 :: t)) (HTP : Hid (textN p = t)) (HC : Hid (clsN m = 4)) (_HCM : Hid (clsN m = 4)) (HCN : Hid (canon m = m)) (hl : ¬ 9223372036854775807 < 1 + t.length)
    (hng : ∀ w, (Op.unary .neg (.float .f64 m)).run Tryd.prog w = .ok (.float .f64 p) w) (w : World) (hT : Tabs w) :
    Calls Tryd.prog 13 #[.float .f64 m] w fun e w' => e = .returned (.bool true) ∧ Below w.heap.size w w' := by
  have HT := Lib.hid hT; clear hT
  have HP := Lib.hid hp; clear hp
  have HM := Lib.hid hm; clear hm
  go_enter Tryd.func13, Tryd.ntmps13
  go_wp2_with (first
    | (go_at_call 15; refine (first_any _ HT.out).mono ?_; rintro e w1 ⟨rfl, hb1⟩; have HT1 := Lib.hid (HT.out.below hb1); have HB1 := Lib.hid hb1; clear hb1 HT)
    | (go_at_call 42; ((with_reducible refine (print_m m t HTM.out HM.out _ HT1.out).mono ?_)); rintro e w2 ⟨rfl, hb2⟩; have HT2 := Lib.hid (HT1.out.below hb2); have HB2 := Lib.hid (HB1.out.trans (hb2.mono HB1.out.size)); clear hb2 HB1 HT1)
    | (go_at_call 42; ((with_reducible refine (print_p p t HTP.out HP.out _ HT2.out).mono ?_)); rintro e w3 ⟨rfl, hb3⟩; have HT3 := Lib.hid (HT2.out.below hb3); have HB3 := Lib.hid (HB2.out.trans (hb3.mono HB2.out.size)); clear hb3 HB2 HT2)
    | (go_at_call 44; ((with_reducible refine (parse_m m t HTM.out HCN.out HM.out _).mono ?_)); rintro e w4 ⟨rfl, hb4⟩; have HT4 := Lib.hid (HT3.out.below hb4); have HB4 := Lib.hid (HB3.out.trans (hb4.mono HB3.out.size)); clear hb4 HB3 HT3)
    | (go_at_call 15; ((with_reducible refine (first_any _ HT4.out).mono ?_)); rintro e w5 ⟨rfl, hb5⟩; have HT5 := Lib.hid (HT4.out.below hb5); have HB5 := Lib.hid (HB4.out.trans (hb5.mono HB4.out.size)); clear hb5 HB4 HT4)
    | (go_at_call 23; first
        | ((with_reducible refine (class_is m _ HC.out HM.out _).mono ?_); rintro e w' ⟨rfl, rfl⟩)
        | ((with_reducible refine (class_is m _ HCM.out HM.out _).mono ?_); rintro e w' ⟨rfl, rfl⟩)))
  go_ret
  exact ⟨by first | rfl | (refine ret_b ?_; simp; done), HB5.out⟩
set_option maxRecDepth 100000 in
theorem numSigns_5 (p m : Nat) (t : List UInt8) (hp : p < 18446744073709551616) (hm : m < 18446744073709551616) (HTM : Hid (textN m = 45 :: t)) (HTP : Hid (textN p = t)) (HC : Hid (clsN p = 5)) (HCM : Hid (clsN m = 4)) (HCN : Hid (canon m = m)) (hl : ¬ 9223372036854775807 < 1 + t.length)
    (hng : ∀ w, (Op.unary .neg (.float .f64 p)).run Tryd.prog w = .ok (.float .f64 m) w) (w : World) (hT : Tabs w) :
    Calls Tryd.prog 13 #[.float .f64 p] w fun e w' => e = .returned (.bool true) ∧ Below w.heap.size w w' := by
  have HT := Lib.hid hT; clear hT
  have HP := Lib.hid hp; clear hp
  have HM := Lib.hid hm; clear hm
  go_enter Tryd.func13, Tryd.ntmps13
  go_wp2_with (first
    | (go_at_call 15; refine (first_any _ HT.out).mono ?_; rintro e w1 ⟨rfl, hb1⟩; have HT1 := Lib.hid (HT.out.below hb1); have HB1 := Lib.hid hb1; clear hb1 HT)
    | (go_at_call 42; ((with_reducible refine (print_p p t HTP.out HP.out _ HT1.out).mono ?_)); rintro e w2 ⟨rfl, hb2⟩; have HT2 := Lib.hid (HT1.out.below hb2); have HB2 := Lib.hid (HB1.out.trans (hb2.mono HB1.out.size)); clear hb2 HB1 HT1)
    | (go_at_call 42; ((with_reducible refine (print_m m t HTM.out HM.out _ HT2.out).mono ?_)); rintro e w3 ⟨rfl, hb3⟩; have HT3 := Lib.hid (HT2.out.below hb3); have HB3 := Lib.hid (HB2.out.trans (hb3.mono HB2.out.size)); clear hb3 HB2 HT2)
    | (go_at_call 44; ((with_reducible refine (parse_m m t HTM.out HCN.out HM.out _).mono ?_)); rintro e w4 ⟨rfl, hb4⟩; have HT4 := Lib.hid (HT3.out.below hb4); have HB4 := Lib.hid (HB3.out.trans (hb4.mono HB3.out.size)); clear hb4 HB3 HT3)
    | (go_at_call 15; ((with_reducible refine (first_any _ HT4.out).mono ?_)); rintro e w5 ⟨rfl, hb5⟩; have HT5 := Lib.hid (HT4.out.below hb5); have HB5 := Lib.hid (HB4.out.trans (hb5.mono HB4.out.size)); clear hb5 HB4 HT4)
    | (go_at_call 23; first
        | ((with_reducible refine (class_is p _ HC.out HP.out _).mono ?_); rintro e w' ⟨rfl, rfl⟩)
        | ((with_reducible refine (class_is m _ HCM.out HM.out _).mono ?_); rintro e w' ⟨rfl, rfl⟩)))
  go_ret
  exact ⟨by first | rfl | (refine ret_b ?_; simp; done), HB5.out⟩
set_option maxRecDepth 100000 in
theorem numSigns_6 (p m : Nat) (t : List UInt8) (hp : p < 18446744073709551616) (hm : m < 18446744073709551616) (HTM : Hid (textN m = 45 :: t)) (HTP : Hid (textN p = t)) (HC : Hid (clsN p = 6)) (HCM : Hid (clsN m = 3)) (HCN : Hid (canon m = m)) (hl : ¬ 9223372036854775807 < 1 + t.length)
    (hng : ∀ w, (Op.unary .neg (.float .f64 p)).run Tryd.prog w = .ok (.float .f64 m) w) (w : World) (hT : Tabs w) :
    Calls Tryd.prog 13 #[.float .f64 p] w fun e w' => e = .returned (.bool true) ∧ Below w.heap.size w w' := by
  have HT := Lib.hid hT; clear hT
  have HP := Lib.hid hp; clear hp
  have HM := Lib.hid hm; clear hm
  go_enter Tryd.func13, Tryd.ntmps13
  go_wp2_with (first
    | (go_at_call 15; refine (first_any _ HT.out).mono ?_; rintro e w1 ⟨rfl, hb1⟩; have HT1 := Lib.hid (HT.out.below hb1); have HB1 := Lib.hid hb1; clear hb1 HT)
    | (go_at_call 42; ((with_reducible refine (print_p p t HTP.out HP.out _ HT1.out).mono ?_)); rintro e w2 ⟨rfl, hb2⟩; have HT2 := Lib.hid (HT1.out.below hb2); have HB2 := Lib.hid (HB1.out.trans (hb2.mono HB1.out.size)); clear hb2 HB1 HT1)
    | (go_at_call 42; ((with_reducible refine (print_m m t HTM.out HM.out _ HT2.out).mono ?_)); rintro e w3 ⟨rfl, hb3⟩; have HT3 := Lib.hid (HT2.out.below hb3); have HB3 := Lib.hid (HB2.out.trans (hb3.mono HB2.out.size)); clear hb3 HB2 HT2)
    | (go_at_call 44; ((with_reducible refine (parse_m m t HTM.out HCN.out HM.out _).mono ?_)); rintro e w4 ⟨rfl, hb4⟩; have HT4 := Lib.hid (HT3.out.below hb4); have HB4 := Lib.hid (HB3.out.trans (hb4.mono HB3.out.size)); clear hb4 HB3 HT3)
    | (go_at_call 15; ((with_reducible refine (first_any _ HT4.out).mono ?_)); rintro e w5 ⟨rfl, hb5⟩; have HT5 := Lib.hid (HT4.out.below hb5); have HB5 := Lib.hid (HB4.out.trans (hb5.mono HB4.out.size)); clear hb5 HB4 HT4)
    | (go_at_call 23; first
        | ((with_reducible refine (class_is p _ HC.out HP.out _).mono ?_); rintro e w' ⟨rfl, rfl⟩)
        | ((with_reducible refine (class_is m _ HCM.out HM.out _).mono ?_); rintro e w' ⟨rfl, rfl⟩)))
  go_ret
  exact ⟨by first | rfl | (refine ret_b ?_; simp; done), HB5.out⟩
set_option maxRecDepth 100000 in
theorem numSigns_7 (p m : Nat) (t : List UInt8) (hp : p < 18446744073709551616) (hm : m < 18446744073709551616) (HTM : Hid (textN m = 45 :: t)) (HTP : Hid (textN p = t)) (HC : Hid (clsN p = 7)) (HCM : Hid (clsN m = 2)) (HCN : Hid (canon m = m)) (hl : ¬ 9223372036854775807 < 1 + t.length)
    (hng : ∀ w, (Op.unary .neg (.float .f64 p)).run Tryd.prog w = .ok (.float .f64 m) w) (w : World) (hT : Tabs w) :
    Calls Tryd.prog 13 #[.float .f64 p] w fun e w' => e = .returned (.bool true) ∧ Below w.heap.size w w' := by
  have HT := Lib.hid hT; clear hT
  have HP := Lib.hid hp; clear hp
  have HM := Lib.hid hm; clear hm
  go_enter Tryd.func13, Tryd.ntmps13
  go_wp2_with (first
    | (go_at_call 15; refine (first_any _ HT.out).mono ?_; rintro e w1 ⟨rfl, hb1⟩; have HT1 := Lib.hid (HT.out.below hb1); have HB1 := Lib.hid hb1; clear hb1 HT)
    | (go_at_call 42; ((with_reducible refine (print_p p t HTP.out HP.out _ HT1.out).mono ?_)); rintro e w2 ⟨rfl, hb2⟩; have HT2 := Lib.hid (HT1.out.below hb2); have HB2 := Lib.hid (HB1.out.trans (hb2.mono HB1.out.size)); clear hb2 HB1 HT1)
    | (go_at_call 42; ((with_reducible refine (print_m m t HTM.out HM.out _ HT2.out).mono ?_)); rintro e w3 ⟨rfl, hb3⟩; have HT3 := Lib.hid (HT2.out.below hb3); have HB3 := Lib.hid (HB2.out.trans (hb3.mono HB2.out.size)); clear hb3 HB2 HT2)
    | (go_at_call 44; ((with_reducible refine (parse_m m t HTM.out HCN.out HM.out _).mono ?_)); rintro e w4 ⟨rfl, hb4⟩; have HT4 := Lib.hid (HT3.out.below hb4); have HB4 := Lib.hid (HB3.out.trans (hb4.mono HB3.out.size)); clear hb4 HB3 HT3)
    | (go_at_call 15; ((with_reducible refine (first_any _ HT4.out).mono ?_)); rintro e w5 ⟨rfl, hb5⟩; have HT5 := Lib.hid (HT4.out.below hb5); have HB5 := Lib.hid (HB4.out.trans (hb5.mono HB4.out.size)); clear hb5 HB4 HT4)
    | (go_at_call 23; first
        | ((with_reducible refine (class_is p _ HC.out HP.out _).mono ?_); rintro e w' ⟨rfl, rfl⟩)
        | ((with_reducible refine (class_is m _ HCM.out HM.out _).mono ?_); rintro e w' ⟨rfl, rfl⟩)))
  go_ret
  exact ⟨by first | rfl | (refine ret_b ?_; simp; done), HB5.out⟩
set_option maxRecDepth 100000 in
theorem numSigns_8 (p m : Nat) (t : List UInt8) (hp : p < 18446744073709551616) (hm : m < 18446744073709551616) (HTM : Hid (textN m = 45 :: t)) (HTP : Hid (textN p = t)) (HC : Hid (clsN p = 8)) (HCM : Hid (clsN m = 1)) (HCN : Hid (canon m = m)) (hl : ¬ 9223372036854775807 < 1 + t.length)
    (hng : ∀ w, (Op.unary .neg (.float .f64 p)).run Tryd.prog w = .ok (.float .f64 m) w) (w : World) (hT : Tabs w) :
    Calls Tryd.prog 13 #[.float .f64 p] w fun e w' => e = .returned (.bool true) ∧ Below w.heap.size w w' := by
  have HT := Lib.hid hT; clear hT
  have HP := Lib.hid hp; clear hp
  have HM := Lib.hid hm; clear hm
  go_enter Tryd.func13, Tryd.ntmps13
  go_wp2_with (first
    | (go_at_call 15; refine (first_any _ HT.out).mono ?_; rintro e w1 ⟨rfl, hb1⟩; have HT1 := Lib.hid (HT.out.below hb1); have HB1 := Lib.hid hb1; clear hb1 HT)
    | (go_at_call 42; ((with_reducible refine (print_p p t HTP.out HP.out _ HT1.out).mono ?_)); rintro e w2 ⟨rfl, hb2⟩; have HT2 := Lib.hid (HT1.out.below hb2); have HB2 := Lib.hid (HB1.out.trans (hb2.mono HB1.out.size)); clear hb2 HB1 HT1)
    | (go_at_call 42; ((with_reducible refine (print_m m t HTM.out HM.out _ HT2.out).mono ?_)); rintro e w3 ⟨rfl, hb3⟩; have HT3 := Lib.hid (HT2.out.below hb3); have HB3 := Lib.hid (HB2.out.trans (hb3.mono HB2.out.size)); clear hb3 HB2 HT2)
    | (go_at_call 44; ((with_reducible refine (parse_m m t HTM.out HCN.out HM.out _).mono ?_)); rintro e w4 ⟨rfl, hb4⟩; have HT4 := Lib.hid (HT3.out.below hb4); have HB4 := Lib.hid (HB3.out.trans (hb4.mono HB3.out.size)); clear hb4 HB3 HT3)
    | (go_at_call 15; ((with_reducible refine (first_any _ HT4.out).mono ?_)); rintro e w5 ⟨rfl, hb5⟩; have HT5 := Lib.hid (HT4.out.below hb5); have HB5 := Lib.hid (HB4.out.trans (hb5.mono HB4.out.size)); clear hb5 HB4 HT4)
    | (go_at_call 23; first
        | ((with_reducible refine (class_is p _ HC.out HP.out _).mono ?_); rintro e w' ⟨rfl, rfl⟩)
        | ((with_reducible refine (class_is m _ HCM.out HM.out _).mono ?_); rintro e w' ⟨rfl, rfl⟩)))
  go_ret
  exact ⟨by first | rfl | (refine ret_b ?_; simp; done), HB5.out⟩

theorem numSigns_walk (x : Nat) (hx : x < 18446744073709551616) (w : World) (hT : Tabs w) :
    Calls Tryd.prog 13 #[.float .f64 x] w fun e w' => e = .returned (.bool true) ∧ Below w.heap.size w w' := by
  cases hn : nanB x
  · have hb : ¬ infR < x % 9223372036854775808 := by simpa [nanB] using hn
    have hcx := canon_num hn
    have hI : infR = 9218868437227405312 := rfl
    by_cases hs : x < 9223372036854775808
    · have e : x % 9223372036854775808 = x := by omega
      rw [e] at hb
      obtain ⟨c1, c2, c3⟩ := cls_sign (p := x) (by omega)
      have ht := text_sign (p := x) (by omega)
      have hlen := textN_len hx
      have hl : ¬ 9223372036854775807 < 1 + (textN x).length := by omega
      have hcm : canon (9223372036854775808 + x) = 9223372036854775808 + x := canon_num (by unfold nanB; rw [decide_eq_false_iff_not]; omega)
      have hng := fun w => run_neg_lo (b := x) hs w
      have hm : 9223372036854775808 + x < 18446744073709551616 := by omega
      have h4 : clsN x = 5 ∨ clsN x = 6 ∨ clsN x = 7 ∨ clsN x = 8 := by omega
      rcases h4 with hc | hc | hc | hc
      · exact numSigns_5 x _ _ hx hm ht rfl hc (show _ = _ by rw [c1, hc]) hcm hl hng w hT
      · exact numSigns_6 x _ _ hx hm ht rfl hc (show _ = _ by rw [c1, hc]) hcm hl hng w hT
      · exact numSigns_7 x _ _ hx hm ht rfl hc (show _ = _ by rw [c1, hc]) hcm hl hng w hT
      · exact numSigns_8 x _ _ hx hm ht rfl hc (show _ = _ by rw [c1, hc]) hcm hl hng w hT
    · obtain ⟨p, rfl⟩ : ∃ p, x = 9223372036854775808 + p := ⟨x - 9223372036854775808, by omega⟩
      have e : (9223372036854775808 + p) % 9223372036854775808 = p := by omega
      rw [e] at hb
      obtain ⟨c1, c2, c3⟩ := cls_sign (p := p) (by omega)
      have ht := text_sign (p := p) (by omega)
      have hp : p < 18446744073709551616 := by omega
      have hlen := textN_len hp
      have hl : ¬ 9223372036854775807 < 1 + (textN p).length := by omega
      have hng : ∀ w, (Op.unary .neg (.float .f64 (9223372036854775808 + p))).run Tryd.prog w = .ok (.float .f64 p) w := fun w => by
        rw [run_neg_hi (by omega) hx w, show 9223372036854775808 + p - 9223372036854775808 = p by omega]
      have h4 : clsN (9223372036854775808 + p) = 1 ∨ clsN (9223372036854775808 + p) = 2 ∨ clsN (9223372036854775808 + p) = 3 ∨ clsN (9223372036854775808 + p) = 4 := by omega
      rcases h4 with hc | hc | hc | hc
      · exact numSigns_1 p _ _ hp hx ht rfl hc hc hcx hl hng w hT
      · exact numSigns_2 p _ _ hp hx ht rfl hc hc hcx hl hng w hT
      · exact numSigns_3 p _ _ hp hx ht rfl hc hc hcx hl hng w hT
      · exact numSigns_4 p _ _ hp hx ht rfl hc hc hcx hl hng w hT
  · exact numSigns_nan x hx (cls_nan hn) (textN_0 (cls_nan hn)) w hT

set_option maxRecDepth 100000 in
theorem numSigns_lifted (os : Os) (started : os.Started) (H : Type) (enc : TypeId × Value → H) :
    ReturnsInHanded {} Tryd.checked os 13 .any (fun w args => (Rows.numSignsSpec.pre enc Tryd.prog Tryd.f13 [] false w args ∧ laidMetH Tryd.prog laid3 w) ∧ sizedMet enc Tryd.prog Tryd.f13 (OpenSpec.ofChange Rows.numSignsSpec) false w args)
      (Rows.numSignsSpec.post enc Tryd.prog Tryd.f13 false true false false) := by
  refine returnsInHanded_of_change_and (C := Tryd.checked) (X := fun w _ => laidMetH Tryd.prog laid3 w) (fun _ _ _ hh h => h.of_heap hh) own started (by kernel_rfl) Tryd.func13
    (ChangeSpec.witness_shaped (enc := enc) (C := Tryd.checked) (os := os) (X := fun w _ => laidMetH Tryd.prog laid3 w) false (World.doorLaid Tryd.prog 400 os) #[.float .f64 0] 8 rfl (World.shaped_of_RefB (by kernel_rfl) (by kernel_rfl)) (by kernel_rfl) (by kernel_rfl) (by kernel_rfl) (door_met os _)) ?_
  intro W base args ds gs before hval0 hW _ _ hL _
  have hval : ∀ (j : Nat) t v, Tryd.f13.params[j]? = some t → args[j]? = some v → Value.okWide Tryd.prog W .any base t v := hval0
  have hW' := hW
  obtain ⟨p, q, hA0, hV, rfl, hfz, hnd⟩ := hW
  have hA : DataW.TrodAll enc Tryd.prog W 0 (fun _ => true) true Tryd.f13.params.toList args.toList ds p := hA0
  rw [Tryd.params13] at hA hval
  obtain ⟨v0, d0, rfl, rfl, h0⟩ := trodAll_one hA
  obtain ⟨n0, rfl, rfl, rfl, wf0⟩ := open_float Tryd.underlying23 (hval 0 23 v0 rfl rfl) h0
  obtain ⟨rfl, rfl⟩ := trodVars_none hV
  clear hA0 hval0
  simp only [List.append_nil] at hW'
  have hT := tabs_of_laid hL
  have hwf0 := wf0
  simp [Lit.wf] at hwf0
  refine (numSigns_walk n0 (by omega)  W hT).mono fun e W' ⟨he, hw⟩ => ?_
  subst he
  exact ⟨_, rfl, post_of_below (pa := []) (pv := []) hW' (fun _ _ _ => trodAll_mk1 (shut_bool Tryd.underlying4 _)) (fun sp _ => trodAll_mk1 (shut_float Tryd.underlying23 wf0)) (fun _ _ => rfl) rfl hw (ok_one (by kernel_rfl) rfl (okWide_bool_mk Tryd.underlying4 _))⟩

theorem numSigns_holds : Rows.NumSignsSaid :=
  OpenClaim.holds_of_wide 13 Tryd.f13 rfl rfl rfl rfl rfl rfl rfl ⟨rfl, rfl, rfl, rfl, rfl⟩ rfl rfl rfl rfl rfl (by kernel_rfl) Tryd.func13 (by kernel_rfl)
    (of_decide_eq_true (by kernel_rfl)) (by unfold Func.isWrapper; first | (rw [if_pos (by decide +kernel)]; kernel_rfl) | (rw [if_neg (by decide +kernel)]; exact ⟨rfl, rfl⟩))
    (fun os started H enc _ => numSigns_lifted os started H enc)
/-- THE TIED CARD. -/
theorem numSigns_card : Rows.NumSignsCardSaid :=
  Claim7.holds_tied_plain_at .later [] [.data, .data, .data] true (true, "263a68124a9ec9e14e3c232618efbe301a45d4cac9ae9d43003c9ae83addfa09") false
    numSigns_holds (fun _ h => by cases h) (by kernel_rfl) (fun _ h => by cases h) numSigns_row_tie rfl ⟨rfl, rfl⟩ (by kernel_rfl) rfl
    (fun f fn hf hfn => by
      obtain rfl : f = 13 := Option.some.inj ((show Tryd.prog.funcNamed "headrace/racelaw1.NumSigns" = some 13 by kernel_rfl).symm.trans hf) |>.symm
      obtain rfl : fn = Tryd.f13 := (Option.some.inj (Tryd.func13.symm.trans hfn)).symm
      exact ⟨by kernel_rfl, fun j t ht => by
        rw [Tryd.params13] at ht
        have hm : t ∈ [23] := by simpa using Array.mem_of_getElem? ht
        have hall : ([23].all fun u => !Tryd.prog.wantsStandIn u) = true := by kernel_rfl
        exact (show Tryd.prog.wantsStandIn t = false by simpa using List.all_eq_true.1 hall t hm)⟩)
    (by kernel_rfl)
#print axioms numSigns_card
end Go.Proofs.YtjgbccadjgelbaaDoor
