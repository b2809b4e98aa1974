/- The point between two, by place and by the document. Conditions: bits below 2^64. -/
import Derived.Test.YtfdopinlmjbfaaaPt
import Derived.Test.YtfdopinlmjbfaaaMi
import Derived.Test.YtfdopinlmjbfaaaG
namespace Go.Proofs.Ytfdopinlmjbfaaa
open Go.RowKit
theorem canon_fin {r : Nat} (h : r < infR) : canon r = r := by
  apply canon_num
  unfold nanB
  rw [decide_eq_false_iff_not]
  unfold infR at *
  omega
theorem add_is {a b r : Nat} (h : Ieee.double.add a b = some r) (hr : r < infR) (w : World) : Calls Try.prog 40 #[.float .f64 a, .float .f64 b] w fun e w' => e = .returned (.float .f64 r) ∧ w = w' := by
  have hc := Lib.hid (canon_fin hr)
  have hr := fun w => run_float_arith (P := Try.prog) w .add 23 .f64 a b r h
  clear h
  go_enter Try.func40, Try.ntmps40
  go_wp2_with (go_at_call 48; refine (canon_any _ _).mono ?_; rintro e w' ⟨rfl, rfl⟩)
  go_ret
  rw [hc.out]
  exact ⟨rfl, rfl⟩
theorem sub_is {a b r : Nat} (h : Ieee.double.sub a b = some r) (hr : r < infR) (w : World) : Calls Try.prog 42 #[.float .f64 a, .float .f64 b] w fun e w' => e = .returned (.float .f64 r) ∧ w = w' := by
  have hc := Lib.hid (canon_fin hr)
  have hr := fun w => run_float_arith (P := Try.prog) w .sub 23 .f64 a b r h
  clear h
  go_enter Try.func42, Try.ntmps42
  go_wp2_with (go_at_call 48; refine (canon_any _ _).mono ?_; rintro e w' ⟨rfl, rfl⟩)
  go_ret
  rw [hc.out]
  exact ⟨rfl, rfl⟩
theorem div_is {a b r : Nat} (h : Ieee.double.div a b = some r) (hr : r < infR) (w : World) : Calls Try.prog 41 #[.float .f64 a, .float .f64 b] w fun e w' => e = .returned (.float .f64 r) ∧ w = w' := by
  have hc := Lib.hid (canon_fin hr)
  have hr := fun w => run_float_arith (P := Try.prog) w .quo 23 .f64 a b r h
  clear h
  go_enter Try.func41, Try.ntmps41
  go_wp2_with (go_at_call 48; refine (canon_any _ _).mono ?_; rintro e w' ⟨rfl, rfl⟩)
  go_ret
  rw [hc.out]
  exact ⟨rfl, rfl⟩
theorem lt_test {r q : Nat} (hr : r < infR) (hq : q < infR) : (FloatKind.f64.format.order r q == some .lt) = decide (r < q) := by
  by_cases h : r < q
  · rw [decide_eq_true h]; exact order_lt_t hr hq h
  · rw [decide_eq_false h]; exact order_lt_f hr hq h
def betB (a m b : Nat) : Bool := decide (a < m) && decide (m < b)
theorem between_any {a m b : Nat} (ha : a < infR) (hm : m < infR) (hb : b < infR) (w : World) : Calls Try.prog 43 #[.float .f64 a, .float .f64 m, .float .f64 b] w fun e w' => e = .returned (.bool (betB a m b)) ∧ w = w' := by
  have h1 := lt_test ha hm
  have h2 := lt_test hm hb
  unfold betB
  clear ha hm hb
  generalize hc : decide (a < m) = c at *
  generalize hd : decide (m < b) = d at *
  clear hc hd
  cases c <;> cases d
  all_goals
    go_enter Try.func43, Try.ntmps43
    go_wp2
    go_ret
    exact ⟨rfl, rfl⟩
/-- What Mid answers: the point between and the error. -/
def midV (a b : Nat) : Nat × Int := if ptB a = true ∧ ptB b = true ∧ a < b then (if betB a (midN a b) b = true then (midN a b, 0) else (0, 24)) else (0, 1)
theorem pt_fin {b : Nat} (h : ptB b = true) : b < infR := by
  have := of_decide_eq_true h
  have := one_fin
  omega
theorem mid_any (a b : Nat) (ha : a < 18446744073709551616) (hb : b < 18446744073709551616) (w : World) : Calls Try.prog 20 #[.float .f64 a, .float .f64 b] w fun e w' => e = .returned (.tuple #[.float .f64 (midV a b).1, .int .i64 (midV a b).2]) ∧ w = w' := by
  have HA := fun w => Lib.hid (isPoint_any a ha w)
  have HB := fun w => Lib.hid (isPoint_any b hb w)
  unfold midV
  clear ha hb
  cases hpa : ptB a
  · rw [hpa] at HA
    rw [if_neg (by simp)]
    clear hpa
    go_enter Try.func20, Try.ntmps20
    go_wp2_with (go_at_call 38; ((with_reducible refine (HA _).out.mono ?_); rintro e w' ⟨rfl, rfl⟩))
    go_ret2
    exact ⟨rfl, rfl⟩
  rw [hpa] at HA
  cases hpb : ptB b
  · rw [hpb] at HB
    rw [if_neg (by simp)]
    clear hpb hpa
    go_enter Try.func20, Try.ntmps20
    go_wp2_with (go_at_call 38; first | ((with_reducible refine (HA _).out.mono ?_); rintro e w' ⟨rfl, rfl⟩) | ((with_reducible refine (HB _).out.mono ?_); rintro e w' ⟨rfl, rfl⟩))
    go_ret2
    exact ⟨rfl, rfl⟩
  rw [hpb] at HB
  have hlt := lt_test (pt_fin hpa) (pt_fin hpb)
  by_cases hab : a < b
  · rw [decide_eq_true hab] at hlt
    rw [if_pos ⟨rfl, rfl, hab⟩]
    obtain ⟨x, y, m, e1, hx, e2, hy, e3, hm, _, _⟩ := mid_spec hab (of_decide_eq_true hpb)
    rw [midN_eq e1 e2 e3]
    have H1 := fun w => Lib.hid (sub_is e1 hx w)
    have H2 : ∀ w, Hid (Calls Try.prog 41 #[.float .f64 x, .float .f64 4611686018427387904] w fun e w' => e = .returned (.float .f64 y) ∧ w = w') := fun w => Lib.hid (div_is e2 hy w)
    have H3 := fun w => Lib.hid (add_is e3 hm w)
    have H4 := fun w => Lib.hid (between_any (pt_fin hpa) hm (pt_fin hpb) w)
    clear e1 e2 e3 hx hy hm hpa hpb hab
    cases hbt : betB a m b
    all_goals
      rw [hbt] at H4
      clear hbt
      go_enter Try.func20, Try.ntmps20
      go_wp2_with (first
        | (go_at_call 38; first | ((with_reducible refine (HA _).out.mono ?_); rintro e w' ⟨rfl, rfl⟩) | ((with_reducible refine (HB _).out.mono ?_); rintro e w' ⟨rfl, rfl⟩))
        | (go_at_call 42; ((with_reducible refine (H1 _).out.mono ?_); rintro e w' ⟨rfl, rfl⟩))
        | (go_at_call 41; ((with_reducible refine (H2 _).out.mono ?_); rintro e w' ⟨rfl, rfl⟩))
        | (go_at_call 40; ((with_reducible refine (H3 _).out.mono ?_); rintro e w' ⟨rfl, rfl⟩))
        | (go_at_call 43; ((with_reducible refine (H4 _).out.mono ?_); rintro e w' ⟨rfl, rfl⟩)))
      go_ret2
      exact ⟨rfl, rfl⟩
  · rw [decide_eq_false hab] at hlt
    rw [if_neg (by simp [hab])]
    clear hpb hpa hab
    go_enter Try.func20, Try.ntmps20
    go_wp2_with (go_at_call 38; first | ((with_reducible refine (HA _).out.mono ?_); rintro e w' ⟨rfl, rfl⟩) | ((with_reducible refine (HB _).out.mono ?_); rintro e w' ⟨rfl, rfl⟩))
    go_ret2
    exact ⟨rfl, rfl⟩
theorem rmid_any (a b : Nat) (ha : a < 18446744073709551616) (hb : b < 18446744073709551616) (w : World) : Calls Try.prog 21 #[.float .f64 a, .float .f64 b] w fun e w' => e = .returned (.tuple #[.float .f64 (midV a b).1, .int .i64 (midV a b).2]) ∧ w = w' := by
  have HA := fun w => Lib.hid (is_any a ha w)
  have HB := fun w => Lib.hid (is_any b hb w)
  unfold midV
  clear ha hb
  cases hpa : ptB a
  · rw [hpa] at HA
    rw [if_neg (by simp)]
    clear hpa
    go_enter Try.func21, Try.ntmps21
    go_wp2_with (go_at_call 39; ((with_reducible refine (HA _).out.mono ?_); rintro e w' ⟨rfl, rfl⟩))
    go_ret2
    exact ⟨rfl, rfl⟩
  rw [hpa] at HA
  cases hpb : ptB b
  · rw [hpb] at HB
    rw [if_neg (by simp)]
    clear hpb hpa
    go_enter Try.func21, Try.ntmps21
    go_wp2_with (go_at_call 39; first | ((with_reducible refine (HA _).out.mono ?_); rintro e w' ⟨rfl, rfl⟩) | ((with_reducible refine (HB _).out.mono ?_); rintro e w' ⟨rfl, rfl⟩))
    go_ret2
    exact ⟨rfl, rfl⟩
  rw [hpb] at HB
  have hlt := lt_test (pt_fin hpa) (pt_fin hpb)
  by_cases hab : a < b
  · rw [decide_eq_true hab] at hlt
    rw [if_pos ⟨rfl, rfl, hab⟩]
    obtain ⟨x, y, m, e1, hx, e2, hy, e3, hm, _, _⟩ := mid_spec hab (of_decide_eq_true hpb)
    rw [midN_eq e1 e2 e3]
    have H1 := fun w => run_float_arith (P := Try.prog) w .sub 23 .f64 _ _ _ e1
    have H2 := fun w => run_float_arith (P := Try.prog) w .quo 23 .f64 _ _ _ e2
    have H3 := fun w => run_float_arith (P := Try.prog) w .add 23 .f64 _ _ _ e3
    have H4 := lt_test (pt_fin hpa) hm
    have H5 := lt_test hm (pt_fin hpb)
    unfold twoB at H2
    clear e1 e2 e3 hx hy hm hpa hpb hab
    unfold betB
    generalize hc : decide (a < m) = c at *
    generalize hd : decide (m < b) = d at *
    clear hc hd
    cases c <;> cases d
    all_goals
      go_enter Try.func21, Try.ntmps21
      go_wp2_with (first
        | (go_at_call 39; first | ((with_reducible refine (HA _).out.mono ?_); rintro e w' ⟨rfl, rfl⟩) | ((with_reducible refine (HB _).out.mono ?_); rintro e w' ⟨rfl, rfl⟩)))
      go_ret2
      exact ⟨rfl, rfl⟩
  · rw [decide_eq_false hab] at hlt
    rw [if_neg (by simp [hab])]
    clear hpb hpa hab
    go_enter Try.func21, Try.ntmps21
    go_wp2_with (go_at_call 39; first | ((with_reducible refine (HA _).out.mono ?_); rintro e w' ⟨rfl, rfl⟩) | ((with_reducible refine (HB _).out.mono ?_); rintro e w' ⟨rfl, rfl⟩))
    go_ret2
    exact ⟨rfl, rfl⟩
end Go.Proofs.Ytfdopinlmjbfaaa
