/- num.Whole and raceref1.Whole at any float. Conditions: bits below 2^64. -/
import Derived.Test.YtjgbccadjgelbaaDoorWhole
import Derived.Test.YtjgbccadjgelbaaDoorQ
namespace Go.Proofs.YtjgbccadjgelbaaDoor
open Go Go.RowKit Ieee

theorem val_pos {r : Nat} (h : r ≠ 0) (i : Nat) : 0 < fullN r * 2 ^ i := Nat.mul_pos (by have := full_ne h; omega) (Nat.two_pow_pos _)
theorem val_zero (i : Nat) : fullN 0 * 2 ^ i = 0 := by rw [full_zero, Nat.zero_mul]
theorem order_pn {r q : Nat} (hr : r < infR) (hq : q < infR) : double.order (double.word false r) (double.word true q) = some (if r = 0 ∧ q = 0 then .eq else .gt) := by
  unfold Format.order
  rw [read_word false hr, read_word true hq]
  simp only [Datum.order, signed_pos, signed_neg]
  generalize ((expN r : Int) - 1075 - min ((expN r : Int) - 1075) ((expN q : Int) - 1075)).toNat = i
  generalize ((expN q : Int) - 1075 - min ((expN r : Int) - 1075) ((expN q : Int) - 1075)).toNat = j
  by_cases h1 : r = 0
  · subst h1
    rw [val_zero]
    by_cases h2 : q = 0
    · subst h2; rw [val_zero]; rfl
    · have := val_pos h2 j
      rw [if_neg (by omega), cmp_gt (by omega)]
  · have := val_pos h1 i
    rw [if_neg (by omega), cmp_gt (by omega)]
theorem order_np {r q : Nat} (hr : r < infR) (hq : q < infR) : double.order (double.word true r) (double.word false q) = some (if r = 0 ∧ q = 0 then .eq else .lt) := by
  unfold Format.order
  rw [read_word true hr, read_word false hq]
  simp only [Datum.order, signed_pos, signed_neg]
  generalize ((expN r : Int) - 1075 - min ((expN r : Int) - 1075) ((expN q : Int) - 1075)).toNat = i
  generalize ((expN q : Int) - 1075 - min ((expN r : Int) - 1075) ((expN q : Int) - 1075)).toNat = j
  by_cases h1 : r = 0
  · subst h1
    rw [val_zero]
    by_cases h2 : q = 0
    · subst h2; rw [val_zero]; rfl
    · have := val_pos h2 j
      rw [if_neg (by omega), cmp_lt (by omega)]
  · have := val_pos h1 i
    rw [if_neg (by omega), cmp_lt (by omega)]

theorem run_trunc {x t : Nat} {s : Bool} {m : Nat} {e : Int} (hx : double.read x = .number s m e) (ht : double.write ((double.read x).integral .zero) = t) (w : World) :
    (callFunc 69 #[.float .f64 x]).run Tryd.prog w = .ok (.value (.float .f64 t)) w := by
  rw [run_callFunc_extern Tryd.func69 (by kernel_rfl) (by kernel_rfl) (by kernel_rfl) (e := Extern.MathFloor.toIntegral "math.archTrunc" .zero) (by kernel_rfl)]
  have hd : FloatKind.f64.decode x = .number s m e := hx
  rw [hx] at ht
  have : Extern.MathFloor.toIntegral "math.archTrunc" .zero #[.float .f64 x] = pure (.float .f64 t) := by
    show (match FloatKind.f64.decode x with | .nan _ _ => _ | d => (pure (Value.float .f64 (FloatKind.f64.encode (d.integral .zero))) : Sem Value)) = _
    rw [hd]
    show (pure (Value.float .f64 (FloatKind.f64.encode ((Datum.number s m e).integral .zero))) : Sem Value) = _
    rw [show FloatKind.f64.encode ((Datum.number s m e).integral .zero) = t from ht]
  rw [this]
  rfl
theorem run_trunc_nan {x : Nat} (h : nanB x = true) (w : World) : ∃ t w', Drew w w' ∧ (callFunc 69 #[.float .f64 x]).run Tryd.prog w = .ok (.value (.float .f64 t)) w' := by
  rw [run_callFunc_extern Tryd.func69 (by kernel_rfl) (by kernel_rfl) (by kernel_rfl) (e := Extern.MathFloor.toIntegral "math.archTrunc" .zero) (by kernel_rfl)]
  obtain ⟨s, f, hr⟩ := read_nanB h
  have hd : FloatKind.f64.decode x = .nan s f := hr
  by_cases hq : FloatKind.f64.format.quiet f = f
  · refine ⟨x, w, Drew.refl _, ?_⟩
    have : Extern.MathFloor.toIntegral "math.archTrunc" .zero #[.float .f64 x] = pure (.float .f64 x) := by
      show (match FloatKind.f64.decode x with | .nan s t => if FloatKind.f64.format.quiet t = t then (pure (Value.float .f64 x) : Sem Value) else _ | d => _) = _
      rw [hd]
      show (if FloatKind.f64.format.quiet f = f then (pure (Value.float .f64 x) : Sem Value) else _) = _
      rw [if_pos hq]
    rw [this]; rfl
  · have key : ∃ t, Sem.run Tryd.prog (Extern.MathFloor.toIntegral "math.archTrunc" .zero #[.float .f64 x]) w = .ok (Value.float .f64 t) w.drew := by
      show ∃ t, Sem.run Tryd.prog (match FloatKind.f64.decode x with | .nan s t => if FloatKind.f64.format.quiet t = t then (pure (Value.float .f64 x) : Sem Value) else _ | d => _) w = .ok (Value.float .f64 t) w.drew
      rw [hd]
      show ∃ t, Sem.run Tryd.prog (if FloatKind.f64.format.quiet f = f then (pure (Value.float .f64 x) : Sem Value) else _) w = .ok (Value.float .f64 t) w.drew
      rw [if_neg hq]
      exact ⟨_, rfl⟩
    obtain ⟨t, ht⟩ := key
    exact ⟨t, w.drew, Drew.one _, by rw [ht]; rfl⟩
set_option maxRecDepth 100000 in
theorem trunc_fin (x t : Nat) (s : Bool) (m : Nat) (e : Int) (hx : double.read x = .number s m e) (ht : double.write ((double.read x).integral .zero) = t) (w : World) :
    Calls Tryd.prog 52 #[.float .f64 x] w fun e w' => e = .returned (.float .f64 t) ∧ w = w' := by
  have hr := run_trunc hx ht
  clear hx ht
  go_enter Tryd.func52, Tryd.ntmps52
  go_wp2
  go_ret
  exact ⟨rfl, rfl⟩
set_option maxRecDepth 100000 in
theorem trunc_nan (x : Nat) (h : nanB x = true) (w : World) :
    Calls Tryd.prog 52 #[.float .f64 x] w fun e w' => ∃ t, e = .returned (.float .f64 t) ∧ Drew w w' := by
  obtain ⟨t, w1, hw, hr⟩ := run_trunc_nan h w
  have HW := Lib.hid hw; clear hw h
  suffices hh : Calls Tryd.prog 52 #[.float .f64 x] w fun e w' => e = .returned (.float .f64 t) ∧ w1 = w' by
    refine hh.mono ?_
    rintro e w' ⟨he, rfl⟩
    exact ⟨t, he, HW.out⟩
  go_enter Tryd.func52, Tryd.ntmps52
  go_wp2
  go_ret
  exact ⟨rfl, rfl⟩
theorem nan_order {x y : Nat} (h : nanB x = true) : double.order y x = none := by
  obtain ⟨s, t, hr⟩ := read_nanB h
  unfold Format.order
  rw [hr]
  cases double.read y <;> rfl
theorem nan_order' {x y : Nat} (h : nanB x = true) : double.order x y = none := by
  obtain ⟨s, t, hr⟩ := read_nanB h
  unfold Format.order
  rw [hr]; rfl
theorem nan_abs {x : Nat} (h : nanB x = true) : nanB (x % 9223372036854775808) = true := by
  unfold nanB at *
  rw [Nat.mod_mod]; exact h

set_option maxRecDepth 100000 in
theorem whole_big (x : Nat) (hx : x < 18446744073709551616) (h : (FloatKind.f64.format.order (x % 9223372036854775808) 4845873199050653696 == some .gt) = true) (w : World) :
    Calls Tryd.prog 40 #[.float .f64 x] w fun e w' => e = .returned (.tuple #[.int .i64 0, .bool false]) ∧ Drew w w' := by
  have HX := Lib.hid hx; clear hx
  generalize hm : x % 9223372036854775808 = m at h
  have HM := Lib.hid hm; clear hm
  go_enter Tryd.func40, Tryd.ntmps40
  go_wp2_with (go_at_call 51; refine (abs_any _ HX.out _).mono ?_; rw [HM.out]; rintro e w' ⟨rfl, rfl⟩)
  go_ret2
  exact ⟨rfl, Drew.refl _⟩
set_option maxRecDepth 100000 in
theorem whole_nan (x : Nat) (hx : x < 18446744073709551616) (hn : nanB x = true) (w : World) :
    Calls Tryd.prog 40 #[.float .f64 x] w fun e w' => e = .returned (.tuple #[.int .i64 0, .bool false]) ∧ Drew w w' := by
  have h : (FloatKind.f64.format.order (x % 9223372036854775808) 4845873199050653696 == some .gt) = false := by
    rw [show FloatKind.f64.format.order (x % 9223372036854775808) 4845873199050653696 = none from nan_order' (nan_abs hn)]; rfl
  have h2 : ∀ t, (FloatKind.f64.format.order t x != some .eq) = true := fun t => by
    rw [show FloatKind.f64.format.order t x = none from nan_order hn]; rfl
  have HX := Lib.hid hx; clear hx
  have HN := Lib.hid hn; clear hn
  generalize hm : x % 9223372036854775808 = m at h
  have HM := Lib.hid hm; clear hm
  go_enter Tryd.func40, Tryd.ntmps40
  go_wp2_with (first
    | (go_at_call 51; refine (abs_any _ HX.out _).mono ?_; rw [HM.out]; rintro e w' ⟨rfl, rfl⟩)
    | (go_at_call 52; refine (trunc_nan _ HN.out _).mono ?_; rintro e w' ⟨t, rfl, n, rfl⟩))
  go_ret2
  exact ⟨rfl, ⟨_, rfl⟩⟩
set_option maxRecDepth 100000 in
theorem whole_part (x t : Nat) (s : Bool) (m : Nat) (e : Int) (hx : x < 18446744073709551616) (h : (FloatKind.f64.format.order (x % 9223372036854775808) 4845873199050653696 == some .gt) = false)
    (hr : double.read x = .number s m e) (ht : double.write ((double.read x).integral .zero) = t) (h2 : (FloatKind.f64.format.order t x != some .eq) = true) (w : World) :
    Calls Tryd.prog 40 #[.float .f64 x] w fun e w' => e = .returned (.tuple #[.int .i64 0, .bool false]) ∧ Drew w w' := by
  have HX := Lib.hid hx; clear hx
  have HR := Lib.hid hr; clear hr
  have HT := Lib.hid ht; clear ht
  generalize hm : x % 9223372036854775808 = m at h
  have HM := Lib.hid hm; clear hm
  go_enter Tryd.func40, Tryd.ntmps40
  go_wp2_with (first
    | (go_at_call 51; refine (abs_any _ HX.out _).mono ?_; rw [HM.out]; rintro e w' ⟨rfl, rfl⟩)
    | (go_at_call 52; refine (trunc_fin _ t _ _ _ HR.out HT.out _).mono ?_; rintro e w' ⟨rfl, rfl⟩))
  go_ret2
  exact ⟨rfl, Drew.refl _⟩
set_option maxRecDepth 100000 in
theorem whole_yes (x t : Nat) (s : Bool) (m : Nat) (e v : Int) (hx : x < 18446744073709551616) (h : (FloatKind.f64.format.order (x % 9223372036854775808) 4845873199050653696 == some .gt) = false)
    (hr : double.read x = .number s m e) (ht : double.write ((double.read x).integral .zero) = t) (h2 : (FloatKind.f64.format.order t x != some .eq) = false) (hv : floatToIntVal .f64 x .i64 = some v) (w : World) :
    Calls Tryd.prog 40 #[.float .f64 x] w fun e w' => e = .returned (.tuple #[.int .i64 v, .bool true]) ∧ Drew w w' := by
  have HX := Lib.hid hx; clear hx
  have HR := Lib.hid hr; clear hr
  have HT := Lib.hid ht; clear ht
  generalize hm : x % 9223372036854775808 = m at h
  have HM := Lib.hid hm; clear hm
  have hcv := fun w => run_convert_float_int (P := Tryd.prog) w 23 3 .f64 .i64 x v (by kernel_rfl) Tryd.underlying3 hv
  clear hv
  go_enter Tryd.func40, Tryd.ntmps40
  go_wp2_with (first
    | (go_at_call 51; refine (abs_any _ HX.out _).mono ?_; rw [HM.out]; rintro e w' ⟨rfl, rfl⟩)
    | (go_at_call 52; refine (trunc_fin _ t _ _ _ HR.out HT.out _).mono ?_; rintro e w' ⟨rfl, rfl⟩))
  go_ret2
  exact ⟨rfl, Drew.refl _⟩
/-- raceref1.Whole. -/
theorem rwhole_low (x : Nat) (h1 : (FloatKind.f64.format.order x 14069245235905429504 == some .gt || FloatKind.f64.format.order x 14069245235905429504 == some .eq) = false) (w : World) :
    Calls Tryd.prog 41 #[.float .f64 x] w fun e w' => e = .returned (.tuple #[.int .i64 0, .bool false]) ∧ w = w' := by
  go_enter Tryd.func41, Tryd.ntmps41
  go_wp2
  go_ret2
  exact ⟨rfl, rfl⟩
theorem rwhole_high (x : Nat) (h1 : (FloatKind.f64.format.order x 14069245235905429504 == some .gt || FloatKind.f64.format.order x 14069245235905429504 == some .eq) = true) (h2 : (FloatKind.f64.format.order x 4845873199050653696 == some .lt || FloatKind.f64.format.order x 4845873199050653696 == some .eq) = false) (w : World) :
    Calls Tryd.prog 41 #[.float .f64 x] w fun e w' => e = .returned (.tuple #[.int .i64 0, .bool false]) ∧ w = w' := by
  go_enter Tryd.func41, Tryd.ntmps41
  go_wp2
  go_ret2
  exact ⟨rfl, rfl⟩
theorem rwhole_part (x : Nat) (v : Int) (h1 : (FloatKind.f64.format.order x 14069245235905429504 == some .gt || FloatKind.f64.format.order x 14069245235905429504 == some .eq) = true) (h2 : (FloatKind.f64.format.order x 4845873199050653696 == some .lt || FloatKind.f64.format.order x 4845873199050653696 == some .eq) = true)
    (hv : floatToIntVal .f64 x .i64 = some v) (h3 : (FloatKind.f64.format.order (floatOfInt .f64 v) x != some .eq) = true) (w : World) :
    Calls Tryd.prog 41 #[.float .f64 x] w fun e w' => e = .returned (.tuple #[.int .i64 0, .bool false]) ∧ w = w' := by
  have hcv := fun w => run_convert_float_int (P := Tryd.prog) w 23 3 .f64 .i64 x v (by kernel_rfl) Tryd.underlying3 hv
  clear hv
  go_enter Tryd.func41, Tryd.ntmps41
  go_wp2
  go_ret2
  exact ⟨rfl, rfl⟩
theorem rwhole_yes (x : Nat) (v : Int) (h1 : (FloatKind.f64.format.order x 14069245235905429504 == some .gt || FloatKind.f64.format.order x 14069245235905429504 == some .eq) = true) (h2 : (FloatKind.f64.format.order x 4845873199050653696 == some .lt || FloatKind.f64.format.order x 4845873199050653696 == some .eq) = true)
    (hv : floatToIntVal .f64 x .i64 = some v) (h3 : (FloatKind.f64.format.order (floatOfInt .f64 v) x != some .eq) = false) (w : World) :
    Calls Tryd.prog 41 #[.float .f64 x] w fun e w' => e = .returned (.tuple #[.int .i64 v, .bool true]) ∧ w = w' := by
  have hcv := fun w => run_convert_float_int (P := Tryd.prog) w 23 3 .f64 .i64 x v (by kernel_rfl) Tryd.underlying3 hv
  clear hv
  go_enter Tryd.func41, Tryd.ntmps41
  go_wp2
  go_ret2
  exact ⟨rfl, rfl⟩
end Go.Proofs.YtjgbccadjgelbaaDoor
