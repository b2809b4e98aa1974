/- hlc.Compare, Later, Prior; raceref8's. Conditions: stamps of ints. -/
import Derived.Test.YtmpokhjchbaleaaDoorA
namespace Go.Proofs.YtmpokhjchbaleaaDoor
open Go.RowKit
def cmpI (x y : Int) : Int := if x < y then -1 else if y < x then 1 else 0
theorem cmp_any (x y : Int) (w : World) : Calls Tryd.prog 34 #[.int .i64 x, .int .i64 y] w fun e w' => e = .returned (.int .i64 (cmpI x y)) ∧ w = w' :=
  (Tryd.cmp_Compare_int x y w).mono fun _ _ ⟨h1, h2⟩ => ⟨h1, h2.symm⟩
theorem order_any (x y : Int) (w : World) : Calls Tryd.prog 35 #[.int .i64 x, .int .i64 y] w fun e w' => e = .returned (.int .i64 (cmpI x y)) ∧ w = w' := by
  unfold cmpI
  by_cases h : x < y
  · rw [if_pos h]
    go_enter Tryd.func35, Tryd.ntmps35
    go_wp2
    go_ret
    exact ⟨rfl, rfl⟩
  · rw [if_neg h]
    by_cases h2 : y < x
    all_goals
      simp only [h2, if_true, if_false]
      go_enter Tryd.func35, Tryd.ntmps35
      go_wp2
      go_ret
      exact ⟨rfl, rfl⟩
def cmpS (a b : St) : Int := if a.w ≠ b.w then cmpI a.w b.w else if a.l ≠ b.l then cmpI a.l b.l else cmpI a.n b.n
theorem cmpI_zero {x y : Int} : cmpI x y = 0 ↔ x = y := by
  unfold cmpI
  split
  · omega
  · split <;> omega
theorem compare_any (a b : St) (w : World) : Calls Tryd.prog 15 #[sagg a, sagg b] w fun e w' => e = .returned (.int .i64 (cmpS a b)) ∧ Below w.heap.size w w' := by
  obtain ⟨a1, a2, a3⟩ := a
  obtain ⟨b1, b2, b3⟩ := b
  unfold cmpS
  simp only
  by_cases h1 : a1 = b1
  · rw [if_neg (by simpa using h1)]
    by_cases h2 : a2 = b2
    · rw [if_neg (by simpa using h2)]
      have h1' : (a1 != b1) = false := by simpa using h1
      have h2' : (a2 != b2) = false := by simpa using h2
      clear h1 h2
      go_enter Tryd.func15, Tryd.ntmps15
      go_wp2_with (go_at_call 34; ((with_reducible refine (cmp_any _ _ _).mono ?_); rintro e w' ⟨rfl, rfl⟩))
      go_ret
      exact ⟨rfl, below2 _ _ _⟩
    · rw [if_pos (by simpa using h2)]
      have h1' : (a1 != b1) = false := by simpa using h1
      have h2' : (a2 != b2) = true := by simpa using h2
      clear h1 h2
      go_enter Tryd.func15, Tryd.ntmps15
      go_wp2_with (go_at_call 34; ((with_reducible refine (cmp_any _ _ _).mono ?_); rintro e w' ⟨rfl, rfl⟩))
      go_ret
      exact ⟨rfl, below2 _ _ _⟩
  · rw [if_pos (by simpa using h1)]
    have h1' : (a1 != b1) = true := by simpa using h1
    clear h1
    go_enter Tryd.func15, Tryd.ntmps15
    go_wp2_with (go_at_call 34; ((with_reducible refine (cmp_any _ _ _).mono ?_); rintro e w' ⟨rfl, rfl⟩))
    go_ret
    exact ⟨rfl, below2 _ _ _⟩
theorem rcompare_any (a b : St) (w : World) : Calls Tryd.prog 16 #[sagg a, sagg b] w fun e w' => e = .returned (.int .i64 (cmpS a b)) ∧ Below w.heap.size w w' := by
  obtain ⟨a1, a2, a3⟩ := a
  obtain ⟨b1, b2, b3⟩ := b
  unfold cmpS
  simp only
  have HA := fun w => Lib.hid (order_any a1 b1 w)
  have HB := fun w => Lib.hid (order_any a2 b2 w)
  have HC := fun w => Lib.hid (order_any a3 b3 w)
  have z1 : cmpI a1 b1 = 0 ↔ a1 = b1 := cmpI_zero
  have z2 : cmpI a2 b2 = 0 ↔ a2 = b2 := cmpI_zero
  generalize cmpI a1 b1 = x at *
  generalize cmpI a2 b2 = y at *
  generalize cmpI a3 b3 = z at *
  by_cases h1 : a1 = b1
  · rw [if_neg (by simpa using h1)]
    have h1' : (x == 0) = true := by simpa using z1.2 h1
    by_cases h2 : a2 = b2
    · rw [if_neg (by simpa using h2)]
      have h2' : (y == 0) = true := by simpa using z2.2 h2
      clear h1 h2 z1 z2
      go_enter Tryd.func16, Tryd.ntmps16
      go_wp2_with (go_at_call 35; first | ((with_reducible refine (HA _).out.mono ?_); rintro e w' ⟨rfl, rfl⟩) | ((with_reducible refine (HB _).out.mono ?_); rintro e w' ⟨rfl, rfl⟩) | ((with_reducible refine (HC _).out.mono ?_); rintro e w' ⟨rfl, rfl⟩))
      go_ret
      exact ⟨rfl, below2 _ _ _⟩
    · rw [if_pos (by simpa using h2)]
      have h2' : (y == 0) = false := by simpa using fun e => h2 (z2.1 e)
      clear h1 h2 z1 z2
      go_enter Tryd.func16, Tryd.ntmps16
      go_wp2_with (go_at_call 35; first | ((with_reducible refine (HA _).out.mono ?_); rintro e w' ⟨rfl, rfl⟩) | ((with_reducible refine (HB _).out.mono ?_); rintro e w' ⟨rfl, rfl⟩) | ((with_reducible refine (HC _).out.mono ?_); rintro e w' ⟨rfl, rfl⟩))
      go_ret
      exact ⟨rfl, below2 _ _ _⟩
  · rw [if_pos (by simpa using h1)]
    have h1' : (x == 0) = false := by simpa using fun e => h1 (z1.1 e)
    clear h1 z1 z2
    go_enter Tryd.func16, Tryd.ntmps16
    go_wp2_with (go_at_call 35; first | ((with_reducible refine (HA _).out.mono ?_); rintro e w' ⟨rfl, rfl⟩) | ((with_reducible refine (HB _).out.mono ?_); rintro e w' ⟨rfl, rfl⟩) | ((with_reducible refine (HC _).out.mono ?_); rintro e w' ⟨rfl, rfl⟩))
    go_ret
    exact ⟨rfl, below2 _ _ _⟩
def lessS (a b : St) : Bool := decide (cmpS a b < 0)
theorem less_any (a b : St) (w : World) : Calls Tryd.prog 32 #[sagg a, sagg b] w fun e w' => e = .returned (.bool (lessS a b)) ∧ Below w.heap.size w w' := by
  have HA := Lib.hid (at_new w a)
  have HB := Lib.hid ((at_new (w.alloc (sobj a)) b))
  have HW := Lib.hid (below2 w (sobj a) (sobj b))
  have HC := fun w => Lib.hid (rcompare_any a b w)
  have hl : lessS a b = decide (cmpS a b < 0) := rfl
  rw [hl]
  clear hl
  obtain ⟨a1, a2, a3⟩ := a
  obtain ⟨b1, b2, b3⟩ := b
  generalize cmpS ⟨a1, a2, a3⟩ ⟨b1, b2, b3⟩ = x at *
  go_enter Tryd.func32, Tryd.ntmps32
  go_wp2_with (go_at_call 16; ((with_reducible refine (HC _).out.mono ?_); rintro e w' ⟨rfl, hb⟩; have HW := Lib.hid (HW.out.trans (hb.mono HW.out.size)); clear hb))
  go_ret
  exact ⟨rfl, HW.out⟩
def laterS (a b : St) : St := if lessS a b = true then b else a
theorem later_any (a b : St) (w : World) : Calls Tryd.prog 17 #[sagg a, sagg b] w fun e w' => e = .returned (sagg (laterS a b)) ∧ Below w.heap.size w w' := by
  have H3 := Lib.hid (at_three w a b St.zero)
  have HW := Lib.hid (below3 w (sobj a) (sobj b) (sobj St.zero))
  have HC := fun w => Lib.hid (compare_any a b w)
  have hl : laterS a b = if decide (cmpS a b < 0) = true then b else a := rfl
  rw [hl]
  clear hl
  obtain ⟨a1, a2, a3⟩ := a
  obtain ⟨b1, b2, b3⟩ := b
  generalize cmpS ⟨a1, a2, a3⟩ ⟨b1, b2, b3⟩ = x at *
  cases hx : decide (x < 0)
  all_goals
    go_enter Tryd.func17, Tryd.ntmps17
    go_wp2_with (go_at_call 15; ((with_reducible refine (HC _).out.mono ?_); rintro e w' ⟨rfl, hb⟩; have hA := H3.out.1.below hb H3.out.1.lt; have hB := H3.out.2.1.below hb H3.out.2.1.lt; have HZ := Lib.hid (H3.out.2.2.below hb H3.out.2.2.lt); have p0 := hA.c0; have p1 := hA.c1; have p2 := hA.c2; have q0 := hB.c0; have q1 := hB.c1; have q2 := hB.c2; have z0 := HZ.out.c0; have z1 := HZ.out.c1; have z2 := HZ.out.c2; have y0 := HZ.out.f0; have y1 := HZ.out.f1; have y2 := HZ.out.f2; have HW := Lib.hid (HW.out.trans (hb.mono HW.out.size)); clear hb hA hB))
  · exact bodyPost_ret (res_one rfl _ rfl (HZ.out.setAll ⟨a1, a2, a3⟩)) rfl ⟨rfl, below_set3 (b := w.heap.size + 1 + 1) (u := ⟨a1, a2, a3⟩) HW.out (Nat.le_succ_of_le (Nat.le_succ _))⟩
  · exact bodyPost_ret (res_one rfl _ rfl (HZ.out.setAll ⟨b1, b2, b3⟩)) rfl ⟨rfl, below_set3 (b := w.heap.size + 1 + 1) (u := ⟨b1, b2, b3⟩) HW.out (Nat.le_succ_of_le (Nat.le_succ _))⟩
theorem rlater_any (a b : St) (w : World) : Calls Tryd.prog 18 #[sagg a, sagg b] w fun e w' => e = .returned (sagg (laterS a b)) ∧ Below w.heap.size w w' := by
  have H3 := Lib.hid (at_three w a b St.zero)
  have HW := Lib.hid (below3 w (sobj a) (sobj b) (sobj St.zero))
  have HC := fun w => Lib.hid (less_any a b w)
  have hl : laterS a b = if lessS a b = true then b else a := rfl
  rw [hl]
  clear hl
  obtain ⟨a1, a2, a3⟩ := a
  obtain ⟨b1, b2, b3⟩ := b
  generalize lessS ⟨a1, a2, a3⟩ ⟨b1, b2, b3⟩ = x at *
  cases x
  all_goals
    go_enter Tryd.func18, Tryd.ntmps18
    go_wp2_with (go_at_call 32; ((with_reducible refine (HC _).out.mono ?_); rintro e w' ⟨rfl, hb⟩; have hA := H3.out.1.below hb H3.out.1.lt; have hB := H3.out.2.1.below hb H3.out.2.1.lt; have HZ := Lib.hid (H3.out.2.2.below hb H3.out.2.2.lt); have p0 := hA.c0; have p1 := hA.c1; have p2 := hA.c2; have q0 := hB.c0; have q1 := hB.c1; have q2 := hB.c2; have z0 := HZ.out.c0; have z1 := HZ.out.c1; have z2 := HZ.out.c2; have y0 := HZ.out.f0; have y1 := HZ.out.f1; have y2 := HZ.out.f2; have HW := Lib.hid (HW.out.trans (hb.mono HW.out.size)); clear hb hA hB))
  · exact bodyPost_ret (res_one rfl _ rfl (HZ.out.setAll ⟨a1, a2, a3⟩)) rfl ⟨rfl, below_set3 (b := w.heap.size + 1 + 1) (u := ⟨a1, a2, a3⟩) HW.out (Nat.le_succ_of_le (Nat.le_succ _))⟩
  · exact bodyPost_ret (res_one rfl _ rfl (HZ.out.setAll ⟨b1, b2, b3⟩)) rfl ⟨rfl, below_set3 (b := w.heap.size + 1 + 1) (u := ⟨b1, b2, b3⟩) HW.out (Nat.le_succ_of_le (Nat.le_succ _))⟩
def priorS (s : St) : St × Bool :=
  if mayS s = false then (St.zero, false) else if 0 < s.n then (⟨s.w, s.l, s.n - 1⟩, true) else if 0 < s.l then (⟨s.w, s.l - 1, 63⟩, true) else if 0 < s.w then (⟨s.w - 1, 65535, 63⟩, true) else (St.zero, false)
theorem okN_iff {n m : Int} : okN n m = true ↔ 0 ≤ n ∧ n ≤ m := by unfold okN; simp
theorem mayS_iff {s : St} : mayS s = true ↔ (0 ≤ s.w ∧ s.w ≤ 281474976710656) ∧ (0 ≤ s.l ∧ s.l ≤ 65535) ∧ (0 ≤ s.n ∧ s.n ≤ 63) := by
  unfold mayS
  simp [okN_iff]
theorem prior_any (a : St) (w : World) : Calls Tryd.prog 11 #[sagg a] w fun e w' => e = .returned (.tuple #[sagg (priorS a).1, .bool (priorS a).2]) ∧ Below w.heap.size w w' := by
  have H2 := Lib.hid (at_two w a St.zero)
  have HW := Lib.hid (below2 w (sobj a) (sobj St.zero))
  have HC := fun w => Lib.hid (may_any a w)
  cases hm : mayS a
  · have e : priorS a = (St.zero, false) := by unfold priorS; rw [if_pos hm]
    rw [e]
    rw [hm] at HC
    clear e hm
    obtain ⟨a1, a2, a3⟩ := a
    go_enter Tryd.func11, Tryd.ntmps11
    go_wp2_with (go_at_call 13; ((with_reducible refine (HC _).out.mono ?_); rintro e w' ⟨rfl, hb⟩; have hA := H2.out.1.below hb H2.out.1.lt; have HZ := Lib.hid (H2.out.2.below hb H2.out.2.lt); have p0 := hA.c0; have p1 := hA.c1; have p2 := hA.c2; have z0 := HZ.out.c0; have z1 := HZ.out.c1; have z2 := HZ.out.c2; have y0 := HZ.out.f0; have y1 := HZ.out.f1; have y2 := HZ.out.f2; have HW := Lib.hid (HW.out.trans (hb.mono HW.out.size)); clear hb hA))
    exact bodyPost_ret (res_two rfl _ rfl (HZ.out.setAll St.zero)) rfl ⟨rfl, below_set3 (b := w.heap.size + 1) (u := St.zero) HW.out (Nat.le_succ _)⟩
  · have hr := mayS_iff.1 hm
    have e : priorS a = if 0 < a.n then (⟨a.w, a.l, a.n - 1⟩, true) else if 0 < a.l then (⟨a.w, a.l - 1, 63⟩, true) else if 0 < a.w then (⟨a.w - 1, 65535, 63⟩, true) else (St.zero, false) := by
      unfold priorS; rw [if_neg (by rw [hm]; decide)]
    rw [e]
    rw [hm] at HC
    obtain ⟨a1, a2, a3⟩ := a
    simp only at hr ⊢
    have hw1 : IntKind.i64.wrap (a1 - 1) = a1 - 1 := by rw [wrap_in (by omega)]
    have hw2 : IntKind.i64.wrap (a2 - 1) = a2 - 1 := by rw [wrap_in (by omega)]
    have hw3 : IntKind.i64.wrap (a3 - 1) = a3 - 1 := by rw [wrap_in (by omega)]
    clear e hm hr
    by_cases h3 : 0 < a3
    · rw [if_pos h3]
      go_enter Tryd.func11, Tryd.ntmps11
      go_wp2_with (go_at_call 13; ((with_reducible refine (HC _).out.mono ?_); rintro e w' ⟨rfl, hb⟩; have hA := H2.out.1.below hb H2.out.1.lt; have HZ := Lib.hid (H2.out.2.below hb H2.out.2.lt); have p0 := hA.c0; have p1 := hA.c1; have p2 := hA.c2; have z0 := HZ.out.c0; have z1 := HZ.out.c1; have z2 := HZ.out.c2; have y0 := HZ.out.f0; have y1 := HZ.out.f1; have y2 := HZ.out.f2; have HW := Lib.hid (HW.out.trans (hb.mono HW.out.size)); clear hb hA))
      exact bodyPost_ret (res_two rfl _ rfl (HZ.out.setAll ⟨a1, a2, a3 - 1⟩)) rfl ⟨rfl, below_set3 (b := w.heap.size + 1) (u := ⟨a1, a2, a3 - 1⟩) HW.out (Nat.le_succ _)⟩
    rw [if_neg h3]
    by_cases h2 : 0 < a2
    · rw [if_pos h2]
      go_enter Tryd.func11, Tryd.ntmps11
      go_wp2_with (go_at_call 13; ((with_reducible refine (HC _).out.mono ?_); rintro e w' ⟨rfl, hb⟩; have hA := H2.out.1.below hb H2.out.1.lt; have HZ := Lib.hid (H2.out.2.below hb H2.out.2.lt); have p0 := hA.c0; have p1 := hA.c1; have p2 := hA.c2; have z0 := HZ.out.c0; have z1 := HZ.out.c1; have z2 := HZ.out.c2; have y0 := HZ.out.f0; have y1 := HZ.out.f1; have y2 := HZ.out.f2; have HW := Lib.hid (HW.out.trans (hb.mono HW.out.size)); clear hb hA))
      exact bodyPost_ret (res_two rfl _ rfl (HZ.out.setAll ⟨a1, a2 - 1, 63⟩)) rfl ⟨rfl, below_set3 (b := w.heap.size + 1) (u := ⟨a1, a2 - 1, 63⟩) HW.out (Nat.le_succ _)⟩
    rw [if_neg h2]
    by_cases h1 : 0 < a1
    · rw [if_pos h1]
      go_enter Tryd.func11, Tryd.ntmps11
      go_wp2_with (go_at_call 13; ((with_reducible refine (HC _).out.mono ?_); rintro e w' ⟨rfl, hb⟩; have hA := H2.out.1.below hb H2.out.1.lt; have HZ := Lib.hid (H2.out.2.below hb H2.out.2.lt); have p0 := hA.c0; have p1 := hA.c1; have p2 := hA.c2; have z0 := HZ.out.c0; have z1 := HZ.out.c1; have z2 := HZ.out.c2; have y0 := HZ.out.f0; have y1 := HZ.out.f1; have y2 := HZ.out.f2; have HW := Lib.hid (HW.out.trans (hb.mono HW.out.size)); clear hb hA))
      exact bodyPost_ret (res_two rfl _ rfl (HZ.out.setAll ⟨a1 - 1, 65535, 63⟩)) rfl ⟨rfl, below_set3 (b := w.heap.size + 1) (u := ⟨a1 - 1, 65535, 63⟩) HW.out (Nat.le_succ _)⟩
    rw [if_neg h1]
    go_enter Tryd.func11, Tryd.ntmps11
    go_wp2_with (go_at_call 13; ((with_reducible refine (HC _).out.mono ?_); rintro e w' ⟨rfl, hb⟩; have hA := H2.out.1.below hb H2.out.1.lt; have HZ := Lib.hid (H2.out.2.below hb H2.out.2.lt); have p0 := hA.c0; have p1 := hA.c1; have p2 := hA.c2; have z0 := HZ.out.c0; have z1 := HZ.out.c1; have z2 := HZ.out.c2; have y0 := HZ.out.f0; have y1 := HZ.out.f1; have y2 := HZ.out.f2; have HW := Lib.hid (HW.out.trans (hb.mono HW.out.size)); clear hb hA))
    exact bodyPost_ret (res_two rfl _ rfl (HZ.out.setAll St.zero)) rfl ⟨rfl, below_set3 (b := w.heap.size + 1) (u := St.zero) HW.out (Nat.le_succ _)⟩
theorem rprior_any (a : St) (w : World) : Calls Tryd.prog 12 #[sagg a] w fun e w' => e = .returned (.tuple #[sagg (priorS a).1, .bool (priorS a).2]) ∧ Below w.heap.size w w' := by
  have H2 := Lib.hid (at_two w a St.zero)
  have HW := Lib.hid (below2 w (sobj a) (sobj St.zero))
  have HC := fun w => Lib.hid (rmay_any a w)
  cases hm : mayS a
  · have e : priorS a = (St.zero, false) := by unfold priorS; rw [if_pos hm]
    rw [e]
    rw [hm] at HC
    clear e hm
    obtain ⟨a1, a2, a3⟩ := a
    go_enter Tryd.func12, Tryd.ntmps12
    go_wp2_with (go_at_call 14; ((with_reducible refine (HC _).out.mono ?_); rintro e w' ⟨rfl, hb⟩; have hA := H2.out.1.below hb H2.out.1.lt; have HZ := Lib.hid (H2.out.2.below hb H2.out.2.lt); have p0 := hA.c0; have p1 := hA.c1; have p2 := hA.c2; have z0 := HZ.out.c0; have z1 := HZ.out.c1; have z2 := HZ.out.c2; have y0 := HZ.out.f0; have y1 := HZ.out.f1; have y2 := HZ.out.f2; have HW := Lib.hid (HW.out.trans (hb.mono HW.out.size)); clear hb hA))
    exact bodyPost_ret (res_two rfl _ rfl (HZ.out.setAll St.zero)) rfl ⟨rfl, below_set3 (b := w.heap.size + 1) (u := St.zero) HW.out (Nat.le_succ _)⟩
  · have hr := mayS_iff.1 hm
    have e : priorS a = if 0 < a.n then (⟨a.w, a.l, a.n - 1⟩, true) else if 0 < a.l then (⟨a.w, a.l - 1, 63⟩, true) else if 0 < a.w then (⟨a.w - 1, 65535, 63⟩, true) else (St.zero, false) := by
      unfold priorS; rw [if_neg (by rw [hm]; decide)]
    rw [e]
    rw [hm] at HC
    have HEQ := fun w => eq_st a St.zero w
    obtain ⟨a1, a2, a3⟩ := a
    simp only at hr ⊢
    have hw1 : IntKind.i64.wrap (a1 - 1) = a1 - 1 := by rw [wrap_in (by omega)]
    have hw2 : IntKind.i64.wrap (a2 - 1) = a2 - 1 := by rw [wrap_in (by omega)]
    have hw3 : IntKind.i64.wrap (a3 - 1) = a3 - 1 := by rw [wrap_in (by omega)]
    by_cases hz : (⟨a1, a2, a3⟩ : St) = St.zero
    · injection hz with h1 h2 h3
      subst h1 h2 h3
      rw [if_neg (by decide), if_neg (by decide), if_neg (by decide)]
      have heq := fun w => (HEQ w).trans (congrArg (fun b => Result.ok b w) (decide_eq_true rfl))
      clear HEQ e hm hr hw1 hw2 hw3
      go_enter Tryd.func12, Tryd.ntmps12
      go_wp2_with (go_at_call 14; ((with_reducible refine (HC _).out.mono ?_); rintro e w' ⟨rfl, hb⟩; have hA := H2.out.1.below hb H2.out.1.lt; have HZ := Lib.hid (H2.out.2.below hb H2.out.2.lt); have p0 := hA.c0; have p1 := hA.c1; have p2 := hA.c2; have z0 := HZ.out.c0; have z1 := HZ.out.c1; have z2 := HZ.out.c2; have y0 := HZ.out.f0; have y1 := HZ.out.f1; have y2 := HZ.out.f2; have HW := Lib.hid (HW.out.trans (hb.mono HW.out.size)); clear hb hA))
      exact bodyPost_ret (res_two rfl _ rfl (HZ.out.setAll St.zero)) rfl ⟨rfl, below_set3 (b := w.heap.size + 1) (u := St.zero) HW.out (Nat.le_succ _)⟩
    have heq := fun w => (HEQ w).trans (congrArg (fun b => Result.ok b w) (decide_eq_false hz))
    have hz' : ¬ 0 < a3 → ¬ 0 < a2 → 0 < a1 := fun h3 h2 => by
      by_cases h1 : 0 < a1
      · exact h1
      · exfalso; apply hz; unfold St.zero; congr <;> omega
    clear HEQ e hm hr hz
    by_cases h3 : 0 < a3
    · rw [if_pos h3]
      clear hz'
      go_enter Tryd.func12, Tryd.ntmps12
      go_wp2_with (go_at_call 14; ((with_reducible refine (HC _).out.mono ?_); rintro e w' ⟨rfl, hb⟩; have hA := H2.out.1.below hb H2.out.1.lt; have HZ := Lib.hid (H2.out.2.below hb H2.out.2.lt); have p0 := hA.c0; have p1 := hA.c1; have p2 := hA.c2; have z0 := HZ.out.c0; have z1 := HZ.out.c1; have z2 := HZ.out.c2; have y0 := HZ.out.f0; have y1 := HZ.out.f1; have y2 := HZ.out.f2; have HW := Lib.hid (HW.out.trans (hb.mono HW.out.size)); clear hb hA))
      exact bodyPost_ret (res_two rfl _ rfl (HZ.out.setAll ⟨a1, a2, a3 - 1⟩)) rfl ⟨rfl, below_set3 (b := w.heap.size + 1) (u := ⟨a1, a2, a3 - 1⟩) HW.out (Nat.le_succ _)⟩
    rw [if_neg h3]
    by_cases h2 : 0 < a2
    · rw [if_pos h2]
      clear hz'
      go_enter Tryd.func12, Tryd.ntmps12
      go_wp2_with (go_at_call 14; ((with_reducible refine (HC _).out.mono ?_); rintro e w' ⟨rfl, hb⟩; have hA := H2.out.1.below hb H2.out.1.lt; have HZ := Lib.hid (H2.out.2.below hb H2.out.2.lt); have p0 := hA.c0; have p1 := hA.c1; have p2 := hA.c2; have z0 := HZ.out.c0; have z1 := HZ.out.c1; have z2 := HZ.out.c2; have y0 := HZ.out.f0; have y1 := HZ.out.f1; have y2 := HZ.out.f2; have HW := Lib.hid (HW.out.trans (hb.mono HW.out.size)); clear hb hA))
      exact bodyPost_ret (res_two rfl _ rfl (HZ.out.setAll ⟨a1, a2 - 1, 63⟩)) rfl ⟨rfl, below_set3 (b := w.heap.size + 1) (u := ⟨a1, a2 - 1, 63⟩) HW.out (Nat.le_succ _)⟩
    rw [if_neg h2]
    have h1 := hz' h3 h2
    clear hz'
    rw [if_pos h1]
    go_enter Tryd.func12, Tryd.ntmps12
    go_wp2_with (go_at_call 14; ((with_reducible refine (HC _).out.mono ?_); rintro e w' ⟨rfl, hb⟩; have hA := H2.out.1.below hb H2.out.1.lt; have HZ := Lib.hid (H2.out.2.below hb H2.out.2.lt); have p0 := hA.c0; have p1 := hA.c1; have p2 := hA.c2; have z0 := HZ.out.c0; have z1 := HZ.out.c1; have z2 := HZ.out.c2; have y0 := HZ.out.f0; have y1 := HZ.out.f1; have y2 := HZ.out.f2; have HW := Lib.hid (HW.out.trans (hb.mono HW.out.size)); clear hb hA))
    exact bodyPost_ret (res_two rfl _ rfl (HZ.out.setAll ⟨a1 - 1, 65535, 63⟩)) rfl ⟨rfl, below_set3 (b := w.heap.size + 1) (u := ⟨a1 - 1, 65535, 63⟩) HW.out (Nat.le_succ _)⟩
end Go.Proofs.YtmpokhjchbaleaaDoor
