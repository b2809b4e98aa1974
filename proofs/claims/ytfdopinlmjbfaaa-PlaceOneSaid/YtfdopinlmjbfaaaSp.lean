/- place.Split and raceref4.Split. Conditions: bits below 2^64. -/
import Derived.Test.YtfdopinlmjbfaaaRa
import Derived.Laws.ResultCell
namespace Go.Proofs.Ytfdopinlmjbfaaa
open Go.RowKit
theorem at_three (w : World) (a b c : RV) : At (((w.alloc (robj a)).alloc (robj b)).alloc (robj c)) w.heap.size a ∧ At (((w.alloc (robj a)).alloc (robj b)).alloc (robj c)) (w.heap.size + 1) b ∧ At (((w.alloc (robj a)).alloc (robj b)).alloc (robj c)) (w.heap.size + 1 + 1) c := by
  have h2 := at_new (w.alloc (robj a)) b
  have h3 := at_new ((w.alloc (robj a)).alloc (robj b)) c
  refine ⟨((at_new w a).alloc _).alloc _, ?_, ?_⟩
  · have := h2.alloc (robj c)
    simpa using this
  · simpa using h3
theorem run_stf (W : World) (a : Addr) (x : Nat) : (store a (.float .f64 x)).run Try.prog W = stored Try.prog W a (.float .f64 x) .plain := run_store _ _ _ _ _ rfl
theorem load_at {w : World} {b : Nat} {r : RV} (h : At w b r) : (loadVar 34 ⟨b, 0, none⟩).run Try.prog w = .ok (ragg r) w := by
  have c0 := h.c0
  have c1 := h.c1
  have c2 := h.c2
  have c3 := h.c3
  go_simp
theorem cell_set4 {w : World} {b : Nat} {x y z u x' y' z' u' : Value} (h0 : w.cell? ⟨b, 0, none⟩ = some x) (h1 : w.cell? ⟨b, 1, none⟩ = some y) (h2 : w.cell? ⟨b, 2, none⟩ = some z) (h3 : w.cell? ⟨b, 3, none⟩ = some u) :
    ((((w.setCell ⟨b, 0, none⟩ x').setCell ⟨b, 1, none⟩ y').setCell ⟨b, 2, none⟩ z').setCell ⟨b, 3, none⟩ u').cell? ⟨b, 0, none⟩ = some x' ∧ ((((w.setCell ⟨b, 0, none⟩ x').setCell ⟨b, 1, none⟩ y').setCell ⟨b, 2, none⟩ z').setCell ⟨b, 3, none⟩ u').cell? ⟨b, 1, none⟩ = some y' ∧
      ((((w.setCell ⟨b, 0, none⟩ x').setCell ⟨b, 1, none⟩ y').setCell ⟨b, 2, none⟩ z').setCell ⟨b, 3, none⟩ u').cell? ⟨b, 2, none⟩ = some z' ∧ ((((w.setCell ⟨b, 0, none⟩ x').setCell ⟨b, 1, none⟩ y').setCell ⟨b, 2, none⟩ z').setCell ⟨b, 3, none⟩ u').cell? ⟨b, 3, none⟩ = some u' := by
  have n (i j : Nat) (h : i ≠ j) : (⟨b, i, none⟩ : Addr) ≠ ⟨b, j, none⟩ := fun e => h (congrArg Addr.off e)
  refine ⟨?_, ?_, ?_, ?_⟩
  · rw [World.cell?_setCell_other (h := n 3 0 (by decide)), World.cell?_setCell_other (h := n 2 0 (by decide)), World.cell?_setCell_other (h := n 1 0 (by decide)), World.cell?_setCell_same (h := h0)]
  · rw [World.cell?_setCell_other (h := n 3 1 (by decide)), World.cell?_setCell_other (h := n 2 1 (by decide)), World.cell?_setCell_same (u := y) (h := by rw [World.cell?_setCell_other (h := n 0 1 (by decide))]; exact h1)]
  · rw [World.cell?_setCell_other (h := n 3 2 (by decide)), World.cell?_setCell_same (u := z) (h := by rw [World.cell?_setCell_other (h := n 1 2 (by decide)), World.cell?_setCell_other (h := n 0 2 (by decide))]; exact h2)]
  · rw [World.cell?_setCell_same (u := u) (h := by rw [World.cell?_setCell_other (h := n 2 3 (by decide)), World.cell?_setCell_other (h := n 1 3 (by decide)), World.cell?_setCell_other (h := n 0 3 (by decide))]; exact h3)]
abbrev set4 (w : World) (b : Nat) (r : RV) : World := (((w.setCell ⟨b, 0, none⟩ (.int .i64 r.i)).setCell ⟨b, 1, none⟩ (.int .i64 r.e)).setCell ⟨b, 2, none⟩ (.float .f64 r.lo)).setCell ⟨b, 3, none⟩ (.float .f64 r.hi)
theorem At.setAll {w : World} {b : Nat} {r : RV} (h : At w b r) (u : RV) : At (set4 w b u) b u := by
  obtain ⟨e0, e1, e2, e3⟩ := cell_set4 (x' := .int .i64 u.i) (y' := .int .i64 u.e) (z' := .float .f64 u.lo) (u' := .float .f64 u.hi) h.c0 h.c1 h.c2 h.c3
  exact ⟨World.block_lt_of_cell? _ _ e0, e0, e1, e2, e3, by simp [h.f0], by simp [h.f1], by simp [h.f2], by simp [h.f3]⟩
theorem set4_cell (w : World) {b : Nat} (u : RV) {g : Nat} (h : g ≠ b) (o : Nat) : (set4 w b u).cell? ⟨g, o, none⟩ = w.cell? ⟨g, o, none⟩ := by
  have n (j : Nat) : (⟨b, j, none⟩ : Addr) ≠ ⟨g, o, none⟩ := fun e => h (congrArg Addr.block e).symm
  unfold set4
  rw [World.cell?_setCell_other (h := n 3), World.cell?_setCell_other (h := n 2), World.cell?_setCell_other (h := n 1), World.cell?_setCell_other (h := n 0)]
theorem At.set_other {w : World} {b g : Nat} {r : RV} (h : At w g r) (u : RV) (hg : g ≠ b) : At (set4 w b u) g r := by
  have e0 := (set4_cell w u hg 0).trans h.c0
  exact ⟨World.block_lt_of_cell? _ _ e0, e0, (set4_cell w u hg 1).trans h.c1, (set4_cell w u hg 2).trans h.c2, (set4_cell w u hg 3).trans h.c3, by simp [set4, h.f0], by simp [set4, h.f1], by simp [set4, h.f2], by simp [set4, h.f3]⟩
theorem below_set4 {B : Nat} {w w' : World} {b : Nat} (h : Below B w w') (hb : B ≤ b) (r : RV) : Below B w (set4 w' b r) :=
  (((h.setCell (p := ⟨b, 0, none⟩) hb _).setCell (p := ⟨b, 1, none⟩) hb _).setCell (p := ⟨b, 2, none⟩) hb _).setCell (p := ⟨b, 3, none⟩) hb _
theorem res_three {fn : Func} {p q u : Tmp} (h : fn.results = #[.cell p 34, .cell q 34, .tmp u]) (tmps : Array Value) {b c : Nat} {r s : RV} {w : World} (hp : tmps.getD p undef = .pointer (some ⟨b, 0, none⟩)) (hq : tmps.getD q undef = .pointer (some ⟨c, 0, none⟩)) (hA : At w b r) (hB : At w c s) :
    (results fn tmps).run Try.prog w = .ok (.tuple #[ragg r, ragg s, tmps.getD u undef]) w := by
  have l1 := load_at hA
  have l2 := load_at hB
  simp only [Array.getD_eq_getD_getElem?] at hp hq
  simp only [results, h]
  simp [Sem.run_bind, Result.andThen, hp, hq, asAddr, l1, l2]
def okSplit (r : RV) (x : Nat) (c : Int) : Bool := mayV r && (!(r.e == 9223372036854775807) && (idB c && (!(c == r.i) && ptB x)))
def splitV (r : RV) (x : Nat) (c : Int) : RV × RV × Int :=
  if okSplit r x c = true then (if betB r.lo x r.hi = true then (⟨r.i, r.e + 1, r.lo, x⟩, ⟨c, 0, x, r.hi⟩, 0) else (RV.zero, RV.zero, 24)) else (RV.zero, RV.zero, 1)
theorem may_pts {r : RV} (h : mayV r = true) : ptB r.lo = true ∧ ptB r.hi = true ∧ r.lo < r.hi ∧ 1 ≤ r.i ∧ r.i ≤ 12 ∧ 0 ≤ r.e := by
  unfold mayV idB at h
  simp only [Bool.and_eq_true, decide_eq_true_eq] at h
  exact ⟨h.2.2.1, h.2.2.2.1, h.2.2.2.2, h.1.1, h.1.2, h.2.1⟩
set_option maxRecDepth 100000 in
set_option maxHeartbeats 1000000 in
theorem split_any (r : RV) (hr : r.wf) (x : Nat) (hx : x < 18446744073709551616) (c : Int) (w : World) : Calls Try.prog 22 #[ragg r, .float .f64 x, .int .i64 c] w fun e w' => e = .returned (.tuple #[ragg (splitV r x c).1, ragg (splitV r x c).2.1, .int .i64 (splitV r x c).2.2]) ∧ Below w.heap.size w w' := by
  have hst := run_stf
  have HM := fun w => Lib.hid (may_any r hr.2.2.1 hr.2.2.2 w)
  have HI := fun w => Lib.hid (isID_any c w)
  have HX := fun w => Lib.hid (isPoint_any x hx w)
  have HA := Lib.hid (at_three w r RV.zero RV.zero).1
  have HP := Lib.hid (at_three w r RV.zero RV.zero).2.1
  have HQ := Lib.hid (at_three w r RV.zero RV.zero).2.2
  have HW := Lib.hid (below3 w (robj r) (robj RV.zero) (robj RV.zero))
  have hpts := fun h => may_pts (r := r) h
  have hre := hr.2.1
  unfold splitV okSplit
  cases hm : mayV r
  case false =>
    rw [hm] at HM
    rw [Bool.false_and, if_neg (by simp)]
    obtain ⟨i, e, lo, hi⟩ := r
    clear hpts hm hx hr hre
    go_enter Try.func22, Try.ntmps22
    go_wp2_with (first
      | (go_at_call 24; ((with_reducible refine (HM _).out.mono ?_); rintro e w1 ⟨rfl, hb⟩; have HA := Lib.hid (HA.out.below hb HA.out.lt); have HP := Lib.hid (HP.out.below hb HP.out.lt); have HQ := Lib.hid (HQ.out.below hb HQ.out.lt); have HW := Lib.hid (HW.out.trans (hb.mono HW.out.size)); have az := HA.out.lt; have pz := HP.out.lt; have qz := HQ.out.lt; have a0 := HA.out.c0; have a1 := HA.out.c1; have a2 := HA.out.c2; have a3 := HA.out.c3; have p0 := HP.out.c0; have p1 := HP.out.c1; have p2 := HP.out.c2; have p3 := HP.out.c3; have q0 := HQ.out.c0; have q1 := HQ.out.c1; have q2 := HQ.out.c2; have q3 := HQ.out.c3; have pf0 := HP.out.f0; have pf1 := HP.out.f1; have pf2 := HP.out.f2; have pf3 := HP.out.f3; have qf0 := HQ.out.f0; have qf1 := HQ.out.f1; have qf2 := HQ.out.f2; have qf3 := HQ.out.f3; dsimp only [RV.zero] at a0 a1 a2 a3 p0 p1 p2 p3 q0 q1 q2 q3; clear hb))
      | (go_at_call 44; ((with_reducible refine (HI _).out.mono ?_); rintro e w' ⟨rfl, rfl⟩))
      | (go_at_call 38; ((with_reducible refine (HX _).out.mono ?_); rintro e w' ⟨rfl, rfl⟩))
      | (go_at_call 43; ((with_reducible refine (HBT _).out.mono ?_); rintro e w' ⟨rfl, rfl⟩)))
    exact bodyPost_ret (res_three rfl _ rfl rfl ((HP.out.setAll RV.zero).set_other RV.zero (by simp)) ((HQ.out.set_other RV.zero (by simp)).setAll RV.zero)) rfl ⟨rfl, below_set4 (below_set4 HW.out (by omega) RV.zero) (by omega) RV.zero⟩

  rw [hm] at HM
  obtain ⟨g1, g2, g3, g4, g5, g6⟩ := hpts hm
  have hbt := fun hp : ptB x = true => between_any (pt_fin g1) (pt_fin hp) (pt_fin g2)
  have ht1 := fun hp : ptB x = true => lt_test (pt_fin hp) (pt_fin g2)
  have ht2 := fun (hp : ptB x = true) (h : r.lo < x) => order_gt_t (pt_fin hp) (pt_fin g1) h
  have ht3 := fun (hp : ptB x = true) (h : ¬ r.lo < x) => order_gt_f (pt_fin hp) (pt_fin g1) h
  rw [Bool.true_and]
  obtain ⟨i, e, lo, hi⟩ := r
  simp only at g4 g5 g6 hre hbt ht1 ht2 ht3 ⊢
  clear hpts hm hr g1 g2 g3
  cases hee : (e == 9223372036854775807)
  case true =>
    rw [Bool.not_true, Bool.false_and, if_neg (by simp)]
    clear hbt ht1 ht2 ht3 hx
    go_enter Try.func22, Try.ntmps22
    go_wp2_with (first
      | (go_at_call 24; ((with_reducible refine (HM _).out.mono ?_); rintro e w1 ⟨rfl, hb⟩; have HA := Lib.hid (HA.out.below hb HA.out.lt); have HP := Lib.hid (HP.out.below hb HP.out.lt); have HQ := Lib.hid (HQ.out.below hb HQ.out.lt); have HW := Lib.hid (HW.out.trans (hb.mono HW.out.size)); have az := HA.out.lt; have pz := HP.out.lt; have qz := HQ.out.lt; have a0 := HA.out.c0; have a1 := HA.out.c1; have a2 := HA.out.c2; have a3 := HA.out.c3; have p0 := HP.out.c0; have p1 := HP.out.c1; have p2 := HP.out.c2; have p3 := HP.out.c3; have q0 := HQ.out.c0; have q1 := HQ.out.c1; have q2 := HQ.out.c2; have q3 := HQ.out.c3; have pf0 := HP.out.f0; have pf1 := HP.out.f1; have pf2 := HP.out.f2; have pf3 := HP.out.f3; have qf0 := HQ.out.f0; have qf1 := HQ.out.f1; have qf2 := HQ.out.f2; have qf3 := HQ.out.f3; dsimp only [RV.zero] at a0 a1 a2 a3 p0 p1 p2 p3 q0 q1 q2 q3; clear hb))
      | (go_at_call 44; ((with_reducible refine (HI _).out.mono ?_); rintro e w' ⟨rfl, rfl⟩))
      | (go_at_call 38; ((with_reducible refine (HX _).out.mono ?_); rintro e w' ⟨rfl, rfl⟩))
      | (go_at_call 43; ((with_reducible refine (HBT _).out.mono ?_); rintro e w' ⟨rfl, rfl⟩)))
    exact bodyPost_ret (res_three rfl _ rfl rfl ((HP.out.setAll RV.zero).set_other RV.zero (by simp)) ((HQ.out.set_other RV.zero (by simp)).setAll RV.zero)) rfl ⟨rfl, below_set4 (below_set4 HW.out (by omega) RV.zero) (by omega) RV.zero⟩

  rw [Bool.not_false, Bool.true_and]
  cases hic : idB c
  case false =>
    rw [hic] at HI
    rw [Bool.false_and, if_neg (by simp)]
    clear hbt ht1 ht2 ht3 hic hx
    go_enter Try.func22, Try.ntmps22
    go_wp2_with (first
      | (go_at_call 24; ((with_reducible refine (HM _).out.mono ?_); rintro e w1 ⟨rfl, hb⟩; have HA := Lib.hid (HA.out.below hb HA.out.lt); have HP := Lib.hid (HP.out.below hb HP.out.lt); have HQ := Lib.hid (HQ.out.below hb HQ.out.lt); have HW := Lib.hid (HW.out.trans (hb.mono HW.out.size)); have az := HA.out.lt; have pz := HP.out.lt; have qz := HQ.out.lt; have a0 := HA.out.c0; have a1 := HA.out.c1; have a2 := HA.out.c2; have a3 := HA.out.c3; have p0 := HP.out.c0; have p1 := HP.out.c1; have p2 := HP.out.c2; have p3 := HP.out.c3; have q0 := HQ.out.c0; have q1 := HQ.out.c1; have q2 := HQ.out.c2; have q3 := HQ.out.c3; have pf0 := HP.out.f0; have pf1 := HP.out.f1; have pf2 := HP.out.f2; have pf3 := HP.out.f3; have qf0 := HQ.out.f0; have qf1 := HQ.out.f1; have qf2 := HQ.out.f2; have qf3 := HQ.out.f3; dsimp only [RV.zero] at a0 a1 a2 a3 p0 p1 p2 p3 q0 q1 q2 q3; clear hb))
      | (go_at_call 44; ((with_reducible refine (HI _).out.mono ?_); rintro e w' ⟨rfl, rfl⟩))
      | (go_at_call 38; ((with_reducible refine (HX _).out.mono ?_); rintro e w' ⟨rfl, rfl⟩))
      | (go_at_call 43; ((with_reducible refine (HBT _).out.mono ?_); rintro e w' ⟨rfl, rfl⟩)))
    exact bodyPost_ret (res_three rfl _ rfl rfl ((HP.out.setAll RV.zero).set_other RV.zero (by simp)) ((HQ.out.set_other RV.zero (by simp)).setAll RV.zero)) rfl ⟨rfl, below_set4 (below_set4 HW.out (by omega) RV.zero) (by omega) RV.zero⟩

  rw [hic] at HI
  rw [Bool.true_and]
  clear hic
  cases hci : (c == i)
  case true =>
    rw [Bool.not_true, Bool.false_and, if_neg (by simp)]
    clear hbt ht1 ht2 ht3 hx
    go_enter Try.func22, Try.ntmps22
    go_wp2_with (first
      | (go_at_call 24; ((with_reducible refine (HM _).out.mono ?_); rintro e w1 ⟨rfl, hb⟩; have HA := Lib.hid (HA.out.below hb HA.out.lt); have HP := Lib.hid (HP.out.below hb HP.out.lt); have HQ := Lib.hid (HQ.out.below hb HQ.out.lt); have HW := Lib.hid (HW.out.trans (hb.mono HW.out.size)); have az := HA.out.lt; have pz := HP.out.lt; have qz := HQ.out.lt; have a0 := HA.out.c0; have a1 := HA.out.c1; have a2 := HA.out.c2; have a3 := HA.out.c3; have p0 := HP.out.c0; have p1 := HP.out.c1; have p2 := HP.out.c2; have p3 := HP.out.c3; have q0 := HQ.out.c0; have q1 := HQ.out.c1; have q2 := HQ.out.c2; have q3 := HQ.out.c3; have pf0 := HP.out.f0; have pf1 := HP.out.f1; have pf2 := HP.out.f2; have pf3 := HP.out.f3; have qf0 := HQ.out.f0; have qf1 := HQ.out.f1; have qf2 := HQ.out.f2; have qf3 := HQ.out.f3; dsimp only [RV.zero] at a0 a1 a2 a3 p0 p1 p2 p3 q0 q1 q2 q3; clear hb))
      | (go_at_call 44; ((with_reducible refine (HI _).out.mono ?_); rintro e w' ⟨rfl, rfl⟩))
      | (go_at_call 38; ((with_reducible refine (HX _).out.mono ?_); rintro e w' ⟨rfl, rfl⟩))
      | (go_at_call 43; ((with_reducible refine (HBT _).out.mono ?_); rintro e w' ⟨rfl, rfl⟩)))
    exact bodyPost_ret (res_three rfl _ rfl rfl ((HP.out.setAll RV.zero).set_other RV.zero (by simp)) ((HQ.out.set_other RV.zero (by simp)).setAll RV.zero)) rfl ⟨rfl, below_set4 (below_set4 HW.out (by omega) RV.zero) (by omega) RV.zero⟩

  rw [Bool.not_false, Bool.true_and]
  cases hpx : ptB x
  case false =>
    rw [hpx] at HX
    rw [if_neg (by simp)]
    clear hbt ht1 ht2 ht3 hpx hx
    go_enter Try.func22, Try.ntmps22
    go_wp2_with (first
      | (go_at_call 24; ((with_reducible refine (HM _).out.mono ?_); rintro e w1 ⟨rfl, hb⟩; have HA := Lib.hid (HA.out.below hb HA.out.lt); have HP := Lib.hid (HP.out.below hb HP.out.lt); have HQ := Lib.hid (HQ.out.below hb HQ.out.lt); have HW := Lib.hid (HW.out.trans (hb.mono HW.out.size)); have az := HA.out.lt; have pz := HP.out.lt; have qz := HQ.out.lt; have a0 := HA.out.c0; have a1 := HA.out.c1; have a2 := HA.out.c2; have a3 := HA.out.c3; have p0 := HP.out.c0; have p1 := HP.out.c1; have p2 := HP.out.c2; have p3 := HP.out.c3; have q0 := HQ.out.c0; have q1 := HQ.out.c1; have q2 := HQ.out.c2; have q3 := HQ.out.c3; have pf0 := HP.out.f0; have pf1 := HP.out.f1; have pf2 := HP.out.f2; have pf3 := HP.out.f3; have qf0 := HQ.out.f0; have qf1 := HQ.out.f1; have qf2 := HQ.out.f2; have qf3 := HQ.out.f3; dsimp only [RV.zero] at a0 a1 a2 a3 p0 p1 p2 p3 q0 q1 q2 q3; clear hb))
      | (go_at_call 44; ((with_reducible refine (HI _).out.mono ?_); rintro e w' ⟨rfl, rfl⟩))
      | (go_at_call 38; ((with_reducible refine (HX _).out.mono ?_); rintro e w' ⟨rfl, rfl⟩))
      | (go_at_call 43; ((with_reducible refine (HBT _).out.mono ?_); rintro e w' ⟨rfl, rfl⟩)))
    exact bodyPost_ret (res_three rfl _ rfl rfl ((HP.out.setAll RV.zero).set_other RV.zero (by simp)) ((HQ.out.set_other RV.zero (by simp)).setAll RV.zero)) rfl ⟨rfl, below_set4 (below_set4 HW.out (by omega) RV.zero) (by omega) RV.zero⟩

  rw [hpx] at HX
  rw [if_pos rfl]
  have HBT := fun w => Lib.hid (hbt hpx w)
  clear hbt ht1 ht2 ht3 hpx hx
  cases hb : betB lo x hi
  case false =>
    rw [hb] at HBT
    rw [if_neg (by simp)]
    clear hb
    go_enter Try.func22, Try.ntmps22
    go_wp2_with (first
      | (go_at_call 24; ((with_reducible refine (HM _).out.mono ?_); rintro e w1 ⟨rfl, hb⟩; have HA := Lib.hid (HA.out.below hb HA.out.lt); have HP := Lib.hid (HP.out.below hb HP.out.lt); have HQ := Lib.hid (HQ.out.below hb HQ.out.lt); have HW := Lib.hid (HW.out.trans (hb.mono HW.out.size)); have az := HA.out.lt; have pz := HP.out.lt; have qz := HQ.out.lt; have a0 := HA.out.c0; have a1 := HA.out.c1; have a2 := HA.out.c2; have a3 := HA.out.c3; have p0 := HP.out.c0; have p1 := HP.out.c1; have p2 := HP.out.c2; have p3 := HP.out.c3; have q0 := HQ.out.c0; have q1 := HQ.out.c1; have q2 := HQ.out.c2; have q3 := HQ.out.c3; have pf0 := HP.out.f0; have pf1 := HP.out.f1; have pf2 := HP.out.f2; have pf3 := HP.out.f3; have qf0 := HQ.out.f0; have qf1 := HQ.out.f1; have qf2 := HQ.out.f2; have qf3 := HQ.out.f3; dsimp only [RV.zero] at a0 a1 a2 a3 p0 p1 p2 p3 q0 q1 q2 q3; clear hb))
      | (go_at_call 44; ((with_reducible refine (HI _).out.mono ?_); rintro e w' ⟨rfl, rfl⟩))
      | (go_at_call 38; ((with_reducible refine (HX _).out.mono ?_); rintro e w' ⟨rfl, rfl⟩))
      | (go_at_call 43; ((with_reducible refine (HBT _).out.mono ?_); rintro e w' ⟨rfl, rfl⟩)))
    exact bodyPost_ret (res_three rfl _ rfl rfl ((HP.out.setAll RV.zero).set_other RV.zero (by simp)) ((HQ.out.set_other RV.zero (by simp)).setAll RV.zero)) rfl ⟨rfl, below_set4 (below_set4 HW.out (by omega) RV.zero) (by omega) RV.zero⟩

  rw [hb] at HBT
  rw [if_pos rfl]
  clear hb
  have hne : e ≠ 9223372036854775807 := by
    rw [beq_eq_false_iff_ne] at hee
    exact hee
  have he1 : e + 1 ≤ 9223372036854775807 := by omega
  have he2 : (0 : Int) ≤ e + 1 := by omega
  clear hne
  go_enter Try.func22, Try.ntmps22
  go_wp2_with (first
      | (go_at_call 24; ((with_reducible refine (HM _).out.mono ?_); rintro e w1 ⟨rfl, hb⟩; have HA := Lib.hid (HA.out.below hb HA.out.lt); have HP := Lib.hid (HP.out.below hb HP.out.lt); have HQ := Lib.hid (HQ.out.below hb HQ.out.lt); have HW := Lib.hid (HW.out.trans (hb.mono HW.out.size)); have az := HA.out.lt; have pz := HP.out.lt; have qz := HQ.out.lt; have a0 := HA.out.c0; have a1 := HA.out.c1; have a2 := HA.out.c2; have a3 := HA.out.c3; have p0 := HP.out.c0; have p1 := HP.out.c1; have p2 := HP.out.c2; have p3 := HP.out.c3; have q0 := HQ.out.c0; have q1 := HQ.out.c1; have q2 := HQ.out.c2; have q3 := HQ.out.c3; have pf0 := HP.out.f0; have pf1 := HP.out.f1; have pf2 := HP.out.f2; have pf3 := HP.out.f3; have qf0 := HQ.out.f0; have qf1 := HQ.out.f1; have qf2 := HQ.out.f2; have qf3 := HQ.out.f3; dsimp only [RV.zero] at a0 a1 a2 a3 p0 p1 p2 p3 q0 q1 q2 q3; clear hb))
      | (go_at_call 44; ((with_reducible refine (HI _).out.mono ?_); rintro e w' ⟨rfl, rfl⟩))
      | (go_at_call 38; ((with_reducible refine (HX _).out.mono ?_); rintro e w' ⟨rfl, rfl⟩))
      | (go_at_call 43; ((with_reducible refine (HBT _).out.mono ?_); rintro e w' ⟨rfl, rfl⟩)))
  go_region
  go_wp2
  have hP := (((HP.out.setAll ⟨i, e + 1, lo, x⟩).set_other (b := w.heap.size + 1 + 1) ⟨c, 0, x, hi⟩ (by simp)).alloc (robj ⟨i, e + 1, lo, x⟩)).alloc (robj ⟨c, 0, x, hi⟩)
  have hQ := (((HQ.out.set_other (b := w.heap.size + 1) ⟨i, e + 1, lo, x⟩ (by simp)).setAll ⟨c, 0, x, hi⟩).alloc (robj ⟨i, e + 1, lo, x⟩)).alloc (robj ⟨c, 0, x, hi⟩)
  have hW := below_set4 (b := w.heap.size + 1 + 1) (below_set4 (b := w.heap.size + 1) HW.out (by omega) ⟨i, e + 1, lo, x⟩) (by omega) ⟨c, 0, x, hi⟩
  exact bodyPost_ret (res_three rfl _ rfl rfl (hP.below (Below.refl _ _).drew hP.lt) (hQ.below (Below.refl _ _).drew hQ.lt)) rfl ⟨rfl, ((hW.alloc hW.size _).alloc (hW.alloc hW.size _).size _).drew⟩
set_option maxRecDepth 100000 in
set_option maxHeartbeats 1000000 in
theorem rsplit_any (r : RV) (hr : r.wf) (x : Nat) (hx : x < 18446744073709551616) (c : Int) (w : World) : Calls Try.prog 23 #[ragg r, .float .f64 x, .int .i64 c] w fun e w' => e = .returned (.tuple #[ragg (splitV r x c).1, ragg (splitV r x c).2.1, .int .i64 (splitV r x c).2.2]) ∧ Below w.heap.size w w' := by
  have hst := run_stf
  have HM := fun w => Lib.hid (rmay_any r hr.2.2.1 hr.2.2.2 w)
  have HX := fun w => Lib.hid (is_any x hx w)
  have HA := Lib.hid (at_three w r RV.zero RV.zero).1
  have HP := Lib.hid (at_three w r RV.zero RV.zero).2.1
  have HQ := Lib.hid (at_three w r RV.zero RV.zero).2.2
  have HW := Lib.hid (below3 w (robj r) (robj RV.zero) (robj RV.zero))
  have hpts := fun h => may_pts (r := r) h
  have hre := hr.2.1
  unfold splitV okSplit
  cases hm : mayV r
  case false =>
    rw [hm] at HM
    rw [Bool.false_and, if_neg (by simp)]
    obtain ⟨i, e, lo, hi⟩ := r
    clear hpts hm hx hr hre
    go_enter Try.func23, Try.ntmps23
    go_wp2_with (first
      | (go_at_call 25; ((with_reducible refine (HM _).out.mono ?_); rintro e w1 ⟨rfl, hb⟩; have HA := Lib.hid (HA.out.below hb HA.out.lt); have HP := Lib.hid (HP.out.below hb HP.out.lt); have HQ := Lib.hid (HQ.out.below hb HQ.out.lt); have HW := Lib.hid (HW.out.trans (hb.mono HW.out.size)); have az := HA.out.lt; have pz := HP.out.lt; have qz := HQ.out.lt; have a0 := HA.out.c0; have a1 := HA.out.c1; have a2 := HA.out.c2; have a3 := HA.out.c3; have p0 := HP.out.c0; have p1 := HP.out.c1; have p2 := HP.out.c2; have p3 := HP.out.c3; have q0 := HQ.out.c0; have q1 := HQ.out.c1; have q2 := HQ.out.c2; have q3 := HQ.out.c3; have pf0 := HP.out.f0; have pf1 := HP.out.f1; have pf2 := HP.out.f2; have pf3 := HP.out.f3; have qf0 := HQ.out.f0; have qf1 := HQ.out.f1; have qf2 := HQ.out.f2; have qf3 := HQ.out.f3; dsimp only [RV.zero] at a0 a1 a2 a3 p0 p1 p2 p3 q0 q1 q2 q3; clear hb))
      | (go_at_call 39; ((with_reducible refine (HX _).out.mono ?_); rintro e w' ⟨rfl, rfl⟩)))
    exact bodyPost_ret (res_three rfl _ rfl rfl ((HP.out.setAll RV.zero).set_other RV.zero (by simp)) ((HQ.out.set_other RV.zero (by simp)).setAll RV.zero)) rfl ⟨rfl, below_set4 (below_set4 HW.out (by omega) RV.zero) (by omega) RV.zero⟩

  rw [hm] at HM
  obtain ⟨g1, g2, g3, g4, g5, g6⟩ := hpts hm
  have hbt := fun hp : ptB x = true => between_any (pt_fin g1) (pt_fin hp) (pt_fin g2)
  have ht1 := fun hp : ptB x = true => lt_test (pt_fin hp) (pt_fin g2)
  have ht2 := fun (hp : ptB x = true) (h : r.lo < x) => order_gt_t (pt_fin hp) (pt_fin g1) h
  have ht3 := fun (hp : ptB x = true) (h : ¬ r.lo < x) => order_gt_f (pt_fin hp) (pt_fin g1) h
  rw [Bool.true_and]
  obtain ⟨i, e, lo, hi⟩ := r
  simp only at g4 g5 g6 hre hbt ht1 ht2 ht3 ⊢
  clear hpts hm hr g1 g2 g3
  cases hee : (e == 9223372036854775807)
  case true =>
    rw [Bool.not_true, Bool.false_and, if_neg (by simp)]
    clear hbt ht1 ht2 ht3 hx
    go_enter Try.func23, Try.ntmps23
    go_wp2_with (first
      | (go_at_call 25; ((with_reducible refine (HM _).out.mono ?_); rintro e w1 ⟨rfl, hb⟩; have HA := Lib.hid (HA.out.below hb HA.out.lt); have HP := Lib.hid (HP.out.below hb HP.out.lt); have HQ := Lib.hid (HQ.out.below hb HQ.out.lt); have HW := Lib.hid (HW.out.trans (hb.mono HW.out.size)); have az := HA.out.lt; have pz := HP.out.lt; have qz := HQ.out.lt; have a0 := HA.out.c0; have a1 := HA.out.c1; have a2 := HA.out.c2; have a3 := HA.out.c3; have p0 := HP.out.c0; have p1 := HP.out.c1; have p2 := HP.out.c2; have p3 := HP.out.c3; have q0 := HQ.out.c0; have q1 := HQ.out.c1; have q2 := HQ.out.c2; have q3 := HQ.out.c3; have pf0 := HP.out.f0; have pf1 := HP.out.f1; have pf2 := HP.out.f2; have pf3 := HP.out.f3; have qf0 := HQ.out.f0; have qf1 := HQ.out.f1; have qf2 := HQ.out.f2; have qf3 := HQ.out.f3; dsimp only [RV.zero] at a0 a1 a2 a3 p0 p1 p2 p3 q0 q1 q2 q3; clear hb))
      | (go_at_call 39; ((with_reducible refine (HX _).out.mono ?_); rintro e w' ⟨rfl, rfl⟩)))
    exact bodyPost_ret (res_three rfl _ rfl rfl ((HP.out.setAll RV.zero).set_other RV.zero (by simp)) ((HQ.out.set_other RV.zero (by simp)).setAll RV.zero)) rfl ⟨rfl, below_set4 (below_set4 HW.out (by omega) RV.zero) (by omega) RV.zero⟩

  rw [Bool.not_false, Bool.true_and]
  cases hic : idB c
  case false =>
    rw [Bool.false_and, if_neg (by simp)]
    clear hbt ht1 ht2 ht3 hx
    unfold idB at hic
    by_cases hc1 : c < 1
    · clear hic
      go_enter Try.func23, Try.ntmps23
      go_wp2_with (first
        | (go_at_call 25; ((with_reducible refine (HM _).out.mono ?_); rintro e w1 ⟨rfl, hb⟩; have HA := Lib.hid (HA.out.below hb HA.out.lt); have HP := Lib.hid (HP.out.below hb HP.out.lt); have HQ := Lib.hid (HQ.out.below hb HQ.out.lt); have HW := Lib.hid (HW.out.trans (hb.mono HW.out.size)); have az := HA.out.lt; have pz := HP.out.lt; have qz := HQ.out.lt; have a0 := HA.out.c0; have a1 := HA.out.c1; have a2 := HA.out.c2; have a3 := HA.out.c3; have p0 := HP.out.c0; have p1 := HP.out.c1; have p2 := HP.out.c2; have p3 := HP.out.c3; have q0 := HQ.out.c0; have q1 := HQ.out.c1; have q2 := HQ.out.c2; have q3 := HQ.out.c3; have pf0 := HP.out.f0; have pf1 := HP.out.f1; have pf2 := HP.out.f2; have pf3 := HP.out.f3; have qf0 := HQ.out.f0; have qf1 := HQ.out.f1; have qf2 := HQ.out.f2; have qf3 := HQ.out.f3; dsimp only [RV.zero] at a0 a1 a2 a3 p0 p1 p2 p3 q0 q1 q2 q3; clear hb))
        | (go_at_call 39; ((with_reducible refine (HX _).out.mono ?_); rintro e w' ⟨rfl, rfl⟩)))
      exact bodyPost_ret (res_three rfl _ rfl rfl ((HP.out.setAll RV.zero).set_other RV.zero (by simp)) ((HQ.out.set_other RV.zero (by simp)).setAll RV.zero)) rfl ⟨rfl, below_set4 (below_set4 HW.out (by omega) RV.zero) (by omega) RV.zero⟩
    · have hc2 : (12 : Int) < c := by
        rw [Bool.and_eq_false_iff, decide_eq_false_iff_not, decide_eq_false_iff_not] at hic
        omega
      clear hic
      go_enter Try.func23, Try.ntmps23
      go_wp2_with (first
        | (go_at_call 25; ((with_reducible refine (HM _).out.mono ?_); rintro e w1 ⟨rfl, hb⟩; have HA := Lib.hid (HA.out.below hb HA.out.lt); have HP := Lib.hid (HP.out.below hb HP.out.lt); have HQ := Lib.hid (HQ.out.below hb HQ.out.lt); have HW := Lib.hid (HW.out.trans (hb.mono HW.out.size)); have az := HA.out.lt; have pz := HP.out.lt; have qz := HQ.out.lt; have a0 := HA.out.c0; have a1 := HA.out.c1; have a2 := HA.out.c2; have a3 := HA.out.c3; have p0 := HP.out.c0; have p1 := HP.out.c1; have p2 := HP.out.c2; have p3 := HP.out.c3; have q0 := HQ.out.c0; have q1 := HQ.out.c1; have q2 := HQ.out.c2; have q3 := HQ.out.c3; have pf0 := HP.out.f0; have pf1 := HP.out.f1; have pf2 := HP.out.f2; have pf3 := HP.out.f3; have qf0 := HQ.out.f0; have qf1 := HQ.out.f1; have qf2 := HQ.out.f2; have qf3 := HQ.out.f3; dsimp only [RV.zero] at a0 a1 a2 a3 p0 p1 p2 p3 q0 q1 q2 q3; clear hb))
        | (go_at_call 39; ((with_reducible refine (HX _).out.mono ?_); rintro e w' ⟨rfl, rfl⟩)))
      exact bodyPost_ret (res_three rfl _ rfl rfl ((HP.out.setAll RV.zero).set_other RV.zero (by simp)) ((HQ.out.set_other RV.zero (by simp)).setAll RV.zero)) rfl ⟨rfl, below_set4 (below_set4 HW.out (by omega) RV.zero) (by omega) RV.zero⟩
  rw [Bool.true_and]
  have hc1 : ¬ c < (1 : Int) := by
    unfold idB at hic
    rw [Bool.and_eq_true, decide_eq_true_eq, decide_eq_true_eq] at hic
    omega
  have hc2 : ¬ (12 : Int) < c := by
    unfold idB at hic
    rw [Bool.and_eq_true, decide_eq_true_eq, decide_eq_true_eq] at hic
    omega
  clear hic
  cases hci : (c == i)
  case true =>
    rw [Bool.not_true, Bool.false_and, if_neg (by simp)]
    clear hbt ht1 ht2 ht3 hx
    go_enter Try.func23, Try.ntmps23
    go_wp2_with (first
      | (go_at_call 25; ((with_reducible refine (HM _).out.mono ?_); rintro e w1 ⟨rfl, hb⟩; have HA := Lib.hid (HA.out.below hb HA.out.lt); have HP := Lib.hid (HP.out.below hb HP.out.lt); have HQ := Lib.hid (HQ.out.below hb HQ.out.lt); have HW := Lib.hid (HW.out.trans (hb.mono HW.out.size)); have az := HA.out.lt; have pz := HP.out.lt; have qz := HQ.out.lt; have a0 := HA.out.c0; have a1 := HA.out.c1; have a2 := HA.out.c2; have a3 := HA.out.c3; have p0 := HP.out.c0; have p1 := HP.out.c1; have p2 := HP.out.c2; have p3 := HP.out.c3; have q0 := HQ.out.c0; have q1 := HQ.out.c1; have q2 := HQ.out.c2; have q3 := HQ.out.c3; have pf0 := HP.out.f0; have pf1 := HP.out.f1; have pf2 := HP.out.f2; have pf3 := HP.out.f3; have qf0 := HQ.out.f0; have qf1 := HQ.out.f1; have qf2 := HQ.out.f2; have qf3 := HQ.out.f3; dsimp only [RV.zero] at a0 a1 a2 a3 p0 p1 p2 p3 q0 q1 q2 q3; clear hb))
      | (go_at_call 39; ((with_reducible refine (HX _).out.mono ?_); rintro e w' ⟨rfl, rfl⟩)))
    exact bodyPost_ret (res_three rfl _ rfl rfl ((HP.out.setAll RV.zero).set_other RV.zero (by simp)) ((HQ.out.set_other RV.zero (by simp)).setAll RV.zero)) rfl ⟨rfl, below_set4 (below_set4 HW.out (by omega) RV.zero) (by omega) RV.zero⟩

  rw [Bool.not_false, Bool.true_and]
  cases hpx : ptB x
  case false =>
    rw [hpx] at HX
    rw [if_neg (by simp)]
    clear hbt ht1 ht2 ht3 hpx hx
    go_enter Try.func23, Try.ntmps23
    go_wp2_with (first
      | (go_at_call 25; ((with_reducible refine (HM _).out.mono ?_); rintro e w1 ⟨rfl, hb⟩; have HA := Lib.hid (HA.out.below hb HA.out.lt); have HP := Lib.hid (HP.out.below hb HP.out.lt); have HQ := Lib.hid (HQ.out.below hb HQ.out.lt); have HW := Lib.hid (HW.out.trans (hb.mono HW.out.size)); have az := HA.out.lt; have pz := HP.out.lt; have qz := HQ.out.lt; have a0 := HA.out.c0; have a1 := HA.out.c1; have a2 := HA.out.c2; have a3 := HA.out.c3; have p0 := HP.out.c0; have p1 := HP.out.c1; have p2 := HP.out.c2; have p3 := HP.out.c3; have q0 := HQ.out.c0; have q1 := HQ.out.c1; have q2 := HQ.out.c2; have q3 := HQ.out.c3; have pf0 := HP.out.f0; have pf1 := HP.out.f1; have pf2 := HP.out.f2; have pf3 := HP.out.f3; have qf0 := HQ.out.f0; have qf1 := HQ.out.f1; have qf2 := HQ.out.f2; have qf3 := HQ.out.f3; dsimp only [RV.zero] at a0 a1 a2 a3 p0 p1 p2 p3 q0 q1 q2 q3; clear hb))
      | (go_at_call 39; ((with_reducible refine (HX _).out.mono ?_); rintro e w' ⟨rfl, rfl⟩)))
    exact bodyPost_ret (res_three rfl _ rfl rfl ((HP.out.setAll RV.zero).set_other RV.zero (by simp)) ((HQ.out.set_other RV.zero (by simp)).setAll RV.zero)) rfl ⟨rfl, below_set4 (below_set4 HW.out (by omega) RV.zero) (by omega) RV.zero⟩

  rw [hpx] at HX
  rw [if_pos rfl]
  have h1 := ht1 hpx
  have h2 := ht2 hpx
  have h3 := ht3 hpx
  clear hbt ht1 ht2 ht3 hpx hx
  unfold betB
  by_cases hlx : lo < x
  case neg =>
    rw [decide_eq_false hlx, Bool.false_and, if_neg (by simp)]
    have h3' : (FloatKind.f64.format.order x lo == some .gt) = false := h3 hlx
    clear h1 h2 h3 hlx
    go_enter Try.func23, Try.ntmps23
    go_wp2_with (first
      | (go_at_call 25; ((with_reducible refine (HM _).out.mono ?_); rintro e w1 ⟨rfl, hb⟩; have HA := Lib.hid (HA.out.below hb HA.out.lt); have HP := Lib.hid (HP.out.below hb HP.out.lt); have HQ := Lib.hid (HQ.out.below hb HQ.out.lt); have HW := Lib.hid (HW.out.trans (hb.mono HW.out.size)); have az := HA.out.lt; have pz := HP.out.lt; have qz := HQ.out.lt; have a0 := HA.out.c0; have a1 := HA.out.c1; have a2 := HA.out.c2; have a3 := HA.out.c3; have p0 := HP.out.c0; have p1 := HP.out.c1; have p2 := HP.out.c2; have p3 := HP.out.c3; have q0 := HQ.out.c0; have q1 := HQ.out.c1; have q2 := HQ.out.c2; have q3 := HQ.out.c3; have pf0 := HP.out.f0; have pf1 := HP.out.f1; have pf2 := HP.out.f2; have pf3 := HP.out.f3; have qf0 := HQ.out.f0; have qf1 := HQ.out.f1; have qf2 := HQ.out.f2; have qf3 := HQ.out.f3; dsimp only [RV.zero] at a0 a1 a2 a3 p0 p1 p2 p3 q0 q1 q2 q3; clear hb))
      | (go_at_call 39; ((with_reducible refine (HX _).out.mono ?_); rintro e w' ⟨rfl, rfl⟩)))
    exact bodyPost_ret (res_three rfl _ rfl rfl ((HP.out.setAll RV.zero).set_other RV.zero (by simp)) ((HQ.out.set_other RV.zero (by simp)).setAll RV.zero)) rfl ⟨rfl, below_set4 (below_set4 HW.out (by omega) RV.zero) (by omega) RV.zero⟩

  have h2' : (FloatKind.f64.format.order x lo == some .gt) = true := h2 hlx
  rw [decide_eq_true hlx, Bool.true_and]
  clear h2 h3 hlx
  by_cases hxh : x < hi
  case neg =>
    rw [decide_eq_false hxh] at h1 ⊢
    rw [if_neg (by simp)]
    clear hxh
    go_enter Try.func23, Try.ntmps23
    go_wp2_with (first
      | (go_at_call 25; ((with_reducible refine (HM _).out.mono ?_); rintro e w1 ⟨rfl, hb⟩; have HA := Lib.hid (HA.out.below hb HA.out.lt); have HP := Lib.hid (HP.out.below hb HP.out.lt); have HQ := Lib.hid (HQ.out.below hb HQ.out.lt); have HW := Lib.hid (HW.out.trans (hb.mono HW.out.size)); have az := HA.out.lt; have pz := HP.out.lt; have qz := HQ.out.lt; have a0 := HA.out.c0; have a1 := HA.out.c1; have a2 := HA.out.c2; have a3 := HA.out.c3; have p0 := HP.out.c0; have p1 := HP.out.c1; have p2 := HP.out.c2; have p3 := HP.out.c3; have q0 := HQ.out.c0; have q1 := HQ.out.c1; have q2 := HQ.out.c2; have q3 := HQ.out.c3; have pf0 := HP.out.f0; have pf1 := HP.out.f1; have pf2 := HP.out.f2; have pf3 := HP.out.f3; have qf0 := HQ.out.f0; have qf1 := HQ.out.f1; have qf2 := HQ.out.f2; have qf3 := HQ.out.f3; dsimp only [RV.zero] at a0 a1 a2 a3 p0 p1 p2 p3 q0 q1 q2 q3; clear hb))
      | (go_at_call 39; ((with_reducible refine (HX _).out.mono ?_); rintro e w' ⟨rfl, rfl⟩)))
    exact bodyPost_ret (res_three rfl _ rfl rfl ((HP.out.setAll RV.zero).set_other RV.zero (by simp)) ((HQ.out.set_other RV.zero (by simp)).setAll RV.zero)) rfl ⟨rfl, below_set4 (below_set4 HW.out (by omega) RV.zero) (by omega) RV.zero⟩

  rw [decide_eq_true hxh] at h1 ⊢
  rw [if_pos rfl]
  clear hxh
  have hne : e ≠ 9223372036854775807 := by
    rw [beq_eq_false_iff_ne] at hee
    exact hee
  have he1 : e + 1 ≤ 9223372036854775807 := by omega
  have he2 : (0 : Int) ≤ e + 1 := by omega
  clear hne
  go_enter Try.func23, Try.ntmps23
  go_wp2_with (first
      | (go_at_call 25; ((with_reducible refine (HM _).out.mono ?_); rintro e w1 ⟨rfl, hb⟩; have HA := Lib.hid (HA.out.below hb HA.out.lt); have HP := Lib.hid (HP.out.below hb HP.out.lt); have HQ := Lib.hid (HQ.out.below hb HQ.out.lt); have HW := Lib.hid (HW.out.trans (hb.mono HW.out.size)); have az := HA.out.lt; have pz := HP.out.lt; have qz := HQ.out.lt; have a0 := HA.out.c0; have a1 := HA.out.c1; have a2 := HA.out.c2; have a3 := HA.out.c3; have p0 := HP.out.c0; have p1 := HP.out.c1; have p2 := HP.out.c2; have p3 := HP.out.c3; have q0 := HQ.out.c0; have q1 := HQ.out.c1; have q2 := HQ.out.c2; have q3 := HQ.out.c3; have pf0 := HP.out.f0; have pf1 := HP.out.f1; have pf2 := HP.out.f2; have pf3 := HP.out.f3; have qf0 := HQ.out.f0; have qf1 := HQ.out.f1; have qf2 := HQ.out.f2; have qf3 := HQ.out.f3; dsimp only [RV.zero] at a0 a1 a2 a3 p0 p1 p2 p3 q0 q1 q2 q3; clear hb))
      | (go_at_call 39; ((with_reducible refine (HX _).out.mono ?_); rintro e w' ⟨rfl, rfl⟩)))
  go_region
  go_wp2
  have hP := ((HP.out.setAll ⟨i, e + 1, lo, x⟩).set_other (b := w.heap.size + 1 + 1) ⟨c, 0, x, hi⟩ (by simp)).alloc (robj ⟨i, e + 1, lo, x⟩)
  have hQ := ((HQ.out.set_other (b := w.heap.size + 1) ⟨i, e + 1, lo, x⟩ (by simp)).setAll ⟨c, 0, x, hi⟩).alloc (robj ⟨i, e + 1, lo, x⟩)
  have hW := below_set4 (b := w.heap.size + 1 + 1) (below_set4 (b := w.heap.size + 1) HW.out (by omega) ⟨i, e + 1, lo, x⟩) (by omega) ⟨c, 0, x, hi⟩
  exact bodyPost_ret (res_three rfl _ rfl rfl (hP.below (Below.refl _ _).drew hP.lt) (hQ.below (Below.refl _ _).drew hQ.lt)) rfl ⟨rfl, (hW.alloc hW.size _).drew⟩
end Go.Proofs.Ytfdopinlmjbfaaa
