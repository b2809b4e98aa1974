/- raceref3.Number, raceref9.bit, raceref9.reckons. Conditions: bits below 2^64. raceref9.reckons. Conditions: bits below 2^64. -/
import Derived.Test.YtbgccaconhmbaaaGreatDoorJVc
import Derived.Test.YtbgccaconhmbaaaGreatDoorJMf
import Derived.Test.YtbgccaconhmbaaaGreatDoorJPa
import Derived.Test.YtbgccaconhmbaaaGreatDoorJD
import Derived.Test.YtbgccaconhmbaaaGreatDoorJFi
namespace Go.Proofs.YtbgccaconhmbaaaGreatDoor
open Go.RowKit
theorem res_one {fn : Func} {p : Tmp} (h : fn.results = #[.cell p 48]) (tmps : Array Value) {b : Nat} {v : DV} {w : World} (hp : tmps.getD p undef = .pointer (some ⟨b, 0, none⟩)) (hA : At w b v) :
    (results fn tmps).run Tryz.prog w = .ok (vagg v) w := by
  have hl := load_at hA
  simp only [Array.getD_eq_getD_getElem?] at hp
  simp only [results, h]
  simp [hp, asAddr, hl]
set_option maxRecDepth 100000 in
set_option maxHeartbeats 4000000 in
theorem rbit_any (f : Bool) (w : World) : Calls Tryz.prog 88 #[.bool f] w fun e w' => e = .returned (vagg (bitV f)) ∧ Below w.heap.size w w' := by
  have hst := run_stf
  have HZ := Lib.hid (at_new w DV.none)
  have HW := Lib.hid (below1 w (vobj DV.none))
  cases f
  all_goals
    go_enter Tryz.func88, Tryz.ntmps88
    go_wp2_with (go_at_call 90; refine (rnumber_any _ _).mono ?_; rintro e w1 ⟨rfl, hb⟩; have HZ := Lib.hid (HZ.out.below hb HZ.out.lt); have HW := Lib.hid (HW.out.trans (hb.mono HW.out.size)); have z0 := HZ.out.c0; have z1 := HZ.out.c1; have z2 := HZ.out.c2; have y0 := HZ.out.f0; have y1 := HZ.out.f1; have y2 := HZ.out.f2; clear hb)
  · exact bodyPost_ret (res_one rfl _ rfl (HZ.out.setAll (bitV false))) rfl ⟨rfl, below_set3 HW.out (Nat.le_refl _) _ _ _⟩
  · exact bodyPost_ret (res_one rfl _ rfl (HZ.out.setAll (bitV true))) rfl ⟨rfl, below_set3 HW.out (Nat.le_refl _) _ _ _⟩
end Go.Proofs.YtbgccaconhmbaaaGreatDoor
namespace Go.Proofs.YtbgccaconhmbaaaGreatDoor
open Go.RowKit
def reckV (c : Int) (a b : DV) : DV × Int :=
  if c = 11 then (bitV (decide (compV a b < 0)), 0)
  else if c = 12 then (bitV (compV a b == 0), 0)
  else if a.k = 2 ∨ b.k = 2 then (DV.none, 23)
  else (⟨1, canon (ariN c a.x b.x), []⟩, 0)
theorem Drew.below {w w' : World} (h : Drew w w') : Below w.heap.size w w' := by
  obtain ⟨n, rfl⟩ := h
  exact below_drewN (Below.refl _ _) n
theorem does_any (c : Int) (h1 : 5 ≤ c) (h2 : c ≤ 10) (a b : Nat) (ha : a < 18446744073709551616) (hb : b < 18446744073709551616) (w : World) :
    Calls Tryz.prog 91 #[.int .i64 (c - 5), .float .f64 a, .float .f64 b] w fun e w' => e = .returned (.float .f64 (ariN c a b)) ∧ Below w.heap.size w w' := by
  have : c = 5 ∨ c = 6 ∨ c = 7 ∨ c = 8 ∨ c = 9 ∨ c = 10 := by omega
  rcases this with rfl | rfl | rfl | rfl | rfl | rfl
  · exact (does0_any a b w).mono fun e w' h => ⟨h.1, h.2.below⟩
  · exact (does1_any a b w).mono fun e w' h => ⟨h.1, h.2.below⟩
  · exact (does2_any a b w).mono fun e w' h => ⟨h.1, h.2.below⟩
  · exact (does3_any a b w).mono fun e w' h => ⟨h.1, h.2.below⟩
  · exact (does4_any a b w ha hb).mono fun e w' h => ⟨h.1, by rw [← h.2]; exact Below.refl _ _⟩
  · exact (does5_any a b w ha hb).mono fun e w' h => ⟨h.1, by rw [← h.2]; exact Below.refl _ _⟩
set_option maxRecDepth 100000 in
set_option maxHeartbeats 4000000 in
theorem reckons_comp (c : Int) (h : c = 11 ∨ c = 12) (a b : DV) (ha : a.wf) (hb : b.wf) (w : World) :
    Calls Tryz.prog 51 #[.int .i64 c, vagg a, vagg b] w fun e w' => e = .returned (.tuple #[vagg (reckV c a b).1, .int .i64 (reckV c a b).2]) ∧ Below w.heap.size w w' := by
  have HC := fun w => Lib.hid (vrcompare_any a b ha hb w)
  have e1 : reckV 11 a b = (bitV (decide (compV a b < 0)), 0) := rfl
  have e2 : reckV 12 a b = (bitV (compV a b == 0), 0) := rfl
  generalize compV a b = m at *
  clear ha hb
  rcases h with rfl | rfl
  · rw [e1]
    clear e1 e2
    cases hm : decide (m < 0)
    all_goals
      obtain ⟨k, x, s⟩ := a
      obtain ⟨k', x', s'⟩ := b
      have hst := run_stf
      have HT := at_three w ⟨k, x, s⟩ ⟨k', x', s'⟩ DV.none
      have HA := Lib.hid HT.1
      have HB := Lib.hid HT.2.1
      have HZ := Lib.hid HT.2.2
      have HW := Lib.hid (below3 w (vobj ⟨k, x, s⟩) (vobj ⟨k', x', s'⟩) (vobj DV.none))
      have a0 := HA.out.c0; have b0 := HB.out.c0
      have y0 := HZ.out.f0; have y1 := HZ.out.f1; have y2 := HZ.out.f2; have z0 := HZ.out.c0; have z1 := HZ.out.c1; have z2 := HZ.out.c2
      have a1 := HA.out.c1; have b1 := HB.out.c1
      dsimp only at a0 b0 a1 b1
      clear HT
      go_enter Tryz.func51, Tryz.ntmps51
      go_wp2_with (first
        | (go_at_call 89; refine ((HC _).out).mono ?_; rintro e w1 ⟨rfl, hb⟩; have HA := Lib.hid (HA.out.below hb HA.out.lt); have HB := Lib.hid (HB.out.below hb HB.out.lt); have HZ := Lib.hid (HZ.out.below hb HZ.out.lt); have HW := Lib.hid (HW.out.trans (hb.mono HW.out.size)); have a0 := HA.out.c0; have a1 := HA.out.c1; have a2 := HA.out.c2; have b0 := HB.out.c0; have b1 := HB.out.c1; have b2 := HB.out.c2; have z0 := HZ.out.c0; have z1 := HZ.out.c1; have z2 := HZ.out.c2; have y0 := HZ.out.f0; have y1 := HZ.out.f1; have y2 := HZ.out.f2; dsimp only at a0 a1 a2 b0 b1 b2; clear hb)
        | (go_at_call 88; refine ((rbit_any _ _)).mono ?_; rintro e w1 ⟨rfl, hb⟩; have HA := Lib.hid (HA.out.below hb HA.out.lt); have HB := Lib.hid (HB.out.below hb HB.out.lt); have HZ := Lib.hid (HZ.out.below hb HZ.out.lt); have HW := Lib.hid (HW.out.trans (hb.mono HW.out.size)); have a0 := HA.out.c0; have a1 := HA.out.c1; have a2 := HA.out.c2; have b0 := HB.out.c0; have b1 := HB.out.c1; have b2 := HB.out.c2; have z0 := HZ.out.c0; have z1 := HZ.out.c1; have z2 := HZ.out.c2; have y0 := HZ.out.f0; have y1 := HZ.out.f1; have y2 := HZ.out.f2; dsimp only at a0 a1 a2 b0 b1 b2; clear hb))
      exact bodyPost_ret (res_pair rfl _ rfl (HZ.out.setAll (bitV _))) rfl ⟨rfl, below_set3 HW.out (by omega) _ _ _⟩
  · rw [e2]
    clear e1 e2
    cases hm : m == 0
    all_goals
      obtain ⟨k, x, s⟩ := a
      obtain ⟨k', x', s'⟩ := b
      have hst := run_stf
      have HT := at_three w ⟨k, x, s⟩ ⟨k', x', s'⟩ DV.none
      have HA := Lib.hid HT.1
      have HB := Lib.hid HT.2.1
      have HZ := Lib.hid HT.2.2
      have HW := Lib.hid (below3 w (vobj ⟨k, x, s⟩) (vobj ⟨k', x', s'⟩) (vobj DV.none))
      have a0 := HA.out.c0; have b0 := HB.out.c0
      have y0 := HZ.out.f0; have y1 := HZ.out.f1; have y2 := HZ.out.f2; have z0 := HZ.out.c0; have z1 := HZ.out.c1; have z2 := HZ.out.c2
      have a1 := HA.out.c1; have b1 := HB.out.c1
      dsimp only at a0 b0 a1 b1
      clear HT
      go_enter Tryz.func51, Tryz.ntmps51
      go_wp2_with (first
        | (go_at_call 89; refine ((HC _).out).mono ?_; rintro e w1 ⟨rfl, hb⟩; have HA := Lib.hid (HA.out.below hb HA.out.lt); have HB := Lib.hid (HB.out.below hb HB.out.lt); have HZ := Lib.hid (HZ.out.below hb HZ.out.lt); have HW := Lib.hid (HW.out.trans (hb.mono HW.out.size)); have a0 := HA.out.c0; have a1 := HA.out.c1; have a2 := HA.out.c2; have b0 := HB.out.c0; have b1 := HB.out.c1; have b2 := HB.out.c2; have z0 := HZ.out.c0; have z1 := HZ.out.c1; have z2 := HZ.out.c2; have y0 := HZ.out.f0; have y1 := HZ.out.f1; have y2 := HZ.out.f2; dsimp only at a0 a1 a2 b0 b1 b2; clear hb)
        | (go_at_call 88; refine ((rbit_any _ _)).mono ?_; rintro e w1 ⟨rfl, hb⟩; have HA := Lib.hid (HA.out.below hb HA.out.lt); have HB := Lib.hid (HB.out.below hb HB.out.lt); have HZ := Lib.hid (HZ.out.below hb HZ.out.lt); have HW := Lib.hid (HW.out.trans (hb.mono HW.out.size)); have a0 := HA.out.c0; have a1 := HA.out.c1; have a2 := HA.out.c2; have b0 := HB.out.c0; have b1 := HB.out.c1; have b2 := HB.out.c2; have z0 := HZ.out.c0; have z1 := HZ.out.c1; have z2 := HZ.out.c2; have y0 := HZ.out.f0; have y1 := HZ.out.f1; have y2 := HZ.out.f2; dsimp only at a0 a1 a2 b0 b1 b2; clear hb))
      exact bodyPost_ret (res_pair rfl _ rfl (HZ.out.setAll (bitV _))) rfl ⟨rfl, below_set3 HW.out (by omega) _ _ _⟩
set_option maxRecDepth 100000 in
set_option maxHeartbeats 4000000 in
theorem reckons_text (c : Int) (h1 : 5 ≤ c) (h2 : c ≤ 10) (a b : DV) (h : a.k = 2 ∨ b.k = 2) (w : World) :
    Calls Tryz.prog 51 #[.int .i64 c, vagg a, vagg b] w fun e w' => e = .returned (.tuple #[vagg (reckV c a b).1, .int .i64 (reckV c a b).2]) ∧ Below w.heap.size w w' := by
  have e1 : reckV c a b = (DV.none, 23) := by unfold reckV; rw [if_neg (by omega), if_neg (by omega), if_pos h]
  rw [e1]
  clear e1
  have n11 : (c == 11) = false := beq_eq_false_iff_ne.2 (by omega)
  have n12 : (c == 12) = false := beq_eq_false_iff_ne.2 (by omega)
  clear h1 h2
  obtain ⟨k, x, s⟩ := a
  obtain ⟨k', x', s'⟩ := b
  have hst := run_stf
  have HT := at_three w ⟨k, x, s⟩ ⟨k', x', s'⟩ DV.none
  have HA := Lib.hid HT.1
  have HB := Lib.hid HT.2.1
  have HZ := Lib.hid HT.2.2
  have HW := Lib.hid (below3 w (vobj ⟨k, x, s⟩) (vobj ⟨k', x', s'⟩) (vobj DV.none))
  have a0 := HA.out.c0; have b0 := HB.out.c0
  have y0 := HZ.out.f0; have y1 := HZ.out.f1; have y2 := HZ.out.f2; have z0 := HZ.out.c0; have z1 := HZ.out.c1; have z2 := HZ.out.c2
  have a1 := HA.out.c1; have b1 := HB.out.c1
  dsimp only at a0 b0 a1 b1
  clear HT
  simp only at h
  by_cases hk : k = 2
  · subst hk
    clear h
    go_enter Tryz.func51, Tryz.ntmps51
    go_wp2_with fail
    exact bodyPost_ret (res_pair rfl _ rfl HZ.out) rfl ⟨rfl, HW.out⟩
  · obtain rfl := h.resolve_left hk
    have nk : (k == 2) = false := beq_eq_false_iff_ne.2 hk
    clear h hk
    go_enter Tryz.func51, Tryz.ntmps51
    go_wp2_with fail
    exact bodyPost_ret (res_pair rfl _ rfl HZ.out) rfl ⟨rfl, HW.out⟩
set_option maxRecDepth 100000 in
set_option maxHeartbeats 4000000 in
theorem reckons_ari (c : Int) (h1 : 5 ≤ c) (h2 : c ≤ 10) (a b : DV) (h : ¬ (a.k = 2 ∨ b.k = 2)) (ha : a.wf) (hb : b.wf) (w : World) :
    Calls Tryz.prog 51 #[.int .i64 c, vagg a, vagg b] w fun e w' => e = .returned (.tuple #[vagg (reckV c a b).1, .int .i64 (reckV c a b).2]) ∧ Below w.heap.size w w' := by
  have e1 : reckV c a b = (⟨1, canon (ariN c a.x b.x), []⟩, 0) := by unfold reckV; rw [if_neg (by omega), if_neg (by omega), if_neg h]
  rw [e1]
  clear e1
  have n11 : (c == 11) = false := beq_eq_false_iff_ne.2 (by omega)
  have n12 : (c == 12) = false := beq_eq_false_iff_ne.2 (by omega)
  have HD := fun w => Lib.hid (does_any c h1 h2 a.x b.x ha.2.1 hb.2.1 w)
  have q5 : IntKind.i64.wrap (c - 5) = c - 5 := by simp [IntKind.wrap, IntKind.signed, IntKind.bits]; omega
  generalize ariN c a.x b.x = r at *
  clear h1 h2 ha hb
  obtain ⟨k, x, s⟩ := a
  obtain ⟨k', x', s'⟩ := b
  have hst := run_stf
  have HT := at_three w ⟨k, x, s⟩ ⟨k', x', s'⟩ DV.none
  have HA := Lib.hid HT.1
  have HB := Lib.hid HT.2.1
  have HZ := Lib.hid HT.2.2
  have HW := Lib.hid (below3 w (vobj ⟨k, x, s⟩) (vobj ⟨k', x', s'⟩) (vobj DV.none))
  have a0 := HA.out.c0; have b0 := HB.out.c0
  have y0 := HZ.out.f0; have y1 := HZ.out.f1; have y2 := HZ.out.f2; have z0 := HZ.out.c0; have z1 := HZ.out.c1; have z2 := HZ.out.c2
  have a1 := HA.out.c1; have b1 := HB.out.c1
  dsimp only at a0 b0 a1 b1
  clear HT
  simp only at h HD
  have nk : (k == 2) = false := beq_eq_false_iff_ne.2 fun e => h (.inl e)
  have nk' : (k' == 2) = false := beq_eq_false_iff_ne.2 fun e => h (.inr e)
  clear h
  go_enter Tryz.func51, Tryz.ntmps51
  go_wp2_with (first
    | (go_at_call 91; refine ((HD _).out).mono ?_; rintro e w1 ⟨rfl, hb⟩; have HA := Lib.hid (HA.out.below hb HA.out.lt); have HB := Lib.hid (HB.out.below hb HB.out.lt); have HZ := Lib.hid (HZ.out.below hb HZ.out.lt); have HW := Lib.hid (HW.out.trans (hb.mono HW.out.size)); have a0 := HA.out.c0; have a1 := HA.out.c1; have a2 := HA.out.c2; have b0 := HB.out.c0; have b1 := HB.out.c1; have b2 := HB.out.c2; have z0 := HZ.out.c0; have z1 := HZ.out.c1; have z2 := HZ.out.c2; have y0 := HZ.out.f0; have y1 := HZ.out.f1; have y2 := HZ.out.f2; dsimp only at a0 a1 a2 b0 b1 b2; clear hb)
    | (go_at_call 90; refine ((rnumber_any _ _)).mono ?_; rintro e w1 ⟨rfl, hb⟩; have HA := Lib.hid (HA.out.below hb HA.out.lt); have HB := Lib.hid (HB.out.below hb HB.out.lt); have HZ := Lib.hid (HZ.out.below hb HZ.out.lt); have HW := Lib.hid (HW.out.trans (hb.mono HW.out.size)); have a0 := HA.out.c0; have a1 := HA.out.c1; have a2 := HA.out.c2; have b0 := HB.out.c0; have b1 := HB.out.c1; have b2 := HB.out.c2; have z0 := HZ.out.c0; have z1 := HZ.out.c1; have z2 := HZ.out.c2; have y0 := HZ.out.f0; have y1 := HZ.out.f1; have y2 := HZ.out.f2; dsimp only at a0 a1 a2 b0 b1 b2; clear hb))
  exact bodyPost_ret (res_pair rfl _ rfl (HZ.out.setAll ⟨1, canon r, []⟩)) rfl ⟨rfl, below_set3 HW.out (by omega) _ _ _⟩
theorem reckons_any (c : Int) (h1 : 5 ≤ c) (h2 : c ≤ 12) (a b : DV) (ha : a.wf) (hb : b.wf) (w : World) :
    Calls Tryz.prog 51 #[.int .i64 c, vagg a, vagg b] w fun e w' => e = .returned (.tuple #[vagg (reckV c a b).1, .int .i64 (reckV c a b).2]) ∧ Below w.heap.size w w' := by
  by_cases h : c = 11 ∨ c = 12
  · exact reckons_comp c h a b ha hb w
  · have h3 : c ≤ 10 := by omega
    by_cases hk : a.k = 2 ∨ b.k = 2
    · exact reckons_text c h1 h3 a b hk w
    · exact reckons_ari c h1 h3 a b hk ha hb w
end Go.Proofs.YtbgccaconhmbaaaGreatDoor
