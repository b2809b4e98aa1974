/- The document's clocks: raceref8.New, Peek, Now, Observe. Conditions: clocks whose stamps may be. -/
import Derived.Test.YtmpokhjchbaleaaDoorD
namespace Go.Proofs.YtmpokhjchbaleaaDoor
open Go.RowKit
theorem At.drew {w : World} {b : Nat} {s : St} (h : At w b s) : At w.drew b s := h.below (Below.refl (b + 1) w).drew (Nat.lt_succ_self b)
/-- The document's clock: its node ahead of its last stamp. -/
structure RAt (w : World) (b : Nat) (s : St) : Prop where
  lt : b < w.heap.size
  c0 : w.cell? ⟨b, 0, none⟩ = some (.int .i64 s.n)
  c1 : w.cell? ⟨b, 1, none⟩ = some (.int .i64 s.w)
  c2 : w.cell? ⟨b, 2, none⟩ = some (.int .i64 s.l)
  c3 : w.cell? ⟨b, 3, none⟩ = some (.int .i64 s.n)
  f1 : w.frozen? ⟨b, 1, none⟩ = false
  f2 : w.frozen? ⟨b, 2, none⟩ = false
  f3 : w.frozen? ⟨b, 3, none⟩ = false
theorem RAt.below {B : Nat} {w w' : World} {b : Nat} {r : St} (h : RAt w b r) (hb : Below B w w') (hl : b < B) : RAt w' b r :=
  ⟨Nat.lt_of_lt_of_le h.lt hb.size, (hb.cell hl).trans h.c0, (hb.cell hl).trans h.c1, (hb.cell hl).trans h.c2, (hb.cell hl).trans h.c3, (hb.frozen hl).trans h.f1, (hb.frozen hl).trans h.f2, (hb.frozen hl).trans h.f3⟩
theorem RAt.drew {w : World} {b : Nat} {s : St} (h : RAt w b s) : RAt w.drew b s := h.below (Below.refl (b + 1) w).drew (Nat.lt_succ_self b)
theorem RAt.alloc {w : World} {b : Nat} {r : St} (h : RAt w b r) (o : Obj) : RAt (w.alloc o) b r := h.below (below1 w o) h.lt
theorem RAt.tn {S : Nat → Prop} {w w' : World} {b : Nat} {r : St} (h : RAt w b r) (ht : Tn S w w') (hn : ¬ S b) : RAt w' b r :=
  ⟨Nat.lt_of_lt_of_le h.lt ht.size, ht.cell h.c0 hn, ht.cell h.c1 hn, ht.cell h.c2 hn, ht.cell h.c3 hn, (ht.frozen h.lt hn).trans h.f1, (ht.frozen h.lt hn).trans h.f2, (ht.frozen h.lt hn).trans h.f3⟩
theorem rat_new (w : World) (r : St) {n : Nat} (hn : n = w.heap.size := by simp) : RAt (w.alloc (.cells #[.int .i64 r.n, .int .i64 r.w, .int .i64 r.l, .int .i64 r.n] 49)) n r := by
  subst hn
  exact ⟨by simp, by simp [World.cell?_alloc_new], by simp [World.cell?_alloc_new], by simp [World.cell?_alloc_new], by simp [World.cell?_alloc_new], World.frozen?_alloc_new _ _ _ _, World.frozen?_alloc_new _ _ _ _, World.frozen?_alloc_new _ _ _ _⟩
abbrev setR (w : World) (b : Nat) (u : St) : World := (((w.setCell ⟨b, 1, none⟩ (.int .i64 u.w)).setCell ⟨b, 2, none⟩ (.int .i64 u.l)).setCell ⟨b, 3, none⟩ (.int .i64 u.n))
theorem RAt.setAll {w : World} {b : Nat} {v : St} (h : RAt w b v) (u : St) (hu : u.n = v.n) : RAt (setR w b u) b u := by
  have n01 : (⟨b, 0, none⟩ : Addr) ≠ ⟨b, 1, none⟩ := by simp
  have n02 : (⟨b, 0, none⟩ : Addr) ≠ ⟨b, 2, none⟩ := by simp
  have n03 : (⟨b, 0, none⟩ : Addr) ≠ ⟨b, 3, none⟩ := by simp
  have n12 : (⟨b, 1, none⟩ : Addr) ≠ ⟨b, 2, none⟩ := by simp
  have n13 : (⟨b, 1, none⟩ : Addr) ≠ ⟨b, 3, none⟩ := by simp
  have n23 : (⟨b, 2, none⟩ : Addr) ≠ ⟨b, 3, none⟩ := by simp
  have e0 : (setR w b u).cell? ⟨b, 0, none⟩ = some (.int .i64 u.n) := by
    rw [World.cell?_setCell_other (h := n03.symm), World.cell?_setCell_other (h := n02.symm), World.cell?_setCell_other (h := n01.symm), h.c0, hu]
  refine ⟨World.block_lt_of_cell? _ _ e0, e0, ?_, ?_, ?_, by simp [h.f1], by simp [h.f2], by simp [h.f3]⟩
  · rw [World.cell?_setCell_other (h := n13.symm), World.cell?_setCell_other (h := n12.symm), World.cell?_setCell_same (h := h.c1)]
  · rw [World.cell?_setCell_other (h := n23.symm), World.cell?_setCell_same (u := .int .i64 v.l) (h := by rw [World.cell?_setCell_other (h := n12)]; exact h.c2)]
  · rw [World.cell?_setCell_same (u := .int .i64 v.n) (h := by rw [World.cell?_setCell_other (h := n23), World.cell?_setCell_other (h := n13)]; exact h.c3)]
theorem Tn.setR {S : Nat → Prop} {w w1 : World} (h : Tn S w w1) {b : Nat} (hp : b < w.heap.size → S b) (u : St) : Tn S w (setR w1 b u) :=
  ((h.setCell (p := ⟨b, 1, none⟩) hp _).setCell (p := ⟨b, 2, none⟩) hp _).setCell (p := ⟨b, 3, none⟩) hp _
set_option maxRecDepth 100000 in
set_option maxHeartbeats 1000000 in
theorem rpeek_any (w : World) (k : Nat) (s : St) (hA : RAt w k s) (hs : mayS s = true) (p : Int) : Calls Tryd.prog 28 #[ptr k, .int .i64 p] w fun e w' => e = .returned (.tuple #[sagg (peekS s p).1, .int .i64 (peekS s p).2]) ∧ Below w.heap.size w w' := by
  obtain ⟨a, b, c⟩ := s
  have hr := mayS_iff.1 hs
  simp only at hr
  have hw : IntKind.i64.wrap (b + 1) = b + 1 := by rw [wrap_in (by omega)]
  have hk := hA.lt
  have c0 := hA.c0
  have c1 := hA.c1
  have c2 := hA.c2
  have c3 := hA.c3
  clear hA hs
  by_cases h1 : 281474976710656 < p
  · have e : peekS ⟨a, b, c⟩ p = (St.zero, 15) := by unfold peekS; rw [if_pos h1]
    rw [e]
    have hm : max p 0 = p := by omega
    clear hr e
    go_enter Tryd.func28, Tryd.ntmps28
    go_wp2
    exact bodyPost_ret (res_two rfl _ rfl (at_new w St.zero)) rfl ⟨rfl, below1 w _⟩
  by_cases h2 : a < p
  · have e : peekS ⟨a, b, c⟩ p = (⟨p, 0, c⟩, 0) := by unfold peekS; rw [if_neg h1, if_pos h2]
    rw [e]
    have hm : max p 0 = p := by omega
    clear hr e
    go_enter Tryd.func28, Tryd.ntmps28
    go_wp2
    exact bodyPost_ret (res_two rfl _ rfl (at_new w ⟨p, 0, c⟩)) rfl ⟨rfl, below1 w _⟩
  obtain ⟨q, hm, hq⟩ : ∃ q, max p 0 = q ∧ q ≤ a := ⟨_, rfl, by omega⟩
  have hq1 : ¬ 281474976710656 < q := by omega
  have hq2 : ¬ a < q := by omega
  by_cases h3 : b = 65535
  · have e : peekS ⟨a, b, c⟩ p = (St.zero, 16) := by unfold peekS; rw [if_neg h1, if_neg h2, if_pos h3]
    rw [e]
    have h3' : (65535 : Int) ≤ b := by omega
    clear hr e h3 hq h1 h2
    go_enter Tryd.func28, Tryd.ntmps28
    go_wp2
    exact bodyPost_ret (res_two rfl _ rfl (at_new w St.zero)) rfl ⟨rfl, below1 w _⟩
  · have e : peekS ⟨a, b, c⟩ p = (⟨a, b + 1, c⟩, 0) := by unfold peekS; rw [if_neg h1, if_neg h2, if_neg h3]
    rw [e]
    have h3' : ¬ (65535 : Int) ≤ b := by omega
    clear hr e h3 hq h1 h2
    go_enter Tryd.func28, Tryd.ntmps28
    go_wp2
    go_region_held (fun w' => w'.cell? ⟨k, 0, none⟩ = some (.int .i64 c) ∧ w'.cell? ⟨k, 1, none⟩ = some (.int .i64 a) ∧ w'.cell? ⟨k, 2, none⟩ = some (.int .i64 b)) (go_keep) (fail)
    go_wp2
    exact bodyPost_ret (res_two rfl _ rfl (at_new w ⟨a, b + 1, c⟩).drew) rfl ⟨rfl, (below1 w _).drew⟩
theorem rnow_end {w1 : World} {k z : Nat} {s u : St} (HK : RAt w1 k s) (HZ : At w1 z u) (hkz : k < z) (X : St) (hX : X.n = s.n) : At ((setS (setR w1 k X) z X).alloc (sobj X)) z X ∧ RAt ((setS (setR w1 k X) z X).alloc (sobj X)) k X := by
  have HZ' : At (setR w1 k X) z u := HZ.tn (S := fun j => j = k) ((Tn.refl (fun j => j = k) w1).setR (fun _ => rfl) X) (by omega)
  exact ⟨(HZ'.setAll X).alloc _, ((HK.setAll X hX).below (below_set3 (Below.refl (k + 1) _) hkz X) (Nat.lt_succ_self k)).alloc _⟩
theorem peek_node (s : St) (p : Int) (h : (peekS s p).2 = 0) : (peekS s p).1.n = s.n := by
  unfold peekS at h ⊢
  split at h
  · cases h
  · rename_i h1
    rw [if_neg h1]
    split at h
    · rename_i h2; rw [if_pos h2]
    · rename_i h2
      rw [if_neg h2]
      split at h
      · cases h
      · rename_i h3; rw [if_neg h3]
set_option maxRecDepth 100000 in
set_option maxHeartbeats 1000000 in
theorem rnow_any (w : World) (k : Nat) (s : St) (hA : RAt w k s) (hs : mayS s = true) (p : Int) :
    Calls Tryd.prog 26 #[ptr k, .int .i64 p] w fun e w' => e = .returned (.tuple #[sagg (peekS s p).1, .int .i64 (peekS s p).2]) ∧ Tn (fun j => j = k) w w' ∧ RAt w' k (nowS s p) := by
  have HP := Lib.hid (rpeek_any (w.alloc (sobj St.zero)) k s (hA.alloc _) hs p)
  have hn : nowS s p = if (peekS s p).2 = 0 then (peekS s p).1 else s := rfl
  have HN := Lib.hid (peek_node s p)
  rw [hn]
  have HZ := Lib.hid (at_new w St.zero)
  have HK := Lib.hid (hA.alloc (sobj St.zero))
  have HB := Lib.hid (below1 w (sobj St.zero))
  have hk := hA.lt
  clear hA hs hn
  generalize peekS s p = R at *
  obtain ⟨⟨x, y, z⟩, r⟩ := R
  simp only at HP HN ⊢
  by_cases hr : r = 0
  · rw [if_pos hr]
    have HN2 := Lib.hid (HN.out hr)
    clear HN
    subst hr
    go_enter Tryd.func26, Tryd.ntmps26
    go_wp2_with (go_at_call 28; (with_reducible refine HP.out.mono ?_); rintro e w1 ⟨rfl, hb⟩; have HK := Lib.hid (HK.out.below hb HK.out.lt); have HZ := Lib.hid (HZ.out.below hb HZ.out.lt); have HB := Lib.hid (HB.out.trans (hb.mono HB.out.size)); have k1 := HK.out.c1; have k2 := HK.out.c2; have k3 := HK.out.c3; have g1 := HK.out.f1; have g2 := HK.out.f2; have g3 := HK.out.f3; have hk1 := HK.out.lt; have z0 := HZ.out.c0; have z1 := HZ.out.c1; have z2 := HZ.out.c2; have y0 := HZ.out.f0; have y1 := HZ.out.f1; have y2 := HZ.out.f2; have hz1 := HZ.out.lt; clear hb)
    exact bodyPost_ret (res_two rfl _ rfl (rnow_end HK.out HZ.out hk ⟨x, y, z⟩ HN2.out).1) rfl ⟨rfl, (((Tn.of_below (S := fun j => j = k) HB.out).setR (b := k) (fun _ => rfl) ⟨x, y, z⟩).set3 (b := w.heap.size) (fun h => absurd h (Nat.lt_irrefl _)) ⟨x, y, z⟩).alloc _, (rnow_end HK.out HZ.out hk ⟨x, y, z⟩ HN2.out).2⟩
  · rw [if_neg hr]
    have hr' : (r == 0) = false := by simpa using hr
    clear hr
    go_enter Tryd.func26, Tryd.ntmps26
    go_wp2_with (go_at_call 28; (with_reducible refine HP.out.mono ?_); rintro e w1 ⟨rfl, hb⟩; have HK := Lib.hid (HK.out.below hb HK.out.lt); have HZ := Lib.hid (HZ.out.below hb HZ.out.lt); have HB := Lib.hid (HB.out.trans (hb.mono HB.out.size)); have z0 := HZ.out.c0; have z1 := HZ.out.c1; have z2 := HZ.out.c2; have y0 := HZ.out.f0; have y1 := HZ.out.f1; have y2 := HZ.out.f2; have hz1 := HZ.out.lt; clear hb)
    exact bodyPost_ret (res_two rfl _ rfl ((HZ.out.setAll ⟨x, y, z⟩).alloc (sobj ⟨x, y, z⟩))) rfl ⟨rfl, ((Tn.of_below (S := fun j => j = k) HB.out).set3 (b := w.heap.size) (fun h => absurd h (Nat.lt_irrefl _)) ⟨x, y, z⟩).alloc _, (HK.out.below (below_set3 (Below.refl (k + 1) _) hk ⟨x, y, z⟩) (Nat.lt_succ_self k)).alloc _⟩
def IsRNew (w w' : World) : Option St → Value → Prop
  | none, v => v = .pointer none
  | some s, v => ∃ k, v = ptr k ∧ w.heap.size ≤ k ∧ RAt w' k s
set_option maxRecDepth 100000 in
theorem rnew_any (w : World) (n : Int) (f : St) : Calls Tryd.prog 24 #[.int .i64 n, sagg f] w fun e w' => (∃ v, e = .returned (.tuple #[v, .int .i64 (newS n f).2]) ∧ IsRNew w w' (newS n f).1 v) ∧ Below w.heap.size w w' := by
  by_cases h1 : n < 1
  · have e : newS n f = (none, 1) := by unfold newS; rw [if_pos (.inl h1)]
    rw [e]
    clear e
    obtain ⟨a, b, c⟩ := f
    go_enter Tryd.func24, Tryd.ntmps24
    go_wp2
    go_ret2
    exact ⟨⟨_, rfl, rfl⟩, below1 w _⟩
  by_cases h2 : 63 < n
  · have e : newS n f = (none, 1) := by unfold newS; rw [if_pos (.inr h2)]
    rw [e]
    have h1' : decide (n < 1) = false := decide_eq_false h1
    clear e
    obtain ⟨a, b, c⟩ := f
    go_enter Tryd.func24, Tryd.ntmps24
    go_wp2
    go_ret2
    exact ⟨⟨_, rfl, rfl⟩, below1 w _⟩
  have h1' : decide (n < 1) = false := decide_eq_false h1
  have h2' : decide (63 < n) = false := decide_eq_false h2
  have HC := fun w => Lib.hid (rmay_any f w)
  have HA := Lib.hid (at_new w f)
  have HW := Lib.hid (below1 w (sobj f))
  cases hm : mayS f
  · have e : newS n f = (none, 17) := by unfold newS; rw [if_neg (by omega), if_pos hm]
    rw [e]
    rw [hm] at HC
    clear e hm h1 h2
    obtain ⟨a, b, c⟩ := f
    go_enter Tryd.func24, Tryd.ntmps24
    go_wp2_with (go_at_call 14; ((with_reducible refine (HC _).out.mono ?_); rintro e w' ⟨rfl, hb⟩; have HW := Lib.hid (HW.out.trans (hb.mono HW.out.size)); clear hb))
    go_ret2
    exact ⟨⟨_, rfl, rfl⟩, HW.out⟩
  · have e : newS n f = (some ⟨f.w, f.l, n⟩, 0) := by unfold newS; rw [if_neg (by omega), if_neg (by rw [hm]; decide)]
    rw [e]
    rw [hm] at HC
    clear e hm h1 h2
    obtain ⟨a, b, c⟩ := f
    go_enter Tryd.func24, Tryd.ntmps24
    go_wp2_with (go_at_call 14; ((with_reducible refine (HC _).out.mono ?_); rintro e w' ⟨rfl, hb⟩; have HA := Lib.hid (HA.out.below hb HA.out.lt); have HW := Lib.hid (HW.out.trans (hb.mono HW.out.size)); have c0 := HA.out.c0; have c1 := HA.out.c1; have c2 := HA.out.c2; have hk := HA.out.lt; clear hb))
    go_ret2
    exact ⟨⟨_, rfl, _, rfl, HW.out.size, rat_new _ ⟨a, b, n⟩⟩, HW.out.alloc HW.out.size _⟩
theorem later_new (s t : St) : laterS s ⟨t.w, t.l, s.n⟩ = if s.w < t.w ∨ (t.w = s.w ∧ s.l < t.l) then ⟨t.w, t.l, s.n⟩ else s := by
  have e : laterS s ⟨t.w, t.l, s.n⟩ = if cmpS s ⟨t.w, t.l, s.n⟩ < 0 then ⟨t.w, t.l, s.n⟩ else s := by unfold laterS lessS; simp
  rw [e]
  have h : cmpS s ⟨t.w, t.l, s.n⟩ < 0 ↔ s.w < t.w ∨ (t.w = s.w ∧ s.l < t.l) := by
    unfold cmpS
    simp only
    by_cases h1 : s.w = t.w
    · rw [if_neg (by simpa using h1)]
      by_cases h2 : s.l = t.l
      · rw [if_neg (by simpa using h2), cmpI_zero.2 rfl]
        omega
      · rw [if_pos h2]
        unfold cmpI
        split <;> (try split) <;> omega
    · rw [if_pos h1]
      unfold cmpI
      split <;> (try split) <;> omega
  by_cases hc : cmpS s ⟨t.w, t.l, s.n⟩ < 0
  · rw [if_pos hc, if_pos (h.1 hc)]
  · rw [if_neg hc, if_neg (fun x => hc (h.2 x))]
set_option maxRecDepth 100000 in
set_option maxHeartbeats 4000000 in
theorem robserve_any (w : World) (k : Nat) (s : St) (hA : RAt w k s) (t : St) :
    Calls Tryd.prog 30 #[ptr k, sagg t] w fun e w' => e = .returned (.int .i64 (obsE t)) ∧ Tn (fun j => j = k) w w' ∧ RAt w' k (obsS s t) := by
  have HC := fun w => Lib.hid (rmay_any t w)
  have HN := Lib.hid (at_new w t)
  have HK := Lib.hid (hA.alloc (sobj t))
  have HB := Lib.hid (below1 w (sobj t))
  have hk := hA.lt
  cases hm : mayS t
  · have e1 : obsS s t = s := by unfold obsS; rw [if_neg (by rw [hm]; decide)]
    have e2 : obsE t = 17 := by unfold obsE; rw [if_neg (by rw [hm]; decide)]
    rw [e1, e2]
    rw [hm] at HC
    clear e1 e2 hA
    obtain ⟨a, b, c⟩ := t
    go_enter Tryd.func30, Tryd.ntmps30
    go_wp2_with (go_at_call 14; ((with_reducible refine (HC _).out.mono ?_); rintro e w1 ⟨rfl, hb⟩; have HK := Lib.hid (HK.out.below hb HK.out.lt); have HN := Lib.hid (HN.out.below hb HN.out.lt); have HB := Lib.hid (HB.out.trans (hb.mono HB.out.size)); clear hb))
    go_ret
    exact ⟨rfl, Tn.of_below HB.out, HK.out⟩
  · have e1 : obsS s t = if s.w < t.w ∨ (t.w = s.w ∧ s.l < t.l) then ⟨t.w, t.l, s.n⟩ else s := by unfold obsS; rw [if_pos hm, later_new]
    have e2 : obsE t = 0 := by unfold obsE; rw [if_pos hm]
    rw [e1, e2]
    rw [hm] at HC
    clear e1 e2 hA hm
    obtain ⟨a, b, c⟩ := t
    obtain ⟨x, y, z⟩ := s
    simp only
    by_cases h1 : x < a
    · rw [if_pos (.inl h1)]
      have h1' : decide (x < a) = true := decide_eq_true h1
      clear h1
      go_enter Tryd.func30, Tryd.ntmps30
      go_wp2_with (go_at_call 14; ((with_reducible refine (HC _).out.mono ?_); rintro e w1 ⟨rfl, hb⟩; have HK := Lib.hid (HK.out.below hb HK.out.lt); have HN := Lib.hid (HN.out.below hb HN.out.lt); have HB := Lib.hid (HB.out.trans (hb.mono HB.out.size)); clear hb))
      have k0 := HK.out.c0; have k1 := HK.out.c1; have k2 := HK.out.c2; have k3 := HK.out.c3; have g1 := HK.out.f1; have g2 := HK.out.f2; have g3 := HK.out.f3; have hk1 := HK.out.lt
      have z0 := HN.out.c0; have z1 := HN.out.c1; have z2 := HN.out.c2; have hz1 := HN.out.lt
      have HN := Lib.hid HN.out.drew
      have HK := Lib.hid HK.out.drew
      have HB := Lib.hid HB.out.drew
      refine wp_region_held (S := (fun w' => w'.cell? ⟨w.heap.size, 0, none⟩ = some (.int .i64 a) ∧ w'.cell? ⟨w.heap.size, 1, none⟩ = some (.int .i64 b) ∧ w'.cell? ⟨k, 1, none⟩ = some (.int .i64 x) ∧ w'.cell? ⟨k, 2, none⟩ = some (.int .i64 y))) (by kernel_rfl) ?_
      change wpAnyH _ _ _ _ _ _ _ _ (World.drew _)
      refine wpAnyH_take (i := 0) (v := ?vA1_0) rfl (by kernel_rfl) (by kernel_rfl) (by kernel_rfl) (fun _ _ _ h => h) (Or.inl ⟨by rfl, ?yA1_0⟩) ⟨HN.out.c0, HN.out.c1, HK.out.c1, HK.out.c2⟩ ?rA1_0
      case yA1_0 => (intro W hSw; (try dsimp only at hSw); obtain ⟨s0, s1, s2, s3⟩ := hSw; first | (go_simp; done) | (go_simp; with_reducible rfl))
      try go_simp
      refine wpAnyH_take (i := 1) (v := ?vA1_1) rfl (by kernel_rfl) (by kernel_rfl) (by kernel_rfl) (fun _ _ _ h => h) (Or.inl ⟨by rfl, ?yA1_1⟩) ⟨HN.out.c0, HN.out.c1, HK.out.c1, HK.out.c2⟩ ?rA1_1
      case yA1_1 => (intro W hSw; (try dsimp only at hSw); obtain ⟨s0, s1, s2, s3⟩ := hSw; first | (go_simp; done) | (go_simp; with_reducible rfl))
      try go_simp
      refine wpAnyH_take (i := 2) (v := ?vA1_2) rfl (by kernel_rfl) (by kernel_rfl) (by kernel_rfl) (fun _ _ _ h => h) (Or.inl ⟨by rfl, ?yA1_2⟩) ⟨HN.out.c0, HN.out.c1, HK.out.c1, HK.out.c2⟩ ?rA1_2
      case yA1_2 => (intro W hSw; (try dsimp only at hSw); obtain ⟨s0, s1, s2, s3⟩ := hSw; first | (go_simp; done) | (go_simp; with_reducible rfl))
      try go_simp
      refine wpAnyH_take (i := 3) (v := ?vA1_3) rfl (by kernel_rfl) (by kernel_rfl) (by kernel_rfl) (fun _ _ _ h => h) (Or.inl ⟨by rfl, ?yA1_3⟩) ⟨HN.out.c0, HN.out.c1, HK.out.c1, HK.out.c2⟩ ?rA1_3
      case yA1_3 => (intro W hSw; (try dsimp only at hSw); obtain ⟨s0, s1, s2, s3⟩ := hSw; first | (go_simp; done) | (go_simp; with_reducible rfl))
      try go_simp
      refine wpAnyH_take (i := 4) (v := ?vA1_4) rfl (by kernel_rfl) (by kernel_rfl) (by kernel_rfl) (fun _ _ _ h => h) (Or.inl ⟨by rfl, ?yA1_4⟩) ⟨HN.out.c0, HN.out.c1, HK.out.c1, HK.out.c2⟩ ?rA1_4
      case yA1_4 => (intro W hSw; (try dsimp only at hSw); obtain ⟨s0, s1, s2, s3⟩ := hSw; first | (go_simp; done) | (go_simp; with_reducible rfl))
      try go_simp
      refine wpAnyH_take (i := 5) (v := ?vA1_5) rfl (by kernel_rfl) (by kernel_rfl) (by kernel_rfl) (fun _ _ _ h => h) (Or.inl ⟨by rfl, ?yA1_5⟩) ⟨HN.out.c0, HN.out.c1, HK.out.c1, HK.out.c2⟩ ?rA1_5
      case yA1_5 => (intro W hSw; (try dsimp only at hSw); obtain ⟨s0, s1, s2, s3⟩ := hSw; first | (go_simp; done) | (go_simp; with_reducible rfl))
      try go_simp
      refine wpAnyH_take (i := 6) (v := ?vA1_6) rfl (by kernel_rfl) (by kernel_rfl) (by kernel_rfl) (fun _ _ _ h => h) (Or.inl ⟨by rfl, ?yA1_6⟩) ⟨HN.out.c0, HN.out.c1, HK.out.c1, HK.out.c2⟩ ?rA1_6
      case yA1_6 => (intro W hSw; (try dsimp only at hSw); obtain ⟨s0, s1, s2, s3⟩ := hSw; first | (go_simp; done) | (go_simp; with_reducible rfl))
      try go_simp
      refine wpAnyH_take (i := 7) (v := ?vA1_7) rfl (by kernel_rfl) (by kernel_rfl) (by kernel_rfl) (fun _ _ _ h => h) (Or.inl ⟨by rfl, ?yA1_7⟩) ⟨HN.out.c0, HN.out.c1, HK.out.c1, HK.out.c2⟩ ?rA1_7
      case yA1_7 => (intro W hSw; (try dsimp only at hSw); obtain ⟨s0, s1, s2, s3⟩ := hSw; first | (go_simp; done) | (go_simp; with_reducible rfl))
      try go_simp
      refine wpAnyH_take (i := 8) (v := ?vA1_8) rfl (by kernel_rfl) (by kernel_rfl) (by kernel_rfl) (fun _ _ _ h => h) (Or.inl ⟨by rfl, ?yA1_8⟩) ⟨HN.out.c0, HN.out.c1, HK.out.c1, HK.out.c2⟩ ?rA1_8
      case yA1_8 => (intro W hSw; (try dsimp only at hSw); obtain ⟨s0, s1, s2, s3⟩ := hSw; first | (go_simp; done) | (go_simp; with_reducible rfl))
      try go_simp
      refine wpAnyH_take (i := 9) (v := undef) rfl (by kernel_rfl) (by kernel_rfl) (by kernel_rfl) (fun _ _ _ h => h) (Or.inr ⟨by rfl, rfl⟩) ⟨HN.out.c0, HN.out.c1, HK.out.c1, HK.out.c2⟩ ?rA1_9
      try go_simp
      refine wpAnyH_take (i := 10) (v := undef) rfl (by kernel_rfl) (by kernel_rfl) (by kernel_rfl) (fun _ _ _ h => h) (Or.inr ⟨by rfl, rfl⟩) ⟨HN.out.c0, HN.out.c1, HK.out.c1, HK.out.c2⟩ ?rA1_10
      try go_simp
      refine wpAnyH_take (i := 11) (v := undef) rfl (by kernel_rfl) (by kernel_rfl) (by kernel_rfl) (fun _ _ _ h => h) (Or.inr ⟨by rfl, rfl⟩) ⟨HN.out.c0, HN.out.c1, HK.out.c1, HK.out.c2⟩ ?rA1_11
      try go_simp
      refine wpAnyH_take (i := 12) (v := undef) rfl (by kernel_rfl) (by kernel_rfl) (by kernel_rfl) (fun _ _ _ h => h) (Or.inr ⟨by rfl, rfl⟩) ⟨HN.out.c0, HN.out.c1, HK.out.c1, HK.out.c2⟩ ?rA1_12
      try go_simp
      refine wpAnyH_take (i := 13) (v := undef) rfl (by kernel_rfl) (by kernel_rfl) (by kernel_rfl) (fun _ _ _ h => h) (Or.inr ⟨by rfl, rfl⟩) ⟨HN.out.c0, HN.out.c1, HK.out.c1, HK.out.c2⟩ ?rA1_13
      try go_simp
      refine wpAnyH_take (i := 14) (v := undef) rfl (by kernel_rfl) (by kernel_rfl) (by kernel_rfl) (fun _ _ _ h => h) (Or.inr ⟨by rfl, rfl⟩) ⟨HN.out.c0, HN.out.c1, HK.out.c1, HK.out.c2⟩ ?rA1_14
      try go_simp
      refine wpAnyH_take (i := 15) (v := undef) rfl (by kernel_rfl) (by kernel_rfl) (by kernel_rfl) (fun _ _ _ h => h) (Or.inr ⟨by rfl, rfl⟩) ⟨HN.out.c0, HN.out.c1, HK.out.c1, HK.out.c2⟩ ?rA1_15
      try go_simp
      refine wpAnyH_take (i := 16) (v := undef) rfl (by kernel_rfl) (by kernel_rfl) (by kernel_rfl) (fun _ _ _ h => h) (Or.inr ⟨by rfl, rfl⟩) ⟨HN.out.c0, HN.out.c1, HK.out.c1, HK.out.c2⟩ ?rA1_16
      try go_simp
      refine wpAnyH_take (i := 17) (v := undef) rfl (by kernel_rfl) (by kernel_rfl) (by kernel_rfl) (fun _ _ _ h => h) (Or.inr ⟨by rfl, rfl⟩) ⟨HN.out.c0, HN.out.c1, HK.out.c1, HK.out.c2⟩ ?rA1_17
      try go_simp
      refine wpAnyH_take (i := 18) (v := undef) rfl (by kernel_rfl) (by kernel_rfl) (by kernel_rfl) (fun _ _ _ h => h) (Or.inr ⟨by rfl, rfl⟩) ⟨HN.out.c0, HN.out.c1, HK.out.c1, HK.out.c2⟩ ?rA1_18
      try go_simp
      refine wpAnyH_take (i := 19) (v := undef) rfl (by kernel_rfl) (by kernel_rfl) (by kernel_rfl) (fun _ _ _ h => h) (Or.inr ⟨by rfl, rfl⟩) ⟨HN.out.c0, HN.out.c1, HK.out.c1, HK.out.c2⟩ ?rA1_19
      try go_simp
      refine wpAnyH_take (i := 20) (v := undef) rfl (by kernel_rfl) (by kernel_rfl) (by kernel_rfl) (fun _ _ _ h => h) (Or.inr ⟨by rfl, rfl⟩) ⟨HN.out.c0, HN.out.c1, HK.out.c1, HK.out.c2⟩ ?rA1_20
      try go_simp
      refine wpAnyH_take (i := 21) (v := undef) rfl (by kernel_rfl) (by kernel_rfl) (by kernel_rfl) (fun _ _ _ h => h) (Or.inr ⟨by rfl, rfl⟩) ⟨HN.out.c0, HN.out.c1, HK.out.c1, HK.out.c2⟩ ?rA1_21
      try go_simp
      refine wpAnyH_take (i := 22) (v := undef) rfl (by kernel_rfl) (by kernel_rfl) (by kernel_rfl) (fun _ _ _ h => h) (Or.inr ⟨by rfl, rfl⟩) ⟨HN.out.c0, HN.out.c1, HK.out.c1, HK.out.c2⟩ ?rA1_22
      try go_simp
      refine wpAnyH_take (i := 23) (v := undef) rfl (by kernel_rfl) (by kernel_rfl) (by kernel_rfl) (fun _ _ _ h => h) (Or.inr ⟨by rfl, rfl⟩) ⟨HN.out.c0, HN.out.c1, HK.out.c1, HK.out.c2⟩ ?rA1_23
      try go_simp
      refine wpAnyH_take (i := 24) (v := undef) rfl (by kernel_rfl) (by kernel_rfl) (by kernel_rfl) (fun _ _ _ h => h) (Or.inr ⟨by rfl, rfl⟩) ⟨HN.out.c0, HN.out.c1, HK.out.c1, HK.out.c2⟩ ?rA1_24
      try go_simp
      refine wpAnyH_take (i := 25) (v := undef) rfl (by kernel_rfl) (by kernel_rfl) (by kernel_rfl) (fun _ _ _ h => h) (Or.inr ⟨by rfl, rfl⟩) ⟨HN.out.c0, HN.out.c1, HK.out.c1, HK.out.c2⟩ ?rA1_25
      try go_simp
      refine wpAnyH_take (i := 26) (v := undef) rfl (by kernel_rfl) (by kernel_rfl) (by kernel_rfl) (fun _ _ _ h => h) (Or.inr ⟨by rfl, rfl⟩) ⟨HN.out.c0, HN.out.c1, HK.out.c1, HK.out.c2⟩ ?rA1_26
      try go_simp
      refine wpAnyH_take (i := 27) (v := ?vA1_27) rfl (by kernel_rfl) (by kernel_rfl) (by kernel_rfl) (fun _ _ _ h => h) (Or.inl ⟨by rfl, ?yA1_27⟩) ⟨HN.out.c0, HN.out.c1, HK.out.c1, HK.out.c2⟩ ?rA1_27
      case yA1_27 => (intro W hSw; (try dsimp only at hSw); obtain ⟨s0, s1, s2, s3⟩ := hSw; first | (go_simp; done) | (go_simp; with_reducible rfl))
      try go_simp
      refine wpAnyH_done (by kernel_rfl) ?_ _
      go_wp2
      have HN := Lib.hid HN.out.drew
      have HK := Lib.hid HK.out.drew
      have HB := Lib.hid HB.out.drew
      have hkn : k ≠ w.heap.size := Nat.ne_of_lt hk
      refine wp_region_held (S := (fun w' => w'.cell? ⟨w.heap.size, 0, none⟩ = some (.int .i64 a) ∧ w'.cell? ⟨w.heap.size, 1, none⟩ = some (.int .i64 b) ∧ w'.cell? ⟨k, 0, none⟩ = some (.int .i64 z))) (by kernel_rfl) ?_
      change wpAnyH _ _ _ _ _ _ _ _ (World.drew _)
      refine wpAnyH_take (i := 0) (v := ?vzA_0) rfl (by kernel_rfl) (by kernel_rfl) (by kernel_rfl) (fun _ _ _ h => h) (Or.inl ⟨by rfl, ?yzA_0⟩) ⟨HN.out.c0, HN.out.c1, HK.out.c0⟩ ?rzA_0
      case yzA_0 => (intro W hSw; (try dsimp only at hSw); obtain ⟨s0, s1, s2⟩ := hSw; first | (go_simp; done) | (go_simp; with_reducible rfl))
      try go_simp
      refine wpAnyH_take (i := 1) (v := ?vzA_1) rfl (by kernel_rfl) (by kernel_rfl) (by kernel_rfl) (fun _ _ _ h => h) (Or.inl ⟨by rfl, ?yzA_1⟩) ⟨HN.out.c0, HN.out.c1, HK.out.c0⟩ ?rzA_1
      case yzA_1 => (intro W hSw; (try dsimp only at hSw); obtain ⟨s0, s1, s2⟩ := hSw; first | (go_simp; done) | (go_simp; with_reducible rfl))
      try go_simp
      refine wpAnyH_take (i := 2) (v := ?vzA_2) rfl (by kernel_rfl) (by kernel_rfl) (by kernel_rfl) (fun _ _ _ h => h) (Or.inl ⟨by rfl, ?yzA_2⟩) ⟨HN.out.c0, HN.out.c1, HK.out.c0⟩ ?rzA_2
      case yzA_2 => (intro W hSw; (try dsimp only at hSw); obtain ⟨s0, s1, s2⟩ := hSw; first | (go_simp; done) | (go_simp; with_reducible rfl))
      try go_simp
      refine wpAnyH_take (i := 3) (v := ?vzA_3) rfl (by kernel_rfl) (by kernel_rfl) (by kernel_rfl) (fun _ _ _ h => h) (Or.inl ⟨by rfl, ?yzA_3⟩) ⟨HN.out.c0, HN.out.c1, HK.out.c0⟩ ?rzA_3
      case yzA_3 => (intro W hSw; (try dsimp only at hSw); obtain ⟨s0, s1, s2⟩ := hSw; first | (go_simp; done) | (go_simp; with_reducible rfl))
      try go_simp
      refine wpAnyH_take (i := 4) (v := ?vzA_4) rfl (by kernel_rfl) (by kernel_rfl) (by kernel_rfl) (fun _ _ _ h => h) (Or.inl ⟨by rfl, ?yzA_4⟩) ⟨HN.out.c0, HN.out.c1, HK.out.c0⟩ ?rzA_4
      case yzA_4 => (intro W hSw; (try dsimp only at hSw); obtain ⟨s0, s1, s2⟩ := hSw; first | (go_simp; done) | (go_simp; with_reducible rfl))
      try go_simp
      refine wpAnyH_take (i := 5) (v := ?vzA_5) rfl (by kernel_rfl) (by kernel_rfl) (by kernel_rfl) (fun _ _ _ h => h) (Or.inl ⟨by rfl, ?yzA_5⟩) ⟨HN.out.c0, HN.out.c1, HK.out.c0⟩ ?rzA_5
      case yzA_5 => (intro W hSw; (try dsimp only at hSw); obtain ⟨s0, s1, s2⟩ := hSw; first | (go_simp; done) | (go_simp; with_reducible rfl))
      try go_simp
      refine wpAnyH_take (i := 6) (v := ?vzA_6) rfl (by kernel_rfl) (by kernel_rfl) (by kernel_rfl) (fun _ _ _ h => h) (Or.inl ⟨by rfl, ?yzA_6⟩) ⟨HN.out.c0, HN.out.c1, HK.out.c0⟩ ?rzA_6
      case yzA_6 => (intro W hSw; (try dsimp only at hSw); obtain ⟨s0, s1, s2⟩ := hSw; first | (go_simp; done) | (go_simp; with_reducible rfl))
      try go_simp
      refine wpAnyH_take (i := 7) (v := ?vzA_7) rfl (by kernel_rfl) (by kernel_rfl) (by kernel_rfl) (fun _ _ _ h => h) (Or.inl ⟨by rfl, ?yzA_7⟩) ⟨HN.out.c0, HN.out.c1, HK.out.c0⟩ ?rzA_7
      case yzA_7 => (intro W hSw; (try dsimp only at hSw); obtain ⟨s0, s1, s2⟩ := hSw; first | (go_simp; done) | (go_simp; with_reducible rfl))
      try go_simp
      refine wpAnyH_take (i := 8) (v := ?vzA_8) rfl (by kernel_rfl) (by kernel_rfl) (by kernel_rfl) (fun _ _ _ h => h) (Or.inl ⟨by rfl, ?yzA_8⟩) ⟨HN.out.c0, HN.out.c1, HK.out.c0⟩ ?rzA_8
      case yzA_8 => (intro W hSw; (try dsimp only at hSw); obtain ⟨s0, s1, s2⟩ := hSw; first | (go_simp; done) | (go_simp; with_reducible rfl))
      try go_simp
      refine wpAnyH_take (i := 9) (v := ?vzA_9) rfl (by kernel_rfl) (by kernel_rfl) (by kernel_rfl) (fun _ _ _ h => h) (Or.inl ⟨by rfl, ?yzA_9⟩) ⟨HN.out.c0, HN.out.c1, HK.out.c0⟩ ?rzA_9
      case yzA_9 => (intro W hSw; (try dsimp only at hSw); obtain ⟨s0, s1, s2⟩ := hSw; first | (go_simp; done) | (go_simp; with_reducible rfl))
      try go_simp
      refine wpAnyH_take (i := 10) (v := ?vzA_10) rfl (by kernel_rfl) (by kernel_rfl) (by kernel_rfl) (fun _ _ _ h => h) (Or.inl ⟨by rfl, ?yzA_10⟩) ⟨HN.out.c0, HN.out.c1, HK.out.c0⟩ ?rzA_10
      case yzA_10 => (intro W hSw; (try dsimp only at hSw); obtain ⟨s0, s1, s2⟩ := hSw; first | (go_simp; done) | (go_simp; with_reducible rfl))
      try go_simp
      refine wpAnyH_take (i := 11) (v := ?vzA_11) rfl (by kernel_rfl) (by kernel_rfl) (by kernel_rfl) (fun _ _ _ h => h) (Or.inl ⟨by rfl, ?yzA_11⟩) ⟨HN.out.c0, HN.out.c1, HK.out.c0⟩ ?rzA_11
      case yzA_11 => (intro W hSw; (try dsimp only at hSw); obtain ⟨s0, s1, s2⟩ := hSw; first | (go_simp; done) | (go_simp; with_reducible rfl))
      try go_simp
      refine wpAnyH_ready (rs := [12]) (by kernel_rfl) (by simp) ?_
      refine AllReadyH.cons rfl (fun K hK => ?_) AllReadyH.nil
      go_simp
      refine hK.out _ _ (let h9 := HN.out.tn (S := fun j => j = k) ((Tn.refl (fun j => j = k) _).setR (fun _ => rfl) ⟨a, b, z⟩) (Nat.ne_of_gt hk); ⟨h9.c0, h9.c1, (HK.out.setAll ⟨a, b, z⟩ rfl).c0⟩) (fun _ => ?_)
      clear hK K
      try go_simp
      refine wpAnyH_done (by kernel_rfl) ?_ _
      go_wp2
      go_ret
      exact ⟨rfl, ((Tn.of_below (S := fun j => j = k) HB.out).setR (fun _ => rfl) ⟨a, b, z⟩), HK.out.setAll ⟨a, b, z⟩ rfl⟩
    have h1' : decide (x < a) = false := decide_eq_false h1
    by_cases h2 : a = x
    · have h2' : (a == x) = true := by simpa using h2
      by_cases h3 : y < b
      · rw [if_pos (.inr ⟨h2, h3⟩)]
        have h3' : decide (y < b) = true := decide_eq_true h3
        clear h1 h2 h3
        go_enter Tryd.func30, Tryd.ntmps30
        go_wp2_with (go_at_call 14; ((with_reducible refine (HC _).out.mono ?_); rintro e w1 ⟨rfl, hb⟩; have HK := Lib.hid (HK.out.below hb HK.out.lt); have HN := Lib.hid (HN.out.below hb HN.out.lt); have HB := Lib.hid (HB.out.trans (hb.mono HB.out.size)); clear hb))
        have k0 := HK.out.c0; have k1 := HK.out.c1; have k2 := HK.out.c2; have k3 := HK.out.c3; have g1 := HK.out.f1; have g2 := HK.out.f2; have g3 := HK.out.f3; have hk1 := HK.out.lt
        have z0 := HN.out.c0; have z1 := HN.out.c1; have z2 := HN.out.c2; have hz1 := HN.out.lt
        have HN := Lib.hid HN.out.drew
        have HK := Lib.hid HK.out.drew
        have HB := Lib.hid HB.out.drew
        refine wp_region_held (S := (fun w' => w'.cell? ⟨w.heap.size, 0, none⟩ = some (.int .i64 a) ∧ w'.cell? ⟨w.heap.size, 1, none⟩ = some (.int .i64 b) ∧ w'.cell? ⟨k, 1, none⟩ = some (.int .i64 x) ∧ w'.cell? ⟨k, 2, none⟩ = some (.int .i64 y))) (by kernel_rfl) ?_
        change wpAnyH _ _ _ _ _ _ _ _ (World.drew _)
        refine wpAnyH_take (i := 0) (v := ?vB1_0) rfl (by kernel_rfl) (by kernel_rfl) (by kernel_rfl) (fun _ _ _ h => h) (Or.inl ⟨by rfl, ?yB1_0⟩) ⟨HN.out.c0, HN.out.c1, HK.out.c1, HK.out.c2⟩ ?rB1_0
        case yB1_0 => (intro W hSw; (try dsimp only at hSw); obtain ⟨s0, s1, s2, s3⟩ := hSw; first | (go_simp; done) | (go_simp; with_reducible rfl))
        try go_simp
        refine wpAnyH_take (i := 1) (v := ?vB1_1) rfl (by kernel_rfl) (by kernel_rfl) (by kernel_rfl) (fun _ _ _ h => h) (Or.inl ⟨by rfl, ?yB1_1⟩) ⟨HN.out.c0, HN.out.c1, HK.out.c1, HK.out.c2⟩ ?rB1_1
        case yB1_1 => (intro W hSw; (try dsimp only at hSw); obtain ⟨s0, s1, s2, s3⟩ := hSw; first | (go_simp; done) | (go_simp; with_reducible rfl))
        try go_simp
        refine wpAnyH_take (i := 2) (v := ?vB1_2) rfl (by kernel_rfl) (by kernel_rfl) (by kernel_rfl) (fun _ _ _ h => h) (Or.inl ⟨by rfl, ?yB1_2⟩) ⟨HN.out.c0, HN.out.c1, HK.out.c1, HK.out.c2⟩ ?rB1_2
        case yB1_2 => (intro W hSw; (try dsimp only at hSw); obtain ⟨s0, s1, s2, s3⟩ := hSw; first | (go_simp; done) | (go_simp; with_reducible rfl))
        try go_simp
        refine wpAnyH_take (i := 3) (v := ?vB1_3) rfl (by kernel_rfl) (by kernel_rfl) (by kernel_rfl) (fun _ _ _ h => h) (Or.inl ⟨by rfl, ?yB1_3⟩) ⟨HN.out.c0, HN.out.c1, HK.out.c1, HK.out.c2⟩ ?rB1_3
        case yB1_3 => (intro W hSw; (try dsimp only at hSw); obtain ⟨s0, s1, s2, s3⟩ := hSw; first | (go_simp; done) | (go_simp; with_reducible rfl))
        try go_simp
        refine wpAnyH_take (i := 4) (v := ?vB1_4) rfl (by kernel_rfl) (by kernel_rfl) (by kernel_rfl) (fun _ _ _ h => h) (Or.inl ⟨by rfl, ?yB1_4⟩) ⟨HN.out.c0, HN.out.c1, HK.out.c1, HK.out.c2⟩ ?rB1_4
        case yB1_4 => (intro W hSw; (try dsimp only at hSw); obtain ⟨s0, s1, s2, s3⟩ := hSw; first | (go_simp; done) | (go_simp; with_reducible rfl))
        try go_simp
        refine wpAnyH_take (i := 5) (v := ?vB1_5) rfl (by kernel_rfl) (by kernel_rfl) (by kernel_rfl) (fun _ _ _ h => h) (Or.inl ⟨by rfl, ?yB1_5⟩) ⟨HN.out.c0, HN.out.c1, HK.out.c1, HK.out.c2⟩ ?rB1_5
        case yB1_5 => (intro W hSw; (try dsimp only at hSw); obtain ⟨s0, s1, s2, s3⟩ := hSw; first | (go_simp; done) | (go_simp; with_reducible rfl))
        try go_simp
        refine wpAnyH_take (i := 6) (v := ?vB1_6) rfl (by kernel_rfl) (by kernel_rfl) (by kernel_rfl) (fun _ _ _ h => h) (Or.inl ⟨by rfl, ?yB1_6⟩) ⟨HN.out.c0, HN.out.c1, HK.out.c1, HK.out.c2⟩ ?rB1_6
        case yB1_6 => (intro W hSw; (try dsimp only at hSw); obtain ⟨s0, s1, s2, s3⟩ := hSw; first | (go_simp; done) | (go_simp; with_reducible rfl))
        try go_simp
        refine wpAnyH_take (i := 7) (v := ?vB1_7) rfl (by kernel_rfl) (by kernel_rfl) (by kernel_rfl) (fun _ _ _ h => h) (Or.inl ⟨by rfl, ?yB1_7⟩) ⟨HN.out.c0, HN.out.c1, HK.out.c1, HK.out.c2⟩ ?rB1_7
        case yB1_7 => (intro W hSw; (try dsimp only at hSw); obtain ⟨s0, s1, s2, s3⟩ := hSw; first | (go_simp; done) | (go_simp; with_reducible rfl))
        try go_simp
        refine wpAnyH_take (i := 8) (v := ?vB1_8) rfl (by kernel_rfl) (by kernel_rfl) (by kernel_rfl) (fun _ _ _ h => h) (Or.inl ⟨by rfl, ?yB1_8⟩) ⟨HN.out.c0, HN.out.c1, HK.out.c1, HK.out.c2⟩ ?rB1_8
        case yB1_8 => (intro W hSw; (try dsimp only at hSw); obtain ⟨s0, s1, s2, s3⟩ := hSw; first | (go_simp; done) | (go_simp; with_reducible rfl))
        try go_simp
        refine wpAnyH_take (i := 9) (v := ?vB1_9) rfl (by kernel_rfl) (by kernel_rfl) (by kernel_rfl) (fun _ _ _ h => h) (Or.inl ⟨by rfl, ?yB1_9⟩) ⟨HN.out.c0, HN.out.c1, HK.out.c1, HK.out.c2⟩ ?rB1_9
        case yB1_9 => (intro W hSw; (try dsimp only at hSw); obtain ⟨s0, s1, s2, s3⟩ := hSw; first | (go_simp; done) | (go_simp; with_reducible rfl))
        try go_simp
        refine wpAnyH_take (i := 10) (v := ?vB1_10) rfl (by kernel_rfl) (by kernel_rfl) (by kernel_rfl) (fun _ _ _ h => h) (Or.inl ⟨by rfl, ?yB1_10⟩) ⟨HN.out.c0, HN.out.c1, HK.out.c1, HK.out.c2⟩ ?rB1_10
        case yB1_10 => (intro W hSw; (try dsimp only at hSw); obtain ⟨s0, s1, s2, s3⟩ := hSw; first | (go_simp; done) | (go_simp; with_reducible rfl))
        try go_simp
        refine wpAnyH_take (i := 11) (v := ?vB1_11) rfl (by kernel_rfl) (by kernel_rfl) (by kernel_rfl) (fun _ _ _ h => h) (Or.inl ⟨by rfl, ?yB1_11⟩) ⟨HN.out.c0, HN.out.c1, HK.out.c1, HK.out.c2⟩ ?rB1_11
        case yB1_11 => (intro W hSw; (try dsimp only at hSw); obtain ⟨s0, s1, s2, s3⟩ := hSw; first | (go_simp; done) | (go_simp; with_reducible rfl))
        try go_simp
        refine wpAnyH_take (i := 12) (v := ?vB1_12) rfl (by kernel_rfl) (by kernel_rfl) (by kernel_rfl) (fun _ _ _ h => h) (Or.inl ⟨by rfl, ?yB1_12⟩) ⟨HN.out.c0, HN.out.c1, HK.out.c1, HK.out.c2⟩ ?rB1_12
        case yB1_12 => (intro W hSw; (try dsimp only at hSw); obtain ⟨s0, s1, s2, s3⟩ := hSw; first | (go_simp; done) | (go_simp; with_reducible rfl))
        try go_simp
        refine wpAnyH_take (i := 13) (v := ?vB1_13) rfl (by kernel_rfl) (by kernel_rfl) (by kernel_rfl) (fun _ _ _ h => h) (Or.inl ⟨by rfl, ?yB1_13⟩) ⟨HN.out.c0, HN.out.c1, HK.out.c1, HK.out.c2⟩ ?rB1_13
        case yB1_13 => (intro W hSw; (try dsimp only at hSw); obtain ⟨s0, s1, s2, s3⟩ := hSw; first | (go_simp; done) | (go_simp; with_reducible rfl))
        try go_simp
        refine wpAnyH_take (i := 14) (v := ?vB1_14) rfl (by kernel_rfl) (by kernel_rfl) (by kernel_rfl) (fun _ _ _ h => h) (Or.inl ⟨by rfl, ?yB1_14⟩) ⟨HN.out.c0, HN.out.c1, HK.out.c1, HK.out.c2⟩ ?rB1_14
        case yB1_14 => (intro W hSw; (try dsimp only at hSw); obtain ⟨s0, s1, s2, s3⟩ := hSw; first | (go_simp; done) | (go_simp; with_reducible rfl))
        try go_simp
        refine wpAnyH_take (i := 15) (v := ?vB1_15) rfl (by kernel_rfl) (by kernel_rfl) (by kernel_rfl) (fun _ _ _ h => h) (Or.inl ⟨by rfl, ?yB1_15⟩) ⟨HN.out.c0, HN.out.c1, HK.out.c1, HK.out.c2⟩ ?rB1_15
        case yB1_15 => (intro W hSw; (try dsimp only at hSw); obtain ⟨s0, s1, s2, s3⟩ := hSw; first | (go_simp; done) | (go_simp; with_reducible rfl))
        try go_simp
        refine wpAnyH_take (i := 16) (v := ?vB1_16) rfl (by kernel_rfl) (by kernel_rfl) (by kernel_rfl) (fun _ _ _ h => h) (Or.inl ⟨by rfl, ?yB1_16⟩) ⟨HN.out.c0, HN.out.c1, HK.out.c1, HK.out.c2⟩ ?rB1_16
        case yB1_16 => (intro W hSw; (try dsimp only at hSw); obtain ⟨s0, s1, s2, s3⟩ := hSw; first | (go_simp; done) | (go_simp; with_reducible rfl))
        try go_simp
        refine wpAnyH_take (i := 17) (v := ?vB1_17) rfl (by kernel_rfl) (by kernel_rfl) (by kernel_rfl) (fun _ _ _ h => h) (Or.inl ⟨by rfl, ?yB1_17⟩) ⟨HN.out.c0, HN.out.c1, HK.out.c1, HK.out.c2⟩ ?rB1_17
        case yB1_17 => (intro W hSw; (try dsimp only at hSw); obtain ⟨s0, s1, s2, s3⟩ := hSw; first | (go_simp; done) | (go_simp; with_reducible rfl))
        try go_simp
        refine wpAnyH_take (i := 18) (v := ?vB1_18) rfl (by kernel_rfl) (by kernel_rfl) (by kernel_rfl) (fun _ _ _ h => h) (Or.inl ⟨by rfl, ?yB1_18⟩) ⟨HN.out.c0, HN.out.c1, HK.out.c1, HK.out.c2⟩ ?rB1_18
        case yB1_18 => (intro W hSw; (try dsimp only at hSw); obtain ⟨s0, s1, s2, s3⟩ := hSw; first | (go_simp; done) | (go_simp; with_reducible rfl))
        try go_simp
        refine wpAnyH_take (i := 19) (v := ?vB1_19) rfl (by kernel_rfl) (by kernel_rfl) (by kernel_rfl) (fun _ _ _ h => h) (Or.inl ⟨by rfl, ?yB1_19⟩) ⟨HN.out.c0, HN.out.c1, HK.out.c1, HK.out.c2⟩ ?rB1_19
        case yB1_19 => (intro W hSw; (try dsimp only at hSw); obtain ⟨s0, s1, s2, s3⟩ := hSw; first | (go_simp; done) | (go_simp; with_reducible rfl))
        try go_simp
        refine wpAnyH_take (i := 20) (v := ?vB1_20) rfl (by kernel_rfl) (by kernel_rfl) (by kernel_rfl) (fun _ _ _ h => h) (Or.inl ⟨by rfl, ?yB1_20⟩) ⟨HN.out.c0, HN.out.c1, HK.out.c1, HK.out.c2⟩ ?rB1_20
        case yB1_20 => (intro W hSw; (try dsimp only at hSw); obtain ⟨s0, s1, s2, s3⟩ := hSw; first | (go_simp; done) | (go_simp; with_reducible rfl))
        try go_simp
        refine wpAnyH_take (i := 21) (v := ?vB1_21) rfl (by kernel_rfl) (by kernel_rfl) (by kernel_rfl) (fun _ _ _ h => h) (Or.inl ⟨by rfl, ?yB1_21⟩) ⟨HN.out.c0, HN.out.c1, HK.out.c1, HK.out.c2⟩ ?rB1_21
        case yB1_21 => (intro W hSw; (try dsimp only at hSw); obtain ⟨s0, s1, s2, s3⟩ := hSw; first | (go_simp; done) | (go_simp; with_reducible rfl))
        try go_simp
        refine wpAnyH_take (i := 22) (v := ?vB1_22) rfl (by kernel_rfl) (by kernel_rfl) (by kernel_rfl) (fun _ _ _ h => h) (Or.inl ⟨by rfl, ?yB1_22⟩) ⟨HN.out.c0, HN.out.c1, HK.out.c1, HK.out.c2⟩ ?rB1_22
        case yB1_22 => (intro W hSw; (try dsimp only at hSw); obtain ⟨s0, s1, s2, s3⟩ := hSw; first | (go_simp; done) | (go_simp; with_reducible rfl))
        try go_simp
        refine wpAnyH_take (i := 23) (v := ?vB1_23) rfl (by kernel_rfl) (by kernel_rfl) (by kernel_rfl) (fun _ _ _ h => h) (Or.inl ⟨by rfl, ?yB1_23⟩) ⟨HN.out.c0, HN.out.c1, HK.out.c1, HK.out.c2⟩ ?rB1_23
        case yB1_23 => (intro W hSw; (try dsimp only at hSw); obtain ⟨s0, s1, s2, s3⟩ := hSw; first | (go_simp; done) | (go_simp; with_reducible rfl))
        try go_simp
        refine wpAnyH_take (i := 24) (v := ?vB1_24) rfl (by kernel_rfl) (by kernel_rfl) (by kernel_rfl) (fun _ _ _ h => h) (Or.inl ⟨by rfl, ?yB1_24⟩) ⟨HN.out.c0, HN.out.c1, HK.out.c1, HK.out.c2⟩ ?rB1_24
        case yB1_24 => (intro W hSw; (try dsimp only at hSw); obtain ⟨s0, s1, s2, s3⟩ := hSw; first | (go_simp; done) | (go_simp; with_reducible rfl))
        try go_simp
        refine wpAnyH_take (i := 25) (v := ?vB1_25) rfl (by kernel_rfl) (by kernel_rfl) (by kernel_rfl) (fun _ _ _ h => h) (Or.inl ⟨by rfl, ?yB1_25⟩) ⟨HN.out.c0, HN.out.c1, HK.out.c1, HK.out.c2⟩ ?rB1_25
        case yB1_25 => (intro W hSw; (try dsimp only at hSw); obtain ⟨s0, s1, s2, s3⟩ := hSw; first | (go_simp; done) | (go_simp; with_reducible rfl))
        try go_simp
        refine wpAnyH_take (i := 26) (v := ?vB1_26) rfl (by kernel_rfl) (by kernel_rfl) (by kernel_rfl) (fun _ _ _ h => h) (Or.inl ⟨by rfl, ?yB1_26⟩) ⟨HN.out.c0, HN.out.c1, HK.out.c1, HK.out.c2⟩ ?rB1_26
        case yB1_26 => (intro W hSw; (try dsimp only at hSw); obtain ⟨s0, s1, s2, s3⟩ := hSw; first | (go_simp; done) | (go_simp; with_reducible rfl))
        try go_simp
        refine wpAnyH_take (i := 27) (v := ?vB1_27) rfl (by kernel_rfl) (by kernel_rfl) (by kernel_rfl) (fun _ _ _ h => h) (Or.inl ⟨by rfl, ?yB1_27⟩) ⟨HN.out.c0, HN.out.c1, HK.out.c1, HK.out.c2⟩ ?rB1_27
        case yB1_27 => (intro W hSw; (try dsimp only at hSw); obtain ⟨s0, s1, s2, s3⟩ := hSw; first | (go_simp; done) | (go_simp; with_reducible rfl))
        try go_simp
        refine wpAnyH_done (by kernel_rfl) ?_ _
        go_wp2
        have HN := Lib.hid HN.out.drew
        have HK := Lib.hid HK.out.drew
        have HB := Lib.hid HB.out.drew
        have hkn : k ≠ w.heap.size := Nat.ne_of_lt hk
        refine wp_region_held (S := (fun w' => w'.cell? ⟨w.heap.size, 0, none⟩ = some (.int .i64 a) ∧ w'.cell? ⟨w.heap.size, 1, none⟩ = some (.int .i64 b) ∧ w'.cell? ⟨k, 0, none⟩ = some (.int .i64 z))) (by kernel_rfl) ?_
        change wpAnyH _ _ _ _ _ _ _ _ (World.drew _)
        refine wpAnyH_take (i := 0) (v := ?vzB_0) rfl (by kernel_rfl) (by kernel_rfl) (by kernel_rfl) (fun _ _ _ h => h) (Or.inl ⟨by rfl, ?yzB_0⟩) ⟨HN.out.c0, HN.out.c1, HK.out.c0⟩ ?rzB_0
        case yzB_0 => (intro W hSw; (try dsimp only at hSw); obtain ⟨s0, s1, s2⟩ := hSw; first | (go_simp; done) | (go_simp; with_reducible rfl))
        try go_simp
        refine wpAnyH_take (i := 1) (v := ?vzB_1) rfl (by kernel_rfl) (by kernel_rfl) (by kernel_rfl) (fun _ _ _ h => h) (Or.inl ⟨by rfl, ?yzB_1⟩) ⟨HN.out.c0, HN.out.c1, HK.out.c0⟩ ?rzB_1
        case yzB_1 => (intro W hSw; (try dsimp only at hSw); obtain ⟨s0, s1, s2⟩ := hSw; first | (go_simp; done) | (go_simp; with_reducible rfl))
        try go_simp
        refine wpAnyH_take (i := 2) (v := ?vzB_2) rfl (by kernel_rfl) (by kernel_rfl) (by kernel_rfl) (fun _ _ _ h => h) (Or.inl ⟨by rfl, ?yzB_2⟩) ⟨HN.out.c0, HN.out.c1, HK.out.c0⟩ ?rzB_2
        case yzB_2 => (intro W hSw; (try dsimp only at hSw); obtain ⟨s0, s1, s2⟩ := hSw; first | (go_simp; done) | (go_simp; with_reducible rfl))
        try go_simp
        refine wpAnyH_take (i := 3) (v := ?vzB_3) rfl (by kernel_rfl) (by kernel_rfl) (by kernel_rfl) (fun _ _ _ h => h) (Or.inl ⟨by rfl, ?yzB_3⟩) ⟨HN.out.c0, HN.out.c1, HK.out.c0⟩ ?rzB_3
        case yzB_3 => (intro W hSw; (try dsimp only at hSw); obtain ⟨s0, s1, s2⟩ := hSw; first | (go_simp; done) | (go_simp; with_reducible rfl))
        try go_simp
        refine wpAnyH_take (i := 4) (v := ?vzB_4) rfl (by kernel_rfl) (by kernel_rfl) (by kernel_rfl) (fun _ _ _ h => h) (Or.inl ⟨by rfl, ?yzB_4⟩) ⟨HN.out.c0, HN.out.c1, HK.out.c0⟩ ?rzB_4
        case yzB_4 => (intro W hSw; (try dsimp only at hSw); obtain ⟨s0, s1, s2⟩ := hSw; first | (go_simp; done) | (go_simp; with_reducible rfl))
        try go_simp
        refine wpAnyH_take (i := 5) (v := ?vzB_5) rfl (by kernel_rfl) (by kernel_rfl) (by kernel_rfl) (fun _ _ _ h => h) (Or.inl ⟨by rfl, ?yzB_5⟩) ⟨HN.out.c0, HN.out.c1, HK.out.c0⟩ ?rzB_5
        case yzB_5 => (intro W hSw; (try dsimp only at hSw); obtain ⟨s0, s1, s2⟩ := hSw; first | (go_simp; done) | (go_simp; with_reducible rfl))
        try go_simp
        refine wpAnyH_take (i := 6) (v := ?vzB_6) rfl (by kernel_rfl) (by kernel_rfl) (by kernel_rfl) (fun _ _ _ h => h) (Or.inl ⟨by rfl, ?yzB_6⟩) ⟨HN.out.c0, HN.out.c1, HK.out.c0⟩ ?rzB_6
        case yzB_6 => (intro W hSw; (try dsimp only at hSw); obtain ⟨s0, s1, s2⟩ := hSw; first | (go_simp; done) | (go_simp; with_reducible rfl))
        try go_simp
        refine wpAnyH_take (i := 7) (v := ?vzB_7) rfl (by kernel_rfl) (by kernel_rfl) (by kernel_rfl) (fun _ _ _ h => h) (Or.inl ⟨by rfl, ?yzB_7⟩) ⟨HN.out.c0, HN.out.c1, HK.out.c0⟩ ?rzB_7
        case yzB_7 => (intro W hSw; (try dsimp only at hSw); obtain ⟨s0, s1, s2⟩ := hSw; first | (go_simp; done) | (go_simp; with_reducible rfl))
        try go_simp
        refine wpAnyH_take (i := 8) (v := ?vzB_8) rfl (by kernel_rfl) (by kernel_rfl) (by kernel_rfl) (fun _ _ _ h => h) (Or.inl ⟨by rfl, ?yzB_8⟩) ⟨HN.out.c0, HN.out.c1, HK.out.c0⟩ ?rzB_8
        case yzB_8 => (intro W hSw; (try dsimp only at hSw); obtain ⟨s0, s1, s2⟩ := hSw; first | (go_simp; done) | (go_simp; with_reducible rfl))
        try go_simp
        refine wpAnyH_take (i := 9) (v := ?vzB_9) rfl (by kernel_rfl) (by kernel_rfl) (by kernel_rfl) (fun _ _ _ h => h) (Or.inl ⟨by rfl, ?yzB_9⟩) ⟨HN.out.c0, HN.out.c1, HK.out.c0⟩ ?rzB_9
        case yzB_9 => (intro W hSw; (try dsimp only at hSw); obtain ⟨s0, s1, s2⟩ := hSw; first | (go_simp; done) | (go_simp; with_reducible rfl))
        try go_simp
        refine wpAnyH_take (i := 10) (v := ?vzB_10) rfl (by kernel_rfl) (by kernel_rfl) (by kernel_rfl) (fun _ _ _ h => h) (Or.inl ⟨by rfl, ?yzB_10⟩) ⟨HN.out.c0, HN.out.c1, HK.out.c0⟩ ?rzB_10
        case yzB_10 => (intro W hSw; (try dsimp only at hSw); obtain ⟨s0, s1, s2⟩ := hSw; first | (go_simp; done) | (go_simp; with_reducible rfl))
        try go_simp
        refine wpAnyH_take (i := 11) (v := ?vzB_11) rfl (by kernel_rfl) (by kernel_rfl) (by kernel_rfl) (fun _ _ _ h => h) (Or.inl ⟨by rfl, ?yzB_11⟩) ⟨HN.out.c0, HN.out.c1, HK.out.c0⟩ ?rzB_11
        case yzB_11 => (intro W hSw; (try dsimp only at hSw); obtain ⟨s0, s1, s2⟩ := hSw; first | (go_simp; done) | (go_simp; with_reducible rfl))
        try go_simp
        refine wpAnyH_ready (rs := [12]) (by kernel_rfl) (by simp) ?_
        refine AllReadyH.cons rfl (fun K hK => ?_) AllReadyH.nil
        go_simp
        refine hK.out _ _ (let h9 := HN.out.tn (S := fun j => j = k) ((Tn.refl (fun j => j = k) _).setR (fun _ => rfl) ⟨a, b, z⟩) (Nat.ne_of_gt hk); ⟨h9.c0, h9.c1, (HK.out.setAll ⟨a, b, z⟩ rfl).c0⟩) (fun _ => ?_)
        clear hK K
        try go_simp
        refine wpAnyH_done (by kernel_rfl) ?_ _
        go_wp2
        go_ret
        exact ⟨rfl, ((Tn.of_below (S := fun j => j = k) HB.out).setR (fun _ => rfl) ⟨a, b, z⟩), HK.out.setAll ⟨a, b, z⟩ rfl⟩
      · rw [if_neg (by omega)]
        have h3' : decide (y < b) = false := decide_eq_false h3
        clear h1 h2 h3
        go_enter Tryd.func30, Tryd.ntmps30
        go_wp2_with (go_at_call 14; ((with_reducible refine (HC _).out.mono ?_); rintro e w1 ⟨rfl, hb⟩; have HK := Lib.hid (HK.out.below hb HK.out.lt); have HN := Lib.hid (HN.out.below hb HN.out.lt); have HB := Lib.hid (HB.out.trans (hb.mono HB.out.size)); clear hb))
        have k0 := HK.out.c0; have k1 := HK.out.c1; have k2 := HK.out.c2; have k3 := HK.out.c3; have g1 := HK.out.f1; have g2 := HK.out.f2; have g3 := HK.out.f3; have hk1 := HK.out.lt
        have z0 := HN.out.c0; have z1 := HN.out.c1; have z2 := HN.out.c2; have hz1 := HN.out.lt
        have HN := Lib.hid HN.out.drew
        have HK := Lib.hid HK.out.drew
        have HB := Lib.hid HB.out.drew
        refine wp_region_held (S := (fun w' => w'.cell? ⟨w.heap.size, 0, none⟩ = some (.int .i64 a) ∧ w'.cell? ⟨w.heap.size, 1, none⟩ = some (.int .i64 b) ∧ w'.cell? ⟨k, 1, none⟩ = some (.int .i64 x) ∧ w'.cell? ⟨k, 2, none⟩ = some (.int .i64 y))) (by kernel_rfl) ?_
        change wpAnyH _ _ _ _ _ _ _ _ (World.drew _)
        refine wpAnyH_take (i := 0) (v := ?vB0_0) rfl (by kernel_rfl) (by kernel_rfl) (by kernel_rfl) (fun _ _ _ h => h) (Or.inl ⟨by rfl, ?yB0_0⟩) ⟨HN.out.c0, HN.out.c1, HK.out.c1, HK.out.c2⟩ ?rB0_0
        case yB0_0 => (intro W hSw; (try dsimp only at hSw); obtain ⟨s0, s1, s2, s3⟩ := hSw; first | (go_simp; done) | (go_simp; with_reducible rfl))
        try go_simp
        refine wpAnyH_take (i := 1) (v := ?vB0_1) rfl (by kernel_rfl) (by kernel_rfl) (by kernel_rfl) (fun _ _ _ h => h) (Or.inl ⟨by rfl, ?yB0_1⟩) ⟨HN.out.c0, HN.out.c1, HK.out.c1, HK.out.c2⟩ ?rB0_1
        case yB0_1 => (intro W hSw; (try dsimp only at hSw); obtain ⟨s0, s1, s2, s3⟩ := hSw; first | (go_simp; done) | (go_simp; with_reducible rfl))
        try go_simp
        refine wpAnyH_take (i := 2) (v := ?vB0_2) rfl (by kernel_rfl) (by kernel_rfl) (by kernel_rfl) (fun _ _ _ h => h) (Or.inl ⟨by rfl, ?yB0_2⟩) ⟨HN.out.c0, HN.out.c1, HK.out.c1, HK.out.c2⟩ ?rB0_2
        case yB0_2 => (intro W hSw; (try dsimp only at hSw); obtain ⟨s0, s1, s2, s3⟩ := hSw; first | (go_simp; done) | (go_simp; with_reducible rfl))
        try go_simp
        refine wpAnyH_take (i := 3) (v := ?vB0_3) rfl (by kernel_rfl) (by kernel_rfl) (by kernel_rfl) (fun _ _ _ h => h) (Or.inl ⟨by rfl, ?yB0_3⟩) ⟨HN.out.c0, HN.out.c1, HK.out.c1, HK.out.c2⟩ ?rB0_3
        case yB0_3 => (intro W hSw; (try dsimp only at hSw); obtain ⟨s0, s1, s2, s3⟩ := hSw; first | (go_simp; done) | (go_simp; with_reducible rfl))
        try go_simp
        refine wpAnyH_take (i := 4) (v := ?vB0_4) rfl (by kernel_rfl) (by kernel_rfl) (by kernel_rfl) (fun _ _ _ h => h) (Or.inl ⟨by rfl, ?yB0_4⟩) ⟨HN.out.c0, HN.out.c1, HK.out.c1, HK.out.c2⟩ ?rB0_4
        case yB0_4 => (intro W hSw; (try dsimp only at hSw); obtain ⟨s0, s1, s2, s3⟩ := hSw; first | (go_simp; done) | (go_simp; with_reducible rfl))
        try go_simp
        refine wpAnyH_take (i := 5) (v := ?vB0_5) rfl (by kernel_rfl) (by kernel_rfl) (by kernel_rfl) (fun _ _ _ h => h) (Or.inl ⟨by rfl, ?yB0_5⟩) ⟨HN.out.c0, HN.out.c1, HK.out.c1, HK.out.c2⟩ ?rB0_5
        case yB0_5 => (intro W hSw; (try dsimp only at hSw); obtain ⟨s0, s1, s2, s3⟩ := hSw; first | (go_simp; done) | (go_simp; with_reducible rfl))
        try go_simp
        refine wpAnyH_take (i := 6) (v := ?vB0_6) rfl (by kernel_rfl) (by kernel_rfl) (by kernel_rfl) (fun _ _ _ h => h) (Or.inl ⟨by rfl, ?yB0_6⟩) ⟨HN.out.c0, HN.out.c1, HK.out.c1, HK.out.c2⟩ ?rB0_6
        case yB0_6 => (intro W hSw; (try dsimp only at hSw); obtain ⟨s0, s1, s2, s3⟩ := hSw; first | (go_simp; done) | (go_simp; with_reducible rfl))
        try go_simp
        refine wpAnyH_take (i := 7) (v := ?vB0_7) rfl (by kernel_rfl) (by kernel_rfl) (by kernel_rfl) (fun _ _ _ h => h) (Or.inl ⟨by rfl, ?yB0_7⟩) ⟨HN.out.c0, HN.out.c1, HK.out.c1, HK.out.c2⟩ ?rB0_7
        case yB0_7 => (intro W hSw; (try dsimp only at hSw); obtain ⟨s0, s1, s2, s3⟩ := hSw; first | (go_simp; done) | (go_simp; with_reducible rfl))
        try go_simp
        refine wpAnyH_take (i := 8) (v := ?vB0_8) rfl (by kernel_rfl) (by kernel_rfl) (by kernel_rfl) (fun _ _ _ h => h) (Or.inl ⟨by rfl, ?yB0_8⟩) ⟨HN.out.c0, HN.out.c1, HK.out.c1, HK.out.c2⟩ ?rB0_8
        case yB0_8 => (intro W hSw; (try dsimp only at hSw); obtain ⟨s0, s1, s2, s3⟩ := hSw; first | (go_simp; done) | (go_simp; with_reducible rfl))
        try go_simp
        refine wpAnyH_take (i := 9) (v := ?vB0_9) rfl (by kernel_rfl) (by kernel_rfl) (by kernel_rfl) (fun _ _ _ h => h) (Or.inl ⟨by rfl, ?yB0_9⟩) ⟨HN.out.c0, HN.out.c1, HK.out.c1, HK.out.c2⟩ ?rB0_9
        case yB0_9 => (intro W hSw; (try dsimp only at hSw); obtain ⟨s0, s1, s2, s3⟩ := hSw; first | (go_simp; done) | (go_simp; with_reducible rfl))
        try go_simp
        refine wpAnyH_take (i := 10) (v := ?vB0_10) rfl (by kernel_rfl) (by kernel_rfl) (by kernel_rfl) (fun _ _ _ h => h) (Or.inl ⟨by rfl, ?yB0_10⟩) ⟨HN.out.c0, HN.out.c1, HK.out.c1, HK.out.c2⟩ ?rB0_10
        case yB0_10 => (intro W hSw; (try dsimp only at hSw); obtain ⟨s0, s1, s2, s3⟩ := hSw; first | (go_simp; done) | (go_simp; with_reducible rfl))
        try go_simp
        refine wpAnyH_take (i := 11) (v := ?vB0_11) rfl (by kernel_rfl) (by kernel_rfl) (by kernel_rfl) (fun _ _ _ h => h) (Or.inl ⟨by rfl, ?yB0_11⟩) ⟨HN.out.c0, HN.out.c1, HK.out.c1, HK.out.c2⟩ ?rB0_11
        case yB0_11 => (intro W hSw; (try dsimp only at hSw); obtain ⟨s0, s1, s2, s3⟩ := hSw; first | (go_simp; done) | (go_simp; with_reducible rfl))
        try go_simp
        refine wpAnyH_take (i := 12) (v := ?vB0_12) rfl (by kernel_rfl) (by kernel_rfl) (by kernel_rfl) (fun _ _ _ h => h) (Or.inl ⟨by rfl, ?yB0_12⟩) ⟨HN.out.c0, HN.out.c1, HK.out.c1, HK.out.c2⟩ ?rB0_12
        case yB0_12 => (intro W hSw; (try dsimp only at hSw); obtain ⟨s0, s1, s2, s3⟩ := hSw; first | (go_simp; done) | (go_simp; with_reducible rfl))
        try go_simp
        refine wpAnyH_take (i := 13) (v := ?vB0_13) rfl (by kernel_rfl) (by kernel_rfl) (by kernel_rfl) (fun _ _ _ h => h) (Or.inl ⟨by rfl, ?yB0_13⟩) ⟨HN.out.c0, HN.out.c1, HK.out.c1, HK.out.c2⟩ ?rB0_13
        case yB0_13 => (intro W hSw; (try dsimp only at hSw); obtain ⟨s0, s1, s2, s3⟩ := hSw; first | (go_simp; done) | (go_simp; with_reducible rfl))
        try go_simp
        refine wpAnyH_take (i := 14) (v := ?vB0_14) rfl (by kernel_rfl) (by kernel_rfl) (by kernel_rfl) (fun _ _ _ h => h) (Or.inl ⟨by rfl, ?yB0_14⟩) ⟨HN.out.c0, HN.out.c1, HK.out.c1, HK.out.c2⟩ ?rB0_14
        case yB0_14 => (intro W hSw; (try dsimp only at hSw); obtain ⟨s0, s1, s2, s3⟩ := hSw; first | (go_simp; done) | (go_simp; with_reducible rfl))
        try go_simp
        refine wpAnyH_take (i := 15) (v := ?vB0_15) rfl (by kernel_rfl) (by kernel_rfl) (by kernel_rfl) (fun _ _ _ h => h) (Or.inl ⟨by rfl, ?yB0_15⟩) ⟨HN.out.c0, HN.out.c1, HK.out.c1, HK.out.c2⟩ ?rB0_15
        case yB0_15 => (intro W hSw; (try dsimp only at hSw); obtain ⟨s0, s1, s2, s3⟩ := hSw; first | (go_simp; done) | (go_simp; with_reducible rfl))
        try go_simp
        refine wpAnyH_take (i := 16) (v := ?vB0_16) rfl (by kernel_rfl) (by kernel_rfl) (by kernel_rfl) (fun _ _ _ h => h) (Or.inl ⟨by rfl, ?yB0_16⟩) ⟨HN.out.c0, HN.out.c1, HK.out.c1, HK.out.c2⟩ ?rB0_16
        case yB0_16 => (intro W hSw; (try dsimp only at hSw); obtain ⟨s0, s1, s2, s3⟩ := hSw; first | (go_simp; done) | (go_simp; with_reducible rfl))
        try go_simp
        refine wpAnyH_take (i := 17) (v := ?vB0_17) rfl (by kernel_rfl) (by kernel_rfl) (by kernel_rfl) (fun _ _ _ h => h) (Or.inl ⟨by rfl, ?yB0_17⟩) ⟨HN.out.c0, HN.out.c1, HK.out.c1, HK.out.c2⟩ ?rB0_17
        case yB0_17 => (intro W hSw; (try dsimp only at hSw); obtain ⟨s0, s1, s2, s3⟩ := hSw; first | (go_simp; done) | (go_simp; with_reducible rfl))
        try go_simp
        refine wpAnyH_take (i := 18) (v := ?vB0_18) rfl (by kernel_rfl) (by kernel_rfl) (by kernel_rfl) (fun _ _ _ h => h) (Or.inl ⟨by rfl, ?yB0_18⟩) ⟨HN.out.c0, HN.out.c1, HK.out.c1, HK.out.c2⟩ ?rB0_18
        case yB0_18 => (intro W hSw; (try dsimp only at hSw); obtain ⟨s0, s1, s2, s3⟩ := hSw; first | (go_simp; done) | (go_simp; with_reducible rfl))
        try go_simp
        refine wpAnyH_take (i := 19) (v := ?vB0_19) rfl (by kernel_rfl) (by kernel_rfl) (by kernel_rfl) (fun _ _ _ h => h) (Or.inl ⟨by rfl, ?yB0_19⟩) ⟨HN.out.c0, HN.out.c1, HK.out.c1, HK.out.c2⟩ ?rB0_19
        case yB0_19 => (intro W hSw; (try dsimp only at hSw); obtain ⟨s0, s1, s2, s3⟩ := hSw; first | (go_simp; done) | (go_simp; with_reducible rfl))
        try go_simp
        refine wpAnyH_take (i := 20) (v := ?vB0_20) rfl (by kernel_rfl) (by kernel_rfl) (by kernel_rfl) (fun _ _ _ h => h) (Or.inl ⟨by rfl, ?yB0_20⟩) ⟨HN.out.c0, HN.out.c1, HK.out.c1, HK.out.c2⟩ ?rB0_20
        case yB0_20 => (intro W hSw; (try dsimp only at hSw); obtain ⟨s0, s1, s2, s3⟩ := hSw; first | (go_simp; done) | (go_simp; with_reducible rfl))
        try go_simp
        refine wpAnyH_take (i := 21) (v := ?vB0_21) rfl (by kernel_rfl) (by kernel_rfl) (by kernel_rfl) (fun _ _ _ h => h) (Or.inl ⟨by rfl, ?yB0_21⟩) ⟨HN.out.c0, HN.out.c1, HK.out.c1, HK.out.c2⟩ ?rB0_21
        case yB0_21 => (intro W hSw; (try dsimp only at hSw); obtain ⟨s0, s1, s2, s3⟩ := hSw; first | (go_simp; done) | (go_simp; with_reducible rfl))
        try go_simp
        refine wpAnyH_take (i := 22) (v := ?vB0_22) rfl (by kernel_rfl) (by kernel_rfl) (by kernel_rfl) (fun _ _ _ h => h) (Or.inl ⟨by rfl, ?yB0_22⟩) ⟨HN.out.c0, HN.out.c1, HK.out.c1, HK.out.c2⟩ ?rB0_22
        case yB0_22 => (intro W hSw; (try dsimp only at hSw); obtain ⟨s0, s1, s2, s3⟩ := hSw; first | (go_simp; done) | (go_simp; with_reducible rfl))
        try go_simp
        refine wpAnyH_take (i := 23) (v := ?vB0_23) rfl (by kernel_rfl) (by kernel_rfl) (by kernel_rfl) (fun _ _ _ h => h) (Or.inl ⟨by rfl, ?yB0_23⟩) ⟨HN.out.c0, HN.out.c1, HK.out.c1, HK.out.c2⟩ ?rB0_23
        case yB0_23 => (intro W hSw; (try dsimp only at hSw); obtain ⟨s0, s1, s2, s3⟩ := hSw; first | (go_simp; done) | (go_simp; with_reducible rfl))
        try go_simp
        refine wpAnyH_take (i := 24) (v := ?vB0_24) rfl (by kernel_rfl) (by kernel_rfl) (by kernel_rfl) (fun _ _ _ h => h) (Or.inl ⟨by rfl, ?yB0_24⟩) ⟨HN.out.c0, HN.out.c1, HK.out.c1, HK.out.c2⟩ ?rB0_24
        case yB0_24 => (intro W hSw; (try dsimp only at hSw); obtain ⟨s0, s1, s2, s3⟩ := hSw; first | (go_simp; done) | (go_simp; with_reducible rfl))
        try go_simp
        refine wpAnyH_take (i := 25) (v := ?vB0_25) rfl (by kernel_rfl) (by kernel_rfl) (by kernel_rfl) (fun _ _ _ h => h) (Or.inl ⟨by rfl, ?yB0_25⟩) ⟨HN.out.c0, HN.out.c1, HK.out.c1, HK.out.c2⟩ ?rB0_25
        case yB0_25 => (intro W hSw; (try dsimp only at hSw); obtain ⟨s0, s1, s2, s3⟩ := hSw; first | (go_simp; done) | (go_simp; with_reducible rfl))
        try go_simp
        refine wpAnyH_take (i := 26) (v := ?vB0_26) rfl (by kernel_rfl) (by kernel_rfl) (by kernel_rfl) (fun _ _ _ h => h) (Or.inl ⟨by rfl, ?yB0_26⟩) ⟨HN.out.c0, HN.out.c1, HK.out.c1, HK.out.c2⟩ ?rB0_26
        case yB0_26 => (intro W hSw; (try dsimp only at hSw); obtain ⟨s0, s1, s2, s3⟩ := hSw; first | (go_simp; done) | (go_simp; with_reducible rfl))
        try go_simp
        refine wpAnyH_take (i := 27) (v := ?vB0_27) rfl (by kernel_rfl) (by kernel_rfl) (by kernel_rfl) (fun _ _ _ h => h) (Or.inl ⟨by rfl, ?yB0_27⟩) ⟨HN.out.c0, HN.out.c1, HK.out.c1, HK.out.c2⟩ ?rB0_27
        case yB0_27 => (intro W hSw; (try dsimp only at hSw); obtain ⟨s0, s1, s2, s3⟩ := hSw; first | (go_simp; done) | (go_simp; with_reducible rfl))
        try go_simp
        refine wpAnyH_done (by kernel_rfl) ?_ _
        go_wp2
        go_ret
        exact ⟨rfl, Tn.of_below HB.out, HK.out⟩
    · have h2' : (a == x) = false := by simpa using h2
      rw [if_neg (by omega)]
      clear h1 h2
      go_enter Tryd.func30, Tryd.ntmps30
      go_wp2_with (go_at_call 14; ((with_reducible refine (HC _).out.mono ?_); rintro e w1 ⟨rfl, hb⟩; have HK := Lib.hid (HK.out.below hb HK.out.lt); have HN := Lib.hid (HN.out.below hb HN.out.lt); have HB := Lib.hid (HB.out.trans (hb.mono HB.out.size)); clear hb))
      have k0 := HK.out.c0; have k1 := HK.out.c1; have k2 := HK.out.c2; have k3 := HK.out.c3; have g1 := HK.out.f1; have g2 := HK.out.f2; have g3 := HK.out.f3; have hk1 := HK.out.lt
      have z0 := HN.out.c0; have z1 := HN.out.c1; have z2 := HN.out.c2; have hz1 := HN.out.lt
      have HN := Lib.hid HN.out.drew
      have HK := Lib.hid HK.out.drew
      have HB := Lib.hid HB.out.drew
      refine wp_region_held (S := (fun w' => w'.cell? ⟨w.heap.size, 0, none⟩ = some (.int .i64 a) ∧ w'.cell? ⟨w.heap.size, 1, none⟩ = some (.int .i64 b) ∧ w'.cell? ⟨k, 1, none⟩ = some (.int .i64 x) ∧ w'.cell? ⟨k, 2, none⟩ = some (.int .i64 y))) (by kernel_rfl) ?_
      change wpAnyH _ _ _ _ _ _ _ _ (World.drew _)
      refine wpAnyH_take (i := 0) (v := ?vD0_0) rfl (by kernel_rfl) (by kernel_rfl) (by kernel_rfl) (fun _ _ _ h => h) (Or.inl ⟨by rfl, ?yD0_0⟩) ⟨HN.out.c0, HN.out.c1, HK.out.c1, HK.out.c2⟩ ?rD0_0
      case yD0_0 => (intro W hSw; (try dsimp only at hSw); obtain ⟨s0, s1, s2, s3⟩ := hSw; first | (go_simp; done) | (go_simp; with_reducible rfl))
      try go_simp
      refine wpAnyH_take (i := 1) (v := ?vD0_1) rfl (by kernel_rfl) (by kernel_rfl) (by kernel_rfl) (fun _ _ _ h => h) (Or.inl ⟨by rfl, ?yD0_1⟩) ⟨HN.out.c0, HN.out.c1, HK.out.c1, HK.out.c2⟩ ?rD0_1
      case yD0_1 => (intro W hSw; (try dsimp only at hSw); obtain ⟨s0, s1, s2, s3⟩ := hSw; first | (go_simp; done) | (go_simp; with_reducible rfl))
      try go_simp
      refine wpAnyH_take (i := 2) (v := ?vD0_2) rfl (by kernel_rfl) (by kernel_rfl) (by kernel_rfl) (fun _ _ _ h => h) (Or.inl ⟨by rfl, ?yD0_2⟩) ⟨HN.out.c0, HN.out.c1, HK.out.c1, HK.out.c2⟩ ?rD0_2
      case yD0_2 => (intro W hSw; (try dsimp only at hSw); obtain ⟨s0, s1, s2, s3⟩ := hSw; first | (go_simp; done) | (go_simp; with_reducible rfl))
      try go_simp
      refine wpAnyH_take (i := 3) (v := ?vD0_3) rfl (by kernel_rfl) (by kernel_rfl) (by kernel_rfl) (fun _ _ _ h => h) (Or.inl ⟨by rfl, ?yD0_3⟩) ⟨HN.out.c0, HN.out.c1, HK.out.c1, HK.out.c2⟩ ?rD0_3
      case yD0_3 => (intro W hSw; (try dsimp only at hSw); obtain ⟨s0, s1, s2, s3⟩ := hSw; first | (go_simp; done) | (go_simp; with_reducible rfl))
      try go_simp
      refine wpAnyH_take (i := 4) (v := ?vD0_4) rfl (by kernel_rfl) (by kernel_rfl) (by kernel_rfl) (fun _ _ _ h => h) (Or.inl ⟨by rfl, ?yD0_4⟩) ⟨HN.out.c0, HN.out.c1, HK.out.c1, HK.out.c2⟩ ?rD0_4
      case yD0_4 => (intro W hSw; (try dsimp only at hSw); obtain ⟨s0, s1, s2, s3⟩ := hSw; first | (go_simp; done) | (go_simp; with_reducible rfl))
      try go_simp
      refine wpAnyH_take (i := 5) (v := ?vD0_5) rfl (by kernel_rfl) (by kernel_rfl) (by kernel_rfl) (fun _ _ _ h => h) (Or.inl ⟨by rfl, ?yD0_5⟩) ⟨HN.out.c0, HN.out.c1, HK.out.c1, HK.out.c2⟩ ?rD0_5
      case yD0_5 => (intro W hSw; (try dsimp only at hSw); obtain ⟨s0, s1, s2, s3⟩ := hSw; first | (go_simp; done) | (go_simp; with_reducible rfl))
      try go_simp
      refine wpAnyH_take (i := 6) (v := ?vD0_6) rfl (by kernel_rfl) (by kernel_rfl) (by kernel_rfl) (fun _ _ _ h => h) (Or.inl ⟨by rfl, ?yD0_6⟩) ⟨HN.out.c0, HN.out.c1, HK.out.c1, HK.out.c2⟩ ?rD0_6
      case yD0_6 => (intro W hSw; (try dsimp only at hSw); obtain ⟨s0, s1, s2, s3⟩ := hSw; first | (go_simp; done) | (go_simp; with_reducible rfl))
      try go_simp
      refine wpAnyH_take (i := 7) (v := ?vD0_7) rfl (by kernel_rfl) (by kernel_rfl) (by kernel_rfl) (fun _ _ _ h => h) (Or.inl ⟨by rfl, ?yD0_7⟩) ⟨HN.out.c0, HN.out.c1, HK.out.c1, HK.out.c2⟩ ?rD0_7
      case yD0_7 => (intro W hSw; (try dsimp only at hSw); obtain ⟨s0, s1, s2, s3⟩ := hSw; first | (go_simp; done) | (go_simp; with_reducible rfl))
      try go_simp
      refine wpAnyH_take (i := 8) (v := ?vD0_8) rfl (by kernel_rfl) (by kernel_rfl) (by kernel_rfl) (fun _ _ _ h => h) (Or.inl ⟨by rfl, ?yD0_8⟩) ⟨HN.out.c0, HN.out.c1, HK.out.c1, HK.out.c2⟩ ?rD0_8
      case yD0_8 => (intro W hSw; (try dsimp only at hSw); obtain ⟨s0, s1, s2, s3⟩ := hSw; first | (go_simp; done) | (go_simp; with_reducible rfl))
      try go_simp
      refine wpAnyH_take (i := 9) (v := ?vD0_9) rfl (by kernel_rfl) (by kernel_rfl) (by kernel_rfl) (fun _ _ _ h => h) (Or.inl ⟨by rfl, ?yD0_9⟩) ⟨HN.out.c0, HN.out.c1, HK.out.c1, HK.out.c2⟩ ?rD0_9
      case yD0_9 => (intro W hSw; (try dsimp only at hSw); obtain ⟨s0, s1, s2, s3⟩ := hSw; first | (go_simp; done) | (go_simp; with_reducible rfl))
      try go_simp
      refine wpAnyH_take (i := 10) (v := ?vD0_10) rfl (by kernel_rfl) (by kernel_rfl) (by kernel_rfl) (fun _ _ _ h => h) (Or.inl ⟨by rfl, ?yD0_10⟩) ⟨HN.out.c0, HN.out.c1, HK.out.c1, HK.out.c2⟩ ?rD0_10
      case yD0_10 => (intro W hSw; (try dsimp only at hSw); obtain ⟨s0, s1, s2, s3⟩ := hSw; first | (go_simp; done) | (go_simp; with_reducible rfl))
      try go_simp
      refine wpAnyH_take (i := 11) (v := ?vD0_11) rfl (by kernel_rfl) (by kernel_rfl) (by kernel_rfl) (fun _ _ _ h => h) (Or.inl ⟨by rfl, ?yD0_11⟩) ⟨HN.out.c0, HN.out.c1, HK.out.c1, HK.out.c2⟩ ?rD0_11
      case yD0_11 => (intro W hSw; (try dsimp only at hSw); obtain ⟨s0, s1, s2, s3⟩ := hSw; first | (go_simp; done) | (go_simp; with_reducible rfl))
      try go_simp
      refine wpAnyH_take (i := 12) (v := ?vD0_12) rfl (by kernel_rfl) (by kernel_rfl) (by kernel_rfl) (fun _ _ _ h => h) (Or.inl ⟨by rfl, ?yD0_12⟩) ⟨HN.out.c0, HN.out.c1, HK.out.c1, HK.out.c2⟩ ?rD0_12
      case yD0_12 => (intro W hSw; (try dsimp only at hSw); obtain ⟨s0, s1, s2, s3⟩ := hSw; first | (go_simp; done) | (go_simp; with_reducible rfl))
      try go_simp
      refine wpAnyH_take (i := 13) (v := ?vD0_13) rfl (by kernel_rfl) (by kernel_rfl) (by kernel_rfl) (fun _ _ _ h => h) (Or.inl ⟨by rfl, ?yD0_13⟩) ⟨HN.out.c0, HN.out.c1, HK.out.c1, HK.out.c2⟩ ?rD0_13
      case yD0_13 => (intro W hSw; (try dsimp only at hSw); obtain ⟨s0, s1, s2, s3⟩ := hSw; first | (go_simp; done) | (go_simp; with_reducible rfl))
      try go_simp
      refine wpAnyH_take (i := 14) (v := ?vD0_14) rfl (by kernel_rfl) (by kernel_rfl) (by kernel_rfl) (fun _ _ _ h => h) (Or.inl ⟨by rfl, ?yD0_14⟩) ⟨HN.out.c0, HN.out.c1, HK.out.c1, HK.out.c2⟩ ?rD0_14
      case yD0_14 => (intro W hSw; (try dsimp only at hSw); obtain ⟨s0, s1, s2, s3⟩ := hSw; first | (go_simp; done) | (go_simp; with_reducible rfl))
      try go_simp
      refine wpAnyH_take (i := 15) (v := ?vD0_15) rfl (by kernel_rfl) (by kernel_rfl) (by kernel_rfl) (fun _ _ _ h => h) (Or.inl ⟨by rfl, ?yD0_15⟩) ⟨HN.out.c0, HN.out.c1, HK.out.c1, HK.out.c2⟩ ?rD0_15
      case yD0_15 => (intro W hSw; (try dsimp only at hSw); obtain ⟨s0, s1, s2, s3⟩ := hSw; first | (go_simp; done) | (go_simp; with_reducible rfl))
      try go_simp
      refine wpAnyH_take (i := 16) (v := ?vD0_16) rfl (by kernel_rfl) (by kernel_rfl) (by kernel_rfl) (fun _ _ _ h => h) (Or.inl ⟨by rfl, ?yD0_16⟩) ⟨HN.out.c0, HN.out.c1, HK.out.c1, HK.out.c2⟩ ?rD0_16
      case yD0_16 => (intro W hSw; (try dsimp only at hSw); obtain ⟨s0, s1, s2, s3⟩ := hSw; first | (go_simp; done) | (go_simp; with_reducible rfl))
      try go_simp
      refine wpAnyH_take (i := 17) (v := ?vD0_17) rfl (by kernel_rfl) (by kernel_rfl) (by kernel_rfl) (fun _ _ _ h => h) (Or.inl ⟨by rfl, ?yD0_17⟩) ⟨HN.out.c0, HN.out.c1, HK.out.c1, HK.out.c2⟩ ?rD0_17
      case yD0_17 => (intro W hSw; (try dsimp only at hSw); obtain ⟨s0, s1, s2, s3⟩ := hSw; first | (go_simp; done) | (go_simp; with_reducible rfl))
      try go_simp
      refine wpAnyH_take (i := 18) (v := undef) rfl (by kernel_rfl) (by kernel_rfl) (by kernel_rfl) (fun _ _ _ h => h) (Or.inr ⟨by rfl, rfl⟩) ⟨HN.out.c0, HN.out.c1, HK.out.c1, HK.out.c2⟩ ?rD0_18
      try go_simp
      refine wpAnyH_take (i := 19) (v := undef) rfl (by kernel_rfl) (by kernel_rfl) (by kernel_rfl) (fun _ _ _ h => h) (Or.inr ⟨by rfl, rfl⟩) ⟨HN.out.c0, HN.out.c1, HK.out.c1, HK.out.c2⟩ ?rD0_19
      try go_simp
      refine wpAnyH_take (i := 20) (v := undef) rfl (by kernel_rfl) (by kernel_rfl) (by kernel_rfl) (fun _ _ _ h => h) (Or.inr ⟨by rfl, rfl⟩) ⟨HN.out.c0, HN.out.c1, HK.out.c1, HK.out.c2⟩ ?rD0_20
      try go_simp
      refine wpAnyH_take (i := 21) (v := undef) rfl (by kernel_rfl) (by kernel_rfl) (by kernel_rfl) (fun _ _ _ h => h) (Or.inr ⟨by rfl, rfl⟩) ⟨HN.out.c0, HN.out.c1, HK.out.c1, HK.out.c2⟩ ?rD0_21
      try go_simp
      refine wpAnyH_take (i := 22) (v := undef) rfl (by kernel_rfl) (by kernel_rfl) (by kernel_rfl) (fun _ _ _ h => h) (Or.inr ⟨by rfl, rfl⟩) ⟨HN.out.c0, HN.out.c1, HK.out.c1, HK.out.c2⟩ ?rD0_22
      try go_simp
      refine wpAnyH_take (i := 23) (v := undef) rfl (by kernel_rfl) (by kernel_rfl) (by kernel_rfl) (fun _ _ _ h => h) (Or.inr ⟨by rfl, rfl⟩) ⟨HN.out.c0, HN.out.c1, HK.out.c1, HK.out.c2⟩ ?rD0_23
      try go_simp
      refine wpAnyH_take (i := 24) (v := undef) rfl (by kernel_rfl) (by kernel_rfl) (by kernel_rfl) (fun _ _ _ h => h) (Or.inr ⟨by rfl, rfl⟩) ⟨HN.out.c0, HN.out.c1, HK.out.c1, HK.out.c2⟩ ?rD0_24
      try go_simp
      refine wpAnyH_take (i := 25) (v := undef) rfl (by kernel_rfl) (by kernel_rfl) (by kernel_rfl) (fun _ _ _ h => h) (Or.inr ⟨by rfl, rfl⟩) ⟨HN.out.c0, HN.out.c1, HK.out.c1, HK.out.c2⟩ ?rD0_25
      try go_simp
      refine wpAnyH_take (i := 26) (v := ?vD0_26) rfl (by kernel_rfl) (by kernel_rfl) (by kernel_rfl) (fun _ _ _ h => h) (Or.inl ⟨by rfl, ?yD0_26⟩) ⟨HN.out.c0, HN.out.c1, HK.out.c1, HK.out.c2⟩ ?rD0_26
      case yD0_26 => (intro W hSw; (try dsimp only at hSw); obtain ⟨s0, s1, s2, s3⟩ := hSw; first | (go_simp; done) | (go_simp; with_reducible rfl))
      try go_simp
      refine wpAnyH_take (i := 27) (v := ?vD0_27) rfl (by kernel_rfl) (by kernel_rfl) (by kernel_rfl) (fun _ _ _ h => h) (Or.inl ⟨by rfl, ?yD0_27⟩) ⟨HN.out.c0, HN.out.c1, HK.out.c1, HK.out.c2⟩ ?rD0_27
      case yD0_27 => (intro W hSw; (try dsimp only at hSw); obtain ⟨s0, s1, s2, s3⟩ := hSw; first | (go_simp; done) | (go_simp; with_reducible rfl))
      try go_simp
      refine wpAnyH_done (by kernel_rfl) ?_ _
      go_wp2
      go_ret
      exact ⟨rfl, Tn.of_below HB.out, HK.out⟩
end Go.Proofs.YtmpokhjchbaleaaDoor
