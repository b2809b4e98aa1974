/- Clocks: hlc.Peek, Last, New. Conditions: clocks whose stamps may be. -/
import Derived.Test.YtmpokhjchbaleaaDoorC
namespace Go.Proofs.YtmpokhjchbaleaaDoor
open Go.RowKit
/-- Nothing has turned but blocks of S and new ones. -/
structure Tn (S : Nat → Prop) (w w' : World) : Prop where
  os : w'.os = w.os
  tape : w'.tape = w.tape
  output : w'.output = w.output
  size : w.heap.size ≤ w'.heap.size
  block : ∀ k, k < w.heap.size → ¬ S k → w'.heap[k]? = w.heap[k]?
section
variable {S U : Nat → Prop} {B : Nat} {w w' w1 w2 : World}
theorem Tn.refl (S : Nat → Prop) (w : World) : Tn S w w := ⟨rfl, rfl, rfl, Nat.le_refl _, fun _ _ _ => rfl⟩
theorem Tn.trans (h : Tn S w w1) (h2 : Tn U w1 w2) (hu : ∀ k, k < w.heap.size → U k → S k) : Tn S w w2 :=
  ⟨h2.os.trans h.os, h2.tape.trans h.tape, h2.output.trans h.output, Nat.le_trans h.size h2.size, fun k hk hs =>
    (h2.block k (Nat.lt_of_lt_of_le hk h.size) (fun hU => hs (hu k hk hU))).trans (h.block k hk hs)⟩
theorem Tn.of_below (h : Below w.heap.size w w') : Tn S w w' := ⟨h.os, h.tape, h.output, h.size, fun k hk _ => h.block k hk⟩
theorem Tn.alloc (h : Tn S w w1) (o : Obj) : Tn S w (w1.alloc o) := h.trans (U := fun _ => False) (Tn.of_below ((Below.refl _ _).alloc (Nat.le_refl _) o)) (fun _ _ h => h.elim)
theorem Tn.setCell (h : Tn S w w1) {p : Addr} (hp : p.block < w.heap.size → S p.block) (u : Value) : Tn S w (w1.setCell p u) :=
  h.trans (U := fun k => k = p.block) ⟨rfl, rfl, rfl, by simp [World.setCell], fun k _ hk => Below.heap_setCell _ _ _ _ hk⟩ (fun k hk e => by subst e; exact hp hk)
theorem Tn.below (h : Tn S w w') (hB : B ≤ w.heap.size) (hs : ∀ k, S k → B ≤ k) : Below B w w' :=
  ⟨h.os, h.tape, h.output, h.size, fun k hk => h.block k (by omega) (fun e => by have := hs k e; omega)⟩
theorem Tn.cell (h : Tn S w w') {p : Addr} {v : Value} (hc : w.cell? p = some v) (hp : ¬ S p.block) : w'.cell? p = some v :=
  (World.cell?_of_block (h.block p.block (World.block_lt_of_cell? w p hc) hp)).trans hc
theorem Tn.set3 (h : Tn S w w1) {b : Nat} (hp : b < w.heap.size → S b) (u : St) : Tn S w (setS w1 b u) :=
  ((h.setCell (p := ⟨b, 0, none⟩) hp _).setCell (p := ⟨b, 1, none⟩) hp _).setCell (p := ⟨b, 2, none⟩) hp _
theorem Tn.frozen (h : Tn S w w') {b o : Nat} (hb : b < w.heap.size) (hp : ¬ S b) : w'.frozen? ⟨b, o, none⟩ = w.frozen? ⟨b, o, none⟩ := by
  have hh := h.block b hb hp
  unfold World.frozen?
  rw [hh]
theorem At.tn {b : Nat} {r : St} (h : At w b r) (ht : Tn S w w') (hn : ¬ S b) : At w' b r :=
  ⟨Nat.lt_of_lt_of_le h.lt ht.size, ht.cell h.c0 hn, ht.cell h.c1 hn, ht.cell h.c2 hn, (ht.frozen h.lt hn).trans h.f0, (ht.frozen h.lt hn).trans h.f1, (ht.frozen h.lt hn).trans h.f2⟩
end
theorem at_newT (T : Nat) (w : World) (r : St) {n : Nat} (hn : n = w.heap.size := by simp) : At (w.alloc (.cells #[.int .i64 r.w, .int .i64 r.l, .int .i64 r.n] T)) n r := by
  subst hn
  exact ⟨by simp, by simp [World.cell?_alloc_new], by simp [World.cell?_alloc_new], by simp [World.cell?_alloc_new], World.frozen?_alloc_new _ _ _ _, World.frozen?_alloc_new _ _ _ _, World.frozen?_alloc_new _ _ _ _⟩
def peekS (s : St) (p : Int) : St × Int :=
  if 281474976710656 < p then (St.zero, 15) else if s.w < p then (⟨p, 0, s.n⟩, 0) else if s.l = 65535 then (St.zero, 16) else (⟨s.w, s.l + 1, s.n⟩, 0)
abbrev ptr (k : Nat) : Value := .pointer (some ⟨k, 0, none⟩)
set_option maxRecDepth 100000 in
theorem peek_any (w : World) (k : Nat) (s : St) (hA : At w k s) (hs : mayS s = true) (p : Int) : Calls Tryd.prog 27 #[ptr k, .int .i64 p] w fun e w' => e = .returned (.tuple #[sagg (peekS s p).1, .int .i64 (peekS s p).2]) ∧ Below w.heap.size w w' := by
  obtain ⟨a, b, c⟩ := s
  have hr := (mayS_iff.1 hs).2.1
  simp only at hr
  have hw : IntKind.i64.wrap (b + 1) = b + 1 := by rw [wrap_in (by omega)]
  have hk := hA.lt
  have c0 := hA.c0
  have c1 := hA.c1
  have c2 := hA.c2
  clear hA hs
  by_cases h1 : 281474976710656 < p
  · have e : peekS ⟨a, b, c⟩ p = (St.zero, 15) := by unfold peekS; rw [if_pos h1]
    rw [e]
    clear hr e
    go_enter Tryd.func27, Tryd.ntmps27
    go_wp2
    exact bodyPost_ret (res_two rfl _ rfl (at_new w St.zero)) rfl ⟨rfl, below1 w _⟩
  by_cases h2 : a < p
  · have e : peekS ⟨a, b, c⟩ p = (⟨p, 0, c⟩, 0) := by unfold peekS; rw [if_neg h1, if_pos h2]
    rw [e]
    clear hr e
    go_enter Tryd.func27, Tryd.ntmps27
    go_wp2
    exact bodyPost_ret (res_two rfl _ rfl (at_two w ⟨p, 0, c⟩ ⟨p, 0, c⟩).1) rfl ⟨rfl, below2 w _ _⟩
  by_cases h3 : b = 65535
  · have e : peekS ⟨a, b, c⟩ p = (St.zero, 16) := by unfold peekS; rw [if_neg h1, if_neg h2, if_pos h3]
    rw [e]
    have h3' : (b == 65535) = true := by simpa using h3
    clear hr e h3
    go_enter Tryd.func27, Tryd.ntmps27
    go_wp2
    exact bodyPost_ret (res_two rfl _ rfl (at_two w St.zero ⟨a, b, c⟩).1) rfl ⟨rfl, below2 w _ _⟩
  · have e : peekS ⟨a, b, c⟩ p = (⟨a, b + 1, c⟩, 0) := by unfold peekS; rw [if_neg h1, if_neg h2, if_neg h3]
    rw [e]
    have h3' : (b == 65535) = false := by simpa using h3
    clear hr e h3
    go_enter Tryd.func27, Tryd.ntmps27
    go_wp2
    exact bodyPost_ret (res_two rfl _ rfl (at_two w ⟨a, b + 1, c⟩ ⟨a, b + 1, c⟩).1) rfl ⟨rfl, below2 w _ _⟩
theorem last_any (w : World) (k : Nat) (s : St) (hA : At w k s) : Calls Tryd.prog 31 #[ptr k] w fun e w' => e = .returned (sagg s) ∧ Below w.heap.size w w' := by
  obtain ⟨a, b, c⟩ := s
  have hk := hA.lt
  have c0 := hA.c0
  have c1 := hA.c1
  have c2 := hA.c2
  clear hA
  go_enter Tryd.func31, Tryd.ntmps31
  go_wp2
  exact bodyPost_ret (res_one rfl _ rfl (at_new w ⟨a, b, c⟩)) rfl ⟨rfl, below1 w _⟩
/-- What New answers: a clock in a block of its own, or none. -/
def newS (node : Int) (f : St) : Option St × Int := if node < 1 ∨ 63 < node then (none, 1) else if mayS f = false then (none, 17) else (some ⟨f.w, f.l, node⟩, 0)
def IsNew (w w' : World) : Option St → Value → Prop
  | none, v => v = .pointer none
  | some s, v => ∃ k, v = ptr k ∧ w.heap.size ≤ k ∧ At w' k s
set_option maxRecDepth 100000 in
theorem new_any (w : World) (n : Int) (f : St) : Calls Tryd.prog 23 #[.int .i64 n, sagg f] w fun e w' => (∃ v, e = .returned (.tuple #[v, .int .i64 (newS n f).2]) ∧ IsNew w w' (newS n f).1 v) ∧ Below w.heap.size w w' := by
  by_cases h1 : n < 1
  · have e : newS n f = (none, 1) := by unfold newS; rw [if_pos (.inl h1)]
    rw [e]
    clear e
    obtain ⟨a, b, c⟩ := f
    go_enter Tryd.func23, Tryd.ntmps23
    go_wp2
    go_ret2
    exact ⟨⟨_, rfl, rfl⟩, below1 w _⟩
  by_cases h2 : 63 < n
  · have e : newS n f = (none, 1) := by unfold newS; rw [if_pos (.inr h2)]
    rw [e]
    have h1' : decide (n < 1) = false := decide_eq_false h1
    clear e
    obtain ⟨a, b, c⟩ := f
    go_enter Tryd.func23, Tryd.ntmps23
    go_wp2
    go_ret2
    exact ⟨⟨_, rfl, rfl⟩, below1 w _⟩
  have h1' : decide (n < 1) = false := decide_eq_false h1
  have h2' : decide (63 < n) = false := decide_eq_false h2
  have HC := fun w => Lib.hid (may_any f w)
  have HA := Lib.hid (at_new w f)
  have HW := Lib.hid (below1 w (sobj f))
  cases hm : mayS f
  · have e : newS n f = (none, 17) := by unfold newS; rw [if_neg (by omega), if_pos hm]
    rw [e]
    rw [hm] at HC
    clear e hm h1 h2
    obtain ⟨a, b, c⟩ := f
    go_enter Tryd.func23, Tryd.ntmps23
    go_wp2_with (go_at_call 13; ((with_reducible refine (HC _).out.mono ?_); rintro e w' ⟨rfl, hb⟩; have HW := Lib.hid (HW.out.trans (hb.mono HW.out.size)); clear hb))
    go_ret2
    exact ⟨⟨_, rfl, rfl⟩, HW.out⟩
  · have e : newS n f = (some ⟨f.w, f.l, n⟩, 0) := by unfold newS; rw [if_neg (by omega), if_neg (by rw [hm]; decide)]
    rw [e]
    rw [hm] at HC
    clear e hm h1 h2
    obtain ⟨a, b, c⟩ := f
    go_enter Tryd.func23, Tryd.ntmps23
    go_wp2_with (go_at_call 13; ((with_reducible refine (HC _).out.mono ?_); rintro e w' ⟨rfl, hb⟩; have HA := Lib.hid (HA.out.below hb HA.out.lt); have HW := Lib.hid (HW.out.trans (hb.mono HW.out.size)); have c0 := HA.out.c0; have c1 := HA.out.c1; have c2 := HA.out.c2; have f2 := HA.out.f2; have hk := HA.out.lt; clear hb))
    go_ret2
    exact ⟨⟨_, rfl, _, rfl, by have := HW.out.size; simpa using this, at_newT 65 _ ⟨a, b, n⟩⟩, (HW.out.setCell (p := ⟨w.heap.size, 2, none⟩) (Nat.le_refl _) _).alloc (by have := HW.out.size; simpa using this) _⟩
theorem now_end {w1 : World} {k z : Nat} {s u : St} (HK : At w1 k s) (HZ : At w1 z u) (hkz : k < z) (X : St) : At ((setS (setS w1 k X) z X).alloc (sobj X)) z X ∧ At ((setS (setS w1 k X) z X).alloc (sobj X)) k X := by
  have HZ' : At (setS w1 k X) z u := HZ.tn (S := fun j => j = k) ((Tn.refl (fun j => j = k) w1).set3 (fun _ => rfl) X) (by omega)
  exact ⟨(HZ'.setAll X).alloc _, ((HK.setAll X).other hkz X).alloc _⟩
def nowS (s : St) (p : Int) : St := if (peekS s p).2 = 0 then (peekS s p).1 else s
set_option maxRecDepth 100000 in
set_option maxHeartbeats 1000000 in
theorem now_any (w : World) (k : Nat) (s : St) (hA : At w k s) (hs : mayS s = true) (p : Int) :
    Calls Tryd.prog 25 #[ptr k, .int .i64 p] w fun e w' => e = .returned (.tuple #[sagg (peekS s p).1, .int .i64 (peekS s p).2]) ∧ Tn (fun j => j = k) w w' ∧ At w' k (nowS s p) := by
  have HP := Lib.hid (peek_any (w.alloc (sobj St.zero)) k s (hA.alloc _) hs p)
  have hn : nowS s p = if (peekS s p).2 = 0 then (peekS s p).1 else s := rfl
  rw [hn]
  have HZ := Lib.hid (at_new w St.zero)
  have HK := Lib.hid (hA.alloc (sobj St.zero))
  have HB := Lib.hid (below1 w (sobj St.zero))
  have hk := hA.lt
  clear hA hs hn
  generalize peekS s p = R at *
  obtain ⟨⟨x, y, z⟩, r⟩ := R
  simp only at HP ⊢
  by_cases hr : r = 0
  · rw [if_pos hr]
    subst hr
    go_enter Tryd.func25, Tryd.ntmps25
    go_wp2_with (go_at_call 27; with_reducible refine HP.out.mono ?_; rintro e w1 ⟨rfl, hb⟩; have HK := Lib.hid (HK.out.below hb HK.out.lt); have HZ := Lib.hid (HZ.out.below hb HZ.out.lt); have HB := Lib.hid (HB.out.trans (hb.mono HB.out.size)); have k0 := HK.out.c0; have k1 := HK.out.c1; have k2 := HK.out.c2; have g0 := HK.out.f0; have g1 := HK.out.f1; have g2 := HK.out.f2; have hk1 := HK.out.lt; have z0 := HZ.out.c0; have z1 := HZ.out.c1; have z2 := HZ.out.c2; have y0 := HZ.out.f0; have y1 := HZ.out.f1; have y2 := HZ.out.f2; have hz1 := HZ.out.lt; clear hb)
    exact bodyPost_ret (res_two rfl _ rfl (now_end HK.out HZ.out hk ⟨x, y, z⟩).1) rfl ⟨rfl, (((Tn.of_below (S := fun j => j = k) HB.out).set3 (b := k) (fun _ => rfl) ⟨x, y, z⟩).set3 (b := w.heap.size) (fun h => absurd h (Nat.lt_irrefl _)) ⟨x, y, z⟩).alloc _, (now_end HK.out HZ.out hk ⟨x, y, z⟩).2⟩
  · rw [if_neg hr]
    have hr' : (r == 0) = false := by simpa using hr
    clear hr
    go_enter Tryd.func25, Tryd.ntmps25
    go_wp2_with (go_at_call 27; with_reducible refine HP.out.mono ?_; rintro e w1 ⟨rfl, hb⟩; have HK := Lib.hid (HK.out.below hb HK.out.lt); have HZ := Lib.hid (HZ.out.below hb HZ.out.lt); have HB := Lib.hid (HB.out.trans (hb.mono HB.out.size)); have z0 := HZ.out.c0; have z1 := HZ.out.c1; have z2 := HZ.out.c2; have y0 := HZ.out.f0; have y1 := HZ.out.f1; have y2 := HZ.out.f2; have hz1 := HZ.out.lt; clear hb)
    exact bodyPost_ret (res_two rfl _ rfl ((HZ.out.setAll ⟨x, y, z⟩).alloc (sobj ⟨x, y, z⟩))) rfl ⟨rfl, ((Tn.of_below (S := fun j => j = k) HB.out).set3 (b := w.heap.size) (fun h => absurd h (Nat.lt_irrefl _)) ⟨x, y, z⟩).alloc _, (HK.out.other hk ⟨x, y, z⟩).alloc _⟩
/-- What Observe makes of a clock. -/
def obsS (s t : St) : St := if mayS t = true then laterS s ⟨t.w, t.l, s.n⟩ else s
def obsE (t : St) : Int := if mayS t = true then 0 else 17
set_option maxRecDepth 100000 in
set_option maxHeartbeats 1000000 in
theorem observe_any (w : World) (k : Nat) (s : St) (hA : At w k s) (t : St) :
    Calls Tryd.prog 29 #[ptr k, sagg t] w fun e w' => e = .returned (.int .i64 (obsE t)) ∧ Tn (fun j => j = k) w w' ∧ At w' k (obsS s t) := by
  have HC := fun w => Lib.hid (may_any t w)
  have HN := Lib.hid (at_new w t)
  have HK := Lib.hid (hA.alloc (sobj t))
  have HB := Lib.hid (below1 w (sobj t))
  have hk := hA.lt
  cases hm : mayS t
  · have e1 : obsS s t = s := by unfold obsS; rw [if_neg (by rw [hm]; decide)]
    have e2 : obsE t = 17 := by unfold obsE; rw [if_neg (by rw [hm]; decide)]
    rw [e1, e2]
    rw [hm] at HC
    clear e1 e2 hA
    obtain ⟨a, b, c⟩ := t
    go_enter Tryd.func29, Tryd.ntmps29
    go_wp2_with (go_at_call 13; ((with_reducible refine (HC _).out.mono ?_); rintro e w' ⟨rfl, hb⟩; have HK := Lib.hid (HK.out.below hb HK.out.lt); have HB := Lib.hid (HB.out.trans (hb.mono HB.out.size)); clear hb))
    go_ret
    exact ⟨rfl, Tn.of_below HB.out, HK.out⟩
  · have e1 : obsS s t = laterS s ⟨t.w, t.l, s.n⟩ := by unfold obsS; rw [if_pos hm]
    have e2 : obsE t = 0 := by unfold obsE; rw [if_pos hm]
    rw [e1, e2]
    rw [hm] at HC
    have HL := fun w => Lib.hid (later_any s ⟨t.w, t.l, s.n⟩ w)
    clear e1 e2 hA
    obtain ⟨a, b, c⟩ := t
    obtain ⟨x, y, z⟩ := s
    simp only at HL ⊢
    generalize laterS ⟨x, y, z⟩ ⟨a, b, z⟩ = L at *
    obtain ⟨l1, l2, l3⟩ := L
    go_enter Tryd.func29, Tryd.ntmps29
    go_wp2_with (go_at_call 13; ((with_reducible refine (HC _).out.mono ?_); rintro e w1 ⟨rfl, hb⟩; have HK := Lib.hid (HK.out.below hb HK.out.lt); have HN := Lib.hid (HN.out.below hb HN.out.lt); have HB := Lib.hid (HB.out.trans (hb.mono HB.out.size)); have k0 := HK.out.c0; have k1 := HK.out.c1; have k2 := HK.out.c2; have g0 := HK.out.f0; have g1 := HK.out.f1; have g2 := HK.out.f2; have hk1 := HK.out.lt; have z0 := HN.out.c0; have z1 := HN.out.c1; have z2 := HN.out.c2; have y0 := HN.out.f0; have y1 := HN.out.f1; have y2 := HN.out.f2; have hz1 := HN.out.lt; clear hb))
    have HN := Lib.hid (show At (w1.setCell ⟨w.heap.size, 2, none⟩ (.int .i64 z)) w.heap.size ⟨a, b, z⟩ from ⟨by simpa using HN.out.lt, by rw [World.cell?_setCell_other (h := by simp)]; exact z0, by rw [World.cell?_setCell_other (h := by simp)]; exact z1, World.cell?_setCell_same _ _ _ z2, by simp [y0], by simp [y1], by simp [y2]⟩)
    have HK := Lib.hid ((HK.out.below (B := w.heap.size) ((Below.refl w.heap.size w1).setCell (p := ⟨w.heap.size, 2, none⟩) (Nat.le_refl _) (.int .i64 z)) hk))
    have HT := Lib.hid ((Tn.of_below (S := fun j => j = k) HB.out).setCell (p := ⟨w.heap.size, 2, none⟩) (fun h => absurd h (Nat.lt_irrefl _)) (.int .i64 z))
    clear k0 k1 k2 g0 g1 g2 z0 z1 z2 y0 y1 y2 hk1 hz1
    generalize w1.setCell ⟨w.heap.size, 2, none⟩ (.int .i64 z) = w2 at *
    have HN := Lib.hid (HN.out.below (Below.refl _ _).drew HN.out.lt)
    have HK := Lib.hid (HK.out.below (Below.refl _ _).drew HK.out.lt)
    have HT := Lib.hid (HT.out.trans (Tn.of_below (S := fun j => j = k) (Below.refl _ w2).drew) (fun _ _ h => h))
    have k0 := HK.out.c0; have k1 := HK.out.c1; have k2 := HK.out.c2
    have hkn : k ≠ w.heap.size := Nat.ne_of_lt hk
    refine wp_region_held (S := (fun w' => w'.cell? ⟨w.heap.size, 0, none⟩ = some (.int .i64 a) ∧ w'.cell? ⟨w.heap.size, 1, none⟩ = some (.int .i64 b) ∧ w'.cell? ⟨w.heap.size, 2, none⟩ = some (.int .i64 z))) (by kernel_rfl) ?_
    change wpAnyH _ _ _ _ _ _ _ _ (World.drew _)
    refine wpAnyH_take (i := 0) (v := ?vo_0) rfl (by kernel_rfl) (by kernel_rfl) (by kernel_rfl) (fun _ _ _ h => h) (Or.inl ⟨by rfl, ?yo_0⟩) ⟨HN.out.c0, HN.out.c1, HN.out.c2⟩ ?ro_0
    case yo_0 => (intro W hSw; (try dsimp only at hSw); obtain ⟨s0, s1, s2⟩ := hSw; first | (go_simp; done) | (go_simp; with_reducible rfl))
    try go_simp
    refine wpAnyH_take (i := 1) (v := ?vo_1) rfl (by kernel_rfl) (by kernel_rfl) (by kernel_rfl) (fun _ _ _ h => h) (Or.inl ⟨by rfl, ?yo_1⟩) ⟨HN.out.c0, HN.out.c1, HN.out.c2⟩ ?ro_1
    case yo_1 => (intro W hSw; (try dsimp only at hSw); obtain ⟨s0, s1, s2⟩ := hSw; first | (go_simp; done) | (go_simp; with_reducible rfl))
    try go_simp
    refine wpAnyH_take (i := 2) (v := ?vo_2) rfl (by kernel_rfl) (by kernel_rfl) (by kernel_rfl) (fun _ _ _ h => h) (Or.inl ⟨by rfl, ?yo_2⟩) ⟨HN.out.c0, HN.out.c1, HN.out.c2⟩ ?ro_2
    case yo_2 => (intro W hSw; (try dsimp only at hSw); obtain ⟨s0, s1, s2⟩ := hSw; first | (go_simp; done) | (go_simp; with_reducible rfl))
    try go_simp
    refine wpAnyH_take (i := 3) (v := ?vo_3) rfl (by kernel_rfl) (by kernel_rfl) (by kernel_rfl) (fun _ _ _ h => h) (Or.inl ⟨by rfl, ?yo_3⟩) ⟨HN.out.c0, HN.out.c1, HN.out.c2⟩ ?ro_3
    case yo_3 => (intro W hSw; (try dsimp only at hSw); obtain ⟨s0, s1, s2⟩ := hSw; first | (go_simp; done) | (go_simp; with_reducible rfl))
    try go_simp
    refine wpAnyH_take (i := 5) (v := ?vo_5) rfl (by kernel_rfl) (by kernel_rfl) (by kernel_rfl) (fun _ _ _ h => h) (Or.inl ⟨by rfl, ?yo_5⟩) ⟨HN.out.c0, HN.out.c1, HN.out.c2⟩ ?ro_5
    case yo_5 => (intro W hSw; (try dsimp only at hSw); obtain ⟨s0, s1, s2⟩ := hSw; first | (go_simp; done) | (go_simp; with_reducible rfl))
    try go_simp
    refine wpAnyH_ready (rs := [4]) (by kernel_rfl) (by simp) ?_
    refine AllReadyH.cons rfl (fun K hK => ?_) AllReadyH.nil
    go_simp
    refine hK.out _ _ ⟨HN.out.c0, HN.out.c1, HN.out.c2⟩ (fun _ => ?_)
    clear hK K
    try go_simp
    refine wpAnyH_ready (rs := [6]) (by kernel_rfl) (by simp) ?_
    refine AllReadyH.cons rfl (fun K hK => ?_) AllReadyH.nil
    go_simp
    (go_wp2_with (first | (go_at_call 17; with_reducible refine (HL _).out.mono ?_; rintro e w3 ⟨rfl, hb⟩; have HK := Lib.hid (HK.out.below hb HK.out.lt); have HN := Lib.hid (HN.out.below hb HN.out.lt); have HT := Lib.hid (HT.out.trans (Tn.of_below (S := fun j => j = k) hb) (fun _ _ h => h)); have k0 := HK.out.c0; have k1 := HK.out.c1; have k2 := HK.out.c2; have g0 := HK.out.f0; have g1 := HK.out.f1; have g2 := HK.out.f2; clear hb)))
    refine hK.out _ _ ⟨HN.out.c0, HN.out.c1, HN.out.c2⟩ (fun _ => ?_)
    clear hK K
    try go_simp
    refine wpAnyH_take (i := 7) (v := ?vo_7) rfl (by kernel_rfl) (by kernel_rfl) (by kernel_rfl) (fun _ _ _ h => h) (Or.inl ⟨by rfl, ?yo_7⟩) ⟨HN.out.c0, HN.out.c1, HN.out.c2⟩ ?ro_7
    case yo_7 => (intro W hSw; (try dsimp only at hSw); obtain ⟨s0, s1, s2⟩ := hSw; first | (go_simp; done) | (go_simp; with_reducible rfl))
    try go_simp
    refine wpAnyH_take (i := 8) (v := ?vo_8) rfl (by kernel_rfl) (by kernel_rfl) (by kernel_rfl) (fun _ _ _ h => h) (Or.inl ⟨by rfl, ?yo_8⟩) ⟨HN.out.c0, HN.out.c1, HN.out.c2⟩ ?ro_8
    case yo_8 => (intro W hSw; (try dsimp only at hSw); obtain ⟨s0, s1, s2⟩ := hSw; first | (go_simp; done) | (go_simp; with_reducible rfl))
    try go_simp
    refine wpAnyH_ready (rs := [9]) (by kernel_rfl) (by simp) ?_
    refine AllReadyH.cons rfl (fun K hK => ?_) AllReadyH.nil
    go_simp
    refine hK.out _ _ (let h9 := HN.out.tn (S := fun j => j = k) ((Tn.refl (fun j => j = k) w3).set3 (fun _ => rfl) ⟨l1, l2, l3⟩) (Nat.ne_of_gt hk); ⟨h9.c0, h9.c1, h9.c2⟩) (fun _ => ?_)
    clear hK K
    try go_simp
    refine wpAnyH_done (by kernel_rfl) ?_ _
    go_wp2
    go_ret
    exact ⟨rfl, HT.out.set3 (fun _ => rfl) ⟨l1, l2, l3⟩, HK.out.setAll ⟨l1, l2, l3⟩⟩
end Go.Proofs.YtmpokhjchbaleaaDoor
