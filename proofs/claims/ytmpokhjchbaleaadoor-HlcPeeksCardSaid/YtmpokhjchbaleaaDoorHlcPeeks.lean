/- Peek changes nothing and is what Now tells; an error of Now changes nothing; what is observed twice is observed once: racelaw8.HlcPeeks answers true and leaves its arguments as they were. Conditions: the library's table holds what its initialiser lays. -/
import Derived.Test.YtmpokhjchbaleaaDoorG
import Derived.Deep.Cut
namespace Go.Proofs.YtmpokhjchbaleaaDoor
open Go.ChangeShapes Go.WideShapes Go.ChangeAt Go.RowKit
theorem peek_may {s : St} (hs : mayS s = true) (p : Int) (h : (peekS s p).2 = 0) : mayS (peekS s p).1 = true := by
  have hr := mayS_iff.1 hs
  unfold peekS at h ⊢
  split at h
  · cases h
  · rename_i h1
    rw [if_neg h1]
    split at h
    · rename_i h2
      rw [if_pos h2]
      exact mayS_iff.2 ⟨by simp only; omega, by simp only; omega, hr.2.2⟩
    · rename_i h2
      rw [if_neg h2]
      split at h
      · cases h
      · rename_i h3
        rw [if_neg h3]
        exact mayS_iff.2 ⟨hr.1, by simp only; omega, hr.2.2⟩
theorem now_may {s : St} (hs : mayS s = true) (p : Int) : mayS (nowS s p) = true := by
  unfold nowS
  split
  · rename_i h; exact peek_may hs p h
  · exact hs
theorem now_node (s : St) (p : Int) : (nowS s p).n = s.n := by
  unfold nowS
  split
  · rename_i h; exact peek_node s p h
  · rfl
theorem obs_twice (s t : St) : obsS (obsS s t) t = obsS s t := by
  by_cases ht : mayS t = true
  · have e : ∀ s, obsS s t = if s.w < t.w ∨ (t.w = s.w ∧ s.l < t.l) then ⟨t.w, t.l, s.n⟩ else s := fun s => by unfold obsS; rw [if_pos ht, later_new]
    rw [e s]
    split
    · rw [e, if_neg (by simp only; omega)]
    · rename_i h; rw [e, if_neg h]
  · have e : ∀ s, obsS s t = s := fun s => by unfold obsS; rw [if_neg ht]
    rw [e, e]
/-- What is done to a clock. -/
def doS (s : St) (p : Do) : St := if p.kind = 0 then nowS s p.n else obsS s p.s
theorem do_may {s : St} (hs : mayS s = true) (p : Do) : mayS (doS s p) = true := by
  unfold doS
  split
  · exact now_may hs _
  · exact obs_may hs
theorem do_node (s : St) (p : Do) : (doS s p).n = s.n := by
  unfold doS
  split
  · exact now_node _ _
  · exact obs_node _ _
def doL (s : St) (l : List Do) : St := l.foldl doS s
theorem doL_take (s : St) (l : List Do) (i : Nat) (h : i < l.length) : doL s (l.take (i + 1)) = doS (doL s (l.take i)) l[i] := by
  unfold doL
  rw [List.take_add_one, List.getElem?_eq_getElem h, Option.toList_some, List.foldl_append]
  rfl
theorem doL_keeps {s : St} (hs : mayS s = true) : ∀ l : List Do, mayS (doL s l) = true ∧ (doL s l).n = s.n := by
  intro l
  induction l generalizing s with
  | nil => exact ⟨hs, rfl⟩
  | cons p r ih => exact ⟨(ih (do_may hs p)).1, (ih (do_may hs p)).2.trans (do_node s p)⟩
set_option maxRecDepth 100000 in
set_option maxHeartbeats 8000000 in
theorem peeks_none (w : World) (n : Int) (f : St) (v : Value) (ph : Int) (t : St) (hT : Pow w) (r : Int) (hn : newS n f = (none, r)) (hr : r ≠ 0) : Calls Tryd.prog 8 #[.int .i64 n, sagg f, v, .int .i64 ph, sagg t] w fun e w' => e = .returned (.bool true) ∧ Below w.heap.size w w' := by
  have HT := Lib.hid hT
  have HN := fun w => Lib.hid (new_any w n f)
  rw [hn] at HN
  have HA := Lib.hid (at_two w f t).1
  have HQ := Lib.hid (at_two w f t).2
  have HW := Lib.hid (below2 w (sobj f) (sobj t))
  have hr' : (r != 0) = true := by simpa using hr
  clear hT hn hr
  obtain ⟨f1, f2, f3⟩ := f
  obtain ⟨t1, t2, t3⟩ := t
  go_enter Tryd.func8, Tryd.ntmps8
  go_wp2_with (first
    | (go_at_call 10; (with_reducible refine (first_any _ (HT.out.below HW.out)).mono ?_); rintro e w1 ⟨rfl, hb⟩; have HA := Lib.hid (HA.out.below hb HA.out.lt); have HQ := Lib.hid (HQ.out.below hb HQ.out.lt); have HW := Lib.hid (HW.out.trans (hb.mono HW.out.size)); have a0 := HA.out.c0; have a1 := HA.out.c1; have a2 := HA.out.c2; clear hb)
    | (go_at_call 23; (with_reducible refine (HN _).out.mono ?_); rintro e w2 ⟨⟨v, rfl, rfl⟩, hb⟩; have HA := Lib.hid (HA.out.below hb HA.out.lt); have HQ := Lib.hid (HQ.out.below hb HQ.out.lt); have HW := Lib.hid (HW.out.trans (hb.mono HW.out.size)); clear hb))
  go_ret
  exact ⟨rfl, HW.out⟩
set_option maxRecDepth 100000 in
set_option maxHeartbeats 40000000 in
theorem peeks_some (w : World) (n : Int) (f : St) (ao : Option Addr) (cap : Nat) (l : List Do) (hl : SO w.heap.size w ao l.length cap l) (ph : Int) (t : St) (hT : Pow w) (s : St) (hn : newS n f = (some s, 0)) (hs : mayS s = true) (hsn : s.n = n) :
    Calls Tryd.prog 8 #[.int .i64 n, sagg f, .slice ao l.length cap, .int .i64 ph, sagg t] w fun e w' => e = .returned (.bool true) ∧ Below w.heap.size w w' := by
  have HT := Lib.hid hT
  have HN := fun w => Lib.hid (new_any w n f)
  rw [hn] at HN
  have HA := Lib.hid (at_two w f t).1
  have HQ := Lib.hid (at_two w f t).2
  have HW := Lib.hid (below2 w (sobj f) (sobj t))
  have HS := Lib.hid hs
  have HSN := Lib.hid hsn
  have HL := Lib.hid hl
  have HLT := Lib.hid hl.lt
  clear hT hn hs hl hsn
  obtain ⟨f1, f2, f3⟩ := f
  obtain ⟨t1, t2, t3⟩ := t
  go_enter Tryd.func8, Tryd.ntmps8
  go_upto_region 6 with (first
    | (go_at_call 10; (with_reducible refine (first_any _ (HT.out.below HW.out)).mono ?_); rintro e w1 ⟨rfl, hb⟩; have HA := Lib.hid (HA.out.below hb HA.out.lt); have HQ := Lib.hid (HQ.out.below hb HQ.out.lt); have HW := Lib.hid (HW.out.trans (hb.mono HW.out.size)); have a0 := HA.out.c0; have a1 := HA.out.c1; have a2 := HA.out.c2; clear hb)
    | (go_at_call 23; (with_reducible refine (HN _).out.mono ?_); rintro e w2 ⟨⟨v, rfl, k, rfl, hk, ha⟩, hb⟩; have HQK := Lib.hid (Nat.lt_of_lt_of_le HQ.out.lt hk); have HA := Lib.hid (HA.out.below hb HA.out.lt); have HQ := Lib.hid (HQ.out.below hb HQ.out.lt); have HK := Lib.hid ha; have HKk := Lib.hid (Nat.le_trans HW.out.size hk); have HW := Lib.hid (HW.out.trans (hb.mono HW.out.size)); clear hb ha hk))
  go_wp2
  go_loopw [13] (fun vi wr => ∃ i : Nat, vi = .int .i64 (i : Int) ∧ i ≤ l.length ∧ Hid (Below w.heap.size w wr) ∧ Hid (At wr k (doL s (l.take i))) ∧ Hid (At wr (w.heap.size + 1) ⟨t1, t2, t3⟩)) (fun vi _ => l.length - (RowKit.intOf vi).toNat)
  case atStart => exact ⟨0, rfl, Nat.zero_le _, HW, HK, HQ⟩
  case round =>
    obtain ⟨i, rfl, hi, HB, H1, HQ⟩ := hrel
    clear a0 a1 a2
    by_cases hgo : i < l.length ∧ i < 2000
    · obtain ⟨hlt, h2000⟩ := hgo
      have hw3 : IntKind.i64.wrap ((i : Int) + 1) = ((i + 1 : Nat) : Int) := by rw [wrap_in (by omega)]; omega
      have HE1 := Lib.hid (doL_take s l i hlt)
      have HM := Lib.hid (doL_keeps HS.out (l.take i)).1
      obtain ⟨b, o, rfl, hb, ho, hx1⟩ := (HL.out.below HB.out).at_ hlt
      have hi1 : decide ((i : Int) < (l.length : Int)) = true := decide_eq_true (by omega)
      have hi2 : decide ((i : Int) < 2000) = true := decide_eq_true (by omega)
      have hi3 : (i : Int) < (l.length : Int) := by omega
      have c0 := ho.c0; have c1 := ho.c1; have c2 := ho.c2; have c3 := ho.c3; have c4 := ho.c4
      have HLT' := Lib.hid hlt
      clear ho hi h2000 hx1
      generalize l[i] = x at *
      clear hlt
      generalize doL s (l.take i) = F at *
      obtain ⟨x1, x2, ⟨x3, x4, x5⟩⟩ := x
      simp only at c0 c1 c2 c3 c4
      by_cases hk0 : x1 = 0
      · have hd : (x1 == 0) = true := by simpa using hk0
        have HE2 : Hid (doS F ⟨x1, x2, ⟨x3, x4, x5⟩⟩ = nowS F x2) := by show _ = _; unfold doS; rw [if_pos hk0]
        clear hk0
        go_wp2_with (first
          | (go_at_call 25; (with_reducible refine (now_any _ k _ H1.out HM.out _).mono ?_); rintro e w4 ⟨rfl, ht, h1⟩; have H1 := Lib.hid h1; have HQ := Lib.hid (HQ.out.tn ht (fun e => absurd e (Nat.ne_of_lt HQK.out))); have HB4 := Lib.hid (HB.out.trans (ht.below (B := w.heap.size) HB.out.size (fun z e => e ▸ HKk.out))); clear ht h1))
        have hlt := HLT'.out
        exact ⟨⟨i + 1, congrArg (Value.int .i64) (by omega), hlt, HB4, Lib.hid (by rw [HE1.out, HE2.out]; exact H1.out), HQ⟩, by simp [RowKit.intOf]; omega⟩
      · have hd : (x1 == 0) = false := by simpa using hk0
        have HE2 : Hid (doS F ⟨x1, x2, ⟨x3, x4, x5⟩⟩ = obsS F ⟨x3, x4, x5⟩) := by show _ = _; unfold doS; rw [if_neg hk0]
        clear hk0
        go_wp2_with (first
          | (go_at_call 29; (with_reducible refine (observe_any _ k _ H1.out ⟨x3, x4, x5⟩).mono ?_); rintro e w4 ⟨rfl, ht, h1⟩; have H1 := Lib.hid h1; have HQ := Lib.hid (HQ.out.tn ht (fun e => absurd e (Nat.ne_of_lt HQK.out))); have HB4 := Lib.hid (HB.out.trans (ht.below (B := w.heap.size) HB.out.size (fun z e => e ▸ HKk.out))); clear ht h1))
        have hlt := HLT'.out
        exact ⟨⟨i + 1, congrArg (Value.int .i64) (by omega), hlt, HB4, Lib.hid (by rw [HE1.out, HE2.out]; exact H1.out), HQ⟩, by simp [RowKit.intOf]; omega⟩
    · have hg : (decide ((i : Int) < (l.length : Int)) && decide ((i : Int) < 2000)) = false := by
        rw [Bool.and_eq_false_iff, decide_eq_false_iff_not, decide_eq_false_iff_not]
        omega
      have hw0 : (w.heap.size : Nat) + 1 ≠ k := Nat.ne_of_lt HQK.out
      have HM := Lib.hid (doL_keeps HS.out (l.take i))
      generalize doL s (l.take i) = F at *
      have HFN : Hid (F.n = n) := HM.out.2.trans HSN.out
      have HFM := Lib.hid HM.out.1
      clear HM
      have HN1 := fun w h => Lib.hid (peek_any w k F h HFM.out ph)
      have HN2 := fun w h => Lib.hid (now_any w k F h HFM.out ph)
      have hG : nowS F ph = if (peekS F ph).2 = 0 then (peekS F ph).1 else F := rfl
      have HGN := Lib.hid (now_node F ph)
      have HGM := Lib.hid (now_may HFM.out ph)
      have HO1 := fun w h => Lib.hid (observe_any w k (nowS F ph) h ⟨t1, t2, t3⟩)
      have HO2 := fun w h => Lib.hid (observe_any w k (obsS (nowS F ph) ⟨t1, t2, t3⟩) h ⟨t1, t2, t3⟩)
      rw [obs_twice] at HO2
      have HON : Hid ((obsS (nowS F ph) ⟨t1, t2, t3⟩).n = n) := (obs_node _ _).trans (HGN.out.trans HFN.out)
      have HY := fun w => Lib.hid (may_any ⟨t1, t2, t3⟩ w)
      have HE : Hid ((obsE ⟨t1, t2, t3⟩ == 0) = mayS ⟨t1, t2, t3⟩) := by
        show _ = _
        unfold obsE
        split
        · rename_i h; rw [h]; rfl
        · rename_i h; rw [Bool.not_eq_true] at h; rw [h]; rfl
      generalize obsS (nowS F ph) ⟨t1, t2, t3⟩ = Z at *
      generalize obsE ⟨t1, t2, t3⟩ = oe at *
      generalize mayS ⟨t1, t2, t3⟩ = om at *
      generalize nowS F ph = G at *
      generalize peekS F ph = X at *
      obtain ⟨⟨x1, x2, x3⟩, x4⟩ := X
      simp only at HN1 HN2 hG
      clear HGN HGM HFM hi
      obtain ⟨z1, z2, z3⟩ := Z
      obtain rfl : z3 = n := HON.out
      clear HON
      have q1 := q_self ⟨x1, x2, x3⟩
      have q2 := q_self F
      have q3 := q_self ⟨z1, z2, z3⟩
      have q4 : (oe == oe) = true := beq_self_eq_true _
      have q5 : (z3 == z3) = true := beq_self_eq_true _
      have q6 : (x4 == x4) = true := beq_self_eq_true _
      have q7 : (om == om) = true := beq_self_eq_true _
      have q8 := HE.out
      have q9 : (x4 != x4) = false := by simp
      clear HE
      obtain ⟨F1, F2, F3⟩ := F
      by_cases hx : x4 = 0
      · rw [if_pos hx] at hG
        subst hG hx
        rcases (show (¬ i < l.length) ∨ (i < l.length ∧ ¬ i < 2000) by omega) with hc | ⟨hc1, hc2⟩
        · have hi1 : decide ((i : Int) < (l.length : Int)) = false := decide_eq_false (by omega)
          have hp1 : ¬ (i : Int) < (l.length : Int) := by omega
          clear hgo
          go_upto_region 14 with (first
            | (go_at_call 31; (with_reducible refine (last_any _ k _ H1.out).mono ?_); rintro e w5 ⟨rfl, hb⟩; have HL14 := Lib.hid (Nat.lt_of_lt_of_le H1.out.lt hb.size); have HQ := Lib.hid ((HQ.out.below hb HQ.out.lt).alloc (sobj ⟨F1, F2, F3⟩)); have H1 := Lib.hid ((H1.out.below hb H1.out.lt).alloc (sobj ⟨F1, F2, F3⟩)); have HB := Lib.hid ((HB.out.trans (hb.mono HB.out.size)).alloc (Nat.le_trans HB.out.size hb.size) (sobj ⟨F1, F2, F3⟩)); have B14 := Lib.hid (at_new w5 ⟨F1, F2, F3⟩); clear hb)
            | (go_at_call 27; (with_reducible refine (HN1 _ H1.out).out.mono ?_); rintro e w6 ⟨rfl, hb⟩; have HL15 := Lib.hid (Nat.lt_of_lt_of_le H1.out.lt hb.size); have HQ := Lib.hid ((HQ.out.below hb HQ.out.lt).alloc (sobj ⟨x1, x2, x3⟩)); have H1 := Lib.hid ((H1.out.below hb H1.out.lt).alloc (sobj ⟨x1, x2, x3⟩)); have B14 := Lib.hid ((B14.out.below hb B14.out.lt).alloc (sobj ⟨x1, x2, x3⟩)); have HB := Lib.hid ((HB.out.trans (hb.mono HB.out.size)).alloc (Nat.le_trans HB.out.size hb.size) (sobj ⟨x1, x2, x3⟩)); have B15 := Lib.hid (at_new w6 ⟨x1, x2, x3⟩); clear hb))
          have HQ := Lib.hid (HQ.out.below (Below.refl _ _).drew HQ.out.lt)
          have H1 := Lib.hid (H1.out.below (Below.refl _ _).drew H1.out.lt)
          have B14 := Lib.hid (B14.out.below (Below.refl _ _).drew B14.out.lt)
          have B15 := Lib.hid (B15.out.below (Below.refl _ _).drew B15.out.lt)
          have HB := Lib.hid HB.out.drew
          refine wp_region_held (S := (fun w' => w'.cell? ⟨w5.heap.size, 0, none⟩ = some (.int .i64 F1) ∧ w'.cell? ⟨w5.heap.size, 1, none⟩ = some (.int .i64 F2) ∧ w'.cell? ⟨w5.heap.size, 2, none⟩ = some (.int .i64 F3))) (by kernel_rfl) ?_
          change wpAnyH _ _ _ _ _ _ _ _ (World.drew _)
          refine wpAnyH_take (i := 0) (v := ?vZ1a_0) rfl (by kernel_rfl) (by kernel_rfl) (by kernel_rfl) (fun _ _ _ h => h) (Or.inl ⟨by rfl, ?yZ1a_0⟩) ⟨B14.out.c0, B14.out.c1, B14.out.c2⟩ ?rZ1a_0
          case yZ1a_0 => (intro W hSw; (try dsimp only at hSw); obtain ⟨s0, s1, s2⟩ := hSw; first | (go_simp; done) | (go_simp; with_reducible rfl))
          try go_simp
          refine wpAnyH_take (i := 2) (v := ?vZ1a_2) rfl (by kernel_rfl) (by kernel_rfl) (by kernel_rfl) (fun _ _ _ h => h) (Or.inl ⟨by rfl, ?yZ1a_2⟩) ⟨B14.out.c0, B14.out.c1, B14.out.c2⟩ ?rZ1a_2
          case yZ1a_2 => (intro W hSw; (try dsimp only at hSw); obtain ⟨s0, s1, s2⟩ := hSw; first | (go_simp; done) | (go_simp; with_reducible rfl))
          try go_simp
          refine wpAnyH_ready (rs := [1]) (by kernel_rfl) (by simp) ?_
          refine AllReadyH.cons rfl (fun K hK => ?_) AllReadyH.nil
          go_simp
          (go_wp2_with (first | (go_at_call 31; (with_reducible refine (last_any _ k _ H1.out).mono ?_); rintro e w7 ⟨rfl, hb⟩; have HQ := Lib.hid (HQ.out.below hb HQ.out.lt); have H1 := Lib.hid (H1.out.below hb H1.out.lt); have B14 := Lib.hid (B14.out.below hb B14.out.lt); have B15 := Lib.hid (B15.out.below hb B15.out.lt); have HB := Lib.hid (HB.out.trans (hb.mono HB.out.size)); clear hb)))
          refine hK.out _ _ ⟨B14.out.c0, B14.out.c1, B14.out.c2⟩ (fun _ => ?_)
          clear hK K
          try go_simp
          refine wpAnyH_take (i := 3) (v := ?vZ1a_3) rfl (by kernel_rfl) (by kernel_rfl) (by kernel_rfl) (fun _ _ _ h => h) (Or.inl ⟨by rfl, ?yZ1a_3⟩) ⟨B14.out.c0, B14.out.c1, B14.out.c2⟩ ?rZ1a_3
          case yZ1a_3 => (intro W hSw; (try dsimp only at hSw); obtain ⟨s0, s1, s2⟩ := hSw; first | (go_simp; done) | (go_simp; with_reducible rfl))
          try go_simp
          refine wpAnyH_done (by kernel_rfl) ?_ _
          have k0 := H1.out.lt
          go_upto_region 17 with (first
            | (go_at_call 25; (with_reducible refine (HN2 _ H1.out).out.mono ?_); rintro e w8 ⟨rfl, ht, h1⟩; have HL17 := Lib.hid h1.lt; have HQ := Lib.hid ((HQ.out.tn ht (fun e => absurd e (Nat.ne_of_lt HQK.out))).alloc (sobj ⟨x1, x2, x3⟩)); have B14 := Lib.hid ((B14.out.tn ht (fun e => absurd e (Nat.ne_of_gt HL14.out))).alloc (sobj ⟨x1, x2, x3⟩)); have B15 := Lib.hid ((B15.out.tn ht (fun e => absurd e (Nat.ne_of_gt HL15.out))).alloc (sobj ⟨x1, x2, x3⟩)); have HB := Lib.hid ((HB.out.trans (ht.below (B := w.heap.size) HB.out.size (fun z e => e ▸ HKk.out))).alloc (Nat.le_trans HB.out.size ht.size) (sobj ⟨x1, x2, x3⟩)); have H1 := Lib.hid (h1.alloc (sobj ⟨x1, x2, x3⟩)); have B17 := Lib.hid (at_new w8 ⟨x1, x2, x3⟩); clear ht h1))
          have HQ := Lib.hid (HQ.out.below (Below.refl _ _).drew HQ.out.lt)
          have H1 := Lib.hid (H1.out.below (Below.refl _ _).drew H1.out.lt)
          have B14 := Lib.hid (B14.out.below (Below.refl _ _).drew B14.out.lt)
          have B15 := Lib.hid (B15.out.below (Below.refl _ _).drew B15.out.lt)
          have B17 := Lib.hid (B17.out.below (Below.refl _ _).drew B17.out.lt)
          have HB := Lib.hid HB.out.drew
          refine wp_region_held (S := (fun w' => w'.cell? ⟨w5.heap.size, 0, none⟩ = some (.int .i64 F1) ∧ w'.cell? ⟨w5.heap.size, 1, none⟩ = some (.int .i64 F2) ∧ w'.cell? ⟨w5.heap.size, 2, none⟩ = some (.int .i64 F3) ∧ w'.cell? ⟨w6.heap.size, 0, none⟩ = some (.int .i64 x1) ∧ w'.cell? ⟨w6.heap.size, 1, none⟩ = some (.int .i64 x2) ∧ w'.cell? ⟨w6.heap.size, 2, none⟩ = some (.int .i64 x3) ∧ w'.cell? ⟨w8.heap.size, 0, none⟩ = some (.int .i64 x1) ∧ w'.cell? ⟨w8.heap.size, 1, none⟩ = some (.int .i64 x2) ∧ w'.cell? ⟨w8.heap.size, 2, none⟩ = some (.int .i64 x3))) (by kernel_rfl) ?_
          change wpAnyH _ _ _ _ _ _ _ _ (World.drew _)
          refine wpAnyH_take (i := 0) (v := ?vZ1b_0) rfl (by kernel_rfl) (by kernel_rfl) (by kernel_rfl) (fun _ _ _ h => h) (Or.inl ⟨by rfl, ?yZ1b_0⟩) ⟨B14.out.c0, B14.out.c1, B14.out.c2, B15.out.c0, B15.out.c1, B15.out.c2, B17.out.c0, B17.out.c1, B17.out.c2⟩ ?rZ1b_0
          case yZ1b_0 => (intro W hSw; (try dsimp only at hSw); obtain ⟨s0, s1, s2, s3, s4, s5, s6, s7, s8⟩ := hSw; first | (go_simp; done) | (go_simp; with_reducible rfl))
          try go_simp
          refine wpAnyH_take (i := 1) (v := ?vZ1b_1) rfl (by kernel_rfl) (by kernel_rfl) (by kernel_rfl) (fun _ _ _ h => h) (Or.inl ⟨by rfl, ?yZ1b_1⟩) ⟨B14.out.c0, B14.out.c1, B14.out.c2, B15.out.c0, B15.out.c1, B15.out.c2, B17.out.c0, B17.out.c1, B17.out.c2⟩ ?rZ1b_1
          case yZ1b_1 => (intro W hSw; (try dsimp only at hSw); obtain ⟨s0, s1, s2, s3, s4, s5, s6, s7, s8⟩ := hSw; first | (go_simp; done) | (go_simp; with_reducible rfl))
          try go_simp
          refine wpAnyH_take (i := 2) (v := ?vZ1b_2) rfl (by kernel_rfl) (by kernel_rfl) (by kernel_rfl) (fun _ _ _ h => h) (Or.inl ⟨by rfl, ?yZ1b_2⟩) ⟨B14.out.c0, B14.out.c1, B14.out.c2, B15.out.c0, B15.out.c1, B15.out.c2, B17.out.c0, B17.out.c1, B17.out.c2⟩ ?rZ1b_2
          case yZ1b_2 => (intro W hSw; (try dsimp only at hSw); obtain ⟨s0, s1, s2, s3, s4, s5, s6, s7, s8⟩ := hSw; first | (go_simp; done) | (go_simp; with_reducible rfl))
          try go_simp
          refine wpAnyH_take (i := 3) (v := ?vZ1b_3) rfl (by kernel_rfl) (by kernel_rfl) (by kernel_rfl) (fun _ _ _ h => h) (Or.inl ⟨by rfl, ?yZ1b_3⟩) ⟨B14.out.c0, B14.out.c1, B14.out.c2, B15.out.c0, B15.out.c1, B15.out.c2, B17.out.c0, B17.out.c1, B17.out.c2⟩ ?rZ1b_3
          case yZ1b_3 => (intro W hSw; (try dsimp only at hSw); obtain ⟨s0, s1, s2, s3, s4, s5, s6, s7, s8⟩ := hSw; first | (go_simp; done) | (go_simp; with_reducible rfl))
          try go_simp
          refine wpAnyH_take (i := 4) (v := ?vZ1b_4) rfl (by kernel_rfl) (by kernel_rfl) (by kernel_rfl) (fun _ _ _ h => h) (Or.inl ⟨by rfl, ?yZ1b_4⟩) ⟨B14.out.c0, B14.out.c1, B14.out.c2, B15.out.c0, B15.out.c1, B15.out.c2, B17.out.c0, B17.out.c1, B17.out.c2⟩ ?rZ1b_4
          case yZ1b_4 => (intro W hSw; (try dsimp only at hSw); obtain ⟨s0, s1, s2, s3, s4, s5, s6, s7, s8⟩ := hSw; first | (go_simp; done) | (go_simp; with_reducible rfl))
          try go_simp
          refine wpAnyH_take (i := 5) (v := ?vZ1b_5) rfl (by kernel_rfl) (by kernel_rfl) (by kernel_rfl) (fun _ _ _ h => h) (Or.inl ⟨by rfl, ?yZ1b_5⟩) ⟨B14.out.c0, B14.out.c1, B14.out.c2, B15.out.c0, B15.out.c1, B15.out.c2, B17.out.c0, B17.out.c1, B17.out.c2⟩ ?rZ1b_5
          case yZ1b_5 => (intro W hSw; (try dsimp only at hSw); obtain ⟨s0, s1, s2, s3, s4, s5, s6, s7, s8⟩ := hSw; first | (go_simp; done) | (go_simp; with_reducible rfl))
          try go_simp
          refine wpAnyH_take (i := 6) (v := ?vZ1b_6) rfl (by kernel_rfl) (by kernel_rfl) (by kernel_rfl) (fun _ _ _ h => h) (Or.inl ⟨by rfl, ?yZ1b_6⟩) ⟨B14.out.c0, B14.out.c1, B14.out.c2, B15.out.c0, B15.out.c1, B15.out.c2, B17.out.c0, B17.out.c1, B17.out.c2⟩ ?rZ1b_6
          case yZ1b_6 => (intro W hSw; (try dsimp only at hSw); obtain ⟨s0, s1, s2, s3, s4, s5, s6, s7, s8⟩ := hSw; first | (go_simp; done) | (go_simp; with_reducible rfl))
          try go_simp
          refine wpAnyH_take (i := 7) (v := ?vZ1b_7) rfl (by kernel_rfl) (by kernel_rfl) (by kernel_rfl) (fun _ _ _ h => h) (Or.inl ⟨by rfl, ?yZ1b_7⟩) ⟨B14.out.c0, B14.out.c1, B14.out.c2, B15.out.c0, B15.out.c1, B15.out.c2, B17.out.c0, B17.out.c1, B17.out.c2⟩ ?rZ1b_7
          case yZ1b_7 => (intro W hSw; (try dsimp only at hSw); obtain ⟨s0, s1, s2, s3, s4, s5, s6, s7, s8⟩ := hSw; first | (go_simp; done) | (go_simp; with_reducible rfl))
          try go_simp
          refine wpAnyH_take (i := 8) (v := ?vZ1b_8) rfl (by kernel_rfl) (by kernel_rfl) (by kernel_rfl) (fun _ _ _ h => h) (Or.inl ⟨by rfl, ?yZ1b_8⟩) ⟨B14.out.c0, B14.out.c1, B14.out.c2, B15.out.c0, B15.out.c1, B15.out.c2, B17.out.c0, B17.out.c1, B17.out.c2⟩ ?rZ1b_8
          case yZ1b_8 => (intro W hSw; (try dsimp only at hSw); obtain ⟨s0, s1, s2, s3, s4, s5, s6, s7, s8⟩ := hSw; first | (go_simp; done) | (go_simp; with_reducible rfl))
          try go_simp
          refine wpAnyH_take (i := 9) (v := ?vZ1b_9) rfl (by kernel_rfl) (by kernel_rfl) (by kernel_rfl) (fun _ _ _ h => h) (Or.inl ⟨by rfl, ?yZ1b_9⟩) ⟨B14.out.c0, B14.out.c1, B14.out.c2, B15.out.c0, B15.out.c1, B15.out.c2, B17.out.c0, B17.out.c1, B17.out.c2⟩ ?rZ1b_9
          case yZ1b_9 => (intro W hSw; (try dsimp only at hSw); obtain ⟨s0, s1, s2, s3, s4, s5, s6, s7, s8⟩ := hSw; first | (go_simp; done) | (go_simp; with_reducible rfl))
          try go_simp
          refine wpAnyH_take (i := 10) (v := ?vZ1b_10) rfl (by kernel_rfl) (by kernel_rfl) (by kernel_rfl) (fun _ _ _ h => h) (Or.inl ⟨by rfl, ?yZ1b_10⟩) ⟨B14.out.c0, B14.out.c1, B14.out.c2, B15.out.c0, B15.out.c1, B15.out.c2, B17.out.c0, B17.out.c1, B17.out.c2⟩ ?rZ1b_10
          case yZ1b_10 => (intro W hSw; (try dsimp only at hSw); obtain ⟨s0, s1, s2, s3, s4, s5, s6, s7, s8⟩ := hSw; first | (go_simp; done) | (go_simp; with_reducible rfl))
          try go_simp
          refine wpAnyH_take (i := 11) (v := ?vZ1b_11) rfl (by kernel_rfl) (by kernel_rfl) (by kernel_rfl) (fun _ _ _ h => h) (Or.inl ⟨by rfl, ?yZ1b_11⟩) ⟨B14.out.c0, B14.out.c1, B14.out.c2, B15.out.c0, B15.out.c1, B15.out.c2, B17.out.c0, B17.out.c1, B17.out.c2⟩ ?rZ1b_11
          case yZ1b_11 => (intro W hSw; (try dsimp only at hSw); obtain ⟨s0, s1, s2, s3, s4, s5, s6, s7, s8⟩ := hSw; first | (go_simp; done) | (go_simp; with_reducible rfl))
          try go_simp
          refine wpAnyH_take (i := 12) (v := undef) rfl (by kernel_rfl) (by kernel_rfl) (by kernel_rfl) (fun _ _ _ h => h) (Or.inr ⟨by rfl, rfl⟩) ⟨B14.out.c0, B14.out.c1, B14.out.c2, B15.out.c0, B15.out.c1, B15.out.c2, B17.out.c0, B17.out.c1, B17.out.c2⟩ ?rZ1b_12
          try go_simp
          refine wpAnyH_take (i := 13) (v := undef) rfl (by kernel_rfl) (by kernel_rfl) (by kernel_rfl) (fun _ _ _ h => h) (Or.inr ⟨by rfl, rfl⟩) ⟨B14.out.c0, B14.out.c1, B14.out.c2, B15.out.c0, B15.out.c1, B15.out.c2, B17.out.c0, B17.out.c1, B17.out.c2⟩ ?rZ1b_13
          try go_simp
          refine wpAnyH_take (i := 14) (v := undef) rfl (by kernel_rfl) (by kernel_rfl) (by kernel_rfl) (fun _ _ _ h => h) (Or.inr ⟨by rfl, rfl⟩) ⟨B14.out.c0, B14.out.c1, B14.out.c2, B15.out.c0, B15.out.c1, B15.out.c2, B17.out.c0, B17.out.c1, B17.out.c2⟩ ?rZ1b_14
          try go_simp
          refine wpAnyH_take (i := 15) (v := undef) rfl (by kernel_rfl) (by kernel_rfl) (by kernel_rfl) (fun _ _ _ h => h) (Or.inr ⟨by rfl, rfl⟩) ⟨B14.out.c0, B14.out.c1, B14.out.c2, B15.out.c0, B15.out.c1, B15.out.c2, B17.out.c0, B17.out.c1, B17.out.c2⟩ ?rZ1b_15
          try go_simp
          refine wpAnyH_take (i := 16) (v := ?vZ1b_16) rfl (by kernel_rfl) (by kernel_rfl) (by kernel_rfl) (fun _ _ _ h => h) (Or.inl ⟨by rfl, ?yZ1b_16⟩) ⟨B14.out.c0, B14.out.c1, B14.out.c2, B15.out.c0, B15.out.c1, B15.out.c2, B17.out.c0, B17.out.c1, B17.out.c2⟩ ?rZ1b_16
          case yZ1b_16 => (intro W hSw; (try dsimp only at hSw); obtain ⟨s0, s1, s2, s3, s4, s5, s6, s7, s8⟩ := hSw; first | (go_simp; done) | (go_simp; with_reducible rfl))
          try go_simp
          refine wpAnyH_take (i := 17) (v := ?vZ1b_17) rfl (by kernel_rfl) (by kernel_rfl) (by kernel_rfl) (fun _ _ _ h => h) (Or.inl ⟨by rfl, ?yZ1b_17⟩) ⟨B14.out.c0, B14.out.c1, B14.out.c2, B15.out.c0, B15.out.c1, B15.out.c2, B17.out.c0, B17.out.c1, B17.out.c2⟩ ?rZ1b_17
          case yZ1b_17 => (intro W hSw; (try dsimp only at hSw); obtain ⟨s0, s1, s2, s3, s4, s5, s6, s7, s8⟩ := hSw; first | (go_simp; done) | (go_simp; with_reducible rfl))
          try go_simp
          refine wpAnyH_take (i := 18) (v := ?vZ1b_18) rfl (by kernel_rfl) (by kernel_rfl) (by kernel_rfl) (fun _ _ _ h => h) (Or.inl ⟨by rfl, ?yZ1b_18⟩) ⟨B14.out.c0, B14.out.c1, B14.out.c2, B15.out.c0, B15.out.c1, B15.out.c2, B17.out.c0, B17.out.c1, B17.out.c2⟩ ?rZ1b_18
          case yZ1b_18 => (intro W hSw; (try dsimp only at hSw); obtain ⟨s0, s1, s2, s3, s4, s5, s6, s7, s8⟩ := hSw; first | (go_simp; done) | (go_simp; with_reducible rfl))
          try go_simp
          refine wpAnyH_take (i := 19) (v := ?vZ1b_19) rfl (by kernel_rfl) (by kernel_rfl) (by kernel_rfl) (fun _ _ _ h => h) (Or.inl ⟨by rfl, ?yZ1b_19⟩) ⟨B14.out.c0, B14.out.c1, B14.out.c2, B15.out.c0, B15.out.c1, B15.out.c2, B17.out.c0, B17.out.c1, B17.out.c2⟩ ?rZ1b_19
          case yZ1b_19 => (intro W hSw; (try dsimp only at hSw); obtain ⟨s0, s1, s2, s3, s4, s5, s6, s7, s8⟩ := hSw; first | (go_simp; done) | (go_simp; with_reducible rfl))
          try go_simp
          refine wpAnyH_take (i := 20) (v := ?vZ1b_20) rfl (by kernel_rfl) (by kernel_rfl) (by kernel_rfl) (fun _ _ _ h => h) (Or.inl ⟨by rfl, ?yZ1b_20⟩) ⟨B14.out.c0, B14.out.c1, B14.out.c2, B15.out.c0, B15.out.c1, B15.out.c2, B17.out.c0, B17.out.c1, B17.out.c2⟩ ?rZ1b_20
          case yZ1b_20 => (intro W hSw; (try dsimp only at hSw); obtain ⟨s0, s1, s2, s3, s4, s5, s6, s7, s8⟩ := hSw; first | (go_simp; done) | (go_simp; with_reducible rfl))
          try go_simp
          refine wpAnyH_take (i := 21) (v := ?vZ1b_21) rfl (by kernel_rfl) (by kernel_rfl) (by kernel_rfl) (fun _ _ _ h => h) (Or.inl ⟨by rfl, ?yZ1b_21⟩) ⟨B14.out.c0, B14.out.c1, B14.out.c2, B15.out.c0, B15.out.c1, B15.out.c2, B17.out.c0, B17.out.c1, B17.out.c2⟩ ?rZ1b_21
          case yZ1b_21 => (intro W hSw; (try dsimp only at hSw); obtain ⟨s0, s1, s2, s3, s4, s5, s6, s7, s8⟩ := hSw; first | (go_simp; done) | (go_simp; with_reducible rfl))
          try go_simp
          refine wpAnyH_take (i := 22) (v := ?vZ1b_22) rfl (by kernel_rfl) (by kernel_rfl) (by kernel_rfl) (fun _ _ _ h => h) (Or.inl ⟨by rfl, ?yZ1b_22⟩) ⟨B14.out.c0, B14.out.c1, B14.out.c2, B15.out.c0, B15.out.c1, B15.out.c2, B17.out.c0, B17.out.c1, B17.out.c2⟩ ?rZ1b_22
          case yZ1b_22 => (intro W hSw; (try dsimp only at hSw); obtain ⟨s0, s1, s2, s3, s4, s5, s6, s7, s8⟩ := hSw; first | (go_simp; done) | (go_simp; with_reducible rfl))
          try go_simp
          refine wpAnyH_take (i := 24) (v := ?vZ1b_24) rfl (by kernel_rfl) (by kernel_rfl) (by kernel_rfl) (fun _ _ _ h => h) (Or.inl ⟨by rfl, ?yZ1b_24⟩) ⟨B14.out.c0, B14.out.c1, B14.out.c2, B15.out.c0, B15.out.c1, B15.out.c2, B17.out.c0, B17.out.c1, B17.out.c2⟩ ?rZ1b_24
          case yZ1b_24 => (intro W hSw; (try dsimp only at hSw); obtain ⟨s0, s1, s2, s3, s4, s5, s6, s7, s8⟩ := hSw; first | (go_simp; done) | (go_simp; with_reducible rfl))
          try go_simp
          refine wpAnyH_ready (rs := [23]) (by kernel_rfl) (by simp) ?_
          refine AllReadyH.cons rfl (fun K hK => ?_) AllReadyH.nil
          go_simp
          (go_wp2_with (first | (go_at_call 31; (with_reducible refine (last_any _ k _ H1.out).mono ?_); rintro e w9 ⟨rfl, hb⟩; have HQ := Lib.hid (HQ.out.below hb HQ.out.lt); have H1 := Lib.hid (H1.out.below hb H1.out.lt); have B14 := Lib.hid (B14.out.below hb B14.out.lt); have B15 := Lib.hid (B15.out.below hb B15.out.lt); have B17 := Lib.hid (B17.out.below hb B17.out.lt); have HB := Lib.hid (HB.out.trans (hb.mono HB.out.size)); clear hb)))
          refine hK.out _ _ ⟨B14.out.c0, B14.out.c1, B14.out.c2, B15.out.c0, B15.out.c1, B15.out.c2, B17.out.c0, B17.out.c1, B17.out.c2⟩ (fun _ => ?_)
          clear hK K
          try go_simp
          refine wpAnyH_take (i := 25) (v := ?vZ1b_25) rfl (by kernel_rfl) (by kernel_rfl) (by kernel_rfl) (fun _ _ _ h => h) (Or.inl ⟨by rfl, ?yZ1b_25⟩) ⟨B14.out.c0, B14.out.c1, B14.out.c2, B15.out.c0, B15.out.c1, B15.out.c2, B17.out.c0, B17.out.c1, B17.out.c2⟩ ?rZ1b_25
          case yZ1b_25 => (intro W hSw; (try dsimp only at hSw); obtain ⟨s0, s1, s2, s3, s4, s5, s6, s7, s8⟩ := hSw; first | (go_simp; done) | (go_simp; with_reducible rfl))
          try go_simp
          refine wpAnyH_take (i := 26) (v := ?vZ1b_26) rfl (by kernel_rfl) (by kernel_rfl) (by kernel_rfl) (fun _ _ _ h => h) (Or.inl ⟨by rfl, ?yZ1b_26⟩) ⟨B14.out.c0, B14.out.c1, B14.out.c2, B15.out.c0, B15.out.c1, B15.out.c2, B17.out.c0, B17.out.c1, B17.out.c2⟩ ?rZ1b_26
          case yZ1b_26 => (intro W hSw; (try dsimp only at hSw); obtain ⟨s0, s1, s2, s3, s4, s5, s6, s7, s8⟩ := hSw; first | (go_simp; done) | (go_simp; with_reducible rfl))
          try go_simp
          refine wpAnyH_take (i := 27) (v := ?vZ1b_27) rfl (by kernel_rfl) (by kernel_rfl) (by kernel_rfl) (fun _ _ _ h => h) (Or.inl ⟨by rfl, ?yZ1b_27⟩) ⟨B14.out.c0, B14.out.c1, B14.out.c2, B15.out.c0, B15.out.c1, B15.out.c2, B17.out.c0, B17.out.c1, B17.out.c2⟩ ?rZ1b_27
          case yZ1b_27 => (intro W hSw; (try dsimp only at hSw); obtain ⟨s0, s1, s2, s3, s4, s5, s6, s7, s8⟩ := hSw; first | (go_simp; done) | (go_simp; with_reducible rfl))
          try go_simp
          refine wpAnyH_done (by kernel_rfl) ?_ _
          have u0 := HQ.out.c0
          have u1 := HQ.out.c1
          have u2 := HQ.out.c2
          go_upto_region 22 with (first
            | (go_at_call 29; (with_reducible refine (HO1 _ H1.out).out.mono ?_); rintro e wa ⟨rfl, ht, h1⟩; have HQ := Lib.hid (HQ.out.tn ht (fun e => absurd e (Nat.ne_of_lt HQK.out))); have HB := Lib.hid (HB.out.trans (ht.below (B := w.heap.size) HB.out.size (fun z e => e ▸ HKk.out))); have H1 := Lib.hid h1; clear ht h1)
            | (go_at_call 31; (with_reducible refine (last_any _ k _ H1.out).mono ?_); rintro e wb ⟨rfl, hb⟩; have HL20 := Lib.hid (Nat.lt_of_lt_of_le H1.out.lt hb.size); have HQ := Lib.hid ((HQ.out.below hb HQ.out.lt).alloc (sobj ⟨z1, z2, z3⟩)); have H1 := Lib.hid ((H1.out.below hb H1.out.lt).alloc (sobj ⟨z1, z2, z3⟩)); have HB := Lib.hid ((HB.out.trans (hb.mono HB.out.size)).alloc (Nat.le_trans HB.out.size hb.size) (sobj ⟨z1, z2, z3⟩)); have B20 := Lib.hid (at_new wb ⟨z1, z2, z3⟩); have v0 := HQ.out.c0; have v1 := HQ.out.c1; have v2 := HQ.out.c2; clear hb)
            | (go_at_call 29; (with_reducible refine (HO2 _ H1.out).out.mono ?_); rintro e wc ⟨rfl, ht, h1⟩; have HQ := Lib.hid (HQ.out.tn ht (fun e => absurd e (Nat.ne_of_lt HQK.out))); have B20 := Lib.hid (B20.out.tn ht (fun e => absurd e (Nat.ne_of_gt HL20.out))); have HB := Lib.hid (HB.out.trans (ht.below (B := w.heap.size) HB.out.size (fun z e => e ▸ HKk.out))); have H1 := Lib.hid h1; clear ht h1))
          have HQ := Lib.hid (HQ.out.below (Below.refl _ _).drew HQ.out.lt)
          have H1 := Lib.hid (H1.out.below (Below.refl _ _).drew H1.out.lt)
          have B20 := Lib.hid (B20.out.below (Below.refl _ _).drew B20.out.lt)
          have HB := Lib.hid HB.out.drew
          go_region_held (fun w' => w'.cell? ⟨w.heap.size + 1, 0, none⟩ = some (.int .i64 t1) ∧ w'.cell? ⟨w.heap.size + 1, 1, none⟩ = some (.int .i64 t2) ∧ w'.cell? ⟨w.heap.size + 1, 2, none⟩ = some (.int .i64 t3) ∧ w'.cell? ⟨wb.heap.size, 0, none⟩ = some (.int .i64 z1) ∧ w'.cell? ⟨wb.heap.size, 1, none⟩ = some (.int .i64 z2) ∧ w'.cell? ⟨wb.heap.size, 2, none⟩ = some (.int .i64 z3)) (exact ⟨HQ.out.c0, HQ.out.c1, HQ.out.c2, B20.out.c0, B20.out.c1, B20.out.c2⟩) (first
            | (go_at_call 10; (with_reducible refine (first_any _ (HT.out.below HB.out)).mono ?_); rintro e wd ⟨rfl, hb⟩; have HQ := Lib.hid (HQ.out.below hb HQ.out.lt); have H1 := Lib.hid (H1.out.below hb H1.out.lt); have B20 := Lib.hid (B20.out.below hb B20.out.lt); have HB := Lib.hid (HB.out.trans (hb.mono HB.out.size)); clear hb)
            | (go_at_call 31; (with_reducible refine (last_any _ k _ H1.out).mono ?_); rintro e wd ⟨rfl, hb⟩; have HQ := Lib.hid (HQ.out.below hb HQ.out.lt); have H1 := Lib.hid (H1.out.below hb H1.out.lt); have B20 := Lib.hid (B20.out.below hb B20.out.lt); have HB := Lib.hid (HB.out.trans (hb.mono HB.out.size)); clear hb)
            | (go_at_call 13; (with_reducible refine (HY _).out.mono ?_); rintro e wd ⟨rfl, hb⟩; have HQ := Lib.hid (HQ.out.below hb HQ.out.lt); have H1 := Lib.hid (H1.out.below hb H1.out.lt); have B20 := Lib.hid (B20.out.below hb B20.out.lt); have HB := Lib.hid (HB.out.trans (hb.mono HB.out.size)); clear hb))
          go_wp2
          go_ret
          exact ⟨rfl, HB.out⟩
        · have hi1 : decide ((i : Int) < (l.length : Int)) = true := decide_eq_true (by omega)
          have hi2 : decide ((i : Int) < 2000) = false := decide_eq_false (by omega)
          have hp1 : (i : Int) < (l.length : Int) := by omega
          have hp2 : ¬ (i : Int) < 2000 := by omega
          clear hgo
          go_upto_region 14 with (first
            | (go_at_call 31; (with_reducible refine (last_any _ k _ H1.out).mono ?_); rintro e w5 ⟨rfl, hb⟩; have HL14 := Lib.hid (Nat.lt_of_lt_of_le H1.out.lt hb.size); have HQ := Lib.hid ((HQ.out.below hb HQ.out.lt).alloc (sobj ⟨F1, F2, F3⟩)); have H1 := Lib.hid ((H1.out.below hb H1.out.lt).alloc (sobj ⟨F1, F2, F3⟩)); have HB := Lib.hid ((HB.out.trans (hb.mono HB.out.size)).alloc (Nat.le_trans HB.out.size hb.size) (sobj ⟨F1, F2, F3⟩)); have B14 := Lib.hid (at_new w5 ⟨F1, F2, F3⟩); clear hb)
            | (go_at_call 27; (with_reducible refine (HN1 _ H1.out).out.mono ?_); rintro e w6 ⟨rfl, hb⟩; have HL15 := Lib.hid (Nat.lt_of_lt_of_le H1.out.lt hb.size); have HQ := Lib.hid ((HQ.out.below hb HQ.out.lt).alloc (sobj ⟨x1, x2, x3⟩)); have H1 := Lib.hid ((H1.out.below hb H1.out.lt).alloc (sobj ⟨x1, x2, x3⟩)); have B14 := Lib.hid ((B14.out.below hb B14.out.lt).alloc (sobj ⟨x1, x2, x3⟩)); have HB := Lib.hid ((HB.out.trans (hb.mono HB.out.size)).alloc (Nat.le_trans HB.out.size hb.size) (sobj ⟨x1, x2, x3⟩)); have B15 := Lib.hid (at_new w6 ⟨x1, x2, x3⟩); clear hb))
          have HQ := Lib.hid (HQ.out.below (Below.refl _ _).drew HQ.out.lt)
          have H1 := Lib.hid (H1.out.below (Below.refl _ _).drew H1.out.lt)
          have B14 := Lib.hid (B14.out.below (Below.refl _ _).drew B14.out.lt)
          have B15 := Lib.hid (B15.out.below (Below.refl _ _).drew B15.out.lt)
          have HB := Lib.hid HB.out.drew
          refine wp_region_held (S := (fun w' => w'.cell? ⟨w5.heap.size, 0, none⟩ = some (.int .i64 F1) ∧ w'.cell? ⟨w5.heap.size, 1, none⟩ = some (.int .i64 F2) ∧ w'.cell? ⟨w5.heap.size, 2, none⟩ = some (.int .i64 F3))) (by kernel_rfl) ?_
          change wpAnyH _ _ _ _ _ _ _ _ (World.drew _)
          refine wpAnyH_take (i := 0) (v := ?vZ2a_0) rfl (by kernel_rfl) (by kernel_rfl) (by kernel_rfl) (fun _ _ _ h => h) (Or.inl ⟨by rfl, ?yZ2a_0⟩) ⟨B14.out.c0, B14.out.c1, B14.out.c2⟩ ?rZ2a_0
          case yZ2a_0 => (intro W hSw; (try dsimp only at hSw); obtain ⟨s0, s1, s2⟩ := hSw; first | (go_simp; done) | (go_simp; with_reducible rfl))
          try go_simp
          refine wpAnyH_take (i := 2) (v := ?vZ2a_2) rfl (by kernel_rfl) (by kernel_rfl) (by kernel_rfl) (fun _ _ _ h => h) (Or.inl ⟨by rfl, ?yZ2a_2⟩) ⟨B14.out.c0, B14.out.c1, B14.out.c2⟩ ?rZ2a_2
          case yZ2a_2 => (intro W hSw; (try dsimp only at hSw); obtain ⟨s0, s1, s2⟩ := hSw; first | (go_simp; done) | (go_simp; with_reducible rfl))
          try go_simp
          refine wpAnyH_ready (rs := [1]) (by kernel_rfl) (by simp) ?_
          refine AllReadyH.cons rfl (fun K hK => ?_) AllReadyH.nil
          go_simp
          (go_wp2_with (first | (go_at_call 31; (with_reducible refine (last_any _ k _ H1.out).mono ?_); rintro e w7 ⟨rfl, hb⟩; have HQ := Lib.hid (HQ.out.below hb HQ.out.lt); have H1 := Lib.hid (H1.out.below hb H1.out.lt); have B14 := Lib.hid (B14.out.below hb B14.out.lt); have B15 := Lib.hid (B15.out.below hb B15.out.lt); have HB := Lib.hid (HB.out.trans (hb.mono HB.out.size)); clear hb)))
          refine hK.out _ _ ⟨B14.out.c0, B14.out.c1, B14.out.c2⟩ (fun _ => ?_)
          clear hK K
          try go_simp
          refine wpAnyH_take (i := 3) (v := ?vZ2a_3) rfl (by kernel_rfl) (by kernel_rfl) (by kernel_rfl) (fun _ _ _ h => h) (Or.inl ⟨by rfl, ?yZ2a_3⟩) ⟨B14.out.c0, B14.out.c1, B14.out.c2⟩ ?rZ2a_3
          case yZ2a_3 => (intro W hSw; (try dsimp only at hSw); obtain ⟨s0, s1, s2⟩ := hSw; first | (go_simp; done) | (go_simp; with_reducible rfl))
          try go_simp
          refine wpAnyH_done (by kernel_rfl) ?_ _
          have k0 := H1.out.lt
          go_upto_region 17 with (first
            | (go_at_call 25; (with_reducible refine (HN2 _ H1.out).out.mono ?_); rintro e w8 ⟨rfl, ht, h1⟩; have HL17 := Lib.hid h1.lt; have HQ := Lib.hid ((HQ.out.tn ht (fun e => absurd e (Nat.ne_of_lt HQK.out))).alloc (sobj ⟨x1, x2, x3⟩)); have B14 := Lib.hid ((B14.out.tn ht (fun e => absurd e (Nat.ne_of_gt HL14.out))).alloc (sobj ⟨x1, x2, x3⟩)); have B15 := Lib.hid ((B15.out.tn ht (fun e => absurd e (Nat.ne_of_gt HL15.out))).alloc (sobj ⟨x1, x2, x3⟩)); have HB := Lib.hid ((HB.out.trans (ht.below (B := w.heap.size) HB.out.size (fun z e => e ▸ HKk.out))).alloc (Nat.le_trans HB.out.size ht.size) (sobj ⟨x1, x2, x3⟩)); have H1 := Lib.hid (h1.alloc (sobj ⟨x1, x2, x3⟩)); have B17 := Lib.hid (at_new w8 ⟨x1, x2, x3⟩); clear ht h1))
          have HQ := Lib.hid (HQ.out.below (Below.refl _ _).drew HQ.out.lt)
          have H1 := Lib.hid (H1.out.below (Below.refl _ _).drew H1.out.lt)
          have B14 := Lib.hid (B14.out.below (Below.refl _ _).drew B14.out.lt)
          have B15 := Lib.hid (B15.out.below (Below.refl _ _).drew B15.out.lt)
          have B17 := Lib.hid (B17.out.below (Below.refl _ _).drew B17.out.lt)
          have HB := Lib.hid HB.out.drew
          refine wp_region_held (S := (fun w' => w'.cell? ⟨w5.heap.size, 0, none⟩ = some (.int .i64 F1) ∧ w'.cell? ⟨w5.heap.size, 1, none⟩ = some (.int .i64 F2) ∧ w'.cell? ⟨w5.heap.size, 2, none⟩ = some (.int .i64 F3) ∧ w'.cell? ⟨w6.heap.size, 0, none⟩ = some (.int .i64 x1) ∧ w'.cell? ⟨w6.heap.size, 1, none⟩ = some (.int .i64 x2) ∧ w'.cell? ⟨w6.heap.size, 2, none⟩ = some (.int .i64 x3) ∧ w'.cell? ⟨w8.heap.size, 0, none⟩ = some (.int .i64 x1) ∧ w'.cell? ⟨w8.heap.size, 1, none⟩ = some (.int .i64 x2) ∧ w'.cell? ⟨w8.heap.size, 2, none⟩ = some (.int .i64 x3))) (by kernel_rfl) ?_
          change wpAnyH _ _ _ _ _ _ _ _ (World.drew _)
          refine wpAnyH_take (i := 0) (v := ?vZ2b_0) rfl (by kernel_rfl) (by kernel_rfl) (by kernel_rfl) (fun _ _ _ h => h) (Or.inl ⟨by rfl, ?yZ2b_0⟩) ⟨B14.out.c0, B14.out.c1, B14.out.c2, B15.out.c0, B15.out.c1, B15.out.c2, B17.out.c0, B17.out.c1, B17.out.c2⟩ ?rZ2b_0
          case yZ2b_0 => (intro W hSw; (try dsimp only at hSw); obtain ⟨s0, s1, s2, s3, s4, s5, s6, s7, s8⟩ := hSw; first | (go_simp; done) | (go_simp; with_reducible rfl))
          try go_simp
          refine wpAnyH_take (i := 1) (v := ?vZ2b_1) rfl (by kernel_rfl) (by kernel_rfl) (by kernel_rfl) (fun _ _ _ h => h) (Or.inl ⟨by rfl, ?yZ2b_1⟩) ⟨B14.out.c0, B14.out.c1, B14.out.c2, B15.out.c0, B15.out.c1, B15.out.c2, B17.out.c0, B17.out.c1, B17.out.c2⟩ ?rZ2b_1
          case yZ2b_1 => (intro W hSw; (try dsimp only at hSw); obtain ⟨s0, s1, s2, s3, s4, s5, s6, s7, s8⟩ := hSw; first | (go_simp; done) | (go_simp; with_reducible rfl))
          try go_simp
          refine wpAnyH_take (i := 2) (v := ?vZ2b_2) rfl (by kernel_rfl) (by kernel_rfl) (by kernel_rfl) (fun _ _ _ h => h) (Or.inl ⟨by rfl, ?yZ2b_2⟩) ⟨B14.out.c0, B14.out.c1, B14.out.c2, B15.out.c0, B15.out.c1, B15.out.c2, B17.out.c0, B17.out.c1, B17.out.c2⟩ ?rZ2b_2
          case yZ2b_2 => (intro W hSw; (try dsimp only at hSw); obtain ⟨s0, s1, s2, s3, s4, s5, s6, s7, s8⟩ := hSw; first | (go_simp; done) | (go_simp; with_reducible rfl))
          try go_simp
          refine wpAnyH_take (i := 3) (v := ?vZ2b_3) rfl (by kernel_rfl) (by kernel_rfl) (by kernel_rfl) (fun _ _ _ h => h) (Or.inl ⟨by rfl, ?yZ2b_3⟩) ⟨B14.out.c0, B14.out.c1, B14.out.c2, B15.out.c0, B15.out.c1, B15.out.c2, B17.out.c0, B17.out.c1, B17.out.c2⟩ ?rZ2b_3
          case yZ2b_3 => (intro W hSw; (try dsimp only at hSw); obtain ⟨s0, s1, s2, s3, s4, s5, s6, s7, s8⟩ := hSw; first | (go_simp; done) | (go_simp; with_reducible rfl))
          try go_simp
          refine wpAnyH_take (i := 4) (v := ?vZ2b_4) rfl (by kernel_rfl) (by kernel_rfl) (by kernel_rfl) (fun _ _ _ h => h) (Or.inl ⟨by rfl, ?yZ2b_4⟩) ⟨B14.out.c0, B14.out.c1, B14.out.c2, B15.out.c0, B15.out.c1, B15.out.c2, B17.out.c0, B17.out.c1, B17.out.c2⟩ ?rZ2b_4
          case yZ2b_4 => (intro W hSw; (try dsimp only at hSw); obtain ⟨s0, s1, s2, s3, s4, s5, s6, s7, s8⟩ := hSw; first | (go_simp; done) | (go_simp; with_reducible rfl))
          try go_simp
          refine wpAnyH_take (i := 5) (v := ?vZ2b_5) rfl (by kernel_rfl) (by kernel_rfl) (by kernel_rfl) (fun _ _ _ h => h) (Or.inl ⟨by rfl, ?yZ2b_5⟩) ⟨B14.out.c0, B14.out.c1, B14.out.c2, B15.out.c0, B15.out.c1, B15.out.c2, B17.out.c0, B17.out.c1, B17.out.c2⟩ ?rZ2b_5
          case yZ2b_5 => (intro W hSw; (try dsimp only at hSw); obtain ⟨s0, s1, s2, s3, s4, s5, s6, s7, s8⟩ := hSw; first | (go_simp; done) | (go_simp; with_reducible rfl))
          try go_simp
          refine wpAnyH_take (i := 6) (v := ?vZ2b_6) rfl (by kernel_rfl) (by kernel_rfl) (by kernel_rfl) (fun _ _ _ h => h) (Or.inl ⟨by rfl, ?yZ2b_6⟩) ⟨B14.out.c0, B14.out.c1, B14.out.c2, B15.out.c0, B15.out.c1, B15.out.c2, B17.out.c0, B17.out.c1, B17.out.c2⟩ ?rZ2b_6
          case yZ2b_6 => (intro W hSw; (try dsimp only at hSw); obtain ⟨s0, s1, s2, s3, s4, s5, s6, s7, s8⟩ := hSw; first | (go_simp; done) | (go_simp; with_reducible rfl))
          try go_simp
          refine wpAnyH_take (i := 7) (v := ?vZ2b_7) rfl (by kernel_rfl) (by kernel_rfl) (by kernel_rfl) (fun _ _ _ h => h) (Or.inl ⟨by rfl, ?yZ2b_7⟩) ⟨B14.out.c0, B14.out.c1, B14.out.c2, B15.out.c0, B15.out.c1, B15.out.c2, B17.out.c0, B17.out.c1, B17.out.c2⟩ ?rZ2b_7
          case yZ2b_7 => (intro W hSw; (try dsimp only at hSw); obtain ⟨s0, s1, s2, s3, s4, s5, s6, s7, s8⟩ := hSw; first | (go_simp; done) | (go_simp; with_reducible rfl))
          try go_simp
          refine wpAnyH_take (i := 8) (v := ?vZ2b_8) rfl (by kernel_rfl) (by kernel_rfl) (by kernel_rfl) (fun _ _ _ h => h) (Or.inl ⟨by rfl, ?yZ2b_8⟩) ⟨B14.out.c0, B14.out.c1, B14.out.c2, B15.out.c0, B15.out.c1, B15.out.c2, B17.out.c0, B17.out.c1, B17.out.c2⟩ ?rZ2b_8
          case yZ2b_8 => (intro W hSw; (try dsimp only at hSw); obtain ⟨s0, s1, s2, s3, s4, s5, s6, s7, s8⟩ := hSw; first | (go_simp; done) | (go_simp; with_reducible rfl))
          try go_simp
          refine wpAnyH_take (i := 9) (v := ?vZ2b_9) rfl (by kernel_rfl) (by kernel_rfl) (by kernel_rfl) (fun _ _ _ h => h) (Or.inl ⟨by rfl, ?yZ2b_9⟩) ⟨B14.out.c0, B14.out.c1, B14.out.c2, B15.out.c0, B15.out.c1, B15.out.c2, B17.out.c0, B17.out.c1, B17.out.c2⟩ ?rZ2b_9
          case yZ2b_9 => (intro W hSw; (try dsimp only at hSw); obtain ⟨s0, s1, s2, s3, s4, s5, s6, s7, s8⟩ := hSw; first | (go_simp; done) | (go_simp; with_reducible rfl))
          try go_simp
          refine wpAnyH_take (i := 10) (v := ?vZ2b_10) rfl (by kernel_rfl) (by kernel_rfl) (by kernel_rfl) (fun _ _ _ h => h) (Or.inl ⟨by rfl, ?yZ2b_10⟩) ⟨B14.out.c0, B14.out.c1, B14.out.c2, B15.out.c0, B15.out.c1, B15.out.c2, B17.out.c0, B17.out.c1, B17.out.c2⟩ ?rZ2b_10
          case yZ2b_10 => (intro W hSw; (try dsimp only at hSw); obtain ⟨s0, s1, s2, s3, s4, s5, s6, s7, s8⟩ := hSw; first | (go_simp; done) | (go_simp; with_reducible rfl))
          try go_simp
          refine wpAnyH_take (i := 11) (v := ?vZ2b_11) rfl (by kernel_rfl) (by kernel_rfl) (by kernel_rfl) (fun _ _ _ h => h) (Or.inl ⟨by rfl, ?yZ2b_11⟩) ⟨B14.out.c0, B14.out.c1, B14.out.c2, B15.out.c0, B15.out.c1, B15.out.c2, B17.out.c0, B17.out.c1, B17.out.c2⟩ ?rZ2b_11
          case yZ2b_11 => (intro W hSw; (try dsimp only at hSw); obtain ⟨s0, s1, s2, s3, s4, s5, s6, s7, s8⟩ := hSw; first | (go_simp; done) | (go_simp; with_reducible rfl))
          try go_simp
          refine wpAnyH_take (i := 12) (v := undef) rfl (by kernel_rfl) (by kernel_rfl) (by kernel_rfl) (fun _ _ _ h => h) (Or.inr ⟨by rfl, rfl⟩) ⟨B14.out.c0, B14.out.c1, B14.out.c2, B15.out.c0, B15.out.c1, B15.out.c2, B17.out.c0, B17.out.c1, B17.out.c2⟩ ?rZ2b_12
          try go_simp
          refine wpAnyH_take (i := 13) (v := undef) rfl (by kernel_rfl) (by kernel_rfl) (by kernel_rfl) (fun _ _ _ h => h) (Or.inr ⟨by rfl, rfl⟩) ⟨B14.out.c0, B14.out.c1, B14.out.c2, B15.out.c0, B15.out.c1, B15.out.c2, B17.out.c0, B17.out.c1, B17.out.c2⟩ ?rZ2b_13
          try go_simp
          refine wpAnyH_take (i := 14) (v := undef) rfl (by kernel_rfl) (by kernel_rfl) (by kernel_rfl) (fun _ _ _ h => h) (Or.inr ⟨by rfl, rfl⟩) ⟨B14.out.c0, B14.out.c1, B14.out.c2, B15.out.c0, B15.out.c1, B15.out.c2, B17.out.c0, B17.out.c1, B17.out.c2⟩ ?rZ2b_14
          try go_simp
          refine wpAnyH_take (i := 15) (v := undef) rfl (by kernel_rfl) (by kernel_rfl) (by kernel_rfl) (fun _ _ _ h => h) (Or.inr ⟨by rfl, rfl⟩) ⟨B14.out.c0, B14.out.c1, B14.out.c2, B15.out.c0, B15.out.c1, B15.out.c2, B17.out.c0, B17.out.c1, B17.out.c2⟩ ?rZ2b_15
          try go_simp
          refine wpAnyH_take (i := 16) (v := ?vZ2b_16) rfl (by kernel_rfl) (by kernel_rfl) (by kernel_rfl) (fun _ _ _ h => h) (Or.inl ⟨by rfl, ?yZ2b_16⟩) ⟨B14.out.c0, B14.out.c1, B14.out.c2, B15.out.c0, B15.out.c1, B15.out.c2, B17.out.c0, B17.out.c1, B17.out.c2⟩ ?rZ2b_16
          case yZ2b_16 => (intro W hSw; (try dsimp only at hSw); obtain ⟨s0, s1, s2, s3, s4, s5, s6, s7, s8⟩ := hSw; first | (go_simp; done) | (go_simp; with_reducible rfl))
          try go_simp
          refine wpAnyH_take (i := 17) (v := ?vZ2b_17) rfl (by kernel_rfl) (by kernel_rfl) (by kernel_rfl) (fun _ _ _ h => h) (Or.inl ⟨by rfl, ?yZ2b_17⟩) ⟨B14.out.c0, B14.out.c1, B14.out.c2, B15.out.c0, B15.out.c1, B15.out.c2, B17.out.c0, B17.out.c1, B17.out.c2⟩ ?rZ2b_17
          case yZ2b_17 => (intro W hSw; (try dsimp only at hSw); obtain ⟨s0, s1, s2, s3, s4, s5, s6, s7, s8⟩ := hSw; first | (go_simp; done) | (go_simp; with_reducible rfl))
          try go_simp
          refine wpAnyH_take (i := 18) (v := ?vZ2b_18) rfl (by kernel_rfl) (by kernel_rfl) (by kernel_rfl) (fun _ _ _ h => h) (Or.inl ⟨by rfl, ?yZ2b_18⟩) ⟨B14.out.c0, B14.out.c1, B14.out.c2, B15.out.c0, B15.out.c1, B15.out.c2, B17.out.c0, B17.out.c1, B17.out.c2⟩ ?rZ2b_18
          case yZ2b_18 => (intro W hSw; (try dsimp only at hSw); obtain ⟨s0, s1, s2, s3, s4, s5, s6, s7, s8⟩ := hSw; first | (go_simp; done) | (go_simp; with_reducible rfl))
          try go_simp
          refine wpAnyH_take (i := 19) (v := ?vZ2b_19) rfl (by kernel_rfl) (by kernel_rfl) (by kernel_rfl) (fun _ _ _ h => h) (Or.inl ⟨by rfl, ?yZ2b_19⟩) ⟨B14.out.c0, B14.out.c1, B14.out.c2, B15.out.c0, B15.out.c1, B15.out.c2, B17.out.c0, B17.out.c1, B17.out.c2⟩ ?rZ2b_19
          case yZ2b_19 => (intro W hSw; (try dsimp only at hSw); obtain ⟨s0, s1, s2, s3, s4, s5, s6, s7, s8⟩ := hSw; first | (go_simp; done) | (go_simp; with_reducible rfl))
          try go_simp
          refine wpAnyH_take (i := 20) (v := ?vZ2b_20) rfl (by kernel_rfl) (by kernel_rfl) (by kernel_rfl) (fun _ _ _ h => h) (Or.inl ⟨by rfl, ?yZ2b_20⟩) ⟨B14.out.c0, B14.out.c1, B14.out.c2, B15.out.c0, B15.out.c1, B15.out.c2, B17.out.c0, B17.out.c1, B17.out.c2⟩ ?rZ2b_20
          case yZ2b_20 => (intro W hSw; (try dsimp only at hSw); obtain ⟨s0, s1, s2, s3, s4, s5, s6, s7, s8⟩ := hSw; first | (go_simp; done) | (go_simp; with_reducible rfl))
          try go_simp
          refine wpAnyH_take (i := 21) (v := ?vZ2b_21) rfl (by kernel_rfl) (by kernel_rfl) (by kernel_rfl) (fun _ _ _ h => h) (Or.inl ⟨by rfl, ?yZ2b_21⟩) ⟨B14.out.c0, B14.out.c1, B14.out.c2, B15.out.c0, B15.out.c1, B15.out.c2, B17.out.c0, B17.out.c1, B17.out.c2⟩ ?rZ2b_21
          case yZ2b_21 => (intro W hSw; (try dsimp only at hSw); obtain ⟨s0, s1, s2, s3, s4, s5, s6, s7, s8⟩ := hSw; first | (go_simp; done) | (go_simp; with_reducible rfl))
          try go_simp
          refine wpAnyH_take (i := 22) (v := ?vZ2b_22) rfl (by kernel_rfl) (by kernel_rfl) (by kernel_rfl) (fun _ _ _ h => h) (Or.inl ⟨by rfl, ?yZ2b_22⟩) ⟨B14.out.c0, B14.out.c1, B14.out.c2, B15.out.c0, B15.out.c1, B15.out.c2, B17.out.c0, B17.out.c1, B17.out.c2⟩ ?rZ2b_22
          case yZ2b_22 => (intro W hSw; (try dsimp only at hSw); obtain ⟨s0, s1, s2, s3, s4, s5, s6, s7, s8⟩ := hSw; first | (go_simp; done) | (go_simp; with_reducible rfl))
          try go_simp
          refine wpAnyH_take (i := 24) (v := ?vZ2b_24) rfl (by kernel_rfl) (by kernel_rfl) (by kernel_rfl) (fun _ _ _ h => h) (Or.inl ⟨by rfl, ?yZ2b_24⟩) ⟨B14.out.c0, B14.out.c1, B14.out.c2, B15.out.c0, B15.out.c1, B15.out.c2, B17.out.c0, B17.out.c1, B17.out.c2⟩ ?rZ2b_24
          case yZ2b_24 => (intro W hSw; (try dsimp only at hSw); obtain ⟨s0, s1, s2, s3, s4, s5, s6, s7, s8⟩ := hSw; first | (go_simp; done) | (go_simp; with_reducible rfl))
          try go_simp
          refine wpAnyH_ready (rs := [23]) (by kernel_rfl) (by simp) ?_
          refine AllReadyH.cons rfl (fun K hK => ?_) AllReadyH.nil
          go_simp
          (go_wp2_with (first | (go_at_call 31; (with_reducible refine (last_any _ k _ H1.out).mono ?_); rintro e w9 ⟨rfl, hb⟩; have HQ := Lib.hid (HQ.out.below hb HQ.out.lt); have H1 := Lib.hid (H1.out.below hb H1.out.lt); have B14 := Lib.hid (B14.out.below hb B14.out.lt); have B15 := Lib.hid (B15.out.below hb B15.out.lt); have B17 := Lib.hid (B17.out.below hb B17.out.lt); have HB := Lib.hid (HB.out.trans (hb.mono HB.out.size)); clear hb)))
          refine hK.out _ _ ⟨B14.out.c0, B14.out.c1, B14.out.c2, B15.out.c0, B15.out.c1, B15.out.c2, B17.out.c0, B17.out.c1, B17.out.c2⟩ (fun _ => ?_)
          clear hK K
          try go_simp
          refine wpAnyH_take (i := 25) (v := ?vZ2b_25) rfl (by kernel_rfl) (by kernel_rfl) (by kernel_rfl) (fun _ _ _ h => h) (Or.inl ⟨by rfl, ?yZ2b_25⟩) ⟨B14.out.c0, B14.out.c1, B14.out.c2, B15.out.c0, B15.out.c1, B15.out.c2, B17.out.c0, B17.out.c1, B17.out.c2⟩ ?rZ2b_25
          case yZ2b_25 => (intro W hSw; (try dsimp only at hSw); obtain ⟨s0, s1, s2, s3, s4, s5, s6, s7, s8⟩ := hSw; first | (go_simp; done) | (go_simp; with_reducible rfl))
          try go_simp
          refine wpAnyH_take (i := 26) (v := ?vZ2b_26) rfl (by kernel_rfl) (by kernel_rfl) (by kernel_rfl) (fun _ _ _ h => h) (Or.inl ⟨by rfl, ?yZ2b_26⟩) ⟨B14.out.c0, B14.out.c1, B14.out.c2, B15.out.c0, B15.out.c1, B15.out.c2, B17.out.c0, B17.out.c1, B17.out.c2⟩ ?rZ2b_26
          case yZ2b_26 => (intro W hSw; (try dsimp only at hSw); obtain ⟨s0, s1, s2, s3, s4, s5, s6, s7, s8⟩ := hSw; first | (go_simp; done) | (go_simp; with_reducible rfl))
          try go_simp
          refine wpAnyH_take (i := 27) (v := ?vZ2b_27) rfl (by kernel_rfl) (by kernel_rfl) (by kernel_rfl) (fun _ _ _ h => h) (Or.inl ⟨by rfl, ?yZ2b_27⟩) ⟨B14.out.c0, B14.out.c1, B14.out.c2, B15.out.c0, B15.out.c1, B15.out.c2, B17.out.c0, B17.out.c1, B17.out.c2⟩ ?rZ2b_27
          case yZ2b_27 => (intro W hSw; (try dsimp only at hSw); obtain ⟨s0, s1, s2, s3, s4, s5, s6, s7, s8⟩ := hSw; first | (go_simp; done) | (go_simp; with_reducible rfl))
          try go_simp
          refine wpAnyH_done (by kernel_rfl) ?_ _
          have u0 := HQ.out.c0
          have u1 := HQ.out.c1
          have u2 := HQ.out.c2
          go_upto_region 22 with (first
            | (go_at_call 29; (with_reducible refine (HO1 _ H1.out).out.mono ?_); rintro e wa ⟨rfl, ht, h1⟩; have HQ := Lib.hid (HQ.out.tn ht (fun e => absurd e (Nat.ne_of_lt HQK.out))); have HB := Lib.hid (HB.out.trans (ht.below (B := w.heap.size) HB.out.size (fun z e => e ▸ HKk.out))); have H1 := Lib.hid h1; clear ht h1)
            | (go_at_call 31; (with_reducible refine (last_any _ k _ H1.out).mono ?_); rintro e wb ⟨rfl, hb⟩; have HL20 := Lib.hid (Nat.lt_of_lt_of_le H1.out.lt hb.size); have HQ := Lib.hid ((HQ.out.below hb HQ.out.lt).alloc (sobj ⟨z1, z2, z3⟩)); have H1 := Lib.hid ((H1.out.below hb H1.out.lt).alloc (sobj ⟨z1, z2, z3⟩)); have HB := Lib.hid ((HB.out.trans (hb.mono HB.out.size)).alloc (Nat.le_trans HB.out.size hb.size) (sobj ⟨z1, z2, z3⟩)); have B20 := Lib.hid (at_new wb ⟨z1, z2, z3⟩); have v0 := HQ.out.c0; have v1 := HQ.out.c1; have v2 := HQ.out.c2; clear hb)
            | (go_at_call 29; (with_reducible refine (HO2 _ H1.out).out.mono ?_); rintro e wc ⟨rfl, ht, h1⟩; have HQ := Lib.hid (HQ.out.tn ht (fun e => absurd e (Nat.ne_of_lt HQK.out))); have B20 := Lib.hid (B20.out.tn ht (fun e => absurd e (Nat.ne_of_gt HL20.out))); have HB := Lib.hid (HB.out.trans (ht.below (B := w.heap.size) HB.out.size (fun z e => e ▸ HKk.out))); have H1 := Lib.hid h1; clear ht h1))
          have HQ := Lib.hid (HQ.out.below (Below.refl _ _).drew HQ.out.lt)
          have H1 := Lib.hid (H1.out.below (Below.refl _ _).drew H1.out.lt)
          have B20 := Lib.hid (B20.out.below (Below.refl _ _).drew B20.out.lt)
          have HB := Lib.hid HB.out.drew
          go_region_held (fun w' => w'.cell? ⟨w.heap.size + 1, 0, none⟩ = some (.int .i64 t1) ∧ w'.cell? ⟨w.heap.size + 1, 1, none⟩ = some (.int .i64 t2) ∧ w'.cell? ⟨w.heap.size + 1, 2, none⟩ = some (.int .i64 t3) ∧ w'.cell? ⟨wb.heap.size, 0, none⟩ = some (.int .i64 z1) ∧ w'.cell? ⟨wb.heap.size, 1, none⟩ = some (.int .i64 z2) ∧ w'.cell? ⟨wb.heap.size, 2, none⟩ = some (.int .i64 z3)) (exact ⟨HQ.out.c0, HQ.out.c1, HQ.out.c2, B20.out.c0, B20.out.c1, B20.out.c2⟩) (first
            | (go_at_call 10; (with_reducible refine (first_any _ (HT.out.below HB.out)).mono ?_); rintro e wd ⟨rfl, hb⟩; have HQ := Lib.hid (HQ.out.below hb HQ.out.lt); have H1 := Lib.hid (H1.out.below hb H1.out.lt); have B20 := Lib.hid (B20.out.below hb B20.out.lt); have HB := Lib.hid (HB.out.trans (hb.mono HB.out.size)); clear hb)
            | (go_at_call 31; (with_reducible refine (last_any _ k _ H1.out).mono ?_); rintro e wd ⟨rfl, hb⟩; have HQ := Lib.hid (HQ.out.below hb HQ.out.lt); have H1 := Lib.hid (H1.out.below hb H1.out.lt); have B20 := Lib.hid (B20.out.below hb B20.out.lt); have HB := Lib.hid (HB.out.trans (hb.mono HB.out.size)); clear hb)
            | (go_at_call 13; (with_reducible refine (HY _).out.mono ?_); rintro e wd ⟨rfl, hb⟩; have HQ := Lib.hid (HQ.out.below hb HQ.out.lt); have H1 := Lib.hid (H1.out.below hb H1.out.lt); have B20 := Lib.hid (B20.out.below hb B20.out.lt); have HB := Lib.hid (HB.out.trans (hb.mono HB.out.size)); clear hb))
          go_wp2
          go_ret
          exact ⟨rfl, HB.out⟩
      · rw [if_neg hx] at hG
        subst hG
        have hx1 : (x4 != 0) = true := by simpa using hx
        have hx2 : (x4 == 0) = false := by simpa using hx
        clear hx
        rcases (show (¬ i < l.length) ∨ (i < l.length ∧ ¬ i < 2000) by omega) with hc | ⟨hc1, hc2⟩
        · have hi1 : decide ((i : Int) < (l.length : Int)) = false := decide_eq_false (by omega)
          have hp1 : ¬ (i : Int) < (l.length : Int) := by omega
          clear hgo
          go_upto_region 14 with (first
            | (go_at_call 31; (with_reducible refine (last_any _ k _ H1.out).mono ?_); rintro e w5 ⟨rfl, hb⟩; have HL14 := Lib.hid (Nat.lt_of_lt_of_le H1.out.lt hb.size); have HQ := Lib.hid ((HQ.out.below hb HQ.out.lt).alloc (sobj ⟨F1, F2, F3⟩)); have H1 := Lib.hid ((H1.out.below hb H1.out.lt).alloc (sobj ⟨F1, F2, F3⟩)); have HB := Lib.hid ((HB.out.trans (hb.mono HB.out.size)).alloc (Nat.le_trans HB.out.size hb.size) (sobj ⟨F1, F2, F3⟩)); have B14 := Lib.hid (at_new w5 ⟨F1, F2, F3⟩); clear hb)
            | (go_at_call 27; (with_reducible refine (HN1 _ H1.out).out.mono ?_); rintro e w6 ⟨rfl, hb⟩; have HL15 := Lib.hid (Nat.lt_of_lt_of_le H1.out.lt hb.size); have HQ := Lib.hid ((HQ.out.below hb HQ.out.lt).alloc (sobj ⟨x1, x2, x3⟩)); have H1 := Lib.hid ((H1.out.below hb H1.out.lt).alloc (sobj ⟨x1, x2, x3⟩)); have B14 := Lib.hid ((B14.out.below hb B14.out.lt).alloc (sobj ⟨x1, x2, x3⟩)); have HB := Lib.hid ((HB.out.trans (hb.mono HB.out.size)).alloc (Nat.le_trans HB.out.size hb.size) (sobj ⟨x1, x2, x3⟩)); have B15 := Lib.hid (at_new w6 ⟨x1, x2, x3⟩); clear hb))
          have HQ := Lib.hid (HQ.out.below (Below.refl _ _).drew HQ.out.lt)
          have H1 := Lib.hid (H1.out.below (Below.refl _ _).drew H1.out.lt)
          have B14 := Lib.hid (B14.out.below (Below.refl _ _).drew B14.out.lt)
          have B15 := Lib.hid (B15.out.below (Below.refl _ _).drew B15.out.lt)
          have HB := Lib.hid HB.out.drew
          refine wp_region_held (S := (fun w' => w'.cell? ⟨w5.heap.size, 0, none⟩ = some (.int .i64 F1) ∧ w'.cell? ⟨w5.heap.size, 1, none⟩ = some (.int .i64 F2) ∧ w'.cell? ⟨w5.heap.size, 2, none⟩ = some (.int .i64 F3))) (by kernel_rfl) ?_
          change wpAnyH _ _ _ _ _ _ _ _ (World.drew _)
          refine wpAnyH_take (i := 0) (v := ?vN1a_0) rfl (by kernel_rfl) (by kernel_rfl) (by kernel_rfl) (fun _ _ _ h => h) (Or.inl ⟨by rfl, ?yN1a_0⟩) ⟨B14.out.c0, B14.out.c1, B14.out.c2⟩ ?rN1a_0
          case yN1a_0 => (intro W hSw; (try dsimp only at hSw); obtain ⟨s0, s1, s2⟩ := hSw; first | (go_simp; done) | (go_simp; with_reducible rfl))
          try go_simp
          refine wpAnyH_take (i := 2) (v := ?vN1a_2) rfl (by kernel_rfl) (by kernel_rfl) (by kernel_rfl) (fun _ _ _ h => h) (Or.inl ⟨by rfl, ?yN1a_2⟩) ⟨B14.out.c0, B14.out.c1, B14.out.c2⟩ ?rN1a_2
          case yN1a_2 => (intro W hSw; (try dsimp only at hSw); obtain ⟨s0, s1, s2⟩ := hSw; first | (go_simp; done) | (go_simp; with_reducible rfl))
          try go_simp
          refine wpAnyH_ready (rs := [1]) (by kernel_rfl) (by simp) ?_
          refine AllReadyH.cons rfl (fun K hK => ?_) AllReadyH.nil
          go_simp
          (go_wp2_with (first | (go_at_call 31; (with_reducible refine (last_any _ k _ H1.out).mono ?_); rintro e w7 ⟨rfl, hb⟩; have HQ := Lib.hid (HQ.out.below hb HQ.out.lt); have H1 := Lib.hid (H1.out.below hb H1.out.lt); have B14 := Lib.hid (B14.out.below hb B14.out.lt); have B15 := Lib.hid (B15.out.below hb B15.out.lt); have HB := Lib.hid (HB.out.trans (hb.mono HB.out.size)); clear hb)))
          refine hK.out _ _ ⟨B14.out.c0, B14.out.c1, B14.out.c2⟩ (fun _ => ?_)
          clear hK K
          try go_simp
          refine wpAnyH_take (i := 3) (v := ?vN1a_3) rfl (by kernel_rfl) (by kernel_rfl) (by kernel_rfl) (fun _ _ _ h => h) (Or.inl ⟨by rfl, ?yN1a_3⟩) ⟨B14.out.c0, B14.out.c1, B14.out.c2⟩ ?rN1a_3
          case yN1a_3 => (intro W hSw; (try dsimp only at hSw); obtain ⟨s0, s1, s2⟩ := hSw; first | (go_simp; done) | (go_simp; with_reducible rfl))
          try go_simp
          refine wpAnyH_done (by kernel_rfl) ?_ _
          have k0 := H1.out.lt
          go_upto_region 17 with (first
            | (go_at_call 25; (with_reducible refine (HN2 _ H1.out).out.mono ?_); rintro e w8 ⟨rfl, ht, h1⟩; have HL17 := Lib.hid h1.lt; have HQ := Lib.hid ((HQ.out.tn ht (fun e => absurd e (Nat.ne_of_lt HQK.out))).alloc (sobj ⟨x1, x2, x3⟩)); have B14 := Lib.hid ((B14.out.tn ht (fun e => absurd e (Nat.ne_of_gt HL14.out))).alloc (sobj ⟨x1, x2, x3⟩)); have B15 := Lib.hid ((B15.out.tn ht (fun e => absurd e (Nat.ne_of_gt HL15.out))).alloc (sobj ⟨x1, x2, x3⟩)); have HB := Lib.hid ((HB.out.trans (ht.below (B := w.heap.size) HB.out.size (fun z e => e ▸ HKk.out))).alloc (Nat.le_trans HB.out.size ht.size) (sobj ⟨x1, x2, x3⟩)); have H1 := Lib.hid (h1.alloc (sobj ⟨x1, x2, x3⟩)); have B17 := Lib.hid (at_new w8 ⟨x1, x2, x3⟩); clear ht h1))
          have HQ := Lib.hid (HQ.out.below (Below.refl _ _).drew HQ.out.lt)
          have H1 := Lib.hid (H1.out.below (Below.refl _ _).drew H1.out.lt)
          have B14 := Lib.hid (B14.out.below (Below.refl _ _).drew B14.out.lt)
          have B15 := Lib.hid (B15.out.below (Below.refl _ _).drew B15.out.lt)
          have B17 := Lib.hid (B17.out.below (Below.refl _ _).drew B17.out.lt)
          have HB := Lib.hid HB.out.drew
          refine wp_region_held (S := (fun w' => w'.cell? ⟨w5.heap.size, 0, none⟩ = some (.int .i64 F1) ∧ w'.cell? ⟨w5.heap.size, 1, none⟩ = some (.int .i64 F2) ∧ w'.cell? ⟨w5.heap.size, 2, none⟩ = some (.int .i64 F3) ∧ w'.cell? ⟨w6.heap.size, 0, none⟩ = some (.int .i64 x1) ∧ w'.cell? ⟨w6.heap.size, 1, none⟩ = some (.int .i64 x2) ∧ w'.cell? ⟨w6.heap.size, 2, none⟩ = some (.int .i64 x3) ∧ w'.cell? ⟨w8.heap.size, 0, none⟩ = some (.int .i64 x1) ∧ w'.cell? ⟨w8.heap.size, 1, none⟩ = some (.int .i64 x2) ∧ w'.cell? ⟨w8.heap.size, 2, none⟩ = some (.int .i64 x3))) (by kernel_rfl) ?_
          change wpAnyH _ _ _ _ _ _ _ _ (World.drew _)
          refine wpAnyH_take (i := 0) (v := ?vN1b_0) rfl (by kernel_rfl) (by kernel_rfl) (by kernel_rfl) (fun _ _ _ h => h) (Or.inl ⟨by rfl, ?yN1b_0⟩) ⟨B14.out.c0, B14.out.c1, B14.out.c2, B15.out.c0, B15.out.c1, B15.out.c2, B17.out.c0, B17.out.c1, B17.out.c2⟩ ?rN1b_0
          case yN1b_0 => (intro W hSw; (try dsimp only at hSw); obtain ⟨s0, s1, s2, s3, s4, s5, s6, s7, s8⟩ := hSw; first | (go_simp; done) | (go_simp; with_reducible rfl))
          try go_simp
          refine wpAnyH_take (i := 1) (v := ?vN1b_1) rfl (by kernel_rfl) (by kernel_rfl) (by kernel_rfl) (fun _ _ _ h => h) (Or.inl ⟨by rfl, ?yN1b_1⟩) ⟨B14.out.c0, B14.out.c1, B14.out.c2, B15.out.c0, B15.out.c1, B15.out.c2, B17.out.c0, B17.out.c1, B17.out.c2⟩ ?rN1b_1
          case yN1b_1 => (intro W hSw; (try dsimp only at hSw); obtain ⟨s0, s1, s2, s3, s4, s5, s6, s7, s8⟩ := hSw; first | (go_simp; done) | (go_simp; with_reducible rfl))
          try go_simp
          refine wpAnyH_take (i := 2) (v := ?vN1b_2) rfl (by kernel_rfl) (by kernel_rfl) (by kernel_rfl) (fun _ _ _ h => h) (Or.inl ⟨by rfl, ?yN1b_2⟩) ⟨B14.out.c0, B14.out.c1, B14.out.c2, B15.out.c0, B15.out.c1, B15.out.c2, B17.out.c0, B17.out.c1, B17.out.c2⟩ ?rN1b_2
          case yN1b_2 => (intro W hSw; (try dsimp only at hSw); obtain ⟨s0, s1, s2, s3, s4, s5, s6, s7, s8⟩ := hSw; first | (go_simp; done) | (go_simp; with_reducible rfl))
          try go_simp
          refine wpAnyH_take (i := 3) (v := ?vN1b_3) rfl (by kernel_rfl) (by kernel_rfl) (by kernel_rfl) (fun _ _ _ h => h) (Or.inl ⟨by rfl, ?yN1b_3⟩) ⟨B14.out.c0, B14.out.c1, B14.out.c2, B15.out.c0, B15.out.c1, B15.out.c2, B17.out.c0, B17.out.c1, B17.out.c2⟩ ?rN1b_3
          case yN1b_3 => (intro W hSw; (try dsimp only at hSw); obtain ⟨s0, s1, s2, s3, s4, s5, s6, s7, s8⟩ := hSw; first | (go_simp; done) | (go_simp; with_reducible rfl))
          try go_simp
          refine wpAnyH_take (i := 4) (v := ?vN1b_4) rfl (by kernel_rfl) (by kernel_rfl) (by kernel_rfl) (fun _ _ _ h => h) (Or.inl ⟨by rfl, ?yN1b_4⟩) ⟨B14.out.c0, B14.out.c1, B14.out.c2, B15.out.c0, B15.out.c1, B15.out.c2, B17.out.c0, B17.out.c1, B17.out.c2⟩ ?rN1b_4
          case yN1b_4 => (intro W hSw; (try dsimp only at hSw); obtain ⟨s0, s1, s2, s3, s4, s5, s6, s7, s8⟩ := hSw; first | (go_simp; done) | (go_simp; with_reducible rfl))
          try go_simp
          refine wpAnyH_take (i := 5) (v := ?vN1b_5) rfl (by kernel_rfl) (by kernel_rfl) (by kernel_rfl) (fun _ _ _ h => h) (Or.inl ⟨by rfl, ?yN1b_5⟩) ⟨B14.out.c0, B14.out.c1, B14.out.c2, B15.out.c0, B15.out.c1, B15.out.c2, B17.out.c0, B17.out.c1, B17.out.c2⟩ ?rN1b_5
          case yN1b_5 => (intro W hSw; (try dsimp only at hSw); obtain ⟨s0, s1, s2, s3, s4, s5, s6, s7, s8⟩ := hSw; first | (go_simp; done) | (go_simp; with_reducible rfl))
          try go_simp
          refine wpAnyH_take (i := 6) (v := ?vN1b_6) rfl (by kernel_rfl) (by kernel_rfl) (by kernel_rfl) (fun _ _ _ h => h) (Or.inl ⟨by rfl, ?yN1b_6⟩) ⟨B14.out.c0, B14.out.c1, B14.out.c2, B15.out.c0, B15.out.c1, B15.out.c2, B17.out.c0, B17.out.c1, B17.out.c2⟩ ?rN1b_6
          case yN1b_6 => (intro W hSw; (try dsimp only at hSw); obtain ⟨s0, s1, s2, s3, s4, s5, s6, s7, s8⟩ := hSw; first | (go_simp; done) | (go_simp; with_reducible rfl))
          try go_simp
          refine wpAnyH_take (i := 7) (v := ?vN1b_7) rfl (by kernel_rfl) (by kernel_rfl) (by kernel_rfl) (fun _ _ _ h => h) (Or.inl ⟨by rfl, ?yN1b_7⟩) ⟨B14.out.c0, B14.out.c1, B14.out.c2, B15.out.c0, B15.out.c1, B15.out.c2, B17.out.c0, B17.out.c1, B17.out.c2⟩ ?rN1b_7
          case yN1b_7 => (intro W hSw; (try dsimp only at hSw); obtain ⟨s0, s1, s2, s3, s4, s5, s6, s7, s8⟩ := hSw; first | (go_simp; done) | (go_simp; with_reducible rfl))
          try go_simp
          refine wpAnyH_take (i := 8) (v := ?vN1b_8) rfl (by kernel_rfl) (by kernel_rfl) (by kernel_rfl) (fun _ _ _ h => h) (Or.inl ⟨by rfl, ?yN1b_8⟩) ⟨B14.out.c0, B14.out.c1, B14.out.c2, B15.out.c0, B15.out.c1, B15.out.c2, B17.out.c0, B17.out.c1, B17.out.c2⟩ ?rN1b_8
          case yN1b_8 => (intro W hSw; (try dsimp only at hSw); obtain ⟨s0, s1, s2, s3, s4, s5, s6, s7, s8⟩ := hSw; first | (go_simp; done) | (go_simp; with_reducible rfl))
          try go_simp
          refine wpAnyH_take (i := 9) (v := ?vN1b_9) rfl (by kernel_rfl) (by kernel_rfl) (by kernel_rfl) (fun _ _ _ h => h) (Or.inl ⟨by rfl, ?yN1b_9⟩) ⟨B14.out.c0, B14.out.c1, B14.out.c2, B15.out.c0, B15.out.c1, B15.out.c2, B17.out.c0, B17.out.c1, B17.out.c2⟩ ?rN1b_9
          case yN1b_9 => (intro W hSw; (try dsimp only at hSw); obtain ⟨s0, s1, s2, s3, s4, s5, s6, s7, s8⟩ := hSw; first | (go_simp; done) | (go_simp; with_reducible rfl))
          try go_simp
          refine wpAnyH_take (i := 10) (v := ?vN1b_10) rfl (by kernel_rfl) (by kernel_rfl) (by kernel_rfl) (fun _ _ _ h => h) (Or.inl ⟨by rfl, ?yN1b_10⟩) ⟨B14.out.c0, B14.out.c1, B14.out.c2, B15.out.c0, B15.out.c1, B15.out.c2, B17.out.c0, B17.out.c1, B17.out.c2⟩ ?rN1b_10
          case yN1b_10 => (intro W hSw; (try dsimp only at hSw); obtain ⟨s0, s1, s2, s3, s4, s5, s6, s7, s8⟩ := hSw; first | (go_simp; done) | (go_simp; with_reducible rfl))
          try go_simp
          refine wpAnyH_take (i := 11) (v := ?vN1b_11) rfl (by kernel_rfl) (by kernel_rfl) (by kernel_rfl) (fun _ _ _ h => h) (Or.inl ⟨by rfl, ?yN1b_11⟩) ⟨B14.out.c0, B14.out.c1, B14.out.c2, B15.out.c0, B15.out.c1, B15.out.c2, B17.out.c0, B17.out.c1, B17.out.c2⟩ ?rN1b_11
          case yN1b_11 => (intro W hSw; (try dsimp only at hSw); obtain ⟨s0, s1, s2, s3, s4, s5, s6, s7, s8⟩ := hSw; first | (go_simp; done) | (go_simp; with_reducible rfl))
          try go_simp
          refine wpAnyH_take (i := 12) (v := ?vN1b_12) rfl (by kernel_rfl) (by kernel_rfl) (by kernel_rfl) (fun _ _ _ h => h) (Or.inl ⟨by rfl, ?yN1b_12⟩) ⟨B14.out.c0, B14.out.c1, B14.out.c2, B15.out.c0, B15.out.c1, B15.out.c2, B17.out.c0, B17.out.c1, B17.out.c2⟩ ?rN1b_12
          case yN1b_12 => (intro W hSw; (try dsimp only at hSw); obtain ⟨s0, s1, s2, s3, s4, s5, s6, s7, s8⟩ := hSw; first | (go_simp; done) | (go_simp; with_reducible rfl))
          try go_simp
          refine wpAnyH_take (i := 14) (v := ?vN1b_14) rfl (by kernel_rfl) (by kernel_rfl) (by kernel_rfl) (fun _ _ _ h => h) (Or.inl ⟨by rfl, ?yN1b_14⟩) ⟨B14.out.c0, B14.out.c1, B14.out.c2, B15.out.c0, B15.out.c1, B15.out.c2, B17.out.c0, B17.out.c1, B17.out.c2⟩ ?rN1b_14
          case yN1b_14 => (intro W hSw; (try dsimp only at hSw); obtain ⟨s0, s1, s2, s3, s4, s5, s6, s7, s8⟩ := hSw; first | (go_simp; done) | (go_simp; with_reducible rfl))
          try go_simp
          refine wpAnyH_ready (rs := [13]) (by kernel_rfl) (by simp) ?_
          refine AllReadyH.cons rfl (fun K hK => ?_) AllReadyH.nil
          go_simp
          (go_wp2_with (first | (go_at_call 31; (with_reducible refine (last_any _ k _ H1.out).mono ?_); rintro e w9 ⟨rfl, hb⟩; have HQ := Lib.hid (HQ.out.below hb HQ.out.lt); have H1 := Lib.hid (H1.out.below hb H1.out.lt); have B14 := Lib.hid (B14.out.below hb B14.out.lt); have B15 := Lib.hid (B15.out.below hb B15.out.lt); have B17 := Lib.hid (B17.out.below hb B17.out.lt); have HB := Lib.hid (HB.out.trans (hb.mono HB.out.size)); clear hb)))
          refine hK.out _ _ ⟨B14.out.c0, B14.out.c1, B14.out.c2, B15.out.c0, B15.out.c1, B15.out.c2, B17.out.c0, B17.out.c1, B17.out.c2⟩ (fun _ => ?_)
          clear hK K
          try go_simp
          refine wpAnyH_take (i := 15) (v := ?vN1b_15) rfl (by kernel_rfl) (by kernel_rfl) (by kernel_rfl) (fun _ _ _ h => h) (Or.inl ⟨by rfl, ?yN1b_15⟩) ⟨B14.out.c0, B14.out.c1, B14.out.c2, B15.out.c0, B15.out.c1, B15.out.c2, B17.out.c0, B17.out.c1, B17.out.c2⟩ ?rN1b_15
          case yN1b_15 => (intro W hSw; (try dsimp only at hSw); obtain ⟨s0, s1, s2, s3, s4, s5, s6, s7, s8⟩ := hSw; first | (go_simp; done) | (go_simp; with_reducible rfl))
          try go_simp
          refine wpAnyH_take (i := 16) (v := ?vN1b_16) rfl (by kernel_rfl) (by kernel_rfl) (by kernel_rfl) (fun _ _ _ h => h) (Or.inl ⟨by rfl, ?yN1b_16⟩) ⟨B14.out.c0, B14.out.c1, B14.out.c2, B15.out.c0, B15.out.c1, B15.out.c2, B17.out.c0, B17.out.c1, B17.out.c2⟩ ?rN1b_16
          case yN1b_16 => (intro W hSw; (try dsimp only at hSw); obtain ⟨s0, s1, s2, s3, s4, s5, s6, s7, s8⟩ := hSw; first | (go_simp; done) | (go_simp; with_reducible rfl))
          try go_simp
          refine wpAnyH_take (i := 17) (v := ?vN1b_17) rfl (by kernel_rfl) (by kernel_rfl) (by kernel_rfl) (fun _ _ _ h => h) (Or.inl ⟨by rfl, ?yN1b_17⟩) ⟨B14.out.c0, B14.out.c1, B14.out.c2, B15.out.c0, B15.out.c1, B15.out.c2, B17.out.c0, B17.out.c1, B17.out.c2⟩ ?rN1b_17
          case yN1b_17 => (intro W hSw; (try dsimp only at hSw); obtain ⟨s0, s1, s2, s3, s4, s5, s6, s7, s8⟩ := hSw; first | (go_simp; done) | (go_simp; with_reducible rfl))
          try go_simp
          refine wpAnyH_take (i := 18) (v := ?vN1b_18) rfl (by kernel_rfl) (by kernel_rfl) (by kernel_rfl) (fun _ _ _ h => h) (Or.inl ⟨by rfl, ?yN1b_18⟩) ⟨B14.out.c0, B14.out.c1, B14.out.c2, B15.out.c0, B15.out.c1, B15.out.c2, B17.out.c0, B17.out.c1, B17.out.c2⟩ ?rN1b_18
          case yN1b_18 => (intro W hSw; (try dsimp only at hSw); obtain ⟨s0, s1, s2, s3, s4, s5, s6, s7, s8⟩ := hSw; first | (go_simp; done) | (go_simp; with_reducible rfl))
          try go_simp
          refine wpAnyH_take (i := 19) (v := ?vN1b_19) rfl (by kernel_rfl) (by kernel_rfl) (by kernel_rfl) (fun _ _ _ h => h) (Or.inl ⟨by rfl, ?yN1b_19⟩) ⟨B14.out.c0, B14.out.c1, B14.out.c2, B15.out.c0, B15.out.c1, B15.out.c2, B17.out.c0, B17.out.c1, B17.out.c2⟩ ?rN1b_19
          case yN1b_19 => (intro W hSw; (try dsimp only at hSw); obtain ⟨s0, s1, s2, s3, s4, s5, s6, s7, s8⟩ := hSw; first | (go_simp; done) | (go_simp; with_reducible rfl))
          try go_simp
          refine wpAnyH_take (i := 20) (v := ?vN1b_20) rfl (by kernel_rfl) (by kernel_rfl) (by kernel_rfl) (fun _ _ _ h => h) (Or.inl ⟨by rfl, ?yN1b_20⟩) ⟨B14.out.c0, B14.out.c1, B14.out.c2, B15.out.c0, B15.out.c1, B15.out.c2, B17.out.c0, B17.out.c1, B17.out.c2⟩ ?rN1b_20
          case yN1b_20 => (intro W hSw; (try dsimp only at hSw); obtain ⟨s0, s1, s2, s3, s4, s5, s6, s7, s8⟩ := hSw; first | (go_simp; done) | (go_simp; with_reducible rfl))
          try go_simp
          refine wpAnyH_take (i := 21) (v := ?vN1b_21) rfl (by kernel_rfl) (by kernel_rfl) (by kernel_rfl) (fun _ _ _ h => h) (Or.inl ⟨by rfl, ?yN1b_21⟩) ⟨B14.out.c0, B14.out.c1, B14.out.c2, B15.out.c0, B15.out.c1, B15.out.c2, B17.out.c0, B17.out.c1, B17.out.c2⟩ ?rN1b_21
          case yN1b_21 => (intro W hSw; (try dsimp only at hSw); obtain ⟨s0, s1, s2, s3, s4, s5, s6, s7, s8⟩ := hSw; first | (go_simp; done) | (go_simp; with_reducible rfl))
          try go_simp
          refine wpAnyH_take (i := 22) (v := undef) rfl (by kernel_rfl) (by kernel_rfl) (by kernel_rfl) (fun _ _ _ h => h) (Or.inr ⟨by rfl, rfl⟩) ⟨B14.out.c0, B14.out.c1, B14.out.c2, B15.out.c0, B15.out.c1, B15.out.c2, B17.out.c0, B17.out.c1, B17.out.c2⟩ ?rN1b_22
          try go_simp
          refine wpAnyH_take (i := 23) (v := undef) rfl (by kernel_rfl) (by kernel_rfl) (by kernel_rfl) (fun _ _ _ h => h) (Or.inr ⟨by rfl, rfl⟩) ⟨B14.out.c0, B14.out.c1, B14.out.c2, B15.out.c0, B15.out.c1, B15.out.c2, B17.out.c0, B17.out.c1, B17.out.c2⟩ ?rN1b_23
          try go_simp
          refine wpAnyH_take (i := 24) (v := undef) rfl (by kernel_rfl) (by kernel_rfl) (by kernel_rfl) (fun _ _ _ h => h) (Or.inr ⟨by rfl, rfl⟩) ⟨B14.out.c0, B14.out.c1, B14.out.c2, B15.out.c0, B15.out.c1, B15.out.c2, B17.out.c0, B17.out.c1, B17.out.c2⟩ ?rN1b_24
          try go_simp
          refine wpAnyH_take (i := 25) (v := undef) rfl (by kernel_rfl) (by kernel_rfl) (by kernel_rfl) (fun _ _ _ h => h) (Or.inr ⟨by rfl, rfl⟩) ⟨B14.out.c0, B14.out.c1, B14.out.c2, B15.out.c0, B15.out.c1, B15.out.c2, B17.out.c0, B17.out.c1, B17.out.c2⟩ ?rN1b_25
          try go_simp
          refine wpAnyH_take (i := 26) (v := ?vN1b_26) rfl (by kernel_rfl) (by kernel_rfl) (by kernel_rfl) (fun _ _ _ h => h) (Or.inl ⟨by rfl, ?yN1b_26⟩) ⟨B14.out.c0, B14.out.c1, B14.out.c2, B15.out.c0, B15.out.c1, B15.out.c2, B17.out.c0, B17.out.c1, B17.out.c2⟩ ?rN1b_26
          case yN1b_26 => (intro W hSw; (try dsimp only at hSw); obtain ⟨s0, s1, s2, s3, s4, s5, s6, s7, s8⟩ := hSw; first | (go_simp; done) | (go_simp; with_reducible rfl))
          try go_simp
          refine wpAnyH_take (i := 27) (v := ?vN1b_27) rfl (by kernel_rfl) (by kernel_rfl) (by kernel_rfl) (fun _ _ _ h => h) (Or.inl ⟨by rfl, ?yN1b_27⟩) ⟨B14.out.c0, B14.out.c1, B14.out.c2, B15.out.c0, B15.out.c1, B15.out.c2, B17.out.c0, B17.out.c1, B17.out.c2⟩ ?rN1b_27
          case yN1b_27 => (intro W hSw; (try dsimp only at hSw); obtain ⟨s0, s1, s2, s3, s4, s5, s6, s7, s8⟩ := hSw; first | (go_simp; done) | (go_simp; with_reducible rfl))
          try go_simp
          refine wpAnyH_done (by kernel_rfl) ?_ _
          have u0 := HQ.out.c0
          have u1 := HQ.out.c1
          have u2 := HQ.out.c2
          go_upto_region 22 with (first
            | (go_at_call 29; (with_reducible refine (HO1 _ H1.out).out.mono ?_); rintro e wa ⟨rfl, ht, h1⟩; have HQ := Lib.hid (HQ.out.tn ht (fun e => absurd e (Nat.ne_of_lt HQK.out))); have HB := Lib.hid (HB.out.trans (ht.below (B := w.heap.size) HB.out.size (fun z e => e ▸ HKk.out))); have H1 := Lib.hid h1; clear ht h1)
            | (go_at_call 31; (with_reducible refine (last_any _ k _ H1.out).mono ?_); rintro e wb ⟨rfl, hb⟩; have HL20 := Lib.hid (Nat.lt_of_lt_of_le H1.out.lt hb.size); have HQ := Lib.hid ((HQ.out.below hb HQ.out.lt).alloc (sobj ⟨z1, z2, z3⟩)); have H1 := Lib.hid ((H1.out.below hb H1.out.lt).alloc (sobj ⟨z1, z2, z3⟩)); have HB := Lib.hid ((HB.out.trans (hb.mono HB.out.size)).alloc (Nat.le_trans HB.out.size hb.size) (sobj ⟨z1, z2, z3⟩)); have B20 := Lib.hid (at_new wb ⟨z1, z2, z3⟩); have v0 := HQ.out.c0; have v1 := HQ.out.c1; have v2 := HQ.out.c2; clear hb)
            | (go_at_call 29; (with_reducible refine (HO2 _ H1.out).out.mono ?_); rintro e wc ⟨rfl, ht, h1⟩; have HQ := Lib.hid (HQ.out.tn ht (fun e => absurd e (Nat.ne_of_lt HQK.out))); have B20 := Lib.hid (B20.out.tn ht (fun e => absurd e (Nat.ne_of_gt HL20.out))); have HB := Lib.hid (HB.out.trans (ht.below (B := w.heap.size) HB.out.size (fun z e => e ▸ HKk.out))); have H1 := Lib.hid h1; clear ht h1))
          have HQ := Lib.hid (HQ.out.below (Below.refl _ _).drew HQ.out.lt)
          have H1 := Lib.hid (H1.out.below (Below.refl _ _).drew H1.out.lt)
          have B20 := Lib.hid (B20.out.below (Below.refl _ _).drew B20.out.lt)
          have HB := Lib.hid HB.out.drew
          go_region_held (fun w' => w'.cell? ⟨w.heap.size + 1, 0, none⟩ = some (.int .i64 t1) ∧ w'.cell? ⟨w.heap.size + 1, 1, none⟩ = some (.int .i64 t2) ∧ w'.cell? ⟨w.heap.size + 1, 2, none⟩ = some (.int .i64 t3) ∧ w'.cell? ⟨wb.heap.size, 0, none⟩ = some (.int .i64 z1) ∧ w'.cell? ⟨wb.heap.size, 1, none⟩ = some (.int .i64 z2) ∧ w'.cell? ⟨wb.heap.size, 2, none⟩ = some (.int .i64 z3)) (exact ⟨HQ.out.c0, HQ.out.c1, HQ.out.c2, B20.out.c0, B20.out.c1, B20.out.c2⟩) (first
            | (go_at_call 10; (with_reducible refine (first_any _ (HT.out.below HB.out)).mono ?_); rintro e wd ⟨rfl, hb⟩; have HQ := Lib.hid (HQ.out.below hb HQ.out.lt); have H1 := Lib.hid (H1.out.below hb H1.out.lt); have B20 := Lib.hid (B20.out.below hb B20.out.lt); have HB := Lib.hid (HB.out.trans (hb.mono HB.out.size)); clear hb)
            | (go_at_call 31; (with_reducible refine (last_any _ k _ H1.out).mono ?_); rintro e wd ⟨rfl, hb⟩; have HQ := Lib.hid (HQ.out.below hb HQ.out.lt); have H1 := Lib.hid (H1.out.below hb H1.out.lt); have B20 := Lib.hid (B20.out.below hb B20.out.lt); have HB := Lib.hid (HB.out.trans (hb.mono HB.out.size)); clear hb)
            | (go_at_call 13; (with_reducible refine (HY _).out.mono ?_); rintro e wd ⟨rfl, hb⟩; have HQ := Lib.hid (HQ.out.below hb HQ.out.lt); have H1 := Lib.hid (H1.out.below hb H1.out.lt); have B20 := Lib.hid (B20.out.below hb B20.out.lt); have HB := Lib.hid (HB.out.trans (hb.mono HB.out.size)); clear hb))
          go_wp2
          go_ret
          exact ⟨rfl, HB.out⟩
        · have hi1 : decide ((i : Int) < (l.length : Int)) = true := decide_eq_true (by omega)
          have hi2 : decide ((i : Int) < 2000) = false := decide_eq_false (by omega)
          have hp1 : (i : Int) < (l.length : Int) := by omega
          have hp2 : ¬ (i : Int) < 2000 := by omega
          clear hgo
          go_upto_region 14 with (first
            | (go_at_call 31; (with_reducible refine (last_any _ k _ H1.out).mono ?_); rintro e w5 ⟨rfl, hb⟩; have HL14 := Lib.hid (Nat.lt_of_lt_of_le H1.out.lt hb.size); have HQ := Lib.hid ((HQ.out.below hb HQ.out.lt).alloc (sobj ⟨F1, F2, F3⟩)); have H1 := Lib.hid ((H1.out.below hb H1.out.lt).alloc (sobj ⟨F1, F2, F3⟩)); have HB := Lib.hid ((HB.out.trans (hb.mono HB.out.size)).alloc (Nat.le_trans HB.out.size hb.size) (sobj ⟨F1, F2, F3⟩)); have B14 := Lib.hid (at_new w5 ⟨F1, F2, F3⟩); clear hb)
            | (go_at_call 27; (with_reducible refine (HN1 _ H1.out).out.mono ?_); rintro e w6 ⟨rfl, hb⟩; have HL15 := Lib.hid (Nat.lt_of_lt_of_le H1.out.lt hb.size); have HQ := Lib.hid ((HQ.out.below hb HQ.out.lt).alloc (sobj ⟨x1, x2, x3⟩)); have H1 := Lib.hid ((H1.out.below hb H1.out.lt).alloc (sobj ⟨x1, x2, x3⟩)); have B14 := Lib.hid ((B14.out.below hb B14.out.lt).alloc (sobj ⟨x1, x2, x3⟩)); have HB := Lib.hid ((HB.out.trans (hb.mono HB.out.size)).alloc (Nat.le_trans HB.out.size hb.size) (sobj ⟨x1, x2, x3⟩)); have B15 := Lib.hid (at_new w6 ⟨x1, x2, x3⟩); clear hb))
          have HQ := Lib.hid (HQ.out.below (Below.refl _ _).drew HQ.out.lt)
          have H1 := Lib.hid (H1.out.below (Below.refl _ _).drew H1.out.lt)
          have B14 := Lib.hid (B14.out.below (Below.refl _ _).drew B14.out.lt)
          have B15 := Lib.hid (B15.out.below (Below.refl _ _).drew B15.out.lt)
          have HB := Lib.hid HB.out.drew
          refine wp_region_held (S := (fun w' => w'.cell? ⟨w5.heap.size, 0, none⟩ = some (.int .i64 F1) ∧ w'.cell? ⟨w5.heap.size, 1, none⟩ = some (.int .i64 F2) ∧ w'.cell? ⟨w5.heap.size, 2, none⟩ = some (.int .i64 F3))) (by kernel_rfl) ?_
          change wpAnyH _ _ _ _ _ _ _ _ (World.drew _)
          refine wpAnyH_take (i := 0) (v := ?vN2a_0) rfl (by kernel_rfl) (by kernel_rfl) (by kernel_rfl) (fun _ _ _ h => h) (Or.inl ⟨by rfl, ?yN2a_0⟩) ⟨B14.out.c0, B14.out.c1, B14.out.c2⟩ ?rN2a_0
          case yN2a_0 => (intro W hSw; (try dsimp only at hSw); obtain ⟨s0, s1, s2⟩ := hSw; first | (go_simp; done) | (go_simp; with_reducible rfl))
          try go_simp
          refine wpAnyH_take (i := 2) (v := ?vN2a_2) rfl (by kernel_rfl) (by kernel_rfl) (by kernel_rfl) (fun _ _ _ h => h) (Or.inl ⟨by rfl, ?yN2a_2⟩) ⟨B14.out.c0, B14.out.c1, B14.out.c2⟩ ?rN2a_2
          case yN2a_2 => (intro W hSw; (try dsimp only at hSw); obtain ⟨s0, s1, s2⟩ := hSw; first | (go_simp; done) | (go_simp; with_reducible rfl))
          try go_simp
          refine wpAnyH_ready (rs := [1]) (by kernel_rfl) (by simp) ?_
          refine AllReadyH.cons rfl (fun K hK => ?_) AllReadyH.nil
          go_simp
          (go_wp2_with (first | (go_at_call 31; (with_reducible refine (last_any _ k _ H1.out).mono ?_); rintro e w7 ⟨rfl, hb⟩; have HQ := Lib.hid (HQ.out.below hb HQ.out.lt); have H1 := Lib.hid (H1.out.below hb H1.out.lt); have B14 := Lib.hid (B14.out.below hb B14.out.lt); have B15 := Lib.hid (B15.out.below hb B15.out.lt); have HB := Lib.hid (HB.out.trans (hb.mono HB.out.size)); clear hb)))
          refine hK.out _ _ ⟨B14.out.c0, B14.out.c1, B14.out.c2⟩ (fun _ => ?_)
          clear hK K
          try go_simp
          refine wpAnyH_take (i := 3) (v := ?vN2a_3) rfl (by kernel_rfl) (by kernel_rfl) (by kernel_rfl) (fun _ _ _ h => h) (Or.inl ⟨by rfl, ?yN2a_3⟩) ⟨B14.out.c0, B14.out.c1, B14.out.c2⟩ ?rN2a_3
          case yN2a_3 => (intro W hSw; (try dsimp only at hSw); obtain ⟨s0, s1, s2⟩ := hSw; first | (go_simp; done) | (go_simp; with_reducible rfl))
          try go_simp
          refine wpAnyH_done (by kernel_rfl) ?_ _
          have k0 := H1.out.lt
          go_upto_region 17 with (first
            | (go_at_call 25; (with_reducible refine (HN2 _ H1.out).out.mono ?_); rintro e w8 ⟨rfl, ht, h1⟩; have HL17 := Lib.hid h1.lt; have HQ := Lib.hid ((HQ.out.tn ht (fun e => absurd e (Nat.ne_of_lt HQK.out))).alloc (sobj ⟨x1, x2, x3⟩)); have B14 := Lib.hid ((B14.out.tn ht (fun e => absurd e (Nat.ne_of_gt HL14.out))).alloc (sobj ⟨x1, x2, x3⟩)); have B15 := Lib.hid ((B15.out.tn ht (fun e => absurd e (Nat.ne_of_gt HL15.out))).alloc (sobj ⟨x1, x2, x3⟩)); have HB := Lib.hid ((HB.out.trans (ht.below (B := w.heap.size) HB.out.size (fun z e => e ▸ HKk.out))).alloc (Nat.le_trans HB.out.size ht.size) (sobj ⟨x1, x2, x3⟩)); have H1 := Lib.hid (h1.alloc (sobj ⟨x1, x2, x3⟩)); have B17 := Lib.hid (at_new w8 ⟨x1, x2, x3⟩); clear ht h1))
          have HQ := Lib.hid (HQ.out.below (Below.refl _ _).drew HQ.out.lt)
          have H1 := Lib.hid (H1.out.below (Below.refl _ _).drew H1.out.lt)
          have B14 := Lib.hid (B14.out.below (Below.refl _ _).drew B14.out.lt)
          have B15 := Lib.hid (B15.out.below (Below.refl _ _).drew B15.out.lt)
          have B17 := Lib.hid (B17.out.below (Below.refl _ _).drew B17.out.lt)
          have HB := Lib.hid HB.out.drew
          refine wp_region_held (S := (fun w' => w'.cell? ⟨w5.heap.size, 0, none⟩ = some (.int .i64 F1) ∧ w'.cell? ⟨w5.heap.size, 1, none⟩ = some (.int .i64 F2) ∧ w'.cell? ⟨w5.heap.size, 2, none⟩ = some (.int .i64 F3) ∧ w'.cell? ⟨w6.heap.size, 0, none⟩ = some (.int .i64 x1) ∧ w'.cell? ⟨w6.heap.size, 1, none⟩ = some (.int .i64 x2) ∧ w'.cell? ⟨w6.heap.size, 2, none⟩ = some (.int .i64 x3) ∧ w'.cell? ⟨w8.heap.size, 0, none⟩ = some (.int .i64 x1) ∧ w'.cell? ⟨w8.heap.size, 1, none⟩ = some (.int .i64 x2) ∧ w'.cell? ⟨w8.heap.size, 2, none⟩ = some (.int .i64 x3))) (by kernel_rfl) ?_
          change wpAnyH _ _ _ _ _ _ _ _ (World.drew _)
          refine wpAnyH_take (i := 0) (v := ?vN2b_0) rfl (by kernel_rfl) (by kernel_rfl) (by kernel_rfl) (fun _ _ _ h => h) (Or.inl ⟨by rfl, ?yN2b_0⟩) ⟨B14.out.c0, B14.out.c1, B14.out.c2, B15.out.c0, B15.out.c1, B15.out.c2, B17.out.c0, B17.out.c1, B17.out.c2⟩ ?rN2b_0
          case yN2b_0 => (intro W hSw; (try dsimp only at hSw); obtain ⟨s0, s1, s2, s3, s4, s5, s6, s7, s8⟩ := hSw; first | (go_simp; done) | (go_simp; with_reducible rfl))
          try go_simp
          refine wpAnyH_take (i := 1) (v := ?vN2b_1) rfl (by kernel_rfl) (by kernel_rfl) (by kernel_rfl) (fun _ _ _ h => h) (Or.inl ⟨by rfl, ?yN2b_1⟩) ⟨B14.out.c0, B14.out.c1, B14.out.c2, B15.out.c0, B15.out.c1, B15.out.c2, B17.out.c0, B17.out.c1, B17.out.c2⟩ ?rN2b_1
          case yN2b_1 => (intro W hSw; (try dsimp only at hSw); obtain ⟨s0, s1, s2, s3, s4, s5, s6, s7, s8⟩ := hSw; first | (go_simp; done) | (go_simp; with_reducible rfl))
          try go_simp
          refine wpAnyH_take (i := 2) (v := ?vN2b_2) rfl (by kernel_rfl) (by kernel_rfl) (by kernel_rfl) (fun _ _ _ h => h) (Or.inl ⟨by rfl, ?yN2b_2⟩) ⟨B14.out.c0, B14.out.c1, B14.out.c2, B15.out.c0, B15.out.c1, B15.out.c2, B17.out.c0, B17.out.c1, B17.out.c2⟩ ?rN2b_2
          case yN2b_2 => (intro W hSw; (try dsimp only at hSw); obtain ⟨s0, s1, s2, s3, s4, s5, s6, s7, s8⟩ := hSw; first | (go_simp; done) | (go_simp; with_reducible rfl))
          try go_simp
          refine wpAnyH_take (i := 3) (v := ?vN2b_3) rfl (by kernel_rfl) (by kernel_rfl) (by kernel_rfl) (fun _ _ _ h => h) (Or.inl ⟨by rfl, ?yN2b_3⟩) ⟨B14.out.c0, B14.out.c1, B14.out.c2, B15.out.c0, B15.out.c1, B15.out.c2, B17.out.c0, B17.out.c1, B17.out.c2⟩ ?rN2b_3
          case yN2b_3 => (intro W hSw; (try dsimp only at hSw); obtain ⟨s0, s1, s2, s3, s4, s5, s6, s7, s8⟩ := hSw; first | (go_simp; done) | (go_simp; with_reducible rfl))
          try go_simp
          refine wpAnyH_take (i := 4) (v := ?vN2b_4) rfl (by kernel_rfl) (by kernel_rfl) (by kernel_rfl) (fun _ _ _ h => h) (Or.inl ⟨by rfl, ?yN2b_4⟩) ⟨B14.out.c0, B14.out.c1, B14.out.c2, B15.out.c0, B15.out.c1, B15.out.c2, B17.out.c0, B17.out.c1, B17.out.c2⟩ ?rN2b_4
          case yN2b_4 => (intro W hSw; (try dsimp only at hSw); obtain ⟨s0, s1, s2, s3, s4, s5, s6, s7, s8⟩ := hSw; first | (go_simp; done) | (go_simp; with_reducible rfl))
          try go_simp
          refine wpAnyH_take (i := 5) (v := ?vN2b_5) rfl (by kernel_rfl) (by kernel_rfl) (by kernel_rfl) (fun _ _ _ h => h) (Or.inl ⟨by rfl, ?yN2b_5⟩) ⟨B14.out.c0, B14.out.c1, B14.out.c2, B15.out.c0, B15.out.c1, B15.out.c2, B17.out.c0, B17.out.c1, B17.out.c2⟩ ?rN2b_5
          case yN2b_5 => (intro W hSw; (try dsimp only at hSw); obtain ⟨s0, s1, s2, s3, s4, s5, s6, s7, s8⟩ := hSw; first | (go_simp; done) | (go_simp; with_reducible rfl))
          try go_simp
          refine wpAnyH_take (i := 6) (v := ?vN2b_6) rfl (by kernel_rfl) (by kernel_rfl) (by kernel_rfl) (fun _ _ _ h => h) (Or.inl ⟨by rfl, ?yN2b_6⟩) ⟨B14.out.c0, B14.out.c1, B14.out.c2, B15.out.c0, B15.out.c1, B15.out.c2, B17.out.c0, B17.out.c1, B17.out.c2⟩ ?rN2b_6
          case yN2b_6 => (intro W hSw; (try dsimp only at hSw); obtain ⟨s0, s1, s2, s3, s4, s5, s6, s7, s8⟩ := hSw; first | (go_simp; done) | (go_simp; with_reducible rfl))
          try go_simp
          refine wpAnyH_take (i := 7) (v := ?vN2b_7) rfl (by kernel_rfl) (by kernel_rfl) (by kernel_rfl) (fun _ _ _ h => h) (Or.inl ⟨by rfl, ?yN2b_7⟩) ⟨B14.out.c0, B14.out.c1, B14.out.c2, B15.out.c0, B15.out.c1, B15.out.c2, B17.out.c0, B17.out.c1, B17.out.c2⟩ ?rN2b_7
          case yN2b_7 => (intro W hSw; (try dsimp only at hSw); obtain ⟨s0, s1, s2, s3, s4, s5, s6, s7, s8⟩ := hSw; first | (go_simp; done) | (go_simp; with_reducible rfl))
          try go_simp
          refine wpAnyH_take (i := 8) (v := ?vN2b_8) rfl (by kernel_rfl) (by kernel_rfl) (by kernel_rfl) (fun _ _ _ h => h) (Or.inl ⟨by rfl, ?yN2b_8⟩) ⟨B14.out.c0, B14.out.c1, B14.out.c2, B15.out.c0, B15.out.c1, B15.out.c2, B17.out.c0, B17.out.c1, B17.out.c2⟩ ?rN2b_8
          case yN2b_8 => (intro W hSw; (try dsimp only at hSw); obtain ⟨s0, s1, s2, s3, s4, s5, s6, s7, s8⟩ := hSw; first | (go_simp; done) | (go_simp; with_reducible rfl))
          try go_simp
          refine wpAnyH_take (i := 9) (v := ?vN2b_9) rfl (by kernel_rfl) (by kernel_rfl) (by kernel_rfl) (fun _ _ _ h => h) (Or.inl ⟨by rfl, ?yN2b_9⟩) ⟨B14.out.c0, B14.out.c1, B14.out.c2, B15.out.c0, B15.out.c1, B15.out.c2, B17.out.c0, B17.out.c1, B17.out.c2⟩ ?rN2b_9
          case yN2b_9 => (intro W hSw; (try dsimp only at hSw); obtain ⟨s0, s1, s2, s3, s4, s5, s6, s7, s8⟩ := hSw; first | (go_simp; done) | (go_simp; with_reducible rfl))
          try go_simp
          refine wpAnyH_take (i := 10) (v := ?vN2b_10) rfl (by kernel_rfl) (by kernel_rfl) (by kernel_rfl) (fun _ _ _ h => h) (Or.inl ⟨by rfl, ?yN2b_10⟩) ⟨B14.out.c0, B14.out.c1, B14.out.c2, B15.out.c0, B15.out.c1, B15.out.c2, B17.out.c0, B17.out.c1, B17.out.c2⟩ ?rN2b_10
          case yN2b_10 => (intro W hSw; (try dsimp only at hSw); obtain ⟨s0, s1, s2, s3, s4, s5, s6, s7, s8⟩ := hSw; first | (go_simp; done) | (go_simp; with_reducible rfl))
          try go_simp
          refine wpAnyH_take (i := 11) (v := ?vN2b_11) rfl (by kernel_rfl) (by kernel_rfl) (by kernel_rfl) (fun _ _ _ h => h) (Or.inl ⟨by rfl, ?yN2b_11⟩) ⟨B14.out.c0, B14.out.c1, B14.out.c2, B15.out.c0, B15.out.c1, B15.out.c2, B17.out.c0, B17.out.c1, B17.out.c2⟩ ?rN2b_11
          case yN2b_11 => (intro W hSw; (try dsimp only at hSw); obtain ⟨s0, s1, s2, s3, s4, s5, s6, s7, s8⟩ := hSw; first | (go_simp; done) | (go_simp; with_reducible rfl))
          try go_simp
          refine wpAnyH_take (i := 12) (v := ?vN2b_12) rfl (by kernel_rfl) (by kernel_rfl) (by kernel_rfl) (fun _ _ _ h => h) (Or.inl ⟨by rfl, ?yN2b_12⟩) ⟨B14.out.c0, B14.out.c1, B14.out.c2, B15.out.c0, B15.out.c1, B15.out.c2, B17.out.c0, B17.out.c1, B17.out.c2⟩ ?rN2b_12
          case yN2b_12 => (intro W hSw; (try dsimp only at hSw); obtain ⟨s0, s1, s2, s3, s4, s5, s6, s7, s8⟩ := hSw; first | (go_simp; done) | (go_simp; with_reducible rfl))
          try go_simp
          refine wpAnyH_take (i := 14) (v := ?vN2b_14) rfl (by kernel_rfl) (by kernel_rfl) (by kernel_rfl) (fun _ _ _ h => h) (Or.inl ⟨by rfl, ?yN2b_14⟩) ⟨B14.out.c0, B14.out.c1, B14.out.c2, B15.out.c0, B15.out.c1, B15.out.c2, B17.out.c0, B17.out.c1, B17.out.c2⟩ ?rN2b_14
          case yN2b_14 => (intro W hSw; (try dsimp only at hSw); obtain ⟨s0, s1, s2, s3, s4, s5, s6, s7, s8⟩ := hSw; first | (go_simp; done) | (go_simp; with_reducible rfl))
          try go_simp
          refine wpAnyH_ready (rs := [13]) (by kernel_rfl) (by simp) ?_
          refine AllReadyH.cons rfl (fun K hK => ?_) AllReadyH.nil
          go_simp
          (go_wp2_with (first | (go_at_call 31; (with_reducible refine (last_any _ k _ H1.out).mono ?_); rintro e w9 ⟨rfl, hb⟩; have HQ := Lib.hid (HQ.out.below hb HQ.out.lt); have H1 := Lib.hid (H1.out.below hb H1.out.lt); have B14 := Lib.hid (B14.out.below hb B14.out.lt); have B15 := Lib.hid (B15.out.below hb B15.out.lt); have B17 := Lib.hid (B17.out.below hb B17.out.lt); have HB := Lib.hid (HB.out.trans (hb.mono HB.out.size)); clear hb)))
          refine hK.out _ _ ⟨B14.out.c0, B14.out.c1, B14.out.c2, B15.out.c0, B15.out.c1, B15.out.c2, B17.out.c0, B17.out.c1, B17.out.c2⟩ (fun _ => ?_)
          clear hK K
          try go_simp
          refine wpAnyH_take (i := 15) (v := ?vN2b_15) rfl (by kernel_rfl) (by kernel_rfl) (by kernel_rfl) (fun _ _ _ h => h) (Or.inl ⟨by rfl, ?yN2b_15⟩) ⟨B14.out.c0, B14.out.c1, B14.out.c2, B15.out.c0, B15.out.c1, B15.out.c2, B17.out.c0, B17.out.c1, B17.out.c2⟩ ?rN2b_15
          case yN2b_15 => (intro W hSw; (try dsimp only at hSw); obtain ⟨s0, s1, s2, s3, s4, s5, s6, s7, s8⟩ := hSw; first | (go_simp; done) | (go_simp; with_reducible rfl))
          try go_simp
          refine wpAnyH_take (i := 16) (v := ?vN2b_16) rfl (by kernel_rfl) (by kernel_rfl) (by kernel_rfl) (fun _ _ _ h => h) (Or.inl ⟨by rfl, ?yN2b_16⟩) ⟨B14.out.c0, B14.out.c1, B14.out.c2, B15.out.c0, B15.out.c1, B15.out.c2, B17.out.c0, B17.out.c1, B17.out.c2⟩ ?rN2b_16
          case yN2b_16 => (intro W hSw; (try dsimp only at hSw); obtain ⟨s0, s1, s2, s3, s4, s5, s6, s7, s8⟩ := hSw; first | (go_simp; done) | (go_simp; with_reducible rfl))
          try go_simp
          refine wpAnyH_take (i := 17) (v := ?vN2b_17) rfl (by kernel_rfl) (by kernel_rfl) (by kernel_rfl) (fun _ _ _ h => h) (Or.inl ⟨by rfl, ?yN2b_17⟩) ⟨B14.out.c0, B14.out.c1, B14.out.c2, B15.out.c0, B15.out.c1, B15.out.c2, B17.out.c0, B17.out.c1, B17.out.c2⟩ ?rN2b_17
          case yN2b_17 => (intro W hSw; (try dsimp only at hSw); obtain ⟨s0, s1, s2, s3, s4, s5, s6, s7, s8⟩ := hSw; first | (go_simp; done) | (go_simp; with_reducible rfl))
          try go_simp
          refine wpAnyH_take (i := 18) (v := ?vN2b_18) rfl (by kernel_rfl) (by kernel_rfl) (by kernel_rfl) (fun _ _ _ h => h) (Or.inl ⟨by rfl, ?yN2b_18⟩) ⟨B14.out.c0, B14.out.c1, B14.out.c2, B15.out.c0, B15.out.c1, B15.out.c2, B17.out.c0, B17.out.c1, B17.out.c2⟩ ?rN2b_18
          case yN2b_18 => (intro W hSw; (try dsimp only at hSw); obtain ⟨s0, s1, s2, s3, s4, s5, s6, s7, s8⟩ := hSw; first | (go_simp; done) | (go_simp; with_reducible rfl))
          try go_simp
          refine wpAnyH_take (i := 19) (v := ?vN2b_19) rfl (by kernel_rfl) (by kernel_rfl) (by kernel_rfl) (fun _ _ _ h => h) (Or.inl ⟨by rfl, ?yN2b_19⟩) ⟨B14.out.c0, B14.out.c1, B14.out.c2, B15.out.c0, B15.out.c1, B15.out.c2, B17.out.c0, B17.out.c1, B17.out.c2⟩ ?rN2b_19
          case yN2b_19 => (intro W hSw; (try dsimp only at hSw); obtain ⟨s0, s1, s2, s3, s4, s5, s6, s7, s8⟩ := hSw; first | (go_simp; done) | (go_simp; with_reducible rfl))
          try go_simp
          refine wpAnyH_take (i := 20) (v := ?vN2b_20) rfl (by kernel_rfl) (by kernel_rfl) (by kernel_rfl) (fun _ _ _ h => h) (Or.inl ⟨by rfl, ?yN2b_20⟩) ⟨B14.out.c0, B14.out.c1, B14.out.c2, B15.out.c0, B15.out.c1, B15.out.c2, B17.out.c0, B17.out.c1, B17.out.c2⟩ ?rN2b_20
          case yN2b_20 => (intro W hSw; (try dsimp only at hSw); obtain ⟨s0, s1, s2, s3, s4, s5, s6, s7, s8⟩ := hSw; first | (go_simp; done) | (go_simp; with_reducible rfl))
          try go_simp
          refine wpAnyH_take (i := 21) (v := ?vN2b_21) rfl (by kernel_rfl) (by kernel_rfl) (by kernel_rfl) (fun _ _ _ h => h) (Or.inl ⟨by rfl, ?yN2b_21⟩) ⟨B14.out.c0, B14.out.c1, B14.out.c2, B15.out.c0, B15.out.c1, B15.out.c2, B17.out.c0, B17.out.c1, B17.out.c2⟩ ?rN2b_21
          case yN2b_21 => (intro W hSw; (try dsimp only at hSw); obtain ⟨s0, s1, s2, s3, s4, s5, s6, s7, s8⟩ := hSw; first | (go_simp; done) | (go_simp; with_reducible rfl))
          try go_simp
          refine wpAnyH_take (i := 22) (v := undef) rfl (by kernel_rfl) (by kernel_rfl) (by kernel_rfl) (fun _ _ _ h => h) (Or.inr ⟨by rfl, rfl⟩) ⟨B14.out.c0, B14.out.c1, B14.out.c2, B15.out.c0, B15.out.c1, B15.out.c2, B17.out.c0, B17.out.c1, B17.out.c2⟩ ?rN2b_22
          try go_simp
          refine wpAnyH_take (i := 23) (v := undef) rfl (by kernel_rfl) (by kernel_rfl) (by kernel_rfl) (fun _ _ _ h => h) (Or.inr ⟨by rfl, rfl⟩) ⟨B14.out.c0, B14.out.c1, B14.out.c2, B15.out.c0, B15.out.c1, B15.out.c2, B17.out.c0, B17.out.c1, B17.out.c2⟩ ?rN2b_23
          try go_simp
          refine wpAnyH_take (i := 24) (v := undef) rfl (by kernel_rfl) (by kernel_rfl) (by kernel_rfl) (fun _ _ _ h => h) (Or.inr ⟨by rfl, rfl⟩) ⟨B14.out.c0, B14.out.c1, B14.out.c2, B15.out.c0, B15.out.c1, B15.out.c2, B17.out.c0, B17.out.c1, B17.out.c2⟩ ?rN2b_24
          try go_simp
          refine wpAnyH_take (i := 25) (v := undef) rfl (by kernel_rfl) (by kernel_rfl) (by kernel_rfl) (fun _ _ _ h => h) (Or.inr ⟨by rfl, rfl⟩) ⟨B14.out.c0, B14.out.c1, B14.out.c2, B15.out.c0, B15.out.c1, B15.out.c2, B17.out.c0, B17.out.c1, B17.out.c2⟩ ?rN2b_25
          try go_simp
          refine wpAnyH_take (i := 26) (v := ?vN2b_26) rfl (by kernel_rfl) (by kernel_rfl) (by kernel_rfl) (fun _ _ _ h => h) (Or.inl ⟨by rfl, ?yN2b_26⟩) ⟨B14.out.c0, B14.out.c1, B14.out.c2, B15.out.c0, B15.out.c1, B15.out.c2, B17.out.c0, B17.out.c1, B17.out.c2⟩ ?rN2b_26
          case yN2b_26 => (intro W hSw; (try dsimp only at hSw); obtain ⟨s0, s1, s2, s3, s4, s5, s6, s7, s8⟩ := hSw; first | (go_simp; done) | (go_simp; with_reducible rfl))
          try go_simp
          refine wpAnyH_take (i := 27) (v := ?vN2b_27) rfl (by kernel_rfl) (by kernel_rfl) (by kernel_rfl) (fun _ _ _ h => h) (Or.inl ⟨by rfl, ?yN2b_27⟩) ⟨B14.out.c0, B14.out.c1, B14.out.c2, B15.out.c0, B15.out.c1, B15.out.c2, B17.out.c0, B17.out.c1, B17.out.c2⟩ ?rN2b_27
          case yN2b_27 => (intro W hSw; (try dsimp only at hSw); obtain ⟨s0, s1, s2, s3, s4, s5, s6, s7, s8⟩ := hSw; first | (go_simp; done) | (go_simp; with_reducible rfl))
          try go_simp
          refine wpAnyH_done (by kernel_rfl) ?_ _
          have u0 := HQ.out.c0
          have u1 := HQ.out.c1
          have u2 := HQ.out.c2
          go_upto_region 22 with (first
            | (go_at_call 29; (with_reducible refine (HO1 _ H1.out).out.mono ?_); rintro e wa ⟨rfl, ht, h1⟩; have HQ := Lib.hid (HQ.out.tn ht (fun e => absurd e (Nat.ne_of_lt HQK.out))); have HB := Lib.hid (HB.out.trans (ht.below (B := w.heap.size) HB.out.size (fun z e => e ▸ HKk.out))); have H1 := Lib.hid h1; clear ht h1)
            | (go_at_call 31; (with_reducible refine (last_any _ k _ H1.out).mono ?_); rintro e wb ⟨rfl, hb⟩; have HL20 := Lib.hid (Nat.lt_of_lt_of_le H1.out.lt hb.size); have HQ := Lib.hid ((HQ.out.below hb HQ.out.lt).alloc (sobj ⟨z1, z2, z3⟩)); have H1 := Lib.hid ((H1.out.below hb H1.out.lt).alloc (sobj ⟨z1, z2, z3⟩)); have HB := Lib.hid ((HB.out.trans (hb.mono HB.out.size)).alloc (Nat.le_trans HB.out.size hb.size) (sobj ⟨z1, z2, z3⟩)); have B20 := Lib.hid (at_new wb ⟨z1, z2, z3⟩); have v0 := HQ.out.c0; have v1 := HQ.out.c1; have v2 := HQ.out.c2; clear hb)
            | (go_at_call 29; (with_reducible refine (HO2 _ H1.out).out.mono ?_); rintro e wc ⟨rfl, ht, h1⟩; have HQ := Lib.hid (HQ.out.tn ht (fun e => absurd e (Nat.ne_of_lt HQK.out))); have B20 := Lib.hid (B20.out.tn ht (fun e => absurd e (Nat.ne_of_gt HL20.out))); have HB := Lib.hid (HB.out.trans (ht.below (B := w.heap.size) HB.out.size (fun z e => e ▸ HKk.out))); have H1 := Lib.hid h1; clear ht h1))
          have HQ := Lib.hid (HQ.out.below (Below.refl _ _).drew HQ.out.lt)
          have H1 := Lib.hid (H1.out.below (Below.refl _ _).drew H1.out.lt)
          have B20 := Lib.hid (B20.out.below (Below.refl _ _).drew B20.out.lt)
          have HB := Lib.hid HB.out.drew
          go_region_held (fun w' => w'.cell? ⟨w.heap.size + 1, 0, none⟩ = some (.int .i64 t1) ∧ w'.cell? ⟨w.heap.size + 1, 1, none⟩ = some (.int .i64 t2) ∧ w'.cell? ⟨w.heap.size + 1, 2, none⟩ = some (.int .i64 t3) ∧ w'.cell? ⟨wb.heap.size, 0, none⟩ = some (.int .i64 z1) ∧ w'.cell? ⟨wb.heap.size, 1, none⟩ = some (.int .i64 z2) ∧ w'.cell? ⟨wb.heap.size, 2, none⟩ = some (.int .i64 z3)) (exact ⟨HQ.out.c0, HQ.out.c1, HQ.out.c2, B20.out.c0, B20.out.c1, B20.out.c2⟩) (first
            | (go_at_call 10; (with_reducible refine (first_any _ (HT.out.below HB.out)).mono ?_); rintro e wd ⟨rfl, hb⟩; have HQ := Lib.hid (HQ.out.below hb HQ.out.lt); have H1 := Lib.hid (H1.out.below hb H1.out.lt); have B20 := Lib.hid (B20.out.below hb B20.out.lt); have HB := Lib.hid (HB.out.trans (hb.mono HB.out.size)); clear hb)
            | (go_at_call 31; (with_reducible refine (last_any _ k _ H1.out).mono ?_); rintro e wd ⟨rfl, hb⟩; have HQ := Lib.hid (HQ.out.below hb HQ.out.lt); have H1 := Lib.hid (H1.out.below hb H1.out.lt); have B20 := Lib.hid (B20.out.below hb B20.out.lt); have HB := Lib.hid (HB.out.trans (hb.mono HB.out.size)); clear hb)
            | (go_at_call 13; (with_reducible refine (HY _).out.mono ?_); rintro e wd ⟨rfl, hb⟩; have HQ := Lib.hid (HQ.out.below hb HQ.out.lt); have H1 := Lib.hid (H1.out.below hb H1.out.lt); have B20 := Lib.hid (B20.out.below hb B20.out.lt); have HB := Lib.hid (HB.out.trans (hb.mono HB.out.size)); clear hb))
          go_wp2
          go_ret
          exact ⟨rfl, HB.out⟩
theorem hlcPeeks_walk (W : World) (n : Int) (_ : -9223372036854775808 ≤ n) (_ : n ≤ 9223372036854775807) (f : St) (_ : f.wf) (ao : Option Addr) (cap : Nat) (l : List Do) (hl : SO W.heap.size W ao l.length cap l) (ph : Int) (_ : -9223372036854775808 ≤ ph) (_ : ph ≤ 9223372036854775807) (t : St) (_ : t.wf) (hT : Pow W) :
    Calls Tryd.prog 8 #[.int .i64 n, sagg f, .slice ao l.length cap, .int .i64 ph, sagg t] W fun e w' => e = .returned (.bool true) ∧ Below W.heap.size W w' := by
  rcases newS_cases n f with ⟨r, h1, h2⟩ | ⟨s, h1, h2, h3, _⟩
  · exact peeks_none W n f _ ph t hT r h1 h2
  · exact peeks_some W n f ao cap l hl ph t hT s h1 h2 (by rw [h3])

set_option maxRecDepth 100000 in
theorem hlcPeeks_lifted (os : Os) (started : os.Started) (H : Type) (enc : TypeId × Value → H) :
    ReturnsInHanded {} Tryd.checked os 8 .any (fun w args => (Rows.hlcPeeksSpec.pre enc Tryd.prog Tryd.f8 [] false w args ∧ laidMetH Tryd.prog laid3 w) ∧ sizedMet enc Tryd.prog Tryd.f8 (OpenSpec.ofChange Rows.hlcPeeksSpec) false w args)
      (Rows.hlcPeeksSpec.post enc Tryd.prog Tryd.f8 false true false false) := by
  refine returnsInHanded_of_change_and (C := Tryd.checked) (X := fun w _ => laidMetH Tryd.prog laid3 w) (fun _ _ _ hh h => h.of_heap hh) own started (by kernel_rfl) Tryd.func8
    (ChangeSpec.witness_shaped (enc := enc) (C := Tryd.checked) (os := os) (X := fun w _ => laidMetH Tryd.prog laid3 w) false (World.doorLaid Tryd.prog 400 os) #[.int .i64 0, .agg #[.int .i64 0, .int .i64 0, .int .i64 0], .slice none 0 0, .int .i64 0, .agg #[.int .i64 0, .int .i64 0, .int .i64 0]] 8 rfl (World.shaped_of_RefB (by kernel_rfl) (by kernel_rfl)) (by kernel_rfl) (by kernel_rfl) (by kernel_rfl) (door_met3 os _)) ?_
  intro W base args ds gs before hval0 hW _ _ hL _
  have hval : ∀ (j : Nat) t v, Tryd.f8.params[j]? = some t → args[j]? = some v → Value.okWide Tryd.prog W .any base t v := hval0
  have hW' := hW
  obtain ⟨p, q, hA0, hV, rfl, hfz, hnd⟩ := hW
  have hA : DataW.TrodAll enc Tryd.prog W 0 (fun _ => true) true Tryd.f8.params.toList args.toList ds p := hA0
  rw [Tryd.params8] at hA hval
  obtain ⟨v0, v1, v2, v3, v4, d0, d1, d2, d3, d4, p0, p1, p2, p3, p4, rfl, rfl, rfl, h0, h1, h2, h3, h4⟩ := trodAll_five hA
  obtain ⟨rfl, rfl⟩ := trodVars_none hV
  clear hA0 hval0
  simp only [List.append_nil] at hW'
  have hlt : ∀ x ∈ p0 ++ p1 ++ p2 ++ p3 ++ p4, x.block < W.heap.size := fun x hx => hW'.lt x (by simpa using hx)
  have hT := pow_of_laid hL
  have k0 := h0
  obtain ⟨a0, rfl, rfl, rfl, wf0⟩ := open_int Tryd.underlying3 (hval 0 3 v0 rfl rfl) h0
  have hwf0 := wf0
  simp [Lit.wf, IntKind.min, IntKind.max, IntKind.signed, IntKind.bits] at hwf0
  have k1 := h1
  obtain ⟨x1, rfl, rfl, u1⟩ := open_stamp (hval 1 23 v1 rfl rfl) h1
  have k2 := h2
  obtain ⟨b2, len2, cap2, rfl⟩ := okWide_slice Tryd.underlying36 (hval 2 36 v2 rfl rfl)
  obtain ⟨fuel2, g2⟩ := h2
  obtain ⟨ao2, c2, xs2, hv2, r2⟩ := open_so g2
  have k3 := h3
  obtain ⟨a3, rfl, rfl, rfl, wf3⟩ := open_int Tryd.underlying3 (hval 3 3 v3 rfl rfl) h3
  have hwf3 := wf3
  simp [Lit.wf, IntKind.min, IntKind.max, IntKind.signed, IntKind.bits] at hwf3
  have k4 := h4
  obtain ⟨x4, rfl, rfl, u4⟩ := open_stamp (hval 4 23 v4 rfl rfl) h4
  refine Calls.mono (?walk : Calls _ _ _ _ fun e w' => e = .returned (.bool true) ∧ Below W.heap.size W w') fun e W' ⟨he, hw⟩ => ?_
  case walk =>
    rw [hv2]
    exact hlcPeeks_walk W a0 (by omega) (by omega) x1 u1 ao2 c2 xs2 r2 a3 (by omega) (by omega) x4 u4 hT
  subst he
  exact ⟨_, rfl, post_of_below (pa := [] ++ ([] ++ (p2 ++ ([] ++ [])))) (pv := []) hW' (fun _ _ _ => trodAll_mk1 (shut_bool Tryd.underlying4 _)) (fun sp hsp => trodAll_mk5 (WideElems.Trod_stays laidOutP (by kernel_rfl) (of_decide_eq_true (by kernel_rfl)) k0 (fun x hx => hw.same (hlt x (nomatch hx))) (fun x hx => hsp x (nomatch hx))) (WideElems.Trod_stays laidOutP (by kernel_rfl) (of_decide_eq_true (by kernel_rfl)) k1 (fun x hx => hw.same (hlt x (nomatch hx))) (fun x hx => hsp x (nomatch hx))) (WideElems.Trod_stays laidOutP (by kernel_rfl) (of_decide_eq_true (by kernel_rfl)) k2 (fun x hx => hw.same (hlt x (by simp [hx]))) (fun x hx => hsp x (by simp [hx]))) (WideElems.Trod_stays laidOutP (by kernel_rfl) (of_decide_eq_true (by kernel_rfl)) k3 (fun x hx => hw.same (hlt x (nomatch hx))) (fun x hx => hsp x (nomatch hx))) (WideElems.Trod_stays laidOutP (by kernel_rfl) (of_decide_eq_true (by kernel_rfl)) k4 (fun x hx => hw.same (hlt x (nomatch hx))) (fun x hx => hsp x (nomatch hx)))) (fun _ _ => rfl) (by simp) hw (ok_one (by kernel_rfl) rfl (okWide_bool_mk Tryd.underlying4 _))⟩
theorem hlcPeeks_holds : Rows.HlcPeeksSaid :=
  OpenClaim.holds_of_wide 8 Tryd.f8 rfl rfl rfl rfl rfl rfl rfl ⟨rfl, rfl, rfl, rfl, rfl⟩ rfl rfl rfl rfl rfl (by kernel_rfl) Tryd.func8 (by kernel_rfl)
    (of_decide_eq_true (by kernel_rfl)) (by unfold Func.isWrapper; first | (rw [if_pos (by decide +kernel)]; kernel_rfl) | (rw [if_neg (by decide +kernel)]; exact ⟨rfl, rfl⟩))
    (fun os started H enc _ => hlcPeeks_lifted os started H enc)
/-- THE TIED CARD. -/
theorem hlcPeeks_card : Rows.HlcPeeksCardSaid :=
  Claim7.holds_tied_plain_at .later [] [.data, .data, .data] true (true, "55d94c96041e578d324afd5bc41b6edf1ded3878fc07ea6770ba733d434b73f6") true
    hlcPeeks_holds (fun _ h => by cases h) (by kernel_rfl) (fun _ h => by cases h) hlcPeeks_row_tie rfl ⟨rfl, rfl⟩ (by kernel_rfl) rfl
    (fun f fn hf hfn => by
      obtain rfl : f = 8 := Option.some.inj ((show Tryd.prog.funcNamed "headrace/racelaw8.HlcPeeks" = some 8 by kernel_rfl).symm.trans hf) |>.symm
      obtain rfl : fn = Tryd.f8 := (Option.some.inj (Tryd.func8.symm.trans hfn)).symm
      exact ⟨by kernel_rfl, fun j t ht => by
        rw [Tryd.params8] at ht
        have hm : t ∈ [3, 23, 36, 3, 23] := by simpa using Array.mem_of_getElem? ht
        have hall : ([3, 23, 36, 3, 23].all fun u => !Tryd.prog.wantsStandIn u) = true := by kernel_rfl
        exact (show Tryd.prog.wantsStandIn t = false by simpa using List.all_eq_true.1 hall t hm)⟩)
    (by kernel_rfl)
#print axioms hlcPeeks_card
end Go.Proofs.YtmpokhjchbaleaaDoor
