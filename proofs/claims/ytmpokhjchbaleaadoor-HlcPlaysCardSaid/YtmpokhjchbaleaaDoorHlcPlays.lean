/- Any clock, whatever is done with it: what each call tells, and Last, as the document says: racelaw8.HlcPlays answers true and leaves its arguments as they were. Conditions: the library's table holds what its initialiser lays. -/
import Derived.Test.YtmpokhjchbaleaaDoorG
import Derived.Deep.Cut
namespace Go.Proofs.YtmpokhjchbaleaaDoor
open Go.ChangeShapes Go.WideShapes Go.ChangeAt Go.RowKit
theorem peek_may {s : St} (hs : mayS s = true) (p : Int) (h : (peekS s p).2 = 0) : mayS (peekS s p).1 = true := by
  have hr := mayS_iff.1 hs
  unfold peekS at h ⊢
  split at h
  · cases h
  · rename_i h1
    rw [if_neg h1]
    split at h
    · rename_i h2
      rw [if_pos h2]
      exact mayS_iff.2 ⟨by simp only; omega, by simp only; omega, hr.2.2⟩
    · rename_i h2
      rw [if_neg h2]
      split at h
      · cases h
      · rename_i h3
        rw [if_neg h3]
        exact mayS_iff.2 ⟨hr.1, by simp only; omega, hr.2.2⟩
theorem now_may {s : St} (hs : mayS s = true) (p : Int) : mayS (nowS s p) = true := by
  unfold nowS
  split
  · rename_i h; exact peek_may hs p h
  · exact hs
/-- What is done to a clock. -/
def plS (s : St) (p : Do) : St := if p.kind = 0 then nowS s p.n else if p.kind = 1 then s else obsS s p.s
theorem pl_may {s : St} (hs : mayS s = true) (p : Do) : mayS (plS s p) = true := by
  unfold plS
  split
  · exact now_may hs _
  · split
    · exact hs
    · exact obs_may hs
def plL (s : St) (l : List Do) : St := l.foldl plS s
theorem plL_take (s : St) (l : List Do) (i : Nat) (h : i < l.length) : plL s (l.take (i + 1)) = plS (plL s (l.take i)) l[i] := by
  unfold plL
  rw [List.take_add_one, List.getElem?_eq_getElem h, Option.toList_some, List.foldl_append]
  rfl
theorem plL_keeps {s : St} (hs : mayS s = true) : ∀ l : List Do, mayS (plL s l) = true := by
  intro l
  induction l generalizing s with
  | nil => exact hs
  | cons p r ih => exact ih (pl_may hs p)
theorem At.ne {w : World} {b c : Nat} {v : St} (h : At w b v) (hc : b ≠ c) (u : St) : At (setS w c u) b v :=
  h.tn (S := fun j => j = c) ((Tn.refl (fun j => j = c) w).set3 (fun _ => rfl) u) hc
theorem RAt.ne {w : World} {b c : Nat} {v : St} (h : RAt w b v) (hc : b ≠ c) (u : St) : RAt (setS w c u) b v :=
  h.tn (S := fun j => j = c) ((Tn.refl (fun j => j = c) w).set3 (fun _ => rfl) u) hc
set_option maxRecDepth 100000 in
set_option maxHeartbeats 8000000 in
theorem plays_none (w : World) (n : Int) (f : St) (v : Value) (hT : Pow w) (r : Int) (hn : newS n f = (none, r)) (_ : r ≠ 0) : Calls Tryd.prog 5 #[.int .i64 n, sagg f, v] w fun e w' => e = .returned (.bool true) ∧ Below w.heap.size w w' := by
  have HT := Lib.hid hT
  have HN := fun w => Lib.hid (new_any w n f)
  have HN2 := fun w => Lib.hid (rnew_any w n f)
  rw [hn] at HN HN2
  have HA := Lib.hid (at_new w f)
  have HW := Lib.hid (below1 w (sobj f))
  have hr' : (r != r) = false := by simp
  clear hT hn
  obtain ⟨f1, f2, f3⟩ := f
  go_enter Tryd.func5, Tryd.ntmps5
  go_wp2_with (first
    | (go_at_call 10; (with_reducible refine (first_any _ (HT.out.below HW.out)).mono ?_); rintro e w1 ⟨rfl, hb⟩; have HA := Lib.hid (HA.out.below hb HA.out.lt); have HW := Lib.hid (HW.out.trans (hb.mono HW.out.size)); have a0 := HA.out.c0; have a1 := HA.out.c1; have a2 := HA.out.c2; clear hb)
    | (go_at_call 23; (with_reducible refine (HN _).out.mono ?_); rintro e w2 ⟨⟨v, rfl, rfl⟩, hb⟩; have HA := Lib.hid (HA.out.below hb HA.out.lt); have HW := Lib.hid (HW.out.trans (hb.mono HW.out.size)); have a0 := HA.out.c0; have a1 := HA.out.c1; have a2 := HA.out.c2; clear hb)
    | (go_at_call 24; (with_reducible refine (HN2 _).out.mono ?_); rintro e w3 ⟨⟨v, rfl, rfl⟩, hb⟩; have HA := Lib.hid (HA.out.below hb HA.out.lt); have HW := Lib.hid (HW.out.trans (hb.mono HW.out.size)); clear hb))
  go_ret
  exact ⟨rfl, HW.out⟩
set_option maxRecDepth 100000 in
set_option maxHeartbeats 40000000 in
theorem plays_some (w : World) (n : Int) (f : St) (ao : Option Addr) (cap : Nat) (l : List Do) (hl : SO w.heap.size w ao l.length cap l) (hT : Pow w) (s : St) (hn : newS n f = (some s, 0)) (hs : mayS s = true) :
    Calls Tryd.prog 5 #[.int .i64 n, sagg f, .slice ao l.length cap] w fun e w' => e = .returned (.bool true) ∧ Below w.heap.size w w' := by
  have HT := Lib.hid hT
  have HN := fun w => Lib.hid (new_any w n f)
  have HN2 := fun w => Lib.hid (rnew_any w n f)
  rw [hn] at HN HN2
  have HA := Lib.hid (at_new w f)
  have HW := Lib.hid (below1 w (sobj f))
  have HS := Lib.hid hs
  have HL := Lib.hid hl
  have HLT := Lib.hid hl.lt
  clear hT hn hs hl
  obtain ⟨f1, f2, f3⟩ := f
  go_enter Tryd.func5, Tryd.ntmps5
  go_upto_region 9 with (first
    | (go_at_call 10; (with_reducible refine (first_any _ (HT.out.below HW.out)).mono ?_); rintro e w1 ⟨rfl, hb⟩; have HA := Lib.hid (HA.out.below hb HA.out.lt); have HW := Lib.hid (HW.out.trans (hb.mono HW.out.size)); have a0 := HA.out.c0; have a1 := HA.out.c1; have a2 := HA.out.c2; clear hb)
    | (go_at_call 23; (with_reducible refine (HN _).out.mono ?_); rintro e w2 ⟨⟨v, rfl, k, rfl, hk, ha⟩, hb⟩; have HA := Lib.hid (HA.out.below hb HA.out.lt); have HK := Lib.hid ha; have HKk := Lib.hid (Nat.le_trans HW.out.size hk); have HW := Lib.hid (HW.out.trans (hb.mono HW.out.size)); have a0 := HA.out.c0; have a1 := HA.out.c1; have a2 := HA.out.c2; clear hb ha hk)
    | (go_at_call 24; (with_reducible refine (HN2 _).out.mono ?_); rintro e w3 ⟨⟨v, rfl, j, rfl, hj, ha⟩, hb⟩; have HKJ := Lib.hid (Nat.lt_of_lt_of_le HK.out.lt hj); have HK := Lib.hid (HK.out.below hb HK.out.lt); have HJ := Lib.hid ha; have HJk := Lib.hid (Nat.le_trans HW.out.size hj); have HW := Lib.hid (HW.out.trans (hb.mono HW.out.size)); clear hb ha hj))
  go_wp2
  clear a0 a1 a2
  go_loopw [11] (fun vi wr => ∃ i : Nat, vi = .int .i64 (i : Int) ∧ i ≤ l.length ∧ Hid (Below w.heap.size w wr) ∧ Hid (At wr k (plL s (l.take i))) ∧ Hid (RAt wr j (plL s (l.take i)))) (fun vi _ => l.length - (RowKit.intOf vi).toNat)
  case atStart => exact ⟨0, rfl, Nat.zero_le _, HW, HK, HJ⟩
  case round =>
    obtain ⟨i, rfl, hi, HB, H1, H2⟩ := hrel
    have HM := Lib.hid (plL_keeps HS.out (l.take i))
    have HWR := Lib.hid HB.out.size
    have HK1 := Lib.hid H1.out.lt
    have HK2 := Lib.hid H2.out.lt
    by_cases hgo : i < l.length ∧ i < 2000
    · obtain ⟨hlt, h2000⟩ := hgo
      have hw3 : IntKind.i64.wrap ((i : Int) + 1) = ((i + 1 : Nat) : Int) := by rw [wrap_in (by omega)]; omega
      have HE1 := Lib.hid (plL_take s l i hlt)
      obtain ⟨b, o, rfl, hb, ho, hx1⟩ := HL.out.at_ hlt
      have hi1 : decide ((i : Int) < (l.length : Int)) = true := decide_eq_true (by omega)
      have hi2 : decide ((i : Int) < 2000) = true := decide_eq_true (by omega)
      have hi3 : (i : Int) < (l.length : Int) := by omega
      have HLT' := Lib.hid hlt
      have HO := Lib.hid ho
      clear ho hi h2000 hx1
      generalize l[i] = xx at *
      clear hlt
      generalize plL s (l.take i) = F at *
      obtain ⟨x, xn, ⟨xw, xl, xm⟩⟩ := xx
      have B1 := Lib.hid (at_two wr St.zero St.zero).1
      have B2 := Lib.hid (at_two wr St.zero St.zero).2
      have H1 := Lib.hid ((H1.out.alloc (sobj St.zero)).alloc (sobj St.zero))
      have H2 := Lib.hid ((H2.out.alloc (sobj St.zero)).alloc (sobj St.zero))
      have HB := Lib.hid (HB.out.trans ((below2 wr (sobj St.zero) (sobj St.zero)).mono HB.out.size))
      have HOw := Lib.hid HO.out
      have c0 := (HB.out.cell (p := ⟨b, o + i * 5, none⟩) hb).trans HO.out.c0
      have c1 := (HB.out.cell (p := ⟨b, o + i * 5 + 1, none⟩) hb).trans HO.out.c1
      have c2 := (HB.out.cell (p := ⟨b, o + i * 5 + 2, none⟩) hb).trans HO.out.c2
      have c3 := (HB.out.cell (p := ⟨b, o + i * 5 + 2 + 1, none⟩) hb).trans HO.out.c3
      have c4 := (HB.out.cell (p := ⟨b, o + i * 5 + 2 + 2, none⟩) hb).trans HO.out.c4
      clear HOw
      by_cases hk0 : x = 0
      · have HE2 : Hid (plS F ⟨x, xn, ⟨xw, xl, xm⟩⟩ = nowS F xn) := by show _ = _; unfold plS; rw [if_pos hk0]
        have hd0 : (x == 0) = true := by simpa using hk0
        clear hk0
        have HN1 := fun w h => Lib.hid (now_any w k F h HM.out xn)
        have HN2 := fun w h => Lib.hid (rnow_any w j F h HM.out xn)
        generalize nowS F xn = G at *
        generalize peekS F xn = R at *
        obtain ⟨⟨x1, x2, x3⟩, x4⟩ := R
        obtain ⟨g1, g2, g3⟩ := G
        simp only at HN1 HN2
        have q1 : (x4 != x4) = false := by simp
        go_upto_region 18 with (go_at_call 25; (with_reducible refine (HN1 _ H1.out).out.mono ?_); rintro e w4 ⟨rfl, ht, h1⟩; have HL1 := Lib.hid (Nat.lt_of_lt_of_le B1.out.lt ht.size); have H1 := Lib.hid (h1.other (c := wr.heap.size) HK1.out ⟨x1, x2, x3⟩); have H2 := Lib.hid ((H2.out.tn ht (fun e => absurd e (Nat.ne_of_gt HKJ.out))).ne (Nat.ne_of_lt HK2.out) ⟨x1, x2, x3⟩); have HB := Lib.hid (below_set3 (b := wr.heap.size) (u := ⟨x1, x2, x3⟩) (HB.out.trans (ht.below (B := w.heap.size) HB.out.size (fun z e => e ▸ HKk.out))) HWR.out); have B2 := Lib.hid ((B2.out.tn ht (fun e => absurd e (Nat.ne_of_gt (Nat.lt_succ_of_lt HK1.out)))).ne (Nat.succ_ne_self _) ⟨x1, x2, x3⟩); have B1' := B1.out.tn ht (fun e => absurd e (Nat.ne_of_gt HK1.out)); have z0 := B1'.c0; have z1 := B1'.c1; have z2 := B1'.c2; have z3 := B1'.f0; have z4 := B1'.f1; have z5 := B1'.f2; have z6 := B1'.lt; have B1 := Lib.hid (B1'.setAll ⟨x1, x2, x3⟩); have c0 := (HB.out.cell (p := ⟨b, o + i * 5, none⟩) hb).trans HO.out.c0; have c1 := (HB.out.cell (p := ⟨b, o + i * 5 + 1, none⟩) hb).trans HO.out.c1; have c2 := (HB.out.cell (p := ⟨b, o + i * 5 + 2, none⟩) hb).trans HO.out.c2; have c3 := (HB.out.cell (p := ⟨b, o + i * 5 + 2 + 1, none⟩) hb).trans HO.out.c3; have c4 := (HB.out.cell (p := ⟨b, o + i * 5 + 2 + 2, none⟩) hb).trans HO.out.c4; clear ht h1 B1')
        go_upto_region 22 with (go_at_call 26; (with_reducible refine (HN2 _ H2.out).out.mono ?_); rintro e w5 ⟨rfl, ht, h2⟩; have H1 := Lib.hid ((H1.out.tn ht (fun e => absurd e (Nat.ne_of_lt HKJ.out))).ne (Nat.ne_of_lt (Nat.lt_succ_of_lt HK1.out)) ⟨x1, x2, x3⟩); have H2 := Lib.hid (h2.ne (c := wr.heap.size + 1) (Nat.ne_of_lt (Nat.lt_succ_of_lt HK2.out)) ⟨x1, x2, x3⟩); have HB := Lib.hid (below_set3 (b := wr.heap.size + 1) (u := ⟨x1, x2, x3⟩) (HB.out.trans (ht.below (B := w.heap.size) HB.out.size (fun z e => e ▸ HJk.out))) (Nat.le_succ_of_le HWR.out)); have B1 := Lib.hid ((B1.out.tn ht (fun e => absurd e (Nat.ne_of_gt HK2.out))).ne (Nat.ne_of_lt (Nat.lt_succ_self _)) ⟨x1, x2, x3⟩); have B2' := B2.out.tn ht (fun e => absurd e (Nat.ne_of_gt (Nat.lt_succ_of_lt HK2.out))); have v0 := B2'.c0; have v1 := B2'.c1; have v2 := B2'.c2; have v3 := B2'.f0; have v4 := B2'.f1; have v5 := B2'.f2; have v6 := B2'.lt; have B2 := Lib.hid (B2'.setAll ⟨x1, x2, x3⟩); clear ht h2 B2')
        have H1 := Lib.hid (H1.out.below (Below.refl _ _).drew H1.out.lt)
        have H2 := Lib.hid (H2.out.below (Below.refl _ _).drew H2.out.lt)
        have B1 := Lib.hid (B1.out.below (Below.refl _ _).drew B1.out.lt)
        have B2 := Lib.hid (B2.out.below (Below.refl _ _).drew B2.out.lt)
        have HB := Lib.hid HB.out.drew
        refine wp_region_held (S := (fun w' => w'.cell? ⟨wr.heap.size, 0, none⟩ = some (.int .i64 x1) ∧ w'.cell? ⟨wr.heap.size, 1, none⟩ = some (.int .i64 x2) ∧ w'.cell? ⟨wr.heap.size, 2, none⟩ = some (.int .i64 x3) ∧ w'.cell? ⟨wr.heap.size + 1, 0, none⟩ = some (.int .i64 x1) ∧ w'.cell? ⟨wr.heap.size + 1, 1, none⟩ = some (.int .i64 x2) ∧ w'.cell? ⟨wr.heap.size + 1, 2, none⟩ = some (.int .i64 x3) ∧ w'.cell? ⟨j, 1, none⟩ = some (.int .i64 g1) ∧ w'.cell? ⟨j, 2, none⟩ = some (.int .i64 g2) ∧ w'.cell? ⟨j, 3, none⟩ = some (.int .i64 g3))) (by kernel_rfl) ?_
        change wpAnyH _ _ _ _ _ _ _ _ (World.drew _)
        refine wpAnyH_take (i := 0) (v := ?vk0c_0) rfl (by kernel_rfl) (by kernel_rfl) (by kernel_rfl) (fun _ _ _ h => h) (Or.inl ⟨by rfl, ?yk0c_0⟩) ⟨B1.out.c0, B1.out.c1, B1.out.c2, B2.out.c0, B2.out.c1, B2.out.c2, H2.out.c1, H2.out.c2, H2.out.c3⟩ ?rk0c_0
        case yk0c_0 => (intro W hSw; (try dsimp only at hSw); obtain ⟨s0, s1, s2, s3, s4, s5, s6, s7, s8⟩ := hSw; first | (go_simp; done) | (go_simp; with_reducible rfl))
        try go_simp
        refine wpAnyH_take (i := 1) (v := ?vk0c_1) rfl (by kernel_rfl) (by kernel_rfl) (by kernel_rfl) (fun _ _ _ h => h) (Or.inl ⟨by rfl, ?yk0c_1⟩) ⟨B1.out.c0, B1.out.c1, B1.out.c2, B2.out.c0, B2.out.c1, B2.out.c2, H2.out.c1, H2.out.c2, H2.out.c3⟩ ?rk0c_1
        case yk0c_1 => (intro W hSw; (try dsimp only at hSw); obtain ⟨s0, s1, s2, s3, s4, s5, s6, s7, s8⟩ := hSw; first | (go_simp; done) | (go_simp; with_reducible rfl))
        try go_simp
        refine wpAnyH_take (i := 2) (v := ?vk0c_2) rfl (by kernel_rfl) (by kernel_rfl) (by kernel_rfl) (fun _ _ _ h => h) (Or.inl ⟨by rfl, ?yk0c_2⟩) ⟨B1.out.c0, B1.out.c1, B1.out.c2, B2.out.c0, B2.out.c1, B2.out.c2, H2.out.c1, H2.out.c2, H2.out.c3⟩ ?rk0c_2
        case yk0c_2 => (intro W hSw; (try dsimp only at hSw); obtain ⟨s0, s1, s2, s3, s4, s5, s6, s7, s8⟩ := hSw; first | (go_simp; done) | (go_simp; with_reducible rfl))
        try go_simp
        refine wpAnyH_take (i := 3) (v := ?vk0c_3) rfl (by kernel_rfl) (by kernel_rfl) (by kernel_rfl) (fun _ _ _ h => h) (Or.inl ⟨by rfl, ?yk0c_3⟩) ⟨B1.out.c0, B1.out.c1, B1.out.c2, B2.out.c0, B2.out.c1, B2.out.c2, H2.out.c1, H2.out.c2, H2.out.c3⟩ ?rk0c_3
        case yk0c_3 => (intro W hSw; (try dsimp only at hSw); obtain ⟨s0, s1, s2, s3, s4, s5, s6, s7, s8⟩ := hSw; first | (go_simp; done) | (go_simp; with_reducible rfl))
        try go_simp
        refine wpAnyH_take (i := 4) (v := ?vk0c_4) rfl (by kernel_rfl) (by kernel_rfl) (by kernel_rfl) (fun _ _ _ h => h) (Or.inl ⟨by rfl, ?yk0c_4⟩) ⟨B1.out.c0, B1.out.c1, B1.out.c2, B2.out.c0, B2.out.c1, B2.out.c2, H2.out.c1, H2.out.c2, H2.out.c3⟩ ?rk0c_4
        case yk0c_4 => (intro W hSw; (try dsimp only at hSw); obtain ⟨s0, s1, s2, s3, s4, s5, s6, s7, s8⟩ := hSw; first | (go_simp; done) | (go_simp; with_reducible rfl))
        try go_simp
        refine wpAnyH_take (i := 5) (v := ?vk0c_5) rfl (by kernel_rfl) (by kernel_rfl) (by kernel_rfl) (fun _ _ _ h => h) (Or.inl ⟨by rfl, ?yk0c_5⟩) ⟨B1.out.c0, B1.out.c1, B1.out.c2, B2.out.c0, B2.out.c1, B2.out.c2, H2.out.c1, H2.out.c2, H2.out.c3⟩ ?rk0c_5
        case yk0c_5 => (intro W hSw; (try dsimp only at hSw); obtain ⟨s0, s1, s2, s3, s4, s5, s6, s7, s8⟩ := hSw; first | (go_simp; done) | (go_simp; with_reducible rfl))
        try go_simp
        refine wpAnyH_take (i := 6) (v := ?vk0c_6) rfl (by kernel_rfl) (by kernel_rfl) (by kernel_rfl) (fun _ _ _ h => h) (Or.inl ⟨by rfl, ?yk0c_6⟩) ⟨B1.out.c0, B1.out.c1, B1.out.c2, B2.out.c0, B2.out.c1, B2.out.c2, H2.out.c1, H2.out.c2, H2.out.c3⟩ ?rk0c_6
        case yk0c_6 => (intro W hSw; (try dsimp only at hSw); obtain ⟨s0, s1, s2, s3, s4, s5, s6, s7, s8⟩ := hSw; first | (go_simp; done) | (go_simp; with_reducible rfl))
        try go_simp
        refine wpAnyH_take (i := 7) (v := ?vk0c_7) rfl (by kernel_rfl) (by kernel_rfl) (by kernel_rfl) (fun _ _ _ h => h) (Or.inl ⟨by rfl, ?yk0c_7⟩) ⟨B1.out.c0, B1.out.c1, B1.out.c2, B2.out.c0, B2.out.c1, B2.out.c2, H2.out.c1, H2.out.c2, H2.out.c3⟩ ?rk0c_7
        case yk0c_7 => (intro W hSw; (try dsimp only at hSw); obtain ⟨s0, s1, s2, s3, s4, s5, s6, s7, s8⟩ := hSw; first | (go_simp; done) | (go_simp; with_reducible rfl))
        try go_simp
        refine wpAnyH_take (i := 8) (v := ?vk0c_8) rfl (by kernel_rfl) (by kernel_rfl) (by kernel_rfl) (fun _ _ _ h => h) (Or.inl ⟨by rfl, ?yk0c_8⟩) ⟨B1.out.c0, B1.out.c1, B1.out.c2, B2.out.c0, B2.out.c1, B2.out.c2, H2.out.c1, H2.out.c2, H2.out.c3⟩ ?rk0c_8
        case yk0c_8 => (intro W hSw; (try dsimp only at hSw); obtain ⟨s0, s1, s2, s3, s4, s5, s6, s7, s8⟩ := hSw; first | (go_simp; done) | (go_simp; with_reducible rfl))
        try go_simp
        refine wpAnyH_take (i := 9) (v := ?vk0c_9) rfl (by kernel_rfl) (by kernel_rfl) (by kernel_rfl) (fun _ _ _ h => h) (Or.inl ⟨by rfl, ?yk0c_9⟩) ⟨B1.out.c0, B1.out.c1, B1.out.c2, B2.out.c0, B2.out.c1, B2.out.c2, H2.out.c1, H2.out.c2, H2.out.c3⟩ ?rk0c_9
        case yk0c_9 => (intro W hSw; (try dsimp only at hSw); obtain ⟨s0, s1, s2, s3, s4, s5, s6, s7, s8⟩ := hSw; first | (go_simp; done) | (go_simp; with_reducible rfl))
        try go_simp
        refine wpAnyH_take (i := 11) (v := ?vk0c_11) rfl (by kernel_rfl) (by kernel_rfl) (by kernel_rfl) (fun _ _ _ h => h) (Or.inl ⟨by rfl, ?yk0c_11⟩) ⟨B1.out.c0, B1.out.c1, B1.out.c2, B2.out.c0, B2.out.c1, B2.out.c2, H2.out.c1, H2.out.c2, H2.out.c3⟩ ?rk0c_11
        case yk0c_11 => (intro W hSw; (try dsimp only at hSw); obtain ⟨s0, s1, s2, s3, s4, s5, s6, s7, s8⟩ := hSw; first | (go_simp; done) | (go_simp; with_reducible rfl))
        try go_simp
        refine wpAnyH_take (i := 12) (v := ?vk0c_12) rfl (by kernel_rfl) (by kernel_rfl) (by kernel_rfl) (fun _ _ _ h => h) (Or.inl ⟨by rfl, ?yk0c_12⟩) ⟨B1.out.c0, B1.out.c1, B1.out.c2, B2.out.c0, B2.out.c1, B2.out.c2, H2.out.c1, H2.out.c2, H2.out.c3⟩ ?rk0c_12
        case yk0c_12 => (intro W hSw; (try dsimp only at hSw); obtain ⟨s0, s1, s2, s3, s4, s5, s6, s7, s8⟩ := hSw; first | (go_simp; done) | (go_simp; with_reducible rfl))
        try go_simp
        refine wpAnyH_take (i := 13) (v := ?vk0c_13) rfl (by kernel_rfl) (by kernel_rfl) (by kernel_rfl) (fun _ _ _ h => h) (Or.inl ⟨by rfl, ?yk0c_13⟩) ⟨B1.out.c0, B1.out.c1, B1.out.c2, B2.out.c0, B2.out.c1, B2.out.c2, H2.out.c1, H2.out.c2, H2.out.c3⟩ ?rk0c_13
        case yk0c_13 => (intro W hSw; (try dsimp only at hSw); obtain ⟨s0, s1, s2, s3, s4, s5, s6, s7, s8⟩ := hSw; first | (go_simp; done) | (go_simp; with_reducible rfl))
        try go_simp
        refine wpAnyH_take (i := 14) (v := ?vk0c_14) rfl (by kernel_rfl) (by kernel_rfl) (by kernel_rfl) (fun _ _ _ h => h) (Or.inl ⟨by rfl, ?yk0c_14⟩) ⟨B1.out.c0, B1.out.c1, B1.out.c2, B2.out.c0, B2.out.c1, B2.out.c2, H2.out.c1, H2.out.c2, H2.out.c3⟩ ?rk0c_14
        case yk0c_14 => (intro W hSw; (try dsimp only at hSw); obtain ⟨s0, s1, s2, s3, s4, s5, s6, s7, s8⟩ := hSw; first | (go_simp; done) | (go_simp; with_reducible rfl))
        try go_simp
        refine wpAnyH_ready (rs := [10]) (by kernel_rfl) (by simp) ?_
        refine AllReadyH.cons rfl (fun K hK => ?_) AllReadyH.nil
        go_simp
        (go_wp2_with (first | (go_at_call 31; (with_reducible refine (last_any _ k _ H1.out).mono ?_); rintro e w6 ⟨rfl, hb6⟩; have H1 := Lib.hid (H1.out.below hb6 H1.out.lt); have H2 := Lib.hid (H2.out.below hb6 H2.out.lt); have B1 := Lib.hid (B1.out.below hb6 B1.out.lt); have B2 := Lib.hid (B2.out.below hb6 B2.out.lt); have HB := Lib.hid (HB.out.trans (hb6.mono HB.out.size)); clear hb6)))
        refine hK.out _ _ ⟨B1.out.c0, B1.out.c1, B1.out.c2, B2.out.c0, B2.out.c1, B2.out.c2, H2.out.c1, H2.out.c2, H2.out.c3⟩ (fun _ => ?_)
        clear hK K
        try go_simp
        refine wpAnyH_take (i := 15) (v := ?vk0c_15) rfl (by kernel_rfl) (by kernel_rfl) (by kernel_rfl) (fun _ _ _ h => h) (Or.inl ⟨by rfl, ?yk0c_15⟩) ⟨B1.out.c0, B1.out.c1, B1.out.c2, B2.out.c0, B2.out.c1, B2.out.c2, H2.out.c1, H2.out.c2, H2.out.c3⟩ ?rk0c_15
        case yk0c_15 => (intro W hSw; (try dsimp only at hSw); obtain ⟨s0, s1, s2, s3, s4, s5, s6, s7, s8⟩ := hSw; first | (go_simp; done) | (go_simp; with_reducible rfl))
        try go_simp
        refine wpAnyH_take (i := 16) (v := ?vk0c_16) rfl (by kernel_rfl) (by kernel_rfl) (by kernel_rfl) (fun _ _ _ h => h) (Or.inl ⟨by rfl, ?yk0c_16⟩) ⟨B1.out.c0, B1.out.c1, B1.out.c2, B2.out.c0, B2.out.c1, B2.out.c2, H2.out.c1, H2.out.c2, H2.out.c3⟩ ?rk0c_16
        case yk0c_16 => (intro W hSw; (try dsimp only at hSw); obtain ⟨s0, s1, s2, s3, s4, s5, s6, s7, s8⟩ := hSw; first | (go_simp; done) | (go_simp; with_reducible rfl))
        try go_simp
        refine wpAnyH_done (by kernel_rfl) ?_ _
        go_wp2
        have hlt := HLT'.out
        exact ⟨⟨i + 1, congrArg (Value.int .i64) (by omega), hlt, HB, Lib.hid (by rw [HE1.out, HE2.out]; exact H1.out), Lib.hid (by rw [HE1.out, HE2.out]; exact H2.out)⟩, by simp [RowKit.intOf]; omega⟩
      by_cases hk1 : x = 1
      · have HE2 : Hid (plS F ⟨x, xn, ⟨xw, xl, xm⟩⟩ = F) := by show _ = _; unfold plS; rw [if_neg (by omega), if_pos hk1]
        have hd0 : (x == 0) = false := by simpa using (show ¬ x = 0 by omega)
        have hd1 : (x == 1) = true := by simpa using hk1
        clear hk0 hk1
        have HN1 := fun w h => Lib.hid (peek_any w k F h HM.out xn)
        have HN2 := fun w h => Lib.hid (rpeek_any w j F h HM.out xn)
        generalize peekS F xn = R at *
        obtain ⟨⟨x1, x2, x3⟩, x4⟩ := R
        obtain ⟨g1, g2, g3⟩ := F
        simp only at HN1 HN2
        have q1 : (x4 != x4) = false := by simp
        go_upto_region 21 with (go_at_call 27; (with_reducible refine (HN1 _ H1.out).out.mono ?_); rintro e w4 ⟨rfl, hb4⟩; have H1 := Lib.hid ((H1.out.below hb4 H1.out.lt).other (c := wr.heap.size) HK1.out ⟨x1, x2, x3⟩); have H2 := Lib.hid ((H2.out.below hb4 H2.out.lt).ne (Nat.ne_of_lt HK2.out) ⟨x1, x2, x3⟩); have HB := Lib.hid (below_set3 (b := wr.heap.size) (u := ⟨x1, x2, x3⟩) (HB.out.trans (hb4.mono HB.out.size)) HWR.out); have B2 := Lib.hid ((B2.out.below hb4 B2.out.lt).ne (Nat.succ_ne_self _) ⟨x1, x2, x3⟩); have B1' := B1.out.below hb4 B1.out.lt; have z0 := B1'.c0; have z1 := B1'.c1; have z2 := B1'.c2; have z3 := B1'.f0; have z4 := B1'.f1; have z5 := B1'.f2; have z6 := B1'.lt; have B1 := Lib.hid (B1'.setAll ⟨x1, x2, x3⟩); have c0 := (HB.out.cell (p := ⟨b, o + i * 5, none⟩) hb).trans HO.out.c0; have c1 := (HB.out.cell (p := ⟨b, o + i * 5 + 1, none⟩) hb).trans HO.out.c1; have c2 := (HB.out.cell (p := ⟨b, o + i * 5 + 2, none⟩) hb).trans HO.out.c2; have c3 := (HB.out.cell (p := ⟨b, o + i * 5 + 2 + 1, none⟩) hb).trans HO.out.c3; have c4 := (HB.out.cell (p := ⟨b, o + i * 5 + 2 + 2, none⟩) hb).trans HO.out.c4; clear hb4 B1')
        go_upto_region 22 with (go_at_call 28; (with_reducible refine (HN2 _ H2.out).out.mono ?_); rintro e w5 ⟨rfl, hb5⟩; have H1 := Lib.hid ((H1.out.below hb5 H1.out.lt).ne (Nat.ne_of_lt (Nat.lt_succ_of_lt HK1.out)) ⟨x1, x2, x3⟩); have H2 := Lib.hid ((H2.out.below hb5 H2.out.lt).ne (c := wr.heap.size + 1) (Nat.ne_of_lt (Nat.lt_succ_of_lt HK2.out)) ⟨x1, x2, x3⟩); have HB := Lib.hid (below_set3 (b := wr.heap.size + 1) (u := ⟨x1, x2, x3⟩) (HB.out.trans (hb5.mono HB.out.size)) (Nat.le_succ_of_le HWR.out)); have B1 := Lib.hid ((B1.out.below hb5 B1.out.lt).ne (Nat.ne_of_lt (Nat.lt_succ_self _)) ⟨x1, x2, x3⟩); have B2' := B2.out.below hb5 B2.out.lt; have v0 := B2'.c0; have v1 := B2'.c1; have v2 := B2'.c2; have v3 := B2'.f0; have v4 := B2'.f1; have v5 := B2'.f2; have v6 := B2'.lt; have B2 := Lib.hid (B2'.setAll ⟨x1, x2, x3⟩); clear hb5 B2')
        have H1 := Lib.hid (H1.out.below (Below.refl _ _).drew H1.out.lt)
        have H2 := Lib.hid (H2.out.below (Below.refl _ _).drew H2.out.lt)
        have B1 := Lib.hid (B1.out.below (Below.refl _ _).drew B1.out.lt)
        have B2 := Lib.hid (B2.out.below (Below.refl _ _).drew B2.out.lt)
        have HB := Lib.hid HB.out.drew
        refine wp_region_held (S := (fun w' => w'.cell? ⟨wr.heap.size, 0, none⟩ = some (.int .i64 x1) ∧ w'.cell? ⟨wr.heap.size, 1, none⟩ = some (.int .i64 x2) ∧ w'.cell? ⟨wr.heap.size, 2, none⟩ = some (.int .i64 x3) ∧ w'.cell? ⟨wr.heap.size + 1, 0, none⟩ = some (.int .i64 x1) ∧ w'.cell? ⟨wr.heap.size + 1, 1, none⟩ = some (.int .i64 x2) ∧ w'.cell? ⟨wr.heap.size + 1, 2, none⟩ = some (.int .i64 x3) ∧ w'.cell? ⟨j, 1, none⟩ = some (.int .i64 g1) ∧ w'.cell? ⟨j, 2, none⟩ = some (.int .i64 g2) ∧ w'.cell? ⟨j, 3, none⟩ = some (.int .i64 g3))) (by kernel_rfl) ?_
        change wpAnyH _ _ _ _ _ _ _ _ (World.drew _)
        refine wpAnyH_take (i := 0) (v := ?vk1c_0) rfl (by kernel_rfl) (by kernel_rfl) (by kernel_rfl) (fun _ _ _ h => h) (Or.inl ⟨by rfl, ?yk1c_0⟩) ⟨B1.out.c0, B1.out.c1, B1.out.c2, B2.out.c0, B2.out.c1, B2.out.c2, H2.out.c1, H2.out.c2, H2.out.c3⟩ ?rk1c_0
        case yk1c_0 => (intro W hSw; (try dsimp only at hSw); obtain ⟨s0, s1, s2, s3, s4, s5, s6, s7, s8⟩ := hSw; first | (go_simp; done) | (go_simp; with_reducible rfl))
        try go_simp
        refine wpAnyH_take (i := 1) (v := ?vk1c_1) rfl (by kernel_rfl) (by kernel_rfl) (by kernel_rfl) (fun _ _ _ h => h) (Or.inl ⟨by rfl, ?yk1c_1⟩) ⟨B1.out.c0, B1.out.c1, B1.out.c2, B2.out.c0, B2.out.c1, B2.out.c2, H2.out.c1, H2.out.c2, H2.out.c3⟩ ?rk1c_1
        case yk1c_1 => (intro W hSw; (try dsimp only at hSw); obtain ⟨s0, s1, s2, s3, s4, s5, s6, s7, s8⟩ := hSw; first | (go_simp; done) | (go_simp; with_reducible rfl))
        try go_simp
        refine wpAnyH_take (i := 2) (v := ?vk1c_2) rfl (by kernel_rfl) (by kernel_rfl) (by kernel_rfl) (fun _ _ _ h => h) (Or.inl ⟨by rfl, ?yk1c_2⟩) ⟨B1.out.c0, B1.out.c1, B1.out.c2, B2.out.c0, B2.out.c1, B2.out.c2, H2.out.c1, H2.out.c2, H2.out.c3⟩ ?rk1c_2
        case yk1c_2 => (intro W hSw; (try dsimp only at hSw); obtain ⟨s0, s1, s2, s3, s4, s5, s6, s7, s8⟩ := hSw; first | (go_simp; done) | (go_simp; with_reducible rfl))
        try go_simp
        refine wpAnyH_take (i := 3) (v := ?vk1c_3) rfl (by kernel_rfl) (by kernel_rfl) (by kernel_rfl) (fun _ _ _ h => h) (Or.inl ⟨by rfl, ?yk1c_3⟩) ⟨B1.out.c0, B1.out.c1, B1.out.c2, B2.out.c0, B2.out.c1, B2.out.c2, H2.out.c1, H2.out.c2, H2.out.c3⟩ ?rk1c_3
        case yk1c_3 => (intro W hSw; (try dsimp only at hSw); obtain ⟨s0, s1, s2, s3, s4, s5, s6, s7, s8⟩ := hSw; first | (go_simp; done) | (go_simp; with_reducible rfl))
        try go_simp
        refine wpAnyH_take (i := 4) (v := ?vk1c_4) rfl (by kernel_rfl) (by kernel_rfl) (by kernel_rfl) (fun _ _ _ h => h) (Or.inl ⟨by rfl, ?yk1c_4⟩) ⟨B1.out.c0, B1.out.c1, B1.out.c2, B2.out.c0, B2.out.c1, B2.out.c2, H2.out.c1, H2.out.c2, H2.out.c3⟩ ?rk1c_4
        case yk1c_4 => (intro W hSw; (try dsimp only at hSw); obtain ⟨s0, s1, s2, s3, s4, s5, s6, s7, s8⟩ := hSw; first | (go_simp; done) | (go_simp; with_reducible rfl))
        try go_simp
        refine wpAnyH_take (i := 5) (v := ?vk1c_5) rfl (by kernel_rfl) (by kernel_rfl) (by kernel_rfl) (fun _ _ _ h => h) (Or.inl ⟨by rfl, ?yk1c_5⟩) ⟨B1.out.c0, B1.out.c1, B1.out.c2, B2.out.c0, B2.out.c1, B2.out.c2, H2.out.c1, H2.out.c2, H2.out.c3⟩ ?rk1c_5
        case yk1c_5 => (intro W hSw; (try dsimp only at hSw); obtain ⟨s0, s1, s2, s3, s4, s5, s6, s7, s8⟩ := hSw; first | (go_simp; done) | (go_simp; with_reducible rfl))
        try go_simp
        refine wpAnyH_take (i := 6) (v := ?vk1c_6) rfl (by kernel_rfl) (by kernel_rfl) (by kernel_rfl) (fun _ _ _ h => h) (Or.inl ⟨by rfl, ?yk1c_6⟩) ⟨B1.out.c0, B1.out.c1, B1.out.c2, B2.out.c0, B2.out.c1, B2.out.c2, H2.out.c1, H2.out.c2, H2.out.c3⟩ ?rk1c_6
        case yk1c_6 => (intro W hSw; (try dsimp only at hSw); obtain ⟨s0, s1, s2, s3, s4, s5, s6, s7, s8⟩ := hSw; first | (go_simp; done) | (go_simp; with_reducible rfl))
        try go_simp
        refine wpAnyH_take (i := 7) (v := ?vk1c_7) rfl (by kernel_rfl) (by kernel_rfl) (by kernel_rfl) (fun _ _ _ h => h) (Or.inl ⟨by rfl, ?yk1c_7⟩) ⟨B1.out.c0, B1.out.c1, B1.out.c2, B2.out.c0, B2.out.c1, B2.out.c2, H2.out.c1, H2.out.c2, H2.out.c3⟩ ?rk1c_7
        case yk1c_7 => (intro W hSw; (try dsimp only at hSw); obtain ⟨s0, s1, s2, s3, s4, s5, s6, s7, s8⟩ := hSw; first | (go_simp; done) | (go_simp; with_reducible rfl))
        try go_simp
        refine wpAnyH_take (i := 8) (v := ?vk1c_8) rfl (by kernel_rfl) (by kernel_rfl) (by kernel_rfl) (fun _ _ _ h => h) (Or.inl ⟨by rfl, ?yk1c_8⟩) ⟨B1.out.c0, B1.out.c1, B1.out.c2, B2.out.c0, B2.out.c1, B2.out.c2, H2.out.c1, H2.out.c2, H2.out.c3⟩ ?rk1c_8
        case yk1c_8 => (intro W hSw; (try dsimp only at hSw); obtain ⟨s0, s1, s2, s3, s4, s5, s6, s7, s8⟩ := hSw; first | (go_simp; done) | (go_simp; with_reducible rfl))
        try go_simp
        refine wpAnyH_take (i := 9) (v := ?vk1c_9) rfl (by kernel_rfl) (by kernel_rfl) (by kernel_rfl) (fun _ _ _ h => h) (Or.inl ⟨by rfl, ?yk1c_9⟩) ⟨B1.out.c0, B1.out.c1, B1.out.c2, B2.out.c0, B2.out.c1, B2.out.c2, H2.out.c1, H2.out.c2, H2.out.c3⟩ ?rk1c_9
        case yk1c_9 => (intro W hSw; (try dsimp only at hSw); obtain ⟨s0, s1, s2, s3, s4, s5, s6, s7, s8⟩ := hSw; first | (go_simp; done) | (go_simp; with_reducible rfl))
        try go_simp
        refine wpAnyH_take (i := 11) (v := ?vk1c_11) rfl (by kernel_rfl) (by kernel_rfl) (by kernel_rfl) (fun _ _ _ h => h) (Or.inl ⟨by rfl, ?yk1c_11⟩) ⟨B1.out.c0, B1.out.c1, B1.out.c2, B2.out.c0, B2.out.c1, B2.out.c2, H2.out.c1, H2.out.c2, H2.out.c3⟩ ?rk1c_11
        case yk1c_11 => (intro W hSw; (try dsimp only at hSw); obtain ⟨s0, s1, s2, s3, s4, s5, s6, s7, s8⟩ := hSw; first | (go_simp; done) | (go_simp; with_reducible rfl))
        try go_simp
        refine wpAnyH_take (i := 12) (v := ?vk1c_12) rfl (by kernel_rfl) (by kernel_rfl) (by kernel_rfl) (fun _ _ _ h => h) (Or.inl ⟨by rfl, ?yk1c_12⟩) ⟨B1.out.c0, B1.out.c1, B1.out.c2, B2.out.c0, B2.out.c1, B2.out.c2, H2.out.c1, H2.out.c2, H2.out.c3⟩ ?rk1c_12
        case yk1c_12 => (intro W hSw; (try dsimp only at hSw); obtain ⟨s0, s1, s2, s3, s4, s5, s6, s7, s8⟩ := hSw; first | (go_simp; done) | (go_simp; with_reducible rfl))
        try go_simp
        refine wpAnyH_take (i := 13) (v := ?vk1c_13) rfl (by kernel_rfl) (by kernel_rfl) (by kernel_rfl) (fun _ _ _ h => h) (Or.inl ⟨by rfl, ?yk1c_13⟩) ⟨B1.out.c0, B1.out.c1, B1.out.c2, B2.out.c0, B2.out.c1, B2.out.c2, H2.out.c1, H2.out.c2, H2.out.c3⟩ ?rk1c_13
        case yk1c_13 => (intro W hSw; (try dsimp only at hSw); obtain ⟨s0, s1, s2, s3, s4, s5, s6, s7, s8⟩ := hSw; first | (go_simp; done) | (go_simp; with_reducible rfl))
        try go_simp
        refine wpAnyH_take (i := 14) (v := ?vk1c_14) rfl (by kernel_rfl) (by kernel_rfl) (by kernel_rfl) (fun _ _ _ h => h) (Or.inl ⟨by rfl, ?yk1c_14⟩) ⟨B1.out.c0, B1.out.c1, B1.out.c2, B2.out.c0, B2.out.c1, B2.out.c2, H2.out.c1, H2.out.c2, H2.out.c3⟩ ?rk1c_14
        case yk1c_14 => (intro W hSw; (try dsimp only at hSw); obtain ⟨s0, s1, s2, s3, s4, s5, s6, s7, s8⟩ := hSw; first | (go_simp; done) | (go_simp; with_reducible rfl))
        try go_simp
        refine wpAnyH_ready (rs := [10]) (by kernel_rfl) (by simp) ?_
        refine AllReadyH.cons rfl (fun K hK => ?_) AllReadyH.nil
        go_simp
        (go_wp2_with (first | (go_at_call 31; (with_reducible refine (last_any _ k _ H1.out).mono ?_); rintro e w6 ⟨rfl, hb6⟩; have H1 := Lib.hid (H1.out.below hb6 H1.out.lt); have H2 := Lib.hid (H2.out.below hb6 H2.out.lt); have B1 := Lib.hid (B1.out.below hb6 B1.out.lt); have B2 := Lib.hid (B2.out.below hb6 B2.out.lt); have HB := Lib.hid (HB.out.trans (hb6.mono HB.out.size)); clear hb6)))
        refine hK.out _ _ ⟨B1.out.c0, B1.out.c1, B1.out.c2, B2.out.c0, B2.out.c1, B2.out.c2, H2.out.c1, H2.out.c2, H2.out.c3⟩ (fun _ => ?_)
        clear hK K
        try go_simp
        refine wpAnyH_take (i := 15) (v := ?vk1c_15) rfl (by kernel_rfl) (by kernel_rfl) (by kernel_rfl) (fun _ _ _ h => h) (Or.inl ⟨by rfl, ?yk1c_15⟩) ⟨B1.out.c0, B1.out.c1, B1.out.c2, B2.out.c0, B2.out.c1, B2.out.c2, H2.out.c1, H2.out.c2, H2.out.c3⟩ ?rk1c_15
        case yk1c_15 => (intro W hSw; (try dsimp only at hSw); obtain ⟨s0, s1, s2, s3, s4, s5, s6, s7, s8⟩ := hSw; first | (go_simp; done) | (go_simp; with_reducible rfl))
        try go_simp
        refine wpAnyH_take (i := 16) (v := ?vk1c_16) rfl (by kernel_rfl) (by kernel_rfl) (by kernel_rfl) (fun _ _ _ h => h) (Or.inl ⟨by rfl, ?yk1c_16⟩) ⟨B1.out.c0, B1.out.c1, B1.out.c2, B2.out.c0, B2.out.c1, B2.out.c2, H2.out.c1, H2.out.c2, H2.out.c3⟩ ?rk1c_16
        case yk1c_16 => (intro W hSw; (try dsimp only at hSw); obtain ⟨s0, s1, s2, s3, s4, s5, s6, s7, s8⟩ := hSw; first | (go_simp; done) | (go_simp; with_reducible rfl))
        try go_simp
        refine wpAnyH_done (by kernel_rfl) ?_ _
        go_wp2
        have hlt := HLT'.out
        exact ⟨⟨i + 1, congrArg (Value.int .i64) (by omega), hlt, HB, Lib.hid (by rw [HE1.out, HE2.out]; exact H1.out), Lib.hid (by rw [HE1.out, HE2.out]; exact H2.out)⟩, by simp [RowKit.intOf]; omega⟩
      · have HE2 : Hid (plS F ⟨x, xn, ⟨xw, xl, xm⟩⟩ = obsS F ⟨xw, xl, xm⟩) := by show _ = _; unfold plS; rw [if_neg hk0, if_neg hk1]
        have hd0 : (x == 0) = false := by simpa using hk0
        have hd1 : (x == 1) = false := by simpa using hk1
        clear hk0 hk1
        have HN1 := fun w h => Lib.hid (observe_any w k F h ⟨xw, xl, xm⟩)
        have HN2 := fun w h => Lib.hid (robserve_any w j F h ⟨xw, xl, xm⟩)
        generalize obsS F ⟨xw, xl, xm⟩ = G at *
        generalize obsE ⟨xw, xl, xm⟩ = x4 at *
        obtain ⟨g1, g2, g3⟩ := G
        have q1 : (x4 != x4) = false := by simp
        go_upto_region 15 with (fail)
        have H1 := Lib.hid (H1.out.below (Below.refl _ _).drew H1.out.lt)
        have H2 := Lib.hid (H2.out.below (Below.refl _ _).drew H2.out.lt)
        have B1 := Lib.hid (B1.out.below (Below.refl _ _).drew B1.out.lt)
        have B2 := Lib.hid (B2.out.below (Below.refl _ _).drew B2.out.lt)
        have HB := Lib.hid HB.out.drew
        refine wp_region_held (S := (fun w' => w'.cell? ⟨b, o + i * 5 + 2, none⟩ = some (.int .i64 xw) ∧ w'.cell? ⟨b, o + i * 5 + 2 + 1, none⟩ = some (.int .i64 xl) ∧ w'.cell? ⟨b, o + i * 5 + 2 + 2, none⟩ = some (.int .i64 xm))) (by kernel_rfl) ?_
        change wpAnyH _ _ _ _ _ _ _ _ (World.drew _)
        refine wpAnyH_take (i := 0) (v := ?vk2_0) rfl (by kernel_rfl) (by kernel_rfl) (by kernel_rfl) (fun _ _ _ h => h) (Or.inl ⟨by rfl, ?yk2_0⟩) ⟨(HB.out.cell (p := ⟨b, o + i * 5 + 2, none⟩) hb).trans HO.out.c2, (HB.out.cell (p := ⟨b, o + i * 5 + 2 + 1, none⟩) hb).trans HO.out.c3, (HB.out.cell (p := ⟨b, o + i * 5 + 2 + 2, none⟩) hb).trans HO.out.c4⟩ ?rk2_0
        case yk2_0 => (intro W hSw; (try dsimp only at hSw); obtain ⟨s0, s1, s2⟩ := hSw; first | (go_simp; done) | (go_simp; with_reducible rfl))
        try go_simp
        refine wpAnyH_take (i := 1) (v := ?vk2_1) rfl (by kernel_rfl) (by kernel_rfl) (by kernel_rfl) (fun _ _ _ h => h) (Or.inl ⟨by rfl, ?yk2_1⟩) ⟨(HB.out.cell (p := ⟨b, o + i * 5 + 2, none⟩) hb).trans HO.out.c2, (HB.out.cell (p := ⟨b, o + i * 5 + 2 + 1, none⟩) hb).trans HO.out.c3, (HB.out.cell (p := ⟨b, o + i * 5 + 2 + 2, none⟩) hb).trans HO.out.c4⟩ ?rk2_1
        case yk2_1 => (intro W hSw; (try dsimp only at hSw); obtain ⟨s0, s1, s2⟩ := hSw; first | (go_simp; done) | (go_simp; with_reducible rfl))
        try go_simp
        refine wpAnyH_take (i := 2) (v := ?vk2_2) rfl (by kernel_rfl) (by kernel_rfl) (by kernel_rfl) (fun _ _ _ h => h) (Or.inl ⟨by rfl, ?yk2_2⟩) ⟨(HB.out.cell (p := ⟨b, o + i * 5 + 2, none⟩) hb).trans HO.out.c2, (HB.out.cell (p := ⟨b, o + i * 5 + 2 + 1, none⟩) hb).trans HO.out.c3, (HB.out.cell (p := ⟨b, o + i * 5 + 2 + 2, none⟩) hb).trans HO.out.c4⟩ ?rk2_2
        case yk2_2 => (intro W hSw; (try dsimp only at hSw); obtain ⟨s0, s1, s2⟩ := hSw; first | (go_simp; done) | (go_simp; with_reducible rfl))
        try go_simp
        refine wpAnyH_take (i := 3) (v := ?vk2_3) rfl (by kernel_rfl) (by kernel_rfl) (by kernel_rfl) (fun _ _ _ h => h) (Or.inl ⟨by rfl, ?yk2_3⟩) ⟨(HB.out.cell (p := ⟨b, o + i * 5 + 2, none⟩) hb).trans HO.out.c2, (HB.out.cell (p := ⟨b, o + i * 5 + 2 + 1, none⟩) hb).trans HO.out.c3, (HB.out.cell (p := ⟨b, o + i * 5 + 2 + 2, none⟩) hb).trans HO.out.c4⟩ ?rk2_3
        case yk2_3 => (intro W hSw; (try dsimp only at hSw); obtain ⟨s0, s1, s2⟩ := hSw; first | (go_simp; done) | (go_simp; with_reducible rfl))
        try go_simp
        refine wpAnyH_take (i := 4) (v := ?vk2_4) rfl (by kernel_rfl) (by kernel_rfl) (by kernel_rfl) (fun _ _ _ h => h) (Or.inl ⟨by rfl, ?yk2_4⟩) ⟨(HB.out.cell (p := ⟨b, o + i * 5 + 2, none⟩) hb).trans HO.out.c2, (HB.out.cell (p := ⟨b, o + i * 5 + 2 + 1, none⟩) hb).trans HO.out.c3, (HB.out.cell (p := ⟨b, o + i * 5 + 2 + 2, none⟩) hb).trans HO.out.c4⟩ ?rk2_4
        case yk2_4 => (intro W hSw; (try dsimp only at hSw); obtain ⟨s0, s1, s2⟩ := hSw; first | (go_simp; done) | (go_simp; with_reducible rfl))
        try go_simp
        refine wpAnyH_take (i := 5) (v := ?vk2_5) rfl (by kernel_rfl) (by kernel_rfl) (by kernel_rfl) (fun _ _ _ h => h) (Or.inl ⟨by rfl, ?yk2_5⟩) ⟨(HB.out.cell (p := ⟨b, o + i * 5 + 2, none⟩) hb).trans HO.out.c2, (HB.out.cell (p := ⟨b, o + i * 5 + 2 + 1, none⟩) hb).trans HO.out.c3, (HB.out.cell (p := ⟨b, o + i * 5 + 2 + 2, none⟩) hb).trans HO.out.c4⟩ ?rk2_5
        case yk2_5 => (intro W hSw; (try dsimp only at hSw); obtain ⟨s0, s1, s2⟩ := hSw; first | (go_simp; done) | (go_simp; with_reducible rfl))
        try go_simp
        refine wpAnyH_take (i := 7) (v := ?vk2_7) rfl (by kernel_rfl) (by kernel_rfl) (by kernel_rfl) (fun _ _ _ h => h) (Or.inl ⟨by rfl, ?yk2_7⟩) ⟨(HB.out.cell (p := ⟨b, o + i * 5 + 2, none⟩) hb).trans HO.out.c2, (HB.out.cell (p := ⟨b, o + i * 5 + 2 + 1, none⟩) hb).trans HO.out.c3, (HB.out.cell (p := ⟨b, o + i * 5 + 2 + 2, none⟩) hb).trans HO.out.c4⟩ ?rk2_7
        case yk2_7 => (intro W hSw; (try dsimp only at hSw); obtain ⟨s0, s1, s2⟩ := hSw; first | (go_simp; done) | (go_simp; with_reducible rfl))
        try go_simp
        refine wpAnyH_take (i := 8) (v := ?vk2_8) rfl (by kernel_rfl) (by kernel_rfl) (by kernel_rfl) (fun _ _ _ h => h) (Or.inl ⟨by rfl, ?yk2_8⟩) ⟨(HB.out.cell (p := ⟨b, o + i * 5 + 2, none⟩) hb).trans HO.out.c2, (HB.out.cell (p := ⟨b, o + i * 5 + 2 + 1, none⟩) hb).trans HO.out.c3, (HB.out.cell (p := ⟨b, o + i * 5 + 2 + 2, none⟩) hb).trans HO.out.c4⟩ ?rk2_8
        case yk2_8 => (intro W hSw; (try dsimp only at hSw); obtain ⟨s0, s1, s2⟩ := hSw; first | (go_simp; done) | (go_simp; with_reducible rfl))
        try go_simp
        refine wpAnyH_take (i := 9) (v := ?vk2_9) rfl (by kernel_rfl) (by kernel_rfl) (by kernel_rfl) (fun _ _ _ h => h) (Or.inl ⟨by rfl, ?yk2_9⟩) ⟨(HB.out.cell (p := ⟨b, o + i * 5 + 2, none⟩) hb).trans HO.out.c2, (HB.out.cell (p := ⟨b, o + i * 5 + 2 + 1, none⟩) hb).trans HO.out.c3, (HB.out.cell (p := ⟨b, o + i * 5 + 2 + 2, none⟩) hb).trans HO.out.c4⟩ ?rk2_9
        case yk2_9 => (intro W hSw; (try dsimp only at hSw); obtain ⟨s0, s1, s2⟩ := hSw; first | (go_simp; done) | (go_simp; with_reducible rfl))
        try go_simp
        refine wpAnyH_take (i := 10) (v := ?vk2_10) rfl (by kernel_rfl) (by kernel_rfl) (by kernel_rfl) (fun _ _ _ h => h) (Or.inl ⟨by rfl, ?yk2_10⟩) ⟨(HB.out.cell (p := ⟨b, o + i * 5 + 2, none⟩) hb).trans HO.out.c2, (HB.out.cell (p := ⟨b, o + i * 5 + 2 + 1, none⟩) hb).trans HO.out.c3, (HB.out.cell (p := ⟨b, o + i * 5 + 2 + 2, none⟩) hb).trans HO.out.c4⟩ ?rk2_10
        case yk2_10 => (intro W hSw; (try dsimp only at hSw); obtain ⟨s0, s1, s2⟩ := hSw; first | (go_simp; done) | (go_simp; with_reducible rfl))
        try go_simp
        refine wpAnyH_take (i := 11) (v := ?vk2_11) rfl (by kernel_rfl) (by kernel_rfl) (by kernel_rfl) (fun _ _ _ h => h) (Or.inl ⟨by rfl, ?yk2_11⟩) ⟨(HB.out.cell (p := ⟨b, o + i * 5 + 2, none⟩) hb).trans HO.out.c2, (HB.out.cell (p := ⟨b, o + i * 5 + 2 + 1, none⟩) hb).trans HO.out.c3, (HB.out.cell (p := ⟨b, o + i * 5 + 2 + 2, none⟩) hb).trans HO.out.c4⟩ ?rk2_11
        case yk2_11 => (intro W hSw; (try dsimp only at hSw); obtain ⟨s0, s1, s2⟩ := hSw; first | (go_simp; done) | (go_simp; with_reducible rfl))
        try go_simp
        refine wpAnyH_take (i := 12) (v := ?vk2_12) rfl (by kernel_rfl) (by kernel_rfl) (by kernel_rfl) (fun _ _ _ h => h) (Or.inl ⟨by rfl, ?yk2_12⟩) ⟨(HB.out.cell (p := ⟨b, o + i * 5 + 2, none⟩) hb).trans HO.out.c2, (HB.out.cell (p := ⟨b, o + i * 5 + 2 + 1, none⟩) hb).trans HO.out.c3, (HB.out.cell (p := ⟨b, o + i * 5 + 2 + 2, none⟩) hb).trans HO.out.c4⟩ ?rk2_12
        case yk2_12 => (intro W hSw; (try dsimp only at hSw); obtain ⟨s0, s1, s2⟩ := hSw; first | (go_simp; done) | (go_simp; with_reducible rfl))
        try go_simp
        refine wpAnyH_ready (rs := [6]) (by kernel_rfl) (by simp) ?_
        refine AllReadyH.cons rfl (fun K hK => ?_) AllReadyH.nil
        go_simp
        (go_wp2_with (first | (go_at_call 29; (with_reducible refine (HN1 _ H1.out).out.mono ?_); rintro e w4 ⟨rfl, ht, h1⟩; have H1 := Lib.hid h1; have H2 := Lib.hid (H2.out.tn ht (fun e => absurd e (Nat.ne_of_gt HKJ.out))); have B1 := Lib.hid (B1.out.tn ht (fun e => absurd e (Nat.ne_of_gt HK1.out))); have B2 := Lib.hid (B2.out.tn ht (fun e => absurd e (Nat.ne_of_gt (Nat.lt_succ_of_lt HK1.out)))); have HB := Lib.hid (HB.out.trans (ht.below (B := w.heap.size) HB.out.size (fun z e => e ▸ HKk.out))); clear ht h1)))
        refine hK.out _ _ ⟨(HB.out.cell (p := ⟨b, o + i * 5 + 2, none⟩) hb).trans HO.out.c2, (HB.out.cell (p := ⟨b, o + i * 5 + 2 + 1, none⟩) hb).trans HO.out.c3, (HB.out.cell (p := ⟨b, o + i * 5 + 2 + 2, none⟩) hb).trans HO.out.c4⟩ (fun _ => ?_)
        clear hK K
        try go_simp
        refine wpAnyH_ready (rs := [13]) (by kernel_rfl) (by simp) ?_
        refine AllReadyH.cons rfl (fun K hK => ?_) AllReadyH.nil
        go_simp
        (go_wp2_with (first | (go_at_call 30; (with_reducible refine (HN2 _ H2.out).out.mono ?_); rintro e w5 ⟨rfl, ht, h2⟩; have H2 := Lib.hid h2; have H1 := Lib.hid (H1.out.tn ht (fun e => absurd e (Nat.ne_of_lt HKJ.out))); have B1 := Lib.hid (B1.out.tn ht (fun e => absurd e (Nat.ne_of_gt HK2.out))); have B2 := Lib.hid (B2.out.tn ht (fun e => absurd e (Nat.ne_of_gt (Nat.lt_succ_of_lt HK2.out)))); have HB := Lib.hid (HB.out.trans (ht.below (B := w.heap.size) HB.out.size (fun z e => e ▸ HJk.out))); clear ht h2)))
        refine hK.out _ _ ⟨(HB.out.cell (p := ⟨b, o + i * 5 + 2, none⟩) hb).trans HO.out.c2, (HB.out.cell (p := ⟨b, o + i * 5 + 2 + 1, none⟩) hb).trans HO.out.c3, (HB.out.cell (p := ⟨b, o + i * 5 + 2 + 2, none⟩) hb).trans HO.out.c4⟩ (fun _ => ?_)
        clear hK K
        try go_simp
        refine wpAnyH_take (i := 14) (v := ?vk2_14) rfl (by kernel_rfl) (by kernel_rfl) (by kernel_rfl) (fun _ _ _ h => h) (Or.inl ⟨by rfl, ?yk2_14⟩) ⟨(HB.out.cell (p := ⟨b, o + i * 5 + 2, none⟩) hb).trans HO.out.c2, (HB.out.cell (p := ⟨b, o + i * 5 + 2 + 1, none⟩) hb).trans HO.out.c3, (HB.out.cell (p := ⟨b, o + i * 5 + 2 + 2, none⟩) hb).trans HO.out.c4⟩ ?rk2_14
        case yk2_14 => (intro W hSw; (try dsimp only at hSw); obtain ⟨s0, s1, s2⟩ := hSw; first | (go_simp; done) | (go_simp; with_reducible rfl))
        try go_simp
        refine wpAnyH_take (i := 15) (v := ?vk2_15) rfl (by kernel_rfl) (by kernel_rfl) (by kernel_rfl) (fun _ _ _ h => h) (Or.inl ⟨by rfl, ?yk2_15⟩) ⟨(HB.out.cell (p := ⟨b, o + i * 5 + 2, none⟩) hb).trans HO.out.c2, (HB.out.cell (p := ⟨b, o + i * 5 + 2 + 1, none⟩) hb).trans HO.out.c3, (HB.out.cell (p := ⟨b, o + i * 5 + 2 + 2, none⟩) hb).trans HO.out.c4⟩ ?rk2_15
        case yk2_15 => (intro W hSw; (try dsimp only at hSw); obtain ⟨s0, s1, s2⟩ := hSw; first | (go_simp; done) | (go_simp; with_reducible rfl))
        try go_simp
        refine wpAnyH_done (by kernel_rfl) ?_ _
        go_upto_region 22 with (fail)
        have H1 := Lib.hid (H1.out.below (Below.refl _ _).drew H1.out.lt)
        have H2 := Lib.hid (H2.out.below (Below.refl _ _).drew H2.out.lt)
        have B1 := Lib.hid (B1.out.below (Below.refl _ _).drew B1.out.lt)
        have B2 := Lib.hid (B2.out.below (Below.refl _ _).drew B2.out.lt)
        have HB := Lib.hid HB.out.drew
        refine wp_region_held (S := (fun w' => w'.cell? ⟨wr.heap.size, 0, none⟩ = some (.int .i64 0) ∧ w'.cell? ⟨wr.heap.size, 1, none⟩ = some (.int .i64 0) ∧ w'.cell? ⟨wr.heap.size, 2, none⟩ = some (.int .i64 0) ∧ w'.cell? ⟨wr.heap.size + 1, 0, none⟩ = some (.int .i64 0) ∧ w'.cell? ⟨wr.heap.size + 1, 1, none⟩ = some (.int .i64 0) ∧ w'.cell? ⟨wr.heap.size + 1, 2, none⟩ = some (.int .i64 0) ∧ w'.cell? ⟨j, 1, none⟩ = some (.int .i64 g1) ∧ w'.cell? ⟨j, 2, none⟩ = some (.int .i64 g2) ∧ w'.cell? ⟨j, 3, none⟩ = some (.int .i64 g3))) (by kernel_rfl) ?_
        change wpAnyH _ _ _ _ _ _ _ _ (World.drew _)
        refine wpAnyH_take (i := 0) (v := ?vk2c_0) rfl (by kernel_rfl) (by kernel_rfl) (by kernel_rfl) (fun _ _ _ h => h) (Or.inl ⟨by rfl, ?yk2c_0⟩) ⟨B1.out.c0, B1.out.c1, B1.out.c2, B2.out.c0, B2.out.c1, B2.out.c2, H2.out.c1, H2.out.c2, H2.out.c3⟩ ?rk2c_0
        case yk2c_0 => (intro W hSw; (try dsimp only at hSw); obtain ⟨s0, s1, s2, s3, s4, s5, s6, s7, s8⟩ := hSw; first | (go_simp; done) | (go_simp; with_reducible rfl))
        try go_simp
        refine wpAnyH_take (i := 1) (v := ?vk2c_1) rfl (by kernel_rfl) (by kernel_rfl) (by kernel_rfl) (fun _ _ _ h => h) (Or.inl ⟨by rfl, ?yk2c_1⟩) ⟨B1.out.c0, B1.out.c1, B1.out.c2, B2.out.c0, B2.out.c1, B2.out.c2, H2.out.c1, H2.out.c2, H2.out.c3⟩ ?rk2c_1
        case yk2c_1 => (intro W hSw; (try dsimp only at hSw); obtain ⟨s0, s1, s2, s3, s4, s5, s6, s7, s8⟩ := hSw; first | (go_simp; done) | (go_simp; with_reducible rfl))
        try go_simp
        refine wpAnyH_take (i := 2) (v := ?vk2c_2) rfl (by kernel_rfl) (by kernel_rfl) (by kernel_rfl) (fun _ _ _ h => h) (Or.inl ⟨by rfl, ?yk2c_2⟩) ⟨B1.out.c0, B1.out.c1, B1.out.c2, B2.out.c0, B2.out.c1, B2.out.c2, H2.out.c1, H2.out.c2, H2.out.c3⟩ ?rk2c_2
        case yk2c_2 => (intro W hSw; (try dsimp only at hSw); obtain ⟨s0, s1, s2, s3, s4, s5, s6, s7, s8⟩ := hSw; first | (go_simp; done) | (go_simp; with_reducible rfl))
        try go_simp
        refine wpAnyH_take (i := 3) (v := ?vk2c_3) rfl (by kernel_rfl) (by kernel_rfl) (by kernel_rfl) (fun _ _ _ h => h) (Or.inl ⟨by rfl, ?yk2c_3⟩) ⟨B1.out.c0, B1.out.c1, B1.out.c2, B2.out.c0, B2.out.c1, B2.out.c2, H2.out.c1, H2.out.c2, H2.out.c3⟩ ?rk2c_3
        case yk2c_3 => (intro W hSw; (try dsimp only at hSw); obtain ⟨s0, s1, s2, s3, s4, s5, s6, s7, s8⟩ := hSw; first | (go_simp; done) | (go_simp; with_reducible rfl))
        try go_simp
        refine wpAnyH_take (i := 4) (v := ?vk2c_4) rfl (by kernel_rfl) (by kernel_rfl) (by kernel_rfl) (fun _ _ _ h => h) (Or.inl ⟨by rfl, ?yk2c_4⟩) ⟨B1.out.c0, B1.out.c1, B1.out.c2, B2.out.c0, B2.out.c1, B2.out.c2, H2.out.c1, H2.out.c2, H2.out.c3⟩ ?rk2c_4
        case yk2c_4 => (intro W hSw; (try dsimp only at hSw); obtain ⟨s0, s1, s2, s3, s4, s5, s6, s7, s8⟩ := hSw; first | (go_simp; done) | (go_simp; with_reducible rfl))
        try go_simp
        refine wpAnyH_take (i := 5) (v := ?vk2c_5) rfl (by kernel_rfl) (by kernel_rfl) (by kernel_rfl) (fun _ _ _ h => h) (Or.inl ⟨by rfl, ?yk2c_5⟩) ⟨B1.out.c0, B1.out.c1, B1.out.c2, B2.out.c0, B2.out.c1, B2.out.c2, H2.out.c1, H2.out.c2, H2.out.c3⟩ ?rk2c_5
        case yk2c_5 => (intro W hSw; (try dsimp only at hSw); obtain ⟨s0, s1, s2, s3, s4, s5, s6, s7, s8⟩ := hSw; first | (go_simp; done) | (go_simp; with_reducible rfl))
        try go_simp
        refine wpAnyH_take (i := 6) (v := ?vk2c_6) rfl (by kernel_rfl) (by kernel_rfl) (by kernel_rfl) (fun _ _ _ h => h) (Or.inl ⟨by rfl, ?yk2c_6⟩) ⟨B1.out.c0, B1.out.c1, B1.out.c2, B2.out.c0, B2.out.c1, B2.out.c2, H2.out.c1, H2.out.c2, H2.out.c3⟩ ?rk2c_6
        case yk2c_6 => (intro W hSw; (try dsimp only at hSw); obtain ⟨s0, s1, s2, s3, s4, s5, s6, s7, s8⟩ := hSw; first | (go_simp; done) | (go_simp; with_reducible rfl))
        try go_simp
        refine wpAnyH_take (i := 7) (v := ?vk2c_7) rfl (by kernel_rfl) (by kernel_rfl) (by kernel_rfl) (fun _ _ _ h => h) (Or.inl ⟨by rfl, ?yk2c_7⟩) ⟨B1.out.c0, B1.out.c1, B1.out.c2, B2.out.c0, B2.out.c1, B2.out.c2, H2.out.c1, H2.out.c2, H2.out.c3⟩ ?rk2c_7
        case yk2c_7 => (intro W hSw; (try dsimp only at hSw); obtain ⟨s0, s1, s2, s3, s4, s5, s6, s7, s8⟩ := hSw; first | (go_simp; done) | (go_simp; with_reducible rfl))
        try go_simp
        refine wpAnyH_take (i := 8) (v := ?vk2c_8) rfl (by kernel_rfl) (by kernel_rfl) (by kernel_rfl) (fun _ _ _ h => h) (Or.inl ⟨by rfl, ?yk2c_8⟩) ⟨B1.out.c0, B1.out.c1, B1.out.c2, B2.out.c0, B2.out.c1, B2.out.c2, H2.out.c1, H2.out.c2, H2.out.c3⟩ ?rk2c_8
        case yk2c_8 => (intro W hSw; (try dsimp only at hSw); obtain ⟨s0, s1, s2, s3, s4, s5, s6, s7, s8⟩ := hSw; first | (go_simp; done) | (go_simp; with_reducible rfl))
        try go_simp
        refine wpAnyH_take (i := 9) (v := ?vk2c_9) rfl (by kernel_rfl) (by kernel_rfl) (by kernel_rfl) (fun _ _ _ h => h) (Or.inl ⟨by rfl, ?yk2c_9⟩) ⟨B1.out.c0, B1.out.c1, B1.out.c2, B2.out.c0, B2.out.c1, B2.out.c2, H2.out.c1, H2.out.c2, H2.out.c3⟩ ?rk2c_9
        case yk2c_9 => (intro W hSw; (try dsimp only at hSw); obtain ⟨s0, s1, s2, s3, s4, s5, s6, s7, s8⟩ := hSw; first | (go_simp; done) | (go_simp; with_reducible rfl))
        try go_simp
        refine wpAnyH_take (i := 11) (v := ?vk2c_11) rfl (by kernel_rfl) (by kernel_rfl) (by kernel_rfl) (fun _ _ _ h => h) (Or.inl ⟨by rfl, ?yk2c_11⟩) ⟨B1.out.c0, B1.out.c1, B1.out.c2, B2.out.c0, B2.out.c1, B2.out.c2, H2.out.c1, H2.out.c2, H2.out.c3⟩ ?rk2c_11
        case yk2c_11 => (intro W hSw; (try dsimp only at hSw); obtain ⟨s0, s1, s2, s3, s4, s5, s6, s7, s8⟩ := hSw; first | (go_simp; done) | (go_simp; with_reducible rfl))
        try go_simp
        refine wpAnyH_take (i := 12) (v := ?vk2c_12) rfl (by kernel_rfl) (by kernel_rfl) (by kernel_rfl) (fun _ _ _ h => h) (Or.inl ⟨by rfl, ?yk2c_12⟩) ⟨B1.out.c0, B1.out.c1, B1.out.c2, B2.out.c0, B2.out.c1, B2.out.c2, H2.out.c1, H2.out.c2, H2.out.c3⟩ ?rk2c_12
        case yk2c_12 => (intro W hSw; (try dsimp only at hSw); obtain ⟨s0, s1, s2, s3, s4, s5, s6, s7, s8⟩ := hSw; first | (go_simp; done) | (go_simp; with_reducible rfl))
        try go_simp
        refine wpAnyH_take (i := 13) (v := ?vk2c_13) rfl (by kernel_rfl) (by kernel_rfl) (by kernel_rfl) (fun _ _ _ h => h) (Or.inl ⟨by rfl, ?yk2c_13⟩) ⟨B1.out.c0, B1.out.c1, B1.out.c2, B2.out.c0, B2.out.c1, B2.out.c2, H2.out.c1, H2.out.c2, H2.out.c3⟩ ?rk2c_13
        case yk2c_13 => (intro W hSw; (try dsimp only at hSw); obtain ⟨s0, s1, s2, s3, s4, s5, s6, s7, s8⟩ := hSw; first | (go_simp; done) | (go_simp; with_reducible rfl))
        try go_simp
        refine wpAnyH_take (i := 14) (v := ?vk2c_14) rfl (by kernel_rfl) (by kernel_rfl) (by kernel_rfl) (fun _ _ _ h => h) (Or.inl ⟨by rfl, ?yk2c_14⟩) ⟨B1.out.c0, B1.out.c1, B1.out.c2, B2.out.c0, B2.out.c1, B2.out.c2, H2.out.c1, H2.out.c2, H2.out.c3⟩ ?rk2c_14
        case yk2c_14 => (intro W hSw; (try dsimp only at hSw); obtain ⟨s0, s1, s2, s3, s4, s5, s6, s7, s8⟩ := hSw; first | (go_simp; done) | (go_simp; with_reducible rfl))
        try go_simp
        refine wpAnyH_ready (rs := [10]) (by kernel_rfl) (by simp) ?_
        refine AllReadyH.cons rfl (fun K hK => ?_) AllReadyH.nil
        go_simp
        (go_wp2_with (first | (go_at_call 31; (with_reducible refine (last_any _ k _ H1.out).mono ?_); rintro e w6 ⟨rfl, hb6⟩; have H1 := Lib.hid (H1.out.below hb6 H1.out.lt); have H2 := Lib.hid (H2.out.below hb6 H2.out.lt); have B1 := Lib.hid (B1.out.below hb6 B1.out.lt); have B2 := Lib.hid (B2.out.below hb6 B2.out.lt); have HB := Lib.hid (HB.out.trans (hb6.mono HB.out.size)); clear hb6)))
        refine hK.out _ _ ⟨B1.out.c0, B1.out.c1, B1.out.c2, B2.out.c0, B2.out.c1, B2.out.c2, H2.out.c1, H2.out.c2, H2.out.c3⟩ (fun _ => ?_)
        clear hK K
        try go_simp
        refine wpAnyH_take (i := 15) (v := ?vk2c_15) rfl (by kernel_rfl) (by kernel_rfl) (by kernel_rfl) (fun _ _ _ h => h) (Or.inl ⟨by rfl, ?yk2c_15⟩) ⟨B1.out.c0, B1.out.c1, B1.out.c2, B2.out.c0, B2.out.c1, B2.out.c2, H2.out.c1, H2.out.c2, H2.out.c3⟩ ?rk2c_15
        case yk2c_15 => (intro W hSw; (try dsimp only at hSw); obtain ⟨s0, s1, s2, s3, s4, s5, s6, s7, s8⟩ := hSw; first | (go_simp; done) | (go_simp; with_reducible rfl))
        try go_simp
        refine wpAnyH_take (i := 16) (v := ?vk2c_16) rfl (by kernel_rfl) (by kernel_rfl) (by kernel_rfl) (fun _ _ _ h => h) (Or.inl ⟨by rfl, ?yk2c_16⟩) ⟨B1.out.c0, B1.out.c1, B1.out.c2, B2.out.c0, B2.out.c1, B2.out.c2, H2.out.c1, H2.out.c2, H2.out.c3⟩ ?rk2c_16
        case yk2c_16 => (intro W hSw; (try dsimp only at hSw); obtain ⟨s0, s1, s2, s3, s4, s5, s6, s7, s8⟩ := hSw; first | (go_simp; done) | (go_simp; with_reducible rfl))
        try go_simp
        refine wpAnyH_done (by kernel_rfl) ?_ _
        go_wp2
        have hlt := HLT'.out
        exact ⟨⟨i + 1, congrArg (Value.int .i64) (by omega), hlt, HB, Lib.hid (by rw [HE1.out, HE2.out]; exact H1.out), Lib.hid (by rw [HE1.out, HE2.out]; exact H2.out)⟩, by simp [RowKit.intOf]; omega⟩
    · generalize plL s (l.take i) = F at *
      obtain ⟨g1, g2, g3⟩ := F
      clear hi
      rcases (show (¬ i < l.length) ∨ (i < l.length ∧ ¬ i < 2000) by omega) with hc | ⟨hc1, hc2⟩
      · have hi1 : decide ((i : Int) < (l.length : Int)) = false := decide_eq_false (by omega)
        have hp1 : ¬ (i : Int) < (l.length : Int) := by omega
        clear hgo
        go_upto_region 24 with (fail)
        have H1 := Lib.hid (H1.out.below (Below.refl _ _).drew H1.out.lt)
        have H2 := Lib.hid (H2.out.below (Below.refl _ _).drew H2.out.lt)
        have HB := Lib.hid HB.out.drew
        refine wp_region_held (S := (fun w' => w'.cell? ⟨j, 1, none⟩ = some (.int .i64 g1) ∧ w'.cell? ⟨j, 2, none⟩ = some (.int .i64 g2) ∧ w'.cell? ⟨j, 3, none⟩ = some (.int .i64 g3))) (by kernel_rfl) ?_
        change wpAnyH _ _ _ _ _ _ _ _ (World.drew _)
        refine wpAnyH_ready (rs := [0]) (by kernel_rfl) (by simp) ?_
        refine AllReadyH.cons rfl (fun K hK => ?_) AllReadyH.nil
        go_simp
        (go_wp2_with (first | (go_at_call 10; (with_reducible refine (first_any _ (HT.out.below HB.out)).mono ?_); rintro e w6 ⟨rfl, hb6⟩; have H1 := Lib.hid (H1.out.below hb6 H1.out.lt); have H2 := Lib.hid (H2.out.below hb6 H2.out.lt); have HB := Lib.hid (HB.out.trans (hb6.mono HB.out.size)); clear hb6)))
        refine hK.out _ _ ⟨H2.out.c1, H2.out.c2, H2.out.c3⟩ (fun _ => ?_)
        clear hK K
        try go_simp
        refine wpAnyH_take (i := 1) (v := ?ve1_1) rfl (by kernel_rfl) (by kernel_rfl) (by kernel_rfl) (fun _ _ _ h => h) (Or.inl ⟨by rfl, ?ye1_1⟩) ⟨H2.out.c1, H2.out.c2, H2.out.c3⟩ ?re1_1
        case ye1_1 => (intro W hSw; (try dsimp only at hSw); obtain ⟨s0, s1, s2⟩ := hSw; first | (go_simp; done) | (go_simp; with_reducible rfl))
        try go_simp
        refine wpAnyH_take (i := 2) (v := ?ve1_2) rfl (by kernel_rfl) (by kernel_rfl) (by kernel_rfl) (fun _ _ _ h => h) (Or.inl ⟨by rfl, ?ye1_2⟩) ⟨H2.out.c1, H2.out.c2, H2.out.c3⟩ ?re1_2
        case ye1_2 => (intro W hSw; (try dsimp only at hSw); obtain ⟨s0, s1, s2⟩ := hSw; first | (go_simp; done) | (go_simp; with_reducible rfl))
        try go_simp
        refine wpAnyH_take (i := 4) (v := ?ve1_4) rfl (by kernel_rfl) (by kernel_rfl) (by kernel_rfl) (fun _ _ _ h => h) (Or.inl ⟨by rfl, ?ye1_4⟩) ⟨H2.out.c1, H2.out.c2, H2.out.c3⟩ ?re1_4
        case ye1_4 => (intro W hSw; (try dsimp only at hSw); obtain ⟨s0, s1, s2⟩ := hSw; first | (go_simp; done) | (go_simp; with_reducible rfl))
        try go_simp
        refine wpAnyH_take (i := 5) (v := ?ve1_5) rfl (by kernel_rfl) (by kernel_rfl) (by kernel_rfl) (fun _ _ _ h => h) (Or.inl ⟨by rfl, ?ye1_5⟩) ⟨H2.out.c1, H2.out.c2, H2.out.c3⟩ ?re1_5
        case ye1_5 => (intro W hSw; (try dsimp only at hSw); obtain ⟨s0, s1, s2⟩ := hSw; first | (go_simp; done) | (go_simp; with_reducible rfl))
        try go_simp
        refine wpAnyH_take (i := 6) (v := ?ve1_6) rfl (by kernel_rfl) (by kernel_rfl) (by kernel_rfl) (fun _ _ _ h => h) (Or.inl ⟨by rfl, ?ye1_6⟩) ⟨H2.out.c1, H2.out.c2, H2.out.c3⟩ ?re1_6
        case ye1_6 => (intro W hSw; (try dsimp only at hSw); obtain ⟨s0, s1, s2⟩ := hSw; first | (go_simp; done) | (go_simp; with_reducible rfl))
        try go_simp
        refine wpAnyH_take (i := 7) (v := ?ve1_7) rfl (by kernel_rfl) (by kernel_rfl) (by kernel_rfl) (fun _ _ _ h => h) (Or.inl ⟨by rfl, ?ye1_7⟩) ⟨H2.out.c1, H2.out.c2, H2.out.c3⟩ ?re1_7
        case ye1_7 => (intro W hSw; (try dsimp only at hSw); obtain ⟨s0, s1, s2⟩ := hSw; first | (go_simp; done) | (go_simp; with_reducible rfl))
        try go_simp
        refine wpAnyH_ready (rs := [3]) (by kernel_rfl) (by simp) ?_
        refine AllReadyH.cons rfl (fun K hK => ?_) AllReadyH.nil
        go_simp
        (go_wp2_with (first | (go_at_call 31; (with_reducible refine (last_any _ k _ H1.out).mono ?_); rintro e w6 ⟨rfl, hb6⟩; have H1 := Lib.hid (H1.out.below hb6 H1.out.lt); have H2 := Lib.hid (H2.out.below hb6 H2.out.lt); have HB := Lib.hid (HB.out.trans (hb6.mono HB.out.size)); clear hb6)))
        refine hK.out _ _ ⟨H2.out.c1, H2.out.c2, H2.out.c3⟩ (fun _ => ?_)
        clear hK K
        try go_simp
        refine wpAnyH_take (i := 8) (v := ?ve1_8) rfl (by kernel_rfl) (by kernel_rfl) (by kernel_rfl) (fun _ _ _ h => h) (Or.inl ⟨by rfl, ?ye1_8⟩) ⟨H2.out.c1, H2.out.c2, H2.out.c3⟩ ?re1_8
        case ye1_8 => (intro W hSw; (try dsimp only at hSw); obtain ⟨s0, s1, s2⟩ := hSw; first | (go_simp; done) | (go_simp; with_reducible rfl))
        try go_simp
        refine wpAnyH_take (i := 9) (v := ?ve1_9) rfl (by kernel_rfl) (by kernel_rfl) (by kernel_rfl) (fun _ _ _ h => h) (Or.inl ⟨by rfl, ?ye1_9⟩) ⟨H2.out.c1, H2.out.c2, H2.out.c3⟩ ?re1_9
        case ye1_9 => (intro W hSw; (try dsimp only at hSw); obtain ⟨s0, s1, s2⟩ := hSw; first | (go_simp; done) | (go_simp; with_reducible rfl))
        try go_simp
        refine wpAnyH_take (i := 10) (v := ?ve1_10) rfl (by kernel_rfl) (by kernel_rfl) (by kernel_rfl) (fun _ _ _ h => h) (Or.inl ⟨by rfl, ?ye1_10⟩) ⟨H2.out.c1, H2.out.c2, H2.out.c3⟩ ?re1_10
        case ye1_10 => (intro W hSw; (try dsimp only at hSw); obtain ⟨s0, s1, s2⟩ := hSw; first | (go_simp; done) | (go_simp; with_reducible rfl))
        try go_simp
        refine wpAnyH_done (by kernel_rfl) ?_ _
        go_wp2
        go_ret
        exact ⟨rfl, HB.out⟩
      · have hi1 : decide ((i : Int) < (l.length : Int)) = true := decide_eq_true (by omega)
        have hi2 : decide ((i : Int) < 2000) = false := decide_eq_false (by omega)
        have hp1 : (i : Int) < (l.length : Int) := by omega
        have hp2 : ¬ (i : Int) < 2000 := by omega
        clear hgo
        go_upto_region 24 with (fail)
        have H1 := Lib.hid (H1.out.below (Below.refl _ _).drew H1.out.lt)
        have H2 := Lib.hid (H2.out.below (Below.refl _ _).drew H2.out.lt)
        have HB := Lib.hid HB.out.drew
        refine wp_region_held (S := (fun w' => w'.cell? ⟨j, 1, none⟩ = some (.int .i64 g1) ∧ w'.cell? ⟨j, 2, none⟩ = some (.int .i64 g2) ∧ w'.cell? ⟨j, 3, none⟩ = some (.int .i64 g3))) (by kernel_rfl) ?_
        change wpAnyH _ _ _ _ _ _ _ _ (World.drew _)
        refine wpAnyH_ready (rs := [0]) (by kernel_rfl) (by simp) ?_
        refine AllReadyH.cons rfl (fun K hK => ?_) AllReadyH.nil
        go_simp
        (go_wp2_with (first | (go_at_call 10; (with_reducible refine (first_any _ (HT.out.below HB.out)).mono ?_); rintro e w6 ⟨rfl, hb6⟩; have H1 := Lib.hid (H1.out.below hb6 H1.out.lt); have H2 := Lib.hid (H2.out.below hb6 H2.out.lt); have HB := Lib.hid (HB.out.trans (hb6.mono HB.out.size)); clear hb6)))
        refine hK.out _ _ ⟨H2.out.c1, H2.out.c2, H2.out.c3⟩ (fun _ => ?_)
        clear hK K
        try go_simp
        refine wpAnyH_take (i := 1) (v := ?ve2_1) rfl (by kernel_rfl) (by kernel_rfl) (by kernel_rfl) (fun _ _ _ h => h) (Or.inl ⟨by rfl, ?ye2_1⟩) ⟨H2.out.c1, H2.out.c2, H2.out.c3⟩ ?re2_1
        case ye2_1 => (intro W hSw; (try dsimp only at hSw); obtain ⟨s0, s1, s2⟩ := hSw; first | (go_simp; done) | (go_simp; with_reducible rfl))
        try go_simp
        refine wpAnyH_take (i := 2) (v := ?ve2_2) rfl (by kernel_rfl) (by kernel_rfl) (by kernel_rfl) (fun _ _ _ h => h) (Or.inl ⟨by rfl, ?ye2_2⟩) ⟨H2.out.c1, H2.out.c2, H2.out.c3⟩ ?re2_2
        case ye2_2 => (intro W hSw; (try dsimp only at hSw); obtain ⟨s0, s1, s2⟩ := hSw; first | (go_simp; done) | (go_simp; with_reducible rfl))
        try go_simp
        refine wpAnyH_take (i := 4) (v := ?ve2_4) rfl (by kernel_rfl) (by kernel_rfl) (by kernel_rfl) (fun _ _ _ h => h) (Or.inl ⟨by rfl, ?ye2_4⟩) ⟨H2.out.c1, H2.out.c2, H2.out.c3⟩ ?re2_4
        case ye2_4 => (intro W hSw; (try dsimp only at hSw); obtain ⟨s0, s1, s2⟩ := hSw; first | (go_simp; done) | (go_simp; with_reducible rfl))
        try go_simp
        refine wpAnyH_take (i := 5) (v := ?ve2_5) rfl (by kernel_rfl) (by kernel_rfl) (by kernel_rfl) (fun _ _ _ h => h) (Or.inl ⟨by rfl, ?ye2_5⟩) ⟨H2.out.c1, H2.out.c2, H2.out.c3⟩ ?re2_5
        case ye2_5 => (intro W hSw; (try dsimp only at hSw); obtain ⟨s0, s1, s2⟩ := hSw; first | (go_simp; done) | (go_simp; with_reducible rfl))
        try go_simp
        refine wpAnyH_take (i := 6) (v := ?ve2_6) rfl (by kernel_rfl) (by kernel_rfl) (by kernel_rfl) (fun _ _ _ h => h) (Or.inl ⟨by rfl, ?ye2_6⟩) ⟨H2.out.c1, H2.out.c2, H2.out.c3⟩ ?re2_6
        case ye2_6 => (intro W hSw; (try dsimp only at hSw); obtain ⟨s0, s1, s2⟩ := hSw; first | (go_simp; done) | (go_simp; with_reducible rfl))
        try go_simp
        refine wpAnyH_take (i := 7) (v := ?ve2_7) rfl (by kernel_rfl) (by kernel_rfl) (by kernel_rfl) (fun _ _ _ h => h) (Or.inl ⟨by rfl, ?ye2_7⟩) ⟨H2.out.c1, H2.out.c2, H2.out.c3⟩ ?re2_7
        case ye2_7 => (intro W hSw; (try dsimp only at hSw); obtain ⟨s0, s1, s2⟩ := hSw; first | (go_simp; done) | (go_simp; with_reducible rfl))
        try go_simp
        refine wpAnyH_ready (rs := [3]) (by kernel_rfl) (by simp) ?_
        refine AllReadyH.cons rfl (fun K hK => ?_) AllReadyH.nil
        go_simp
        (go_wp2_with (first | (go_at_call 31; (with_reducible refine (last_any _ k _ H1.out).mono ?_); rintro e w6 ⟨rfl, hb6⟩; have H1 := Lib.hid (H1.out.below hb6 H1.out.lt); have H2 := Lib.hid (H2.out.below hb6 H2.out.lt); have HB := Lib.hid (HB.out.trans (hb6.mono HB.out.size)); clear hb6)))
        refine hK.out _ _ ⟨H2.out.c1, H2.out.c2, H2.out.c3⟩ (fun _ => ?_)
        clear hK K
        try go_simp
        refine wpAnyH_take (i := 8) (v := ?ve2_8) rfl (by kernel_rfl) (by kernel_rfl) (by kernel_rfl) (fun _ _ _ h => h) (Or.inl ⟨by rfl, ?ye2_8⟩) ⟨H2.out.c1, H2.out.c2, H2.out.c3⟩ ?re2_8
        case ye2_8 => (intro W hSw; (try dsimp only at hSw); obtain ⟨s0, s1, s2⟩ := hSw; first | (go_simp; done) | (go_simp; with_reducible rfl))
        try go_simp
        refine wpAnyH_take (i := 9) (v := ?ve2_9) rfl (by kernel_rfl) (by kernel_rfl) (by kernel_rfl) (fun _ _ _ h => h) (Or.inl ⟨by rfl, ?ye2_9⟩) ⟨H2.out.c1, H2.out.c2, H2.out.c3⟩ ?re2_9
        case ye2_9 => (intro W hSw; (try dsimp only at hSw); obtain ⟨s0, s1, s2⟩ := hSw; first | (go_simp; done) | (go_simp; with_reducible rfl))
        try go_simp
        refine wpAnyH_take (i := 10) (v := ?ve2_10) rfl (by kernel_rfl) (by kernel_rfl) (by kernel_rfl) (fun _ _ _ h => h) (Or.inl ⟨by rfl, ?ye2_10⟩) ⟨H2.out.c1, H2.out.c2, H2.out.c3⟩ ?re2_10
        case ye2_10 => (intro W hSw; (try dsimp only at hSw); obtain ⟨s0, s1, s2⟩ := hSw; first | (go_simp; done) | (go_simp; with_reducible rfl))
        try go_simp
        refine wpAnyH_done (by kernel_rfl) ?_ _
        go_wp2
        go_ret
        exact ⟨rfl, HB.out⟩
theorem hlcPlays_walk (W : World) (n : Int) (_ : -9223372036854775808 ≤ n) (_ : n ≤ 9223372036854775807) (f : St) (_ : f.wf) (ao : Option Addr) (cap : Nat) (l : List Do) (hl : SO W.heap.size W ao l.length cap l) (hT : Pow W) :
    Calls Tryd.prog 5 #[.int .i64 n, sagg f, .slice ao l.length cap] W fun e w' => e = .returned (.bool true) ∧ Below W.heap.size W w' := by
  rcases newS_cases n f with ⟨r, h1, h2⟩ | ⟨s, h1, h2, _⟩
  · exact plays_none W n f _ hT r h1 h2
  · exact plays_some W n f ao cap l hl hT s h1 h2

set_option maxRecDepth 100000 in
theorem hlcPlays_lifted (os : Os) (started : os.Started) (H : Type) (enc : TypeId × Value → H) :
    ReturnsInHanded {} Tryd.checked os 5 .any (fun w args => (Rows.hlcPlaysSpec.pre enc Tryd.prog Tryd.f5 [] false w args ∧ laidMetH Tryd.prog laid3 w) ∧ sizedMet enc Tryd.prog Tryd.f5 (OpenSpec.ofChange Rows.hlcPlaysSpec) false w args)
      (Rows.hlcPlaysSpec.post enc Tryd.prog Tryd.f5 false true false false) := by
  refine returnsInHanded_of_change_and (C := Tryd.checked) (X := fun w _ => laidMetH Tryd.prog laid3 w) (fun _ _ _ hh h => h.of_heap hh) own started (by kernel_rfl) Tryd.func5
    (ChangeSpec.witness_shaped (enc := enc) (C := Tryd.checked) (os := os) (X := fun w _ => laidMetH Tryd.prog laid3 w) false (World.doorLaid Tryd.prog 400 os) #[.int .i64 0, .agg #[.int .i64 0, .int .i64 0, .int .i64 0], .slice none 0 0] 8 rfl (World.shaped_of_RefB (by kernel_rfl) (by kernel_rfl)) (by kernel_rfl) (by kernel_rfl) (by kernel_rfl) (door_met3 os _)) ?_
  intro W base args ds gs before hval0 hW _ _ hL _
  have hval : ∀ (j : Nat) t v, Tryd.f5.params[j]? = some t → args[j]? = some v → Value.okWide Tryd.prog W .any base t v := hval0
  have hW' := hW
  obtain ⟨p, q, hA0, hV, rfl, hfz, hnd⟩ := hW
  have hA : DataW.TrodAll enc Tryd.prog W 0 (fun _ => true) true Tryd.f5.params.toList args.toList ds p := hA0
  rw [Tryd.params5] at hA hval
  obtain ⟨v0, v1, v2, d0, d1, d2, p0, p1, p2, rfl, rfl, rfl, h0, h1, h2⟩ := trodAll_three hA
  obtain ⟨rfl, rfl⟩ := trodVars_none hV
  clear hA0 hval0
  simp only [List.append_nil] at hW'
  have hlt : ∀ x ∈ p0 ++ p1 ++ p2, x.block < W.heap.size := fun x hx => hW'.lt x (by simpa using hx)
  have hT := pow_of_laid hL
  have k0 := h0
  obtain ⟨a0, rfl, rfl, rfl, wf0⟩ := open_int Tryd.underlying3 (hval 0 3 v0 rfl rfl) h0
  have hwf0 := wf0
  simp [Lit.wf, IntKind.min, IntKind.max, IntKind.signed, IntKind.bits] at hwf0
  have k1 := h1
  obtain ⟨x1, rfl, rfl, u1⟩ := open_stamp (hval 1 23 v1 rfl rfl) h1
  have k2 := h2
  obtain ⟨b2, len2, cap2, rfl⟩ := okWide_slice Tryd.underlying36 (hval 2 36 v2 rfl rfl)
  obtain ⟨fuel2, g2⟩ := h2
  obtain ⟨ao2, c2, xs2, hv2, r2⟩ := open_so g2
  refine Calls.mono (?walk : Calls _ _ _ _ fun e w' => e = .returned (.bool true) ∧ Below W.heap.size W w') fun e W' ⟨he, hw⟩ => ?_
  case walk =>
    rw [hv2]
    exact hlcPlays_walk W a0 (by omega) (by omega) x1 u1 ao2 c2 xs2 r2 hT
  subst he
  exact ⟨_, rfl, post_of_below (pa := [] ++ ([] ++ p2)) (pv := []) hW' (fun _ _ _ => trodAll_mk1 (shut_bool Tryd.underlying4 _)) (fun sp hsp => trodAll_mk3 (WideElems.Trod_stays laidOutP (by kernel_rfl) (of_decide_eq_true (by kernel_rfl)) k0 (fun x hx => hw.same (hlt x (nomatch hx))) (fun x hx => hsp x (nomatch hx))) (WideElems.Trod_stays laidOutP (by kernel_rfl) (of_decide_eq_true (by kernel_rfl)) k1 (fun x hx => hw.same (hlt x (nomatch hx))) (fun x hx => hsp x (nomatch hx))) (WideElems.Trod_stays laidOutP (by kernel_rfl) (of_decide_eq_true (by kernel_rfl)) k2 (fun x hx => hw.same (hlt x (by simp [hx]))) (fun x hx => hsp x (by simp [hx])))) (fun _ _ => rfl) (by simp) hw (ok_one (by kernel_rfl) rfl (okWide_bool_mk Tryd.underlying4 _))⟩
theorem hlcPlays_holds : Rows.HlcPlaysSaid :=
  OpenClaim.holds_of_wide 5 Tryd.f5 rfl rfl rfl rfl rfl rfl rfl ⟨rfl, rfl, rfl, rfl, rfl⟩ rfl rfl rfl rfl rfl (by kernel_rfl) Tryd.func5 (by kernel_rfl)
    (of_decide_eq_true (by kernel_rfl)) (by unfold Func.isWrapper; first | (rw [if_pos (by decide +kernel)]; kernel_rfl) | (rw [if_neg (by decide +kernel)]; exact ⟨rfl, rfl⟩))
    (fun os started H enc _ => hlcPlays_lifted os started H enc)
/-- THE TIED CARD. -/
theorem hlcPlays_card : Rows.HlcPlaysCardSaid :=
  Claim7.holds_tied_plain_at .later [] [.data, .data, .data] true (true, "55d94c96041e578d324afd5bc41b6edf1ded3878fc07ea6770ba733d434b73f6") true
    hlcPlays_holds (fun _ h => by cases h) (by kernel_rfl) (fun _ h => by cases h) hlcPlays_row_tie rfl ⟨rfl, rfl⟩ (by kernel_rfl) rfl
    (fun f fn hf hfn => by
      obtain rfl : f = 5 := Option.some.inj ((show Tryd.prog.funcNamed "headrace/racelaw8.HlcPlays" = some 5 by kernel_rfl).symm.trans hf) |>.symm
      obtain rfl : fn = Tryd.f5 := (Option.some.inj (Tryd.func5.symm.trans hfn)).symm
      exact ⟨by kernel_rfl, fun j t ht => by
        rw [Tryd.params5] at ht
        have hm : t ∈ [3, 23, 36] := by simpa using Array.mem_of_getElem? ht
        have hall : ([3, 23, 36].all fun u => !Tryd.prog.wantsStandIn u) = true := by kernel_rfl
        exact (show Tryd.prog.wantsStandIn t = false by simpa using List.all_eq_true.1 hall t hm)⟩)
    (by kernel_rfl)
#print axioms hlcPlays_card
end Go.Proofs.YtmpokhjchbaleaaDoor
