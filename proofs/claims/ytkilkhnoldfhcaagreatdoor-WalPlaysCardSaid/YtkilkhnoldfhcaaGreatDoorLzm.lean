/- raceref7.Trim. Conditions: a log whose segments hang together. raceref7.From. Conditions: a log as it keeps to. -/
import Derived.Test.YtkilkhnoldfhcaaGreatDoorLzg
namespace Go.Proofs.YtkilkhnoldfhcaaGreatDoor
open Go.RowKit
section
variable {B : Nat} {w w' w6 : World} {b c : Nat} {C S C' S' : Nat → Prop} {lg : Lg} {d d' : Dk} {r : Rl}
theorem rlogged_trim {low : Int} {gs : List Sg} {k : Nat} {y : List Sg × Dk × Nat} (hr : trimL lg.dir low lg.segs d = y) (hy : y = (gs, d', k)) (hw : WR B w' b C' (Lg.ref { lg with segs := gs }) c S' d') (hg : Went (fun k => C k ∨ S k) w w' (fun k => C' k ∨ S' k)) :
    RLogged C S B w b c ((lg.trim d low).1.ref, (lg.trim d low).2.1, (lg.trim d low).2.2) (.returned (.int .i64 (k : Int))) w' := by
  have e : lg.trim d low = ({ lg with segs := gs }, d', k) := by unfold Lg.trim; rw [hr, hy]
  rw [e]
  exact ⟨rfl, C', S', hw, hg⟩
theorem rok_tail {s s2 : Sg} {gs : List Sg} (h : ROk (Lg.ref { lg with segs := s :: s2 :: gs })) : ROk (Lg.ref { lg with segs := s2 :: gs }) := by
  refine ⟨h.dir, Nat.succ_pos _, ?_, fun n hn => h.num n (List.mem_cons_of_mem _ hn), ?_, h.top⟩
  · have := h.few
    show (List.map Sg.first (s2 :: gs)).length ≤ _
    have e : (List.map Sg.first (s :: s2 :: gs)).length = (List.map Sg.first (s2 :: gs)).length + 1 := by simp
    have h2 : (List.map Sg.first (s :: s2 :: gs)).length ≤ 1000000 := this
    omega
  · have h2 : (allR (s :: s2 :: gs)).length ≤ 100000000 := h.all
    rw [allR_cons, List.length_append] at h2
    show (allR (s2 :: gs)).length ≤ _
    omega
theorem wr_tail (h : WR B w b C r c S d) {r' : Rl} {vn va : Value} {ua : List Value} (hl : RLt C w' b c r' vn va ua) (ht : Tn C w w') : WR B w' b C r' c S d :=
  ⟨⟨_, _, _, hl⟩, h.dk.tn ht (fun k hs hc => h.cs k hc hs), h.cb, h.sb, h.cs⟩
set_option maxRecDepth 100000 in
set_option maxHeartbeats 4000000 in
theorem rltrim_any (h : WR B w b C lg.ref c S d) (hB : B ≤ w.heap.size) (hk : ROk lg.ref) (hlink : linked lg.segs) (hd : d.done ≤ 1000000000) (low : Int) :
    Calls Tryz.prog 48 #[ptr b, .int .i64 low] w (RLogged C S B w b c ((lg.trim d low).1.ref, (lg.trim d low).2.1, (lg.trim d low).2.2)) := by
  have hne : 0 < lg.segs.length := by have := hk.ne; unfold Lg.ref at this; simpa using this
  have hfew : lg.segs.length ≤ 1000000 := by have := hk.few; unfold Lg.ref at this; simpa using this
  obtain ⟨N, hN⟩ : ∃ N, lg.segs.length = N + 1 := ⟨lg.segs.length - 1, by omega⟩
  have HW0 := Lib.hid h
  have HK := Lib.hid hk
  have HLK := Lib.hid hlink
  have HBW := Lib.hid hB
  have HNF : Hid (N ≤ 1000000) := Lib.hid (by omega)
  have HD0 := Lib.hid hd
  have HN := Lib.hid hN
  clear h hk hB hN hfew hd hlink hne
  go_enter Tryz.func48, Tryz.ntmps48
  go_wp2
  go_loopg [5, 6, 7] N (fun gk v5 v6 v7 wr => ∃ (C' S' : Nat → Prop) (gs : List Sg) (d' : Dk), gs.length = gk + 1 ∧ Hid (WR B wr b C' (Lg.ref { lg with segs := gs }) c S' d') ∧ Hid (Went (fun k => C k ∨ S k) w wr (fun k => C' k ∨ S' k)) ∧ Hid (trimL lg.dir low lg.segs d = trimL lg.dir low gs d') ∧ Hid (ROk (Lg.ref { lg with segs := gs })) ∧ Hid (linked gs) ∧ Hid (d'.done + gk ≤ d.done + N))
  case atStart => exact ⟨C, S, lg.segs, d, HN.out, HW0, Lib.hid (went_below (Below.refl _ _)), Lib.hid rfl, HK, HLK, Lib.hid (Nat.le_refl _)⟩
  case round =>
    obtain ⟨C', S', gs, d', hgs, HW, HG, HT, HKG, HLG, HDD⟩ := hrel
    cases gk with
    | zero =>
      obtain ⟨g1, rfl⟩ : ∃ g1, gs = [g1] := List.length_eq_one_iff.1 (by simpa using hgs)
      obtain ⟨vn, va, ua, hl⟩ := HW.out.lk
      obtain ⟨g, off, cap, rfl, hcap, hmax, g0⟩ := hl.num (i := 0) (Nat.succ_pos _)
      have c3 := hl.c3
      have c3 : wr.cell? ⟨b, 3, none⟩ = some (.slice (some ⟨g, off, none⟩) 1 cap) := c3
      clear hl hgs g0 hcap hmax
      go_wp2
      go_ret
      exact rlogged_trim (k := 0) HT.out (trim_one _ _ _ _) HW.out HG.out
    | succ gk2 =>
      obtain ⟨s, s2, r, rfl⟩ : ∃ s s2 r, gs = s :: s2 :: r := by
        match gs, hgs with
        | s :: s2 :: r, _ => exact ⟨s, s2, r, rfl⟩
      obtain ⟨n, hn⟩ : ∃ n, n = (Lg.ref { lg with segs := s :: s2 :: r }).nums.length := ⟨_, rfl⟩
      have hn2 : n = gk2 + 1 + 1 := by rw [hn]; show (List.map Sg.first (s :: s2 :: r)).length = _; rw [List.length_map]; exact hgs
      obtain ⟨vn, va, ua, hl⟩ := HW.out.lk
      obtain ⟨g, off, cap, rfl, hcap, hmax, g0o⟩ := hl.num (i := 0) (by rw [← hn]; omega)
      obtain ⟨g', off', cap', e, _, _, g1o⟩ := hl.num (i := 1) (by rw [← hn]; omega)
      simp only [Value.slice.injEq, Option.some.injEq, Addr.mk.injEq, true_and, and_true] at e
      obtain ⟨⟨rfl, rfl⟩, rfl⟩ := e
      obtain ⟨ao, capa, rfl, hcapa, hmaxa, hnone, hsome⟩ := hl.all.slice
      have HL := Lib.hid hl
      have c0 := hl.c0
      have c1 := hl.c1
      have c3 := hl.c3
      have c4 := hl.c4
      have fz := frozen_zero (o := 3) hl.box
      have fz4 := frozen_zero (o := 4) hl.box
      rw [← hn] at c3 hcap
      have c1 : wr.cell? ⟨b, 1, none⟩ = some (nmv lg.dir) := c1
      have g0 : wr.cell? ⟨g, off, none⟩ = some (.int .i64 (s.first : Int)) := by rw [Nat.add_zero] at g0o; exact g0o
      have g1 : wr.cell? ⟨g, off + 1, none⟩ = some (.int .i64 (s2.first : Int)) := g1o
      clear g0o g1o
      have hsf : 1 ≤ s.first ∧ s.first ≤ 99999999 := HKG.out.num s.first List.mem_cons_self
      have hsf2 : 1 ≤ s2.first ∧ s2.first ≤ 99999999 := HKG.out.num s2.first (List.mem_cons_of_mem _ List.mem_cons_self)
      have hlk : s2.first = s.next := HLG.out.1
      have hlk2 : s2.first = s.first + s.recs.length := hlk
      have HDL : Hid (lg.dir.length ≤ maxLen) := Nat.le_trans HKG.out.dir.2 (by decide)
      have HNV : Hid (nameV lg.dir (s.first : Int) = (segN lg.dir s.first, 0)) := Lib.hid (by
        unfold nameV
        rw [if_neg (by intro e; rcases e with e | e; (have := HKG.out.dir.1; have e3 : ({ lg with segs := s :: s2 :: r } : Lg).ref.dir = [] := e; rw [e3] at this; simp at this); (have := HKG.out.dir.2; exact absurd this (Nat.not_le.2 e))), if_neg (by omega), Int.toNat_natCast])
      have HM1 : Hid (-9223372036854775808 ≤ (s.first : Int)) := Lib.hid (by omega)
      have HM2 : Hid ((s.first : Int) ≤ 9223372036854775807) := Lib.hid (by omega)
      have HDN : Hid (d'.done < 9223372036854775807) := Lib.hid (by have := HDD.out; have := HNF.out; have := HD0.out; omega)
      have HBS : Hid (b < wr.heap.size) := Lib.hid (World.block_lt_of_cell? _ _ c0)
      have HGS : Hid (g < wr.heap.size) := Lib.hid (World.block_lt_of_cell? _ _ g0)
      have HGB : Hid (g ≠ b) := Lib.hid (fun e => hl.nb hl.nums (by decide) g rfl e)
      have HCB := Lib.hid (HW.out.cs _ hl.cb)
      have HCN := Lib.hid (HW.out.cs _ (hl.cn g rfl))
      have HCB1 := Lib.hid hl.cb
      have hn1 : (1 : Int) < (n : Int) := by omega
      have hn0 : (0 : Int) < (n : Int) := by omega
      have hnn : 1 ≤ n := by omega
      have hp0 : 0 < n := by omega
      have hp1 : 1 < n := by omega
      have HN := Lib.hid hn
      have HN2 := Lib.hid hn2
      have hBW1 : B ≤ wr.drew.heap.size := Nat.le_trans HBW.out HG.out.tn.size
      have HB1W := Lib.hid hBW1
      obtain ⟨k, hk⟩ : ∃ k, k = s.recs.length := ⟨_, rfl⟩
      have hkw : IntKind.i64.wrap ((s2.first : Int) - (s.first : Int)) = (k : Int) := by rw [wrap_in (by omega)]; omega
      have hkall : k ≤ (Lg.ref { lg with segs := s :: s2 :: r }).all.length := by
        show k ≤ (allR (s :: s2 :: r)).length
        rw [allR_cons, List.length_append]
        omega
      have HKR := Lib.hid hk
      have HKW := Lib.hid hkw
      have HKA := Lib.hid hkall
      obtain ⟨m, hm⟩ : ∃ m, m = (Lg.ref { lg with segs := s :: s2 :: r }).all.length := ⟨_, rfl⟩
      rw [← hm] at c4 hkall hcapa hnone
      have HMM := Lib.hid hm
      have HCAP := Lib.hid hcap
      have HCAPA := Lib.hid hcapa
      have HNONE := Lib.hid hnone
      have HSOME := Lib.hid hsome
      have HLK2 := Lib.hid hlk
      obtain ⟨f1, hf1⟩ : ∃ f1, f1 = s2.first := ⟨_, rfl⟩
      obtain ⟨f0, hf0⟩ : ∃ f0, f0 = s.first := ⟨_, rfl⟩
      rw [← hf1] at g1
      rw [← hf0] at g0
      have HF1 := Lib.hid hf1
      have HF0 := Lib.hid hf0
      have HNV0 : Hid (nameV lg.dir (f0 : Int) = (segN lg.dir s.first, 0)) := Lib.hid (by rw [hf0]; exact HNV.out)
      have HM10 : Hid (-9223372036854775808 ≤ (f0 : Int)) := Lib.hid (by omega)
      have HM20 : Hid ((f0 : Int) ≤ 9223372036854775807) := Lib.hid (by omega)
      clear hl hn hn2 hgs hcap hmax hsf hsf2 hlk hlk2 hk hkw hkall hm hcapa hmaxa hnone hsome hBW1 hf1 hf0 c4
      by_cases hle : (f1 : Int) ≤ low
      · have d1 : decide ((f1 : Int) ≤ low) = true := decide_eq_true hle
        obtain ⟨x, hx⟩ : ∃ x, d'.remove (segN lg.dir s.first) = x := ⟨_, rfl⟩
        have HR := Lib.hid hx
        have HRD : Hid (x.1.done ≤ d'.done + 1) := Lib.hid (by rw [← hx]; exact remove_done _ _)
        have HLE : Hid ((s.next : Int) ≤ low) := Lib.hid (by rw [← HLK2.out, ← HF1.out]; exact hle)
        clear hx
        by_cases h0 : x.2 = 0
        · have q1 : (((x.2 : Nat) : Int) != 0) = false := by rw [h0]; rfl
          have HTG := Lib.hid (HT.out.trans (trim_go HLE.out HR.out h0))
          clear h0
          go_upto_region 2 with (fail)
          go_region_held (fun w' => w'.cell? ⟨b, 1, none⟩ = some (nmv lg.dir) ∧ w'.cell? ⟨b, 3, none⟩ = some (.slice (some ⟨g, off, none⟩) n cap) ∧ w'.cell? ⟨g, off, none⟩ = some (.int .i64 (f0 : Int))) (exact ⟨c1, c3, g0⟩) (first
            | (go_at_call 22; (refine (rwname_any _ lg.dir HDL.out (f0 : Int) HM10.out HM20.out).mono ?_); rw [HNV0.out]; rintro e w1 ⟨rfl, hb⟩; have HB1 : Hid (Below wr.heap.size wr w1) := (Below.refl _ wr).drew.trans (hb.mono (Nat.le_refl _)); have c1 := (hb.cell (p := ⟨b, 1, none⟩) HBS.out).trans c1; have c3 := (hb.cell (p := ⟨b, 3, none⟩) HBS.out).trans c3; have g0 := (hb.cell (p := ⟨g, off, none⟩) HGS.out).trans g0; clear hb))
          have HW1 := Lib.hid (HW.out.below HB1.out)
          have HB1W1 : Hid (B ≤ w1.heap.size) := Nat.le_trans HB1W.out HB1.out.size
          have HL1 := Lib.hid (HL.out.below HB1.out)
          obtain ⟨vd, ud, hra⟩ := HW1.out.dk
          have HRA := Lib.hid hra
          have HNM : Hid ((segN lg.dir s.first).length ≤ maxLen) := Lib.hid (by rw [segN_length (HKG.out.num s.first List.mem_cons_self).2]; have := HKG.out.dir.2; have h2 : lg.dir.length ≤ 11 := this; exact Nat.le_trans (show lg.dir.length + 9 ≤ 1000 by omega) (by decide))
          have c0 := HL1.out.c0
          clear hra c1
          go_upto_region 6 with (go_at_call 91; (refine (rremove_any HRA.out (segN lg.dir s.first) HDN.out).mono ?_); rw [HR.out]; rintro e w2 ⟨rfl, hd, ht⟩; have HT2 := Lib.hid ht; have HW2 := Lib.hid (HW1.out.disk HB1W1.out hd ht); have HL2 := Lib.hid (HL1.out.tn ht HW1.out.cs); have HG2 := Lib.hid ((HG.out.trans (went_below HB1.out)).trans (went_disk ht)); clear hd ht)
          by_cases hao : ao = none
          · subst hao
            have c4 := HL2.out.c4
            have c3 : w2.drew.cell? ⟨b, 3, none⟩ = some (.slice (some ⟨g, off, none⟩) n cap) := by have e := HL2.out.c3; rw [← HN.out] at e; exact e
            have g0 : w2.drew.cell? ⟨g, off, none⟩ = some (.int .i64 (f0 : Int)) := HT2.out.cell g0 HCN.out
            have g1 : w2.drew.cell? ⟨g, off + 1, none⟩ = some (.int .i64 (f1 : Int)) := HT2.out.cell ((HB1.out.cell (p := ⟨g, off + 1, none⟩) HGS.out).trans g1) HCN.out
            have fz4 : w2.drew.frozen? ⟨b, 4, none⟩ = false := frozen_zero HL2.out.box
            rw [← HMM.out] at c4
            obtain ⟨hm0, hc0⟩ := HNONE.out rfl
            have hk0 : k = 0 := by have := HKA.out; rw [← HMM.out] at this; omega
            subst hk0 hm0 hc0
            have hkw := HKW.out
            rw [← HF1.out, ← HF0.out] at hkw
            have hkw : IntKind.i64.wrap ((f1 : Int) - (f0 : Int)) = 0 := hkw
            have hvb : Hid (OffR w2.drew 36 (.slice none 0 0) ((Lg.ref { lg with segs := s :: s2 :: r }).all.drop 0).length (ua.drop 0)) := Lib.hid (by have e := (HL2.out.below (Below.refl _ w2).drew).all; rw [← HMM.out] at e; rw [List.drop_zero, List.drop_zero, ← HMM.out]; exact e)
            have hnum6 := (HL2.out.below (Below.refl _ w2).drew).nums
            rw [← HN.out] at hnum6
            have hdn6 := (hnum6.drop (k := 1) hnn).1
            have HVN := Lib.hid hdn6
            have hbx6 := (HL2.out.below (Below.refl _ w2).drew).box
            rw [← HMM.out, ← HN.out] at hbx6
            have HBX := Lib.hid hbx6
            clear hnum6 hdn6 hbx6
            have hgb := HGB.out
            have c3' : (w2.drew.setCell ⟨b, 4, none⟩ (.slice none 0 0)).cell? ⟨b, 3, none⟩ = some (.slice (some ⟨g, off, none⟩) n cap) := (World.cell?_setCell_other _ _ _ _ (fun e => by simp only [Addr.mk.injEq] at e; omega)).trans c3
            have g0' : (w2.drew.setCell ⟨b, 4, none⟩ (.slice none 0 0)).cell? ⟨g, off, none⟩ = some (.int .i64 (f0 : Int)) := (World.cell?_setCell_other _ _ _ _ (fun e => by simp only [Addr.mk.injEq] at e; exact hgb e.1.symm)).trans g0
            have g1' : (w2.drew.setCell ⟨b, 4, none⟩ (.slice none 0 0)).cell? ⟨g, off + 1, none⟩ = some (.int .i64 (f1 : Int)) := (World.cell?_setCell_other _ _ _ _ (fun e => by simp only [Addr.mk.injEq] at e; exact hgb e.1.symm)).trans g1
            clear hgb
            refine wp_region_held (S := (fun w' => w'.cell? ⟨b, 3, none⟩ = some (.slice (some ⟨g, off, none⟩) n cap) ∧ w'.cell? ⟨g, off, none⟩ = some (.int .i64 (f0 : Int)) ∧ w'.cell? ⟨g, off + 1, none⟩ = some (.int .i64 (f1 : Int)))) (by kernel_rfl) ?_
            change wpAnyH _ _ _ _ _ _ _ _ (World.drew _)
            refine wpAnyH_take (i := 0) (v := ?vtn_0) rfl (by kernel_rfl) (by kernel_rfl) (by kernel_rfl) (fun _ _ _ h => h) (Or.inl ⟨by rfl, ?ytn_0⟩) ⟨c3, g0, g1⟩ ?rtn_0
            case ytn_0 => (intro W hSw; (try dsimp only at hSw); obtain ⟨e0, e1, e2⟩ := hSw; first | (go_simp; done) | (go_simp; with_reducible rfl))
            try go_simp
            refine wpAnyH_take (i := 1) (v := ?vtn_1) rfl (by kernel_rfl) (by kernel_rfl) (by kernel_rfl) (fun _ _ _ h => h) (Or.inl ⟨by rfl, ?ytn_1⟩) ⟨c3, g0, g1⟩ ?rtn_1
            case ytn_1 => (intro W hSw; (try dsimp only at hSw); obtain ⟨e0, e1, e2⟩ := hSw; first | (go_simp; done) | (go_simp; with_reducible rfl))
            try go_simp
            refine wpAnyH_take (i := 2) (v := ?vtn_2) rfl (by kernel_rfl) (by kernel_rfl) (by kernel_rfl) (fun _ _ _ h => h) (Or.inl ⟨by rfl, ?ytn_2⟩) ⟨c3, g0, g1⟩ ?rtn_2
            case ytn_2 => (intro W hSw; (try dsimp only at hSw); obtain ⟨e0, e1, e2⟩ := hSw; first | (go_simp; done) | (go_simp; with_reducible rfl))
            try go_simp
            refine wpAnyH_take (i := 3) (v := ?vtn_3) rfl (by kernel_rfl) (by kernel_rfl) (by kernel_rfl) (fun _ _ _ h => h) (Or.inl ⟨by rfl, ?ytn_3⟩) ⟨c3, g0, g1⟩ ?rtn_3
            case ytn_3 => (intro W hSw; (try dsimp only at hSw); obtain ⟨e0, e1, e2⟩ := hSw; first | (go_simp; done) | (go_simp; with_reducible rfl))
            try go_simp
            refine wpAnyH_take (i := 5) (v := ?vtn_5) rfl (by kernel_rfl) (by kernel_rfl) (by kernel_rfl) (fun _ _ _ h => h) (Or.inl ⟨by rfl, ?ytn_5⟩) ⟨c3, g0, g1⟩ ?rtn_5
            case ytn_5 => (intro W hSw; (try dsimp only at hSw); obtain ⟨e0, e1, e2⟩ := hSw; first | (go_simp; done) | (go_simp; with_reducible rfl))
            try go_simp
            refine wpAnyH_take (i := 6) (v := ?vtn_6) rfl (by kernel_rfl) (by kernel_rfl) (by kernel_rfl) (fun _ _ _ h => h) (Or.inl ⟨by rfl, ?ytn_6⟩) ⟨c3, g0, g1⟩ ?rtn_6
            case ytn_6 => (intro W hSw; (try dsimp only at hSw); obtain ⟨e0, e1, e2⟩ := hSw; first | (go_simp; done) | (go_simp; with_reducible rfl))
            try go_simp
            refine wpAnyH_take (i := 7) (v := ?vtn_7) rfl (by kernel_rfl) (by kernel_rfl) (by kernel_rfl) (fun _ _ _ h => h) (Or.inl ⟨by rfl, ?ytn_7⟩) ⟨c3, g0, g1⟩ ?rtn_7
            case ytn_7 => (intro W hSw; (try dsimp only at hSw); obtain ⟨e0, e1, e2⟩ := hSw; first | (go_simp; done) | (go_simp; with_reducible rfl))
            try go_simp
            refine wpAnyH_take (i := 8) (v := ?vtn_8) rfl (by kernel_rfl) (by kernel_rfl) (by kernel_rfl) (fun _ _ _ h => h) (Or.inl ⟨by rfl, ?ytn_8⟩) ⟨c3, g0, g1⟩ ?rtn_8
            case ytn_8 => (intro W hSw; (try dsimp only at hSw); obtain ⟨e0, e1, e2⟩ := hSw; first | (go_simp; done) | (go_simp; with_reducible rfl))
            try go_simp
            refine wpAnyH_take (i := 9) (v := ?vtn_9) rfl (by kernel_rfl) (by kernel_rfl) (by kernel_rfl) (fun _ _ _ h => h) (Or.inl ⟨by rfl, ?ytn_9⟩) ⟨c3, g0, g1⟩ ?rtn_9
            case ytn_9 => (intro W hSw; (try dsimp only at hSw); obtain ⟨e0, e1, e2⟩ := hSw; first | (go_simp; done) | (go_simp; with_reducible rfl))
            try go_simp
            refine wpAnyH_take (i := 10) (v := ?vtn_10) rfl (by kernel_rfl) (by kernel_rfl) (by kernel_rfl) (fun _ _ _ h => h) (Or.inl ⟨by rfl, ?ytn_10⟩) ⟨c3, g0, g1⟩ ?rtn_10
            case ytn_10 => (intro W hSw; (try dsimp only at hSw); obtain ⟨e0, e1, e2⟩ := hSw; first | (go_simp; done) | (go_simp; with_reducible rfl))
            try go_simp
            refine wpAnyH_take (i := 11) (v := ?vtn_11) rfl (by kernel_rfl) (by kernel_rfl) (by kernel_rfl) (fun _ _ _ h => h) (Or.inl ⟨by rfl, ?ytn_11⟩) ⟨c3, g0, g1⟩ ?rtn_11
            case ytn_11 => (intro W hSw; (try dsimp only at hSw); obtain ⟨e0, e1, e2⟩ := hSw; first | (go_simp; done) | (go_simp; with_reducible rfl))
            try go_simp
            refine wpAnyH_take (i := 12) (v := ?vtn_12) rfl (by kernel_rfl) (by kernel_rfl) (by kernel_rfl) (fun _ _ _ h => h) (Or.inl ⟨by rfl, ?ytn_12⟩) ⟨c3, g0, g1⟩ ?rtn_12
            case ytn_12 => (intro W hSw; (try dsimp only at hSw); obtain ⟨e0, e1, e2⟩ := hSw; first | (go_simp; done) | (go_simp; with_reducible rfl))
            try go_simp
            refine wpAnyH_take (i := 13) (v := ?vtn_13) rfl (by kernel_rfl) (by kernel_rfl) (by kernel_rfl) (fun _ _ _ h => h) (Or.inl ⟨by rfl, ?ytn_13⟩) ⟨c3, g0, g1⟩ ?rtn_13
            case ytn_13 => (intro W hSw; (try dsimp only at hSw); obtain ⟨e0, e1, e2⟩ := hSw; first | (go_simp; done) | (go_simp; with_reducible rfl))
            try go_simp
            refine wpAnyH_take (i := 14) (v := ?vtn_14) rfl (by kernel_rfl) (by kernel_rfl) (by kernel_rfl) (fun _ _ _ h => h) (Or.inl ⟨by rfl, ?ytn_14⟩) ⟨c3, g0, g1⟩ ?rtn_14
            case ytn_14 => (intro W hSw; (try dsimp only at hSw); obtain ⟨e0, e1, e2⟩ := hSw; first | (go_simp; done) | (go_simp; with_reducible rfl))
            try go_simp
            refine wpAnyH_take (i := 15) (v := ?vtn_15) rfl (by kernel_rfl) (by kernel_rfl) (by kernel_rfl) (fun _ _ _ h => h) (Or.inl ⟨by rfl, ?ytn_15⟩) ⟨c3, g0, g1⟩ ?rtn_15
            case ytn_15 => (intro W hSw; (try dsimp only at hSw); obtain ⟨e0, e1, e2⟩ := hSw; first | (go_simp; done) | (go_simp; with_reducible rfl))
            try go_simp
            refine wpAnyH_take (i := 16) (v := ?vtn_16) rfl (by kernel_rfl) (by kernel_rfl) (by kernel_rfl) (fun _ _ _ h => h) (Or.inl ⟨by rfl, ?ytn_16⟩) ⟨c3, g0, g1⟩ ?rtn_16
            case ytn_16 => (intro W hSw; (try dsimp only at hSw); obtain ⟨e0, e1, e2⟩ := hSw; first | (go_simp; done) | (go_simp; with_reducible rfl))
            try go_simp
            refine wpAnyH_take (i := 17) (v := ?vtn_17) rfl (by kernel_rfl) (by kernel_rfl) (by kernel_rfl) (fun _ _ _ h => h) (Or.inl ⟨by rfl, ?ytn_17⟩) ⟨c3, g0, g1⟩ ?rtn_17
            case ytn_17 => (intro W hSw; (try dsimp only at hSw); obtain ⟨e0, e1, e2⟩ := hSw; first | (go_simp; done) | (go_simp; with_reducible rfl))
            try go_simp
            refine wpAnyH_ready (rs := [4]) (by kernel_rfl) (by simp) ?_
            refine AllReadyH.cons rfl (fun K hK => ?_) AllReadyH.nil
            go_simp
            refine hK.out _ _ ⟨c3, g0, g1⟩ (fun _ => ?_)
            clear hK K
            try go_simp
            refine wpAnyH_take (i := 18) (v := ?vtn_18) rfl (by kernel_rfl) (by kernel_rfl) (by kernel_rfl) (fun _ _ _ h => h) (Or.inl ⟨by rfl, ?ytn_18⟩) ⟨c3, g0, g1⟩ ?rtn_18
            case ytn_18 => (intro W hSw; (try dsimp only at hSw); obtain ⟨e0, e1, e2⟩ := hSw; first | (go_simp; done) | (go_simp; with_reducible rfl))
            try go_simp
            refine wpAnyH_take (i := 19) (v := ?vtn_19) rfl (by kernel_rfl) (by kernel_rfl) (by kernel_rfl) (fun _ _ _ h => h) (Or.inl ⟨by rfl, ?ytn_19⟩) ⟨c3, g0, g1⟩ ?rtn_19
            case ytn_19 => (intro W hSw; (try dsimp only at hSw); obtain ⟨e0, e1, e2⟩ := hSw; first | (go_simp; done) | (go_simp; with_reducible rfl))
            try go_simp
            refine wpAnyH_take (i := 20) (v := ?vtn_20) rfl (by kernel_rfl) (by kernel_rfl) (by kernel_rfl) (fun _ _ _ h => h) (Or.inl ⟨by rfl, ?ytn_20⟩) ⟨c3, g0, g1⟩ ?rtn_20
            case ytn_20 => (intro W hSw; (try dsimp only at hSw); obtain ⟨e0, e1, e2⟩ := hSw; first | (go_simp; done) | (go_simp; with_reducible rfl))
            try go_simp
            refine wpAnyH_ready (rs := [21]) (by kernel_rfl) (by simp) ?_
            refine AllReadyH.cons rfl (fun K hK => ?_) AllReadyH.nil
            go_simp
            refine hK.out _ _ ⟨c3', g0', g1'⟩ (fun _ => ?_)
            clear hK K
            try go_simp
            refine wpAnyH_done (by kernel_rfl) ?_ _
            have fz3w : w2.frozen? ⟨b, 3, none⟩ = false := frozen_zero HL2.out.box
            have hwn : IntKind.i64.wrap ((n : Int) - 1) = ((n - 1 : Nat) : Int) := by rw [wrap_in (by have := HN2.out; have := HNF.out; have := HDD.out; have h9 := HKG.out.few; rw [← HN.out] at h9; omega)]; omega
            have hcap1 : ¬ 1 = cap := by have := HCAP.out; have := HN2.out; omega
            have hcap2 : 1 ≤ cap := by have := HCAP.out; have := HN2.out; omega
            go_wp2
            have hT4 : Tn (· = b) w2.drew (w2.drew.setCell ⟨b, 4, none⟩ (.slice none 0 0)) := tn_set (Tn.refl _ _) _
            have hb4 := heap_set HBX.out (o := 4) (v := .slice none 0 0) rfl
            have hT5 : Tn (· = b) w2.drew ((w2.drew.setCell ⟨b, 4, none⟩ (.slice none 0 0)).setCell ⟨b, 3, none⟩ (.slice (some ⟨g, off + 1, none⟩) (n - 1) (cap - 1))) := tn_set hT4 _
            have hln : ((Lg.ref { lg with segs := s :: s2 :: r }).nums.drop 1).length = n - 1 := by rw [List.length_drop, ← HN.out]
            have hRL := (HL2.out.below (Below.refl _ w2).drew).reslice (j := 1) (k := 0) (vn' := .slice (some ⟨g, off + 1, none⟩) (n - 1) (cap - 1)) (va' := .slice none 0 0) (by rw [hln]; have e := HVN.out; rw [← List.map_drop] at e; exact e) hvb.out rfl rfl hT5 (heap_set hb4 (o := 3) (v := .slice (some ⟨g, off + 1, none⟩) (n - 1) (cap - 1)) rfl)
            have HRL := Lib.hid hRL
            have HT5 : Hid (Tn C' w2.drew ((w2.drew.setCell ⟨b, 4, none⟩ (.slice none 0 0)).setCell ⟨b, 3, none⟩ (.slice (some ⟨g, off + 1, none⟩) (n - 1) (cap - 1)))) := hT5.mono fun k _ e => e ▸ HCB1.out
            have h4 := HDD.out
            have h5 := HRD.out
            have h2 := HN2.out
            have hwr := wr_tail (HW2.out.below (Below.refl _ w2).drew) hRL HT5.out
            have e1 : ({ Lg.ref { lg with segs := s :: s2 :: r } with nums := (Lg.ref { lg with segs := s :: s2 :: r }).nums.drop 1, all := (Lg.ref { lg with segs := s :: s2 :: r }).all.drop (0) } : Rl) = Lg.ref { lg with segs := s2 :: r } := by
              show (⟨lg.dir, (lg.full : Int), List.map Sg.first (s2 :: r), (allR (s :: s2 :: r)).drop (0), lg.safe⟩ : Rl) = ⟨lg.dir, (lg.full : Int), List.map Sg.first (s2 :: r), allR (s2 :: r), lg.safe⟩
              rw [allR_cons, HKR.out, List.drop_left]
            rw [e1] at hwr
            have HWN := Lib.hid hwr
            have hlr : (s2 :: r).length = gk2 + 1 := by
              have h3 := HN.out
              have h6 : n = (List.map Sg.first (s :: s2 :: r)).length := h3
              rw [List.length_map, List.length_cons] at h6
              omega
            clear hT4 hb4 hT5 hln hRL e1 hwr
            go_roundg gk2
            case measure => omega
            case rel => exact ⟨C', _, s2 :: r, x.1, hlr, HWN, Lib.hid ((HG2.out.trans (went_below (Below.refl _ w2).drew)).trans ⟨HT5.out.mono (fun k _ e => .inl e), fun k e => .inl e⟩), HTG, Lib.hid (rok_tail HKG.out), Lib.hid HLG.out.2, Lib.hid (by omega)⟩
          · obtain ⟨ad, rfl⟩ : ∃ ad, ao = some ad := by cases ao with | none => exact absurd rfl hao | some ad => exact ⟨ad, rfl⟩
            clear hao
            by_cases hck : capa = k
            · have c4 := HL2.out.c4
              have c3 : w2.drew.cell? ⟨b, 3, none⟩ = some (.slice (some ⟨g, off, none⟩) n cap) := by have e := HL2.out.c3; rw [← HN.out] at e; exact e
              have g0 : w2.drew.cell? ⟨g, off, none⟩ = some (.int .i64 (f0 : Int)) := HT2.out.cell g0 HCN.out
              have g1 : w2.drew.cell? ⟨g, off + 1, none⟩ = some (.int .i64 (f1 : Int)) := HT2.out.cell ((HB1.out.cell (p := ⟨g, off + 1, none⟩) HGS.out).trans g1) HCN.out
              have fz4 : w2.drew.frozen? ⟨b, 4, none⟩ = false := frozen_zero HL2.out.box
              rw [← HMM.out] at c4
              obtain ⟨ga, oa, rfl⟩ := HSOME.out _ rfl
              have hkw := HKW.out
              rw [← HF1.out, ← HF0.out] at hkw
              have hkm : k ≤ m := by have := HKA.out; rw [← HMM.out] at this; exact this
              have hmc := HCAPA.out
              have hkc : k ≤ capa := by omega
              have hal := (HL2.out.below (Below.refl _ w2).drew).all
              rw [← HMM.out] at hal
              have hdr := hal.drop hkm
              have hlen : ((Lg.ref { lg with segs := s :: s2 :: r }).all.drop k).length = m - k := by rw [List.length_drop, ← HMM.out]
              have hvb : Hid (OffR w2.drew 36 (.slice (some ⟨ga, oa, none⟩) (m - k) 0) ((Lg.ref { lg with segs := s :: s2 :: r }).all.drop k).length (ua.drop k)) := Lib.hid (by rw [hlen]; have e := hdr.2 hck; rw [hck, Nat.sub_self] at e; exact e)
              clear hal hdr hlen
              have hnum6 := (HL2.out.below (Below.refl _ w2).drew).nums
              rw [← HN.out] at hnum6
              have hdn6 := (hnum6.drop (k := 1) hnn).1
              have HVN := Lib.hid hdn6
              have hbx6 := (HL2.out.below (Below.refl _ w2).drew).box
              rw [← HMM.out, ← HN.out] at hbx6
              have HBX := Lib.hid hbx6
              clear hnum6 hdn6 hbx6
              have hgb := HGB.out
              have c3' : (w2.drew.setCell ⟨b, 4, none⟩ (.slice (some ⟨ga, oa, none⟩) (m - k) 0)).cell? ⟨b, 3, none⟩ = some (.slice (some ⟨g, off, none⟩) n cap) := (World.cell?_setCell_other _ _ _ _ (fun e => by simp only [Addr.mk.injEq] at e; omega)).trans c3
              have g0' : (w2.drew.setCell ⟨b, 4, none⟩ (.slice (some ⟨ga, oa, none⟩) (m - k) 0)).cell? ⟨g, off, none⟩ = some (.int .i64 (f0 : Int)) := (World.cell?_setCell_other _ _ _ _ (fun e => by simp only [Addr.mk.injEq] at e; exact hgb e.1.symm)).trans g0
              have g1' : (w2.drew.setCell ⟨b, 4, none⟩ (.slice (some ⟨ga, oa, none⟩) (m - k) 0)).cell? ⟨g, off + 1, none⟩ = some (.int .i64 (f1 : Int)) := (World.cell?_setCell_other _ _ _ _ (fun e => by simp only [Addr.mk.injEq] at e; exact hgb e.1.symm)).trans g1
              clear hgb
              refine wp_region_held (S := (fun w' => w'.cell? ⟨b, 3, none⟩ = some (.slice (some ⟨g, off, none⟩) n cap) ∧ w'.cell? ⟨g, off, none⟩ = some (.int .i64 (f0 : Int)) ∧ w'.cell? ⟨g, off + 1, none⟩ = some (.int .i64 (f1 : Int)))) (by kernel_rfl) ?_
              change wpAnyH _ _ _ _ _ _ _ _ (World.drew _)
              refine wpAnyH_take (i := 0) (v := ?vtf_0) rfl (by kernel_rfl) (by kernel_rfl) (by kernel_rfl) (fun _ _ _ h => h) (Or.inl ⟨by rfl, ?ytf_0⟩) ⟨c3, g0, g1⟩ ?rtf_0
              case ytf_0 => (intro W hSw; (try dsimp only at hSw); obtain ⟨e0, e1, e2⟩ := hSw; first | (go_simp; done) | (go_simp; with_reducible rfl))
              try go_simp
              refine wpAnyH_take (i := 1) (v := ?vtf_1) rfl (by kernel_rfl) (by kernel_rfl) (by kernel_rfl) (fun _ _ _ h => h) (Or.inl ⟨by rfl, ?ytf_1⟩) ⟨c3, g0, g1⟩ ?rtf_1
              case ytf_1 => (intro W hSw; (try dsimp only at hSw); obtain ⟨e0, e1, e2⟩ := hSw; first | (go_simp; done) | (go_simp; with_reducible rfl))
              try go_simp
              refine wpAnyH_take (i := 2) (v := ?vtf_2) rfl (by kernel_rfl) (by kernel_rfl) (by kernel_rfl) (fun _ _ _ h => h) (Or.inl ⟨by rfl, ?ytf_2⟩) ⟨c3, g0, g1⟩ ?rtf_2
              case ytf_2 => (intro W hSw; (try dsimp only at hSw); obtain ⟨e0, e1, e2⟩ := hSw; first | (go_simp; done) | (go_simp; with_reducible rfl))
              try go_simp
              refine wpAnyH_take (i := 3) (v := ?vtf_3) rfl (by kernel_rfl) (by kernel_rfl) (by kernel_rfl) (fun _ _ _ h => h) (Or.inl ⟨by rfl, ?ytf_3⟩) ⟨c3, g0, g1⟩ ?rtf_3
              case ytf_3 => (intro W hSw; (try dsimp only at hSw); obtain ⟨e0, e1, e2⟩ := hSw; first | (go_simp; done) | (go_simp; with_reducible rfl))
              try go_simp
              refine wpAnyH_take (i := 5) (v := ?vtf_5) rfl (by kernel_rfl) (by kernel_rfl) (by kernel_rfl) (fun _ _ _ h => h) (Or.inl ⟨by rfl, ?ytf_5⟩) ⟨c3, g0, g1⟩ ?rtf_5
              case ytf_5 => (intro W hSw; (try dsimp only at hSw); obtain ⟨e0, e1, e2⟩ := hSw; first | (go_simp; done) | (go_simp; with_reducible rfl))
              try go_simp
              refine wpAnyH_take (i := 6) (v := ?vtf_6) rfl (by kernel_rfl) (by kernel_rfl) (by kernel_rfl) (fun _ _ _ h => h) (Or.inl ⟨by rfl, ?ytf_6⟩) ⟨c3, g0, g1⟩ ?rtf_6
              case ytf_6 => (intro W hSw; (try dsimp only at hSw); obtain ⟨e0, e1, e2⟩ := hSw; first | (go_simp; done) | (go_simp; with_reducible rfl))
              try go_simp
              refine wpAnyH_take (i := 7) (v := ?vtf_7) rfl (by kernel_rfl) (by kernel_rfl) (by kernel_rfl) (fun _ _ _ h => h) (Or.inl ⟨by rfl, ?ytf_7⟩) ⟨c3, g0, g1⟩ ?rtf_7
              case ytf_7 => (intro W hSw; (try dsimp only at hSw); obtain ⟨e0, e1, e2⟩ := hSw; first | (go_simp; done) | (go_simp; with_reducible rfl))
              try go_simp
              refine wpAnyH_take (i := 8) (v := ?vtf_8) rfl (by kernel_rfl) (by kernel_rfl) (by kernel_rfl) (fun _ _ _ h => h) (Or.inl ⟨by rfl, ?ytf_8⟩) ⟨c3, g0, g1⟩ ?rtf_8
              case ytf_8 => (intro W hSw; (try dsimp only at hSw); obtain ⟨e0, e1, e2⟩ := hSw; first | (go_simp; done) | (go_simp; with_reducible rfl))
              try go_simp
              refine wpAnyH_take (i := 9) (v := ?vtf_9) rfl (by kernel_rfl) (by kernel_rfl) (by kernel_rfl) (fun _ _ _ h => h) (Or.inl ⟨by rfl, ?ytf_9⟩) ⟨c3, g0, g1⟩ ?rtf_9
              case ytf_9 => (intro W hSw; (try dsimp only at hSw); obtain ⟨e0, e1, e2⟩ := hSw; first | (go_simp; done) | (go_simp; with_reducible rfl))
              try go_simp
              refine wpAnyH_take (i := 10) (v := ?vtf_10) rfl (by kernel_rfl) (by kernel_rfl) (by kernel_rfl) (fun _ _ _ h => h) (Or.inl ⟨by rfl, ?ytf_10⟩) ⟨c3, g0, g1⟩ ?rtf_10
              case ytf_10 => (intro W hSw; (try dsimp only at hSw); obtain ⟨e0, e1, e2⟩ := hSw; first | (go_simp; done) | (go_simp; with_reducible rfl))
              try go_simp
              refine wpAnyH_take (i := 11) (v := ?vtf_11) rfl (by kernel_rfl) (by kernel_rfl) (by kernel_rfl) (fun _ _ _ h => h) (Or.inl ⟨by rfl, ?ytf_11⟩) ⟨c3, g0, g1⟩ ?rtf_11
              case ytf_11 => (intro W hSw; (try dsimp only at hSw); obtain ⟨e0, e1, e2⟩ := hSw; first | (go_simp; done) | (go_simp; with_reducible rfl))
              try go_simp
              refine wpAnyH_take (i := 12) (v := ?vtf_12) rfl (by kernel_rfl) (by kernel_rfl) (by kernel_rfl) (fun _ _ _ h => h) (Or.inl ⟨by rfl, ?ytf_12⟩) ⟨c3, g0, g1⟩ ?rtf_12
              case ytf_12 => (intro W hSw; (try dsimp only at hSw); obtain ⟨e0, e1, e2⟩ := hSw; first | (go_simp; done) | (go_simp; with_reducible rfl))
              try go_simp
              refine wpAnyH_take (i := 13) (v := ?vtf_13) rfl (by kernel_rfl) (by kernel_rfl) (by kernel_rfl) (fun _ _ _ h => h) (Or.inl ⟨by rfl, ?ytf_13⟩) ⟨c3, g0, g1⟩ ?rtf_13
              case ytf_13 => (intro W hSw; (try dsimp only at hSw); obtain ⟨e0, e1, e2⟩ := hSw; first | (go_simp; done) | (go_simp; with_reducible rfl))
              try go_simp
              refine wpAnyH_take (i := 14) (v := ?vtf_14) rfl (by kernel_rfl) (by kernel_rfl) (by kernel_rfl) (fun _ _ _ h => h) (Or.inl ⟨by rfl, ?ytf_14⟩) ⟨c3, g0, g1⟩ ?rtf_14
              case ytf_14 => (intro W hSw; (try dsimp only at hSw); obtain ⟨e0, e1, e2⟩ := hSw; first | (go_simp; done) | (go_simp; with_reducible rfl))
              try go_simp
              refine wpAnyH_take (i := 15) (v := ?vtf_15) rfl (by kernel_rfl) (by kernel_rfl) (by kernel_rfl) (fun _ _ _ h => h) (Or.inl ⟨by rfl, ?ytf_15⟩) ⟨c3, g0, g1⟩ ?rtf_15
              case ytf_15 => (intro W hSw; (try dsimp only at hSw); obtain ⟨e0, e1, e2⟩ := hSw; first | (go_simp; done) | (go_simp; with_reducible rfl))
              try go_simp
              refine wpAnyH_take (i := 16) (v := ?vtf_16) rfl (by kernel_rfl) (by kernel_rfl) (by kernel_rfl) (fun _ _ _ h => h) (Or.inl ⟨by rfl, ?ytf_16⟩) ⟨c3, g0, g1⟩ ?rtf_16
              case ytf_16 => (intro W hSw; (try dsimp only at hSw); obtain ⟨e0, e1, e2⟩ := hSw; first | (go_simp; done) | (go_simp; with_reducible rfl))
              try go_simp
              refine wpAnyH_take (i := 17) (v := ?vtf_17) rfl (by kernel_rfl) (by kernel_rfl) (by kernel_rfl) (fun _ _ _ h => h) (Or.inl ⟨by rfl, ?ytf_17⟩) ⟨c3, g0, g1⟩ ?rtf_17
              case ytf_17 => (intro W hSw; (try dsimp only at hSw); obtain ⟨e0, e1, e2⟩ := hSw; first | (go_simp; done) | (go_simp; with_reducible rfl))
              try go_simp
              refine wpAnyH_ready (rs := [4]) (by kernel_rfl) (by simp) ?_
              refine AllReadyH.cons rfl (fun K hK => ?_) AllReadyH.nil
              go_simp
              refine hK.out _ _ ⟨c3, g0, g1⟩ (fun _ => ?_)
              clear hK K
              try go_simp
              refine wpAnyH_take (i := 18) (v := ?vtf_18) rfl (by kernel_rfl) (by kernel_rfl) (by kernel_rfl) (fun _ _ _ h => h) (Or.inl ⟨by rfl, ?ytf_18⟩) ⟨c3, g0, g1⟩ ?rtf_18
              case ytf_18 => (intro W hSw; (try dsimp only at hSw); obtain ⟨e0, e1, e2⟩ := hSw; first | (go_simp; done) | (go_simp; with_reducible rfl))
              try go_simp
              refine wpAnyH_take (i := 19) (v := ?vtf_19) rfl (by kernel_rfl) (by kernel_rfl) (by kernel_rfl) (fun _ _ _ h => h) (Or.inl ⟨by rfl, ?ytf_19⟩) ⟨c3, g0, g1⟩ ?rtf_19
              case ytf_19 => (intro W hSw; (try dsimp only at hSw); obtain ⟨e0, e1, e2⟩ := hSw; first | (go_simp; done) | (go_simp; with_reducible rfl))
              try go_simp
              refine wpAnyH_take (i := 20) (v := ?vtf_20) rfl (by kernel_rfl) (by kernel_rfl) (by kernel_rfl) (fun _ _ _ h => h) (Or.inl ⟨by rfl, ?ytf_20⟩) ⟨c3, g0, g1⟩ ?rtf_20
              case ytf_20 => (intro W hSw; (try dsimp only at hSw); obtain ⟨e0, e1, e2⟩ := hSw; first | (go_simp; done) | (go_simp; with_reducible rfl))
              try go_simp
              refine wpAnyH_ready (rs := [21]) (by kernel_rfl) (by simp) ?_
              refine AllReadyH.cons rfl (fun K hK => ?_) AllReadyH.nil
              go_simp
              refine hK.out _ _ ⟨c3', g0', g1'⟩ (fun _ => ?_)
              clear hK K
              try go_simp
              refine wpAnyH_done (by kernel_rfl) ?_ _
              have fz3w : w2.frozen? ⟨b, 3, none⟩ = false := frozen_zero HL2.out.box
              have hwn : IntKind.i64.wrap ((n : Int) - 1) = ((n - 1 : Nat) : Int) := by rw [wrap_in (by have := HN2.out; have := HNF.out; have := HDD.out; have h9 := HKG.out.few; rw [← HN.out] at h9; omega)]; omega
              have hcap1 : ¬ 1 = cap := by have := HCAP.out; have := HN2.out; omega
              have hcap2 : 1 ≤ cap := by have := HCAP.out; have := HN2.out; omega
              go_wp2
              have hT4 : Tn (· = b) w2.drew (w2.drew.setCell ⟨b, 4, none⟩ (.slice (some ⟨ga, oa, none⟩) (m - k) 0)) := tn_set (Tn.refl _ _) _
              have hb4 := heap_set HBX.out (o := 4) (v := .slice (some ⟨ga, oa, none⟩) (m - k) 0) rfl
              have hT5 : Tn (· = b) w2.drew ((w2.drew.setCell ⟨b, 4, none⟩ (.slice (some ⟨ga, oa, none⟩) (m - k) 0)).setCell ⟨b, 3, none⟩ (.slice (some ⟨g, off + 1, none⟩) (n - 1) (cap - 1))) := tn_set hT4 _
              have hln : ((Lg.ref { lg with segs := s :: s2 :: r }).nums.drop 1).length = n - 1 := by rw [List.length_drop, ← HN.out]
              have hRL := (HL2.out.below (Below.refl _ w2).drew).reslice (j := 1) (k := k) (vn' := .slice (some ⟨g, off + 1, none⟩) (n - 1) (cap - 1)) (va' := .slice (some ⟨ga, oa, none⟩) (m - k) 0) (by rw [hln]; have e := HVN.out; rw [← List.map_drop] at e; exact e) hvb.out rfl rfl hT5 (heap_set hb4 (o := 3) (v := .slice (some ⟨g, off + 1, none⟩) (n - 1) (cap - 1)) rfl)
              have HRL := Lib.hid hRL
              have HT5 : Hid (Tn C' w2.drew ((w2.drew.setCell ⟨b, 4, none⟩ (.slice (some ⟨ga, oa, none⟩) (m - k) 0)).setCell ⟨b, 3, none⟩ (.slice (some ⟨g, off + 1, none⟩) (n - 1) (cap - 1)))) := hT5.mono fun k _ e => e ▸ HCB1.out
              have h4 := HDD.out
              have h5 := HRD.out
              have h2 := HN2.out
              have hwr := wr_tail (HW2.out.below (Below.refl _ w2).drew) hRL HT5.out
              have e1 : ({ Lg.ref { lg with segs := s :: s2 :: r } with nums := (Lg.ref { lg with segs := s :: s2 :: r }).nums.drop 1, all := (Lg.ref { lg with segs := s :: s2 :: r }).all.drop k } : Rl) = Lg.ref { lg with segs := s2 :: r } := by
                show (⟨lg.dir, (lg.full : Int), List.map Sg.first (s2 :: r), (allR (s :: s2 :: r)).drop k, lg.safe⟩ : Rl) = ⟨lg.dir, (lg.full : Int), List.map Sg.first (s2 :: r), allR (s2 :: r), lg.safe⟩
                rw [allR_cons, HKR.out, List.drop_left]
              rw [e1] at hwr
              have HWN := Lib.hid hwr
              have hlr : (s2 :: r).length = gk2 + 1 := by
                have h3 := HN.out
                have h6 : n = (List.map Sg.first (s :: s2 :: r)).length := h3
                rw [List.length_map, List.length_cons] at h6
                omega
              clear hT4 hb4 hT5 hln hRL e1 hwr
              go_roundg gk2
              case measure => omega
              case rel => exact ⟨C', _, s2 :: r, x.1, hlr, HWN, Lib.hid ((HG2.out.trans (went_below (Below.refl _ w2).drew)).trans ⟨HT5.out.mono (fun k _ e => .inl e), fun k e => .inl e⟩), HTG, Lib.hid (rok_tail HKG.out), Lib.hid HLG.out.2, Lib.hid (by omega)⟩
            · have hck2 : ¬ k = capa := fun e => hck e.symm
              have c4 := HL2.out.c4
              have c3 : w2.drew.cell? ⟨b, 3, none⟩ = some (.slice (some ⟨g, off, none⟩) n cap) := by have e := HL2.out.c3; rw [← HN.out] at e; exact e
              have g0 : w2.drew.cell? ⟨g, off, none⟩ = some (.int .i64 (f0 : Int)) := HT2.out.cell g0 HCN.out
              have g1 : w2.drew.cell? ⟨g, off + 1, none⟩ = some (.int .i64 (f1 : Int)) := HT2.out.cell ((HB1.out.cell (p := ⟨g, off + 1, none⟩) HGS.out).trans g1) HCN.out
              have fz4 : w2.drew.frozen? ⟨b, 4, none⟩ = false := frozen_zero HL2.out.box
              rw [← HMM.out] at c4
              obtain ⟨ga, oa, rfl⟩ := HSOME.out _ rfl
              have hkw := HKW.out
              rw [← HF1.out, ← HF0.out] at hkw
              have hkm : k ≤ m := by have := HKA.out; rw [← HMM.out] at this; exact this
              have hmc := HCAPA.out
              have hkc : k ≤ capa := by omega
              have hal := (HL2.out.below (Below.refl _ w2).drew).all
              rw [← HMM.out] at hal
              have hdr := hal.drop hkm
              have hlen : ((Lg.ref { lg with segs := s :: s2 :: r }).all.drop k).length = m - k := by rw [List.length_drop, ← HMM.out]
              have hvb : Hid (OffR w2.drew 36 (.slice (some ⟨ga, oa + k, none⟩) (m - k) (capa - k)) ((Lg.ref { lg with segs := s :: s2 :: r }).all.drop k).length (ua.drop k)) := Lib.hid (by rw [hlen]; exact hdr.1)
              have hs1 : IntKind.i64.wrap ((m : Int) - (k : Int)) = ((m - k : Nat) : Int) := by rw [wrap_in (by have := HKG.out.all; rw [← HMM.out] at this; omega)]; omega
              clear hal hdr hlen
              have hnum6 := (HL2.out.below (Below.refl _ w2).drew).nums
              rw [← HN.out] at hnum6
              have hdn6 := (hnum6.drop (k := 1) hnn).1
              have HVN := Lib.hid hdn6
              have hbx6 := (HL2.out.below (Below.refl _ w2).drew).box
              rw [← HMM.out, ← HN.out] at hbx6
              have HBX := Lib.hid hbx6
              clear hnum6 hdn6 hbx6
              have hgb := HGB.out
              have c3' : (w2.drew.setCell ⟨b, 4, none⟩ (.slice (some ⟨ga, oa + k, none⟩) (m - k) (capa - k))).cell? ⟨b, 3, none⟩ = some (.slice (some ⟨g, off, none⟩) n cap) := (World.cell?_setCell_other _ _ _ _ (fun e => by simp only [Addr.mk.injEq] at e; omega)).trans c3
              have g0' : (w2.drew.setCell ⟨b, 4, none⟩ (.slice (some ⟨ga, oa + k, none⟩) (m - k) (capa - k))).cell? ⟨g, off, none⟩ = some (.int .i64 (f0 : Int)) := (World.cell?_setCell_other _ _ _ _ (fun e => by simp only [Addr.mk.injEq] at e; exact hgb e.1.symm)).trans g0
              have g1' : (w2.drew.setCell ⟨b, 4, none⟩ (.slice (some ⟨ga, oa + k, none⟩) (m - k) (capa - k))).cell? ⟨g, off + 1, none⟩ = some (.int .i64 (f1 : Int)) := (World.cell?_setCell_other _ _ _ _ (fun e => by simp only [Addr.mk.injEq] at e; exact hgb e.1.symm)).trans g1
              clear hgb
              refine wp_region_held (S := (fun w' => w'.cell? ⟨b, 3, none⟩ = some (.slice (some ⟨g, off, none⟩) n cap) ∧ w'.cell? ⟨g, off, none⟩ = some (.int .i64 (f0 : Int)) ∧ w'.cell? ⟨g, off + 1, none⟩ = some (.int .i64 (f1 : Int)))) (by kernel_rfl) ?_
              change wpAnyH _ _ _ _ _ _ _ _ (World.drew _)
              refine wpAnyH_take (i := 0) (v := ?vtp_0) rfl (by kernel_rfl) (by kernel_rfl) (by kernel_rfl) (fun _ _ _ h => h) (Or.inl ⟨by rfl, ?ytp_0⟩) ⟨c3, g0, g1⟩ ?rtp_0
              case ytp_0 => (intro W hSw; (try dsimp only at hSw); obtain ⟨e0, e1, e2⟩ := hSw; first | (go_simp; done) | (go_simp; with_reducible rfl))
              try go_simp
              refine wpAnyH_take (i := 1) (v := ?vtp_1) rfl (by kernel_rfl) (by kernel_rfl) (by kernel_rfl) (fun _ _ _ h => h) (Or.inl ⟨by rfl, ?ytp_1⟩) ⟨c3, g0, g1⟩ ?rtp_1
              case ytp_1 => (intro W hSw; (try dsimp only at hSw); obtain ⟨e0, e1, e2⟩ := hSw; first | (go_simp; done) | (go_simp; with_reducible rfl))
              try go_simp
              refine wpAnyH_take (i := 2) (v := ?vtp_2) rfl (by kernel_rfl) (by kernel_rfl) (by kernel_rfl) (fun _ _ _ h => h) (Or.inl ⟨by rfl, ?ytp_2⟩) ⟨c3, g0, g1⟩ ?rtp_2
              case ytp_2 => (intro W hSw; (try dsimp only at hSw); obtain ⟨e0, e1, e2⟩ := hSw; first | (go_simp; done) | (go_simp; with_reducible rfl))
              try go_simp
              refine wpAnyH_take (i := 3) (v := ?vtp_3) rfl (by kernel_rfl) (by kernel_rfl) (by kernel_rfl) (fun _ _ _ h => h) (Or.inl ⟨by rfl, ?ytp_3⟩) ⟨c3, g0, g1⟩ ?rtp_3
              case ytp_3 => (intro W hSw; (try dsimp only at hSw); obtain ⟨e0, e1, e2⟩ := hSw; first | (go_simp; done) | (go_simp; with_reducible rfl))
              try go_simp
              refine wpAnyH_take (i := 5) (v := ?vtp_5) rfl (by kernel_rfl) (by kernel_rfl) (by kernel_rfl) (fun _ _ _ h => h) (Or.inl ⟨by rfl, ?ytp_5⟩) ⟨c3, g0, g1⟩ ?rtp_5
              case ytp_5 => (intro W hSw; (try dsimp only at hSw); obtain ⟨e0, e1, e2⟩ := hSw; first | (go_simp; done) | (go_simp; with_reducible rfl))
              try go_simp
              refine wpAnyH_take (i := 6) (v := ?vtp_6) rfl (by kernel_rfl) (by kernel_rfl) (by kernel_rfl) (fun _ _ _ h => h) (Or.inl ⟨by rfl, ?ytp_6⟩) ⟨c3, g0, g1⟩ ?rtp_6
              case ytp_6 => (intro W hSw; (try dsimp only at hSw); obtain ⟨e0, e1, e2⟩ := hSw; first | (go_simp; done) | (go_simp; with_reducible rfl))
              try go_simp
              refine wpAnyH_take (i := 7) (v := ?vtp_7) rfl (by kernel_rfl) (by kernel_rfl) (by kernel_rfl) (fun _ _ _ h => h) (Or.inl ⟨by rfl, ?ytp_7⟩) ⟨c3, g0, g1⟩ ?rtp_7
              case ytp_7 => (intro W hSw; (try dsimp only at hSw); obtain ⟨e0, e1, e2⟩ := hSw; first | (go_simp; done) | (go_simp; with_reducible rfl))
              try go_simp
              refine wpAnyH_take (i := 8) (v := ?vtp_8) rfl (by kernel_rfl) (by kernel_rfl) (by kernel_rfl) (fun _ _ _ h => h) (Or.inl ⟨by rfl, ?ytp_8⟩) ⟨c3, g0, g1⟩ ?rtp_8
              case ytp_8 => (intro W hSw; (try dsimp only at hSw); obtain ⟨e0, e1, e2⟩ := hSw; first | (go_simp; done) | (go_simp; with_reducible rfl))
              try go_simp
              refine wpAnyH_take (i := 9) (v := ?vtp_9) rfl (by kernel_rfl) (by kernel_rfl) (by kernel_rfl) (fun _ _ _ h => h) (Or.inl ⟨by rfl, ?ytp_9⟩) ⟨c3, g0, g1⟩ ?rtp_9
              case ytp_9 => (intro W hSw; (try dsimp only at hSw); obtain ⟨e0, e1, e2⟩ := hSw; first | (go_simp; done) | (go_simp; with_reducible rfl))
              try go_simp
              refine wpAnyH_take (i := 10) (v := ?vtp_10) rfl (by kernel_rfl) (by kernel_rfl) (by kernel_rfl) (fun _ _ _ h => h) (Or.inl ⟨by rfl, ?ytp_10⟩) ⟨c3, g0, g1⟩ ?rtp_10
              case ytp_10 => (intro W hSw; (try dsimp only at hSw); obtain ⟨e0, e1, e2⟩ := hSw; first | (go_simp; done) | (go_simp; with_reducible rfl))
              try go_simp
              refine wpAnyH_take (i := 11) (v := ?vtp_11) rfl (by kernel_rfl) (by kernel_rfl) (by kernel_rfl) (fun _ _ _ h => h) (Or.inl ⟨by rfl, ?ytp_11⟩) ⟨c3, g0, g1⟩ ?rtp_11
              case ytp_11 => (intro W hSw; (try dsimp only at hSw); obtain ⟨e0, e1, e2⟩ := hSw; first | (go_simp; done) | (go_simp; with_reducible rfl))
              try go_simp
              refine wpAnyH_take (i := 12) (v := ?vtp_12) rfl (by kernel_rfl) (by kernel_rfl) (by kernel_rfl) (fun _ _ _ h => h) (Or.inl ⟨by rfl, ?ytp_12⟩) ⟨c3, g0, g1⟩ ?rtp_12
              case ytp_12 => (intro W hSw; (try dsimp only at hSw); obtain ⟨e0, e1, e2⟩ := hSw; first | (go_simp; done) | (go_simp; with_reducible rfl))
              try go_simp
              refine wpAnyH_take (i := 13) (v := ?vtp_13) rfl (by kernel_rfl) (by kernel_rfl) (by kernel_rfl) (fun _ _ _ h => h) (Or.inl ⟨by rfl, ?ytp_13⟩) ⟨c3, g0, g1⟩ ?rtp_13
              case ytp_13 => (intro W hSw; (try dsimp only at hSw); obtain ⟨e0, e1, e2⟩ := hSw; first | (go_simp; done) | (go_simp; with_reducible rfl))
              try go_simp
              refine wpAnyH_take (i := 14) (v := ?vtp_14) rfl (by kernel_rfl) (by kernel_rfl) (by kernel_rfl) (fun _ _ _ h => h) (Or.inl ⟨by rfl, ?ytp_14⟩) ⟨c3, g0, g1⟩ ?rtp_14
              case ytp_14 => (intro W hSw; (try dsimp only at hSw); obtain ⟨e0, e1, e2⟩ := hSw; first | (go_simp; done) | (go_simp; with_reducible rfl))
              try go_simp
              refine wpAnyH_take (i := 15) (v := ?vtp_15) rfl (by kernel_rfl) (by kernel_rfl) (by kernel_rfl) (fun _ _ _ h => h) (Or.inl ⟨by rfl, ?ytp_15⟩) ⟨c3, g0, g1⟩ ?rtp_15
              case ytp_15 => (intro W hSw; (try dsimp only at hSw); obtain ⟨e0, e1, e2⟩ := hSw; first | (go_simp; done) | (go_simp; with_reducible rfl))
              try go_simp
              refine wpAnyH_take (i := 16) (v := ?vtp_16) rfl (by kernel_rfl) (by kernel_rfl) (by kernel_rfl) (fun _ _ _ h => h) (Or.inl ⟨by rfl, ?ytp_16⟩) ⟨c3, g0, g1⟩ ?rtp_16
              case ytp_16 => (intro W hSw; (try dsimp only at hSw); obtain ⟨e0, e1, e2⟩ := hSw; first | (go_simp; done) | (go_simp; with_reducible rfl))
              try go_simp
              refine wpAnyH_take (i := 17) (v := ?vtp_17) rfl (by kernel_rfl) (by kernel_rfl) (by kernel_rfl) (fun _ _ _ h => h) (Or.inl ⟨by rfl, ?ytp_17⟩) ⟨c3, g0, g1⟩ ?rtp_17
              case ytp_17 => (intro W hSw; (try dsimp only at hSw); obtain ⟨e0, e1, e2⟩ := hSw; first | (go_simp; done) | (go_simp; with_reducible rfl))
              try go_simp
              refine wpAnyH_ready (rs := [4]) (by kernel_rfl) (by simp) ?_
              refine AllReadyH.cons rfl (fun K hK => ?_) AllReadyH.nil
              go_simp
              refine hK.out _ _ ⟨c3, g0, g1⟩ (fun _ => ?_)
              clear hK K
              try go_simp
              refine wpAnyH_take (i := 18) (v := ?vtp_18) rfl (by kernel_rfl) (by kernel_rfl) (by kernel_rfl) (fun _ _ _ h => h) (Or.inl ⟨by rfl, ?ytp_18⟩) ⟨c3, g0, g1⟩ ?rtp_18
              case ytp_18 => (intro W hSw; (try dsimp only at hSw); obtain ⟨e0, e1, e2⟩ := hSw; first | (go_simp; done) | (go_simp; with_reducible rfl))
              try go_simp
              refine wpAnyH_take (i := 19) (v := ?vtp_19) rfl (by kernel_rfl) (by kernel_rfl) (by kernel_rfl) (fun _ _ _ h => h) (Or.inl ⟨by rfl, ?ytp_19⟩) ⟨c3, g0, g1⟩ ?rtp_19
              case ytp_19 => (intro W hSw; (try dsimp only at hSw); obtain ⟨e0, e1, e2⟩ := hSw; first | (go_simp; done) | (go_simp; with_reducible rfl))
              try go_simp
              refine wpAnyH_take (i := 20) (v := ?vtp_20) rfl (by kernel_rfl) (by kernel_rfl) (by kernel_rfl) (fun _ _ _ h => h) (Or.inl ⟨by rfl, ?ytp_20⟩) ⟨c3, g0, g1⟩ ?rtp_20
              case ytp_20 => (intro W hSw; (try dsimp only at hSw); obtain ⟨e0, e1, e2⟩ := hSw; first | (go_simp; done) | (go_simp; with_reducible rfl))
              try go_simp
              refine wpAnyH_ready (rs := [21]) (by kernel_rfl) (by simp) ?_
              refine AllReadyH.cons rfl (fun K hK => ?_) AllReadyH.nil
              go_simp
              refine hK.out _ _ ⟨c3', g0', g1'⟩ (fun _ => ?_)
              clear hK K
              try go_simp
              refine wpAnyH_done (by kernel_rfl) ?_ _
              have fz3w : w2.frozen? ⟨b, 3, none⟩ = false := frozen_zero HL2.out.box
              have hwn : IntKind.i64.wrap ((n : Int) - 1) = ((n - 1 : Nat) : Int) := by rw [wrap_in (by have := HN2.out; have := HNF.out; have := HDD.out; have h9 := HKG.out.few; rw [← HN.out] at h9; omega)]; omega
              have hcap1 : ¬ 1 = cap := by have := HCAP.out; have := HN2.out; omega
              have hcap2 : 1 ≤ cap := by have := HCAP.out; have := HN2.out; omega
              go_wp2
              have hT4 : Tn (· = b) w2.drew (w2.drew.setCell ⟨b, 4, none⟩ (.slice (some ⟨ga, oa + k, none⟩) (m - k) (capa - k))) := tn_set (Tn.refl _ _) _
              have hb4 := heap_set HBX.out (o := 4) (v := .slice (some ⟨ga, oa + k, none⟩) (m - k) (capa - k)) rfl
              have hT5 : Tn (· = b) w2.drew ((w2.drew.setCell ⟨b, 4, none⟩ (.slice (some ⟨ga, oa + k, none⟩) (m - k) (capa - k))).setCell ⟨b, 3, none⟩ (.slice (some ⟨g, off + 1, none⟩) (n - 1) (cap - 1))) := tn_set hT4 _
              have hln : ((Lg.ref { lg with segs := s :: s2 :: r }).nums.drop 1).length = n - 1 := by rw [List.length_drop, ← HN.out]
              have hRL := (HL2.out.below (Below.refl _ w2).drew).reslice (j := 1) (k := k) (vn' := .slice (some ⟨g, off + 1, none⟩) (n - 1) (cap - 1)) (va' := .slice (some ⟨ga, oa + k, none⟩) (m - k) (capa - k)) (by rw [hln]; have e := HVN.out; rw [← List.map_drop] at e; exact e) hvb.out rfl rfl hT5 (heap_set hb4 (o := 3) (v := .slice (some ⟨g, off + 1, none⟩) (n - 1) (cap - 1)) rfl)
              have HRL := Lib.hid hRL
              have HT5 : Hid (Tn C' w2.drew ((w2.drew.setCell ⟨b, 4, none⟩ (.slice (some ⟨ga, oa + k, none⟩) (m - k) (capa - k))).setCell ⟨b, 3, none⟩ (.slice (some ⟨g, off + 1, none⟩) (n - 1) (cap - 1)))) := hT5.mono fun k _ e => e ▸ HCB1.out
              have h4 := HDD.out
              have h5 := HRD.out
              have h2 := HN2.out
              have hwr := wr_tail (HW2.out.below (Below.refl _ w2).drew) hRL HT5.out
              have e1 : ({ Lg.ref { lg with segs := s :: s2 :: r } with nums := (Lg.ref { lg with segs := s :: s2 :: r }).nums.drop 1, all := (Lg.ref { lg with segs := s :: s2 :: r }).all.drop k } : Rl) = Lg.ref { lg with segs := s2 :: r } := by
                show (⟨lg.dir, (lg.full : Int), List.map Sg.first (s2 :: r), (allR (s :: s2 :: r)).drop k, lg.safe⟩ : Rl) = ⟨lg.dir, (lg.full : Int), List.map Sg.first (s2 :: r), allR (s2 :: r), lg.safe⟩
                rw [allR_cons, HKR.out, List.drop_left]
              rw [e1] at hwr
              have HWN := Lib.hid hwr
              have hlr : (s2 :: r).length = gk2 + 1 := by
                have h3 := HN.out
                have h6 : n = (List.map Sg.first (s :: s2 :: r)).length := h3
                rw [List.length_map, List.length_cons] at h6
                omega
              clear hT4 hb4 hT5 hln hRL e1 hwr
              go_roundg gk2
              case measure => omega
              case rel => exact ⟨C', _, s2 :: r, x.1, hlr, HWN, Lib.hid ((HG2.out.trans (went_below (Below.refl _ w2).drew)).trans ⟨HT5.out.mono (fun k _ e => .inl e), fun k e => .inl e⟩), HTG, Lib.hid (rok_tail HKG.out), Lib.hid HLG.out.2, Lib.hid (by omega)⟩
        · have q1 : (((x.2 : Nat) : Int) != 0) = true := by simpa using h0
          have HTG := Lib.hid (HT.out.trans (trim_fell HLE.out HR.out h0))
          clear h0
          go_upto_region 2 with (fail)
          go_region_held (fun w' => w'.cell? ⟨b, 1, none⟩ = some (nmv lg.dir) ∧ w'.cell? ⟨b, 3, none⟩ = some (.slice (some ⟨g, off, none⟩) n cap) ∧ w'.cell? ⟨g, off, none⟩ = some (.int .i64 (f0 : Int))) (exact ⟨c1, c3, g0⟩) (first
            | (go_at_call 22; (refine (rwname_any _ lg.dir HDL.out (f0 : Int) HM10.out HM20.out).mono ?_); rw [HNV0.out]; rintro e w1 ⟨rfl, hb⟩; have HB1 : Hid (Below wr.heap.size wr w1) := (Below.refl _ wr).drew.trans (hb.mono (Nat.le_refl _)); have c1 := (hb.cell (p := ⟨b, 1, none⟩) HBS.out).trans c1; have c3 := (hb.cell (p := ⟨b, 3, none⟩) HBS.out).trans c3; have g0 := (hb.cell (p := ⟨g, off, none⟩) HGS.out).trans g0; clear hb))
          have HW1 := Lib.hid (HW.out.below HB1.out)
          have HB1W1 : Hid (B ≤ w1.heap.size) := Nat.le_trans HB1W.out HB1.out.size
          have HL1 := Lib.hid (HL.out.below HB1.out)
          obtain ⟨vd, ud, hra⟩ := HW1.out.dk
          have HRA := Lib.hid hra
          have HNM : Hid ((segN lg.dir s.first).length ≤ maxLen) := Lib.hid (by rw [segN_length (HKG.out.num s.first List.mem_cons_self).2]; have := HKG.out.dir.2; have h2 : lg.dir.length ≤ 11 := this; exact Nat.le_trans (show lg.dir.length + 9 ≤ 1000 by omega) (by decide))
          have c0 := HL1.out.c0
          clear hra c1
          go_wp2_with (go_at_call 91; (refine (rremove_any HRA.out (segN lg.dir s.first) HDN.out).mono ?_); rw [HR.out]; rintro e w2 ⟨rfl, hd, ht⟩; have HT2 := Lib.hid ht; have HW2 := Lib.hid (HW1.out.disk HB1W1.out hd ht); have HL2 := Lib.hid (HL1.out.tn ht HW1.out.cs); have HG2 := Lib.hid ((HG.out.trans (went_below HB1.out)).trans (went_disk ht)); clear hd ht)
          go_ret
          exact rlogged_trim (k := x.2) HTG.out rfl HW2.out HG2.out
      · have d1 : decide ((f1 : Int) ≤ low) = false := decide_eq_false hle
        have HTG := Lib.hid (HT.out.trans (trim_stay (by rw [← HLK2.out, ← HF1.out]; exact hle)))
        go_wp2
        go_ret
        exact rlogged_trim (k := 0) HTG.out rfl HW.out HG.out
end
end Go.Proofs.YtkilkhnoldfhcaaGreatDoor
namespace Go.Proofs.YtkilkhnoldfhcaaGreatDoor
open Go.RowKit
section
variable {w : World} {b c : Nat} {C : Nat → Prop} {r : Rl} {vn va : Value} {ua : List Value}
set_option maxRecDepth 100000 in
set_option maxHeartbeats 4000000 in
theorem rlfrom_any (h : RLt C w b c r vn va ua) (hk : ROk r) (hmany : r.all.length ≤ 1000000) (hsafe : max r.top (r.low - 1) < r.low + r.all.length) (k most : Int) (hm1 : -9223372036854775808 ≤ most) (hm2 : most ≤ 9223372036854775807) :
    Calls Tryz.prog 50 #[ptr b, .int .i64 k, .int .i64 most] w fun e w' => Below w.heap.size w w' ∧
      (if k < (r.low : Int) ∨ ((max r.top (r.low - 1) : Nat) : Int) + 1 < k then e = .returned (.tuple #[.slice none 0 0, .int .i64 8])
       else ∃ v, e = .returned (.tuple #[v, .int .i64 0]) ∧ w'.ownsRow 0 36 1 v ((ua.drop (k - (r.low : Int)).toNat).take (min most (((max r.top (r.low - 1) : Nat) : Int) + 1 - k)).toNat).length ((ua.drop (k - (r.low : Int)).toNat).take (min most (((max r.top (r.low - 1) : Nat) : Int) + 1 - k)).toNat) ∧ ∀ q, v.ownBlock = some q → w.heap.size ≤ q) := by
  have hlo := hk.low1
  obtain ⟨sf, hsf⟩ : ∃ sf, sf = max r.top (r.low - 1) := ⟨_, rfl⟩
  have HSF := Lib.hid hsf
  rw [← hsf] at hsafe ⊢
  have hual := h.ual
  have HL := Lib.hid h
  have HK := Lib.hid hk
  have HLO := Lib.hid hlo
  have HSA := Lib.hid hsafe
  have htop := hk.top
  have hall := hk.all
  have AS : ∀ wr : World, RLt C wr b c r vn va ua → Calls Tryz.prog 54 #[ptr b] wr fun e w' => e = .returned (.int .i64 (sf : Int)) ∧ Below wr.heap.size wr w' := fun wr hr => by
    rw [HSF.out]
    exact rsafe_any hr HK.out
  have HAS := Lib.hid AS
  clear AS
  have hsb : sf ≤ 1000000000 := by omega
  have hws : IntKind.i64.wrap ((sf : Int) + 1) = (sf : Int) + 1 := wrap_in (by omega)
  by_cases hlow : k < (r.low : Int)
  · have d1 : decide (k < (r.low : Int)) = true := decide_eq_true hlow
    have HC : Hid (k < (r.low : Int) ∨ (sf : Int) + 1 < k) := Lib.hid (.inl hlow)
    clear h hk hlo hsafe hual htop hall hlow hmany hsf
    go_enter Tryz.func50, Tryz.ntmps50
    go_wp2_with (go_at_call 52; (refine (rfirst_any HL.out HK.out).mono ?_); rintro e w1 ⟨rfl, rfl⟩)
    go_ret2
    try rw [if_pos HC.out]
    exact ⟨Below.refl _ _, rfl⟩
  by_cases hhi : (sf : Int) + 1 < k
  · have d1 : decide (k < (r.low : Int)) = false := decide_eq_false hlow
    have d2 : decide ((sf : Int) + 1 < k) = true := decide_eq_true hhi
    have HC : Hid (k < (r.low : Int) ∨ (sf : Int) + 1 < k) := Lib.hid (.inr hhi)
    clear h hk hlo hsafe hual htop hall hlow hmany hhi hsf
    go_enter Tryz.func50, Tryz.ntmps50
    go_wp2_with (first | (go_at_call 52; (refine (rfirst_any HL.out HK.out).mono ?_); rintro e w1 ⟨rfl, rfl⟩) | (go_at_call 54; (refine (HAS.out _ HL.out).mono ?_); rintro e w2 ⟨rfl, hb⟩; have HB := Lib.hid hb; clear hb))
    go_ret2
    try rw [if_pos HC.out]
    exact ⟨HB.out, rfl⟩
  have d1 : decide (k < (r.low : Int)) = false := decide_eq_false hlow
  have d2 : decide ((sf : Int) + 1 < k) = false := decide_eq_false hhi
  have HC : Hid (¬ (k < (r.low : Int) ∨ (sf : Int) + 1 < k)) := Lib.hid (by omega)
  obtain ⟨q, hq⟩ : ∃ q, q = (k - (r.low : Int)).toNat := ⟨_, rfl⟩
  obtain ⟨M, hM⟩ : ∃ M, M = (min most ((sf : Int) + 1 - k)).toNat := ⟨_, rfl⟩
  rw [← hq, ← hM]
  have hk2 : k = ((r.low + q : Nat) : Int) := by omega
  have hMl : q + M ≤ r.all.length := by omega
  have hlen : ((ua.drop q).take M).length = M := by rw [List.length_take, List.length_drop, hual]; omega
  rw [hlen]
  have HMD : Hid (∀ j : Nat, j < M ↔ ((r.low + q : Nat) : Int) + (j : Int) ≤ (sf : Int) ∧ (j : Int) < most) := Lib.hid (fun j => by omega)
  have HQM := Lib.hid hMl
  have HUL := Lib.hid hual
  have HMANY := Lib.hid hmany
  obtain ⟨ao, capa, hva, hcapa, hmaxa, hnone, hsome⟩ := h.all.slice
  subst hva
  obtain ⟨m, hm⟩ : ∃ m, m = r.all.length := ⟨_, rfl⟩
  have HMM := Lib.hid hm
  have HSOME := Lib.hid hsome
  have HNONE := Lib.hid hnone
  subst hk2
  clear hq hM h hk hlo hsafe hual htop hall hlow hhi hmany hsf hlen hMl hcapa hmaxa hnone hsome hm hm1 hm2
  go_enter Tryz.func50, Tryz.ntmps50
  go_wp2_with (first | (go_at_call 52; (refine (rfirst_any HL.out HK.out).mono ?_); rintro e w1 ⟨rfl, rfl⟩) | (go_at_call 54; (refine (HAS.out _ HL.out).mono ?_); rintro e w2 ⟨rfl, hb⟩; have HB := Lib.hid hb; clear hb))
  go_loopg [8, 9] M (fun gk v8 v9 wr => ∃ j, gk + j = M ∧ v9 = .int .i64 (((r.low + q : Nat) : Int) + (j : Int)) ∧ Hid (wr.ownsRow 0 36 1 v8 j ((ua.drop q).take j)) ∧ Hid (∀ q, v8.ownBlock = some q → w.heap.size ≤ q) ∧ Hid (Below w.heap.size w wr))
  case atStart => exact ⟨0, rfl, by simp, Lib.hid (World.ownsRow_nil _ _ _ _), Lib.hid (fun _ e => by cases e), HB⟩
  case round =>
    obtain ⟨j, hj, rfl, HO, HOW, HBr⟩ := hrel
    obtain ⟨o8, k8, rfl⟩ := own_slice HO.out
    have HLr := Lib.hid (HL.out.below HBr.out)
    have hmd := HMD.out j
    have hlo := HLO.out
    have hqm := HQM.out
    have hmn := HMANY.out
    by_cases hjM : j < M
    · have d3 : decide (((r.low + q : Nat) : Int) + (j : Int) ≤ (sf : Int)) = true := decide_eq_true (hmd.1 hjM).1
      have d3' : decide ((r.low : Int) + (q : Int) + (j : Int) ≤ (sf : Int)) = true := decide_eq_true (by have := (hmd.1 hjM).1; omega)
      have d4 : decide ((j : Int) < most) = true := decide_eq_true (hmd.1 hjM).2
      obtain ⟨ga, oa, rfl⟩ : ∃ ga oa, ao = some ⟨ga, oa, none⟩ := by
        cases ao with
        | none => have := (HNONE.out rfl).1; omega
        | some ad => obtain ⟨ga, oa, rfl⟩ := HSOME.out ad rfl; exact ⟨ga, oa, rfl⟩
      have hqj : q + j < ua.length := by rw [HUL.out]; omega
      obtain ⟨uo, un, uc, hu⟩ : ∃ uo un uc, ua[q + j]? = some (.slice uo un uc) := by
        obtain ⟨ao2, cap2, e, _⟩ := HL.out.rows (q + j) hqj (by rw [← HUL.out]; exact hqj)
        exact ⟨_, _, _, by rw [List.getElem?_eq_getElem hqj, e]⟩
      have HUU := Lib.hid hu
      have hu1 : (Value.slice uo un uc).oneCell' = true := rfl
      have HU1 := Lib.hid hu1
      have hget : (ua.drop q).take (j + 1) = (ua.drop q).take j ++ [.slice uo un uc] := by
        rw [List.take_add_one, List.getElem?_drop, hu]
        rfl
      have HGET := Lib.hid hget
      clear hu hqj hu1 hget
      go_upto_region 7 with (go_at_call 54; (refine (HAS.out _ HLr.out).mono ?_); rintro e w3 ⟨rfl, hb3⟩; have HB3 := Lib.hid (hb3.trans ((Below.refl _ w3).drew.mono hb3.size)); clear hb3)
      have HL3 := Lib.hid (HLr.out.below HB3.out)
      have HO3 := Lib.hid (own_below HO.out HB3.out)
      have HLr := HL3
      have HO := HO3
      have c4 : w3.drew.cell? ⟨b, 4, none⟩ = some (.slice (some ⟨ga, oa, none⟩) m capa) := by have e := HL3.out.c4; rw [← HMM.out] at e; exact e
      have e4 : w3.drew.cell? ⟨ga, oa + (q + j), none⟩ = some (.slice uo un uc) := (HL3.out.all.cell (j := q + j) (by have := HQM.out; omega)).1.trans HUU.out
      have HBE : Hid (Below w3.drew.heap.size w3.drew (w3.drew.alloc (.cells #[.slice uo un uc] 36))) := below1 _ _
      have HBS : Hid (b < w.heap.size) := HL.out.lt b HL.out.cb
      have HGS : Hid (ga < w.heap.size) := HL.out.lt ga (HL.out.ca ga rfl)
      have HOB : Hid (∀ k, k < w.heap.size → ¬ some k = (Value.slice o8 j k8).ownBlock) := Lib.hid (fun k hk e => by have := HOW.out k e.symm; omega)
      have c4' := (HBE.out.cell (p := ⟨b, 4, none⟩) (World.block_lt_of_cell? _ _ c4)).trans c4
      have e4' : (w3.drew.alloc (.cells #[.slice uo un uc] 36)).cell? ⟨ga, oa + (q + j), none⟩ = some (.slice uo un uc) := (HBE.out.cell (p := ⟨ga, oa + (q + j), none⟩) (World.block_lt_of_cell? _ _ e4)).trans e4
      have hidx : IntKind.i64.wrap (((r.low + q : Nat) : Int) + (j : Int) - (r.low : Int)) = ((q + j : Nat) : Int) := by rw [wrap_in (by omega)]; omega
      have hidx' : IntKind.i64.wrap ((r.low : Int) + (q : Int) + (j : Int) - (r.low : Int)) = ((q + j : Nat) : Int) := by rw [wrap_in (by omega)]; omega
      have hi1 : (0 : Int) ≤ (q : Int) + (j : Int) := by omega
      have hi2 : (q : Int) + (j : Int) < (m : Int) := by rw [HMM.out]; omega
      have hi3 : ((q : Int) + (j : Int)).toNat = q + j := by omega
      have hnw : IntKind.i64.wrap (((r.low + q : Nat) : Int) + (j : Int) + 1) = ((r.low + q : Nat) : Int) + ((j + 1 : Nat) : Int) := by rw [wrap_in (by omega)]; omega
      have hnw' : IntKind.i64.wrap ((r.low : Int) + (q : Int) + (j : Int) + 1) = (r.low : Int) + (q : Int) + (j : Int) + 1 := by rw [wrap_in (by omega)]
      refine wp_region_held (S := (fun w' => w'.cell? ⟨b, 4, none⟩ = some (.slice (some ⟨ga, oa, none⟩) m capa) ∧ w'.cell? ⟨ga, oa + (q + j), none⟩ = some (.slice uo un uc))) (by kernel_rfl) ?_
      change wpAnyH _ _ _ _ _ _ _ _ (World.drew _)
      refine wpAnyH_take (i := 0) (v := ?vz_0) rfl (by kernel_rfl) (by kernel_rfl) (by kernel_rfl) (fun _ _ _ h => h) (Or.inl ⟨by rfl, ?yz_0⟩) ⟨c4, e4⟩ ?rz_0
      case yz_0 => (intro W hSw; (try dsimp only at hSw); obtain ⟨e0, e1⟩ := hSw; first | (go_simp; done) | (go_simp; with_reducible rfl))
      try go_simp
      refine wpAnyH_take (i := 1) (v := ?vz_1) rfl (by kernel_rfl) (by kernel_rfl) (by kernel_rfl) (fun _ _ _ h => h) (Or.inl ⟨by rfl, ?yz_1⟩) ⟨c4, e4⟩ ?rz_1
      case yz_1 => (intro W hSw; (try dsimp only at hSw); obtain ⟨e0, e1⟩ := hSw; first | (go_simp; done) | (go_simp; with_reducible rfl))
      try go_simp
      refine wpAnyH_take (i := 2) (v := ?vz_2) rfl (by kernel_rfl) (by kernel_rfl) (by kernel_rfl) (fun _ _ _ h => h) (Or.inl ⟨by rfl, ?yz_2⟩) ⟨c4, e4⟩ ?rz_2
      case yz_2 => (intro W hSw; (try dsimp only at hSw); obtain ⟨e0, e1⟩ := hSw; first | (go_simp; done) | (go_simp; with_reducible rfl))
      try go_simp
      refine wpAnyH_take (i := 3) (v := ?vz_3) rfl (by kernel_rfl) (by kernel_rfl) (by kernel_rfl) (fun _ _ _ h => h) (Or.inl ⟨by rfl, ?yz_3⟩) ⟨c4, e4⟩ ?rz_3
      case yz_3 => (intro W hSw; (try dsimp only at hSw); obtain ⟨e0, e1⟩ := hSw; first | (go_simp; done) | (go_simp; with_reducible rfl))
      try go_simp
      refine wpAnyH_take (i := 4) (v := ?vz_4) rfl (by kernel_rfl) (by kernel_rfl) (by kernel_rfl) (fun _ _ _ h => h) (Or.inl ⟨by rfl, ?yz_4⟩) ⟨c4, e4⟩ ?rz_4
      case yz_4 => (intro W hSw; (try dsimp only at hSw); obtain ⟨e0, e1⟩ := hSw; first | (go_simp; done) | (go_simp; with_reducible rfl))
      try go_simp
      refine wpAnyH_take (i := 5) (v := ?vz_5) rfl (by kernel_rfl) (by kernel_rfl) (by kernel_rfl) (fun _ _ _ h => h) (Or.inl ⟨by rfl, ?yz_5⟩) ⟨c4, e4⟩ ?rz_5
      case yz_5 => (intro W hSw; (try dsimp only at hSw); obtain ⟨e0, e1⟩ := hSw; first | (go_simp; done) | (go_simp; with_reducible rfl))
      try go_simp
      refine wpAnyH_take (i := 6) (v := ?vz_6) rfl (by kernel_rfl) (by kernel_rfl) (by kernel_rfl) (fun _ _ _ h => h) (Or.inl ⟨by rfl, ?yz_6⟩) ⟨c4, e4⟩ ?rz_6
      case yz_6 => (intro W hSw; (try dsimp only at hSw); obtain ⟨e0, e1⟩ := hSw; first | (go_simp; done) | (go_simp; with_reducible rfl))
      try go_simp
      refine wpAnyH_ready (rs := [7]) (by kernel_rfl) (by simp) ?_
      refine AllReadyH.cons rfl (fun K hK => ?_) AllReadyH.nil
      go_simp
      (go_wp2_with (first | (go_at_call 52; (refine (rfirst_any HLr.out HK.out).mono ?_); rintro e w1 ⟨rfl, rfl⟩)))
      refine hK.out _ _ ⟨c4, e4⟩ (fun _ => ?_)
      clear hK K
      try go_simp
      refine wpAnyH_take (i := 8) (v := ?vz_8) rfl (by kernel_rfl) (by kernel_rfl) (by kernel_rfl) (fun _ _ _ h => h) (Or.inl ⟨by rfl, ?yz_8⟩) ⟨c4, e4⟩ ?rz_8
      case yz_8 => (intro W hSw; (try dsimp only at hSw); obtain ⟨e0, e1⟩ := hSw; first | (go_simp; done) | (go_simp; with_reducible rfl))
      try go_simp
      refine wpAnyH_take (i := 9) (v := ?vz_9) rfl (by kernel_rfl) (by kernel_rfl) (by kernel_rfl) (fun _ _ _ h => h) (Or.inl ⟨by rfl, ?yz_9⟩) ⟨c4, e4⟩ ?rz_9
      case yz_9 => (intro W hSw; (try dsimp only at hSw); obtain ⟨e0, e1⟩ := hSw; first | (go_simp; done) | (go_simp; with_reducible rfl))
      try go_simp
      refine wpAnyH_take (i := 10) (v := ?vz_10) rfl (by kernel_rfl) (by kernel_rfl) (by kernel_rfl) (fun _ _ _ h => h) (Or.inl ⟨by rfl, ?yz_10⟩) ⟨c4, e4⟩ ?rz_10
      case yz_10 => (intro W hSw; (try dsimp only at hSw); obtain ⟨e0, e1⟩ := hSw; first | (go_simp; done) | (go_simp; with_reducible rfl))
      try go_simp
      refine wpAnyH_ready (rs := [11]) (by kernel_rfl) (by simp) ?_
      refine AllReadyH.cons rfl (fun K hK => ?_) AllReadyH.nil
      go_simp
      refine hK.out _ _ ⟨c4', e4'⟩ (fun _ => ?_)
      clear hK K
      try go_simp
      refine wpAnyH_ready (rs := [12]) (by kernel_rfl) (by simp) ?_
      refine AllReadyH.cons rfl (fun K hK => ?_) AllReadyH.nil
      have hown := own_below HO.out HBE.out
      refine oper_append_rec (wanted_none rfl _) (.tmp 34) (.tmp 45) rfl rfl (by exact hown) rfl (heap_alloc_new _ _) HU1.out (by omega) ?_
      intro v8 w8 ho8 hg8 hl8
      have c5 : w8.cell? ⟨b, 4, none⟩ = some (.slice (some ⟨ga, oa, none⟩) m capa) := hg8.cell c4' (HOB.out b HBS.out)
      have e5 : w8.cell? ⟨ga, oa + (q + j), none⟩ = some (.slice uo un uc) := hg8.cell e4' (HOB.out ga HGS.out)
      have HO8 := Lib.hid ho8
      have HG8 := Lib.hid hg8
      have HL8 := Lib.hid hl8
      clear ho8 hg8 hl8 hown
      try go_simp
      refine hK.out _ _ ⟨c5, e5⟩ (fun _ => ?_)
      clear hK K
      try go_simp
      refine wpAnyH_take (i := 13) (v := ?vy_13) rfl (by kernel_rfl) (by kernel_rfl) (by kernel_rfl) (fun _ _ _ h => h) (Or.inl ⟨by rfl, ?yy_13⟩) ⟨c5, e5⟩ ?ry_13
      case yy_13 => (intro W hSw; (try dsimp only at hSw); obtain ⟨e0, e1⟩ := hSw; first | (go_simp; done) | (go_simp; with_reducible rfl))
      try go_simp
      refine wpAnyH_done (by kernel_rfl) ?_ _
      obtain ⟨gk2, rfl⟩ : ∃ gk2, gk = gk2 + 1 := ⟨gk - 1, by omega⟩
      have hA : Tn (fun k => (Value.slice o8 j k8).ownBlock = some k) (w3.drew.alloc (.cells #[.slice uo un uc] 36)) w8 := (Tn.refl _ _).grown HG8.out (fun k hk _ => hk)
      have HBN : Hid (Below w.heap.size w w8) := ((HBr.out.trans (HB3.out.mono HBr.out.size)).trans (HBE.out.mono (Nat.le_trans HBr.out.size HB3.out.size))).trans (hA.below (Nat.le_trans HBr.out.size (Nat.le_trans HB3.out.size HBE.out.size)) (fun k hk => HOW.out k hk))
      have HON : Hid (∀ q, v8.ownBlock = some q → w.heap.size ≤ q) := Lib.hid (fun k hk => by
        rcases HL8.out with e | e
        · exact HOW.out k (e ▸ hk)
        · rw [hk] at e
          have := Option.some.inj e
          have h1 := HBr.out.size
          have h2 := HB3.out.size
          have h3 := HBE.out.size
          have h4 : k = (w3.drew.alloc (.cells #[.slice uo un uc] 36)).heap.size := this
          omega)
      have HO9 : Hid (w8.ownsRow 0 36 1 v8 (j + 1) ((ua.drop q).take (j + 1))) := Lib.hid (by rw [HGET.out]; exact HO8.out)
      clear hA c4 e4 c4' e4' c5 e5
      go_wp2
      go_roundg gk2
      case measure => omega
      case rel => exact ⟨j + 1, by omega, congrArg (Value.int .i64) (by omega), HO9, HON, HBN⟩
    · have hjj : j = M := by omega
      subst hjj
      have d4 : decide ((j : Int) < most) = false ∨ decide (((r.low + q : Nat) : Int) + (j : Int) ≤ (sf : Int)) = false := by
        by_cases h1 : ((r.low + q : Nat) : Int) + (j : Int) ≤ (sf : Int)
        · exact .inl (decide_eq_false (fun e => hjM (hmd.2 ⟨h1, e⟩)))
        · exact .inr (decide_eq_false h1)
      cases d3 : decide (((r.low + q : Nat) : Int) + (j : Int) ≤ (sf : Int)) with
      | true =>
        have d4 : decide ((j : Int) < most) = false := d4.resolve_right (by rw [d3]; decide)
        have d3' : decide ((r.low : Int) + (q : Int) + (j : Int) ≤ (sf : Int)) = true := by rw [← d3, Int.natCast_add]
        go_wp2_with (go_at_call 54; (refine (HAS.out _ HLr.out).mono ?_); rintro e w3 ⟨rfl, hb3⟩; have HB3 := Lib.hid hb3; clear hb3)
        go_ret2
        try rw [if_neg HC.out]
        exact ⟨HBr.out.trans (HB3.out.mono HBr.out.size), _, rfl, own_below HO.out HB3.out, HOW.out⟩
      | false =>
        have d3' : decide ((r.low : Int) + (q : Int) + (j : Int) ≤ (sf : Int)) = false := by rw [← d3, Int.natCast_add]
        go_wp2_with (go_at_call 54; (refine (HAS.out _ HLr.out).mono ?_); rintro e w3 ⟨rfl, hb3⟩; have HB3 := Lib.hid hb3; clear hb3)
        go_ret2
        try rw [if_neg HC.out]
        exact ⟨HBr.out.trans (HB3.out.mono HBr.out.size), _, rfl, own_below HO.out HB3.out, HOW.out⟩
end
end Go.Proofs.YtkilkhnoldfhcaaGreatDoor
