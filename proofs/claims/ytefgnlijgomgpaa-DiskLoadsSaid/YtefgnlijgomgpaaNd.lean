/- raceref6.Load. Conditions: files whose bytes are few; not more than 1000. -/
import Derived.Test.YtefgnlijgomgpaaNc
import Derived.Test.YtefgnlijgomgpaaMm
namespace Go.Proofs.Ytefgnlijgomgpaa
open Go.RowKit
theorem rput_int {C : Nat → Prop} {w : World} {a : Nat} {d : Dk} {v : Value} {us : List (Nm × Value × Int)} {s : Nm} {x : Fi} {z : Int} {u : Value} (h : RAt C w a d v us) (hn : get d.f s = none) (hu : w.ownsRow 0 5 1 u x.data.length (bys x.data)) (hok : Okr { d with f := put d.f s x }) (hz : ((x.safe : Nat) : Int) = z) :
    Calls Try.prog 53 #[ptr a, .agg #[nmv s, u, .int .i64 z]] w fun e w' => e = .returned (.tuple #[]) ∧ RK (Gw (fun k => C k ∨ u.ownBlock = some k) w w') w' a { d with f := put d.f s x } ∧ Tn C w w' := hz ▸ rput_any h hn hu hok
set_option maxRecDepth 100000 in
set_option maxHeartbeats 4000000 in
theorem rload_any {D : Nat → Prop} {w : World} {ao : Option Addr} {n cap : Nat} {l : List FV} (hs : SF D w ao n cap l) (hl : l.length ≤ 1000) (ht : totF l ≤ 4194304) :
    Calls Try.prog 21 #[.slice ao n cap] w fun e w' => Loads l (fun a w' => ∃ C, (∀ k, C k → w.heap.size ≤ k) ∧ RK C w' a ⟨ents l, false, 0, 0⟩) e w' ∧ Below w.heap.size w w' := by
  obtain rfl : n = l.length := hs.len
  have HSF := Lib.hid hs
  have HTOT := Lib.hid ht
  clear hs ht
  go_enter Try.func21, Try.ntmps21
  go_wp2
  have hr0 : RK (· = w.heap.size) (w.alloc (.cells #[.slice none 0 0, .bool false, .int .i64 0, .int .i64 0] 30)) w.heap.size ⟨ents (l.take 0), false, 0, 0⟩ := ⟨.slice none 0 0, [], ok_zero, Nat.zero_le _, heap_alloc_new w _, FO.nil _ _, rfl, fun k hk => by subst hk; simp⟩
  have HR0 : Hid (∃ C, (∀ k, C k → w.heap.size ≤ k) ∧ RK C (w.alloc (.cells #[.slice none 0 0, .bool false, .int .i64 0, .int .i64 0] 30)) w.heap.size ⟨ents (l.take 0), false, 0, 0⟩) := ⟨_, fun k hk => Nat.le_of_eq hk.symm, hr0⟩
  have HB0 := Lib.hid (below1 w (.cells #[.slice none 0 0, .bool false, .int .i64 0, .int .i64 0] 30))
  clear hr0
  go_loopw [5, 6] (fun i _ wr => ∃ j : Nat, j ≤ l.length ∧ i = .int .i64 j ∧ Hid (good l j) ∧ Hid (∃ C, (∀ k, C k → w.heap.size ≤ k) ∧ RK C wr w.heap.size ⟨ents (l.take j), false, 0, 0⟩) ∧ Hid (Below w.heap.size w wr)) (fun i _ _ => l.length - (intOf i).toNat)
  case atStart => exact ⟨0, Nat.zero_le _, rfl, fun _ _ h => absurd h (Nat.not_lt_zero _), HR0, HB0⟩
  case round =>
    obtain ⟨j, hj, rfl, HG, HD, HB⟩ := hrel
    by_cases hlt : j < l.length
    · obtain ⟨b, off, rfl, _, f1, wf1⟩ := (HSF.out.below HB.out).at_ hlt
      have c0 := f1.c0
      have c2 := f1.c2
      obtain ⟨bo, bc, c1, s1⟩ := f1.c1
      have hdl := s1.lt
      have HGS : Hid (errOf (l.take j) l[j] = 0 → good l (j + 1)) := fun he => good_succ HG.out hlt he
      have HBAD : Hid (∀ e : Nat, e ≠ 0 → errOf (l.take j) l[j] = e → Chk l e) := fun e h0 he => .inl ⟨h0, j, hlt, HG.out, he⟩
      have HST : Hid (ents (l.take (j + 1)) = put (ents (l.take j)) l[j].name ⟨l[j].data, l[j].safe.toNat⟩) := ents_step hlt
      have hen := ents_take (l := l) hj HG.out
      have HEN := Lib.hid hen
      have HOK1 : Hid (errOf (l.take j) l[j] = 0 → Okr ⟨ents (l.take (j + 1)), false, 0, 0⟩) := fun he => by
        have hen1 := ents_take (l := l) (j := j + 1) (by omega) (good_succ HG.out hlt he)
        have hle := totF_le l (j + 1)
        exact hen1.ok (by rw [List.length_take]; omega) (by have := HTOT.out; omega)
      have hdt : l[j].data.length ≤ 4194304 := by
        have h1 := totF_take hlt
        have h2 := HTOT.out
        have h3 := totF_le l (j + 1)
        omega
      obtain ⟨C, hC, v, us, hrk⟩ := HD.out
      generalize l[j] = p at *
      have hdl2 : p.data.length ≤ 140737488355328 := by omega
      have HNM := Lib.hid wf1.name
      have HSB1 := Lib.hid s1
      have HRK := Lib.hid hrk
      have HCW := Lib.hid hC
      clear hrk hC HD f1 wf1 s1 hen hdt
      go_upto_region 6 with (fail)
      have HBB := Lib.hid (below1 wr (.cells #[nmv p.name, .slice bo p.data.length bc, .int .i64 p.safe] 43))
      have HBX := Lib.hid (heap_alloc_new wr (.cells #[nmv p.name, .slice bo p.data.length bc, .int .i64 p.safe] 43))
      have hbz : wr.heap.size < (wr.alloc (.cells #[nmv p.name, .slice bo p.data.length bc, .int .i64 p.safe] 43)).heap.size := by simp
      have HBS1 := Lib.hid hbz
      clear hbz
      generalize wr.alloc (.cells #[nmv p.name, .slice bo p.data.length bc, .int .i64 p.safe] 43) = wB at *
      obtain ⟨b0, b1, b2⟩ := cells43 HBX.out
      have HQ0 := Lib.hid b0
      have HQ1 := Lib.hid b1
      have HQ2 := Lib.hid b2
      have HRK2 := Lib.hid (HRK.out.below HBB.out)
      have HB2 := Lib.hid (HB.out.trans (HBB.out.mono HB.out.size))
      clear c0 c1 c2
      cases hnm : isNm p.name with
      | false =>
        have HN := Lib.hid hnm
        have HC := HBAD.out 10 (by decide) (by unfold errOf; rw [hnm]; rfl)
        clear hnm
        go_wp2_with (go_at_call 52; (with_reducible refine (rname_any _ _ HNM.out).mono ?_); rw [HN.out]; rintro e w' ⟨rfl, rfl⟩)
        go_ret2
        exact ⟨⟨10, HC, .inl ⟨by decide, rfl⟩⟩, HB2.out⟩
      | true =>
      have HN := Lib.hid hnm
      cases hany : (l.take j).any fun q => q.name == p.name with
      | true =>
        have HC := HBAD.out 9 (by decide) (by unfold errOf; rw [hnm, hany]; rfl)
        have hhas := HEN.out.has p.name
        rw [hany, has_get] at hhas
        obtain ⟨y, hy⟩ := Option.isSome_iff_exists.1 hhas
        obtain ⟨k1, hk1, hs1, hne1⟩ := get_pos HEN.out.rising hy
        have HS1 := Lib.hid hs1
        have HNE1 := Lib.hid hne1
        clear hnm hany hhas hy hs1 hne1
        go_wp2_with (first
          | (go_at_call 52; (with_reducible refine (rname_any _ _ HNM.out).mono ?_); rw [HN.out]; rintro e w' ⟨rfl, rfl⟩)
          | (go_at_call 49; (with_reducible refine (rat_some HRK2.out hk1 HS1.out HNE1.out).mono ?_); rintro e w' ⟨rfl, rfl⟩))
        go_ret2
        exact ⟨⟨9, HC, .inl ⟨by decide, rfl⟩⟩, HB2.out⟩
      | false =>
      have HGN := Lib.hid (HEN.out.none hany)
      by_cases hsf : p.safe < 0 ∨ (p.data.length : Int) < p.safe
      · have HC := HBAD.out 1 (by decide) (by unfold errOf; rw [hnm, hany, if_pos hsf]; rfl)
        clear hnm hany
        by_cases hs0 : p.safe < 0
        · clear hsf
          go_wp2_with (first
            | (go_at_call 52; (with_reducible refine (rname_any _ _ HNM.out).mono ?_); rw [HN.out]; rintro e w' ⟨rfl, rfl⟩)
            | (go_at_call 49; (with_reducible refine (rat_none HRK2.out HGN.out).mono ?_); rintro e w' ⟨rfl, rfl⟩))
          go_ret2
          exact ⟨⟨1, HC, .inl ⟨by decide, rfl⟩⟩, HB2.out⟩
        · have hs1 : (p.data.length : Int) < p.safe := by omega
          have hd0 : decide (p.safe < 0) = false := decide_eq_false hs0
          clear hsf
          go_wp2_with (first
            | (go_at_call 52; (with_reducible refine (rname_any _ _ HNM.out).mono ?_); rw [HN.out]; rintro e w' ⟨rfl, rfl⟩)
            | (go_at_call 49; (with_reducible refine (rat_none HRK2.out HGN.out).mono ?_); rintro e w' ⟨rfl, rfl⟩))
          go_ret2
          exact ⟨⟨1, HC, .inl ⟨by decide, rfl⟩⟩, HB2.out⟩
      · have he0 : errOf (l.take j) p = 0 := by unfold errOf; rw [hnm, hany, if_neg hsf]; rfl
        have HG2 := Lib.hid (HGS.out he0)
        have hok := HOK1.out he0
        rw [HST.out] at hok
        have HOK := Lib.hid hok
        have hs0 : ¬ p.safe < 0 := by omega
        have hs1 : ¬ (p.data.length : Int) < p.safe := by omega
        have hd0 : decide (p.safe < 0) = false := decide_eq_false hs0
        have hd1 : decide ((p.data.length : Int) < p.safe) = false := decide_eq_false hs1
        have HSAFE : Hid (((p.safe.toNat : Nat) : Int) = p.safe) := Int.toNat_of_nonneg (by omega)
        clear hnm hany hsf he0 hok
        go_upto_region 12 with (first
          | (go_at_call 52; (with_reducible refine (rname_any _ _ HNM.out).mono ?_); rw [HN.out]; rintro e w' ⟨rfl, rfl⟩)
          | (go_at_call 49; (with_reducible refine (rat_none HRK2.out HGN.out).mono ?_); rintro e w' ⟨rfl, rfl⟩))
        clear b0 b1 b2
        have c0 : wB.drew.cell? ⟨wr.heap.size, 0, none⟩ = some (nmv p.name) := HQ0.out
        have c1 : wB.drew.cell? ⟨wr.heap.size, 1, none⟩ = some (.slice bo p.data.length bc) := HQ1.out
        have c2 : wB.drew.cell? ⟨wr.heap.size, 2, none⟩ = some (.int .i64 p.safe) := HQ2.out
        have HBS : Hid (wr.heap.size < wB.drew.heap.size) := HBS1.out
        have HSB := Lib.hid ((HSB1.out.below HBB.out).below (Below.refl _ wB).drew)
        have HRB := Lib.hid (HRK2.out.below (Below.refl _ wB).drew)
        have HMW : Hid (¬ C wr.heap.size) := fun e => by have := HRK.out.lt _ e; omega
        refine wp_region_held (S := (fun w' => w'.cell? ⟨wr.heap.size, 0, none⟩ = some (nmv p.name) ∧ w'.cell? ⟨wr.heap.size, 1, none⟩ = some (.slice bo p.data.length bc) ∧ w'.cell? ⟨wr.heap.size, 2, none⟩ = some (.int .i64 p.safe))) (by kernel_rfl) ?_
        change wpAnyH _ _ _ _ _ _ _ _ (World.drew _)
        refine wpAnyH_take (i := 0) (v := ?vf_0) rfl (by kernel_rfl) (by kernel_rfl) (by kernel_rfl) (fun _ _ _ h => h) (Or.inl ⟨by rfl, ?yf_0⟩) ⟨c0, c1, c2⟩ ?rf_0
        case yf_0 => (intro W hSw; (try dsimp only at hSw); obtain ⟨q0, q1, q2⟩ := hSw; first | (go_simp; done) | (go_simp; with_reducible rfl))
        try go_simp
        refine wpAnyH_take (i := 1) (v := ?vf_1) rfl (by kernel_rfl) (by kernel_rfl) (by kernel_rfl) (fun _ _ _ h => h) (Or.inl ⟨by rfl, ?yf_1⟩) ⟨c0, c1, c2⟩ ?rf_1
        case yf_1 => (intro W hSw; (try dsimp only at hSw); obtain ⟨q0, q1, q2⟩ := hSw; first | (go_simp; done) | (go_simp; with_reducible rfl))
        try go_simp
        refine wpAnyH_take (i := 2) (v := ?vf_2) rfl (by kernel_rfl) (by kernel_rfl) (by kernel_rfl) (fun _ _ _ h => h) (Or.inl ⟨by rfl, ?yf_2⟩) ⟨c0, c1, c2⟩ ?rf_2
        case yf_2 => (intro W hSw; (try dsimp only at hSw); obtain ⟨q0, q1, q2⟩ := hSw; first | (go_simp; done) | (go_simp; with_reducible rfl))
        try go_simp
        refine wpAnyH_take (i := 3) (v := ?vf_3) rfl (by kernel_rfl) (by kernel_rfl) (by kernel_rfl) (fun _ _ _ h => h) (Or.inl ⟨by rfl, ?yf_3⟩) ⟨c0, c1, c2⟩ ?rf_3
        case yf_3 => (intro W hSw; (try dsimp only at hSw); obtain ⟨q0, q1, q2⟩ := hSw; first | (go_simp; done) | (go_simp; with_reducible rfl))
        try go_simp
        refine wpAnyH_take (i := 4) (v := ?vf_4) rfl (by kernel_rfl) (by kernel_rfl) (by kernel_rfl) (fun _ _ _ h => h) (Or.inl ⟨by rfl, ?yf_4⟩) ⟨c0, c1, c2⟩ ?rf_4
        case yf_4 => (intro W hSw; (try dsimp only at hSw); obtain ⟨q0, q1, q2⟩ := hSw; first | (go_simp; done) | (go_simp; with_reducible rfl))
        try go_simp
        refine wpAnyH_take (i := 6) (v := ?vf_6) rfl (by kernel_rfl) (by kernel_rfl) (by kernel_rfl) (fun _ _ _ h => h) (Or.inl ⟨by rfl, ?yf_6⟩) ⟨c0, c1, c2⟩ ?rf_6
        case yf_6 => (intro W hSw; (try dsimp only at hSw); obtain ⟨q0, q1, q2⟩ := hSw; first | (go_simp; done) | (go_simp; with_reducible rfl))
        try go_simp
        refine wpAnyH_take (i := 7) (v := ?vf_7) rfl (by kernel_rfl) (by kernel_rfl) (by kernel_rfl) (fun _ _ _ h => h) (Or.inl ⟨by rfl, ?yf_7⟩) ⟨c0, c1, c2⟩ ?rf_7
        case yf_7 => (intro W hSw; (try dsimp only at hSw); obtain ⟨q0, q1, q2⟩ := hSw; first | (go_simp; done) | (go_simp; with_reducible rfl))
        try go_simp
        refine wpAnyH_ready (rs := [5]) (by kernel_rfl) (by simp) ?_
        refine AllReadyH.cons rfl (fun K hK => ?_) AllReadyH.nil
        go_simp
        (go_wp2_with (first | (go_at_call 19; (refine (copyBytes_any HSB.out hdl2).mono ?_); rintro e w4 ⟨co, cc, rfl, ho, hb⟩; have HO4 := Lib.hid ho; have HB4 := Lib.hid hb; have HRX := Lib.hid (HRB.out.below hb); have HZX := Lib.hid (Nat.lt_of_lt_of_le HBS.out hb.size); have p0 := (hb.cell (p := ⟨wr.heap.size, 0, none⟩) HBS.out).trans HQ0.out; have p1 := (hb.cell (p := ⟨wr.heap.size, 1, none⟩) HBS.out).trans HQ1.out; have p2 := (hb.cell (p := ⟨wr.heap.size, 2, none⟩) HBS.out).trans HQ2.out; clear ho hb)))
        refine hK.out _ _ ⟨p0, p1, p2⟩ (fun _ => ?_)
        clear hK K
        try go_simp
        refine wpAnyH_take (i := 8) (v := ?vf_8) rfl (by kernel_rfl) (by kernel_rfl) (by kernel_rfl) (fun _ _ _ h => h) (Or.inl ⟨by rfl, ?yf_8⟩) ⟨p0, p1, p2⟩ ?rf_8
        case yf_8 => (intro W hSw; (try dsimp only at hSw); obtain ⟨q0, q1, q2⟩ := hSw; first | (go_simp; done) | (go_simp; with_reducible rfl))
        try go_simp
        refine wpAnyH_ready (rs := [9]) (by kernel_rfl) (by simp) ?_
        refine AllReadyH.cons rfl (fun K hK => ?_) AllReadyH.nil
        go_simp
        (go_wp2_with (first | (go_at_call 53; (refine (rput_int HRX.out HGN.out (own_mono HO4.out (Nat.zero_le _)) HOK.out HSAFE.out).mono ?_); rintro e w5 ⟨rfl, hr, ht⟩; have HR5 := Lib.hid hr; have HT5 := Lib.hid ht; have s0 := ht.cell p0 HMW.out; have s1 := ht.cell p1 HMW.out; have s2 := ht.cell p2 HMW.out; clear hr ht)))
        refine hK.out _ _ ⟨s0, s1, s2⟩ (fun _ => ?_)
        clear hK K
        try go_simp
        refine wpAnyH_done (by kernel_rfl) ?_ _
        have hb4 : Below w.heap.size w w4 := HB2.out.trans (((Below.refl _ wB).drew.trans HB4.out).mono HB2.out.size)
        have HB6 : Hid (Below w.heap.size w w5) := hb4.trans (HT5.out.below hb4.size HCW.out)
        have hnew : ∀ k, (Value.slice co p.data.length cc).ownBlock = some k → wB.heap.size ≤ k := fun k hk => (HO4.out.lt k hk).1
        have hwb := HB2.out.size
        have hr5 := HR5.out
        have HR6 : Hid (∃ C, (∀ k, C k → w.heap.size ≤ k) ∧ RK C w5 w.heap.size ⟨ents (l.take (j + 1)), false, 0, 0⟩) := by
          refine ⟨_, fun k hk => ?_, by rw [HST.out]; exact hr5⟩
          rcases hk with (hk | hk) | hk
          · exact HCW.out k hk
          · exact Nat.le_trans hwb (hnew k hk)
          · exact Nat.le_trans hb4.size hk.1
        clear hr5 hnew hb4 p0 p1 p2 c0 c1 c2 s0 s1 s2
        go_wp2
        go_roundw
        case rel => exact ⟨j + 1, by omega, by go_num, HG2, HR6, HB6⟩
        case measure => simp [intOf]; omega
    · obtain rfl : j = l.length := by omega
      rw [List.take_length] at HD
      have hen := ents_take (l := l) (Nat.le_refl _) HG.out
      rw [List.take_length] at hen
      have htf : totF (fvs (ents l)) = totF l := by rw [totF_fvs, hen.tot]
      have HTF := Lib.hid htf
      have hroom := HTOT.out
      obtain ⟨C, hC, v, us, hrk⟩ := HD.out
      have HRK := Lib.hid hrk
      have HC := Lib.hid hC
      clear hrk hC HD hen htf
      by_cases hmany : 64 < l.length
      · have hm64 : (64 : Int) < (l.length : Int) := by omega
        go_wp2
        go_ret2
        exact ⟨⟨3, .inr ⟨HG.out, by rw [if_pos hmany]⟩, .inl ⟨by decide, rfl⟩⟩, HB.out⟩
      · have hm64 : ¬ (64 : Int) < (l.length : Int) := by omega
        have hnf : ¬ (4194304 : Int) < (totF l : Int) := by omega
        go_wp2_with (go_at_call 47; (with_reducible refine (rsize_any HRK.out).mono ?_); rw [HTF.out]; rintro e w' ⟨rfl, rfl⟩)
        go_ret2
        exact ⟨⟨0, .inr ⟨HG.out, by rw [if_neg hmany, if_neg (by omega)]⟩, .inr ⟨rfl, _, rfl, C, HC.out, v, us, HRK.out⟩⟩, HB.out⟩
end Go.Proofs.Ytefgnlijgomgpaa
