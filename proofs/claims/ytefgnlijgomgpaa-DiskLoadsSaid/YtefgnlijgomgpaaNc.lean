/- disk.Load. Conditions: files whose bytes are few. -/
import Derived.Test.YtefgnlijgomgpaaNb
namespace Go.Proofs.Ytefgnlijgomgpaa
open Go.RowKit
/-- What the loading of files gives. -/
def Loads (l : List FV) (P : Nat → World → Prop) (e : Ending) (w' : World) : Prop := ∃ er : Nat, Chk l er ∧ ((er ≠ 0 ∧ e = .returned (.tuple #[.pointer none, .int .i64 (er : Int)])) ∨ (er = 0 ∧ ∃ a, e = .returned (.tuple #[ptr a, .int .i64 0]) ∧ P a w'))
theorem chk_ok {l : List FV} (h : Chk l 0) : good l l.length ∧ l.length ≤ 64 := by
  rcases h with ⟨h0, _⟩ | ⟨hg, he⟩
  · exact absurd rfl h0
  · refine ⟨hg, ?_⟩
    by_cases h1 : 64 < l.length
    · rw [if_pos h1] at he; cases he
    · omega
theorem good_mono {l : List FV} {i j : Nat} (h : good l j) (hij : i ≤ j) : good l i := fun k hk hki => h k hk (by omega)
set_option maxRecDepth 100000 in
set_option maxHeartbeats 4000000 in
theorem load_any {D : Nat → Prop} {w : World} {ao : Option Addr} {n cap : Nat} {l : List FV} (hs : SF D w ao n cap l) (hl : l.length ≤ 100000) (ht : totF l ≤ 4194304) :
    Calls Try.prog 20 #[.slice ao n cap] w fun e w' => Loads l (fun a w' => OneD w.heap.size w' a ⟨ents l, false, 0, 0⟩) e w' ∧ Below w.heap.size w w' := by
  obtain rfl : n = l.length := hs.len
  have HSF := Lib.hid hs
  have HTOT := Lib.hid ht
  clear hs ht
  go_enter Try.func20, Try.ntmps20
  go_upto_region 2 with (go_at_call 50; (refine (check_any HSF.out hl HTOT.out).mono ?_); rintro e w1 ⟨er, rfl, hck, hb⟩; have HCK := Lib.hid hck; have HB1 := Lib.hid hb; clear hck hb)
  by_cases her : er = 0
  · subst her
    obtain ⟨hgood, hl64⟩ := chk_ok HCK.out
    have HGD := Lib.hid hgood
    clear hgood
    go_wp2_with (go_at_call 12; (refine (new_any _).mono ?_); rintro e w2 ⟨rfl, hb, hd⟩; have HD2 := Lib.hid hd; have HB2 := Lib.hid hb; clear hd hb)
    have HB12 := Lib.hid (HB1.out.trans (HB2.out.mono HB1.out.size))
    have HD0 : Hid (OneD w.heap.size w2 (w1.heap.size + 1) ⟨ents (l.take 0), false, 0, 0⟩) := ⟨_, fun k hk => Nat.le_trans HB1.out.size hk.1, HD2.out⟩
    clear HB2 HD2 HB1
    go_loopw [7, 16] (fun _ i wr => ∃ j : Nat, j ≤ l.length ∧ i = .int .i64 j ∧ Hid (OneD w.heap.size wr (w1.heap.size + 1) ⟨ents (l.take j), false, 0, 0⟩) ∧ Hid (Below w.heap.size w wr)) (fun _ i _ => l.length - (intOf i).toNat)
    case atStart => exact ⟨0, Nat.zero_le _, rfl, HD0, HB12⟩
    case round =>
      obtain ⟨j, hj, rfl, HD, HB⟩ := hrel
      by_cases hlt : j < l.length
      · obtain ⟨b, off, rfl, _, f1, wf1⟩ := (HSF.out.below HB.out).at_ hlt
        have c0 := f1.c0
        have c2 := f1.c2
        obtain ⟨bo, bc, c1, s1⟩ := f1.c1
        have hdl := s1.lt
        have herr := HGD.out j hlt hlt
        obtain ⟨e1, e2, e3, e4⟩ := err_zero herr
        have HST : Hid (ents (l.take (j + 1)) = put (ents (l.take j)) l[j].name ⟨l[j].data, l[j].safe.toNat⟩) := ents_step hlt
        have hen := ents_take (l := l) hj (good_mono HGD.out hj)
        have hen1 := ents_take (l := l) (j := j + 1) (by omega) (good_mono HGD.out (by omega))
        have hle := totF_le l (j + 1)
        have hok := hen1.ok (n := 64) (by rw [List.length_take]; omega) (by have := HTOT.out; omega)
        have HOK := Lib.hid hok
        have hlr : (refs (ents (l.take j)) (fun _ => 0)).length < maxLen := by rw [length_refs, hen.len, List.length_take]; unfold maxLen; omega
        have hdt : l[j].data.length ≤ 4194304 := by
          have h1 := totF_take hlt
          have h2 := HTOT.out
          omega
        have HGN := Lib.hid (hen.none e2)
        obtain ⟨Sx, hSx, m, ρ, δ, hdk⟩ := HD.out
        have hnl : (l[j].name).length ≤ 281474976710656 := by unfold isNm at e1; simp at e1; omega
        generalize l[j] = p at *
        have hdl2 : p.data.length ≤ 140737488355328 := by omega
        have HLR : Hid ((refs (ents (l.take j)) ρ).length < maxLen) := by rw [length_refs] at hlr ⊢; exact hlr
        have HNL := Lib.hid hnl
        have HSB1 := Lib.hid s1
        have HDK := Lib.hid hdk
        have HSX := Lib.hid hSx
        have HSAFE : Hid (((p.safe.toNat : Nat) : Int) = p.safe) := Int.toNat_of_nonneg e3
        clear hdk hSx HD f1 wf1 s1 herr e1 e2 e3 e4 hen hen1 hle hok hlr hdt hnl
        go_upto_region 8 with (fail)
        have HBB := Lib.hid (below1 wr (.cells #[nmv p.name, .slice bo p.data.length bc, .int .i64 p.safe] 43))
        have HBX := Lib.hid (heap_alloc_new wr (.cells #[nmv p.name, .slice bo p.data.length bc, .int .i64 p.safe] 43))
        have hbz : wr.heap.size < (wr.alloc (.cells #[nmv p.name, .slice bo p.data.length bc, .int .i64 p.safe] 43)).heap.size := by simp
        have HBS1 := Lib.hid hbz
        clear hbz
        generalize wr.alloc (.cells #[nmv p.name, .slice bo p.data.length bc, .int .i64 p.safe] 43) = wB at *
        obtain ⟨hq0, hq1, hq2⟩ := cells43 HBX.out
        have HQ0 := Lib.hid hq0
        have HQ1 := Lib.hid hq1
        have HQ2 := Lib.hid hq2
        clear c0 c1 c2 hq0 hq1 hq2
        have c0 : wB.drew.cell? ⟨wr.heap.size, 0, none⟩ = some (nmv p.name) := HQ0.out
        have c1 : wB.drew.cell? ⟨wr.heap.size, 1, none⟩ = some (.slice bo p.data.length bc) := HQ1.out
        have c2 : wB.drew.cell? ⟨wr.heap.size, 2, none⟩ = some (.int .i64 p.safe) := HQ2.out
        have HBS : Hid (wr.heap.size < wB.drew.heap.size) := HBS1.out
        have HSB := Lib.hid ((HSB1.out.below HBB.out).below (Below.refl _ wB).drew)
        have HDB := Lib.hid ((HDK.out.below HBB.out).below (Below.refl _ wB).drew)
        have HMW : Hid (¬ wr.heap.size = m) := fun e => by have := HDK.out.lt m HDK.out.sm; omega
        refine wp_region_held (S := (fun w' => w'.cell? ⟨wr.heap.size, 0, none⟩ = some (nmv p.name) ∧ w'.cell? ⟨wr.heap.size, 1, none⟩ = some (.slice bo p.data.length bc) ∧ w'.cell? ⟨wr.heap.size, 2, none⟩ = some (.int .i64 p.safe))) (by kernel_rfl) ?_
        change wpAnyH _ _ _ _ _ _ _ _ (World.drew _)
        refine wpAnyH_take (i := 0) (v := ?vf_0) rfl (by kernel_rfl) (by kernel_rfl) (by kernel_rfl) (fun _ _ _ h => h) (Or.inl ⟨by rfl, ?yf_0⟩) ⟨c0, c1, c2⟩ ?rf_0
        case yf_0 => (intro W hSw; (try dsimp only at hSw); obtain ⟨q0, q1, q2⟩ := hSw; first | (go_simp; done) | (go_simp; with_reducible rfl))
        try go_simp
        refine wpAnyH_take (i := 1) (v := ?vf_1) rfl (by kernel_rfl) (by kernel_rfl) (by kernel_rfl) (fun _ _ _ h => h) (Or.inl ⟨by rfl, ?yf_1⟩) ⟨c0, c1, c2⟩ ?rf_1
        case yf_1 => (intro W hSw; (try dsimp only at hSw); obtain ⟨q0, q1, q2⟩ := hSw; first | (go_simp; done) | (go_simp; with_reducible rfl))
        try go_simp
        refine wpAnyH_take (i := 2) (v := ?vf_2) rfl (by kernel_rfl) (by kernel_rfl) (by kernel_rfl) (fun _ _ _ h => h) (Or.inl ⟨by rfl, ?yf_2⟩) ⟨c0, c1, c2⟩ ?rf_2
        case yf_2 => (intro W hSw; (try dsimp only at hSw); obtain ⟨q0, q1, q2⟩ := hSw; first | (go_simp; done) | (go_simp; with_reducible rfl))
        try go_simp
        refine wpAnyH_take (i := 3) (v := ?vf_3) rfl (by kernel_rfl) (by kernel_rfl) (by kernel_rfl) (fun _ _ _ h => h) (Or.inl ⟨by rfl, ?yf_3⟩) ⟨c0, c1, c2⟩ ?rf_3
        case yf_3 => (intro W hSw; (try dsimp only at hSw); obtain ⟨q0, q1, q2⟩ := hSw; first | (go_simp; done) | (go_simp; with_reducible rfl))
        try go_simp
        refine wpAnyH_take (i := 4) (v := ?vf_4) rfl (by kernel_rfl) (by kernel_rfl) (by kernel_rfl) (fun _ _ _ h => h) (Or.inl ⟨by rfl, ?yf_4⟩) ⟨c0, c1, c2⟩ ?rf_4
        case yf_4 => (intro W hSw; (try dsimp only at hSw); obtain ⟨q0, q1, q2⟩ := hSw; first | (go_simp; done) | (go_simp; with_reducible rfl))
        try go_simp
        refine wpAnyH_take (i := 6) (v := ?vf_6) rfl (by kernel_rfl) (by kernel_rfl) (by kernel_rfl) (fun _ _ _ h => h) (Or.inl ⟨by rfl, ?yf_6⟩) ⟨c0, c1, c2⟩ ?rf_6
        case yf_6 => (intro W hSw; (try dsimp only at hSw); obtain ⟨q0, q1, q2⟩ := hSw; first | (go_simp; done) | (go_simp; with_reducible rfl))
        try go_simp
        refine wpAnyH_take (i := 7) (v := ?vf_7) rfl (by kernel_rfl) (by kernel_rfl) (by kernel_rfl) (fun _ _ _ h => h) (Or.inl ⟨by rfl, ?yf_7⟩) ⟨c0, c1, c2⟩ ?rf_7
        case yf_7 => (intro W hSw; (try dsimp only at hSw); obtain ⟨q0, q1, q2⟩ := hSw; first | (go_simp; done) | (go_simp; with_reducible rfl))
        try go_simp
        refine wpAnyH_ready (rs := [5]) (by kernel_rfl) (by simp) ?_
        refine AllReadyH.cons rfl (fun K hK => ?_) AllReadyH.nil
        go_simp
        (go_wp2_with (first | (go_at_call 48; (refine (clone_any HSB.out hdl2).mono ?_); rintro e w4 ⟨v4, rfl, ho, hb⟩; obtain ⟨co, cc, rfl⟩ := own_slice ho; have HO4 := Lib.hid ho; have HB4 := Lib.hid hb; have p0 := (hb.cell (p := ⟨wr.heap.size, 0, none⟩) HBS.out).trans HQ0.out; have p1 := (hb.cell (p := ⟨wr.heap.size, 1, none⟩) HBS.out).trans HQ1.out; have p2 := (hb.cell (p := ⟨wr.heap.size, 2, none⟩) HBS.out).trans HQ2.out; have HZ4 := Lib.hid (Nat.lt_of_lt_of_le HBS.out hb.size); clear ho hb)))
        refine hK.out _ _ ⟨p0, p1, p2⟩ (fun _ => ?_)
        clear hK K
        try go_simp
        refine wpAnyH_take (i := 8) (v := ?vf_8) rfl (by kernel_rfl) (by kernel_rfl) (by kernel_rfl) (fun _ _ _ h => h) (Or.inl ⟨by rfl, ?yf_8⟩) ⟨p0, p1, p2⟩ ?rf_8
        case yf_8 => (intro W hSw; (try dsimp only at hSw); obtain ⟨q0, q1, q2⟩ := hSw; first | (go_simp; done) | (go_simp; with_reducible rfl))
        try go_simp
        have r0 := ((below1 w4 (.cells #[.slice co p.data.length cc, .int .i64 p.safe] 71)).cell (p := ⟨wr.heap.size, 0, none⟩) HZ4.out).trans p0
        have r1 := ((below1 w4 (.cells #[.slice co p.data.length cc, .int .i64 p.safe] 71)).cell (p := ⟨wr.heap.size, 1, none⟩) HZ4.out).trans p1
        have r2 := ((below1 w4 (.cells #[.slice co p.data.length cc, .int .i64 p.safe] 71)).cell (p := ⟨wr.heap.size, 2, none⟩) HZ4.out).trans p2
        refine wpAnyH_ready (rs := [9]) (by kernel_rfl) (by simp) ?_
        refine AllReadyH.cons rfl (fun K hK => ?_) AllReadyH.nil
        go_simp
        refine hK.out _ _ ⟨r0, r1, r2⟩ (fun _ => ?_)
        clear hK K
        try go_simp
        have HBX4 := Lib.hid (below1 w4 (.cells #[.slice co p.data.length cc, .int .i64 p.safe] 71))
        have HNW4 := Lib.hid (heap_alloc_new w4 (.cells #[.slice co p.data.length cc, .int .i64 p.safe] 71))
        have hz5 : w4.heap.size < (w4.alloc (.cells #[.slice co p.data.length cc, .int .i64 p.safe] 71)).heap.size := by simp
        have HZ5 := Lib.hid hz5
        clear hz5
        generalize w4.alloc (.cells #[.slice co p.data.length cc, .int .i64 p.safe] 71) = wX at *
        have HDX := Lib.hid ((HDB.out.below HB4.out).below HBX4.out)
        have HZX : Hid (wr.heap.size < wX.heap.size) := Nat.lt_trans HZ4.out HZ5.out
        refine wpAnyH_ready (rs := [10]) (by kernel_rfl) (by simp) ?_
        refine AllReadyH.cons rfl (fun K hK => ?_) AllReadyH.nil
        go_simp
        (go_wp2_with (first | (go_at_call 51; (refine (put_walk (L := refs (ents (l.take j)) ρ) HDX.out.c0 HDX.out.map HLR.out HNL.out _).mono ?_); rintro e w5 ⟨rfl, w51, hb2, ht2, hm2⟩; have HB51 := Lib.hid hb2; have HT51 := Lib.hid ht2; have HM51 := Lib.hid hm2; have s0 := ht2.cell ((hb2.cell (p := ⟨wr.heap.size, 0, none⟩) HZX.out).trans r0) HMW.out; have s1 := ht2.cell ((hb2.cell (p := ⟨wr.heap.size, 1, none⟩) HZX.out).trans r1) HMW.out; have s2 := ht2.cell ((hb2.cell (p := ⟨wr.heap.size, 2, none⟩) HZX.out).trans r2) HMW.out; clear hb2 ht2 hm2)))
        refine hK.out _ _ ⟨s0, s1, s2⟩ (fun _ => ?_)
        clear hK K
        try go_simp
        refine wpAnyH_done (by kernel_rfl) ?_ _
        have hbel : Below w.heap.size w wX := HB.out.trans ((HBB.out.trans (((Below.refl _ wB).drew.trans (HB4.out.trans (HBX4.out.mono HB4.out.size))).mono HBB.out.size)).mono HB.out.size)
        have h51 := Nat.le_trans HB51.out.size HT51.out.size
        have hxs := hbel.size
        have hnew : ∀ k, (Value.slice co p.data.length cc).ownBlock = some k → wB.heap.size ≤ k ∧ k < w4.heap.size := fun k hk => HO4.out.lt k hk
        have hwr := HBS1.out
        have hwb : wB.heap.size ≤ w4.heap.size := HB4.out.size
        have hdn := HDX.out.put_of (x := ⟨p.data, p.safe.toNat⟩) (v := .slice co p.data.length cc) (b := w4.heap.size) (d' := ⟨ents (l.take (j + 1)), false, 0, 0⟩) HB51.out HT51.out HM51.out (by rw [HSAFE.out]; exact HNW4.out) (own_mono (own_below HO4.out HBX4.out) (Nat.zero_le _))
          (fun q hq _ e => by have := HDK.out.lt _ (HDK.out.sf q hq); omega) (fun q hq _ k hk e => by have := HDK.out.lt _ (HDK.out.sr q hq k e); have := (hnew k hk).1; omega)
          HOK.out HST.out rfl rfl rfl (U := fun k => Sx k ∨ (wB.heap.size ≤ k ∧ k < w5.heap.size)) (fun k hk => .inl hk) (.inr ⟨hwb, by have := HZ5.out; omega⟩) (fun k hk => .inr ⟨(hnew k hk).1, by have := (hnew k hk).2; have := HZ5.out; omega⟩)
          (fun k hk => by
            rcases hk with hk | hk
            · have := HDK.out.lt k hk; have := HZ5.out; omega
            · exact hk.2)
        have hmw : w.heap.size ≤ m := HSX.out m HDK.out.sm
        have HB6 : Hid (Below w.heap.size w w5) := (hbel.trans (HB51.out.mono hbel.size)).trans (HT51.out.below (Nat.le_trans hbel.size HB51.out.size) (fun k hk => by subst hk; exact hmw))
        have HD6 : Hid (OneD w.heap.size w5 (w1.heap.size + 1) ⟨ents (l.take (j + 1)), false, 0, 0⟩) := ⟨_, fun k hk => by
          rcases hk with hk | hk
          · exact HSX.out k hk
          · have := HB.out.size; omega, _, _, _, hdn⟩
        clear hdn hnew hbel r0 r1 r2 p0 p1 p2 c0 c1 c2 s0 s1 s2
        go_wp2
        go_roundw
        case rel => exact ⟨j + 1, by omega, by go_num, HD6, HB6⟩
        case measure => simp [intOf]; omega
      · obtain rfl : j = l.length := by omega
        rw [List.take_length] at HD
        go_wp2
        go_ret2
        exact ⟨⟨0, HCK.out, .inr ⟨rfl, _, rfl, HD.out⟩⟩, HB.out⟩
  · have her2 : ((er : Int) == 0) = false := by simpa using her
    go_wp2
    go_ret2
    exact ⟨⟨er, HCK.out, .inl ⟨her, rfl⟩⟩, HB1.out⟩
end Go.Proofs.Ytefgnlijgomgpaa
