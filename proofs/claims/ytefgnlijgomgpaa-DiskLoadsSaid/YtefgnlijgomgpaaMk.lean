/- raceref6.Disk: Crash. Conditions: none of its own. -/
import Derived.Test.YtefgnlijgomgpaaMj
namespace Go.Proofs.Ytefgnlijgomgpaa
open Go.RowKit
theorem get_tearN_at {picks : List Int} {f : Ent Fi} {k : Nat} (hk : k < f.length) : ∃ h : k < (tearN picks f k).length, (tearN picks f k)[k] = f[k] := by
  have hl : (tearN picks f k).length = f.length := by rw [← length_names, names_tearN, length_names]
  refine ⟨by rw [hl]; exact hk, ?_⟩
  rw [List.getElem_eq_iff]
  unfold tearN
  have h1 : (tear picks 0 (f.take k)).length = k := by rw [length_tear, List.length_take]; omega
  rw [List.getElem?_append_right (by omega), h1, List.getElem?_drop]
  simp [hk]
section
variable {C D S : Nat → Prop} {w w' : World} {a : Nat} {d : Dk} {v : Value} {us : List (Nm × Value × Int)} {s : Nm} {x : Fi}
theorem _root_.Go.World.ownsRow.drewn {w : World} {B n : Nat} {u : Value} {xs : List Value} (h : w.ownsRow B 5 1 u n xs) : w.drew.ownsRow B 5 1 u n xs := own_below h (Below.refl _ _).drew
theorem gw_trans {w1 w2 w3 : World} (h12 : w1.heap.size ≤ w2.heap.size) (h23 : w2.heap.size ≤ w3.heap.size) {j : Nat} (hj : Gw (Gw C w1 w2) w2 w3 j) : Gw C w1 w3 j := by
  rcases hj with (hj | hj) | hj
  · exact .inl hj
  · exact .inr ⟨hj.1, by omega⟩
  · exact .inr ⟨by omega, hj.2⟩
set_option maxRecDepth 100000 in
set_option maxHeartbeats 8000000 in
theorem rcrash_any {po : Option Addr} {pn pc : Nat} {picks : List Int} {E : Nat → Prop} (h : RAt C w a d v us) (hp : SI E w po pn pc picks) (hE : ∀ k, E k → ¬ C k) :
    Calls Try.prog 44 #[ptr a, .slice po pn pc] w fun e w' => e = .returned (.tuple #[]) ∧ RK (Gw C w w') w' a (d.crash picks) ∧ Tn C w w' := by
  obtain rfl : pn = picks.length := hp.len
  have H := Lib.hid h
  have HP := Lib.hid hp
  have HE := Lib.hid hE
  have hfew := h.ok.few
  have hplt := hp.lt
  clear h hp hE
  go_enter Try.func44, Try.ntmps44
  go_wp2
  go_loopw [4, 5, 6, 7, 8] (fun t i _ _ _ wr => ∃ k : Nat, k ≤ d.f.length ∧ i = .int .i64 k ∧ t = .int .i64 (lc (d.f.take k) : Nat) ∧ Hid (∃ v' us', RAt (Gw C w wr) wr a { d with f := tearN picks d.f k } v' us') ∧ Hid (Tn C w wr)) (fun _ i _ _ _ _ => d.f.length - (intOf i).toNat)
  case atStart => exact ⟨0, Nat.zero_le _, rfl, rfl, ⟨v, us, H.out.grow (gw_self C w w) (fun j hj => Gw.size (Nat.le_refl _) H.out.lt hj)⟩, Tn.refl _ _⟩
  case round =>
    obtain ⟨k, hk, rfl, rfl, HD, HTN⟩ := hrel
    obtain ⟨v', us', hd⟩ := HD.out
    have hll : (fvs (tearN picks d.f k)).length = d.f.length := by rw [fvs_length, ← length_names, names_tearN, length_names]
    have c0 := hd.c0
    obtain ⟨vo, vc, rfl⟩ := own_slice hd.fo.own
    have HDD := Lib.hid hd
    simp only [hll] at c0
    clear HD
    by_cases hlt : k < d.f.length
    · obtain ⟨⟨s, x⟩, hsx⟩ : ∃ p, d.f[k] = p := ⟨_, rfl⟩
      obtain ⟨hk1, hs1⟩ := get_tearN_at (picks := picks) hlt
      rw [hsx] at hs1
      have hstep := lc_step hlt hsx
      have hsm : (s, x) ∈ d.f := by rw [← hsx]; exact List.getElem_mem _
      have hsafe := H.out.ok.safe _ hsm
      simp only at hsafe
      have hxl := get_tot H.out.ok.rising (mem_get H.out.ok.rising hsm)
      have hroom := H.out.ok.room
      have hlc := lc_le (d.f.take k)
      have htk : (d.f.take k).length ≤ k := List.length_take_le _ _
      have HXL : Hid (x.data.length ≤ 4194304) := by have : x.data.length ≤ 4194304 := by omega
                                                     exact this
      have htc : lc (d.f.take k) ≤ 1000 := by omega
      have HSTEP : Hid (x.data.length ≠ x.safe → tearN picks d.f (k + 1) = upd (tearN picks d.f k) s fun _ => torn picks (lc (d.f.take k)) x) := fun he => tearN_step H.out.ok.rising hlt hsx he
      have HSAME : Hid (x.data.length = x.safe → tearN picks d.f (k + 1) = tearN picks d.f k) := fun he => tearN_same hlt hsx he
      have HOK : Hid (Okr { d with f := tearN picks d.f (k + 1) }) := ok_tearN H.out.ok
      obtain ⟨g, cap, bo, bc, hv, g0, g1, g2, hu, hCu⟩ := hd.elem hk1 hs1
      injection hv with e1 e2 e3
      subst e1; subst e3
      generalize hlcv : lc (d.f.take k) = tc at *
      have HST := Lib.hid hstep
      have HS1 := Lib.hid hs1
      have HU := Lib.hid hu
      have hbc := own_cap hu
      have hsub : IntKind.i64.wrap ((x.data.length : Int) - (x.safe : Int)) = ((x.data.length - x.safe : Nat) : Int) := by rw [wrap_in (by omega)]; omega
      have HCG : Hid (g < w.heap.size → C g) := by
        have hg := hd.fo.row g rfl
        exact fun hl => hg.elim id (fun e => by omega)
      have HGB : Hid (g ≠ wr.heap.size) := by
        have hg := hd.lt g (hd.fo.row g rfl)
        have : g ≠ wr.heap.size := by omega
        exact this
      have HGA : Hid (g ≠ a) := hd.ne.1 g rfl
      clear hd hsx hlcv hstep hs1 hsm hxl hlc hroom htk e2 hCu hu hll
      go_upto_region 5 with (fail)
      have HBB := Lib.hid (below1 wr (.cells #[nmv s, .slice bo x.data.length bc, .int .i64 (x.safe : Int)] 43))
      have HBX := Lib.hid (heap_alloc_new wr (.cells #[nmv s, .slice bo x.data.length bc, .int .i64 (x.safe : Int)] 43))
      have hbz : wr.heap.size < (wr.alloc (.cells #[nmv s, .slice bo x.data.length bc, .int .i64 (x.safe : Int)] 43)).heap.size := by simp
      have HBS := Lib.hid hbz
      clear hbz
      generalize wr.alloc (.cells #[nmv s, .slice bo x.data.length bc, .int .i64 (x.safe : Int)] 43) = wB at *
      have H2 := Lib.hid (HDD.out.below HBB.out)
      have HC0 : Hid (wB.cell? ⟨a, 0, none⟩ = some (.slice (some ⟨g, 0, none⟩) d.f.length vc)) := (HBB.out.cell (p := ⟨a, 0, none⟩) (HDD.out.lt a HDD.out.ca)).trans c0
      obtain ⟨_, b1, b2⟩ := box_cells HBX.out
      have HB1 := Lib.hid b1
      have HB2 := Lib.hid b2
      have HZ : Hid (∀ o, wB.frozen? ⟨g, o, none⟩ = false) := by
        obtain ⟨cur, hcur⟩ := own_at H2.out.fo.own (k := g) rfl
        exact fun _ => frozen_zero hcur
      have HAS : Hid (a < wB.drew.heap.size) := H2.out.lt a H2.out.ca
      have HGS : Hid (g < wB.drew.heap.size) := H2.out.lt g (H2.out.fo.row g rfl)
      have HG1 : Hid (wB.cell? ⟨g, k * 3 + 1, none⟩ = some (.slice bo x.data.length bc)) := (HBB.out.cell (p := ⟨g, k * 3 + 1, none⟩) (HDD.out.lt g (HDD.out.fo.row g rfl))).trans g1
      have HG2 : Hid (wB.cell? ⟨g, k * 3 + 2, none⟩ = some (.int .i64 (x.safe : Int))) := (HBB.out.cell (p := ⟨g, k * 3 + 2, none⟩) (HDD.out.lt g (HDD.out.fo.row g rfl))).trans g2
      clear c0 g0 g1 g2
      have c0 := HC0.out
      by_cases hz : x.data.length = x.safe
      · have hb : (((x.data.length - x.safe : Nat) : Int) == 0) = true := by rw [hz]; simp
        have HSM := Lib.hid (HSAME.out hz)
        have HNZ := Lib.hid hz
        have HD5 : Hid (∃ v' us', RAt (Gw C w wB) wB a { d with f := tearN picks d.f (k + 1) } v' us') := by
          show ∃ _ _, _
          rw [HSM.out]
          exact ⟨_, _, H2.out.grow (fun j hj => hj.elim .inl (fun e => .inr ⟨e.1, Nat.lt_of_lt_of_le e.2 HBB.out.size⟩)) (fun j hj => Gw.size (Nat.le_trans HTN.out.size HBB.out.size) H.out.lt hj)⟩
        have HT5 : Hid (Tn C w wB) := HTN.out.trans (Tn.of_below (S := C) HBB.out) (fun _ _ h => h)
        clear hz
        go_wp2
        go_roundw
        case rel => exact ⟨k + 1, by omega, by go_num, by rw [HST.out, if_pos HNZ.out]; rfl, HD5.out, HT5.out⟩
        case measure => simp [intOf]; omega
      · have hb : (((x.data.length - x.safe : Nat) : Int) == 0) = false := by simp; omega
        have HNZ := Lib.hid hz
        have hxl2 := HXL.out
        by_cases hpk : picks.length ≤ tc
        · have hkq : kept picks tc (x.data.length - x.safe) = 0 := if_pos (.inl (by omega))
          obtain ⟨M, hMM⟩ : ∃ M, x.safe + 0 = M := ⟨_, rfl⟩
          have hM0 : (x.safe : Int) = (M : Int) := by omega
          have hw1 : IntKind.i64.wrap ((x.safe : Int) + 0) = (M : Int) := by rw [wrap_in (by omega)]; omega
          have hw2 : IntKind.i64.wrap (x.safe : Int) = (M : Int) := by rw [wrap_in (by omega)]; omega
          have hM : M ≤ x.data.length := by omega
          have HUP : Hid (tearN picks d.f (k + 1) = upd (tearN picks d.f k) s fun _ => ⟨x.data.take M, M⟩) := by
            have h1 := HSTEP.out HNZ.out
            unfold torn at h1
            rw [hkq, hMM] at h1
            exact h1
          have HSB := Lib.hid ((own_sb ((own_below HU.out HBB.out).drewn)).top hM)
          have hcond : (0 : Int) ≤ (M : Int) ∧ (M : Int) ≤ (bc : Int) := by omega
          have hm2 : M ≤ 140737488355328 := by have := HXL.out; omega
          have HML := Lib.hid hM
          replace hM0 := Lib.hid hM0
          clear hkq hMM hM
          go_upto_region 10 with (fail)
          clear c0 b1 b2 hb hsub
          have c0 : wB.drew.cell? ⟨a, 0, none⟩ = some (.slice (some ⟨g, 0, none⟩) d.f.length vc) := HC0.out
          have b1 : wB.drew.cell? ⟨wr.heap.size, 1, none⟩ = some (.slice bo x.data.length bc) := HB1.out
          have b2 : wB.drew.cell? ⟨wr.heap.size, 2, none⟩ = some (.int .i64 (x.safe : Int)) := HB2.out
          have g1 : wB.drew.cell? ⟨g, k * 3 + 1, none⟩ = some (.slice bo x.data.length bc) := HG1.out
          have g2 : wB.drew.cell? ⟨g, k * 3 + 2, none⟩ = some (.int .i64 (x.safe : Int)) := HG2.out
          have hz1 : wB.drew.frozen? ⟨g, k * 3 + 1, none⟩ = false := HZ.out (k * 3 + 1)
          have hz2 : wB.drew.frozen? ⟨g, k * 3 + 2, none⟩ = false := HZ.out (k * 3 + 2)
          refine wp_region_held (S := (fun w' => w'.cell? ⟨a, 0, none⟩ = some (.slice (some ⟨g, 0, none⟩) d.f.length vc) ∧ w'.cell? ⟨wr.heap.size, 1, none⟩ = some (.slice bo x.data.length bc) ∧ w'.cell? ⟨wr.heap.size, 2, none⟩ = some (.int .i64 (x.safe : Int)))) (by kernel_rfl) ?_
          change wpAnyH _ _ _ _ _ _ _ _ (World.drew _)
          refine wpAnyH_take (i := 0) (v := ?va_0) rfl (by kernel_rfl) (by kernel_rfl) (by kernel_rfl) (fun _ _ _ h => h) (Or.inl ⟨by rfl, ?ya_0⟩) ⟨c0, b1, b2⟩ ?ra_0
          case ya_0 => (intro W hSw; (try dsimp only at hSw); obtain ⟨q0, q1, q2⟩ := hSw; first | (go_simp; done) | (go_simp; with_reducible rfl))
          try go_simp
          refine wpAnyH_take (i := 1) (v := ?va_1) rfl (by kernel_rfl) (by kernel_rfl) (by kernel_rfl) (fun _ _ _ h => h) (Or.inl ⟨by rfl, ?ya_1⟩) ⟨c0, b1, b2⟩ ?ra_1
          case ya_1 => (intro W hSw; (try dsimp only at hSw); obtain ⟨q0, q1, q2⟩ := hSw; first | (go_simp; done) | (go_simp; with_reducible rfl))
          try go_simp
          refine wpAnyH_take (i := 2) (v := ?va_2) rfl (by kernel_rfl) (by kernel_rfl) (by kernel_rfl) (fun _ _ _ h => h) (Or.inl ⟨by rfl, ?ya_2⟩) ⟨c0, b1, b2⟩ ?ra_2
          case ya_2 => (intro W hSw; (try dsimp only at hSw); obtain ⟨q0, q1, q2⟩ := hSw; first | (go_simp; done) | (go_simp; with_reducible rfl))
          try go_simp
          refine wpAnyH_take (i := 3) (v := ?va_3) rfl (by kernel_rfl) (by kernel_rfl) (by kernel_rfl) (fun _ _ _ h => h) (Or.inl ⟨by rfl, ?ya_3⟩) ⟨c0, b1, b2⟩ ?ra_3
          case ya_3 => (intro W hSw; (try dsimp only at hSw); obtain ⟨q0, q1, q2⟩ := hSw; first | (go_simp; done) | (go_simp; with_reducible rfl))
          try go_simp
          refine wpAnyH_take (i := 4) (v := ?va_4) rfl (by kernel_rfl) (by kernel_rfl) (by kernel_rfl) (fun _ _ _ h => h) (Or.inl ⟨by rfl, ?ya_4⟩) ⟨c0, b1, b2⟩ ?ra_4
          case ya_4 => (intro W hSw; (try dsimp only at hSw); obtain ⟨q0, q1, q2⟩ := hSw; first | (go_simp; done) | (go_simp; with_reducible rfl))
          try go_simp
          refine wpAnyH_take (i := 5) (v := ?va_5) rfl (by kernel_rfl) (by kernel_rfl) (by kernel_rfl) (fun _ _ _ h => h) (Or.inl ⟨by rfl, ?ya_5⟩) ⟨c0, b1, b2⟩ ?ra_5
          case ya_5 => (intro W hSw; (try dsimp only at hSw); obtain ⟨q0, q1, q2⟩ := hSw; first | (go_simp; done) | (go_simp; with_reducible rfl))
          try go_simp
          refine wpAnyH_take (i := 6) (v := ?va_6) rfl (by kernel_rfl) (by kernel_rfl) (by kernel_rfl) (fun _ _ _ h => h) (Or.inl ⟨by rfl, ?ya_6⟩) ⟨c0, b1, b2⟩ ?ra_6
          case ya_6 => (intro W hSw; (try dsimp only at hSw); obtain ⟨q0, q1, q2⟩ := hSw; first | (go_simp; done) | (go_simp; with_reducible rfl))
          try go_simp
          refine wpAnyH_take (i := 7) (v := ?va_7) rfl (by kernel_rfl) (by kernel_rfl) (by kernel_rfl) (fun _ _ _ h => h) (Or.inl ⟨by rfl, ?ya_7⟩) ⟨c0, b1, b2⟩ ?ra_7
          case ya_7 => (intro W hSw; (try dsimp only at hSw); obtain ⟨q0, q1, q2⟩ := hSw; first | (go_simp; done) | (go_simp; with_reducible rfl))
          try go_simp
          refine wpAnyH_take (i := 8) (v := ?va_8) rfl (by kernel_rfl) (by kernel_rfl) (by kernel_rfl) (fun _ _ _ h => h) (Or.inl ⟨by rfl, ?ya_8⟩) ⟨c0, b1, b2⟩ ?ra_8
          case ya_8 => (intro W hSw; (try dsimp only at hSw); obtain ⟨q0, q1, q2⟩ := hSw; first | (go_simp; done) | (go_simp; with_reducible rfl))
          try go_simp
          refine wpAnyH_take (i := 9) (v := ?va_9) rfl (by kernel_rfl) (by kernel_rfl) (by kernel_rfl) (fun _ _ _ h => h) (Or.inl ⟨by rfl, ?ya_9⟩) ⟨c0, b1, b2⟩ ?ra_9
          case ya_9 => (intro W hSw; (try dsimp only at hSw); obtain ⟨q0, q1, q2⟩ := hSw; first | (go_simp; done) | (go_simp; with_reducible rfl))
          try go_simp
          refine wpAnyH_take (i := 10) (v := ?va_10) rfl (by kernel_rfl) (by kernel_rfl) (by kernel_rfl) (fun _ _ _ h => h) (Or.inl ⟨by rfl, ?ya_10⟩) ⟨c0, b1, b2⟩ ?ra_10
          case ya_10 => (intro W hSw; (try dsimp only at hSw); obtain ⟨q0, q1, q2⟩ := hSw; first | (go_simp; done) | (go_simp; with_reducible rfl))
          try go_simp
          refine wpAnyH_take (i := 11) (v := ?va_11) rfl (by kernel_rfl) (by kernel_rfl) (by kernel_rfl) (fun _ _ _ h => h) (Or.inl ⟨by rfl, ?ya_11⟩) ⟨c0, b1, b2⟩ ?ra_11
          case ya_11 => (intro W hSw; (try dsimp only at hSw); obtain ⟨q0, q1, q2⟩ := hSw; first | (go_simp; done) | (go_simp; with_reducible rfl))
          try go_simp
          refine wpAnyH_ready (rs := [12]) (by kernel_rfl) (by simp) ?_
          refine AllReadyH.cons rfl (fun K hK => ?_) AllReadyH.nil
          go_simp
          (go_wp2_with (first | (go_at_call 19; (refine (copyBytes_any HSB.out hm2).mono ?_); rintro e w3 ⟨o3, k3, rfl, ho3, hb3⟩; have HO3 := Lib.hid ho3; have HB3 := Lib.hid hb3; have p0 := (hb3.cell (p := ⟨a, 0, none⟩) HAS.out).trans c0; have p1 := (hb3.cell (p := ⟨wr.heap.size, 1, none⟩) HBS.out).trans b1; have p2 := (hb3.cell (p := ⟨wr.heap.size, 2, none⟩) HBS.out).trans b2; have p3 := (hb3.cell (p := ⟨g, k * 3 + 1, none⟩) HGS.out).trans g1; have p4 := (hb3.cell (p := ⟨g, k * 3 + 2, none⟩) HGS.out).trans g2; have fz1 := (hb3.frozen (p := ⟨g, k * 3 + 1, none⟩) HGS.out).trans hz1; have fz2 := (hb3.frozen (p := ⟨g, k * 3 + 2, none⟩) HGS.out).trans hz2; have H3 := Lib.hid ((H2.out.below (Below.refl _ wB).drew).below hb3); clear ho3 hb3)))
          refine hK.out _ _ ⟨p0, p1, p2⟩ (fun _ => ?_)
          clear hK K
          try go_simp
          refine wpAnyH_take (i := 13) (v := ?va_13) rfl (by kernel_rfl) (by kernel_rfl) (by kernel_rfl) (fun _ _ _ h => h) (Or.inl ⟨by rfl, ?ya_13⟩) ⟨p0, p1, p2⟩ ?ra_13
          case ya_13 => (intro W hSw; (try dsimp only at hSw); obtain ⟨q0, q1, q2⟩ := hSw; first | (go_simp; done) | (go_simp; with_reducible rfl))
          try go_simp
          refine wpAnyH_take (i := 14) (v := ?va_14) rfl (by kernel_rfl) (by kernel_rfl) (by kernel_rfl) (fun _ _ _ h => h) (Or.inl ⟨by rfl, ?ya_14⟩) ⟨p0, p1, p2⟩ ?ra_14
          case ya_14 => (intro W hSw; (try dsimp only at hSw); obtain ⟨q0, q1, q2⟩ := hSw; first | (go_simp; done) | (go_simp; with_reducible rfl))
          try go_simp
          have r0 := (World.cell?_setCell_far w3 ⟨g, k * 3 + 1, none⟩ ⟨a, 0, none⟩ (.slice o3 M k3) HGA.out).trans p0
          have r1 := (World.cell?_setCell_far w3 ⟨g, k * 3 + 1, none⟩ ⟨wr.heap.size, 1, none⟩ (.slice o3 M k3) HGB.out).trans p1
          have r2 := (World.cell?_setCell_far w3 ⟨g, k * 3 + 1, none⟩ ⟨wr.heap.size, 2, none⟩ (.slice o3 M k3) HGB.out).trans p2
          refine wpAnyH_ready (rs := [15]) (by kernel_rfl) (by simp) ?_
          refine AllReadyH.cons rfl (fun K hK => ?_) AllReadyH.nil
          go_simp
          refine hK.out _ _ ⟨r0, r1, r2⟩ (fun _ => ?_)
          clear hK K
          try go_simp
          refine wpAnyH_done (by kernel_rfl) ?_ _
          try go_wp2
          have rz : (w3.setCell ⟨g, k * 3 + 1, none⟩ (.slice o3 M k3)).frozen? ⟨g, k * 3 + 2, none⟩ = false := by rw [World.frozen?_setCell]; exact fz2
          have r4 := (World.cell?_setCell_other (w := w3) (a := ⟨g, k * 3 + 1, none⟩) (b := ⟨g, k * 3 + 2, none⟩) (v := .slice o3 M k3) (by simp)).trans p4
          clear p0 p1 p2 p3 p4 fz1 fz2 c0 b1 b2 g1 g2 hz1 hz2
          obtain ⟨W, hW⟩ : ∃ W, W = w3.setCell ⟨g, k * 3 + 1, none⟩ (.slice o3 M k3) := ⟨_, rfl⟩
          rw [← hW] at r0 r1 r2 r4 rz ⊢
          have HW := Lib.hid hW
          clear hW
          refine wp_region_still_tail 11 (by kernel_rfl) (by kernel_rfl) ?_
          simp only [List.take_succ_cons, List.take_zero, List.drop_succ_cons, List.drop_zero]
          iterate 11 still_step
          refine wpStill_nil ?_
          change wpList _ _ _ _ _ W.drew
          go_wp2
          have hW := HW.out
          subst hW
          have hy : (x.data.take M).length = M := by rw [List.length_take]; have := HML.out; omega
          obtain ⟨us5, h5⟩ := RAt.both (D := Gw C w w3) (y := ⟨x.data.take M, M⟩) (u := .slice o3 M k3) (d' := { d with f := tearN picks d.f (k + 1) }) H3.out hk1 HS1.out (by rw [hy]; exact own_mono HO3.out (Nat.zero_le _)) HUP.out rfl rfl rfl HOK.out (fun j hj => by
            rcases hj with hj | hj
            · exact .inl hj
            · exact .inr ⟨hj.1, Nat.lt_of_lt_of_le hj.2 (Nat.le_trans HBB.out.size HB3.out.size)⟩) (fun j hj => .inr ⟨Nat.le_trans (Nat.le_trans HTN.out.size HBB.out.size) (HO3.out.lt j hj).1, (HO3.out.lt j hj).2⟩) (fun j hj => Gw.size (Nat.le_trans HTN.out.size (Nat.le_trans HBB.out.size HB3.out.size)) H.out.lt hj)
          have h6 : Tn C w (((w3.setCell ⟨g, k * 3 + 1, none⟩ (.slice o3 M k3)).setCell ⟨g, k * 3 + 2, none⟩ (.int .i64 (M : Int)))) := ((HTN.out.trans (Tn.of_below (S := C) (HBB.out.trans (((Below.refl _ wB).drew.trans HB3.out).mono HBB.out.size))) (fun _ _ h => h)).setCell (fun hlt => HCG.out hlt) _).setCell (fun hlt => HCG.out hlt) _
          have h7 := (h5.grow (D := Gw C w ((w3.setCell ⟨g, k * 3 + 1, none⟩ (.slice o3 M k3)).setCell ⟨g, k * 3 + 2, none⟩ (.int .i64 (M : Int))).drew) (fun j hj => by rcases hj with hj | hj; exact .inl hj; exact .inr ⟨hj.1, by simpa using hj.2⟩) (fun j hj => Gw.size h6.size H.out.lt hj)).below (Below.refl _ _).drew
          have HD5 := Lib.hid h7
          have HT5 := Lib.hid h6.drew
          clear h5 h6 h7 r0 r1 r2 r4 rz
          go_roundw
          case rel => exact ⟨k + 1, by omega, by go_num, by rw [HST.out, if_neg HNZ.out]; go_num, ⟨_, _, HD5.out⟩, HT5.out⟩
          case measure => simp [intOf]; omega
        have hpt : tc < picks.length := by omega
        obtain ⟨pb, pf, rfl, hpc⟩ : ∃ b off, po = some ⟨b, off, none⟩ ∧ wB.cell? ⟨b, off + tc, none⟩ = some (.int .i64 (picks.getD tc 0)) := by
          rcases ((HP.out.tn HTN.out HE.out).below HBB.out).cells with h0 | ⟨b, off, h1, _, hc⟩
          · omega
          · exact ⟨b, off, h1, hc tc hpt⟩
        have hpw := HP.out.wf (picks.getD tc 0) (by rw [List.getD_eq_getElem?_getD, List.getElem?_eq_getElem (by omega)]; exact List.getElem_mem _)
        generalize hgp : picks.getD tc 0 = p at *
        by_cases hp0 : p ≤ 0
        · have hkq : kept picks tc (x.data.length - x.safe) = 0 := by
            unfold kept
            by_cases hp1 : p < 0
            · rw [if_pos (.inr (by rw [hgp]; exact hp1))]
            · rw [if_neg (by rw [hgp]; omega), hgp, show p.toNat = 0 by omega, Nat.zero_mod]
          obtain ⟨M, hMM⟩ : ∃ M, x.safe + 0 = M := ⟨_, rfl⟩
          have hM0 : (x.safe : Int) = (M : Int) := by omega
          have hw1 : IntKind.i64.wrap ((x.safe : Int) + 0) = (M : Int) := by rw [wrap_in (by omega)]; omega
          have hw2 : IntKind.i64.wrap (x.safe : Int) = (M : Int) := by rw [wrap_in (by omega)]; omega
          have hM : M ≤ x.data.length := by omega
          have HUP : Hid (tearN picks d.f (k + 1) = upd (tearN picks d.f k) s fun _ => ⟨x.data.take M, M⟩) := by
            have h1 := HSTEP.out HNZ.out
            unfold torn at h1
            rw [hkq, hMM] at h1
            exact h1
          have HSB := Lib.hid ((own_sb ((own_below HU.out HBB.out).drewn)).top hM)
          have hcond : (0 : Int) ≤ (M : Int) ∧ (M : Int) ≤ (bc : Int) := by omega
          have hm2 : M ≤ 140737488355328 := by have := HXL.out; omega
          have HML := Lib.hid hM
          replace hM0 := Lib.hid hM0
          replace hgp := Lib.hid hgp
          have hdp : decide (0 < p) = false := decide_eq_false (by omega)
          have hpt2 : tc < picks.length := by omega
          clear hkq hMM hM
          go_upto_region 10 with (fail)
          clear c0 b1 b2 hb hsub
          have c0 : wB.drew.cell? ⟨a, 0, none⟩ = some (.slice (some ⟨g, 0, none⟩) d.f.length vc) := HC0.out
          have b1 : wB.drew.cell? ⟨wr.heap.size, 1, none⟩ = some (.slice bo x.data.length bc) := HB1.out
          have b2 : wB.drew.cell? ⟨wr.heap.size, 2, none⟩ = some (.int .i64 (x.safe : Int)) := HB2.out
          have g1 : wB.drew.cell? ⟨g, k * 3 + 1, none⟩ = some (.slice bo x.data.length bc) := HG1.out
          have g2 : wB.drew.cell? ⟨g, k * 3 + 2, none⟩ = some (.int .i64 (x.safe : Int)) := HG2.out
          have hz1 : wB.drew.frozen? ⟨g, k * 3 + 1, none⟩ = false := HZ.out (k * 3 + 1)
          have hz2 : wB.drew.frozen? ⟨g, k * 3 + 2, none⟩ = false := HZ.out (k * 3 + 2)
          refine wp_region_held (S := (fun w' => w'.cell? ⟨a, 0, none⟩ = some (.slice (some ⟨g, 0, none⟩) d.f.length vc) ∧ w'.cell? ⟨wr.heap.size, 1, none⟩ = some (.slice bo x.data.length bc) ∧ w'.cell? ⟨wr.heap.size, 2, none⟩ = some (.int .i64 (x.safe : Int)))) (by kernel_rfl) ?_
          change wpAnyH _ _ _ _ _ _ _ _ (World.drew _)
          refine wpAnyH_take (i := 0) (v := ?vb_0) rfl (by kernel_rfl) (by kernel_rfl) (by kernel_rfl) (fun _ _ _ h => h) (Or.inl ⟨by rfl, ?yb_0⟩) ⟨c0, b1, b2⟩ ?rb_0
          case yb_0 => (intro W hSw; (try dsimp only at hSw); obtain ⟨q0, q1, q2⟩ := hSw; first | (go_simp; done) | (go_simp; with_reducible rfl))
          try go_simp
          refine wpAnyH_take (i := 1) (v := ?vb_1) rfl (by kernel_rfl) (by kernel_rfl) (by kernel_rfl) (fun _ _ _ h => h) (Or.inl ⟨by rfl, ?yb_1⟩) ⟨c0, b1, b2⟩ ?rb_1
          case yb_1 => (intro W hSw; (try dsimp only at hSw); obtain ⟨q0, q1, q2⟩ := hSw; first | (go_simp; done) | (go_simp; with_reducible rfl))
          try go_simp
          refine wpAnyH_take (i := 2) (v := ?vb_2) rfl (by kernel_rfl) (by kernel_rfl) (by kernel_rfl) (fun _ _ _ h => h) (Or.inl ⟨by rfl, ?yb_2⟩) ⟨c0, b1, b2⟩ ?rb_2
          case yb_2 => (intro W hSw; (try dsimp only at hSw); obtain ⟨q0, q1, q2⟩ := hSw; first | (go_simp; done) | (go_simp; with_reducible rfl))
          try go_simp
          refine wpAnyH_take (i := 3) (v := ?vb_3) rfl (by kernel_rfl) (by kernel_rfl) (by kernel_rfl) (fun _ _ _ h => h) (Or.inl ⟨by rfl, ?yb_3⟩) ⟨c0, b1, b2⟩ ?rb_3
          case yb_3 => (intro W hSw; (try dsimp only at hSw); obtain ⟨q0, q1, q2⟩ := hSw; first | (go_simp; done) | (go_simp; with_reducible rfl))
          try go_simp
          refine wpAnyH_take (i := 4) (v := ?vb_4) rfl (by kernel_rfl) (by kernel_rfl) (by kernel_rfl) (fun _ _ _ h => h) (Or.inl ⟨by rfl, ?yb_4⟩) ⟨c0, b1, b2⟩ ?rb_4
          case yb_4 => (intro W hSw; (try dsimp only at hSw); obtain ⟨q0, q1, q2⟩ := hSw; first | (go_simp; done) | (go_simp; with_reducible rfl))
          try go_simp
          refine wpAnyH_take (i := 5) (v := ?vb_5) rfl (by kernel_rfl) (by kernel_rfl) (by kernel_rfl) (fun _ _ _ h => h) (Or.inl ⟨by rfl, ?yb_5⟩) ⟨c0, b1, b2⟩ ?rb_5
          case yb_5 => (intro W hSw; (try dsimp only at hSw); obtain ⟨q0, q1, q2⟩ := hSw; first | (go_simp; done) | (go_simp; with_reducible rfl))
          try go_simp
          refine wpAnyH_take (i := 6) (v := ?vb_6) rfl (by kernel_rfl) (by kernel_rfl) (by kernel_rfl) (fun _ _ _ h => h) (Or.inl ⟨by rfl, ?yb_6⟩) ⟨c0, b1, b2⟩ ?rb_6
          case yb_6 => (intro W hSw; (try dsimp only at hSw); obtain ⟨q0, q1, q2⟩ := hSw; first | (go_simp; done) | (go_simp; with_reducible rfl))
          try go_simp
          refine wpAnyH_take (i := 7) (v := ?vb_7) rfl (by kernel_rfl) (by kernel_rfl) (by kernel_rfl) (fun _ _ _ h => h) (Or.inl ⟨by rfl, ?yb_7⟩) ⟨c0, b1, b2⟩ ?rb_7
          case yb_7 => (intro W hSw; (try dsimp only at hSw); obtain ⟨q0, q1, q2⟩ := hSw; first | (go_simp; done) | (go_simp; with_reducible rfl))
          try go_simp
          refine wpAnyH_take (i := 8) (v := ?vb_8) rfl (by kernel_rfl) (by kernel_rfl) (by kernel_rfl) (fun _ _ _ h => h) (Or.inl ⟨by rfl, ?yb_8⟩) ⟨c0, b1, b2⟩ ?rb_8
          case yb_8 => (intro W hSw; (try dsimp only at hSw); obtain ⟨q0, q1, q2⟩ := hSw; first | (go_simp; done) | (go_simp; with_reducible rfl))
          try go_simp
          refine wpAnyH_take (i := 9) (v := ?vb_9) rfl (by kernel_rfl) (by kernel_rfl) (by kernel_rfl) (fun _ _ _ h => h) (Or.inl ⟨by rfl, ?yb_9⟩) ⟨c0, b1, b2⟩ ?rb_9
          case yb_9 => (intro W hSw; (try dsimp only at hSw); obtain ⟨q0, q1, q2⟩ := hSw; first | (go_simp; done) | (go_simp; with_reducible rfl))
          try go_simp
          refine wpAnyH_take (i := 10) (v := ?vb_10) rfl (by kernel_rfl) (by kernel_rfl) (by kernel_rfl) (fun _ _ _ h => h) (Or.inl ⟨by rfl, ?yb_10⟩) ⟨c0, b1, b2⟩ ?rb_10
          case yb_10 => (intro W hSw; (try dsimp only at hSw); obtain ⟨q0, q1, q2⟩ := hSw; first | (go_simp; done) | (go_simp; with_reducible rfl))
          try go_simp
          refine wpAnyH_take (i := 11) (v := ?vb_11) rfl (by kernel_rfl) (by kernel_rfl) (by kernel_rfl) (fun _ _ _ h => h) (Or.inl ⟨by rfl, ?yb_11⟩) ⟨c0, b1, b2⟩ ?rb_11
          case yb_11 => (intro W hSw; (try dsimp only at hSw); obtain ⟨q0, q1, q2⟩ := hSw; first | (go_simp; done) | (go_simp; with_reducible rfl))
          try go_simp
          refine wpAnyH_ready (rs := [12]) (by kernel_rfl) (by simp) ?_
          refine AllReadyH.cons rfl (fun K hK => ?_) AllReadyH.nil
          go_simp
          (go_wp2_with (first | (go_at_call 19; (refine (copyBytes_any HSB.out hm2).mono ?_); rintro e w3 ⟨o3, k3, rfl, ho3, hb3⟩; have HO3 := Lib.hid ho3; have HB3 := Lib.hid hb3; have p0 := (hb3.cell (p := ⟨a, 0, none⟩) HAS.out).trans c0; have p1 := (hb3.cell (p := ⟨wr.heap.size, 1, none⟩) HBS.out).trans b1; have p2 := (hb3.cell (p := ⟨wr.heap.size, 2, none⟩) HBS.out).trans b2; have p3 := (hb3.cell (p := ⟨g, k * 3 + 1, none⟩) HGS.out).trans g1; have p4 := (hb3.cell (p := ⟨g, k * 3 + 2, none⟩) HGS.out).trans g2; have fz1 := (hb3.frozen (p := ⟨g, k * 3 + 1, none⟩) HGS.out).trans hz1; have fz2 := (hb3.frozen (p := ⟨g, k * 3 + 2, none⟩) HGS.out).trans hz2; have H3 := Lib.hid ((H2.out.below (Below.refl _ wB).drew).below hb3); clear ho3 hb3)))
          refine hK.out _ _ ⟨p0, p1, p2⟩ (fun _ => ?_)
          clear hK K
          try go_simp
          refine wpAnyH_take (i := 13) (v := ?vb_13) rfl (by kernel_rfl) (by kernel_rfl) (by kernel_rfl) (fun _ _ _ h => h) (Or.inl ⟨by rfl, ?yb_13⟩) ⟨p0, p1, p2⟩ ?rb_13
          case yb_13 => (intro W hSw; (try dsimp only at hSw); obtain ⟨q0, q1, q2⟩ := hSw; first | (go_simp; done) | (go_simp; with_reducible rfl))
          try go_simp
          refine wpAnyH_take (i := 14) (v := ?vb_14) rfl (by kernel_rfl) (by kernel_rfl) (by kernel_rfl) (fun _ _ _ h => h) (Or.inl ⟨by rfl, ?yb_14⟩) ⟨p0, p1, p2⟩ ?rb_14
          case yb_14 => (intro W hSw; (try dsimp only at hSw); obtain ⟨q0, q1, q2⟩ := hSw; first | (go_simp; done) | (go_simp; with_reducible rfl))
          try go_simp
          have r0 := (World.cell?_setCell_far w3 ⟨g, k * 3 + 1, none⟩ ⟨a, 0, none⟩ (.slice o3 M k3) HGA.out).trans p0
          have r1 := (World.cell?_setCell_far w3 ⟨g, k * 3 + 1, none⟩ ⟨wr.heap.size, 1, none⟩ (.slice o3 M k3) HGB.out).trans p1
          have r2 := (World.cell?_setCell_far w3 ⟨g, k * 3 + 1, none⟩ ⟨wr.heap.size, 2, none⟩ (.slice o3 M k3) HGB.out).trans p2
          refine wpAnyH_ready (rs := [15]) (by kernel_rfl) (by simp) ?_
          refine AllReadyH.cons rfl (fun K hK => ?_) AllReadyH.nil
          go_simp
          refine hK.out _ _ ⟨r0, r1, r2⟩ (fun _ => ?_)
          clear hK K
          try go_simp
          refine wpAnyH_done (by kernel_rfl) ?_ _
          try go_wp2
          have rz : (w3.setCell ⟨g, k * 3 + 1, none⟩ (.slice o3 M k3)).frozen? ⟨g, k * 3 + 2, none⟩ = false := by rw [World.frozen?_setCell]; exact fz2
          have r4 := (World.cell?_setCell_other (w := w3) (a := ⟨g, k * 3 + 1, none⟩) (b := ⟨g, k * 3 + 2, none⟩) (v := .slice o3 M k3) (by simp)).trans p4
          clear p0 p1 p2 p3 p4 fz1 fz2 c0 b1 b2 g1 g2 hz1 hz2
          obtain ⟨W, hW⟩ : ∃ W, W = w3.setCell ⟨g, k * 3 + 1, none⟩ (.slice o3 M k3) := ⟨_, rfl⟩
          rw [← hW] at r0 r1 r2 r4 rz ⊢
          have HW := Lib.hid hW
          clear hW
          refine wp_region_still_tail 11 (by kernel_rfl) (by kernel_rfl) ?_
          simp only [List.take_succ_cons, List.take_zero, List.drop_succ_cons, List.drop_zero]
          iterate 11 still_step
          refine wpStill_nil ?_
          change wpList _ _ _ _ _ W.drew
          go_wp2
          have hW := HW.out
          subst hW
          have hy : (x.data.take M).length = M := by rw [List.length_take]; have := HML.out; omega
          obtain ⟨us5, h5⟩ := RAt.both (D := Gw C w w3) (y := ⟨x.data.take M, M⟩) (u := .slice o3 M k3) (d' := { d with f := tearN picks d.f (k + 1) }) H3.out hk1 HS1.out (by rw [hy]; exact own_mono HO3.out (Nat.zero_le _)) HUP.out rfl rfl rfl HOK.out (fun j hj => by
            rcases hj with hj | hj
            · exact .inl hj
            · exact .inr ⟨hj.1, Nat.lt_of_lt_of_le hj.2 (Nat.le_trans HBB.out.size HB3.out.size)⟩) (fun j hj => .inr ⟨Nat.le_trans (Nat.le_trans HTN.out.size HBB.out.size) (HO3.out.lt j hj).1, (HO3.out.lt j hj).2⟩) (fun j hj => Gw.size (Nat.le_trans HTN.out.size (Nat.le_trans HBB.out.size HB3.out.size)) H.out.lt hj)
          have h6 : Tn C w (((w3.setCell ⟨g, k * 3 + 1, none⟩ (.slice o3 M k3)).setCell ⟨g, k * 3 + 2, none⟩ (.int .i64 (M : Int)))) := ((HTN.out.trans (Tn.of_below (S := C) (HBB.out.trans (((Below.refl _ wB).drew.trans HB3.out).mono HBB.out.size))) (fun _ _ h => h)).setCell (fun hlt => HCG.out hlt) _).setCell (fun hlt => HCG.out hlt) _
          have h7 := (h5.grow (D := Gw C w ((w3.setCell ⟨g, k * 3 + 1, none⟩ (.slice o3 M k3)).setCell ⟨g, k * 3 + 2, none⟩ (.int .i64 (M : Int))).drew) (fun j hj => by rcases hj with hj | hj; exact .inl hj; exact .inr ⟨hj.1, by simpa using hj.2⟩) (fun j hj => Gw.size h6.size H.out.lt hj)).below (Below.refl _ _).drew
          have HD5 := Lib.hid h7
          have HT5 := Lib.hid h6.drew
          clear h5 h6 h7 r0 r1 r2 r4 rz
          go_roundw
          case rel => exact ⟨k + 1, by omega, by go_num, by rw [HST.out, if_neg HNZ.out]; go_num, ⟨_, _, HD5.out⟩, HT5.out⟩
          case measure => simp [intOf]; omega
        · obtain ⟨L, hL⟩ : ∃ L, x.data.length - x.safe = L := ⟨_, rfl⟩
          have hkq : kept picks tc (x.data.length - x.safe) = p.toNat % (L + 1) := by
            unfold kept
            rw [if_neg (by rw [hgp]; omega), hgp, hL]
          have hql := Nat.mod_lt p.toNat (show 0 < L + 1 by omega)
          have hqi : p % (((x.data.length - x.safe : Nat) : Int) + 1) = ((p.toNat % (L + 1) : Nat) : Int) := by rw [hL, Int.natCast_emod, Int.toNat_of_nonneg (by omega)]; rfl
          obtain ⟨q, hq⟩ : ∃ q, p.toNat % (L + 1) = q := ⟨_, rfl⟩
          rw [hq] at hkq hql hqi
          obtain ⟨M, hMM⟩ : ∃ M, x.safe + q = M := ⟨_, rfl⟩
          have hw1 : IntKind.i64.wrap ((x.safe : Int) + (q : Int)) = (M : Int) := by rw [wrap_in (by omega)]; omega
          have hM : M ≤ x.data.length := by omega
          have HUP : Hid (tearN picks d.f (k + 1) = upd (tearN picks d.f k) s fun _ => ⟨x.data.take M, M⟩) := by
            have h1 := HSTEP.out HNZ.out
            unfold torn at h1
            rw [hkq, hMM] at h1
            exact h1
          have HSB := Lib.hid ((own_sb ((own_below HU.out HBB.out).drewn)).top hM)
          have hcond : (0 : Int) ≤ (M : Int) ∧ (M : Int) ≤ (bc : Int) := by omega
          have hm2 : M ≤ 140737488355328 := by have := HXL.out; omega
          have HML := Lib.hid hM
          replace hgp := Lib.hid hgp
          have hpt2 : tc < picks.length := by omega
          have hp1 : 0 < p := by omega
          have hL1 : L ≤ 4194304 := by have := HXL.out; omega
          replace hL := Lib.hid hL
          replace hq := Lib.hid hq
          replace hql := Lib.hid hql
          clear hkq hMM hM
          go_upto_region 10 with (fail)
          clear c0 b1 b2 hb hsub
          have c0 : wB.drew.cell? ⟨a, 0, none⟩ = some (.slice (some ⟨g, 0, none⟩) d.f.length vc) := HC0.out
          have b1 : wB.drew.cell? ⟨wr.heap.size, 1, none⟩ = some (.slice bo x.data.length bc) := HB1.out
          have b2 : wB.drew.cell? ⟨wr.heap.size, 2, none⟩ = some (.int .i64 (x.safe : Int)) := HB2.out
          have g1 : wB.drew.cell? ⟨g, k * 3 + 1, none⟩ = some (.slice bo x.data.length bc) := HG1.out
          have g2 : wB.drew.cell? ⟨g, k * 3 + 2, none⟩ = some (.int .i64 (x.safe : Int)) := HG2.out
          have hz1 : wB.drew.frozen? ⟨g, k * 3 + 1, none⟩ = false := HZ.out (k * 3 + 1)
          have hz2 : wB.drew.frozen? ⟨g, k * 3 + 2, none⟩ = false := HZ.out (k * 3 + 2)
          refine wp_region_held (S := (fun w' => w'.cell? ⟨a, 0, none⟩ = some (.slice (some ⟨g, 0, none⟩) d.f.length vc) ∧ w'.cell? ⟨wr.heap.size, 1, none⟩ = some (.slice bo x.data.length bc) ∧ w'.cell? ⟨wr.heap.size, 2, none⟩ = some (.int .i64 (x.safe : Int)))) (by kernel_rfl) ?_
          change wpAnyH _ _ _ _ _ _ _ _ (World.drew _)
          refine wpAnyH_take (i := 0) (v := ?vc_0) rfl (by kernel_rfl) (by kernel_rfl) (by kernel_rfl) (fun _ _ _ h => h) (Or.inl ⟨by rfl, ?yc_0⟩) ⟨c0, b1, b2⟩ ?rc_0
          case yc_0 => (intro W hSw; (try dsimp only at hSw); obtain ⟨q0, q1, q2⟩ := hSw; first | (go_simp; done) | (go_simp; with_reducible rfl))
          try go_simp
          refine wpAnyH_take (i := 1) (v := ?vc_1) rfl (by kernel_rfl) (by kernel_rfl) (by kernel_rfl) (fun _ _ _ h => h) (Or.inl ⟨by rfl, ?yc_1⟩) ⟨c0, b1, b2⟩ ?rc_1
          case yc_1 => (intro W hSw; (try dsimp only at hSw); obtain ⟨q0, q1, q2⟩ := hSw; first | (go_simp; done) | (go_simp; with_reducible rfl))
          try go_simp
          refine wpAnyH_take (i := 2) (v := ?vc_2) rfl (by kernel_rfl) (by kernel_rfl) (by kernel_rfl) (fun _ _ _ h => h) (Or.inl ⟨by rfl, ?yc_2⟩) ⟨c0, b1, b2⟩ ?rc_2
          case yc_2 => (intro W hSw; (try dsimp only at hSw); obtain ⟨q0, q1, q2⟩ := hSw; first | (go_simp; done) | (go_simp; with_reducible rfl))
          try go_simp
          refine wpAnyH_take (i := 3) (v := ?vc_3) rfl (by kernel_rfl) (by kernel_rfl) (by kernel_rfl) (fun _ _ _ h => h) (Or.inl ⟨by rfl, ?yc_3⟩) ⟨c0, b1, b2⟩ ?rc_3
          case yc_3 => (intro W hSw; (try dsimp only at hSw); obtain ⟨q0, q1, q2⟩ := hSw; first | (go_simp; done) | (go_simp; with_reducible rfl))
          try go_simp
          refine wpAnyH_take (i := 4) (v := ?vc_4) rfl (by kernel_rfl) (by kernel_rfl) (by kernel_rfl) (fun _ _ _ h => h) (Or.inl ⟨by rfl, ?yc_4⟩) ⟨c0, b1, b2⟩ ?rc_4
          case yc_4 => (intro W hSw; (try dsimp only at hSw); obtain ⟨q0, q1, q2⟩ := hSw; first | (go_simp; done) | (go_simp; with_reducible rfl))
          try go_simp
          refine wpAnyH_take (i := 5) (v := ?vc_5) rfl (by kernel_rfl) (by kernel_rfl) (by kernel_rfl) (fun _ _ _ h => h) (Or.inl ⟨by rfl, ?yc_5⟩) ⟨c0, b1, b2⟩ ?rc_5
          case yc_5 => (intro W hSw; (try dsimp only at hSw); obtain ⟨q0, q1, q2⟩ := hSw; first | (go_simp; done) | (go_simp; with_reducible rfl))
          try go_simp
          refine wpAnyH_take (i := 6) (v := ?vc_6) rfl (by kernel_rfl) (by kernel_rfl) (by kernel_rfl) (fun _ _ _ h => h) (Or.inl ⟨by rfl, ?yc_6⟩) ⟨c0, b1, b2⟩ ?rc_6
          case yc_6 => (intro W hSw; (try dsimp only at hSw); obtain ⟨q0, q1, q2⟩ := hSw; first | (go_simp; done) | (go_simp; with_reducible rfl))
          try go_simp
          refine wpAnyH_take (i := 7) (v := ?vc_7) rfl (by kernel_rfl) (by kernel_rfl) (by kernel_rfl) (fun _ _ _ h => h) (Or.inl ⟨by rfl, ?yc_7⟩) ⟨c0, b1, b2⟩ ?rc_7
          case yc_7 => (intro W hSw; (try dsimp only at hSw); obtain ⟨q0, q1, q2⟩ := hSw; first | (go_simp; done) | (go_simp; with_reducible rfl))
          try go_simp
          refine wpAnyH_take (i := 8) (v := ?vc_8) rfl (by kernel_rfl) (by kernel_rfl) (by kernel_rfl) (fun _ _ _ h => h) (Or.inl ⟨by rfl, ?yc_8⟩) ⟨c0, b1, b2⟩ ?rc_8
          case yc_8 => (intro W hSw; (try dsimp only at hSw); obtain ⟨q0, q1, q2⟩ := hSw; first | (go_simp; done) | (go_simp; with_reducible rfl))
          try go_simp
          refine wpAnyH_take (i := 9) (v := ?vc_9) rfl (by kernel_rfl) (by kernel_rfl) (by kernel_rfl) (fun _ _ _ h => h) (Or.inl ⟨by rfl, ?yc_9⟩) ⟨c0, b1, b2⟩ ?rc_9
          case yc_9 => (intro W hSw; (try dsimp only at hSw); obtain ⟨q0, q1, q2⟩ := hSw; first | (go_simp; done) | (go_simp; with_reducible rfl))
          try go_simp
          refine wpAnyH_take (i := 10) (v := ?vc_10) rfl (by kernel_rfl) (by kernel_rfl) (by kernel_rfl) (fun _ _ _ h => h) (Or.inl ⟨by rfl, ?yc_10⟩) ⟨c0, b1, b2⟩ ?rc_10
          case yc_10 => (intro W hSw; (try dsimp only at hSw); obtain ⟨q0, q1, q2⟩ := hSw; first | (go_simp; done) | (go_simp; with_reducible rfl))
          try go_simp
          refine wpAnyH_take (i := 11) (v := ?vc_11) rfl (by kernel_rfl) (by kernel_rfl) (by kernel_rfl) (fun _ _ _ h => h) (Or.inl ⟨by rfl, ?yc_11⟩) ⟨c0, b1, b2⟩ ?rc_11
          case yc_11 => (intro W hSw; (try dsimp only at hSw); obtain ⟨q0, q1, q2⟩ := hSw; first | (go_simp; done) | (go_simp; with_reducible rfl))
          try go_simp
          refine wpAnyH_ready (rs := [12]) (by kernel_rfl) (by simp) ?_
          refine AllReadyH.cons rfl (fun K hK => ?_) AllReadyH.nil
          go_simp
          (go_wp2_with (first | (go_at_call 19; (refine (copyBytes_any HSB.out hm2).mono ?_); rintro e w3 ⟨o3, k3, rfl, ho3, hb3⟩; have HO3 := Lib.hid ho3; have HB3 := Lib.hid hb3; have p0 := (hb3.cell (p := ⟨a, 0, none⟩) HAS.out).trans c0; have p1 := (hb3.cell (p := ⟨wr.heap.size, 1, none⟩) HBS.out).trans b1; have p2 := (hb3.cell (p := ⟨wr.heap.size, 2, none⟩) HBS.out).trans b2; have p3 := (hb3.cell (p := ⟨g, k * 3 + 1, none⟩) HGS.out).trans g1; have p4 := (hb3.cell (p := ⟨g, k * 3 + 2, none⟩) HGS.out).trans g2; have fz1 := (hb3.frozen (p := ⟨g, k * 3 + 1, none⟩) HGS.out).trans hz1; have fz2 := (hb3.frozen (p := ⟨g, k * 3 + 2, none⟩) HGS.out).trans hz2; have H3 := Lib.hid ((H2.out.below (Below.refl _ wB).drew).below hb3); clear ho3 hb3)))
          refine hK.out _ _ ⟨p0, p1, p2⟩ (fun _ => ?_)
          clear hK K
          try go_simp
          refine wpAnyH_take (i := 13) (v := ?vc_13) rfl (by kernel_rfl) (by kernel_rfl) (by kernel_rfl) (fun _ _ _ h => h) (Or.inl ⟨by rfl, ?yc_13⟩) ⟨p0, p1, p2⟩ ?rc_13
          case yc_13 => (intro W hSw; (try dsimp only at hSw); obtain ⟨q0, q1, q2⟩ := hSw; first | (go_simp; done) | (go_simp; with_reducible rfl))
          try go_simp
          refine wpAnyH_take (i := 14) (v := ?vc_14) rfl (by kernel_rfl) (by kernel_rfl) (by kernel_rfl) (fun _ _ _ h => h) (Or.inl ⟨by rfl, ?yc_14⟩) ⟨p0, p1, p2⟩ ?rc_14
          case yc_14 => (intro W hSw; (try dsimp only at hSw); obtain ⟨q0, q1, q2⟩ := hSw; first | (go_simp; done) | (go_simp; with_reducible rfl))
          try go_simp
          have r0 := (World.cell?_setCell_far w3 ⟨g, k * 3 + 1, none⟩ ⟨a, 0, none⟩ (.slice o3 M k3) HGA.out).trans p0
          have r1 := (World.cell?_setCell_far w3 ⟨g, k * 3 + 1, none⟩ ⟨wr.heap.size, 1, none⟩ (.slice o3 M k3) HGB.out).trans p1
          have r2 := (World.cell?_setCell_far w3 ⟨g, k * 3 + 1, none⟩ ⟨wr.heap.size, 2, none⟩ (.slice o3 M k3) HGB.out).trans p2
          refine wpAnyH_ready (rs := [15]) (by kernel_rfl) (by simp) ?_
          refine AllReadyH.cons rfl (fun K hK => ?_) AllReadyH.nil
          go_simp
          refine hK.out _ _ ⟨r0, r1, r2⟩ (fun _ => ?_)
          clear hK K
          try go_simp
          refine wpAnyH_done (by kernel_rfl) ?_ _
          try go_wp2
          have rz : (w3.setCell ⟨g, k * 3 + 1, none⟩ (.slice o3 M k3)).frozen? ⟨g, k * 3 + 2, none⟩ = false := by rw [World.frozen?_setCell]; exact fz2
          have r4 := (World.cell?_setCell_other (w := w3) (a := ⟨g, k * 3 + 1, none⟩) (b := ⟨g, k * 3 + 2, none⟩) (v := .slice o3 M k3) (by simp)).trans p4
          clear p0 p1 p2 p3 p4 fz1 fz2 c0 b1 b2 g1 g2 hz1 hz2
          obtain ⟨W, hW⟩ : ∃ W, W = w3.setCell ⟨g, k * 3 + 1, none⟩ (.slice o3 M k3) := ⟨_, rfl⟩
          rw [← hW] at r0 r1 r2 r4 rz ⊢
          have HW := Lib.hid hW
          clear hW
          refine wp_region_still_tail 11 (by kernel_rfl) (by kernel_rfl) ?_
          simp only [List.take_succ_cons, List.take_zero, List.drop_succ_cons, List.drop_zero]
          iterate 11 still_step
          refine wpStill_nil ?_
          change wpList _ _ _ _ _ W.drew
          go_wp2
          have hW := HW.out
          subst hW
          have hy : (x.data.take M).length = M := by rw [List.length_take]; have := HML.out; omega
          obtain ⟨us5, h5⟩ := RAt.both (D := Gw C w w3) (y := ⟨x.data.take M, M⟩) (u := .slice o3 M k3) (d' := { d with f := tearN picks d.f (k + 1) }) H3.out hk1 HS1.out (by rw [hy]; exact own_mono HO3.out (Nat.zero_le _)) HUP.out rfl rfl rfl HOK.out (fun j hj => by
            rcases hj with hj | hj
            · exact .inl hj
            · exact .inr ⟨hj.1, Nat.lt_of_lt_of_le hj.2 (Nat.le_trans HBB.out.size HB3.out.size)⟩) (fun j hj => .inr ⟨Nat.le_trans (Nat.le_trans HTN.out.size HBB.out.size) (HO3.out.lt j hj).1, (HO3.out.lt j hj).2⟩) (fun j hj => Gw.size (Nat.le_trans HTN.out.size (Nat.le_trans HBB.out.size HB3.out.size)) H.out.lt hj)
          have h6 : Tn C w (((w3.setCell ⟨g, k * 3 + 1, none⟩ (.slice o3 M k3)).setCell ⟨g, k * 3 + 2, none⟩ (.int .i64 (M : Int)))) := ((HTN.out.trans (Tn.of_below (S := C) (HBB.out.trans (((Below.refl _ wB).drew.trans HB3.out).mono HBB.out.size))) (fun _ _ h => h)).setCell (fun hlt => HCG.out hlt) _).setCell (fun hlt => HCG.out hlt) _
          have h7 := (h5.grow (D := Gw C w ((w3.setCell ⟨g, k * 3 + 1, none⟩ (.slice o3 M k3)).setCell ⟨g, k * 3 + 2, none⟩ (.int .i64 (M : Int))).drew) (fun j hj => by rcases hj with hj | hj; exact .inl hj; exact .inr ⟨hj.1, by simpa using hj.2⟩) (fun j hj => Gw.size h6.size H.out.lt hj)).below (Below.refl _ _).drew
          have HD5 := Lib.hid h7
          have HT5 := Lib.hid h6.drew
          clear h5 h6 h7 r0 r1 r2 r4 rz
          go_roundw
          case rel => exact ⟨k + 1, by omega, by go_num, by rw [HST.out, if_neg HNZ.out]; go_num, ⟨_, _, HD5.out⟩, HT5.out⟩
          case measure => simp [intOf]; omega
    · obtain rfl : k = d.f.length := by omega
      have HDD2 := Lib.hid hd
      have g1 := hd.fz 1
      have g2 := hd.fz 2
      have c1 := hd.c1
      have c2 := hd.c2
      clear hd
      go_wp2
      go_returns
      have ht := tn_set (i := 2) (tn_set (i := 1) (Tn.refl (· = a) wr) (.bool false)) (.int .i64 0)
      have h6 := HDD2.out.ctl (off := false) (left := 0) (done := d.done) (by decide) ht (heap_set (heap_set HDD2.out.box _ rfl) _ rfl)
      have h7 : Tn C w ((wr.setCell ⟨a, 1, none⟩ (.bool false)).setCell ⟨a, 2, none⟩ (.int .i64 0)) := HTN.out.trans ht (fun j _ e => e ▸ H.out.ca)
      have e : d.crash picks = ⟨tearN picks d.f d.f.length, false, 0, d.done⟩ := by unfold Dk.crash; rw [tearN_all]
      rw [e]
      exact ⟨rfl, ⟨_, _, h6.grow (fun j hj => hj.elim .inl (fun e => .inr ⟨e.1, by simpa using e.2⟩)) (fun j hj => Gw.size h7.size H.out.lt hj)⟩, h7⟩
end
end Go.Proofs.Ytefgnlijgomgpaa
