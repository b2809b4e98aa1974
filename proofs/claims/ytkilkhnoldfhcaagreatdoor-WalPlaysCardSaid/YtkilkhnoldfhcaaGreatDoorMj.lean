/- raceref6.Disk: Create, Rename. Conditions: none of its own. raceref6.Disk: Crash. Conditions: none of its own. raceref6.Disk: List; raceref.Texts; racelaw6.Model. Conditions: none of its own. racelaw6.Same of two disks that stand alike. Conditions: none of its own. Files that came in, as they read; what a loaded disk holds, and what is refused, in plain terms. Conditions: none of its own. disk.check. Conditions: files whose bytes are few. disk.Load. Conditions: files whose bytes are few. raceref6.Load. Conditions: files whose bytes are few; not more than 1000. A disk and the document's, side by side. Conditions: none of its own. -/
import Derived.Test.YtkilkhnoldfhcaaGreatDoorMa
import Derived.Test.YtkilkhnoldfhcaaGreatDoorW
namespace Go.Proofs.YtkilkhnoldfhcaaGreatDoor
open Go.RowKit
section
variable {C D S : Nat → Prop} {w w' : World} {a : Nat} {d : Dk} {v : Value} {us : List (Nm × Value × Int)} {s : Nm} {x : Fi}
theorem rput_new (h : RAt C w a d v us) (hn : get d.f s = none) (hok : Okr { d with f := put d.f s ⟨[], 0⟩ }) :
    Calls Tryz.prog 60 #[ptr a, .agg #[nmv s, .slice none 0 0, .int .i64 0]] w fun e w' => e = .returned (.tuple #[]) ∧ RK (Gw C w w') w' a { d with f := put d.f s ⟨[], 0⟩ } ∧ Tn C w w' := by
  refine (rput_any (u := .slice none 0 0) (x := ⟨[], 0⟩) h hn ⟨rfl, .inl ⟨rfl, rfl⟩⟩ hok).mono ?_
  rintro e w' ⟨rfl, ⟨v2, us2, h2⟩, h3⟩
  refine ⟨rfl, ⟨v2, us2, h2.grow (fun k hk => ?_) (fun k hk => Gw.size h3.size h.lt hk)⟩, h3⟩
  rcases hk with (hk | hk) | hk
  · exact .inl hk
  · cases hk
  · exact .inr hk
set_option maxRecDepth 100000 in
set_option maxHeartbeats 2000000 in
theorem rcreate_any (h : RAt C w a d v us) (s : Nm) (hl : s.length ≤ maxLen) (hd : d.done < 9223372036854775807) : Calls Tryz.prog 45 #[ptr a, nmv s] w (RWrote C w a (d.create s)) := by
  have H := Lib.hid h
  have HD := Lib.hid hd
  have HL := Lib.hid hl
  have c1 := h.c1
  have c0 := h.c0
  obtain ⟨vo, vc, rfl⟩ := own_slice h.fo.own
  have hfl := fvs_length d.f
  rw [hfl] at c0
  cases ho : d.off with
  | true =>
    have e : d.create s = (d, 12) := by unfold Dk.create; rw [if_pos ho]
    rw [e]
    rw [ho] at c1
    clear h e ho hd hl
    go_enter Tryz.func45, Tryz.ntmps45
    go_wp2
    go_ret
    exact rwrote_same (r := (d, 12)) H.out (Tn.refl _ _) H.out.lt
  | false =>
  rw [ho] at c1
  cases hn : isNm s with
  | false =>
    have e : d.create s = (d, 10) := by unfold Dk.create; rw [ho, hn]; rfl
    rw [e]
    have HN := Lib.hid hn
    clear h e ho hd hl hn
    go_enter Tryz.func45, Tryz.ntmps45
    go_wp2_with (first
      | (go_at_call 58; (with_reducible refine (rname_any _ _ HL.out).mono ?_); rw [HN.out]; rintro e w' ⟨rfl, rfl⟩))
    go_ret
    exact rwrote_same (r := (d, 10)) H.out (Tn.refl _ _) H.out.lt
  | true =>
  have HN := Lib.hid hn
  cases hx : get d.f s with
  | some x =>
    have e : d.create s = (d, 9) := by unfold Dk.create; rw [ho, hn, has_get, hx]; rfl
    rw [e]
    obtain ⟨k, hk, hs, hne⟩ := get_pos h.ok.rising hx
    have HNE := Lib.hid hne
    have HS := Lib.hid hs
    clear h e ho hd hl hn hne hs hx
    go_enter Tryz.func45, Tryz.ntmps45
    go_wp2_with (first
      | (go_at_call 58; (with_reducible refine (rname_any _ _ HL.out).mono ?_); rw [HN.out]; rintro e w' ⟨rfl, rfl⟩)
      | (go_at_call 59; (with_reducible refine (rat_some H.out hk HS.out HNE.out).mono ?_); rintro e w' ⟨rfl, rfl⟩))
    go_ret
    exact rwrote_same (r := (d, 9)) H.out (Tn.refl _ _) H.out.lt
  | none =>
  have HX := Lib.hid hx
  by_cases hf : 64 ≤ d.f.length
  · have e : d.create s = (d, 3) := by unfold Dk.create; rw [ho, hn, has_get, hx]; simp [hf]
    rw [e]
    clear h e ho hd hl hn hx
    go_enter Tryz.func45, Tryz.ntmps45
    go_wp2_with (first
      | (go_at_call 58; (with_reducible refine (rname_any _ _ HL.out).mono ?_); rw [HN.out]; rintro e w' ⟨rfl, rfl⟩)
      | (go_at_call 59; (with_reducible refine (rat_none H.out HX.out).mono ?_); rintro e w' ⟨rfl, rfl⟩))
    go_ret
    exact rwrote_same (r := (d, 3)) H.out (Tn.refl _ _) H.out.lt
  cases hq : d.spend.2 with
  | false =>
    have e : d.create s = (d.spend.1, 12) := by unfold Dk.create; rw [ho, hn, has_get, hx, hq]; simp [hf]
    rw [e]
    have HQ := Lib.hid hq
    clear h e ho hd hl hn hx hq
    go_enter Tryz.func45, Tryz.ntmps45
    go_wp2_with (first
      | (go_at_call 58; (with_reducible refine (rname_any _ _ HL.out).mono ?_); rw [HN.out]; rintro e w' ⟨rfl, rfl⟩)
      | (go_at_call 59; (with_reducible refine (rat_none H.out HX.out).mono ?_); rintro e w' ⟨rfl, rfl⟩)
      | (go_at_call 87; (with_reducible refine (falls_any H.out HD.out).mono ?_); rw [HQ.out]; rintro e w1 ⟨rfl, h1, ht⟩; have H1 := Lib.hid h1; have HT := Lib.hid ht; clear h1 ht))
    go_ret
    exact rwrote_same (r := (d.spend.1, 12)) H1.out (H.out.tna HT.out) H.out.lt
  | true =>
    have e : d.create s = ({ d.spend.1 with f := put d.f s ⟨[], 0⟩ }, 0) := by unfold Dk.create; rw [ho, hn, has_get, hx, hq]; simp [hf]
    have HQ := Lib.hid hq
    have HE := Lib.hid e
    have hok := h.ok.create (s := s)
    rw [e] at hok
    have HOK : Hid (Okr { d.spend.1 with f := put d.spend.1.f s ⟨[], 0⟩ }) := by rw [spend_f]; exact hok
    have HX1 : Hid (get d.spend.1.f s = none) := by rw [spend_f]; exact hx
    clear h e ho hd hl hn hx hq hok
    go_enter Tryz.func45, Tryz.ntmps45
    go_wp2_with (first
      | (go_at_call 58; (with_reducible refine (rname_any _ _ HL.out).mono ?_); rw [HN.out]; rintro e w' ⟨rfl, rfl⟩)
      | (go_at_call 59; (with_reducible refine (rat_none H.out HX.out).mono ?_); rintro e w' ⟨rfl, rfl⟩)
      | (go_at_call 87; (with_reducible refine (falls_any H.out HD.out).mono ?_); rw [HQ.out]; rintro e w1 ⟨rfl, h1, ht⟩; have H1 := Lib.hid h1; have HT := Lib.hid ht; clear h1 ht)
      | (go_at_call 60; (refine (rput_new H1.out HX1.out HOK.out).mono ?_); rintro e w2 ⟨rfl, h2, ht⟩; have H2 := Lib.hid h2; have HT2 := Lib.hid ht; clear h2 ht))
    go_ret
    have h2 := H2.out
    rw [spend_f] at h2
    have h3 : Tn C w w2 := (H.out.tna HT.out).trans HT2.out (fun _ _ h => h)
    obtain ⟨v2, us2, h4⟩ := h2
    rw [HE.out]
    exact ⟨rfl, ⟨v2, us2, h4.grow (fun j hj => by
      rcases hj with hj | hj
      · exact .inl hj
      · exact .inr ⟨Nat.le_trans HT.out.size hj.1, hj.2⟩) (fun j hj => Gw.size h3.size H.out.lt hj)⟩, h3⟩
theorem box_cells {b : Nat} {v0 v1 v2 : Value} (h : w.heap[b]? = some (.cells #[v0, v1, v2] 43 (0, 0))) : w.cell? ⟨b, 0, none⟩ = some v0 ∧ w.cell? ⟨b, 1, none⟩ = some v1 ∧ w.cell? ⟨b, 2, none⟩ = some v2 := by
  refine ⟨?_, ?_, ?_⟩ <;> simp [World.cell?, h]
end
end Go.Proofs.YtkilkhnoldfhcaaGreatDoor
namespace Go.Proofs.YtkilkhnoldfhcaaGreatDoor
open Go.RowKit
theorem get_tearN_at {picks : List Int} {f : Ent Fi} {k : Nat} (hk : k < f.length) : ∃ h : k < (tearN picks f k).length, (tearN picks f k)[k] = f[k] := by
  have hl : (tearN picks f k).length = f.length := by rw [← length_names, names_tearN, length_names]
  refine ⟨by rw [hl]; exact hk, ?_⟩
  rw [List.getElem_eq_iff]
  unfold tearN
  have h1 : (tear picks 0 (f.take k)).length = k := by rw [length_tear, List.length_take]; omega
  rw [List.getElem?_append_right (by omega), h1, List.getElem?_drop]
  simp [hk]
section
variable {C D S : Nat → Prop} {w w' : World} {a : Nat} {d : Dk} {v : Value} {us : List (Nm × Value × Int)} {s : Nm} {x : Fi}
theorem _root_.Go.World.ownsRow.drewn {w : World} {B n : Nat} {u : Value} {xs : List Value} (h : w.ownsRow B 5 1 u n xs) : w.drew.ownsRow B 5 1 u n xs := own_below h (Below.refl _ _).drew
set_option maxRecDepth 100000 in
set_option maxHeartbeats 8000000 in
theorem rcrash_any {po : Option Addr} {pn pc : Nat} {picks : List Int} {E : Nat → Prop} (h : RAt C w a d v us) (hp : SI E w po pn pc picks) (hE : ∀ k, E k → ¬ C k) :
    Calls Tryz.prog 43 #[ptr a, .slice po pn pc] w fun e w' => e = .returned (.tuple #[]) ∧ RK (Gw C w w') w' a (d.crash picks) ∧ Tn C w w' := by
  obtain rfl : pn = picks.length := hp.len
  have H := Lib.hid h
  have HP := Lib.hid hp
  have HE := Lib.hid hE
  have hfew := h.ok.few
  have hplt := hp.lt
  clear h hp hE
  go_enter Tryz.func43, Tryz.ntmps43
  go_wp2
  go_loopw [4, 5, 6, 7, 8] (fun t i _ _ _ wr => ∃ k : Nat, k ≤ d.f.length ∧ i = .int .i64 k ∧ t = .int .i64 (lc (d.f.take k) : Nat) ∧ Hid (∃ v' us', RAt (Gw C w wr) wr a { d with f := tearN picks d.f k } v' us') ∧ Hid (Tn C w wr)) (fun _ i _ _ _ _ => d.f.length - (intOf i).toNat)
  case atStart => exact ⟨0, Nat.zero_le _, rfl, rfl, ⟨v, us, H.out.grow (gw_self C w w) (fun j hj => Gw.size (Nat.le_refl _) H.out.lt hj)⟩, Tn.refl _ _⟩
  case round =>
    obtain ⟨k, hk, rfl, rfl, HD, HTN⟩ := hrel
    obtain ⟨v', us', hd⟩ := HD.out
    have hll : (fvs (tearN picks d.f k)).length = d.f.length := by rw [fvs_length, ← length_names, names_tearN, length_names]
    have c0 := hd.c0
    obtain ⟨vo, vc, rfl⟩ := own_slice hd.fo.own
    have HDD := Lib.hid hd
    simp only [hll] at c0
    clear HD
    by_cases hlt : k < d.f.length
    · obtain ⟨⟨s, x⟩, hsx⟩ : ∃ p, d.f[k] = p := ⟨_, rfl⟩
      obtain ⟨hk1, hs1⟩ := get_tearN_at (picks := picks) hlt
      rw [hsx] at hs1
      have hstep := lc_step hlt hsx
      have hsm : (s, x) ∈ d.f := by rw [← hsx]; exact List.getElem_mem _
      have hsafe := H.out.ok.safe _ hsm
      simp only at hsafe
      have hxl := get_tot H.out.ok.rising (mem_get H.out.ok.rising hsm)
      have hroom := H.out.ok.room
      have hlc := lc_le (d.f.take k)
      have htk : (d.f.take k).length ≤ k := List.length_take_le _ _
      have HXL : Hid (x.data.length ≤ 4194304) := by have : x.data.length ≤ 4194304 := by omega
                                                     exact this
      have htc : lc (d.f.take k) ≤ 1000 := by omega
      have HSTEP : Hid (x.data.length ≠ x.safe → tearN picks d.f (k + 1) = upd (tearN picks d.f k) s fun _ => torn picks (lc (d.f.take k)) x) := fun he => tearN_step H.out.ok.rising hlt hsx he
      have HSAME : Hid (x.data.length = x.safe → tearN picks d.f (k + 1) = tearN picks d.f k) := fun he => tearN_same hlt hsx he
      have HOK : Hid (Okr { d with f := tearN picks d.f (k + 1) }) := ok_tearN H.out.ok
      obtain ⟨g, cap, bo, bc, hv, g0, g1, g2, hu, hCu⟩ := hd.elem hk1 hs1
      injection hv with e1 e2 e3
      subst e1; subst e3
      generalize hlcv : lc (d.f.take k) = tc at *
      have HST := Lib.hid hstep
      have HS1 := Lib.hid hs1
      have HU := Lib.hid hu
      have hbc := own_cap hu
      have hsub : IntKind.i64.wrap ((x.data.length : Int) - (x.safe : Int)) = ((x.data.length - x.safe : Nat) : Int) := by rw [wrap_in (by omega)]; omega
      have HCG : Hid (g < w.heap.size → C g) := by
        have hg := hd.fo.row g rfl
        exact fun hl => hg.elim id (fun e => by omega)
      have HGB : Hid (g ≠ wr.heap.size) := by
        have hg := hd.lt g (hd.fo.row g rfl)
        have : g ≠ wr.heap.size := by omega
        exact this
      have HGA : Hid (g ≠ a) := hd.ne.1 g rfl
      clear hd hsx hlcv hstep hs1 hsm hxl hlc hroom htk e2 hCu hu hll
      go_upto_region 5 with (fail)
      have HBB := Lib.hid (below1 wr (.cells #[nmv s, .slice bo x.data.length bc, .int .i64 (x.safe : Int)] 43))
      have HBX := Lib.hid (heap_alloc_new wr (.cells #[nmv s, .slice bo x.data.length bc, .int .i64 (x.safe : Int)] 43))
      have hbz : wr.heap.size < (wr.alloc (.cells #[nmv s, .slice bo x.data.length bc, .int .i64 (x.safe : Int)] 43)).heap.size := by simp
      have HBS := Lib.hid hbz
      clear hbz
      generalize wr.alloc (.cells #[nmv s, .slice bo x.data.length bc, .int .i64 (x.safe : Int)] 43) = wB at *
      have H2 := Lib.hid (HDD.out.below HBB.out)
      have HC0 : Hid (wB.cell? ⟨a, 0, none⟩ = some (.slice (some ⟨g, 0, none⟩) d.f.length vc)) := (HBB.out.cell (p := ⟨a, 0, none⟩) (HDD.out.lt a HDD.out.ca)).trans c0
      obtain ⟨_, b1, b2⟩ := box_cells HBX.out
      have HB1 := Lib.hid b1
      have HB2 := Lib.hid b2
      have HZ : Hid (∀ o, wB.frozen? ⟨g, o, none⟩ = false) := by
        obtain ⟨cur, hcur⟩ := own_at H2.out.fo.own (k := g) rfl
        exact fun _ => frozen_zero hcur
      have HAS : Hid (a < wB.drew.heap.size) := H2.out.lt a H2.out.ca
      have HGS : Hid (g < wB.drew.heap.size) := H2.out.lt g (H2.out.fo.row g rfl)
      have HG1 : Hid (wB.cell? ⟨g, k * 3 + 1, none⟩ = some (.slice bo x.data.length bc)) := (HBB.out.cell (p := ⟨g, k * 3 + 1, none⟩) (HDD.out.lt g (HDD.out.fo.row g rfl))).trans g1
      have HG2 : Hid (wB.cell? ⟨g, k * 3 + 2, none⟩ = some (.int .i64 (x.safe : Int))) := (HBB.out.cell (p := ⟨g, k * 3 + 2, none⟩) (HDD.out.lt g (HDD.out.fo.row g rfl))).trans g2
      clear c0 g0 g1 g2
      have c0 := HC0.out
      by_cases hz : x.data.length = x.safe
      · have hb : (((x.data.length - x.safe : Nat) : Int) == 0) = true := by rw [hz]; simp
        have HSM := Lib.hid (HSAME.out hz)
        have HNZ := Lib.hid hz
        have HD5 : Hid (∃ v' us', RAt (Gw C w wB) wB a { d with f := tearN picks d.f (k + 1) } v' us') := by
          show ∃ _ _, _
          rw [HSM.out]
          exact ⟨_, _, H2.out.grow (fun j hj => hj.elim .inl (fun e => .inr ⟨e.1, Nat.lt_of_lt_of_le e.2 HBB.out.size⟩)) (fun j hj => Gw.size (Nat.le_trans HTN.out.size HBB.out.size) H.out.lt hj)⟩
        have HT5 : Hid (Tn C w wB) := HTN.out.trans (Tn.of_below (S := C) HBB.out) (fun _ _ h => h)
        clear hz
        go_wp2
        go_roundw
        case rel => exact ⟨k + 1, by omega, by go_num, by rw [HST.out, if_pos HNZ.out]; rfl, HD5.out, HT5.out⟩
        case measure => simp [intOf]; omega
      · have hb : (((x.data.length - x.safe : Nat) : Int) == 0) = false := by simp; omega
        have HNZ := Lib.hid hz
        have hxl2 := HXL.out
        by_cases hpk : picks.length ≤ tc
        · have hkq : kept picks tc (x.data.length - x.safe) = 0 := if_pos (.inl (by omega))
          obtain ⟨M, hMM⟩ : ∃ M, x.safe + 0 = M := ⟨_, rfl⟩
          have hM0 : (x.safe : Int) = (M : Int) := by omega
          have hw1 : IntKind.i64.wrap ((x.safe : Int) + 0) = (M : Int) := by rw [wrap_in (by omega)]; omega
          have hw2 : IntKind.i64.wrap (x.safe : Int) = (M : Int) := by rw [wrap_in (by omega)]; omega
          have hM : M ≤ x.data.length := by omega
          have HUP : Hid (tearN picks d.f (k + 1) = upd (tearN picks d.f k) s fun _ => ⟨x.data.take M, M⟩) := by
            have h1 := HSTEP.out HNZ.out
            unfold torn at h1
            rw [hkq, hMM] at h1
            exact h1
          have HSB := Lib.hid ((own_sb ((own_below HU.out HBB.out).drewn)).top hM)
          have hcond : (0 : Int) ≤ (M : Int) ∧ (M : Int) ≤ (bc : Int) := by omega
          have hm2 : M ≤ 140737488355328 := by have := HXL.out; omega
          have HML := Lib.hid hM
          replace hM0 := Lib.hid hM0
          clear hkq hMM hM
          go_upto_region 10 with (fail)
          clear c0 b1 b2 hb hsub
          have c0 : wB.drew.cell? ⟨a, 0, none⟩ = some (.slice (some ⟨g, 0, none⟩) d.f.length vc) := HC0.out
          have b1 : wB.drew.cell? ⟨wr.heap.size, 1, none⟩ = some (.slice bo x.data.length bc) := HB1.out
          have b2 : wB.drew.cell? ⟨wr.heap.size, 2, none⟩ = some (.int .i64 (x.safe : Int)) := HB2.out
          have g1 : wB.drew.cell? ⟨g, k * 3 + 1, none⟩ = some (.slice bo x.data.length bc) := HG1.out
          have g2 : wB.drew.cell? ⟨g, k * 3 + 2, none⟩ = some (.int .i64 (x.safe : Int)) := HG2.out
          have hz1 : wB.drew.frozen? ⟨g, k * 3 + 1, none⟩ = false := HZ.out (k * 3 + 1)
          have hz2 : wB.drew.frozen? ⟨g, k * 3 + 2, none⟩ = false := HZ.out (k * 3 + 2)
          refine wp_region_held (S := (fun w' => w'.cell? ⟨a, 0, none⟩ = some (.slice (some ⟨g, 0, none⟩) d.f.length vc) ∧ w'.cell? ⟨wr.heap.size, 1, none⟩ = some (.slice bo x.data.length bc) ∧ w'.cell? ⟨wr.heap.size, 2, none⟩ = some (.int .i64 (x.safe : Int)))) (by kernel_rfl) ?_
          change wpAnyH _ _ _ _ _ _ _ _ (World.drew _)
          refine wpAnyH_take (i := 0) (v := ?va_0) rfl (by kernel_rfl) (by kernel_rfl) (by kernel_rfl) (fun _ _ _ h => h) (Or.inl ⟨by rfl, ?ya_0⟩) ⟨c0, b1, b2⟩ ?ra_0
          case ya_0 => (intro W hSw; (try dsimp only at hSw); obtain ⟨q0, q1, q2⟩ := hSw; first | (go_simp; done) | (go_simp; with_reducible rfl))
          try go_simp
          refine wpAnyH_take (i := 1) (v := ?va_1) rfl (by kernel_rfl) (by kernel_rfl) (by kernel_rfl) (fun _ _ _ h => h) (Or.inl ⟨by rfl, ?ya_1⟩) ⟨c0, b1, b2⟩ ?ra_1
          case ya_1 => (intro W hSw; (try dsimp only at hSw); obtain ⟨q0, q1, q2⟩ := hSw; first | (go_simp; done) | (go_simp; with_reducible rfl))
          try go_simp
          refine wpAnyH_take (i := 2) (v := ?va_2) rfl (by kernel_rfl) (by kernel_rfl) (by kernel_rfl) (fun _ _ _ h => h) (Or.inl ⟨by rfl, ?ya_2⟩) ⟨c0, b1, b2⟩ ?ra_2
          case ya_2 => (intro W hSw; (try dsimp only at hSw); obtain ⟨q0, q1, q2⟩ := hSw; first | (go_simp; done) | (go_simp; with_reducible rfl))
          try go_simp
          refine wpAnyH_take (i := 3) (v := ?va_3) rfl (by kernel_rfl) (by kernel_rfl) (by kernel_rfl) (fun _ _ _ h => h) (Or.inl ⟨by rfl, ?ya_3⟩) ⟨c0, b1, b2⟩ ?ra_3
          case ya_3 => (intro W hSw; (try dsimp only at hSw); obtain ⟨q0, q1, q2⟩ := hSw; first | (go_simp; done) | (go_simp; with_reducible rfl))
          try go_simp
          refine wpAnyH_take (i := 4) (v := ?va_4) rfl (by kernel_rfl) (by kernel_rfl) (by kernel_rfl) (fun _ _ _ h => h) (Or.inl ⟨by rfl, ?ya_4⟩) ⟨c0, b1, b2⟩ ?ra_4
          case ya_4 => (intro W hSw; (try dsimp only at hSw); obtain ⟨q0, q1, q2⟩ := hSw; first | (go_simp; done) | (go_simp; with_reducible rfl))
          try go_simp
          refine wpAnyH_take (i := 5) (v := ?va_5) rfl (by kernel_rfl) (by kernel_rfl) (by kernel_rfl) (fun _ _ _ h => h) (Or.inl ⟨by rfl, ?ya_5⟩) ⟨c0, b1, b2⟩ ?ra_5
          case ya_5 => (intro W hSw; (try dsimp only at hSw); obtain ⟨q0, q1, q2⟩ := hSw; first | (go_simp; done) | (go_simp; with_reducible rfl))
          try go_simp
          refine wpAnyH_take (i := 6) (v := ?va_6) rfl (by kernel_rfl) (by kernel_rfl) (by kernel_rfl) (fun _ _ _ h => h) (Or.inl ⟨by rfl, ?ya_6⟩) ⟨c0, b1, b2⟩ ?ra_6
          case ya_6 => (intro W hSw; (try dsimp only at hSw); obtain ⟨q0, q1, q2⟩ := hSw; first | (go_simp; done) | (go_simp; with_reducible rfl))
          try go_simp
          refine wpAnyH_take (i := 7) (v := ?va_7) rfl (by kernel_rfl) (by kernel_rfl) (by kernel_rfl) (fun _ _ _ h => h) (Or.inl ⟨by rfl, ?ya_7⟩) ⟨c0, b1, b2⟩ ?ra_7
          case ya_7 => (intro W hSw; (try dsimp only at hSw); obtain ⟨q0, q1, q2⟩ := hSw; first | (go_simp; done) | (go_simp; with_reducible rfl))
          try go_simp
          refine wpAnyH_take (i := 8) (v := ?va_8) rfl (by kernel_rfl) (by kernel_rfl) (by kernel_rfl) (fun _ _ _ h => h) (Or.inl ⟨by rfl, ?ya_8⟩) ⟨c0, b1, b2⟩ ?ra_8
          case ya_8 => (intro W hSw; (try dsimp only at hSw); obtain ⟨q0, q1, q2⟩ := hSw; first | (go_simp; done) | (go_simp; with_reducible rfl))
          try go_simp
          refine wpAnyH_take (i := 9) (v := ?va_9) rfl (by kernel_rfl) (by kernel_rfl) (by kernel_rfl) (fun _ _ _ h => h) (Or.inl ⟨by rfl, ?ya_9⟩) ⟨c0, b1, b2⟩ ?ra_9
          case ya_9 => (intro W hSw; (try dsimp only at hSw); obtain ⟨q0, q1, q2⟩ := hSw; first | (go_simp; done) | (go_simp; with_reducible rfl))
          try go_simp
          refine wpAnyH_take (i := 10) (v := ?va_10) rfl (by kernel_rfl) (by kernel_rfl) (by kernel_rfl) (fun _ _ _ h => h) (Or.inl ⟨by rfl, ?ya_10⟩) ⟨c0, b1, b2⟩ ?ra_10
          case ya_10 => (intro W hSw; (try dsimp only at hSw); obtain ⟨q0, q1, q2⟩ := hSw; first | (go_simp; done) | (go_simp; with_reducible rfl))
          try go_simp
          refine wpAnyH_take (i := 11) (v := ?va_11) rfl (by kernel_rfl) (by kernel_rfl) (by kernel_rfl) (fun _ _ _ h => h) (Or.inl ⟨by rfl, ?ya_11⟩) ⟨c0, b1, b2⟩ ?ra_11
          case ya_11 => (intro W hSw; (try dsimp only at hSw); obtain ⟨q0, q1, q2⟩ := hSw; first | (go_simp; done) | (go_simp; with_reducible rfl))
          try go_simp
          refine wpAnyH_ready (rs := [12]) (by kernel_rfl) (by simp) ?_
          refine AllReadyH.cons rfl (fun K hK => ?_) AllReadyH.nil
          go_simp
          (go_wp2_with (first | (go_at_call 26; (refine (copyBytes_any HSB.out hm2).mono ?_); rintro e w3 ⟨o3, k3, rfl, ho3, hb3⟩; have HO3 := Lib.hid ho3; have HB3 := Lib.hid hb3; have p0 := (hb3.cell (p := ⟨a, 0, none⟩) HAS.out).trans c0; have p1 := (hb3.cell (p := ⟨wr.heap.size, 1, none⟩) HBS.out).trans b1; have p2 := (hb3.cell (p := ⟨wr.heap.size, 2, none⟩) HBS.out).trans b2; have p3 := (hb3.cell (p := ⟨g, k * 3 + 1, none⟩) HGS.out).trans g1; have p4 := (hb3.cell (p := ⟨g, k * 3 + 2, none⟩) HGS.out).trans g2; have fz1 := (hb3.frozen (p := ⟨g, k * 3 + 1, none⟩) HGS.out).trans hz1; have fz2 := (hb3.frozen (p := ⟨g, k * 3 + 2, none⟩) HGS.out).trans hz2; have H3 := Lib.hid ((H2.out.below (Below.refl _ wB).drew).below hb3); clear ho3 hb3)))
          refine hK.out _ _ ⟨p0, p1, p2⟩ (fun _ => ?_)
          clear hK K
          try go_simp
          refine wpAnyH_take (i := 13) (v := ?va_13) rfl (by kernel_rfl) (by kernel_rfl) (by kernel_rfl) (fun _ _ _ h => h) (Or.inl ⟨by rfl, ?ya_13⟩) ⟨p0, p1, p2⟩ ?ra_13
          case ya_13 => (intro W hSw; (try dsimp only at hSw); obtain ⟨q0, q1, q2⟩ := hSw; first | (go_simp; done) | (go_simp; with_reducible rfl))
          try go_simp
          refine wpAnyH_take (i := 14) (v := ?va_14) rfl (by kernel_rfl) (by kernel_rfl) (by kernel_rfl) (fun _ _ _ h => h) (Or.inl ⟨by rfl, ?ya_14⟩) ⟨p0, p1, p2⟩ ?ra_14
          case ya_14 => (intro W hSw; (try dsimp only at hSw); obtain ⟨q0, q1, q2⟩ := hSw; first | (go_simp; done) | (go_simp; with_reducible rfl))
          try go_simp
          have r0 := (World.cell?_setCell_far w3 ⟨g, k * 3 + 1, none⟩ ⟨a, 0, none⟩ (.slice o3 M k3) HGA.out).trans p0
          have r1 := (World.cell?_setCell_far w3 ⟨g, k * 3 + 1, none⟩ ⟨wr.heap.size, 1, none⟩ (.slice o3 M k3) HGB.out).trans p1
          have r2 := (World.cell?_setCell_far w3 ⟨g, k * 3 + 1, none⟩ ⟨wr.heap.size, 2, none⟩ (.slice o3 M k3) HGB.out).trans p2
          refine wpAnyH_ready (rs := [15]) (by kernel_rfl) (by simp) ?_
          refine AllReadyH.cons rfl (fun K hK => ?_) AllReadyH.nil
          go_simp
          refine hK.out _ _ ⟨r0, r1, r2⟩ (fun _ => ?_)
          clear hK K
          try go_simp
          refine wpAnyH_done (by kernel_rfl) ?_ _
          try go_wp2
          have rz : (w3.setCell ⟨g, k * 3 + 1, none⟩ (.slice o3 M k3)).frozen? ⟨g, k * 3 + 2, none⟩ = false := by rw [World.frozen?_setCell]; exact fz2
          have r4 := (World.cell?_setCell_other (w := w3) (a := ⟨g, k * 3 + 1, none⟩) (b := ⟨g, k * 3 + 2, none⟩) (v := .slice o3 M k3) (by simp)).trans p4
          clear p0 p1 p2 p3 p4 fz1 fz2 c0 b1 b2 g1 g2 hz1 hz2
          obtain ⟨W, hW⟩ : ∃ W, W = w3.setCell ⟨g, k * 3 + 1, none⟩ (.slice o3 M k3) := ⟨_, rfl⟩
          rw [← hW] at r0 r1 r2 r4 rz ⊢
          have HW := Lib.hid hW
          clear hW
          refine wp_region_still_tail 11 (by kernel_rfl) (by kernel_rfl) ?_
          simp only [List.take_succ_cons, List.take_zero, List.drop_succ_cons, List.drop_zero]
          iterate 11 still_step
          refine wpStill_nil ?_
          change wpList _ _ _ _ _ W.drew
          go_wp2
          have hW := HW.out
          subst hW
          have hy : (x.data.take M).length = M := by rw [List.length_take]; have := HML.out; omega
          obtain ⟨us5, h5⟩ := RAt.both (D := Gw C w w3) (y := ⟨x.data.take M, M⟩) (u := .slice o3 M k3) (d' := { d with f := tearN picks d.f (k + 1) }) H3.out hk1 HS1.out (by rw [hy]; exact own_mono HO3.out (Nat.zero_le _)) HUP.out rfl rfl rfl HOK.out (fun j hj => by
            rcases hj with hj | hj
            · exact .inl hj
            · exact .inr ⟨hj.1, Nat.lt_of_lt_of_le hj.2 (Nat.le_trans HBB.out.size HB3.out.size)⟩) (fun j hj => .inr ⟨Nat.le_trans (Nat.le_trans HTN.out.size HBB.out.size) (HO3.out.lt j hj).1, (HO3.out.lt j hj).2⟩) (fun j hj => Gw.size (Nat.le_trans HTN.out.size (Nat.le_trans HBB.out.size HB3.out.size)) H.out.lt hj)
          have h6 : Tn C w (((w3.setCell ⟨g, k * 3 + 1, none⟩ (.slice o3 M k3)).setCell ⟨g, k * 3 + 2, none⟩ (.int .i64 (M : Int)))) := ((HTN.out.trans (Tn.of_below (S := C) (HBB.out.trans (((Below.refl _ wB).drew.trans HB3.out).mono HBB.out.size))) (fun _ _ h => h)).setCell (fun hlt => HCG.out hlt) _).setCell (fun hlt => HCG.out hlt) _
          have h7 := (h5.grow (D := Gw C w ((w3.setCell ⟨g, k * 3 + 1, none⟩ (.slice o3 M k3)).setCell ⟨g, k * 3 + 2, none⟩ (.int .i64 (M : Int))).drew) (fun j hj => by rcases hj with hj | hj; exact .inl hj; exact .inr ⟨hj.1, by simpa using hj.2⟩) (fun j hj => Gw.size h6.size H.out.lt hj)).below (Below.refl _ _).drew
          have HD5 := Lib.hid h7
          have HT5 := Lib.hid h6.drew
          clear h5 h6 h7 r0 r1 r2 r4 rz
          go_roundw
          case rel => exact ⟨k + 1, by omega, by go_num, by rw [HST.out, if_neg HNZ.out]; go_num, ⟨_, _, HD5.out⟩, HT5.out⟩
          case measure => simp [intOf]; omega
        have hpt : tc < picks.length := by omega
        obtain ⟨pb, pf, rfl, hpc⟩ : ∃ b off, po = some ⟨b, off, none⟩ ∧ wB.cell? ⟨b, off + tc, none⟩ = some (.int .i64 (picks.getD tc 0)) := by
          rcases ((HP.out.tn HTN.out HE.out).below HBB.out).cells with h0 | ⟨b, off, h1, _, hc⟩
          · omega
          · exact ⟨b, off, h1, hc tc hpt⟩
        have hpw := HP.out.wf (picks.getD tc 0) (by rw [List.getD_eq_getElem?_getD, List.getElem?_eq_getElem (by omega)]; exact List.getElem_mem _)
        generalize hgp : picks.getD tc 0 = p at *
        by_cases hp0 : p ≤ 0
        · have hkq : kept picks tc (x.data.length - x.safe) = 0 := by
            unfold kept
            by_cases hp1 : p < 0
            · rw [if_pos (.inr (by rw [hgp]; exact hp1))]
            · rw [if_neg (by rw [hgp]; omega), hgp, show p.toNat = 0 by omega, Nat.zero_mod]
          obtain ⟨M, hMM⟩ : ∃ M, x.safe + 0 = M := ⟨_, rfl⟩
          have hM0 : (x.safe : Int) = (M : Int) := by omega
          have hw1 : IntKind.i64.wrap ((x.safe : Int) + 0) = (M : Int) := by rw [wrap_in (by omega)]; omega
          have hw2 : IntKind.i64.wrap (x.safe : Int) = (M : Int) := by rw [wrap_in (by omega)]; omega
          have hM : M ≤ x.data.length := by omega
          have HUP : Hid (tearN picks d.f (k + 1) = upd (tearN picks d.f k) s fun _ => ⟨x.data.take M, M⟩) := by
            have h1 := HSTEP.out HNZ.out
            unfold torn at h1
            rw [hkq, hMM] at h1
            exact h1
          have HSB := Lib.hid ((own_sb ((own_below HU.out HBB.out).drewn)).top hM)
          have hcond : (0 : Int) ≤ (M : Int) ∧ (M : Int) ≤ (bc : Int) := by omega
          have hm2 : M ≤ 140737488355328 := by have := HXL.out; omega
          have HML := Lib.hid hM
          replace hM0 := Lib.hid hM0
          replace hgp := Lib.hid hgp
          have hdp : decide (0 < p) = false := decide_eq_false (by omega)
          have hpt2 : tc < picks.length := by omega
          clear hkq hMM hM
          go_upto_region 10 with (fail)
          clear c0 b1 b2 hb hsub
          have c0 : wB.drew.cell? ⟨a, 0, none⟩ = some (.slice (some ⟨g, 0, none⟩) d.f.length vc) := HC0.out
          have b1 : wB.drew.cell? ⟨wr.heap.size, 1, none⟩ = some (.slice bo x.data.length bc) := HB1.out
          have b2 : wB.drew.cell? ⟨wr.heap.size, 2, none⟩ = some (.int .i64 (x.safe : Int)) := HB2.out
          have g1 : wB.drew.cell? ⟨g, k * 3 + 1, none⟩ = some (.slice bo x.data.length bc) := HG1.out
          have g2 : wB.drew.cell? ⟨g, k * 3 + 2, none⟩ = some (.int .i64 (x.safe : Int)) := HG2.out
          have hz1 : wB.drew.frozen? ⟨g, k * 3 + 1, none⟩ = false := HZ.out (k * 3 + 1)
          have hz2 : wB.drew.frozen? ⟨g, k * 3 + 2, none⟩ = false := HZ.out (k * 3 + 2)
          refine wp_region_held (S := (fun w' => w'.cell? ⟨a, 0, none⟩ = some (.slice (some ⟨g, 0, none⟩) d.f.length vc) ∧ w'.cell? ⟨wr.heap.size, 1, none⟩ = some (.slice bo x.data.length bc) ∧ w'.cell? ⟨wr.heap.size, 2, none⟩ = some (.int .i64 (x.safe : Int)))) (by kernel_rfl) ?_
          change wpAnyH _ _ _ _ _ _ _ _ (World.drew _)
          refine wpAnyH_take (i := 0) (v := ?vb_0) rfl (by kernel_rfl) (by kernel_rfl) (by kernel_rfl) (fun _ _ _ h => h) (Or.inl ⟨by rfl, ?yb_0⟩) ⟨c0, b1, b2⟩ ?rb_0
          case yb_0 => (intro W hSw; (try dsimp only at hSw); obtain ⟨q0, q1, q2⟩ := hSw; first | (go_simp; done) | (go_simp; with_reducible rfl))
          try go_simp
          refine wpAnyH_take (i := 1) (v := ?vb_1) rfl (by kernel_rfl) (by kernel_rfl) (by kernel_rfl) (fun _ _ _ h => h) (Or.inl ⟨by rfl, ?yb_1⟩) ⟨c0, b1, b2⟩ ?rb_1
          case yb_1 => (intro W hSw; (try dsimp only at hSw); obtain ⟨q0, q1, q2⟩ := hSw; first | (go_simp; done) | (go_simp; with_reducible rfl))
          try go_simp
          refine wpAnyH_take (i := 2) (v := ?vb_2) rfl (by kernel_rfl) (by kernel_rfl) (by kernel_rfl) (fun _ _ _ h => h) (Or.inl ⟨by rfl, ?yb_2⟩) ⟨c0, b1, b2⟩ ?rb_2
          case yb_2 => (intro W hSw; (try dsimp only at hSw); obtain ⟨q0, q1, q2⟩ := hSw; first | (go_simp; done) | (go_simp; with_reducible rfl))
          try go_simp
          refine wpAnyH_take (i := 3) (v := ?vb_3) rfl (by kernel_rfl) (by kernel_rfl) (by kernel_rfl) (fun _ _ _ h => h) (Or.inl ⟨by rfl, ?yb_3⟩) ⟨c0, b1, b2⟩ ?rb_3
          case yb_3 => (intro W hSw; (try dsimp only at hSw); obtain ⟨q0, q1, q2⟩ := hSw; first | (go_simp; done) | (go_simp; with_reducible rfl))
          try go_simp
          refine wpAnyH_take (i := 4) (v := ?vb_4) rfl (by kernel_rfl) (by kernel_rfl) (by kernel_rfl) (fun _ _ _ h => h) (Or.inl ⟨by rfl, ?yb_4⟩) ⟨c0, b1, b2⟩ ?rb_4
          case yb_4 => (intro W hSw; (try dsimp only at hSw); obtain ⟨q0, q1, q2⟩ := hSw; first | (go_simp; done) | (go_simp; with_reducible rfl))
          try go_simp
          refine wpAnyH_take (i := 5) (v := ?vb_5) rfl (by kernel_rfl) (by kernel_rfl) (by kernel_rfl) (fun _ _ _ h => h) (Or.inl ⟨by rfl, ?yb_5⟩) ⟨c0, b1, b2⟩ ?rb_5
          case yb_5 => (intro W hSw; (try dsimp only at hSw); obtain ⟨q0, q1, q2⟩ := hSw; first | (go_simp; done) | (go_simp; with_reducible rfl))
          try go_simp
          refine wpAnyH_take (i := 6) (v := ?vb_6) rfl (by kernel_rfl) (by kernel_rfl) (by kernel_rfl) (fun _ _ _ h => h) (Or.inl ⟨by rfl, ?yb_6⟩) ⟨c0, b1, b2⟩ ?rb_6
          case yb_6 => (intro W hSw; (try dsimp only at hSw); obtain ⟨q0, q1, q2⟩ := hSw; first | (go_simp; done) | (go_simp; with_reducible rfl))
          try go_simp
          refine wpAnyH_take (i := 7) (v := ?vb_7) rfl (by kernel_rfl) (by kernel_rfl) (by kernel_rfl) (fun _ _ _ h => h) (Or.inl ⟨by rfl, ?yb_7⟩) ⟨c0, b1, b2⟩ ?rb_7
          case yb_7 => (intro W hSw; (try dsimp only at hSw); obtain ⟨q0, q1, q2⟩ := hSw; first | (go_simp; done) | (go_simp; with_reducible rfl))
          try go_simp
          refine wpAnyH_take (i := 8) (v := ?vb_8) rfl (by kernel_rfl) (by kernel_rfl) (by kernel_rfl) (fun _ _ _ h => h) (Or.inl ⟨by rfl, ?yb_8⟩) ⟨c0, b1, b2⟩ ?rb_8
          case yb_8 => (intro W hSw; (try dsimp only at hSw); obtain ⟨q0, q1, q2⟩ := hSw; first | (go_simp; done) | (go_simp; with_reducible rfl))
          try go_simp
          refine wpAnyH_take (i := 9) (v := ?vb_9) rfl (by kernel_rfl) (by kernel_rfl) (by kernel_rfl) (fun _ _ _ h => h) (Or.inl ⟨by rfl, ?yb_9⟩) ⟨c0, b1, b2⟩ ?rb_9
          case yb_9 => (intro W hSw; (try dsimp only at hSw); obtain ⟨q0, q1, q2⟩ := hSw; first | (go_simp; done) | (go_simp; with_reducible rfl))
          try go_simp
          refine wpAnyH_take (i := 10) (v := ?vb_10) rfl (by kernel_rfl) (by kernel_rfl) (by kernel_rfl) (fun _ _ _ h => h) (Or.inl ⟨by rfl, ?yb_10⟩) ⟨c0, b1, b2⟩ ?rb_10
          case yb_10 => (intro W hSw; (try dsimp only at hSw); obtain ⟨q0, q1, q2⟩ := hSw; first | (go_simp; done) | (go_simp; with_reducible rfl))
          try go_simp
          refine wpAnyH_take (i := 11) (v := ?vb_11) rfl (by kernel_rfl) (by kernel_rfl) (by kernel_rfl) (fun _ _ _ h => h) (Or.inl ⟨by rfl, ?yb_11⟩) ⟨c0, b1, b2⟩ ?rb_11
          case yb_11 => (intro W hSw; (try dsimp only at hSw); obtain ⟨q0, q1, q2⟩ := hSw; first | (go_simp; done) | (go_simp; with_reducible rfl))
          try go_simp
          refine wpAnyH_ready (rs := [12]) (by kernel_rfl) (by simp) ?_
          refine AllReadyH.cons rfl (fun K hK => ?_) AllReadyH.nil
          go_simp
          (go_wp2_with (first | (go_at_call 26; (refine (copyBytes_any HSB.out hm2).mono ?_); rintro e w3 ⟨o3, k3, rfl, ho3, hb3⟩; have HO3 := Lib.hid ho3; have HB3 := Lib.hid hb3; have p0 := (hb3.cell (p := ⟨a, 0, none⟩) HAS.out).trans c0; have p1 := (hb3.cell (p := ⟨wr.heap.size, 1, none⟩) HBS.out).trans b1; have p2 := (hb3.cell (p := ⟨wr.heap.size, 2, none⟩) HBS.out).trans b2; have p3 := (hb3.cell (p := ⟨g, k * 3 + 1, none⟩) HGS.out).trans g1; have p4 := (hb3.cell (p := ⟨g, k * 3 + 2, none⟩) HGS.out).trans g2; have fz1 := (hb3.frozen (p := ⟨g, k * 3 + 1, none⟩) HGS.out).trans hz1; have fz2 := (hb3.frozen (p := ⟨g, k * 3 + 2, none⟩) HGS.out).trans hz2; have H3 := Lib.hid ((H2.out.below (Below.refl _ wB).drew).below hb3); clear ho3 hb3)))
          refine hK.out _ _ ⟨p0, p1, p2⟩ (fun _ => ?_)
          clear hK K
          try go_simp
          refine wpAnyH_take (i := 13) (v := ?vb_13) rfl (by kernel_rfl) (by kernel_rfl) (by kernel_rfl) (fun _ _ _ h => h) (Or.inl ⟨by rfl, ?yb_13⟩) ⟨p0, p1, p2⟩ ?rb_13
          case yb_13 => (intro W hSw; (try dsimp only at hSw); obtain ⟨q0, q1, q2⟩ := hSw; first | (go_simp; done) | (go_simp; with_reducible rfl))
          try go_simp
          refine wpAnyH_take (i := 14) (v := ?vb_14) rfl (by kernel_rfl) (by kernel_rfl) (by kernel_rfl) (fun _ _ _ h => h) (Or.inl ⟨by rfl, ?yb_14⟩) ⟨p0, p1, p2⟩ ?rb_14
          case yb_14 => (intro W hSw; (try dsimp only at hSw); obtain ⟨q0, q1, q2⟩ := hSw; first | (go_simp; done) | (go_simp; with_reducible rfl))
          try go_simp
          have r0 := (World.cell?_setCell_far w3 ⟨g, k * 3 + 1, none⟩ ⟨a, 0, none⟩ (.slice o3 M k3) HGA.out).trans p0
          have r1 := (World.cell?_setCell_far w3 ⟨g, k * 3 + 1, none⟩ ⟨wr.heap.size, 1, none⟩ (.slice o3 M k3) HGB.out).trans p1
          have r2 := (World.cell?_setCell_far w3 ⟨g, k * 3 + 1, none⟩ ⟨wr.heap.size, 2, none⟩ (.slice o3 M k3) HGB.out).trans p2
          refine wpAnyH_ready (rs := [15]) (by kernel_rfl) (by simp) ?_
          refine AllReadyH.cons rfl (fun K hK => ?_) AllReadyH.nil
          go_simp
          refine hK.out _ _ ⟨r0, r1, r2⟩ (fun _ => ?_)
          clear hK K
          try go_simp
          refine wpAnyH_done (by kernel_rfl) ?_ _
          try go_wp2
          have rz : (w3.setCell ⟨g, k * 3 + 1, none⟩ (.slice o3 M k3)).frozen? ⟨g, k * 3 + 2, none⟩ = false := by rw [World.frozen?_setCell]; exact fz2
          have r4 := (World.cell?_setCell_other (w := w3) (a := ⟨g, k * 3 + 1, none⟩) (b := ⟨g, k * 3 + 2, none⟩) (v := .slice o3 M k3) (by simp)).trans p4
          clear p0 p1 p2 p3 p4 fz1 fz2 c0 b1 b2 g1 g2 hz1 hz2
          obtain ⟨W, hW⟩ : ∃ W, W = w3.setCell ⟨g, k * 3 + 1, none⟩ (.slice o3 M k3) := ⟨_, rfl⟩
          rw [← hW] at r0 r1 r2 r4 rz ⊢
          have HW := Lib.hid hW
          clear hW
          refine wp_region_still_tail 11 (by kernel_rfl) (by kernel_rfl) ?_
          simp only [List.take_succ_cons, List.take_zero, List.drop_succ_cons, List.drop_zero]
          iterate 11 still_step
          refine wpStill_nil ?_
          change wpList _ _ _ _ _ W.drew
          go_wp2
          have hW := HW.out
          subst hW
          have hy : (x.data.take M).length = M := by rw [List.length_take]; have := HML.out; omega
          obtain ⟨us5, h5⟩ := RAt.both (D := Gw C w w3) (y := ⟨x.data.take M, M⟩) (u := .slice o3 M k3) (d' := { d with f := tearN picks d.f (k + 1) }) H3.out hk1 HS1.out (by rw [hy]; exact own_mono HO3.out (Nat.zero_le _)) HUP.out rfl rfl rfl HOK.out (fun j hj => by
            rcases hj with hj | hj
            · exact .inl hj
            · exact .inr ⟨hj.1, Nat.lt_of_lt_of_le hj.2 (Nat.le_trans HBB.out.size HB3.out.size)⟩) (fun j hj => .inr ⟨Nat.le_trans (Nat.le_trans HTN.out.size HBB.out.size) (HO3.out.lt j hj).1, (HO3.out.lt j hj).2⟩) (fun j hj => Gw.size (Nat.le_trans HTN.out.size (Nat.le_trans HBB.out.size HB3.out.size)) H.out.lt hj)
          have h6 : Tn C w (((w3.setCell ⟨g, k * 3 + 1, none⟩ (.slice o3 M k3)).setCell ⟨g, k * 3 + 2, none⟩ (.int .i64 (M : Int)))) := ((HTN.out.trans (Tn.of_below (S := C) (HBB.out.trans (((Below.refl _ wB).drew.trans HB3.out).mono HBB.out.size))) (fun _ _ h => h)).setCell (fun hlt => HCG.out hlt) _).setCell (fun hlt => HCG.out hlt) _
          have h7 := (h5.grow (D := Gw C w ((w3.setCell ⟨g, k * 3 + 1, none⟩ (.slice o3 M k3)).setCell ⟨g, k * 3 + 2, none⟩ (.int .i64 (M : Int))).drew) (fun j hj => by rcases hj with hj | hj; exact .inl hj; exact .inr ⟨hj.1, by simpa using hj.2⟩) (fun j hj => Gw.size h6.size H.out.lt hj)).below (Below.refl _ _).drew
          have HD5 := Lib.hid h7
          have HT5 := Lib.hid h6.drew
          clear h5 h6 h7 r0 r1 r2 r4 rz
          go_roundw
          case rel => exact ⟨k + 1, by omega, by go_num, by rw [HST.out, if_neg HNZ.out]; go_num, ⟨_, _, HD5.out⟩, HT5.out⟩
          case measure => simp [intOf]; omega
        · obtain ⟨L, hL⟩ : ∃ L, x.data.length - x.safe = L := ⟨_, rfl⟩
          have hkq : kept picks tc (x.data.length - x.safe) = p.toNat % (L + 1) := by
            unfold kept
            rw [if_neg (by rw [hgp]; omega), hgp, hL]
          have hql := Nat.mod_lt p.toNat (show 0 < L + 1 by omega)
          have hqi : p % (((x.data.length - x.safe : Nat) : Int) + 1) = ((p.toNat % (L + 1) : Nat) : Int) := by rw [hL, Int.natCast_emod, Int.toNat_of_nonneg (by omega)]; rfl
          obtain ⟨q, hq⟩ : ∃ q, p.toNat % (L + 1) = q := ⟨_, rfl⟩
          rw [hq] at hkq hql hqi
          obtain ⟨M, hMM⟩ : ∃ M, x.safe + q = M := ⟨_, rfl⟩
          have hw1 : IntKind.i64.wrap ((x.safe : Int) + (q : Int)) = (M : Int) := by rw [wrap_in (by omega)]; omega
          have hM : M ≤ x.data.length := by omega
          have HUP : Hid (tearN picks d.f (k + 1) = upd (tearN picks d.f k) s fun _ => ⟨x.data.take M, M⟩) := by
            have h1 := HSTEP.out HNZ.out
            unfold torn at h1
            rw [hkq, hMM] at h1
            exact h1
          have HSB := Lib.hid ((own_sb ((own_below HU.out HBB.out).drewn)).top hM)
          have hcond : (0 : Int) ≤ (M : Int) ∧ (M : Int) ≤ (bc : Int) := by omega
          have hm2 : M ≤ 140737488355328 := by have := HXL.out; omega
          have HML := Lib.hid hM
          replace hgp := Lib.hid hgp
          have hpt2 : tc < picks.length := by omega
          have hp1 : 0 < p := by omega
          have hL1 : L ≤ 4194304 := by have := HXL.out; omega
          replace hL := Lib.hid hL
          replace hq := Lib.hid hq
          replace hql := Lib.hid hql
          clear hkq hMM hM
          go_upto_region 10 with (fail)
          clear c0 b1 b2 hb hsub
          have c0 : wB.drew.cell? ⟨a, 0, none⟩ = some (.slice (some ⟨g, 0, none⟩) d.f.length vc) := HC0.out
          have b1 : wB.drew.cell? ⟨wr.heap.size, 1, none⟩ = some (.slice bo x.data.length bc) := HB1.out
          have b2 : wB.drew.cell? ⟨wr.heap.size, 2, none⟩ = some (.int .i64 (x.safe : Int)) := HB2.out
          have g1 : wB.drew.cell? ⟨g, k * 3 + 1, none⟩ = some (.slice bo x.data.length bc) := HG1.out
          have g2 : wB.drew.cell? ⟨g, k * 3 + 2, none⟩ = some (.int .i64 (x.safe : Int)) := HG2.out
          have hz1 : wB.drew.frozen? ⟨g, k * 3 + 1, none⟩ = false := HZ.out (k * 3 + 1)
          have hz2 : wB.drew.frozen? ⟨g, k * 3 + 2, none⟩ = false := HZ.out (k * 3 + 2)
          refine wp_region_held (S := (fun w' => w'.cell? ⟨a, 0, none⟩ = some (.slice (some ⟨g, 0, none⟩) d.f.length vc) ∧ w'.cell? ⟨wr.heap.size, 1, none⟩ = some (.slice bo x.data.length bc) ∧ w'.cell? ⟨wr.heap.size, 2, none⟩ = some (.int .i64 (x.safe : Int)))) (by kernel_rfl) ?_
          change wpAnyH _ _ _ _ _ _ _ _ (World.drew _)
          refine wpAnyH_take (i := 0) (v := ?vc_0) rfl (by kernel_rfl) (by kernel_rfl) (by kernel_rfl) (fun _ _ _ h => h) (Or.inl ⟨by rfl, ?yc_0⟩) ⟨c0, b1, b2⟩ ?rc_0
          case yc_0 => (intro W hSw; (try dsimp only at hSw); obtain ⟨q0, q1, q2⟩ := hSw; first | (go_simp; done) | (go_simp; with_reducible rfl))
          try go_simp
          refine wpAnyH_take (i := 1) (v := ?vc_1) rfl (by kernel_rfl) (by kernel_rfl) (by kernel_rfl) (fun _ _ _ h => h) (Or.inl ⟨by rfl, ?yc_1⟩) ⟨c0, b1, b2⟩ ?rc_1
          case yc_1 => (intro W hSw; (try dsimp only at hSw); obtain ⟨q0, q1, q2⟩ := hSw; first | (go_simp; done) | (go_simp; with_reducible rfl))
          try go_simp
          refine wpAnyH_take (i := 2) (v := ?vc_2) rfl (by kernel_rfl) (by kernel_rfl) (by kernel_rfl) (fun _ _ _ h => h) (Or.inl ⟨by rfl, ?yc_2⟩) ⟨c0, b1, b2⟩ ?rc_2
          case yc_2 => (intro W hSw; (try dsimp only at hSw); obtain ⟨q0, q1, q2⟩ := hSw; first | (go_simp; done) | (go_simp; with_reducible rfl))
          try go_simp
          refine wpAnyH_take (i := 3) (v := ?vc_3) rfl (by kernel_rfl) (by kernel_rfl) (by kernel_rfl) (fun _ _ _ h => h) (Or.inl ⟨by rfl, ?yc_3⟩) ⟨c0, b1, b2⟩ ?rc_3
          case yc_3 => (intro W hSw; (try dsimp only at hSw); obtain ⟨q0, q1, q2⟩ := hSw; first | (go_simp; done) | (go_simp; with_reducible rfl))
          try go_simp
          refine wpAnyH_take (i := 4) (v := ?vc_4) rfl (by kernel_rfl) (by kernel_rfl) (by kernel_rfl) (fun _ _ _ h => h) (Or.inl ⟨by rfl, ?yc_4⟩) ⟨c0, b1, b2⟩ ?rc_4
          case yc_4 => (intro W hSw; (try dsimp only at hSw); obtain ⟨q0, q1, q2⟩ := hSw; first | (go_simp; done) | (go_simp; with_reducible rfl))
          try go_simp
          refine wpAnyH_take (i := 5) (v := ?vc_5) rfl (by kernel_rfl) (by kernel_rfl) (by kernel_rfl) (fun _ _ _ h => h) (Or.inl ⟨by rfl, ?yc_5⟩) ⟨c0, b1, b2⟩ ?rc_5
          case yc_5 => (intro W hSw; (try dsimp only at hSw); obtain ⟨q0, q1, q2⟩ := hSw; first | (go_simp; done) | (go_simp; with_reducible rfl))
          try go_simp
          refine wpAnyH_take (i := 6) (v := ?vc_6) rfl (by kernel_rfl) (by kernel_rfl) (by kernel_rfl) (fun _ _ _ h => h) (Or.inl ⟨by rfl, ?yc_6⟩) ⟨c0, b1, b2⟩ ?rc_6
          case yc_6 => (intro W hSw; (try dsimp only at hSw); obtain ⟨q0, q1, q2⟩ := hSw; first | (go_simp; done) | (go_simp; with_reducible rfl))
          try go_simp
          refine wpAnyH_take (i := 7) (v := ?vc_7) rfl (by kernel_rfl) (by kernel_rfl) (by kernel_rfl) (fun _ _ _ h => h) (Or.inl ⟨by rfl, ?yc_7⟩) ⟨c0, b1, b2⟩ ?rc_7
          case yc_7 => (intro W hSw; (try dsimp only at hSw); obtain ⟨q0, q1, q2⟩ := hSw; first | (go_simp; done) | (go_simp; with_reducible rfl))
          try go_simp
          refine wpAnyH_take (i := 8) (v := ?vc_8) rfl (by kernel_rfl) (by kernel_rfl) (by kernel_rfl) (fun _ _ _ h => h) (Or.inl ⟨by rfl, ?yc_8⟩) ⟨c0, b1, b2⟩ ?rc_8
          case yc_8 => (intro W hSw; (try dsimp only at hSw); obtain ⟨q0, q1, q2⟩ := hSw; first | (go_simp; done) | (go_simp; with_reducible rfl))
          try go_simp
          refine wpAnyH_take (i := 9) (v := ?vc_9) rfl (by kernel_rfl) (by kernel_rfl) (by kernel_rfl) (fun _ _ _ h => h) (Or.inl ⟨by rfl, ?yc_9⟩) ⟨c0, b1, b2⟩ ?rc_9
          case yc_9 => (intro W hSw; (try dsimp only at hSw); obtain ⟨q0, q1, q2⟩ := hSw; first | (go_simp; done) | (go_simp; with_reducible rfl))
          try go_simp
          refine wpAnyH_take (i := 10) (v := ?vc_10) rfl (by kernel_rfl) (by kernel_rfl) (by kernel_rfl) (fun _ _ _ h => h) (Or.inl ⟨by rfl, ?yc_10⟩) ⟨c0, b1, b2⟩ ?rc_10
          case yc_10 => (intro W hSw; (try dsimp only at hSw); obtain ⟨q0, q1, q2⟩ := hSw; first | (go_simp; done) | (go_simp; with_reducible rfl))
          try go_simp
          refine wpAnyH_take (i := 11) (v := ?vc_11) rfl (by kernel_rfl) (by kernel_rfl) (by kernel_rfl) (fun _ _ _ h => h) (Or.inl ⟨by rfl, ?yc_11⟩) ⟨c0, b1, b2⟩ ?rc_11
          case yc_11 => (intro W hSw; (try dsimp only at hSw); obtain ⟨q0, q1, q2⟩ := hSw; first | (go_simp; done) | (go_simp; with_reducible rfl))
          try go_simp
          refine wpAnyH_ready (rs := [12]) (by kernel_rfl) (by simp) ?_
          refine AllReadyH.cons rfl (fun K hK => ?_) AllReadyH.nil
          go_simp
          (go_wp2_with (first | (go_at_call 26; (refine (copyBytes_any HSB.out hm2).mono ?_); rintro e w3 ⟨o3, k3, rfl, ho3, hb3⟩; have HO3 := Lib.hid ho3; have HB3 := Lib.hid hb3; have p0 := (hb3.cell (p := ⟨a, 0, none⟩) HAS.out).trans c0; have p1 := (hb3.cell (p := ⟨wr.heap.size, 1, none⟩) HBS.out).trans b1; have p2 := (hb3.cell (p := ⟨wr.heap.size, 2, none⟩) HBS.out).trans b2; have p3 := (hb3.cell (p := ⟨g, k * 3 + 1, none⟩) HGS.out).trans g1; have p4 := (hb3.cell (p := ⟨g, k * 3 + 2, none⟩) HGS.out).trans g2; have fz1 := (hb3.frozen (p := ⟨g, k * 3 + 1, none⟩) HGS.out).trans hz1; have fz2 := (hb3.frozen (p := ⟨g, k * 3 + 2, none⟩) HGS.out).trans hz2; have H3 := Lib.hid ((H2.out.below (Below.refl _ wB).drew).below hb3); clear ho3 hb3)))
          refine hK.out _ _ ⟨p0, p1, p2⟩ (fun _ => ?_)
          clear hK K
          try go_simp
          refine wpAnyH_take (i := 13) (v := ?vc_13) rfl (by kernel_rfl) (by kernel_rfl) (by kernel_rfl) (fun _ _ _ h => h) (Or.inl ⟨by rfl, ?yc_13⟩) ⟨p0, p1, p2⟩ ?rc_13
          case yc_13 => (intro W hSw; (try dsimp only at hSw); obtain ⟨q0, q1, q2⟩ := hSw; first | (go_simp; done) | (go_simp; with_reducible rfl))
          try go_simp
          refine wpAnyH_take (i := 14) (v := ?vc_14) rfl (by kernel_rfl) (by kernel_rfl) (by kernel_rfl) (fun _ _ _ h => h) (Or.inl ⟨by rfl, ?yc_14⟩) ⟨p0, p1, p2⟩ ?rc_14
          case yc_14 => (intro W hSw; (try dsimp only at hSw); obtain ⟨q0, q1, q2⟩ := hSw; first | (go_simp; done) | (go_simp; with_reducible rfl))
          try go_simp
          have r0 := (World.cell?_setCell_far w3 ⟨g, k * 3 + 1, none⟩ ⟨a, 0, none⟩ (.slice o3 M k3) HGA.out).trans p0
          have r1 := (World.cell?_setCell_far w3 ⟨g, k * 3 + 1, none⟩ ⟨wr.heap.size, 1, none⟩ (.slice o3 M k3) HGB.out).trans p1
          have r2 := (World.cell?_setCell_far w3 ⟨g, k * 3 + 1, none⟩ ⟨wr.heap.size, 2, none⟩ (.slice o3 M k3) HGB.out).trans p2
          refine wpAnyH_ready (rs := [15]) (by kernel_rfl) (by simp) ?_
          refine AllReadyH.cons rfl (fun K hK => ?_) AllReadyH.nil
          go_simp
          refine hK.out _ _ ⟨r0, r1, r2⟩ (fun _ => ?_)
          clear hK K
          try go_simp
          refine wpAnyH_done (by kernel_rfl) ?_ _
          try go_wp2
          have rz : (w3.setCell ⟨g, k * 3 + 1, none⟩ (.slice o3 M k3)).frozen? ⟨g, k * 3 + 2, none⟩ = false := by rw [World.frozen?_setCell]; exact fz2
          have r4 := (World.cell?_setCell_other (w := w3) (a := ⟨g, k * 3 + 1, none⟩) (b := ⟨g, k * 3 + 2, none⟩) (v := .slice o3 M k3) (by simp)).trans p4
          clear p0 p1 p2 p3 p4 fz1 fz2 c0 b1 b2 g1 g2 hz1 hz2
          obtain ⟨W, hW⟩ : ∃ W, W = w3.setCell ⟨g, k * 3 + 1, none⟩ (.slice o3 M k3) := ⟨_, rfl⟩
          rw [← hW] at r0 r1 r2 r4 rz ⊢
          have HW := Lib.hid hW
          clear hW
          refine wp_region_still_tail 11 (by kernel_rfl) (by kernel_rfl) ?_
          simp only [List.take_succ_cons, List.take_zero, List.drop_succ_cons, List.drop_zero]
          iterate 11 still_step
          refine wpStill_nil ?_
          change wpList _ _ _ _ _ W.drew
          go_wp2
          have hW := HW.out
          subst hW
          have hy : (x.data.take M).length = M := by rw [List.length_take]; have := HML.out; omega
          obtain ⟨us5, h5⟩ := RAt.both (D := Gw C w w3) (y := ⟨x.data.take M, M⟩) (u := .slice o3 M k3) (d' := { d with f := tearN picks d.f (k + 1) }) H3.out hk1 HS1.out (by rw [hy]; exact own_mono HO3.out (Nat.zero_le _)) HUP.out rfl rfl rfl HOK.out (fun j hj => by
            rcases hj with hj | hj
            · exact .inl hj
            · exact .inr ⟨hj.1, Nat.lt_of_lt_of_le hj.2 (Nat.le_trans HBB.out.size HB3.out.size)⟩) (fun j hj => .inr ⟨Nat.le_trans (Nat.le_trans HTN.out.size HBB.out.size) (HO3.out.lt j hj).1, (HO3.out.lt j hj).2⟩) (fun j hj => Gw.size (Nat.le_trans HTN.out.size (Nat.le_trans HBB.out.size HB3.out.size)) H.out.lt hj)
          have h6 : Tn C w (((w3.setCell ⟨g, k * 3 + 1, none⟩ (.slice o3 M k3)).setCell ⟨g, k * 3 + 2, none⟩ (.int .i64 (M : Int)))) := ((HTN.out.trans (Tn.of_below (S := C) (HBB.out.trans (((Below.refl _ wB).drew.trans HB3.out).mono HBB.out.size))) (fun _ _ h => h)).setCell (fun hlt => HCG.out hlt) _).setCell (fun hlt => HCG.out hlt) _
          have h7 := (h5.grow (D := Gw C w ((w3.setCell ⟨g, k * 3 + 1, none⟩ (.slice o3 M k3)).setCell ⟨g, k * 3 + 2, none⟩ (.int .i64 (M : Int))).drew) (fun j hj => by rcases hj with hj | hj; exact .inl hj; exact .inr ⟨hj.1, by simpa using hj.2⟩) (fun j hj => Gw.size h6.size H.out.lt hj)).below (Below.refl _ _).drew
          have HD5 := Lib.hid h7
          have HT5 := Lib.hid h6.drew
          clear h5 h6 h7 r0 r1 r2 r4 rz
          go_roundw
          case rel => exact ⟨k + 1, by omega, by go_num, by rw [HST.out, if_neg HNZ.out]; go_num, ⟨_, _, HD5.out⟩, HT5.out⟩
          case measure => simp [intOf]; omega
    · obtain rfl : k = d.f.length := by omega
      have HDD2 := Lib.hid hd
      have g1 := hd.fz 1
      have g2 := hd.fz 2
      have c1 := hd.c1
      have c2 := hd.c2
      clear hd
      go_wp2
      go_returns
      have ht := tn_set (i := 2) (tn_set (i := 1) (Tn.refl (· = a) wr) (.bool false)) (.int .i64 0)
      have h6 := HDD2.out.ctl (off := false) (left := 0) (done := d.done) (by decide) ht (heap_set (heap_set HDD2.out.box _ rfl) _ rfl)
      have h7 : Tn C w ((wr.setCell ⟨a, 1, none⟩ (.bool false)).setCell ⟨a, 2, none⟩ (.int .i64 0)) := HTN.out.trans ht (fun j _ e => e ▸ H.out.ca)
      have e : d.crash picks = ⟨tearN picks d.f d.f.length, false, 0, d.done⟩ := by unfold Dk.crash; rw [tearN_all]
      rw [e]
      exact ⟨rfl, ⟨_, _, h6.grow (fun j hj => hj.elim .inl (fun e => .inr ⟨e.1, by simpa using e.2⟩)) (fun j hj => Gw.size h7.size H.out.lt hj)⟩, h7⟩
end
end Go.Proofs.YtkilkhnoldfhcaaGreatDoor
namespace Go.Proofs.YtkilkhnoldfhcaaGreatDoor
open Go.RowKit
theorem info9 : (Tryz.prog.info? 9).map (fun i => (i.zero, i.size, i.bytes)) = some (some (.string ⟨#[]⟩), 1, 16) := by kernel_rfl
theorem under59 : Tryz.prog.underlying 74 = some (.slice 9) := by kernel_rfl
theorem names_snoc {α : Type} {f : Ent α} {k : Nat} {s : Nm} {x : α} (hk : k < f.length) (hs : f[k] = (s, x)) : (names f).take (k + 1) = (names f).take k ++ [s] := by
  unfold names
  rw [← List.map_take, ← List.map_take, List.take_succ_eq_append_getElem hk, List.map_append, hs]
  rfl
theorem nmv_one (l : List Nm) : ∀ u ∈ l.map nmv, u.oneCell' = true := by
  intro u hu
  obtain ⟨s, _, rfl⟩ := List.mem_map.1 hu
  rfl
/-- A slice of strings, as it reads; what is read lies in blocks of C. -/
structure SN (C : Nat → Prop) (w : World) (ao : Option Addr) (n cap : Nat) (l : List Nm) : Prop where
  len : n = l.length
  le : n ≤ cap
  max : cap ≤ maxLen
  cells : n = 0 ∨ ∃ b off, ao = some ⟨b, off, none⟩ ∧ C b ∧ ∀ i (h : i < l.length), w.cell? ⟨b, off + i, none⟩ = some (nmv l[i])
theorem SN.tn {C S : Nat → Prop} {w w' : World} {ao : Option Addr} {n cap : Nat} {l : List Nm} (h : SN C w ao n cap l) (ht : Tn S w w') (hd : ∀ k, C k → ¬ S k) : SN C w' ao n cap l := by
  refine ⟨h.len, h.le, h.max, ?_⟩
  rcases h.cells with h0 | ⟨b, off, rfl, hB, hc⟩
  · exact .inl h0
  · exact .inr ⟨b, off, rfl, hB, fun i hi => ht.cell (hc i hi) (hd b hB)⟩
theorem SN.below {C : Nat → Prop} {w w' : World} {ao : Option Addr} {n cap : Nat} {l : List Nm} (h : SN C w ao n cap l) (hb : Below w.heap.size w w') : SN C w' ao n cap l := h.tn (Tn.of_below (S := fun _ => False) hb) (fun _ _ e => e)
theorem SN.lt {C : Nat → Prop} {w : World} {ao : Option Addr} {n cap : Nat} {l : List Nm} (h : SN C w ao n cap l) : n ≤ 9223372036854775807 := by have := h.le; have := h.max; unfold maxLen at this; omega
theorem SN.at_ {C : Nat → Prop} {w : World} {ao : Option Addr} {n cap : Nat} {l : List Nm} (h : SN C w ao n cap l) {i : Nat} (hi : i < l.length) : ∃ b off, ao = some ⟨b, off, none⟩ ∧ w.cell? ⟨b, off + i, none⟩ = some (nmv l[i]) := by
  rcases h.cells with h0 | ⟨b, off, rfl, _, hc⟩
  · have := h.len; omega
  · exact ⟨b, off, rfl, hc i hi⟩
theorem own_sn {w : World} {base : Nat} {ao : Option Addr} {n cap : Nat} {l : List Nm} (h : w.ownsRow base 9 1 (.slice ao n cap) n (l.map nmv)) : SN (fun k => (Value.slice ao n cap).ownBlock = some k) w ao n cap l := by
  have hl : n = l.length := by have := h.1; rw [List.length_map] at this; omega
  rcases h.2 with ⟨e, h0⟩ | ⟨g, c, cur, e, _, hg, h1, h2, _⟩
  · cases e
    exact ⟨hl, Nat.le_refl _, by decide, .inl rfl⟩
  · cases e
    refine ⟨hl, h1, h2, .inr ⟨g, 0, rfl, rfl, fun i hi => ?_⟩⟩
    rw [Nat.zero_add, h.cellAt i (by omega)]
    simp [hi]
section
variable {C D S : Nat → Prop} {w w' : World} {a : Nat} {d : Dk} {v : Value} {us : List (Nm × Value × Int)} {s : Nm} {x : Fi}
set_option maxRecDepth 100000 in
set_option maxHeartbeats 2000000 in
theorem rlist_any (h : RAt C w a d v us) : Calls Tryz.prog 78 #[ptr a] w fun e w' => ∃ v', e = .returned v' ∧ w'.ownsRow w.heap.size 9 1 v' d.f.length ((names d.f).map nmv) ∧ Below w.heap.size w w' := by
  obtain ⟨i0, hi, hz0, hz1, hz2⟩ := info_parts info9
  have H := Lib.hid h
  have hfew := h.ok.few
  have hfl := fvs_length d.f
  obtain ⟨vo, vc, rfl⟩ := own_slice h.fo.own
  clear h
  go_enter Tryz.func78, Tryz.ntmps78
  go_wp2
  go_loopw [3, 4] (fun o i wr => ∃ k : Nat, k ≤ d.f.length ∧ i = .int .i64 k ∧ Hid (wr.ownsRow w.heap.size 9 1 o k (((names d.f).take k).map nmv)) ∧ Hid (Below w.heap.size w wr)) (fun _ i _ => d.f.length - (intOf i).toNat)
  case atStart => exact ⟨0, Nat.zero_le _, rfl, World.ownsRow_nil _ _ _ _, Below.refl _ _⟩
  case round =>
    obtain ⟨k, hk, rfl, HO, HB⟩ := hrel
    have c0 := (H.out.below HB.out).c0
    rw [hfl] at c0
    by_cases hlt : k < d.f.length
    · obtain ⟨⟨s, x⟩, hsx⟩ : ∃ p, d.f[k] = p := ⟨_, rfl⟩
      obtain ⟨g, cap, bo, bc, hv, g0, _, _, _, _⟩ := (H.out.below HB.out).elem hlt hsx
      injection hv with e1 e2 e3
      subst e1; subst e3
      have HT : Hid (((names d.f).take (k + 1)).map nmv = ((names d.f).take k).map nmv ++ [nmv s]) := by
        rw [names_snoc hlt hsx, List.map_append]
        exact rfl
      generalize ((names d.f).take k).map nmv = M at *
      have hs := HB.out.size
      have ho := HO.out
      clear hsx e2
      go_wp2_with (first
        | (at_builtin; refine wpList_append_own_at _ rfl (.tmp 14) (.tmp 23) 74 rfl w.heap.size 9 i0 (.string ⟨#[]⟩) 1 16 under59 hi hz0 hz1 hz2 rfl (by decide) _ _ _ rfl (ho.alloc _) ⟨wr.heap.size, 0, none⟩ 1 1 [nmv s] rfl rfl (cell_one_new _ _ _) (nmv_one [s]) (by unfold maxLen; omega) (by omega) (by simp; omega) ?_; intro v2 w2 hown' hgrow _ hat; have HO2 := Lib.hid hown'; have HB2 := Lib.hid ((HB.out.alloc hs _).grown hgrow (by simp; omega) (fun k hk => (ho.lt k hk).1)); clear hown' hgrow hat))
      go_roundw
      case rel => exact ⟨k + 1, by omega, by go_num, by rw [HT.out]; exact HO2, HB2⟩
      case measure => simp [intOf]; omega
    · obtain rfl : k = d.f.length := by omega
      have ho := HO.out
      rw [show (names d.f).take d.f.length = names d.f by rw [← length_names d.f, List.take_length]] at ho
      have HO3 := Lib.hid ho
      clear ho HO
      go_wp2
      go_ret
      exact ⟨_, rfl, HO3.out, HB.out⟩
end
set_option maxRecDepth 100000 in
set_option maxHeartbeats 2000000 in
theorem texts_any {B C : Nat → Prop} {w : World} {ao bo : Option Addr} {n cap m bcap : Nat} {l k : List Nm} (h : SN B w ao n cap l) (h2 : SN C w bo m bcap k) :
    Calls Tryz.prog 92 #[.slice ao n cap, .slice bo m bcap] w fun e w' => e = .returned (.bool (l == k)) ∧ ∃ q, w' = w.drewN q := by
  have hl := h.len
  have hl2 := h2.len
  have hlt := h.lt
  have H := Lib.hid h
  have H2 := Lib.hid h2
  clear h h2
  by_cases hnm : n = m
  · subst hnm
    have HL := Lib.hid hl
    have HM := Lib.hid hl2
    clear hl hl2
    go_enter Tryz.func92, Tryz.ntmps92
    go_wp2
    go_loopw [5] (fun i wr => ∃ j : Nat, i = .int .i64 j ∧ j ≤ n ∧ Hid (l.take j = k.take j) ∧ ∃ q, Hid (wr = w.drewN q)) (fun i _ => n - (intOf i).toNat)
    case atStart => exact ⟨0, rfl, Nat.zero_le _, rfl, 0, rfl⟩
    case round =>
      obtain ⟨j, rfl, hj, HT, q, HQ⟩ := hrel
      by_cases hjn : j < n
      · have hkl : j < l.length := by rw [← HL.out]; exact hjn
        have hkm : j < k.length := by rw [← HM.out]; exact hjn
        have h1 : SN B wr ao n cap l := by rw [HQ.out]; exact H.out.below (below_drewN w q)
        have h2 : SN C wr bo n bcap k := by rw [HQ.out]; exact H2.out.below (below_drewN w q)
        obtain ⟨b, off, rfl, f1⟩ := h1.at_ hkl
        obtain ⟨b2, off2, rfl, f2⟩ := h2.at_ hkm
        have HE1 := Lib.hid (List.take_succ_eq_append_getElem hkl)
        have HE2 := Lib.hid (List.take_succ_eq_append_getElem hkm)
        have HN : Hid (l[j] ≠ k[j] → (l == k) = false) := fun hne => by rw [beq_eq_false_iff_ne]; intro e; subst e; exact hne rfl
        generalize l[j] = p at *
        generalize k[j] = r at *
        clear h1 h2
        by_cases e1 : p = r
        · subst e1
          have HT2 : Hid (l.take (j + 1) = k.take (j + 1)) := by rw [HE1.out, HE2.out, HT.out]; exact rfl
          clear HN HE1 HE2
          go_wp2
          go_quiet (fail)
          go_wp2
          go_roundw
          case rel => exact ⟨j + 1, by go_num, by omega, HT2, q + nq, by rw [HQ.out, drewN_add]; exact rfl⟩
          case measure => simp [intOf]; omega
        · have hb : (p != r) = true := by rw [bne_iff_ne]; exact e1
          have hb2 : (p == r) = false := by rw [beq_eq_false_iff_ne]; exact e1
          have HNE := Lib.hid (HN.out e1)
          clear e1 HN HE1 HE2
          go_wp2
          go_quiet (fail)
          go_wp2
          go_ret
          rw [HNE.out]
          exact ⟨rfl, q + nq, by rw [HQ.out, drewN_add]⟩
      · have hlk : (l == k) = true := by
          have h3 := HT.out
          rw [List.take_of_length_le (by rw [← HL.out]; omega), List.take_of_length_le (by rw [← HM.out]; omega)] at h3
          rw [h3]; exact beq_self_eq_true _
        have HLK := Lib.hid hlk
        clear hlk
        go_wp2
        go_ret
        rw [HLK.out]
        exact ⟨rfl, q, HQ.out⟩
  · have hlk : (l == k) = false := by rw [beq_eq_false_iff_ne]; intro e; subst e; omega
    have HLK := Lib.hid hlk
    clear hlk
    go_enter Tryz.func92, Tryz.ntmps92
    go_wp2
    go_ret
    rw [HLK.out]
    exact ⟨rfl, 0, rfl⟩
section
variable {C D S : Nat → Prop} {w w' : World} {a : Nat} {d : Dk} {v : Value} {us : List (Nm × Value × Int)} {s : Nm} {x : Fi}
end
end Go.Proofs.YtkilkhnoldfhcaaGreatDoor
namespace Go.Proofs.YtkilkhnoldfhcaaGreatDoor
open Go.RowKit
/-- A row of files whose bytes may be written over: each slice's cells lie in blocks of P. -/
def Wr (P : Nat → Prop) (w : World) (fo : Option Addr) (ls : List FV) : Prop := ∀ i (h : i < ls.length), ∃ g bo bc oc, fo = some (⟨g, 0, none⟩ : Addr) ∧ w.cell? ⟨g, i * 3 + 1, none⟩ = some (.slice bo ls[i].data.length bc) ∧ w.heap[g]? = some (.cells oc 43 (0, 0)) ∧
  ∀ j, j < ls[i].data.length → ∃ b u cur, bo = some (⟨b, 0, none⟩ : Addr) ∧ P b ∧ w.heap[b]? = some (.cells cur 5 (0, 0)) ∧ w.cell? ⟨b, j, none⟩ = some u
theorem Wr.set {P : Nat → Prop} {w : World} {fo : Option Addr} {ls : List FV} (h : Wr P w fo ls) {b o : Nat} {cur : Array Value} (hb : w.heap[b]? = some (.cells cur 5 (0, 0))) (u : Value) : Wr P (w.setCell ⟨b, o, none⟩ u) fo ls := by
  intro i hi
  obtain ⟨g, bo, bc, oc, h1, h2, h3, h4⟩ := h i hi
  have hg : g ≠ b := by
    intro e
    subst e
    rw [hb] at h3
    simp at h3
  refine ⟨g, bo, bc, oc, h1, (World.cell?_setCell_far w ⟨b, o, none⟩ ⟨g, i * 3 + 1, none⟩ u (fun e => hg e.symm)).trans h2, (Below.heap_setCell _ _ _ _ hg).trans h3, fun j hj => ?_⟩
  obtain ⟨b2, u2, cur2, e1, e2, e3, e4⟩ := h4 j hj
  by_cases hbb : b2 = b
  · subst hbb
    by_cases hjo : o = j
    · subst hjo
      exact ⟨b2, u, _, e1, e2, heap_set e3 _ rfl, by rw [World.cell?_setCell_same _ _ _ (by rw [e4])]⟩
    · exact ⟨b2, u2, _, e1, e2, heap_set e3 _ rfl, (World.cell?_setCell_other _ _ _ _ (fun e => hjo (by injection e))).trans e4⟩
  · exact ⟨b2, u2, cur2, e1, e2, (Below.heap_setCell _ _ _ _ hbb).trans e3, (World.cell?_setCell_far w ⟨b, o, none⟩ ⟨b2, j, none⟩ u (fun e => hbb e.symm)).trans e4⟩
theorem fo_wr {P : Nat → Prop} {C : Nat → Prop} {w : World} {fo : Option Addr} {n cap : Nat} {us : List (Nm × Value × Int)} {ls : List FV} (h : FO C w (.slice fo n cap) us ls) (hlo : ∀ k, C k → P k) : Wr P w fo ls := by
  intro i hi
  obtain ⟨g, cap', hv⟩ := own_shape h.own (by omega)
  injection hv with e1 e2 e3
  subst e1
  have hiu : i < us.length := by rw [h.len]; exact hi
  obtain ⟨a1, a2, a3⟩ := h.at_ i hiu hi
  obtain ⟨bo, bc, hb⟩ := own_slice a3
  obtain ⟨_, g2, _⟩ := cellsF_get us hiu
  subst e2
  have h8 := h.own.cellAt (i * 3 + 1) (by omega)
  obtain ⟨oc, hoc⟩ := own_at h.own (k := g) rfl
  refine ⟨g, bo, bc, oc, rfl, ?_, hoc, fun j hj => ?_⟩
  · rw [h8, g2, hb]
  · rw [hb] at a3
    obtain ⟨b, c2, hs⟩ := own_shape a3 (by omega)
    injection hs with f1 f2 f3
    subst f1
    obtain ⟨cur, hcur⟩ := own_at a3 (k := b) rfl
    have h6 := a3.cellAt j (by omega)
    have hj' : j < (bys ls[i].data).length := by rw [bys_length]; exact hj
    exact ⟨b, (bys ls[i].data)[j], cur, rfl, hlo b (h.rows i hiu b (by rw [hb]; rfl)), hcur, h6.trans (List.getElem?_eq_getElem hj')⟩
theorem below_eq {w w1 w2 : World} (h : Below w.heap.size w w1) (e : w1 = w2) : Below w.heap.size w w2 := e ▸ h
set_option maxRecDepth 100000 in
set_option maxHeartbeats 8000000 in
theorem same_disks {S C : Nat → Prop} {w : World} {a c : Nat} {d : Dk} (h : DK S w a d) (h2 : RK C w c d) : Calls Tryz.prog 51 #[ptr a, ptr c] w fun e w' => e = .returned (.bool true) ∧ Below w.heap.size w w' := by
  obtain ⟨m, ρ, δ, hd⟩ := h
  obtain ⟨v, us, hr⟩ := h2
  have HD := Lib.hid hd
  have HK : Hid (DK S w a d) := ⟨m, ρ, δ, hd⟩
  obtain ⟨vo, vc, rfl, hsr⟩ := hr.sf
  have HR := Lib.hid hr
  have HSR := Lib.hid hsr
  have HC0 := Lib.hid hr.c0
  have HC1 := Lib.hid hr.c1
  have HC3 := Lib.hid hr.c3
  have HCL : Hid (c < w.heap.size) := hr.lt c hr.ca
  have hfew : (fvs d.f).length ≤ 64 := by rw [fvs_length]; exact hd.ok.few
  have HWF := Lib.hid (fvs_wf hd.ok)
  clear hd hr hsr
  go_enter Tryz.func51, Tryz.ntmps51
  go_wp2_with (first
    | (go_at_call 35; (refine (files_own HD.out).mono ?_); rintro e w1 ⟨v1, us1, rfl, hfo, hb⟩; obtain ⟨fo, fc, rfl, hsf⟩ := hfo.sf HWF.out; have HFO := Lib.hid hfo; have HSF := Lib.hid hsf; have HB1 := Lib.hid hb; have c0 := (HB1.out.cell (p := ⟨c, 0, none⟩) HCL.out).trans HC0.out; clear hfo hsf hb)
    | (go_at_call 36; (refine (same_any HSF.out (HSR.out.below HB1.out)).mono ?_); rintro e w2 ⟨rfl, qz, hq⟩; rw [sameF_self]; have HB12 := Lib.hid (below_of_drew hq); have HB2 := Lib.hid (HB1.out.trans ((below_of_drew hq).mono HB1.out.size)); clear hq c0)
    | (go_at_call 37; (refine (list_any (HD.out.below HB2.out)).mono ?_); rintro e w3 ⟨v3, rfl, ho, hb⟩; obtain ⟨lo, lc, rfl⟩ := own_slice ho; have HL3 := Lib.hid (own_sn ho); have HB13 := Lib.hid (HB12.out.trans (hb.mono HB12.out.size)); have HB3 := Lib.hid (HB2.out.trans (hb.mono HB2.out.size)); clear ho hb)
    | (go_at_call 78; (refine (rlist_any (HR.out.below HB3.out)).mono ?_); rintro e w4 ⟨v4, rfl, ho, hb⟩; obtain ⟨ko, kc, rfl⟩ := own_slice ho; have HL4 := Lib.hid (own_sn ho); have HL34 := Lib.hid (HL3.out.below hb); have HB14 := Lib.hid (HB13.out.trans (hb.mono HB13.out.size)); have HB4 := Lib.hid (HB3.out.trans (hb.mono HB3.out.size)); clear ho hb)
    | (go_at_call 92; (refine (texts_any HL34.out HL4.out).mono ?_); rintro e w5 ⟨rfl, qz, hq⟩; have HB15 := Lib.hid (HB14.out.trans ((below_of_drew hq).mono HB14.out.size)); have HB5 := Lib.hid (HB4.out.trans ((below_of_drew hq).mono HB4.out.size)); rw [beq_self_eq_true]; clear hq))
  have HWR : Hid (Wr (fun k => w.heap.size ≤ k) w5 fo (fvs d.f)) := fo_wr (HFO.out.below HB15.out) (fun k hk => hk.1)
  clear HL3 HL4 HL34 HB13 HB14 HB15 HB12 HB1 HB2 HB3 HB4 HFO HSF
  go_loopw [6, 7] (fun i _ wr => ∃ k : Nat, k ≤ (fvs d.f).length ∧ i = .int .i64 k ∧ Hid (Wr (fun k => w.heap.size ≤ k) wr fo (fvs d.f)) ∧ Hid (Below w.heap.size w wr)) (fun i _ _ => (fvs d.f).length - (intOf i).toNat)
  case atStart => exact ⟨0, Nat.zero_le _, rfl, HWR, HB5⟩
  case round =>
    obtain ⟨k, hk, rfl, HW, HBx⟩ := hrel
    by_cases hlt : k < (fvs d.f).length
    · obtain ⟨g, _, _, _, hfo, _, _, _⟩ := HW.out k hlt
      subst hfo
      obtain ⟨L, hL⟩ : ∃ L, (fvs d.f)[k].data.length = L := ⟨_, rfl⟩
      have HL := Lib.hid hL
      have hL4 : L ≤ 4194304 := by
        rw [← hL, fvs_get hlt]
        have h1 := HD.out.ok
        have hk' : k < d.f.length := by rw [← fvs_length]; exact hlt
        have h2 : (d.f[k]'hk').2.data.length ≤ tot d.f := get_tot h1.rising (mem_get h1.rising (List.getElem_mem hk'))
        have h3 := h1.room
        unfold fv
        simp only
        omega
      obtain ⟨wo, rfl⟩ : ∃ wo, wo = wr := ⟨_, rfl⟩
      clear hL
      go_wp2
      go_loopw [7] (fun j wi => ∃ m : Nat, m ≤ L ∧ j = .int .i64 m ∧ Hid (Wr (fun k => w.heap.size ≤ k) wi (some (⟨g, 0, none⟩ : Addr)) (fvs d.f)) ∧ Hid (Below w.heap.size w wi)) (fun j _ => L - (intOf j).toNat)
      case atStart => exact ⟨0, Nat.zero_le _, rfl, HW, HBx⟩
      case round =>
        obtain ⟨m, hm, rfl, HWi, HBi⟩ := hrel
        obtain ⟨g', bo, bc, oc, hgg, h2, h3, h4⟩ := HWi.out k hlt
        injection hgg with hgg
        injection hgg with hgg
        subst hgg
        rw [HL.out] at h2 h4
        by_cases hml : m < L
        · obtain ⟨b, u, cur, rfl, hlo, hb, hc⟩ := h4 m hml
          have fz := frozen_zero (o := m) hb
          have HW2 := Lib.hid (HWi.out.set (o := m) hb (.int .u8 88))
          have HB2 := Lib.hid (HBi.out.setCell (p := ⟨b, m, none⟩) hlo (.int .u8 88))
          clear h3 h4 hlo hb
          go_wp2
          go_roundw
          case rel => exact ⟨m + 1, by omega, by go_num, HW2, HB2⟩
          case measure => simp [intOf]; omega
        · clear h3 h4
          go_wp2
          go_roundw
          case rel => exact ⟨k + 1, by omega, by go_num, HWi, HBi⟩
          case measure => simp [intOf]; omega
    · have hc0 := HC0
      clear hc0
      have c0 := (HBx.out.cell (p := ⟨c, 0, none⟩) HCL.out).trans HC0.out
      have c1 := (HBx.out.cell (p := ⟨c, 1, none⟩) HCL.out).trans HC1.out
      have c3 := (HBx.out.cell (p := ⟨c, 3, none⟩) HCL.out).trans HC3.out
      go_upto_region 11 with (fail)
      clear HW HWR HB5
      have HBd := Lib.hid (HBx.out.trans ((Below.refl _ wr).drew.mono HBx.out.size))
      clear HBx
      have HBx := HBd
      go_region_held (fun w' => w'.cell? ⟨c, 0, none⟩ = some (.slice vo (fvs d.f).length vc) ∧ w'.cell? ⟨c, 1, none⟩ = some (.bool d.off) ∧ w'.cell? ⟨c, 3, none⟩ = some (.int .i64 (d.done : Int))) (first | exact ⟨c0, c1, c3⟩ | exact ⟨p0, p1, p3⟩ | exact ⟨q0, q1, q3⟩ | exact ⟨r0, r1, r3⟩ | exact ⟨s0, s1, s3⟩ | exact ⟨t0, t1, t3⟩ | exact ⟨u0, u1, u3⟩) (first
        | (go_at_call 35; (refine (dk_files (HK.out.below HBx.out)).mono ?_); rintro e w5 ⟨go, gc, rfl, hs, hb⟩; have HSF5 := Lib.hid hs; have HB5 := Lib.hid (HBx.out.trans (hb.mono HBx.out.size)); have p0 := (HB5.out.cell (p := ⟨c, 0, none⟩) HCL.out).trans HC0.out; have p1 := (HB5.out.cell (p := ⟨c, 1, none⟩) HCL.out).trans HC1.out; have p3 := (HB5.out.cell (p := ⟨c, 3, none⟩) HCL.out).trans HC3.out; clear hs hb)
        | (go_at_call 36; (refine (same_any HSF5.out (HSR.out.below HB5.out)).mono ?_); rintro e w6 ⟨rfl, qz, hq⟩; rw [sameF_self]; have HB6 := Lib.hid (HB5.out.trans ((below_of_drew hq).mono HB5.out.size)); have q0 := (HB6.out.cell (p := ⟨c, 0, none⟩) HCL.out).trans HC0.out; have q1 := (HB6.out.cell (p := ⟨c, 1, none⟩) HCL.out).trans HC1.out; have q3 := (HB6.out.cell (p := ⟨c, 3, none⟩) HCL.out).trans HC3.out; clear hq)
        | (go_at_call 93; (refine (dk_size (HK.out.below HB6.out)).mono ?_); rintro e w7 ⟨rfl, hb⟩; have HB7 := Lib.hid (HB6.out.trans (hb.mono HB6.out.size)); have r0 := (HB7.out.cell (p := ⟨c, 0, none⟩) HCL.out).trans HC0.out; have r1 := (HB7.out.cell (p := ⟨c, 1, none⟩) HCL.out).trans HC1.out; have r3 := (HB7.out.cell (p := ⟨c, 3, none⟩) HCL.out).trans HC3.out; clear hb)
        | (go_at_call 61; (refine (rsize_any (HR.out.below HB7.out)).mono ?_); rintro e w8 ⟨rfl, hww⟩; have HB8 := Lib.hid (below_eq HB7.out hww); have s0 := (HB8.out.cell (p := ⟨c, 0, none⟩) HCL.out).trans HC0.out; have s1 := (HB8.out.cell (p := ⟨c, 1, none⟩) HCL.out).trans HC1.out; have s3 := (HB8.out.cell (p := ⟨c, 3, none⟩) HCL.out).trans HC3.out; clear hww)
        | (go_at_call 94; (refine (dk_writes (HK.out.below HB8.out)).mono ?_); rintro e w9 ⟨rfl, hww⟩; have HB9 := Lib.hid (below_eq HB8.out hww); have t0 := (HB9.out.cell (p := ⟨c, 0, none⟩) HCL.out).trans HC0.out; have t1 := (HB9.out.cell (p := ⟨c, 1, none⟩) HCL.out).trans HC1.out; have t3 := (HB9.out.cell (p := ⟨c, 3, none⟩) HCL.out).trans HC3.out; clear hww)
        | (go_at_call 24; (refine (dk_down (HK.out.below HB9.out)).mono ?_); rintro e w10 ⟨rfl, hww⟩; have HB10 := Lib.hid (below_eq HB9.out hww); have u0 := (HB10.out.cell (p := ⟨c, 0, none⟩) HCL.out).trans HC0.out; have u1 := (HB10.out.cell (p := ⟨c, 1, none⟩) HCL.out).trans HC1.out; have u3 := (HB10.out.cell (p := ⟨c, 3, none⟩) HCL.out).trans HC3.out; clear hww))
      try go_wp2
      go_ret
      exact ⟨rfl, HB10.out⟩
end Go.Proofs.YtkilkhnoldfhcaaGreatDoor
namespace Go.Proofs.YtkilkhnoldfhcaaGreatDoor
open Go.ChangeShapes Go.WideShapes Go.ChangeAt Go.RowKit Go.Deep
section
variable {H : Type} {enc : TypeId × Value → H} {w : World} {base : Nat} {held : Bool}
instance : Inhabited FV := ⟨⟨[], [], 0⟩⟩
end
/-- Why one of the files is refused; 0: it isn't. -/
def errOf (seen : List FV) (p : FV) : Nat := if !isNm p.name then 10 else if seen.any (fun q => q.name == p.name) then 9 else if p.safe < 0 ∨ (p.data.length : Int) < p.safe then 1 else 0
def good (l : List FV) (j : Nat) : Prop := ∀ i (h : i < l.length), i < j → errOf (l.take i) l[i] = 0
/-- What the loading of files answers. -/
def Chk (l : List FV) (e : Nat) : Prop := (e ≠ 0 ∧ ∃ j, ∃ h : j < l.length, good l j ∧ errOf (l.take j) l[j] = e) ∨ (good l l.length ∧ e = if 64 < l.length then 3 else if 4194304 < totF l then 11 else 0)
/-- The files as a disk's. -/
def ents (l : List FV) : Ent Fi := l.foldl (fun f p => put f p.name ⟨p.data, p.safe.toNat⟩) []
theorem ents_snoc (l : List FV) (p : FV) : ents (l ++ [p]) = put (ents l) p.name ⟨p.data, p.safe.toNat⟩ := by unfold ents; rw [List.foldl_append]; rfl
theorem has_put {f : Ent Fi} {s t : Nm} {x : Fi} : has (put f s x) t = (s == t || has f t) := by
  rw [Bool.eq_iff_iff]
  unfold has
  simp only [List.any_eq_true, Bool.or_eq_true, beq_iff_eq]
  constructor
  · rintro ⟨p, hp, e⟩
    rcases mem_put.1 hp with rfl | ⟨hp, _⟩
    · exact .inl e
    · exact .inr ⟨p, hp, e⟩
  · rintro (rfl | ⟨p, hp, rfl⟩)
    · exact ⟨_, mem_put.2 (.inl rfl), rfl⟩
    · by_cases e : p.1 = s
      · exact ⟨_, mem_put.2 (.inl rfl), e.symm⟩
      · exact ⟨p, mem_put.2 (.inr ⟨hp, e⟩), rfl⟩
theorem err_zero {seen : List FV} {p : FV} (h : errOf seen p = 0) : isNm p.name = true ∧ seen.any (fun q => q.name == p.name) = false ∧ 0 ≤ p.safe ∧ p.safe ≤ (p.data.length : Int) := by
  unfold errOf at h
  split at h
  · cases h
  split at h
  · cases h
  split at h
  · cases h
  · rename_i h1 h2 h3
    exact ⟨by simpa using h1, by simpa using h2, by omega, by omega⟩
structure Ents (l : List FV) (f : Ent Fi) : Prop where
  rising : Rising f
  has : ∀ s, has f s = l.any fun q => q.name == s
  len : f.length = l.length
  tot : tot f = totF l
  nm : ∀ p ∈ f, isNm p.1 = true ∧ p.2.safe ≤ p.2.data.length
theorem Ents.none {l : List FV} {f : Ent Fi} (h : Ents l f) {s : Nm} (hs : (l.any fun q => q.name == s) = false) : get f s = none := has_none (by rw [h.has]; exact hs)
theorem Ents.snoc {l : List FV} {p : FV} (h : Ents l (ents l)) (he : errOf l p = 0) : Ents (l ++ [p]) (ents (l ++ [p])) := by
  obtain ⟨h1, h2, h3, h4⟩ := err_zero he
  have hn := h.none h2
  rw [ents_snoc]
  refine ⟨h.rising.put _ _, fun s => ?_, ?_, ?_, fun q hq => ?_⟩
  · rw [has_put, h.has, List.any_append, Bool.or_comm]
    simp
  · unfold put
    rw [length_ins, del_of_none hn, h.len, List.length_append]
    rfl
  · unfold put
    rw [tot_ins, del_of_none hn, h.tot, totF_append]
    show p.data.length + totF l = totF l + totF [p]
    have : totF [p] = p.data.length := by unfold totF; simp
    omega
  · rcases mem_put.1 hq with rfl | ⟨hq, _⟩
    · exact ⟨h1, by show p.safe.toNat ≤ p.data.length; omega⟩
    · exact h.nm q hq
theorem Ents.ok {l : List FV} {f : Ent Fi} (h : Ents l f) {n : Nat} (h1 : l.length ≤ n) (h2 : totF l ≤ 4194304) : Okn n ⟨f, false, 0, 0⟩ :=
  ⟨h.rising, fun p hp => (h.nm p hp).1, fun p hp => (h.nm p hp).2, by show f.length ≤ n; rw [h.len]; exact h1, by show YtkilkhnoldfhcaaGreatDoor.tot f ≤ 4194304; rw [h.tot]; exact h2⟩
end Go.Proofs.YtkilkhnoldfhcaaGreatDoor
namespace Go.Proofs.YtkilkhnoldfhcaaGreatDoor
open Go.RowKit
/-- How a number reads. -/
def intE (v : Value) : Option (DataW Unit × List MemPlace) :=
  match v with
  | .int .i64 n => some (.lit (.int .i64 n), [])
  | _ => none
theorem under84 : Tryz.prog.underlying 128 = some (.map 9 3) := by kernel_rfl
theorem zero3 (w : World) : (zeroValue 3).run Tryz.prog w = .ok (.int .i64 0) w := by kernel_rfl
/-- A map of numbers as it lies in memory. -/
abbrev IAt (w : World) (m : Nat) (L : Ent Nat) : Prop := w.ownsMap Tryz.prog 9 intE m L.length (dmap L)
theorem iat_tight {w : World} {m n : Nat} {L : Ent Nat} (h : w.ownsMap Tryz.prog 9 intE m n (dmap L)) : IAt w m L := by
  obtain ⟨es, clock, hb, F, hs, hD⟩ := h
  refine ⟨es, clock, hb, F, ?_, hD⟩
  have h1 : Maps.size (dmap L) = es.size := by rw [hD]; simp [Maps.size, length_sorted]
  rw [← h1, size_dmap]
  exact Nat.le_refl _
theorem IAt.tn {S : Nat → Prop} {w w' : World} {m : Nat} {L : Ent Nat} (h : IAt w m L) (ht : Tn S w w') (hm : ¬ S m) : IAt w' m L := by
  obtain ⟨es, clock, hb, r⟩ := h
  exact ⟨es, clock, ht.at_ hb hm, r⟩
theorem IAt.below {w w' : World} {m : Nat} {L : Ent Nat} (h : IAt w m L) (hb : Below w.heap.size w w') : IAt w' m L := h.tn (Tn.of_below (S := fun _ => False) hb) (fun e => e)
theorem IAt.store {w : World} {m : Nat} {L : Ent Nat} (h : IAt w m L) {s : Nm} (hs : s.length ≤ maxLen) (hl : L.length < maxLen) (b : Nat) : ∃ w', (Instr.mapUpdate 128 (.map (some m)) (nmv s) (.int .i64 (b : Int))).run Tryz.prog w = .ok () w' ∧ IAt w' m (put L s b) ∧ Tn (· = m) w w' := by
  obtain ⟨w', h1, h2, h3⟩ := World.ownsMap.store h law9 under84 hl (key9 hs) (show intE (.int .i64 (b : Int)) = some (.lit (.int .i64 (b : Int)), []) from rfl)
  have hg := h3.grown
  exact ⟨w', h1, iat_tight (by rw [← put_dmap]; exact h2), hg.os, hg.tape, hg.output, hg.size, fun k hk hne => hg.block k hk (fun e => hne (by simpa using e))⟩
theorem IAt.look {w : World} {m : Nat} {L : Ent Nat} (h : IAt w m L) {s : Nm} (hs : s.length ≤ maxLen) : ∃ v, (Instr.lookup 128 (.map (some m)) (nmv s) true).run Tryz.prog w = .ok (.tuple #[v, .bool (has L s)]) w := by
  obtain ⟨v, ps, hrun, hv⟩ := h.look_ok law9 under84 (zero3 w) (zd := .lit (.int .i64 0)) (zp := []) rfl (key9 hs)
  rw [has_dmap] at hrun
  exact ⟨v, hrun⟩
theorem has_putN {f : Ent Nat} {s t : Nm} {x : Nat} : has (put f s x) t = (s == t || has f t) := by
  rw [Bool.eq_iff_iff]
  unfold has
  simp only [List.any_eq_true, Bool.or_eq_true, beq_iff_eq]
  constructor
  · rintro ⟨p, hp, e⟩
    rcases mem_put.1 hp with rfl | ⟨hp, _⟩
    · exact .inl e
    · exact .inr ⟨p, hp, e⟩
  · rintro (rfl | ⟨p, hp, rfl⟩)
    · exact ⟨_, mem_put.2 (.inl rfl), rfl⟩
    · by_cases e : p.1 = s
      · exact ⟨_, mem_put.2 (.inl rfl), e.symm⟩
      · exact ⟨p, mem_put.2 (.inr ⟨hp, e⟩), rfl⟩
theorem length_putN (f : Ent Nat) (s : Nm) (x : Nat) : (put f s x).length ≤ f.length + 1 := by
  unfold put
  rw [length_ins]
  have : (del f s).length ≤ f.length := List.length_filter_le _ _
  omega
/-- What has been seen. -/
def Seen (l : List FV) (L : Ent Nat) : Prop := (∀ s, has L s = l.any fun q => q.name == s) ∧ L.length ≤ l.length
theorem Seen.snoc {l : List FV} {L : Ent Nat} (h : Seen l L) (p : FV) (x : Nat) : Seen (l ++ [p]) (put L p.name x) := by
  refine ⟨fun s => ?_, ?_⟩
  · rw [has_putN, h.1, List.any_append, Bool.or_comm]
    simp
  · have := length_putN L p.name x
    have := h.2
    rw [List.length_append]
    show _ ≤ l.length + 1
    omega
def box43 (p : FV) (bo : Option Addr) (bc : Nat) : Obj := .cells #[nmv p.name, .slice bo p.data.length bc, .int .i64 p.safe] 43
end Go.Proofs.YtkilkhnoldfhcaaGreatDoor
namespace Go.Proofs.YtkilkhnoldfhcaaGreatDoor
open Go.RowKit
/-- What the loading of files gives. -/
def Loads (l : List FV) (P : Nat → World → Prop) (e : Ending) (w' : World) : Prop := ∃ er : Nat, Chk l er ∧ ((er ≠ 0 ∧ e = .returned (.tuple #[.pointer none, .int .i64 (er : Int)])) ∨ (er = 0 ∧ ∃ a, e = .returned (.tuple #[ptr a, .int .i64 0]) ∧ P a w'))
end Go.Proofs.YtkilkhnoldfhcaaGreatDoor
namespace Go.Proofs.YtkilkhnoldfhcaaGreatDoor
open Go.RowKit
end Go.Proofs.YtkilkhnoldfhcaaGreatDoor
namespace Go.Proofs.YtkilkhnoldfhcaaGreatDoor
open Go.RowKit
/-- A disk and the document's, side by side, in blocks from B on. -/
structure Two (B : Nat) (w : World) (a : Nat) (S : Nat → Prop) (d : Dk) (c : Nat) (C : Nat → Prop) (e : Dk) : Prop where
  dk : DK S w a d
  rk : RK C w c e
  sb : ∀ k, S k → B ≤ k
  cb : ∀ k, C k → B ≤ k
  sc : ∀ k, S k → ¬ C k
section
variable {B : Nat} {w w' w1 : World} {a c : Nat} {S C : Nat → Prop} {d e x : Dk}
theorem Two.below (h : Two B w a S d c C e) (hb : Below w.heap.size w w') : Two B w' a S d c C e := ⟨h.dk.below hb, h.rk.below hb, h.sb, h.cb, h.sc⟩
end
end Go.Proofs.YtkilkhnoldfhcaaGreatDoor
