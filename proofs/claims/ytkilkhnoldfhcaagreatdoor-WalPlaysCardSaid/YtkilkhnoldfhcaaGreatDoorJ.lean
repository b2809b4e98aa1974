/- disk.Crash tears the files as the picks say, and brings the disk up again. Conditions: none of its own. -/
import Derived.Test.YtkilkhnoldfhcaaGreatDoorG
import Derived.Test.YtkilkhnoldfhcaaGreatDoorJp
import Derived.Deep.QuietTactic
import Derived.BigQuiet
import Derived.StillTailTactics
namespace Go.Proofs.YtkilkhnoldfhcaaGreatDoor
open Go.RowKit
section
variable {S C : Nat → Prop} {w : World} {a m : Nat} {d : Dk} {ρ : Nm → Nat} {δ : Nm → Value} {s : Nm} {x : Fi}
theorem wrap_in {x : Int} (h : -9223372036854775808 ≤ x ∧ x ≤ 9223372036854775807) : IntKind.i64.wrap x = x := IntWalk.i64_in _ (by omega)
set_option maxRecDepth 100000 in
set_option maxHeartbeats 1000000 in
theorem crash_any {po : Option Addr} {pn pc : Nat} {picks : List Int} (h : DAt S w a d m ρ δ) (hp : SI C w po pn pc picks) (hC : ∀ k, C k → ¬ S k) :
    Calls Tryz.prog 42 #[ptr a, .slice po pn pc] w fun e w' => e = .returned (.tuple #[]) ∧ DK S w' a (d.crash picks) ∧ Tn S w w' := by
  have H := Lib.hid h
  have HP := Lib.hid hp
  have HC := Lib.hid hC
  have hfew := h.ok.few
  clear h hp hC
  go_enter Tryz.func42, Tryz.ntmps42
  go_wp2_with (go_at_call 37; (with_reducible refine (list_any H.out).mono ?_); rintro e w1 ⟨v, rfl, hr, hb⟩; obtain ⟨vo, vc, rfl⟩ := own_slice hr; have HR := Lib.hid hr; have HB := Lib.hid hb; clear hr hb)
  go_loopw [4, 6, 7, 8, 12] (fun t _ _ _ i wr => ∃ k : Nat, k ≤ d.f.length ∧ i = .int .i64 k ∧ t = .int .i64 (lc (d.f.take k) : Nat) ∧ Hid (∃ δ', DAt S wr a { d with f := tearN picks d.f k } m ρ δ') ∧ Hid (Tn S w1 wr)) (fun _ _ _ _ i _ => d.f.length - (intOf i).toNat)
  case atStart => exact ⟨0, Nat.zero_le _, rfl, rfl, ⟨δ, H.out.below HB.out⟩, Tn.refl _ _⟩
  case round =>
    obtain ⟨k, hk, rfl, rfl, HD, HT⟩ := hrel
    by_cases hlt : k < d.f.length
    · obtain ⟨δ', hd⟩ := HD.out
      obtain ⟨⟨s, x⟩, hsx⟩ : ∃ p, d.f[k] = p := ⟨_, rfl⟩
      have hS1 : ∀ k, S k → k < w1.heap.size := fun j hj => Nat.lt_of_lt_of_le (H.out.lt j hj) HB.out.size
      have hrow := own_tn HR.out HT.out (fun j hj e => by have := (HR.out.lt j hj).1; have := H.out.lt j e; omega)
      obtain ⟨g, gc, hg⟩ := own_shape hrow (by omega)
      cases hg
      have hcell := hrow.cellAt k (by omega)
      have hname : ((names d.f).map nmv)[k]? = some (nmv s) := by unfold names; simp [hlt, hsx]
      have hgx := get_tearN (picks := picks) H.out.ok.rising hlt hsx
      have hsm : (s, x) ∈ d.f := by rw [← hsx]; exact List.getElem_mem _
      have hsl : s.length ≤ maxLen := by
        have := H.out.ok.nm _ hsm
        unfold isNm at this
        simp at this
        unfold maxLen; omega
      have c0 := hd.c0
      have l0 := hd.look1 hsl hgx
      have f0 := hd.f0 hgx
      have f1 := hd.f1 hgx
      have g0 := hd.ff hgx 0
      have g1 := hd.ff hgx 1
      have hown := hd.own hgx
      obtain ⟨ao, cap, hv⟩ := own_slice hown
      have hcap := own_cap (hv ▸ hown)
      rw [hv] at f0
      have hsafe := H.out.ok.safe _ hsm
      simp only at hsafe
      have hxl := get_tot H.out.ok.rising (mem_get H.out.ok.rising hsm)
      have hroom := H.out.ok.room
      have hlc := lc_le (d.f.take k)
      have htk : (d.f.take k).length ≤ k := List.length_take_le _ _
      have HD2 := Lib.hid hd
      have HV := Lib.hid hv
      have HGX := Lib.hid hgx
      have HSX := Lib.hid hsx
      have HXL : Hid (x.data.length ≤ 4194304) := by have : x.data.length ≤ 4194304 := by omega
                                                     exact this
      have HLC : Hid (lc (d.f.take k) ≤ 64) := by have : lc (d.f.take k) ≤ 64 := by omega
                                                  exact this
      rw [hname] at hcell
      have hstep := lc_step hlt hsx
      generalize hlcv : lc (d.f.take k) = tc at *
      have HLV := Lib.hid hlcv
      have HST := Lib.hid hstep
      have HROW := Lib.hid hrow
      have HS1 := Lib.hid hS1
      have hsub : IntKind.i64.wrap ((x.data.length : Int) - (x.safe : Int)) = ((x.data.length - x.safe : Nat) : Int) := by rw [wrap_in (by omega)]; omega
      have hk64 : k ≤ 64 := by omega
      clear hd hv hgx hsx hlcv hstep hrow hS1 hname hown hxl hlc hfew hsm
      go_wp2
      go_quiet (fail)
      clear hsub hcell c0 l0 f0 f1 g0 g1 hroom htk
      have hb2 := below_drewN wr nq
      have HD3 := Lib.hid (HD2.out.below hb2)
      have HT3 := Lib.hid (HT.out.trans (Tn.of_below (S := fun _ => False) hb2) (fun _ _ e => e.elim))
      clear HD2 HD HT HROW hb2
      generalize wr.drewN nq = w2 at *
      have f0 := HD3.out.f0 HGX.out
      have f1 := HD3.out.f1 HGX.out
      have g0 := HD3.out.ff HGX.out 0
      have g1 := HD3.out.ff HGX.out 1
      rw [HV.out] at f0
      by_cases hz : x.data.length = x.safe
      · have HZ := Lib.hid hz
        have hb : (((x.data.length - x.safe : Nat) : Int) == 0) = true := by rw [hz]; simp
        clear hz
        go_wp2
        go_roundw
        case rel => exact ⟨k + 1, by omega, by go_num, by rw [HST.out, if_pos HZ.out]; rfl, ⟨δ', by rw [tearN_same hlt HSX.out HZ.out]; exact HD3.out⟩, HT3.out⟩
        case measure => simp [intOf]; omega
      · have HZ := Lib.hid hz
        have hb : (((x.data.length - x.safe : Nat) : Int) == 0) = false := by simp; omega
        have hkl := kept_le picks tc (x.data.length - x.safe)
        have hp2 : SI C w2 po pn pc picks := (HP.out.below HB.out).tn HT3.out HC.out
        have HP2 := Lib.hid hp2
        clear hz hp2
        obtain ⟨L, hL⟩ : ∃ L, L = x.data.length - x.safe := ⟨_, rfl⟩
        obtain ⟨q, hq⟩ : ∃ q, q = kept picks tc L := ⟨_, rfl⟩
        rw [← hL] at hb hkl ⊢
        rw [← hq] at hkl
        have HL := Lib.hid hL
        have HQ := Lib.hid hq
        have hsq : x.safe + q ≤ x.data.length := by omega
        have hsc : x.safe + q ≤ cap := by omega
        have hL2 : L ≤ 4194304 := by have := HXL.out; omega
        have HL2 := Lib.hid hL2
        have hw1 : IntKind.i64.wrap ((x.safe : Int) + (q : Int)) = (x.safe : Int) + (q : Int) := wrap_in (by have := HXL.out; omega)
        have hcond : (0 : Int) ≤ (x.safe : Int) + (q : Int) ∧ (x.safe : Int) + (q : Int) ≤ (cap : Int) := by omega
        have hnat : ((x.safe : Int) + (q : Int)).toNat = x.safe + q := by omega
        have hxl : x.data.length ≤ 4194304 := HXL.out
        clear hL hq hkl
        go_wp2
        refine wp_region_still_tail 17 (by kernel_rfl) (by kernel_rfl) ?_
        simp only [List.take_succ_cons, List.take_zero, List.drop_succ_cons, List.drop_zero]
        iterate 12 still_step
        still_call ((kept_any (HP2.out.below ((Below.refl _ _).drew)) tc L (by have := HLC.out; omega) HL2.out).mono fun _ _ h => ⟨h.1, h.2.symm⟩)
        rw [← HQ.out]
        iterate 4 still_step
        refine wpStill_nil ?_
        change wpList _ _ _ _ _ w2.drew
        have hb3 : Below w2.heap.size w2 w2.drew := (Below.refl _ _).drew
        have HD4 := Lib.hid (HD3.out.below hb3)
        have HT4 := Lib.hid (HT3.out.trans (Tn.of_below (S := fun _ => False) hb3) (fun _ _ e => e.elim))
        clear HD3 HT3 hb3 f0 f1 g0 g1 HP2 hw1 hcond
        generalize w2.drew = w3 at *
        have f0 := HD4.out.f0 HGX.out
        have f1 := HD4.out.f1 HGX.out
        have g0 := HD4.out.ff HGX.out 0
        have g1 := HD4.out.ff HGX.out 1
        rw [HV.out] at f0
        have htc : tc ≤ 64 := HLC.out
        go_wp2
        have hgm := get_mem HGX.out
        have hfile := HD4.out.file _ hgm
        have hrow := HD4.out.row _ hgm
        simp only at hfile hrow
        rw [HV.out] at hfile hrow
        have hlen : (x.data.take (x.safe + q)).length = x.safe + q := by rw [List.length_take]; omega
        have htorn : torn picks tc x = ⟨x.data.take (x.safe + q), x.safe + q⟩ := by unfold torn; rw [← HL.out, ← HQ.out]
        have ht := tn_file (i := 1) (tn_file (i := 0) (Tn.refl (fun k => k = ρ s ∨ (δ' s).ownBlock = some k) w3) (.slice ao (x.safe + q) cap)) (.int .i64 ((x.safe + q : Nat) : Int))
        have hd5 : DAt S ((w3.setCell ⟨ρ s, 0, none⟩ (.slice ao (x.safe + q) cap)).setCell ⟨ρ s, 1, none⟩ (.int .i64 ((x.safe + q : Nat) : Int))) a { d with f := tearN picks d.f (k + 1) } m ρ (at_ δ' s (.slice ao (x.safe + q) cap)) := by
          refine HD4.out.turn (y := ⟨x.data.take (x.safe + q), x.safe + q⟩) HGX.out ht (heap_set (heap_set hfile _ rfl) _ rfl) ?_ (fun j hj => .inl ?_) (ok_tearN H.out.ok) (by simp only; rw [tearN_step H.out.ok.rising hlt HSX.out HZ.out, HLV.out, htorn]) rfl rfl rfl (fun _ e => e) (fun j hj => HD4.out.sr _ hgm j ?_) (fun j hj => Nat.lt_of_lt_of_le (HD4.out.lt j hj) ht.size)
          · rw [hlen]
            exact own_tn (own_take hrow hsq) (tn_set (i := 1) (tn_set (i := 0) (Tn.refl (· = ρ s) w3) _) _) (fun j hj e => HD4.out.fr hgm hgm (by simp only; rw [HV.out, ownBlock_eq ao _ _ (x.safe + q) cap]; exact e ▸ hj))
          · rw [HV.out, ownBlock_eq ao _ _ (x.safe + q) cap]; exact hj
          · simp only; rw [HV.out, ownBlock_eq ao _ _ (x.safe + q) cap]; exact hj
        have HD5 := Lib.hid hd5
        have HT5 := Lib.hid (HT4.out.trans ht (fun j _ hj => by
          rcases hj with rfl | hj
          · exact HD4.out.sf _ hgm
          · exact HD4.out.sr _ hgm j hj))
        clear hd5 ht hgm hfile hrow htorn hlen hnat
        rw [Int.natCast_add] at HD5 HT5
        go_roundw
        case rel => exact ⟨k + 1, by omega, by go_num, by rw [HST.out, if_neg HZ.out]; go_num, ⟨_, HD5.out⟩, HT5.out⟩
        case measure => simp [intOf]; omega
    · obtain rfl : k = d.f.length := by omega
      obtain ⟨δ', hd⟩ := HD.out
      have HD2 := Lib.hid hd
      have g2 := hd.fz 2
      have g3 := hd.fz 3
      have c2 := hd.c2
      have c3 := hd.c3
      clear HD hd
      go_wp2
      go_returns
      have ht := tn_set (i := 3) (tn_set (i := 2) (Tn.refl (· = a) wr) (.int .i64 0)) (.bool false)
      have h6 := HD2.out.ctl (off := false) (left := 0) (done := d.done) (by decide) ht (heap_set (heap_set HD2.out.box _ rfl) _ rfl)
      refine ⟨rfl, ⟨m, ρ, δ', ?_⟩, ((Tn.of_below HB.out).trans HT.out (fun _ _ e => e)).trans ht (fun j _ e => e ▸ H.out.sa)⟩
      have e : d.crash picks = ⟨tearN picks d.f d.f.length, false, 0, d.done⟩ := by unfold Dk.crash; rw [tearN_all]
      rw [e]
      exact h6
end
end Go.Proofs.YtkilkhnoldfhcaaGreatDoor
