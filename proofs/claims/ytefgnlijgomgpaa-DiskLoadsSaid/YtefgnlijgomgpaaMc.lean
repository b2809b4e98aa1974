/- raceref6.Disk: Read, Arm, Sync. Conditions: none of its own. -/
import Derived.Test.YtefgnlijgomgpaaMb
namespace Go.Proofs.Ytefgnlijgomgpaa
open Go.RowKit
section
variable {C D S : Nat → Prop} {w w' : World} {a : Nat} {d : Dk} {v : Value} {us : List (Nm × Value × Int)} {s : Nm} {x : Fi}
theorem RAt.grow (h : RAt C w a d v us) (hu : ∀ k, C k → D k) (hl : ∀ k, D k → k < w.heap.size) : RAt D w a d v us :=
  ⟨h.ok, h.left, h.box, ⟨h.fo.own, h.fo.len, h.fo.at_, fun k hk => hu k (h.fo.row k hk), fun i hi k hk => hu k (h.fo.rows i hi k hk)⟩, hu a h.ca, hl⟩
/-- What a write of the document's disk answers, and that it stands so. -/
def RWrote (C : Nat → Prop) (w : World) (a : Nat) (r : Dk × Nat) (e : Ending) (w' : World) : Prop := e = .returned (.int .i64 (r.2 : Int)) ∧ RK (Gw C w w') w' a r.1 ∧ Tn C w w'
theorem rwrote_same {r : Dk × Nat} (h : RAt C w' a r.1 v us) (ht : Tn C w w') (hl : ∀ k, C k → k < w.heap.size) : RWrote C w a r (.returned (.int .i64 (r.2 : Int))) w' :=
  ⟨rfl, ⟨v, us, h.grow (gw_self C w w') fun _ hk => Gw.size ht.size hl hk⟩, ht⟩
theorem RAt.tna (h : RAt C w a d v us) (ht : Tn (· = a) w w') : Tn C w w' := ht.mono fun _ _ e => e ▸ h.ca
theorem at_spend {k : Nat} (hk : k < d.f.length) (hs : d.f[k] = (s, x)) : ∃ h : k < d.spend.1.f.length, d.spend.1.f[k] = (s, x) := by
  have e := spend_f (d := d)
  generalize d.spend.1.f = F at *
  subst e
  exact ⟨hk, hs⟩
/-- The row of files, and one's cells. -/
theorem RAt.row (h : RAt C w a d v us) {k : Nat} (hk : k < d.f.length) (hs : d.f[k] = (s, x)) : ∃ g cap, v = .slice (some ⟨g, 0, none⟩) (fvs d.f).length cap ∧ C g ∧ (∀ o, w.frozen? ⟨g, o, none⟩ = false) ∧ w.cell? ⟨g, k * 3, none⟩ = some (nmv s) ∧ (∃ bo bc, w.cell? ⟨g, k * 3 + 1, none⟩ = some (.slice bo x.data.length bc) ∧ SB C w bo x.data.length bc x.data) ∧ w.cell? ⟨g, k * 3 + 2, none⟩ = some (.int .i64 (x.safe : Int)) := by
  have hkl : k < (fvs d.f).length := by rw [fvs_length]; exact hk
  obtain ⟨g, cap, hg⟩ := own_shape h.fo.own (by omega)
  obtain ⟨_, cap', b, off, bo, bc, hv, _, hb, h0, h1, h2, h3⟩ := h.file hk hs
  rw [hg] at hv
  injection hv with e1 e2 e3
  injection e1 with e1
  injection e1 with e4 e5
  subst e4; subst e5
  rw [Nat.zero_add] at h0 h1 h3
  obtain ⟨cur, hcur⟩ := own_at h.fo.own (k := g) (by rw [hg]; rfl)
  exact ⟨g, cap, hg, hb, fun _ => frozen_zero hcur, h0, ⟨bo, bc, h1, h2⟩, h3⟩
set_option maxRecDepth 100000 in
theorem rread_any (h : RAt C w a d v us) (s : Nm) : Calls Try.prog 17 #[ptr a, nmv s] w fun e w' => ∃ ao cap, e = .returned (.tuple #[.slice ao (d.read s).1.length cap, .int .i64 ((d.read s).2 : Nat)]) ∧ SB C w ao (d.read s).1.length cap (d.read s).1 ∧ w = w' := by
  have H := Lib.hid h
  cases hx : get d.f s with
  | none =>
    have e : d.read s = ([], 8) := by unfold Dk.read; rw [hx]
    rw [e]
    have HX := Lib.hid hx
    clear h hx e
    go_enter Try.func17, Try.ntmps17
    go_wp2_with (go_at_call 49; (with_reducible refine (rat_none H.out HX.out).mono ?_); rintro e w' ⟨rfl, rfl⟩)
    go_ret2
    exact ⟨_, _, rfl, sb_nil _ _, rfl⟩
  | some x =>
    have e : d.read s = (x.data, 0) := by unfold Dk.read; rw [hx]
    rw [e]
    obtain ⟨k, hk, hs, hne⟩ := get_pos h.ok.rising hx
    have HN := Lib.hid hne
    obtain ⟨g, cap, rfl, _, _, g0, ⟨bo, bc, g1, sb⟩, g2⟩ := h.row hk hs
    have c0 := h.c0
    have hkl : k < (fvs d.f).length := by rw [fvs_length]; exact hk
    have HS := Lib.hid hs
    have HSB := Lib.hid sb
    clear h hx e hne hs sb
    go_enter Try.func17, Try.ntmps17
    go_wp2_with (go_at_call 49; (with_reducible refine (rat_some H.out hk HS.out HN.out).mono ?_); rintro e w' ⟨rfl, rfl⟩)
    go_ret2
    exact ⟨_, _, rfl, HSB.out, rfl⟩
set_option maxRecDepth 100000 in
set_option maxHeartbeats 2000000 in
theorem rsync_any (h : RAt C w a d v us) (s : Nm) (hd : d.done < 9223372036854775807) : Calls Try.prog 39 #[ptr a, nmv s] w (RWrote C w a (d.sync s)) := by
  have H := Lib.hid h
  have HD := Lib.hid hd
  have c1 := h.c1
  cases hx : get d.f s with
  | none =>
    have HX := Lib.hid hx
    cases ho : d.off with
    | true =>
      have e : d.sync s = (d, 12) := by unfold Dk.sync; rw [if_pos ho]
      rw [e]
      rw [ho] at c1
      clear h hx e ho hd
      go_enter Try.func39, Try.ntmps39
      go_wp2_with (go_at_call 49; (with_reducible refine (rat_none H.out HX.out).mono ?_); rintro e w' ⟨rfl, rfl⟩)
      go_ret
      exact rwrote_same (r := (d, 12)) H.out (Tn.refl _ _) H.out.lt
    | false =>
      have e : d.sync s = (d, 8) := by unfold Dk.sync; rw [ho, has_get, hx]; rfl
      rw [e]
      rw [ho] at c1
      clear h hx e ho hd
      go_enter Try.func39, Try.ntmps39
      go_wp2_with (go_at_call 49; (with_reducible refine (rat_none H.out HX.out).mono ?_); rintro e w' ⟨rfl, rfl⟩)
      go_ret
      exact rwrote_same (r := (d, 8)) H.out (Tn.refl _ _) H.out.lt
  | some x =>
    obtain ⟨k, hk, hs, hne⟩ := get_pos h.ok.rising hx
    have HN := Lib.hid hne
    have HS := Lib.hid hs
    have HX := Lib.hid hx
    cases ho : d.off with
    | true =>
      have e : d.sync s = (d, 12) := by unfold Dk.sync; rw [if_pos ho]
      rw [e]
      rw [ho] at c1
      clear h hx e ho hne hs hd
      go_enter Try.func39, Try.ntmps39
      go_wp2_with (go_at_call 49; (with_reducible refine (rat_some H.out hk HS.out HN.out).mono ?_); rintro e w' ⟨rfl, rfl⟩)
      go_ret
      exact rwrote_same (r := (d, 12)) H.out (Tn.refl _ _) H.out.lt
    | false =>
      rw [ho] at c1
      cases hq : d.spend.2 with
      | false =>
        have e : d.sync s = (d.spend.1, 12) := by unfold Dk.sync; rw [ho, has_get, hx, hq]; rfl
        rw [e]
        have HQ := Lib.hid hq
        clear h ho e hx hq hne hs hd
        go_enter Try.func39, Try.ntmps39
        go_wp2_with (first
          | (go_at_call 49; (with_reducible refine (rat_some H.out hk HS.out HN.out).mono ?_); rintro e w' ⟨rfl, rfl⟩)
          | (go_at_call 60; (with_reducible refine (falls_any H.out HD.out).mono ?_); rw [HQ.out]; rintro e w1 ⟨rfl, h1, ht⟩; have H1 := Lib.hid h1; have HT := Lib.hid ht; clear h1 ht))
        go_ret
        exact rwrote_same (r := (d.spend.1, 12)) H1.out (H.out.tna HT.out) H.out.lt
      | true =>
        have e : d.sync s = ({ d.spend.1 with f := upd d.f s fun x => ⟨x.data, x.data.length⟩ }, 0) := by unfold Dk.sync; rw [ho, has_get, hx, hq]; rfl
        have HQ := Lib.hid hq
        have HE := Lib.hid e
        clear h ho e hx hq hne hs hd
        go_enter Try.func39, Try.ntmps39
        go_wp2_with (first
          | (go_at_call 49; (with_reducible refine (rat_some H.out hk HS.out HN.out).mono ?_); rintro e w' ⟨rfl, rfl⟩)
          | (go_at_call 60; (with_reducible refine (falls_any H.out HD.out).mono ?_); rw [HQ.out]; rintro e w1 ⟨rfl, h1, ht⟩; have H1 := Lib.hid h1; have HT := Lib.hid ht; clear h1 ht))
        obtain ⟨hk1, hs1⟩ := at_spend hk HS.out
        obtain ⟨g, cap, rfl, hCg, hfz, g0, ⟨bo, bc, g1, sb⟩, g2⟩ := H1.out.row hk1 hs1
        have c0 := H1.out.c0
        have hkl : k < (fvs d.spend.1.f).length := by rw [fvs_length]; exact hk1
        have HS1 := Lib.hid hs1
        have hz := hfz (k * 3 + 2)
        clear hs1 sb hfz c1
        refine wp_region_still_tail 16 (by kernel_rfl) (by kernel_rfl) ?_
        simp only [List.take_succ_cons, List.take_zero, List.drop_succ_cons, List.drop_zero]
        iterate 16 still_step
        refine wpStill_nil ?_
        change wpList _ _ _ _ _ w1.drew
        go_wp2
        go_ret
        have hup : upd d.f s (fun x => ⟨x.data, x.data.length⟩) = upd d.spend.1.f s fun _ => ⟨x.data, x.data.length⟩ := by rw [spend_f]; exact upd_const H.out.ok.rising (fun x => ⟨x.data, x.data.length⟩) HX.out
        obtain ⟨us', h2⟩ := ((H1.out.below (Below.refl _ w1).drew).safe (y := ⟨x.data, x.data.length⟩) (d' := { d.spend.1 with f := upd d.f s fun x => ⟨x.data, x.data.length⟩ }) hk1 HS1.out rfl hup rfl rfl rfl (by have h9 := H.out.ok.sync (s := s); rw [HE.out] at h9; exact h9))
        have h3 : Tn C w w1 := H.out.tna HT.out
        have h4 : Tn C w (w1.drew.setCell ⟨g, k * 3 + 2, none⟩ (.int .i64 (x.data.length : Int))) := h3.drew.setCell (fun _ => hCg) _
        rw [HE.out]
        exact rwrote_same (r := ({ d.spend.1 with f := upd d.f s fun x => ⟨x.data, x.data.length⟩ }, 0)) h2 h4 H.out.lt
end
end Go.Proofs.Ytefgnlijgomgpaa
