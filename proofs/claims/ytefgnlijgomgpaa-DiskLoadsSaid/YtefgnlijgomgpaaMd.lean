/- raceref6.Disk: Arm, Cut. Conditions: none of its own. -/
import Derived.Test.YtefgnlijgomgpaaMc
namespace Go.Proofs.Ytefgnlijgomgpaa
open Go.RowKit
section
variable {C D S : Nat → Prop} {w w' : World} {a : Nat} {d : Dk} {v : Value} {us : List (Nm × Value × Int)} {s : Nm} {x : Fi}
theorem rarm_any (h : RAt C w a d v us) (n : Int) (h1 : -9223372036854775808 ≤ n) (h2 : n ≤ 9223372036854775807) : Calls Try.prog 43 #[ptr a, .int .i64 n] w fun e w' => e = .returned (.tuple #[]) ∧ RAt C w' a (d.arm n) v us ∧ Tn C w w' := by
  have H := Lib.hid h
  have c1 := h.c1
  have c2 := h.c2
  have f2 := h.fz 2
  clear h
  cases ho : d.off with
  | true =>
    rw [ho] at c1
    have HO := Lib.hid ho
    clear ho
    go_enter Try.func43, Try.ntmps43
    go_wp2
    go_returns
    refine ⟨rfl, ?_, Tn.refl _ _⟩
    unfold Dk.arm
    rw [if_pos HO.out]
    exact H.out
  | false =>
    rw [ho] at c1
    have HO := Lib.hid ho
    clear ho
    go_enter Try.func43, Try.ntmps43
    go_wp2
    all_goals
      go_returns
      have ht : ∀ v, Tn (· = a) w (w.setCell ⟨a, 2, none⟩ v) := fun v => tn_set (Tn.refl _ _) v
      refine ⟨rfl, ?_, H.out.tna (ht _)⟩
      unfold Dk.arm
      rw [if_neg (by rw [HO.out]; decide)]
      refine H.out.ctl (by omega) (ht _) (heap_set H.out.box _ ?_)
      first
        | (simp; done)
        | (simp; omega)
/-- One file's bytes are laid anew, and how many of them are safe. -/
theorem RAt.both {g cap k : Nat} {y : Fi} {u : Value} {d' : Dk} (h : RAt C w a d (.slice (some ⟨g, 0, none⟩) (fvs d.f).length cap) us) (hk : k < d.f.length) (hs : d.f[k] = (s, x)) (hu : w.ownsRow 0 5 1 u y.data.length (bys y.data))
    (hf : d'.f = upd d.f s fun _ => y) (ho : d'.off = d.off) (hl : d'.left = d.left) (hd : d'.done = d.done) (hok : Okr d') (hC : ∀ k, C k → D k) (hD : ∀ j, u.ownBlock = some j → D j) (hlt : ∀ j, D j → j < w.heap.size) :
    ∃ us', RAt D ((w.setCell ⟨g, k * 3 + 1, none⟩ u).setCell ⟨g, k * 3 + 2, none⟩ (.int .i64 (y.safe : Int))) a d' (.slice (some ⟨g, 0, none⟩) (fvs d'.f).length cap) us' := by
  have hkl : k < (fvs d.f).length := by rw [fvs_length]; exact hk
  have hku : k < us.length := by rw [h.fo.len]; exact hkl
  obtain ⟨e1, e2, _⟩ := h.fo.at_ k hku hkl
  rw [fvs_get hkl, hs] at e1 e2
  obtain ⟨h2, h3⟩ := h.fo.own.stored (k * 3 + 1) u
  rw [cellsF_set1 us hku] at h2
  obtain ⟨h4, h5⟩ := h2.stored (k * 3 + 2) (.int .i64 (y.safe : Int))
  rw [cellsF_set2 _ (by rw [List.length_set]; exact hku), List.getElem_set_self, List.set_set, e1] at h4
  have h6 := h3.trans h5
  have hapart : u.ownBlock = none ∨ u.ownBlock ≠ some g := by
    cases e : u.ownBlock with
    | none => exact .inl rfl
    | some j => exact .inr (fun e2 => own_apart hu h.fo.own (by decide) j e e2.symm)
  have hfo := h.fo.turn (q := ⟨s, y.data, (y.safe : Int)⟩) h6 h4 (hu.kept h6 hapart) hC hD
  have hL : fvs d'.f = (fvs d.f).set k ⟨s, y.data, (y.safe : Int)⟩ := by rw [hf]; exact fvs_upd h.ok.rising hk hs _
  have hga : g ≠ a := h.ne.1 g rfl
  have hbox : ((w.setCell ⟨g, k * 3 + 1, none⟩ u).setCell ⟨g, k * 3 + 2, none⟩ (.int .i64 (y.safe : Int))).heap[a]? = w.heap[a]? := (Below.heap_setCell _ _ _ _ (fun e => hga e.symm)).trans (Below.heap_setCell _ _ _ _ (fun e => hga e.symm))
  have hlen : (fvs d'.f).length = (fvs d.f).length := by rw [hL, List.length_set]
  rw [← hL] at hfo
  rw [hlen]
  exact ⟨_, hok, by rw [hl]; exact h.left, by rw [hbox, h.box, ho, hl, hd], hfo, hC a h.ca, fun j hj => by simpa using hlt j hj⟩
set_option maxRecDepth 100000 in
set_option maxHeartbeats 4000000 in
theorem rcut_any (h : RAt C w a d v us) (s : Nm) (hd : d.done < 9223372036854775807) (n : Int) (hn1 : -9223372036854775808 ≤ n) (hn2 : n ≤ 9223372036854775807) : Calls Try.prog 40 #[ptr a, nmv s, .int .i64 n] w (RWrote C w a (d.cut s n)) := by
  have H := Lib.hid h
  have HD := Lib.hid hd
  have c1 := h.c1
  cases hx : get d.f s with
  | none =>
    have HX := Lib.hid hx
    cases ho : d.off with
    | true =>
      have e : d.cut s n = (d, 12) := by unfold Dk.cut; rw [if_pos ho]
      rw [e]
      rw [ho] at c1
      clear h hx e ho hd
      go_enter Try.func40, Try.ntmps40
      go_wp2_with (go_at_call 49; (with_reducible refine (rat_none H.out HX.out).mono ?_); rintro e w' ⟨rfl, rfl⟩)
      go_ret
      exact rwrote_same (r := (d, 12)) H.out (Tn.refl _ _) H.out.lt
    | false =>
      have e : d.cut s n = (d, 8) := by unfold Dk.cut; rw [ho, has_get, hx]; rfl
      rw [e]
      rw [ho] at c1
      clear h hx e ho hd
      go_enter Try.func40, Try.ntmps40
      go_wp2_with (go_at_call 49; (with_reducible refine (rat_none H.out HX.out).mono ?_); rintro e w' ⟨rfl, rfl⟩)
      go_ret
      exact rwrote_same (r := (d, 8)) H.out (Tn.refl _ _) H.out.lt
  | some x =>
    obtain ⟨k, hk, hs, hne⟩ := get_pos h.ok.rising hx
    have HN := Lib.hid hne
    have HS := Lib.hid hs
    have HX := Lib.hid hx
    cases ho : d.off with
    | true =>
      have e : d.cut s n = (d, 12) := by unfold Dk.cut; rw [if_pos ho]
      rw [e]
      rw [ho] at c1
      clear h hx e ho hd hs hne
      go_enter Try.func40, Try.ntmps40
      go_wp2_with (go_at_call 49; (with_reducible refine (rat_some H.out hk HS.out HN.out).mono ?_); rintro e w' ⟨rfl, rfl⟩)
      go_ret
      exact rwrote_same (r := (d, 12)) H.out (Tn.refl _ _) H.out.lt
    | false =>
      rw [ho] at c1
      obtain ⟨g, cap, hv, hCg, hfz, g0, ⟨bo, bc, g1, sb⟩, g2⟩ := h.row hk hs
      subst hv
      have c0 := h.c0
      have hkl : k < (fvs d.f).length := by rw [fvs_length]; exact hk
      have hlen : len d.f s = x.data.length := by unfold len; rw [hx]
      by_cases hr : n < 0 ∨ (x.data.length : Int) < n
      · have e : d.cut s n = (d, 1) := by unfold Dk.cut; rw [ho, has_get, hx, hlen, if_pos hr]; rfl
        rw [e]
        clear h ho e hx hne hs hd sb hfz hlen
        by_cases hr0 : n < 0
        · go_enter Try.func40, Try.ntmps40
          go_wp2_with (go_at_call 49; (with_reducible refine (rat_some H.out hk HS.out HN.out).mono ?_); rintro e w' ⟨rfl, rfl⟩)
          go_ret
          exact rwrote_same (r := (d, 1)) H.out (Tn.refl _ _) H.out.lt
        · have hr1 : (x.data.length : Int) < n := by omega
          clear hr
          go_enter Try.func40, Try.ntmps40
          go_wp2_with (go_at_call 49; (with_reducible refine (rat_some H.out hk HS.out HN.out).mono ?_); rintro e w' ⟨rfl, rfl⟩)
          go_ret
          exact rwrote_same (r := (d, 1)) H.out (Tn.refl _ _) H.out.lt
      have hr0 : ¬ n < 0 := by omega
      have hr1 : ¬ (x.data.length : Int) < n := by omega
      cases hq : d.spend.2 with
      | false =>
        have e : d.cut s n = (d.spend.1, 12) := by unfold Dk.cut; rw [ho, has_get, hx, hlen, if_neg hr, hq]; rfl
        rw [e]
        have HQ := Lib.hid hq
        clear h ho e hx hq hne hs hd sb hfz hlen hr
        go_enter Try.func40, Try.ntmps40
        go_wp2_with (first
          | (go_at_call 49; (with_reducible refine (rat_some H.out hk HS.out HN.out).mono ?_); rintro e w' ⟨rfl, rfl⟩)
          | (go_at_call 60; (with_reducible refine (falls_any H.out HD.out).mono ?_); rw [HQ.out]; rintro e w1 ⟨rfl, h1, ht⟩; have H1 := Lib.hid h1; have HT := Lib.hid ht; clear h1 ht))
        go_ret
        exact rwrote_same (r := (d.spend.1, 12)) H1.out (H.out.tna HT.out) H.out.lt
      | true =>
        have e : d.cut s n = ({ d.spend.1 with f := upd d.f s fun x => ⟨x.data.take n.toNat, min x.safe n.toNat⟩ }, 0) := by unfold Dk.cut; rw [ho, has_get, hx, hlen, if_neg hr, hq]; rfl
        have HQ := Lib.hid hq
        have HE := Lib.hid e
        have HXL : Hid (x.data.length ≤ 4194304) := Nat.le_trans (get_tot h.ok.rising hx) h.ok.room
        clear h ho e hx hq hne hs hd sb hfz hlen hr
        go_enter Try.func40, Try.ntmps40
        go_wp2_with (first
          | (go_at_call 49; (with_reducible refine (rat_some H.out hk HS.out HN.out).mono ?_); rintro e w' ⟨rfl, rfl⟩)
          | (go_at_call 60; (with_reducible refine (falls_any H.out HD.out).mono ?_); rw [HQ.out]; rintro e w1 ⟨rfl, h1, ht⟩; have H1 := Lib.hid h1; have HT := Lib.hid ht; clear h1 ht))
        clear g0 g1 g2 c0 hkl
        have hf1 := spend_f (d := d)
        obtain ⟨hk1, hs1⟩ := at_spend hk HS.out
        obtain ⟨g', cap', hv, hCg', hfz, g0, ⟨bo, bc, g1, sb⟩, g2⟩ := H1.out.row hk1 hs1
        injection hv with e1 e2 e3
        injection e1 with e1
        injection e1 with e1
        subst e1; subst e3
        rw [← hf1] at H1 H ⊢
        obtain ⟨m, rfl⟩ : ∃ m : Nat, n = (m : Int) := ⟨n.toNat, by omega⟩
        have hm : m ≤ x.data.length := by omega
        have hup : (upd d.f s fun x => ⟨x.data.take m, min x.safe m⟩) = upd d.spend.1.f s fun _ => ⟨x.data.take m, min x.safe m⟩ := by rw [spend_f]; exact upd_const H.out.ok.rising (fun x => ⟨x.data.take m, min x.safe m⟩) HX.out
        have hok := H.out.ok.cut (s := s) (n := (m : Int))
        rw [HE.out] at hok
        have HUP := Lib.hid hup
        have HOK := Lib.hid hok
        have HGA : Hid (g ≠ a) := H1.out.ne.1 g rfl
        have HSB := Lib.hid ((sb.below (Below.refl _ w1).drew).top hm)
        have hbc := sb.le
        have c0 : w1.drew.cell? ⟨a, 0, none⟩ = _ := H1.out.c0
        have g1 : w1.drew.cell? ⟨g, k * 3 + 1, none⟩ = _ := g1
        have hz1 := hfz (k * 3 + 1)
        have hz2 := hfz (k * 3 + 2)
        have hkl : k < (fvs d.spend.1.f).length := by rw [fvs_length]; exact hk1
        have hcond : (0 : Int) ≤ (m : Int) ∧ (m : Int) ≤ (bc : Int) := by omega
        have HAS : Hid (a < w1.drew.heap.size) := H1.out.lt a H1.out.ca
        have HGS : Hid (g < w1.drew.heap.size) := H1.out.lt g hCg
        have HS1 := Lib.hid hs1
        have HML := Lib.hid hm
        have hm2 : m ≤ 140737488355328 := by have := HXL.out; omega
        clear hs1 sb hfz hup hok hCg' g0 e2 hf1
        refine wp_region_held (S := (fun w' => w'.cell? ⟨a, 0, none⟩ = some (.slice (some ⟨g, 0, none⟩) (fvs d.spend.1.f).length cap))) (by kernel_rfl) ?_
        change wpAnyH _ _ _ _ _ _ _ _ (World.drew _)
        refine wpAnyH_take (i := 0) (v := ?vf_0) rfl (by kernel_rfl) (by kernel_rfl) (by kernel_rfl) (fun _ _ _ h => h) (Or.inl ⟨by rfl, ?yf_0⟩) c0 ?rf_0
        case yf_0 => (intro W hSw; (try dsimp only at hSw); obtain _ := hSw; first | (go_simp; done) | (go_simp; with_reducible rfl))
        try go_simp
        refine wpAnyH_take (i := 1) (v := ?vf_1) rfl (by kernel_rfl) (by kernel_rfl) (by kernel_rfl) (fun _ _ _ h => h) (Or.inl ⟨by rfl, ?yf_1⟩) c0 ?rf_1
        case yf_1 => (intro W hSw; (try dsimp only at hSw); obtain _ := hSw; first | (go_simp; done) | (go_simp; with_reducible rfl))
        try go_simp
        refine wpAnyH_take (i := 2) (v := ?vf_2) rfl (by kernel_rfl) (by kernel_rfl) (by kernel_rfl) (fun _ _ _ h => h) (Or.inl ⟨by rfl, ?yf_2⟩) c0 ?rf_2
        case yf_2 => (intro W hSw; (try dsimp only at hSw); obtain _ := hSw; first | (go_simp; done) | (go_simp; with_reducible rfl))
        try go_simp
        refine wpAnyH_take (i := 3) (v := ?vf_3) rfl (by kernel_rfl) (by kernel_rfl) (by kernel_rfl) (fun _ _ _ h => h) (Or.inl ⟨by rfl, ?yf_3⟩) c0 ?rf_3
        case yf_3 => (intro W hSw; (try dsimp only at hSw); obtain _ := hSw; first | (go_simp; done) | (go_simp; with_reducible rfl))
        try go_simp
        refine wpAnyH_take (i := 4) (v := ?vf_4) rfl (by kernel_rfl) (by kernel_rfl) (by kernel_rfl) (fun _ _ _ h => h) (Or.inl ⟨by rfl, ?yf_4⟩) c0 ?rf_4
        case yf_4 => (intro W hSw; (try dsimp only at hSw); obtain _ := hSw; first | (go_simp; done) | (go_simp; with_reducible rfl))
        try go_simp
        refine wpAnyH_take (i := 5) (v := ?vf_5) rfl (by kernel_rfl) (by kernel_rfl) (by kernel_rfl) (fun _ _ _ h => h) (Or.inl ⟨by rfl, ?yf_5⟩) c0 ?rf_5
        case yf_5 => (intro W hSw; (try dsimp only at hSw); obtain _ := hSw; first | (go_simp; done) | (go_simp; with_reducible rfl))
        try go_simp
        refine wpAnyH_take (i := 6) (v := ?vf_6) rfl (by kernel_rfl) (by kernel_rfl) (by kernel_rfl) (fun _ _ _ h => h) (Or.inl ⟨by rfl, ?yf_6⟩) c0 ?rf_6
        case yf_6 => (intro W hSw; (try dsimp only at hSw); obtain _ := hSw; first | (go_simp; done) | (go_simp; with_reducible rfl))
        try go_simp
        refine wpAnyH_take (i := 7) (v := ?vf_7) rfl (by kernel_rfl) (by kernel_rfl) (by kernel_rfl) (fun _ _ _ h => h) (Or.inl ⟨by rfl, ?yf_7⟩) c0 ?rf_7
        case yf_7 => (intro W hSw; (try dsimp only at hSw); obtain _ := hSw; first | (go_simp; done) | (go_simp; with_reducible rfl))
        try go_simp
        refine wpAnyH_take (i := 8) (v := ?vf_8) rfl (by kernel_rfl) (by kernel_rfl) (by kernel_rfl) (fun _ _ _ h => h) (Or.inl ⟨by rfl, ?yf_8⟩) c0 ?rf_8
        case yf_8 => (intro W hSw; (try dsimp only at hSw); obtain _ := hSw; first | (go_simp; done) | (go_simp; with_reducible rfl))
        try go_simp
        refine wpAnyH_take (i := 9) (v := ?vf_9) rfl (by kernel_rfl) (by kernel_rfl) (by kernel_rfl) (fun _ _ _ h => h) (Or.inl ⟨by rfl, ?yf_9⟩) c0 ?rf_9
        case yf_9 => (intro W hSw; (try dsimp only at hSw); obtain _ := hSw; first | (go_simp; done) | (go_simp; with_reducible rfl))
        try go_simp
        refine wpAnyH_take (i := 10) (v := ?vf_10) rfl (by kernel_rfl) (by kernel_rfl) (by kernel_rfl) (fun _ _ _ h => h) (Or.inl ⟨by rfl, ?yf_10⟩) c0 ?rf_10
        case yf_10 => (intro W hSw; (try dsimp only at hSw); obtain _ := hSw; first | (go_simp; done) | (go_simp; with_reducible rfl))
        try go_simp
        refine wpAnyH_take (i := 11) (v := ?vf_11) rfl (by kernel_rfl) (by kernel_rfl) (by kernel_rfl) (fun _ _ _ h => h) (Or.inl ⟨by rfl, ?yf_11⟩) c0 ?rf_11
        case yf_11 => (intro W hSw; (try dsimp only at hSw); obtain _ := hSw; first | (go_simp; done) | (go_simp; with_reducible rfl))
        try go_simp
        refine wpAnyH_take (i := 13) (v := ?vf_13) rfl (by kernel_rfl) (by kernel_rfl) (by kernel_rfl) (fun _ _ _ h => h) (Or.inl ⟨by rfl, ?yf_13⟩) c0 ?rf_13
        case yf_13 => (intro W hSw; (try dsimp only at hSw); obtain _ := hSw; first | (go_simp; done) | (go_simp; with_reducible rfl))
        try go_simp
        refine wpAnyH_ready (rs := [12]) (by kernel_rfl) (by simp) ?_
        refine AllReadyH.cons rfl (fun K hK => ?_) AllReadyH.nil
        go_simp
        refine hK.out _ _ c0 (fun _ => ?_)
        clear hK K
        try go_simp
        refine wpAnyH_take (i := 14) (v := ?vf_14) rfl (by kernel_rfl) (by kernel_rfl) (by kernel_rfl) (fun _ _ _ h => h) (Or.inl ⟨by rfl, ?yf_14⟩) c0 ?rf_14
        case yf_14 => (intro W hSw; (try dsimp only at hSw); obtain _ := hSw; first | (go_simp; done) | (go_simp; with_reducible rfl))
        try go_simp
        refine wpAnyH_ready (rs := [15]) (by kernel_rfl) (by simp) ?_
        refine AllReadyH.cons rfl (fun K hK => ?_) AllReadyH.nil
        go_simp
        (go_wp2_with (first | (go_at_call 19; (refine (copyBytes_any HSB.out hm2).mono ?_); rintro e w3 ⟨o3, k3, rfl, ho3, hb3⟩; have HO3 := Lib.hid ho3; have HB3 := Lib.hid hb3; have p0 := (hb3.cell (p := ⟨a, 0, none⟩) HAS.out).trans c0; have p1 := (hb3.cell (p := ⟨g, k * 3 + 1, none⟩) HGS.out).trans g1; have p2 := (hb3.cell (p := ⟨g, k * 3 + 2, none⟩) HGS.out).trans g2; have fz1 := (hb3.frozen (p := ⟨g, k * 3 + 1, none⟩) HGS.out).trans hz1; have fz2 := (hb3.frozen (p := ⟨g, k * 3 + 2, none⟩) HGS.out).trans hz2; have H3 := Lib.hid ((H1.out.below (Below.refl _ w1).drew).below hb3); clear ho3 hb3)))
        refine hK.out _ _ p0 (fun _ => ?_)
        clear hK K
        try go_simp
        refine wpAnyH_take (i := 16) (v := ?vf_16) rfl (by kernel_rfl) (by kernel_rfl) (by kernel_rfl) (fun _ _ _ h => h) (Or.inl ⟨by rfl, ?yf_16⟩) p0 ?rf_16
        case yf_16 => (intro W hSw; (try dsimp only at hSw); obtain _ := hSw; first | (go_simp; done) | (go_simp; with_reducible rfl))
        try go_simp
        refine wpAnyH_take (i := 17) (v := ?vf_17) rfl (by kernel_rfl) (by kernel_rfl) (by kernel_rfl) (fun _ _ _ h => h) (Or.inl ⟨by rfl, ?yf_17⟩) p0 ?rf_17
        case yf_17 => (intro W hSw; (try dsimp only at hSw); obtain _ := hSw; first | (go_simp; done) | (go_simp; with_reducible rfl))
        try go_simp
        have q0 := (World.cell?_setCell_far w3 ⟨g, k * 3 + 1, none⟩ ⟨a, 0, none⟩ (.slice o3 m k3) HGA.out).trans p0
        refine wpAnyH_ready (rs := [18]) (by kernel_rfl) (by simp) ?_
        refine AllReadyH.cons rfl (fun K hK => ?_) AllReadyH.nil
        go_simp
        refine hK.out _ _ q0 (fun _ => ?_)
        clear hK K
        try go_simp
        refine wpAnyH_done (by kernel_rfl) ?_ _
        try go_wp2
        have r2 := (World.cell?_setCell_other (w := w3) (a := ⟨g, k * 3 + 1, none⟩) (b := ⟨g, k * 3 + 2, none⟩) (v := .slice o3 m k3) (by simp)).trans p2
        have rz : (w3.setCell ⟨g, k * 3 + 1, none⟩ (.slice o3 m k3)).frozen? ⟨g, k * 3 + 2, none⟩ = false := by rw [World.frozen?_setCell]; exact fz2
        clear p0 p1 p2 fz1 fz2 c0 g1 g2 hz1 hz2 c1
        obtain ⟨W, hW⟩ : ∃ W, W = w3.setCell ⟨g, k * 3 + 1, none⟩ (.slice o3 m k3) := ⟨_, rfl⟩
        rw [← hW] at q0 r2 rz ⊢
        have HW := Lib.hid hW
        clear hW
        have hml := HML.out
        refine wp_region_still_tail 17 (by kernel_rfl) (by kernel_rfl) ?_
        simp only [List.take_succ_cons, List.take_zero, List.drop_succ_cons, List.drop_zero]
        iterate 17 still_step
        refine wpStill_nil ?_
        change wpList _ _ _ _ _ W.drew
        go_wp2
        go_ret
        have hW := HW.out
        subst hW
        have hmn : min (x.safe : Int) (m : Int) = ((min x.safe m : Nat) : Int) := by omega
        have hy : (x.data.take m).length = m := by rw [List.length_take]; omega
        obtain ⟨us', h2⟩ := RAt.both (D := Gw C w w3) (y := ⟨x.data.take m, min x.safe m⟩) (u := .slice o3 m k3) (d' := { d.spend.1 with f := upd d.f s fun x => ⟨x.data.take m, min x.safe m⟩ }) H3.out hk1 HS1.out (by rw [hy]; exact own_mono HO3.out (Nat.zero_le _)) HUP.out rfl rfl rfl HOK.out (gw_self C w w3) (fun j hj => .inr ⟨Nat.le_trans HT.out.size (HO3.out.lt j hj).1, (HO3.out.lt j hj).2⟩) (fun j hj => Gw.size (Nat.le_trans HT.out.size HB3.out.size) H.out.lt hj)
        have h5 : Tn C w (((w3.setCell ⟨g, k * 3 + 1, none⟩ (.slice o3 m k3)).setCell ⟨g, k * 3 + 2, none⟩ (.int .i64 ((min x.safe m : Nat) : Int)))) := ((((H.out.tna HT.out).drew.trans (Tn.of_below (S := C) HB3.out) (fun _ _ h => h)).setCell (fun _ => hCg) _)).setCell (fun _ => hCg) _
        rw [HE.out, hmn]
        exact ⟨rfl, ⟨_, _, (h2.grow (D := Gw C w _) (fun j hj => by rcases hj with hj | hj; exact .inl hj; exact .inr ⟨hj.1, by simpa using hj.2⟩) (fun j hj => Gw.size h5.size H.out.lt hj)).below (Below.refl _ _).drew⟩, h5.drew⟩
end
end Go.Proofs.Ytefgnlijgomgpaa
