/- raceref6.Disk: Append. Conditions: none of its own. -/
import Derived.Test.YtefgnlijgomgpaaMd
namespace Go.Proofs.Ytefgnlijgomgpaa
open Go.RowKit
section
variable {C D S : Nat → Prop} {w w' : World} {a : Nat} {d : Dk} {v : Value} {us : List (Nm × Value × Int)} {s : Nm} {x : Fi}
theorem oper_append_sb {C : Nat → Prop} {ops : Array Oper} {o : Oper} {a : Act} {w : World} {K' : Act → World → Prop} {Q : Exit → Act → World → Prop} {X : Prop} (hw : Region.wanted o (yielded ops a.tmps) = true) (s x : Operand)
    (ho : o.op = .call { callee := .builtin .append, args := #[s, x], argTypes := #[33, 33] }) {v : Value} {l m : List UInt8} {B : Nat} (hs : a.eval s = v) (hown : w.ownsRow B 5 1 v l.length (bys l)) (hB : B ≤ w.heap.size)
    {ao : Option Addr} {n cap : Nat} (hx : a.eval x = .slice ao n cap) (hm : SB C w ao n cap m) (hroom : l.length + n ≤ 140737488355328)
    (h : ∀ v' w', w'.ownsRow B 5 1 v' (l ++ m).length (bys (l ++ m)) → w.grownBy w' v.ownBlock → (v'.ownBlock = v.ownBlock ∨ v'.ownBlock = some w.heap.size) → K' (a.put o.dst v') w') : if Region.wanted o (yielded ops a.tmps) = true then o.wp Try.prog a w K' Q else X := by
  obtain ⟨v', w', hr, h2, h3, h5⟩ := run_append_sb o.type hown hB hm hroom
  rw [if_pos hw]
  unfold Oper.wp execOp
  simp only [ho, resolve, invoke, builtin, Sem.run_bind, Sem.run_pure, Result.andThen_ok, List.map_toArray, List.map_cons, List.map_nil, hs, hx, hr]
  exact h v' w' h2 h3 h5
theorem spend_put (d : Dk) (f : Ent Fi) : ({ d with f := f } : Dk).spend = ({ d.spend.1 with f := f }, d.spend.2) := by
  unfold Dk.spend
  split <;> rfl
set_option maxRecDepth 100000 in
set_option maxHeartbeats 4000000 in
theorem rappend_any {E : Nat → Prop} {bo0 : Option Addr} {n bcap : Nat} {b : List UInt8} (h : RAt C w a d v us) (s : Nm) (hd : d.done < 9223372036854775807) (hb : SB E w bo0 n bcap b) : Calls Try.prog 38 #[ptr a, nmv s, .slice bo0 n bcap] w (RWrote C w a (d.append s b)) := by
  have H := Lib.hid h
  have HD := Lib.hid hd
  have c1 := h.c1
  cases hx : get d.f s with
  | none =>
    have HX := Lib.hid hx
    cases ho : d.off with
    | true =>
      have e : d.append s b = (d, 12) := by unfold Dk.append; rw [if_pos ho]
      rw [e]
      rw [ho] at c1
      clear h hx e ho hd
      go_enter Try.func38, Try.ntmps38
      go_wp2_with (go_at_call 49; (with_reducible refine (rat_none H.out HX.out).mono ?_); rintro e w' ⟨rfl, rfl⟩)
      go_ret
      exact rwrote_same (r := (d, 12)) H.out (Tn.refl _ _) H.out.lt
    | false =>
      have e : d.append s b = (d, 8) := by unfold Dk.append; rw [ho, has_get, hx]; rfl
      rw [e]
      rw [ho] at c1
      clear h hx e ho hd
      go_enter Try.func38, Try.ntmps38
      go_wp2_with (go_at_call 49; (with_reducible refine (rat_none H.out HX.out).mono ?_); rintro e w' ⟨rfl, rfl⟩)
      go_ret
      exact rwrote_same (r := (d, 8)) H.out (Tn.refl _ _) H.out.lt
  | some x =>
    obtain ⟨k, hk, hs, hne⟩ := get_pos h.ok.rising hx
    have HN := Lib.hid hne
    have HS := Lib.hid hs
    have HX := Lib.hid hx
    cases ho : d.off with
    | true =>
      have e : d.append s b = (d, 12) := by unfold Dk.append; rw [if_pos ho]
      rw [e]
      rw [ho] at c1
      clear h hx e ho hd hs hne
      go_enter Try.func38, Try.ntmps38
      go_wp2_with (go_at_call 49; (with_reducible refine (rat_some H.out hk HS.out HN.out).mono ?_); rintro e w' ⟨rfl, rfl⟩)
      go_ret
      exact rwrote_same (r := (d, 12)) H.out (Tn.refl _ _) H.out.lt
    | false =>
      rw [ho] at c1
      obtain ⟨g, cap, hv, hCg, hfz, g0, ⟨bo, bc, g1, sb⟩, g2⟩ := h.row hk hs
      subst hv
      have c0 := h.c0
      have hkl : k < (fvs d.f).length := by rw [fvs_length]; exact hk
      have hroom := h.ok.room
      have HTF : Hid (totF (fvs d.f) = tot d.f) := totF_fvs _
      obtain rfl := hb.len
      have hlt := hb.lt
      have hwr : IntKind.i64.wrap (4194304 - (tot d.f : Int)) = 4194304 - (tot d.f : Int) := wrap_in (by omega)
      by_cases hr : 4194304 - tot d.f < b.length
      · have e : d.append s b = (d, 11) := by unfold Dk.append; rw [ho, has_get, hx, if_pos hr]; rfl
        rw [e]
        have hr1 : 4194304 - (tot d.f : Int) < (b.length : Int) := by omega
        clear h ho e hx hne hs hd sb hfz hb
        go_enter Try.func38, Try.ntmps38
        go_wp2_with (first
          | (go_at_call 49; (with_reducible refine (rat_some H.out hk HS.out HN.out).mono ?_); rintro e w' ⟨rfl, rfl⟩)
          | (go_at_call 47; (with_reducible refine (rsize_any H.out).mono ?_); rintro e w' ⟨rfl, rfl⟩; rw [HTF.out]))
        go_ret
        exact rwrote_same (r := (d, 11)) H.out (Tn.refl _ _) H.out.lt
      · have e : d.append s b = ({ d.spend.1 with f := upd d.f s fun x => ⟨x.data ++ b, x.safe⟩ }, if d.spend.2 then 0 else 12) := by unfold Dk.append; rw [ho, has_get, hx, if_neg hr]; rfl
        have hr1 : ¬ 4194304 - (tot d.f : Int) < (b.length : Int) := by omega
        have hok := h.ok.append (s := s) (b := b)
        rw [e] at hok
        have hok1 : Okr { d with f := upd d.f s fun x => ⟨x.data ++ b, x.safe⟩ } := hok.of_f rfl
        have hup := upd_const h.ok.rising (fun x => ⟨x.data ++ b, x.safe⟩) hx
        have HSP := Lib.hid (spend_put d (upd d.f s fun x => ⟨x.data ++ b, x.safe⟩))
        have HE := Lib.hid e
        have HOK := Lib.hid hok1
        have HUP := Lib.hid hup
        have hx2 : x.data.length ≤ 140737488355328 := by have := get_tot h.ok.rising hx; omega
        have hab : x.data.length + b.length ≤ 140737488355328 := by have := get_tot h.ok.rising hx; omega
        have HGA : Hid (g ≠ a) := h.ne.1 g rfl
        have HSB := Lib.hid (sb.below (Below.refl _ w).drew)
        have HBB := Lib.hid (hb.below (Below.refl _ w).drew)
        have c0 : w.drew.cell? ⟨a, 0, none⟩ = _ := c0
        have g1 : w.drew.cell? ⟨g, k * 3 + 1, none⟩ = _ := g1
        have hz1 := hfz (k * 3 + 1)
        have HAS : Hid (a < w.drew.heap.size) := h.lt a h.ca
        have HGS : Hid (g < w.drew.heap.size) := h.lt g hCg
        obtain ⟨N, hN⟩ : ∃ N, (x.data ++ b).length = N := ⟨_, rfl⟩
        have HNL := Lib.hid hN
        have HCG := Lib.hid hCg
        have HCA := Lib.hid h.ca
        clear h ho e hx hne hs sb hfz hb hok hok1 hup hr hN g0 g2 hroom hlt hd
        go_enter Try.func38, Try.ntmps38
        go_wp2_with (first
          | (go_at_call 49; (with_reducible refine (rat_some H.out hk HS.out HN.out).mono ?_); rintro e w' ⟨rfl, rfl⟩)
          | (go_at_call 47; (with_reducible refine (rsize_any H.out).mono ?_); rintro e w' ⟨rfl, rfl⟩; rw [HTF.out]))
        refine wp_region_held (S := (fun w' => w'.cell? ⟨a, 0, none⟩ = some (.slice (some ⟨g, 0, none⟩) (fvs d.f).length cap))) (by kernel_rfl) ?_
        change wpAnyH _ _ _ _ _ _ _ _ (World.drew _)
        refine wpAnyH_take (i := 0) (v := ?vf_0) rfl (by kernel_rfl) (by kernel_rfl) (by kernel_rfl) (fun _ _ _ h => h) (Or.inl ⟨by rfl, ?yf_0⟩) c0 ?rf_0
        case yf_0 => (intro W hSw; (try dsimp only at hSw); obtain _ := hSw; first | (go_simp; done) | (go_simp; with_reducible rfl))
        try go_simp
        refine wpAnyH_take (i := 1) (v := ?vf_1) rfl (by kernel_rfl) (by kernel_rfl) (by kernel_rfl) (fun _ _ _ h => h) (Or.inl ⟨by rfl, ?yf_1⟩) c0 ?rf_1
        case yf_1 => (intro W hSw; (try dsimp only at hSw); obtain _ := hSw; first | (go_simp; done) | (go_simp; with_reducible rfl))
        try go_simp
        refine wpAnyH_take (i := 2) (v := ?vf_2) rfl (by kernel_rfl) (by kernel_rfl) (by kernel_rfl) (fun _ _ _ h => h) (Or.inl ⟨by rfl, ?yf_2⟩) c0 ?rf_2
        case yf_2 => (intro W hSw; (try dsimp only at hSw); obtain _ := hSw; first | (go_simp; done) | (go_simp; with_reducible rfl))
        try go_simp
        refine wpAnyH_take (i := 3) (v := ?vf_3) rfl (by kernel_rfl) (by kernel_rfl) (by kernel_rfl) (fun _ _ _ h => h) (Or.inl ⟨by rfl, ?yf_3⟩) c0 ?rf_3
        case yf_3 => (intro W hSw; (try dsimp only at hSw); obtain _ := hSw; first | (go_simp; done) | (go_simp; with_reducible rfl))
        try go_simp
        refine wpAnyH_take (i := 4) (v := ?vf_4) rfl (by kernel_rfl) (by kernel_rfl) (by kernel_rfl) (fun _ _ _ h => h) (Or.inl ⟨by rfl, ?yf_4⟩) c0 ?rf_4
        case yf_4 => (intro W hSw; (try dsimp only at hSw); obtain _ := hSw; first | (go_simp; done) | (go_simp; with_reducible rfl))
        try go_simp
        refine wpAnyH_take (i := 5) (v := ?vf_5) rfl (by kernel_rfl) (by kernel_rfl) (by kernel_rfl) (fun _ _ _ h => h) (Or.inl ⟨by rfl, ?yf_5⟩) c0 ?rf_5
        case yf_5 => (intro W hSw; (try dsimp only at hSw); obtain _ := hSw; first | (go_simp; done) | (go_simp; with_reducible rfl))
        try go_simp
        refine wpAnyH_take (i := 6) (v := ?vf_6) rfl (by kernel_rfl) (by kernel_rfl) (by kernel_rfl) (fun _ _ _ h => h) (Or.inl ⟨by rfl, ?yf_6⟩) c0 ?rf_6
        case yf_6 => (intro W hSw; (try dsimp only at hSw); obtain _ := hSw; first | (go_simp; done) | (go_simp; with_reducible rfl))
        try go_simp
        refine wpAnyH_take (i := 7) (v := ?vf_7) rfl (by kernel_rfl) (by kernel_rfl) (by kernel_rfl) (fun _ _ _ h => h) (Or.inl ⟨by rfl, ?yf_7⟩) c0 ?rf_7
        case yf_7 => (intro W hSw; (try dsimp only at hSw); obtain _ := hSw; first | (go_simp; done) | (go_simp; with_reducible rfl))
        try go_simp
        refine wpAnyH_take (i := 8) (v := ?vf_8) rfl (by kernel_rfl) (by kernel_rfl) (by kernel_rfl) (fun _ _ _ h => h) (Or.inl ⟨by rfl, ?yf_8⟩) c0 ?rf_8
        case yf_8 => (intro W hSw; (try dsimp only at hSw); obtain _ := hSw; first | (go_simp; done) | (go_simp; with_reducible rfl))
        try go_simp
        refine wpAnyH_take (i := 9) (v := ?vf_9) rfl (by kernel_rfl) (by kernel_rfl) (by kernel_rfl) (fun _ _ _ h => h) (Or.inl ⟨by rfl, ?yf_9⟩) c0 ?rf_9
        case yf_9 => (intro W hSw; (try dsimp only at hSw); obtain _ := hSw; first | (go_simp; done) | (go_simp; with_reducible rfl))
        try go_simp
        refine wpAnyH_take (i := 10) (v := ?vf_10) rfl (by kernel_rfl) (by kernel_rfl) (by kernel_rfl) (fun _ _ _ h => h) (Or.inl ⟨by rfl, ?yf_10⟩) c0 ?rf_10
        case yf_10 => (intro W hSw; (try dsimp only at hSw); obtain _ := hSw; first | (go_simp; done) | (go_simp; with_reducible rfl))
        try go_simp
        refine wpAnyH_take (i := 11) (v := ?vf_11) rfl (by kernel_rfl) (by kernel_rfl) (by kernel_rfl) (fun _ _ _ h => h) (Or.inl ⟨by rfl, ?yf_11⟩) c0 ?rf_11
        case yf_11 => (intro W hSw; (try dsimp only at hSw); obtain _ := hSw; first | (go_simp; done) | (go_simp; with_reducible rfl))
        try go_simp
        refine wpAnyH_take (i := 14) (v := ?vf_14) rfl (by kernel_rfl) (by kernel_rfl) (by kernel_rfl) (fun _ _ _ h => h) (Or.inl ⟨by rfl, ?yf_14⟩) c0 ?rf_14
        case yf_14 => (intro W hSw; (try dsimp only at hSw); obtain _ := hSw; first | (go_simp; done) | (go_simp; with_reducible rfl))
        try go_simp
        refine wpAnyH_ready (rs := [12]) (by kernel_rfl) (by simp) ?_
        refine AllReadyH.cons rfl (fun K hK => ?_) AllReadyH.nil
        go_simp
        refine hK.out _ _ c0 (fun _ => ?_)
        clear hK K
        try go_simp
        refine wpAnyH_ready (rs := [13]) (by kernel_rfl) (by simp) ?_
        refine AllReadyH.cons rfl (fun K hK => ?_) AllReadyH.nil
        go_simp
        (go_wp2_with (first | (go_at_call 19; (refine (copyBytes_any HSB.out hx2).mono ?_); rintro e w3 ⟨o3, k3, rfl, ho3, hb3⟩; have HO3 := Lib.hid ho3; have HB3 := Lib.hid hb3; have p0 := (hb3.cell (p := ⟨a, 0, none⟩) HAS.out).trans c0; have p1 := (hb3.cell (p := ⟨g, k * 3 + 1, none⟩) HGS.out).trans g1; have fz1 := (hb3.frozen (p := ⟨g, k * 3 + 1, none⟩) HGS.out).trans hz1; have H3 := Lib.hid ((H.out.below (Below.refl _ w).drew).below hb3); clear ho3 hb3)))
        refine hK.out _ _ p0 (fun _ => ?_)
        clear hK K
        try go_simp
        refine wpAnyH_ready (rs := [15]) (by kernel_rfl) (by simp) ?_
        refine AllReadyH.cons rfl (fun K hK => ?_) AllReadyH.nil
        have hb3 := HBB.out.below HB3.out
        refine oper_append_sb (wanted_none rfl _) (.tmp 39) (.tmp 40) rfl rfl (l := x.data) HO3.out (by simpa using HB3.out.size) rfl hb3 hab ?_
        intro v4 w4 ho4 hg4 hl4
        obtain ⟨o4, k4, rfl⟩ := own_slice ho4
        have hl5 : (x.data ++ b).length = N := HNL.out
        rw [hl5] at ho4 hl4 ⊢
        have hga : (Value.slice o3 x.data.length k3).ownBlock ≠ some a := fun e => by have h8 := (HO3.out.lt a e).1; have h9 := HAS.out; omega
        have hgg : (Value.slice o3 x.data.length k3).ownBlock ≠ some g := fun e => by have h8 := (HO3.out.lt g e).1; have h9 := HGS.out; omega
        have s0 := hg4.cell p0 (fun e => hga e.symm)
        have s1 := hg4.cell p1 (fun e => hgg e.symm)
        have fs1 := (World.frozen?_of_block (w := w3) (a := ⟨g, k * 3 + 1, none⟩) (hg4.block g (Nat.lt_of_lt_of_le HGS.out HB3.out.size) (fun e => hgg e.symm))).trans fz1
        have HG4 := Lib.hid hg4
        have HO4 := Lib.hid ho4
        have HL4 := Lib.hid hl4
        clear ho4 hg4 hl4 hga hgg hb3 p0 p1 fz1 hl5
        try go_simp
        refine hK.out _ _ s0 (fun _ => ?_)
        clear hK K
        try go_simp
        refine wpAnyH_take (i := 16) (v := ?vf_16) rfl (by kernel_rfl) (by kernel_rfl) (by kernel_rfl) (fun _ _ _ h => h) (Or.inl ⟨by rfl, ?yf_16⟩) s0 ?rf_16
        case yf_16 => (intro W hSw; (try dsimp only at hSw); obtain _ := hSw; first | (go_simp; done) | (go_simp; with_reducible rfl))
        try go_simp
        refine wpAnyH_take (i := 17) (v := ?vf_17) rfl (by kernel_rfl) (by kernel_rfl) (by kernel_rfl) (fun _ _ _ h => h) (Or.inl ⟨by rfl, ?yf_17⟩) s0 ?rf_17
        case yf_17 => (intro W hSw; (try dsimp only at hSw); obtain _ := hSw; first | (go_simp; done) | (go_simp; with_reducible rfl))
        try go_simp
        have q0 := (World.cell?_setCell_far w4 ⟨g, k * 3 + 1, none⟩ ⟨a, 0, none⟩ (.slice o4 N k4) HGA.out).trans s0
        refine wpAnyH_ready (rs := [18]) (by kernel_rfl) (by simp) ?_
        refine AllReadyH.cons rfl (fun K hK => ?_) AllReadyH.nil
        go_simp
        refine hK.out _ _ q0 (fun _ => ?_)
        clear hK K
        try go_simp
        refine wpAnyH_done (by kernel_rfl) ?_ _
        have H4 := H3.out.tn (S := fun j => (Value.slice o3 x.data.length k3).ownBlock = some j) ⟨HG4.out.os, HG4.out.tape, HG4.out.output, HG4.out.size, fun j hj hne => HG4.out.block j hj (fun e => hne e.symm)⟩ (fun j hj e => by have h8 := (HO3.out.lt j e).1; have h9 : j < w.drew.heap.size := H.out.lt j hj; omega)
        have hz34 : w3.heap.size ≤ w4.heap.size := HG4.out.size
        have hzw3 : w.heap.size ≤ w3.heap.size := HB3.out.size
        have hy : (x.data ++ b).length = N := HNL.out
        obtain ⟨us5, h5⟩ := H4.data (D := Gw C w w4) (y := ⟨x.data ++ b, x.safe⟩) (u := .slice o4 N k4) (d' := { d with f := upd d.f s fun x => ⟨x.data ++ b, x.safe⟩ }) hk HS.out rfl (by rw [hy]; exact own_mono HO4.out (Nat.zero_le _)) HUP.out rfl rfl rfl HOK.out (gw_self C w w4) (fun j hj => .inr (by
          have h7 := (HO4.out.lt j hj).2
          rcases HL4.out with e | e
          · exact ⟨(HO3.out.lt j (e ▸ hj)).1, h7⟩
          · rw [e] at hj
            injection hj with hj
            omega)) (fun j hj => Gw.size (Nat.le_trans hzw3 hz34) H.out.lt hj)
        have h6 : Tn C w (w4.setCell ⟨g, k * 3 + 1, none⟩ (.slice o4 N k4)) := ((Tn.of_below (S := C) ((Below.refl _ w).drew.trans HB3.out)).grown HG4.out (fun j hj hlt => by have h8 := (HO3.out.lt j hj).1; have h9 : j < w.drew.heap.size := hlt; omega)).setCell (fun _ => HCG.out) _
        have H5 := Lib.hid h5
        have H6T := Lib.hid h6
        have hzw : w4.heap.size = (w4.setCell ⟨g, k * 3 + 1, none⟩ (.slice o4 N k4)).heap.size := by simp
        have HZW := Lib.hid hzw
        clear h5 h6 H4 hzw hy hz34 hzw3 s0 s1 fs1 q0 c0 g1 hz1
        generalize w4.setCell ⟨g, k * 3 + 1, none⟩ (.slice o4 N k4) = W at *
        cases hq : d.spend.2 with
        | false =>
          have HQ := Lib.hid hq
          clear hq
          go_wp2_with (go_at_call 60; (with_reducible refine (falls_any H5.out HD.out).mono ?_); rw [HSP.out, HQ.out]; rintro e w6 ⟨rfl, h1, ht⟩; have H6 := Lib.hid h1; have HT6 := Lib.hid ht; clear h1 ht)
          go_ret
          rw [HE.out, HQ.out]
          have h7 := H6.out
          have h8 : Tn C w w6 := H6T.out.trans (HT6.out.mono (fun _ _ e => e ▸ HCA.out)) (fun _ _ h => h)
          exact ⟨rfl, ⟨_, _, h7.grow (fun j hj => by
            rcases hj with hj | hj
            · exact .inl hj
            · exact .inr ⟨hj.1, Nat.lt_of_lt_of_le (by rw [← HZW.out]; exact hj.2) HT6.out.size⟩) (fun j hj => Gw.size h8.size H.out.lt hj)⟩, h8⟩
        | true =>
          have HQ := Lib.hid hq
          clear hq
          go_wp2_with (go_at_call 60; (with_reducible refine (falls_any H5.out HD.out).mono ?_); rw [HSP.out, HQ.out]; rintro e w6 ⟨rfl, h1, ht⟩; have H6 := Lib.hid h1; have HT6 := Lib.hid ht; clear h1 ht)
          go_ret
          rw [HE.out, HQ.out]
          have h7 := H6.out
          have h8 : Tn C w w6 := H6T.out.trans (HT6.out.mono (fun _ _ e => e ▸ HCA.out)) (fun _ _ h => h)
          exact ⟨rfl, ⟨_, _, h7.grow (fun j hj => by
            rcases hj with hj | hj
            · exact .inl hj
            · exact .inr ⟨hj.1, Nat.lt_of_lt_of_le (by rw [← HZW.out]; exact hj.2) HT6.out.size⟩) (fun j hj => Gw.size h8.size H.out.lt hj)⟩, h8⟩
end
end Go.Proofs.Ytefgnlijgomgpaa
