/- racelaw6.DiskPlays answers true, whatever came in: each operation answers as the document's disk does, and the disks stand alike behind it. Conditions: none. -/
import Derived.Test.YtefgnlijgomgpaaMm
namespace Go.Proofs.Ytefgnlijgomgpaa
open Go.ChangeShapes Go.WideShapes Go.ChangeAt Go.RowKit
/-- A disk and the document's, side by side, in blocks from B on. -/
structure Two (B : Nat) (w : World) (a : Nat) (S : Nat → Prop) (d : Dk) (c : Nat) (C : Nat → Prop) (e : Dk) : Prop where
  dk : DK S w a d
  rk : RK C w c e
  sb : ∀ k, S k → B ≤ k
  cb : ∀ k, C k → B ≤ k
  sc : ∀ k, S k → ¬ C k
section
variable {B : Nat} {w w' w1 : World} {a c : Nat} {S C : Nat → Prop} {d e x : Dk}
theorem Two.below (h : Two B w a S d c C e) (hb : Below w.heap.size w w') : Two B w' a S d c C e := ⟨h.dk.below hb, h.rk.below hb, h.sb, h.cb, h.sc⟩
theorem Two.ta (h : Two B w a S d c C e) (hB : B ≤ w.heap.size) (hd : DK (Gw S w w') w' a x) (ht : Tn S w w') : Two B w' a (Gw S w w') x c C e := by
  refine ⟨hd, h.rk.tn ht (fun k hk e => h.sc k e hk), fun k hk => Gw.lo h.sb hB hk, h.cb, fun k hk e => ?_⟩
  rcases hk with hk | hk
  · exact h.sc k hk e
  · have := h.rk.lt k e; omega
theorem Two.tb (h : Two B w a S d c C e) (hB : B ≤ w.heap.size) (hd : RK (Gw C w w') w' c x) (ht : Tn C w w') : Two B w' a S d c (Gw C w w') x := by
  refine ⟨h.dk.tn ht (fun k hk e => h.sc k hk e), hd, h.sb, fun k hk => Gw.lo h.cb hB hk, fun k hk e => ?_⟩
  rcases e with e | e
  · exact h.sc k hk e
  · have := h.dk.lt k hk; omega
theorem rk_read (h : RK C w a d) (s : Nm) : Calls Try.prog 17 #[ptr a, nmv s] w fun e w' => ∃ ao cap, e = .returned (.tuple #[.slice ao (d.read s).1.length cap, .int .i64 ((d.read s).2 : Nat)]) ∧ SB C w ao (d.read s).1.length cap (d.read s).1 ∧ w = w' := let ⟨_, _, h⟩ := h; rread_any h s
theorem sb_eq {ao : Option Addr} {n cap : Nat} {l : List UInt8} (h : SB C w ao n cap l) (e : w = w') : SB C w' ao n cap l := e ▸ h
theorem bne_self_eq_false' (n : Int) : (n != n) = false := by simp
theorem two_new {lo : Nat} (h : DK (fun k => lo ≤ k ∧ k < w.heap.size) w a .zero) (hlo : lo ≤ w.heap.size) : Two lo (w.alloc (.cells #[.slice none 0 0, .bool false, .int .i64 0, .int .i64 0] 30)) a (fun k => lo ≤ k ∧ k < w.heap.size) .zero w.heap.size (· = w.heap.size) .zero := by
  refine ⟨h.below (below1 w _), ⟨.slice none 0 0, [], ok_zero, by decide, heap_alloc_new w _, FO.nil _ _, rfl, fun k hk => ?_⟩, fun k hk => hk.1, fun k hk => ?_, fun k hk e => ?_⟩
  · subst hk; simp
  · subst hk; exact hlo
  · subst e; omega
end
set_option maxRecDepth 100000 in
set_option maxHeartbeats 8000000 in
theorem diskPlays_walk (w : World) (ao : Option Addr) (cap : Nat) (l : List Do) (hl : SO (fun k => k < w.heap.size) w ao l.length cap l) :
    Calls Try.prog 3 #[.slice ao l.length cap] w fun e w' => e = .returned (.bool true) ∧ Below w.heap.size w w' := by
  have H := Lib.hid hl
  have hlt := hl.lt
  clear hl
  cases hf : fewB l with
  | false =>
    have HF := Lib.hid hf
    clear hf
    go_enter Try.func3, Try.ntmps3
    go_wp2_with (first
      | (go_at_call 10; (with_reducible refine (first_any _).mono ?_); rintro e w1 ⟨rfl, hb⟩; have HB1 := Lib.hid hb; clear hb)
      | (go_at_call 11; (with_reducible refine (few_any (H.out.below HB1.out)).mono ?_); rw [HF.out]; rintro e w2 ⟨rfl, hb⟩; have HB2 := Lib.hid (HB1.out.trans (hb.mono HB1.out.size)); clear hb))
    go_ret
    exact ⟨rfl, HB2.out.trans (HB1.out.mono HB2.out.size)⟩
  | true =>
    have HF := Lib.hid hf
    have hsm := few_small hf (H.out.wf)
    have hlen := (few_yes hf).1
    have HSM := Lib.hid hsm
    clear hf hsm
    go_enter Try.func3, Try.ntmps3
    go_wp2_with (first
      | (go_at_call 10; (with_reducible refine (first_any _).mono ?_); rintro e w1 ⟨rfl, hb⟩; have HB1 := Lib.hid hb; clear hb)
      | (go_at_call 11; (with_reducible refine (few_any (H.out.below HB1.out)).mono ?_); rw [HF.out]; rintro e w2 ⟨rfl, hb⟩; have HB2 := Lib.hid (HB1.out.trans (hb.mono HB1.out.size)); clear hb))
    go_wp2_with (go_at_call 12; (refine (new_any _).mono ?_); rintro e w3 ⟨rfl, hb, hd⟩; have HD3 := Lib.hid hd; have HB3 := Lib.hid hb; clear hd hb)
    have HT0 := Lib.hid (two_new HD3.out HB3.out.size)
    have HB23 := Lib.hid (HB2.out.trans ((HB3.out.trans ((below1 w3 (.cells #[.slice none 0 0, .bool false, .int .i64 0, .int .i64 0] 30)).mono HB3.out.size)).mono HB2.out.size))
    have HW2 := Lib.hid HB2.out.size
    clear HB3 HB2 HB1 HD3
    go_loopw [5, 6, 7, 8, 9] (fun i _ _ _ _ wr => ∃ k : Nat, k ≤ l.length ∧ i = .int .i64 k ∧ Hid (∃ S C, Two w2.heap.size wr (w2.heap.size + 1) S (Dk.zero.run (l.take k)) w3.heap.size C (Dk.zero.run (l.take k))) ∧ Hid (Below w.heap.size w wr)) (fun i _ _ _ _ _ => l.length - (intOf i).toNat)
    case atStart => exact ⟨0, Nat.zero_le _, rfl, ⟨_, _, HT0.out⟩, HB23⟩
    case round =>
      obtain ⟨k, hk, rfl, HD, HBW⟩ := hrel
      by_cases hlt2 : k < l.length
      · obtain ⟨b, off, rfl, hbw, ho, _⟩ := H.out.at_ hlt2
        have hsk := HSM.out _ (List.getElem_mem hlt2)
        have HRT := Lib.hid (run_take Dk.zero l hlt2)
        have HDN := Lib.hid (done_take l k (by omega))
        obtain ⟨S, C, hkk⟩ := HD.out
        generalize hx : Dk.zero.run (l.take k) = x at *
        generalize hp : l[k] = p at *
        have HQ0 := Lib.hid ho.c0
        have HQ1 := Lib.hid ho.c1
        have HQ2 := Lib.hid ho.c2
        have HQ3 := Lib.hid ho.c3
        obtain ⟨a4, k4, hq4, s4⟩ := ho.c4
        obtain ⟨a5, k5, hq5, s5⟩ := ho.c5
        have HQ4 := Lib.hid hq4
        have HQ5 := Lib.hid hq5
        have HS4 := Lib.hid s4
        have HS5 := Lib.hid s5
        have HSK := Lib.hid hsk
        have HNL := Lib.hid hsk.name
        have HTT := Lib.hid hkk
        have HSW : Hid (∀ j, S j → w.heap.size ≤ j) := fun j hj => Nat.le_trans HW2.out (hkk.sb j hj)
        have HEW : Hid (∀ j, C j → w.heap.size ≤ j) := fun j hj => Nat.le_trans HW2.out (hkk.cb j hj)
        have HCA : Hid (∀ k, (fun k => k < w.heap.size) k → ¬ S k) := fun j hj e => Nat.not_lt.2 (HSW.out j e) hj
        have HCE : Hid (∀ k, (fun k => k < w.heap.size) k → ¬ C k) := fun j hj e => Nat.not_lt.2 (HEW.out j e) hj
        have HWS : Hid (w2.heap.size ≤ wr.heap.size) := by have h1 := hkk.sb _ hkk.dk.sa; have h2 := hkk.dk.lt _ hkk.dk.sa; show _ ≤ _; omega
        have HWS2 := HWS
        have HBL := Lib.hid hbw
        have HDR := Lib.hid (Below.refl wr.heap.size wr).drew
        have HBD := Lib.hid (HBW.out.trans ((Below.refl _ wr).drew.mono HBW.out.size))
        clear ho hsk hkk HD hbw hx hp hq4 hq5 s4 s5
        go_upto_region 12 with (fail)
        have c0 := (HBD.out.cell (p := ⟨b, off + k * 6, none⟩) HBL.out).trans HQ0.out
        have c1 := (HBD.out.cell (p := ⟨b, off + k * 6 + 1, none⟩) HBL.out).trans HQ1.out
        have c2 := (HBD.out.cell (p := ⟨b, off + k * 6 + 2, none⟩) HBL.out).trans HQ2.out
        have c3 := (HBD.out.cell (p := ⟨b, off + k * 6 + 3, none⟩) HBL.out).trans HQ3.out
        have c4 := (HBD.out.cell (p := ⟨b, off + k * 6 + 4, none⟩) HBL.out).trans HQ4.out
        have c5 := (HBD.out.cell (p := ⟨b, off + k * 6 + 5, none⟩) HBL.out).trans HQ5.out
        refine wp_region_held (S := (fun w' => w'.cell? ⟨b, off + k * 6, none⟩ = some (.int .i64 p.kind) ∧ w'.cell? ⟨b, off + k * 6 + 1, none⟩ = some (.int .i64 p.n) ∧ w'.cell? ⟨b, off + k * 6 + 2, none⟩ = some (nmv p.name) ∧ w'.cell? ⟨b, off + k * 6 + 3, none⟩ = some (nmv p.to) ∧ w'.cell? ⟨b, off + k * 6 + 4, none⟩ = some (.slice a4 p.b.length k4) ∧ w'.cell? ⟨b, off + k * 6 + 5, none⟩ = some (.slice a5 p.picks.length k5))) (by kernel_rfl) ?_
        change wpAnyH _ _ _ _ _ _ _ _ (World.drew _)
        refine wpAnyH_take (i := 0) (v := ?vf_0) rfl (by kernel_rfl) (by kernel_rfl) (by kernel_rfl) (fun _ _ _ h => h) (Or.inl ⟨by rfl, ?yf_0⟩) ⟨c0, c1, c2, c3, c4, c5⟩ ?rf_0
        case yf_0 => (intro W hSw; (try dsimp only at hSw); obtain ⟨_, _, _, _, _, _⟩ := hSw; first | (go_simp; done) | (go_simp; with_reducible rfl))
        try go_simp
        refine wpAnyH_take (i := 1) (v := ?vf_1) rfl (by kernel_rfl) (by kernel_rfl) (by kernel_rfl) (fun _ _ _ h => h) (Or.inl ⟨by rfl, ?yf_1⟩) ⟨c0, c1, c2, c3, c4, c5⟩ ?rf_1
        case yf_1 => (intro W hSw; (try dsimp only at hSw); obtain ⟨_, _, _, _, _, _⟩ := hSw; first | (go_simp; done) | (go_simp; with_reducible rfl))
        try go_simp
        refine wpAnyH_take (i := 2) (v := ?vf_2) rfl (by kernel_rfl) (by kernel_rfl) (by kernel_rfl) (fun _ _ _ h => h) (Or.inl ⟨by rfl, ?yf_2⟩) ⟨c0, c1, c2, c3, c4, c5⟩ ?rf_2
        case yf_2 => (intro W hSw; (try dsimp only at hSw); obtain ⟨_, _, _, _, _, _⟩ := hSw; first | (go_simp; done) | (go_simp; with_reducible rfl))
        try go_simp
        refine wpAnyH_take (i := 3) (v := ?vf_3) rfl (by kernel_rfl) (by kernel_rfl) (by kernel_rfl) (fun _ _ _ h => h) (Or.inl ⟨by rfl, ?yf_3⟩) ⟨c0, c1, c2, c3, c4, c5⟩ ?rf_3
        case yf_3 => (intro W hSw; (try dsimp only at hSw); obtain ⟨_, _, _, _, _, _⟩ := hSw; first | (go_simp; done) | (go_simp; with_reducible rfl))
        try go_simp
        refine wpAnyH_take (i := 4) (v := ?vf_4) rfl (by kernel_rfl) (by kernel_rfl) (by kernel_rfl) (fun _ _ _ h => h) (Or.inl ⟨by rfl, ?yf_4⟩) ⟨c0, c1, c2, c3, c4, c5⟩ ?rf_4
        case yf_4 => (intro W hSw; (try dsimp only at hSw); obtain ⟨_, _, _, _, _, _⟩ := hSw; first | (go_simp; done) | (go_simp; with_reducible rfl))
        try go_simp
        refine wpAnyH_take (i := 6) (v := ?vf_6) rfl (by kernel_rfl) (by kernel_rfl) (by kernel_rfl) (fun _ _ _ h => h) (Or.inl ⟨by rfl, ?yf_6⟩) ⟨c0, c1, c2, c3, c4, c5⟩ ?rf_6
        case yf_6 => (intro W hSw; (try dsimp only at hSw); obtain ⟨_, _, _, _, _, _⟩ := hSw; first | (go_simp; done) | (go_simp; with_reducible rfl))
        try go_simp
        refine wpAnyH_take (i := 7) (v := ?vf_7) rfl (by kernel_rfl) (by kernel_rfl) (by kernel_rfl) (fun _ _ _ h => h) (Or.inl ⟨by rfl, ?yf_7⟩) ⟨c0, c1, c2, c3, c4, c5⟩ ?rf_7
        case yf_7 => (intro W hSw; (try dsimp only at hSw); obtain ⟨_, _, _, _, _, _⟩ := hSw; first | (go_simp; done) | (go_simp; with_reducible rfl))
        try go_simp
        refine wpAnyH_take (i := 8) (v := ?vf_8) rfl (by kernel_rfl) (by kernel_rfl) (by kernel_rfl) (fun _ _ _ h => h) (Or.inl ⟨by rfl, ?yf_8⟩) ⟨c0, c1, c2, c3, c4, c5⟩ ?rf_8
        case yf_8 => (intro W hSw; (try dsimp only at hSw); obtain ⟨_, _, _, _, _, _⟩ := hSw; first | (go_simp; done) | (go_simp; with_reducible rfl))
        try go_simp
        refine wpAnyH_take (i := 9) (v := ?vf_9) rfl (by kernel_rfl) (by kernel_rfl) (by kernel_rfl) (fun _ _ _ h => h) (Or.inl ⟨by rfl, ?yf_9⟩) ⟨c0, c1, c2, c3, c4, c5⟩ ?rf_9
        case yf_9 => (intro W hSw; (try dsimp only at hSw); obtain ⟨_, _, _, _, _, _⟩ := hSw; first | (go_simp; done) | (go_simp; with_reducible rfl))
        try go_simp
        refine wpAnyH_take (i := 10) (v := ?vf_10) rfl (by kernel_rfl) (by kernel_rfl) (by kernel_rfl) (fun _ _ _ h => h) (Or.inl ⟨by rfl, ?yf_10⟩) ⟨c0, c1, c2, c3, c4, c5⟩ ?rf_10
        case yf_10 => (intro W hSw; (try dsimp only at hSw); obtain ⟨_, _, _, _, _, _⟩ := hSw; first | (go_simp; done) | (go_simp; with_reducible rfl))
        try go_simp
        refine wpAnyH_ready (rs := [5]) (by kernel_rfl) (by simp) ?_
        refine AllReadyH.cons rfl (fun K hK => ?_) AllReadyH.nil
        go_simp
        (go_wp2_with (first | (go_at_call 13; (refine (does_any (HTT.out.below HDR.out).dk HSK.out (HS4.out.below HBD.out) (HS5.out.below HBD.out) HCA.out HDN.out).mono ?_); rintro e w5 ⟨rfl, hd, ht⟩; have HT5 := Lib.hid ((HTT.out.below HDR.out).ta (Nat.le_trans HWS.out HDR.out.size) hd ht); have HB5 := Lib.hid (HBD.out.trans (ht.below HBD.out.size HSW.out)); have HWS5 := Lib.hid (Nat.le_trans HWS.out ht.size); have h0 := (HB5.out.cell (p := ⟨b, off + k * 6, none⟩) HBL.out).trans HQ0.out; have h1 := (HB5.out.cell (p := ⟨b, off + k * 6 + 1, none⟩) HBL.out).trans HQ1.out; have h2 := (HB5.out.cell (p := ⟨b, off + k * 6 + 2, none⟩) HBL.out).trans HQ2.out; have h3 := (HB5.out.cell (p := ⟨b, off + k * 6 + 3, none⟩) HBL.out).trans HQ3.out; have h4 := (HB5.out.cell (p := ⟨b, off + k * 6 + 4, none⟩) HBL.out).trans HQ4.out; have h5 := (HB5.out.cell (p := ⟨b, off + k * 6 + 5, none⟩) HBL.out).trans HQ5.out; clear hd ht)))
        refine hK.out _ _ ⟨h0, h1, h2, h3, h4, h5⟩ (fun _ => ?_)
        clear hK K
        try go_simp
        refine wpAnyH_ready (rs := [11]) (by kernel_rfl) (by simp) ?_
        refine AllReadyH.cons rfl (fun K hK => ?_) AllReadyH.nil
        go_simp
        (go_wp2_with (first | (go_at_call 14; (refine (model_any HT5.out.rk HSK.out (HS4.out.below HB5.out) (HS5.out.below HB5.out) HCE.out HDN.out).mono ?_); rintro e w6 ⟨rfl, hd, ht⟩; have HT6 := Lib.hid (HT5.out.tb HWS5.out hd ht); have HB6 := Lib.hid (HB5.out.trans (ht.below HB5.out.size HEW.out)); have hne : ((((x.step p).2 : Nat) : Int) != (((x.step p).2 : Nat) : Int)) = false := bne_self_eq_false' _; have g0 := (HB6.out.cell (p := ⟨b, off + k * 6, none⟩) HBL.out).trans HQ0.out; have g1 := (HB6.out.cell (p := ⟨b, off + k * 6 + 1, none⟩) HBL.out).trans HQ1.out; have g2 := (HB6.out.cell (p := ⟨b, off + k * 6 + 2, none⟩) HBL.out).trans HQ2.out; have g3 := (HB6.out.cell (p := ⟨b, off + k * 6 + 3, none⟩) HBL.out).trans HQ3.out; have g4 := (HB6.out.cell (p := ⟨b, off + k * 6 + 4, none⟩) HBL.out).trans HQ4.out; have g5 := (HB6.out.cell (p := ⟨b, off + k * 6 + 5, none⟩) HBL.out).trans HQ5.out; clear hd ht)))
        refine hK.out _ _ ⟨g0, g1, g2, g3, g4, g5⟩ (fun _ => ?_)
        clear hK K
        try go_simp
        refine wpAnyH_take (i := 12) (v := ?vf_12) rfl (by kernel_rfl) (by kernel_rfl) (by kernel_rfl) (fun _ _ _ h => h) (Or.inl ⟨by rfl, ?yf_12⟩) ⟨g0, g1, g2, g3, g4, g5⟩ ?rf_12
        case yf_12 => (intro W hSw; (try dsimp only at hSw); obtain ⟨_, _, _, _, _, _⟩ := hSw; first | (go_simp; done) | (go_simp; with_reducible rfl))
        try go_simp
        refine wpAnyH_take (i := 13) (v := ?vf_13) rfl (by kernel_rfl) (by kernel_rfl) (by kernel_rfl) (fun _ _ _ h => h) (Or.inl ⟨by rfl, ?yf_13⟩) ⟨g0, g1, g2, g3, g4, g5⟩ ?rf_13
        case yf_13 => (intro W hSw; (try dsimp only at hSw); obtain ⟨_, _, _, _, _, _⟩ := hSw; first | (go_simp; done) | (go_simp; with_reducible rfl))
        try go_simp
        refine wpAnyH_take (i := 14) (v := ?vf_14) rfl (by kernel_rfl) (by kernel_rfl) (by kernel_rfl) (fun _ _ _ h => h) (Or.inl ⟨by rfl, ?yf_14⟩) ⟨g0, g1, g2, g3, g4, g5⟩ ?rf_14
        case yf_14 => (intro W hSw; (try dsimp only at hSw); obtain ⟨_, _, _, _, _, _⟩ := hSw; first | (go_simp; done) | (go_simp; with_reducible rfl))
        try go_simp
        refine wpAnyH_take (i := 15) (v := ?vf_15) rfl (by kernel_rfl) (by kernel_rfl) (by kernel_rfl) (fun _ _ _ h => h) (Or.inl ⟨by rfl, ?yf_15⟩) ⟨g0, g1, g2, g3, g4, g5⟩ ?rf_15
        case yf_15 => (intro W hSw; (try dsimp only at hSw); obtain ⟨_, _, _, _, _, _⟩ := hSw; first | (go_simp; done) | (go_simp; with_reducible rfl))
        try go_simp
        refine wpAnyH_ready (rs := [16]) (by kernel_rfl) (by simp) ?_
        refine AllReadyH.cons rfl (fun K hK => ?_) AllReadyH.nil
        go_simp
        (go_wp2_with (first | (go_at_call 15; (refine (same_disks HT6.out.dk HT6.out.rk).mono ?_); rintro e w7 ⟨rfl, hb⟩; have HT7 := Lib.hid (HT6.out.below hb); have HB7 := Lib.hid (HB6.out.trans (hb.mono HB6.out.size)); have j0 := (HB7.out.cell (p := ⟨b, off + k * 6, none⟩) HBL.out).trans HQ0.out; have j1 := (HB7.out.cell (p := ⟨b, off + k * 6 + 1, none⟩) HBL.out).trans HQ1.out; have j2 := (HB7.out.cell (p := ⟨b, off + k * 6 + 2, none⟩) HBL.out).trans HQ2.out; have j3 := (HB7.out.cell (p := ⟨b, off + k * 6 + 3, none⟩) HBL.out).trans HQ3.out; have j4 := (HB7.out.cell (p := ⟨b, off + k * 6 + 4, none⟩) HBL.out).trans HQ4.out; have j5 := (HB7.out.cell (p := ⟨b, off + k * 6 + 5, none⟩) HBL.out).trans HQ5.out; clear hb)))
        refine hK.out _ _ ⟨j0, j1, j2, j3, j4, j5⟩ (fun _ => ?_)
        clear hK K
        try go_simp
        refine wpAnyH_take (i := 17) (v := ?vf_17) rfl (by kernel_rfl) (by kernel_rfl) (by kernel_rfl) (fun _ _ _ h => h) (Or.inl ⟨by rfl, ?yf_17⟩) ⟨j0, j1, j2, j3, j4, j5⟩ ?rf_17
        case yf_17 => (intro W hSw; (try dsimp only at hSw); obtain ⟨_, _, _, _, _, _⟩ := hSw; first | (go_simp; done) | (go_simp; with_reducible rfl))
        try go_simp
        refine wpAnyH_take (i := 18) (v := ?vf_18) rfl (by kernel_rfl) (by kernel_rfl) (by kernel_rfl) (fun _ _ _ h => h) (Or.inl ⟨by rfl, ?yf_18⟩) ⟨j0, j1, j2, j3, j4, j5⟩ ?rf_18
        case yf_18 => (intro W hSw; (try dsimp only at hSw); obtain ⟨_, _, _, _, _, _⟩ := hSw; first | (go_simp; done) | (go_simp; with_reducible rfl))
        try go_simp
        refine wpAnyH_done (by kernel_rfl) ?_ _
        generalize (x.step p).1 = y at *
        clear j0 j1 j3 j4 j5
        go_wp2_with (first
          | (go_at_call 16; (refine (dk_read HT7.out.dk HNL.out).mono ?_); rintro e w8 ⟨ro, rc, rfl, hs, hb⟩; have HR8 := Lib.hid hs; have HT8 := Lib.hid (HT7.out.below hb); have HB8 := Lib.hid (HB7.out.trans (hb.mono HB7.out.size)); have e2 := (HB8.out.cell (p := ⟨b, off + k * 6 + 2, none⟩) HBL.out).trans HQ2.out; clear hs hb)
          | (go_at_call 17; (refine (rk_read HT8.out.rk _).mono ?_); rintro e w9 ⟨so, sc, rfl, hs, hww⟩; have HR9 := Lib.hid hs; have HWW := Lib.hid hww; have hne2 : ((((y.read p.name).2 : Nat) : Int) != (((y.read p.name).2 : Nat) : Int)) = false := bne_self_eq_false' _; clear hs hww)
          | (go_at_call 18; (refine (bytes_any (sb_eq HR8.out HWW.out) (sb_eq HR9.out HWW.out)).mono ?_); rintro e w10 ⟨rfl, hww⟩; rw [beq_self_eq_true]; have HW10 := Lib.hid hww; clear hww))
        have hw8 := HWW.out
        subst hw8
        have hw10 := HW10.out
        subst hw10
        go_roundw
        case rel => exact ⟨k + 1, by omega, by go_num, by rw [HRT.out]; exact ⟨_, _, HT8.out⟩, HB8⟩
        case measure => simp [intOf]; omega
      · obtain rfl : k = l.length := by omega
        have HB23x := HBW
        clear HD
        go_wp2_with (go_at_call 10; (refine (first_any wr).mono ?_); rintro e w4 ⟨rfl, hb⟩; have HB4 := Lib.hid (HBW.out.trans (hb.mono HBW.out.size)); clear hb)
        go_ret
        exact ⟨rfl, HB4.out⟩

set_option maxRecDepth 100000 in
theorem diskPlays_lifted (os : Os) (started : os.Started) (H : Type) (enc : TypeId × Value → H) :
    ReturnsInHanded {} Try.checked os 3 .any (Rows.diskPlaysSpec.pre6 enc Try.prog Try.f3 [] false) (Rows.diskPlaysSpec.post enc Try.prog Try.f3 false true false false) := by
  refine returnsInHanded_of_change (C := Try.checked) own started (by kernel_rfl) Try.func3
    (ChangeSpec.witness6 (enc := enc) (C := Try.checked) false ⟨#[], #[.slice none 0 0], []⟩ 8 (by kernel_rfl) (by kernel_rfl) (by kernel_rfl) (by kernel_rfl)) ?_
  intro W base args ds gs before hval0 hW _ _
  have hval : ∀ (j : Nat) t v, Try.f3.params[j]? = some t → args[j]? = some v → Value.okWide Try.prog W .any base t v := hval0
  have hW' := hW
  obtain ⟨p, q, hA0, hV, rfl, hfz, hnd⟩ := hW
  have hA : DataW.TrodAll enc Try.prog W 0 (fun _ => true) true Try.f3.params.toList args.toList ds p := hA0
  rw [Try.params3] at hA hval
  obtain ⟨v0, d0, rfl, rfl, h0⟩ := trodAll_one hA
  obtain ⟨b0, len0, cap0, rfl⟩ := okWide_slice Try.underlying22 (hval 0 22 v0 rfl rfl)
  have k0 := h0
  obtain ⟨fuel0, g0⟩ := h0
  obtain ⟨rfl, rfl⟩ := trodVars_none hV
  clear hA0 hval0
  simp only [List.append_nil] at hW'
  have hlt : ∀ x ∈ p, x.block < W.heap.size := fun x hx => hW'.lt x (by simpa using hx)
  obtain ⟨ao0, c0, xs0, hv0, r0⟩ := open_so g0
  refine Calls.mono (?walk : Calls _ _ _ _ fun e w' => e = .returned (.bool true) ∧ Below W.heap.size W w') fun e W' ⟨he, hw⟩ => ?_
  case walk =>
    rw [hv0]
    exact diskPlays_walk W ao0 c0 xs0 r0
  subst he
  exact ⟨_, rfl, post_of_below (pa := p) (pv := []) hW' (fun _ _ _ => trodAll_mk1 (shut_bool Try.underlying4 _)) (fun sp hsp => trodAll_mk1 (WideElems.Trod_stays laidOut (by kernel_rfl) (of_decide_eq_true (by kernel_rfl)) k0 (fun x hx => hw.same (hlt x (by first | (simp [hx]; done) | exact nomatch hx))) (fun x hx => hsp x (by first | (simp [hx]; done) | exact nomatch hx)))) (fun _ _ => rfl) (by simp) hw (ok_one (by kernel_rfl) rfl (okWide_bool_mk Try.underlying4 _))⟩
/-- THE ROW. -/
theorem diskPlays_holds : Rows.DiskPlaysSaid :=
  OpenClaim.holds_of_wide 3 Try.f3 rfl rfl rfl rfl rfl rfl rfl ⟨rfl, rfl, rfl, rfl, rfl⟩ rfl rfl rfl rfl rfl (by kernel_rfl) Try.func3 (by kernel_rfl)
    (of_decide_eq_true (by kernel_rfl)) (by unfold Func.isWrapper; first | (rw [if_pos (by decide +kernel)]; kernel_rfl) | (rw [if_neg (by decide +kernel)]; exact ⟨rfl, rfl⟩))
    (fun os started H enc _ => diskPlays_lifted os started H enc)
#print axioms diskPlays_holds
end Go.Proofs.Ytefgnlijgomgpaa
