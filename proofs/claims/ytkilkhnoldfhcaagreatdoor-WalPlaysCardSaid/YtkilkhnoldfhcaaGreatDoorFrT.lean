/- raceref5.Scan tells the records of the frames at the beginning, and where they end. Conditions: at most 1000000 bytes. raceref.Rows; racelaw5.few and joined. Conditions: none of its own. -/
import Derived.Test.YtkilkhnoldfhcaaGreatDoorFrE
import Derived.Test.YtkilkhnoldfhcaaGreatDoorFrA
import Derived.Deep.QuietTactic
import Derived.BigQuiet
import Derived.Deep.RegionHeld
namespace Go.Proofs.YtkilkhnoldfhcaaGreatDoor.Fr
open Go.RowKit
theorem getD_drop (l : List UInt8) (i j : Nat) : (l.drop i).getD j 0 = l.getD (i + j) 0 := by
  rw [List.getD_eq_getElem?_getD, List.getD_eq_getElem?_getD, List.getElem?_drop]
theorem SB.part {B : Nat} {w : World} {b off n cap : Nat} {l : List UInt8} (h : SB B w (some ⟨b, off, none⟩) n cap l) {lo m c : Nat} (h1 : lo + m ≤ n) (hc : c = cap - lo) : SB B w (some ⟨b, off + lo, none⟩) m c ((l.drop lo).take m) := by
  have := h.mid h1 hc
  simpa [Addr.add_lit] using this
theorem below_drewN (w : World) (n : Nat) : Below w.heap.size w (w.drewN n) := by
  induction n generalizing w with
  | zero => exact Below.refl _ _
  | succ n ih => exact (ih w).drew
set_option maxHeartbeats 4000000 in
set_option maxRecDepth 100000 in
theorem rscan_any {w : World} {ao : Option Addr} {n cap : Nat} {l : List UInt8} (h : SB w.heap.size w ao n cap l) (hroom : n ≤ 1000000) : Calls Tryz.prog 82 #[.slice ao n cap] w (Scanned w l) := by
  obtain ⟨i0, hi, hz0, hz1, hz2⟩ := info_parts info22
  have hlen := h.len
  have hle := h.le
  have hmax := h.max
  unfold maxLen at hmax
  have HN := Lib.hid hlen
  have H := Lib.hid h
  clear h hlen
  go_enter Tryz.func82, Tryz.ntmps82
  go_wp2
  go_loopw [4, 5] (fun r e wr => ∃ (L : List (List UInt8)) (E : Nat) (us : List Value), e = .int .i64 E ∧ E ≤ n ∧ Hid (Rs w.heap.size wr r us L) ∧ Hid (Come l L E) ∧ Hid (Below w.heap.size w wr)) (fun _ e _ => n - (intOf e).toNat)
  case atStart => exact ⟨[], 0, [], rfl, Nat.zero_le _, Rs.nil _ _, ⟨by simp, Nat.le_refl _, Nat.zero_le _⟩, Below.refl _ _⟩
  case round =>
    obtain ⟨L, E, us, rfl, hE, HR, HC, HW⟩ := hrel
    by_cases h12 : 12 ≤ n - E
    · have HS := Lib.hid (H.out.below HW.out)
      obtain ⟨b, off, rfl, hb, hcell⟩ : ∃ b off, ao = some ⟨b, off, none⟩ ∧ b < w.heap.size ∧ ∀ i, i < n → wr.cell? ⟨b, off + i, none⟩ = some (.int .u8 ((l.getD i 0).toNat : Int)) := by
        rcases HS.out.cells with h0 | h0
        · omega
        · exact h0
      have c0 := hcell E (by omega)
      have c1 := hcell (E + 1) (by omega)
      have c2 := hcell (E + 2) (by omega)
      have c3 := hcell (E + 3) (by omega)
      rw [← Nat.add_assoc] at c1 c2 c3
      clear hcell
      have hlen : (l.drop E).length = n - E := by rw [List.length_drop, ← HN.out]
      have hA := le_take4 (c := l.drop E) (by omega)
      rw [getD_drop, getD_drop, getD_drop, getD_drop] at hA
      have hy0 := byte_lt (l.getD E 0)
      have hy1 := byte_lt (l.getD (E + 1) 0)
      have hy2 := byte_lt (l.getD (E + 2) 0)
      have hy3 := byte_lt (l.getD (E + 3) 0)
      rw [Nat.add_zero] at hA
      generalize (l.getD E 0).toNat = x0 at *
      generalize (l.getD (E + 1) 0).toNat = x1 at *
      generalize (l.getD (E + 2) 0).toNat = x2 at *
      generalize (l.getD (E + 3) 0).toNat = x3 at *
      have HHD := Lib.hid (HS.out.part (lo := E) (m := E + 4 - E) (c := cap - E) (by omega) rfl)
      generalize hc : l.drop E = c at *
      have HCC := Lib.hid hc
      have HA : Hid (le (c.take 4) = x0 + x1 * 256 + x2 * 65536 + x3 * 16777216) := hA
      clear hc hA
      have HLEN := Lib.hid hlen
      clear hlen
      have f0 : IntKind.i64.wrap (x0 : Int) = x0 := IntWalk.i64_in _ (by omega)
      have f1 : IntKind.i64.wrap (x1 : Int) = x1 := IntWalk.i64_in _ (by omega)
      have f2 : IntKind.i64.wrap (x2 : Int) = x2 := IntWalk.i64_in _ (by omega)
      have f3 : IntKind.i64.wrap (x3 : Int) = x3 := IntWalk.i64_in _ (by omega)
      have g1 : IntKind.i64.wrap ((x1 : Int) * 256) = (x1 : Int) * 256 := IntWalk.i64_in _ (by omega)
      have g2 : IntKind.i64.wrap ((x2 : Int) * 65536) = (x2 : Int) * 65536 := IntWalk.i64_in _ (by omega)
      have g3 : IntKind.i64.wrap ((x3 : Int) * 16777216) = (x3 : Int) * 16777216 := IntWalk.i64_in _ (by omega)
      have s1 : IntKind.i64.wrap ((x0 : Int) + (x1 : Int) * 256) = (x0 : Int) + (x1 : Int) * 256 := IntWalk.i64_in _ (by omega)
      have s2 : IntKind.i64.wrap ((x0 : Int) + (x1 : Int) * 256 + (x2 : Int) * 65536) = (x0 : Int) + (x1 : Int) * 256 + (x2 : Int) * 65536 := IntWalk.i64_in _ (by omega)
      have s3 : IntKind.i64.wrap ((x0 : Int) + (x1 : Int) * 256 + (x2 : Int) * 65536 + (x3 : Int) * 16777216) = (x0 : Int) + (x1 : Int) * 256 + (x2 : Int) * 65536 + (x3 : Int) * 16777216 := IntWalk.i64_in _ (by omega)
      go_wp2
      go_quiet (fail)
      have HDN := Lib.hid (below_drewN wr nq)
      have HRd := Lib.hid (HR.out.below HDN.out)
      have HWd := Lib.hid (HW.out.trans (HDN.out.mono HW.out.size))
      have HSd := Lib.hid (HS.out.below (HDN.out.mono HW.out.size))
      clear HR HW HS HDN HHD
      generalize wr.drewN nq = wd at *
      have HWs := Lib.hid HWd.out.size
      have HD := Lib.hid ((Below.refl wd.heap.size wd).drew)
      have hlc : (l.drop E) = c := HCC.out
      have hhd := HSd.out.part (lo := E) (m := E + 4 - E) (c := cap - E) (by omega) rfl
      rw [hlc, show E + 4 - E = 4 by omega] at hhd
      have HHD := Lib.hid ((hhd.below (HD.out.mono HWs.out)).mono HWs.out)
      have hae : (x0 : Int) + (x1 : Int) * 256 + (x2 : Int) * 65536 + (x3 : Int) * 16777216 = ((le (c.take 4) : Nat) : Int) := by rw [HA.out]; omega
      clear f0 f1 f2 f3 g1 g2 g3 s1 s2 s3 c0 c1 c2 c3 hhd hlc
      have hle4 := le_lt (l := c.take 4) (by rw [List.length_take, HLEN.out]; omega)
      generalize hle : le (c.take 4) = a at *
      have HLE := Lib.hid hle
      clear hle
      by_cases hbig : 262144 < a
      · have HF := Lib.hid (ref_big (c := c) (by rw [HLE.out]; exact hbig))
        have hd : decide ((262144 : Int) < (a : Int)) = true := decide_eq_true (by omega)
        go_wp2
        refine wp_region_held (S := (fun _ => True)) (by kernel_rfl) ?_
        change wpAnyH _ _ _ _ _ _ _ _ (World.drew _)
        refine wpAnyH_take (i := 0) (v := ?vA_0) rfl (by kernel_rfl) (by kernel_rfl) (by kernel_rfl) (fun _ _ _ h => h) (Or.inl ⟨by rfl, ?yA_0⟩) trivial ?rA_0
        case yA_0 => (intro W hSw; (try dsimp only at hSw); obtain _ := hSw; first | (go_simp; done) | (go_simp; with_reducible rfl))
        try go_simp
        refine wpAnyH_take (i := 1) (v := ?vA_1) rfl (by kernel_rfl) (by kernel_rfl) (by kernel_rfl) (fun _ _ _ h => h) (Or.inl ⟨by rfl, ?yA_1⟩) trivial ?rA_1
        case yA_1 => (intro W hSw; (try dsimp only at hSw); obtain _ := hSw; first | (go_simp; done) | (go_simp; with_reducible rfl))
        try go_simp
        refine wpAnyH_take (i := 2) (v := ?vA_2) rfl (by kernel_rfl) (by kernel_rfl) (by kernel_rfl) (fun _ _ _ h => h) (Or.inl ⟨by rfl, ?yA_2⟩) trivial ?rA_2
        case yA_2 => (intro W hSw; (try dsimp only at hSw); obtain _ := hSw; first | (go_simp; done) | (go_simp; with_reducible rfl))
        try go_simp
        refine wpAnyH_take (i := 3) (v := undef) rfl (by kernel_rfl) (by kernel_rfl) (by kernel_rfl) (fun _ _ _ h => h) (Or.inr ⟨by rfl, rfl⟩) trivial ?rA_3
        try go_simp
        refine wpAnyH_take (i := 4) (v := undef) rfl (by kernel_rfl) (by kernel_rfl) (by kernel_rfl) (fun _ _ _ h => h) (Or.inr ⟨by rfl, rfl⟩) trivial ?rA_4
        try go_simp
        refine wpAnyH_take (i := 5) (v := undef) rfl (by kernel_rfl) (by kernel_rfl) (by kernel_rfl) (fun _ _ _ h => h) (Or.inr ⟨by rfl, rfl⟩) trivial ?rA_5
        try go_simp
        refine wpAnyH_take (i := 6) (v := undef) rfl (by kernel_rfl) (by kernel_rfl) (by kernel_rfl) (fun _ _ _ h => h) (Or.inr ⟨by rfl, rfl⟩) trivial ?rA_6
        try go_simp
        refine wpAnyH_take (i := 7) (v := undef) rfl (by kernel_rfl) (by kernel_rfl) (by kernel_rfl) (fun _ _ _ h => h) (Or.inr ⟨by rfl, rfl⟩) trivial ?rA_7
        try go_simp
        refine wpAnyH_take (i := 8) (v := undef) rfl (by kernel_rfl) (by kernel_rfl) (by kernel_rfl) (fun _ _ _ h => h) (Or.inr ⟨by rfl, rfl⟩) trivial ?rA_8
        try go_simp
        refine wpAnyH_take (i := 9) (v := undef) rfl (by kernel_rfl) (by kernel_rfl) (by kernel_rfl) (fun _ _ _ h => h) (Or.inr ⟨by rfl, rfl⟩) trivial ?rA_9
        try go_simp
        refine wpAnyH_take (i := 10) (v := undef) rfl (by kernel_rfl) (by kernel_rfl) (by kernel_rfl) (fun _ _ _ h => h) (Or.inr ⟨by rfl, rfl⟩) trivial ?rA_10
        try go_simp
        refine wpAnyH_take (i := 11) (v := undef) rfl (by kernel_rfl) (by kernel_rfl) (by kernel_rfl) (fun _ _ _ h => h) (Or.inr ⟨by rfl, rfl⟩) trivial ?rA_11
        try go_simp
        refine wpAnyH_take (i := 12) (v := undef) rfl (by kernel_rfl) (by kernel_rfl) (by kernel_rfl) (fun _ _ _ h => h) (Or.inr ⟨by rfl, rfl⟩) trivial ?rA_12
        try go_simp
        refine wpAnyH_take (i := 13) (v := undef) rfl (by kernel_rfl) (by kernel_rfl) (by kernel_rfl) (fun _ _ _ h => h) (Or.inr ⟨by rfl, rfl⟩) trivial ?rA_13
        try go_simp
        refine wpAnyH_take (i := 14) (v := undef) rfl (by kernel_rfl) (by kernel_rfl) (by kernel_rfl) (fun _ _ _ h => h) (Or.inr ⟨by rfl, rfl⟩) trivial ?rA_14
        try go_simp
        refine wpAnyH_take (i := 15) (v := ?vA_15) rfl (by kernel_rfl) (by kernel_rfl) (by kernel_rfl) (fun _ _ _ h => h) (Or.inl ⟨by rfl, ?yA_15⟩) trivial ?rA_15
        case yA_15 => (intro W hSw; (try dsimp only at hSw); obtain _ := hSw; first | (go_simp; done) | (go_simp; with_reducible rfl))
        try go_simp
        refine wpAnyH_take (i := 16) (v := ?vA_16) rfl (by kernel_rfl) (by kernel_rfl) (by kernel_rfl) (fun _ _ _ h => h) (Or.inl ⟨by rfl, ?yA_16⟩) trivial ?rA_16
        case yA_16 => (intro W hSw; (try dsimp only at hSw); obtain _ := hSw; first | (go_simp; done) | (go_simp; with_reducible rfl))
        try go_simp
        refine wpAnyH_take (i := 17) (v := undef) rfl (by kernel_rfl) (by kernel_rfl) (by kernel_rfl) (fun _ _ _ h => h) (Or.inr ⟨by rfl, rfl⟩) trivial ?rA_17
        try go_simp
        refine wpAnyH_take (i := 18) (v := undef) rfl (by kernel_rfl) (by kernel_rfl) (by kernel_rfl) (fun _ _ _ h => h) (Or.inr ⟨by rfl, rfl⟩) trivial ?rA_18
        try go_simp
        refine wpAnyH_take (i := 19) (v := undef) rfl (by kernel_rfl) (by kernel_rfl) (by kernel_rfl) (fun _ _ _ h => h) (Or.inr ⟨by rfl, rfl⟩) trivial ?rA_19
        try go_simp
        refine wpAnyH_take (i := 20) (v := undef) rfl (by kernel_rfl) (by kernel_rfl) (by kernel_rfl) (fun _ _ _ h => h) (Or.inr ⟨by rfl, rfl⟩) trivial ?rA_20
        try go_simp
        refine wpAnyH_take (i := 21) (v := undef) rfl (by kernel_rfl) (by kernel_rfl) (by kernel_rfl) (fun _ _ _ h => h) (Or.inr ⟨by rfl, rfl⟩) trivial ?rA_21
        try go_simp
        refine wpAnyH_take (i := 22) (v := undef) rfl (by kernel_rfl) (by kernel_rfl) (by kernel_rfl) (fun _ _ _ h => h) (Or.inr ⟨by rfl, rfl⟩) trivial ?rA_22
        try go_simp
        refine wpAnyH_take (i := 23) (v := undef) rfl (by kernel_rfl) (by kernel_rfl) (by kernel_rfl) (fun _ _ _ h => h) (Or.inr ⟨by rfl, rfl⟩) trivial ?rA_23
        try go_simp
        refine wpAnyH_take (i := 24) (v := ?vA_24) rfl (by kernel_rfl) (by kernel_rfl) (by kernel_rfl) (fun _ _ _ h => h) (Or.inl ⟨by rfl, ?yA_24⟩) trivial ?rA_24
        case yA_24 => (intro W hSw; (try dsimp only at hSw); obtain _ := hSw; first | (go_simp; done) | (go_simp; with_reducible rfl))
        try go_simp
        refine wpAnyH_done (by kernel_rfl) ?_ _
        go_wp2
        go_ret2
        have HX := Lib.hid (HC.out.done (by rw [HCC.out]; exact HF.out))
        exact ⟨u4, us, by rw [HX.out]; exact rfl, by rw [HX.out]; exact HRd.out.below HD.out, HWd.out.trans (HD.out.mono HWs.out)⟩
      · have hd : decide ((262144 : Int) < (a : Int)) = false := decide_eq_false (by omega)
        have hp2 := HSd.out.part (lo := E + 4) (m := E + 8 - (E + 4)) (c := cap - (E + 4)) (by omega) rfl
        rw [← List.drop_drop, HCC.out, show E + 8 - (E + 4) = 4 by omega] at hp2
        have HP2 := Lib.hid hp2
        have cvd := (hp2.below (HD.out.mono HWs.out)).conv
        clear hp2
        by_cases hne : four (crc (c.take 4)) = (c.drop 4).take 4
        · generalize hR2 : (c.drop 4).take 4 = R2 at *
          generalize hN1 : crc (c.take 4) = N1 at *
          have HC1 := Lib.hid hN1
          have HF1 := Lib.hid hne
          have HR2 := Lib.hid hR2
          clear hN1 hne hR2
          have ha : a ≤ 262144 := by omega
          clear hbig
          by_cases hsh : n - E - 12 < a
          · have HF := Lib.hid (ref_short (c := c) (by rw [HLEN.out]; exact h12) (by rw [HLEN.out, HLE.out]; exact hsh))
            have hd2 : decide ((n : Int) - (E : Int) - 12 < (a : Int)) = true := decide_eq_true (by omega)
            go_wp2
            have hw3 : ((E : Int) + 4).toNat = E + 4 := by omega
            have hw4 : ((E : Int) + 8).toNat = E + 8 := by omega
            have hw5 : (0 : Int) ≤ (E : Int) + 4 := by omega
            have hw6 : (0 : Int) ≤ (E : Int) + 8 := by omega
            have hw7 : (E : Int) + 8 ≤ cap := by omega
            have hw8 : (E : Int) + 4 ≤ (E : Int) + 8 := by omega
            have hw9 : ¬ cap = E + 4 := by omega
            have hw10 : E + 4 ≤ E + 8 := by omega
            have hw1 : IntKind.i64.wrap ((E : Int) + 4) = (E : Int) + 4 := IntWalk.i64_in _ (by omega)
            have hw2 : IntKind.i64.wrap ((E : Int) + 8) = (E : Int) + 8 := IntWalk.i64_in _ (by clear hw1; omega)
            clear hw1 hw2
            have hw11 : IntKind.i64.wrap ((n : Int) - (E : Int)) = (n : Int) - (E : Int) := IntWalk.i64_in _ (by omega)
            have hw12 : IntKind.i64.wrap ((n : Int) - (E : Int) - 12) = (n : Int) - (E : Int) - 12 := IntWalk.i64_in _ (by clear hw11; omega)
            have hw1 : IntKind.i64.wrap ((E : Int) + 4) = (E : Int) + 4 := IntWalk.i64_in _ (by clear hw11 hw12; omega)
            have hw2 : IntKind.i64.wrap ((E : Int) + 8) = (E : Int) + 8 := IntWalk.i64_in _ (by clear hw11 hw12 hw1; omega)
            go_region_held (fun w' => (convert 36 9 (.slice (some ⟨b, off + (E + 4), none⟩) 4 (cap - (E + 4)))).run Tryz.prog w' = .ok (.string ⟨R2.toArray⟩) w') (first | exact cvd | exact HP5.out) (first
              | (go_at_call 113; (with_reducible refine (rsum_any HHD.out).mono ?_); rw [HC1.out]; rintro e w' ⟨rfl, rfl⟩)
              | (go_at_call 112; (refine (four_any _ N1).mono ?_); rw [HF1.out]; rintro e w5 ⟨fc, rfl, fo, fb⟩; have cv5 : (convert 36 9 (.slice (some ⟨wd.heap.size, 0, none⟩) 4 fc)).run Tryz.prog w5 = .ok (.string ⟨R2.toArray⟩) w5 := (own_sb fo).conv; have HB5 := Lib.hid (HD.out.trans fb); have HP5 := Lib.hid ((HP2.out.below (HB5.out.mono HWs.out)).conv); clear fo fb))
            clear hw1 hw2 hw3 hw4 hw5 hw6 hw7 hw8 hw9 hw10 hw11 hw12
            go_wp2
            go_ret2
            have HX := Lib.hid (HC.out.done (by rw [HCC.out]; exact HF.out))
            exact ⟨u4, us, by rw [HX.out]; exact rfl, by rw [HX.out]; exact HRd.out.below HB5.out, HWd.out.trans (HB5.out.mono HWs.out)⟩
          · have hd2 : decide ((n : Int) - (E : Int) - 12 < (a : Int)) = false := decide_eq_false (by omega)
            have hna : a + 12 + E ≤ n := by omega
            clear hsh
            go_wp2
            have hw3 : ((E : Int) + 4).toNat = E + 4 := by omega
            have hw4 : ((E : Int) + 8).toNat = E + 8 := by omega
            have hw5 : (0 : Int) ≤ (E : Int) + 4 := by omega
            have hw6 : (0 : Int) ≤ (E : Int) + 8 := by omega
            have hw7 : (E : Int) + 8 ≤ cap := by omega
            have hw8 : (E : Int) + 4 ≤ (E : Int) + 8 := by omega
            have hw9 : ¬ cap = E + 4 := by omega
            have hw10 : E + 4 ≤ E + 8 := by omega
            have hw1 : IntKind.i64.wrap ((E : Int) + 4) = (E : Int) + 4 := IntWalk.i64_in _ (by omega)
            have hw2 : IntKind.i64.wrap ((E : Int) + 8) = (E : Int) + 8 := IntWalk.i64_in _ (by clear hw1; omega)
            clear hw1 hw2
            have hw11 : IntKind.i64.wrap ((n : Int) - (E : Int)) = (n : Int) - (E : Int) := IntWalk.i64_in _ (by omega)
            have hw12 : IntKind.i64.wrap ((n : Int) - (E : Int) - 12) = (n : Int) - (E : Int) - 12 := IntWalk.i64_in _ (by clear hw11; omega)
            have hw1 : IntKind.i64.wrap ((E : Int) + 4) = (E : Int) + 4 := IntWalk.i64_in _ (by clear hw11 hw12; omega)
            have hw2 : IntKind.i64.wrap ((E : Int) + 8) = (E : Int) + 8 := IntWalk.i64_in _ (by clear hw11 hw12 hw1; omega)
            go_region_held (fun w' => (convert 36 9 (.slice (some ⟨b, off + (E + 4), none⟩) 4 (cap - (E + 4)))).run Tryz.prog w' = .ok (.string ⟨R2.toArray⟩) w') (first | exact cvd | exact HP5.out) (first
              | (go_at_call 113; (with_reducible refine (rsum_any HHD.out).mono ?_); rw [HC1.out]; rintro e w' ⟨rfl, rfl⟩)
              | (go_at_call 112; (refine (four_any _ N1).mono ?_); rw [HF1.out]; rintro e w5 ⟨fc, rfl, fo, fb⟩; have cv5 : (convert 36 9 (.slice (some ⟨wd.heap.size, 0, none⟩) 4 fc)).run Tryz.prog w5 = .ok (.string ⟨R2.toArray⟩) w5 := (own_sb fo).conv; have HB5 := Lib.hid (HD.out.trans fb); have HP5 := Lib.hid ((HP2.out.below (HB5.out.mono HWs.out)).conv); clear fo fb))
            clear hw1 hw2 hw3 hw4 hw5 hw6 hw7 hw8 hw9 hw10 hw11 hw12
            clear cv5 cvd HP5
            have HS5 := Lib.hid (HSd.out.below (HB5.out.mono HWs.out))
            have HR5 := Lib.hid (HRd.out.below HB5.out)
            have HW5 := Lib.hid (HWd.out.trans (HB5.out.mono HWs.out))
            have HB5s := Lib.hid (HW5.out.size)
            clear HB5 HRd HWd HSd HP2 HHD HD HWs
            have hpp := HS5.out.part (lo := E + 8) (m := a) (c := cap - (E + 8)) (by omega) rfl
            rw [← List.drop_drop, HCC.out] at hpp
            have hp4 := HS5.out.part (lo := E + 8 + a) (m := 4) (c := cap - (E + 8 + a)) (by omega) rfl
            rw [← List.drop_drop, ← List.drop_drop, HCC.out] at hp4
            have HPP := Lib.hid (hpp.below ((Below.refl w5.heap.size w5).drew.mono HB5s.out))
            have HPB := Lib.hid hpp
            have HP4 := Lib.hid hp4
            have cvd8 := (hp4.below ((Below.refl w5.heap.size w5).drew.mono HB5s.out)).conv
            have HYES := Lib.hid (ref_yes (c := c) (by rw [HLEN.out]; exact h12) (by rw [HLE.out]; exact ha) (by rw [HC1.out, HR2.out]; exact HF1.out) (by rw [HLEN.out, HLE.out]; omega))
            have HNO := Lib.hid (ref_body (c := c) (by rw [HLEN.out]; exact h12) (by rw [HLEN.out, HLE.out]; omega))
            rw [HLE.out] at HYES HNO
            clear hpp hp4
            generalize (c.drop 8).take a = p at *
            generalize ((c.drop 8).drop a).take 4 = R4 at *
            generalize hN3 : crc p = N3 at *
            have HC3 := Lib.hid hN3
            clear hN3
            by_cases hne : four N3 = R4
            · have HF3 := Lib.hid hne
              have HF := Lib.hid (HYES.out hne)
              clear hne HYES HNO
              go_wp2
              have hv5 : ((E : Int) + 8 + (a : Int)).toNat = E + 8 + a := by omega
              have hv6 : ((E : Int) + 12 + (a : Int)).toNat = E + 12 + a := by omega
              have hv7 : (0 : Int) ≤ (E : Int) + 8 + (a : Int) := by omega
              have hv8 : (0 : Int) ≤ (E : Int) + 12 + (a : Int) := by omega
              have hv9 : (E : Int) + 12 + (a : Int) ≤ cap := by omega
              have hv10 : (E : Int) + 8 + (a : Int) ≤ (E : Int) + 12 + (a : Int) := by omega
              have hv11 : ¬ cap = E + 8 + a := by omega
              have hv12 : E + 8 + a ≤ E + 12 + a := by omega
              have hv13 : E + 12 + a - (E + 8 + a) = 4 := by omega
              have hv14 : (0 : Int) ≤ (E : Int) + 8 := by omega
              have hv1 : IntKind.i64.wrap ((E : Int) + 8) = (E : Int) + 8 := IntWalk.i64_in _ (by omega)
              have hv2 : IntKind.i64.wrap ((E : Int) + 8 + (a : Int)) = (E : Int) + 8 + (a : Int) := IntWalk.i64_in _ (by clear hv1; omega)
              have hv3 : IntKind.i64.wrap ((E : Int) + 12) = (E : Int) + 12 := IntWalk.i64_in _ (by clear hv1 hv2; omega)
              have hv4 : IntKind.i64.wrap ((E : Int) + 12 + (a : Int)) = (E : Int) + 12 + (a : Int) := IntWalk.i64_in _ (by clear hv1 hv2 hv3; omega)
              go_region_held (fun w' => (convert 36 9 (.slice (some ⟨b, off + (E + 8 + a), none⟩) 4 (cap - (E + 8 + a)))).run Tryz.prog w' = .ok (.string ⟨R4.toArray⟩) w') (first | exact cvd8 | exact HP8.out) (first
                | (go_at_call 113; (with_reducible refine (rsum_any HPP.out).mono ?_); rw [HC3.out]; rintro e w' ⟨rfl, rfl⟩)
                | (go_at_call 112; (refine (four_any _ N3).mono ?_); rw [HF3.out]; rintro e w8 ⟨fc2, rfl, fo, fb⟩; have cv8 : (convert 36 9 (.slice (some ⟨w5.heap.size, 0, none⟩) 4 fc2)).run Tryz.prog w8 = .ok (.string ⟨R4.toArray⟩) w8 := (own_sb fo).conv; have HB8 := Lib.hid ((Below.refl w5.heap.size w5).drew.trans fb); have HP8 := Lib.hid ((HP4.out.below (HB8.out.mono HB5s.out)).conv); clear fo fb))
              clear hv1 hv2 hv3 hv4 hv5 hv6 hv7 hv8 hv9 hv10 hv11 hv12 hv13 hv14
              clear cv8 cvd8 HP8
              have hs5 := HB5s.out
              have hs8 := HB8.out.size
              have hP := HPB.out.below (HB8.out.mono HB5s.out)
              have hpa := hP.len
              have hL := HC.out.2.1
              have HP9 := Lib.hid hP
              have HR8 := Lib.hid (HR5.out.below HB8.out)
              have HW8 := Lib.hid (HW5.out.trans (HB8.out.mono HB5s.out))
              have HPA := Lib.hid hpa
              clear hP hpa
              go_wp2_with (first
                | (at_builtin; refine wpList_append_sb (wanted_none rfl _) (.tmp 91) (.tmp 92) rfl rfl (own_nil w8) (by simp) rfl (HP9.out.below ((below1 w8 _).mono (Nat.le_trans hs5 hs8))) (by simp; omega) ?_; intro v1 w9 ho1 hg1; have hb := (below1 w8 (.cells #[] 5)).trans (own_below_grown (own_nil w8) (by simp) hg1); have HB9 := Lib.hid hb; rw [List.nil_append] at ho1; obtain ⟨uo, uc, rfl⟩ := own_slice ho1; have HU := Lib.hid ho1; have hs9 := hb.size; clear ho1 hg1 hb)
                | (at_builtin; refine wpList_append_own_at _ rfl (.tmp 90) (.tmp 94) 57 rfl w.heap.size 36 i0 (.slice none 0 0) 1 24 under33 hi hz0 hz1 hz2 rfl (by decide) u4 L.length us rfl (((HR8.out.below HB9.out).own).alloc _) ⟨w9.heap.size, 0, none⟩ 1 1 [.slice uo p.length uc] rfl rfl (info_one _ 36) (by intro x hx; simp at hx; subst hx; rfl) (by unfold maxLen; omega) (by omega) (by simp; omega) ?_; intro v3 w10 hown' hgrow _ hat; have HO3 := Lib.hid hown'; have HG3 := Lib.hid hgrow; clear hown' hgrow hat))
              go_roundw
              case rel =>
                refine ⟨L ++ [p], E + (p.length + 12), us ++ [.slice uo p.length uc], by rw [← HPA.out]; go_num, by rw [← HPA.out]; omega, ?_, HC.out.step (by rw [HCC.out]; exact HF.out), ?_⟩
                · exact HR8.out.snoc (C := w8.heap.size) (HB9.out.trans ((below1 w9 _).mono hs9)) (HU.out.alloc _) (Nat.le_refl _) (Nat.le_trans hs5 hs8) HO3.out HG3.out
                · exact (HW8.out.trans (HB9.out.mono (Nat.le_trans hs5 hs8))).trans ((((below1 w9 _).mono (Nat.le_trans (Nat.le_trans hs5 hs8) hs9))).grown HG3.out (by simp; omega) (fun k hk => ((HR8.out.own.lt k hk).1)))
              case measure => simp [intOf]; omega
            · have HF := Lib.hid (HNO.out hne)
              generalize hR3 : four N3 = R3 at *
              have HF3 := Lib.hid hR3
              have hq : (R3 == R4) = false := by rw [beq_eq_false_iff_ne]; exact hne
              clear hne HYES HNO hR3
              go_wp2
              have hv5 : ((E : Int) + 8 + (a : Int)).toNat = E + 8 + a := by omega
              have hv6 : ((E : Int) + 12 + (a : Int)).toNat = E + 12 + a := by omega
              have hv7 : (0 : Int) ≤ (E : Int) + 8 + (a : Int) := by omega
              have hv8 : (0 : Int) ≤ (E : Int) + 12 + (a : Int) := by omega
              have hv9 : (E : Int) + 12 + (a : Int) ≤ cap := by omega
              have hv10 : (E : Int) + 8 + (a : Int) ≤ (E : Int) + 12 + (a : Int) := by omega
              have hv11 : ¬ cap = E + 8 + a := by omega
              have hv12 : E + 8 + a ≤ E + 12 + a := by omega
              have hv13 : E + 12 + a - (E + 8 + a) = 4 := by omega
              have hv14 : (0 : Int) ≤ (E : Int) + 8 := by omega
              have hv1 : IntKind.i64.wrap ((E : Int) + 8) = (E : Int) + 8 := IntWalk.i64_in _ (by omega)
              have hv2 : IntKind.i64.wrap ((E : Int) + 8 + (a : Int)) = (E : Int) + 8 + (a : Int) := IntWalk.i64_in _ (by clear hv1; omega)
              have hv3 : IntKind.i64.wrap ((E : Int) + 12) = (E : Int) + 12 := IntWalk.i64_in _ (by clear hv1 hv2; omega)
              have hv4 : IntKind.i64.wrap ((E : Int) + 12 + (a : Int)) = (E : Int) + 12 + (a : Int) := IntWalk.i64_in _ (by clear hv1 hv2 hv3; omega)
              go_region_held (fun w' => (convert 36 9 (.slice (some ⟨b, off + (E + 8 + a), none⟩) 4 (cap - (E + 8 + a)))).run Tryz.prog w' = .ok (.string ⟨R4.toArray⟩) w') (first | exact cvd8 | exact HP8.out) (first
                | (go_at_call 113; (with_reducible refine (rsum_any HPP.out).mono ?_); rw [HC3.out]; rintro e w' ⟨rfl, rfl⟩)
                | (go_at_call 112; (refine (four_any _ N3).mono ?_); rw [HF3.out]; rintro e w8 ⟨fc2, rfl, fo, fb⟩; have cv8 : (convert 36 9 (.slice (some ⟨w5.heap.size, 0, none⟩) 4 fc2)).run Tryz.prog w8 = .ok (.string ⟨R3.toArray⟩) w8 := (own_sb fo).conv; have HB8 := Lib.hid ((Below.refl w5.heap.size w5).drew.trans fb); have HP8 := Lib.hid ((HP4.out.below (HB8.out.mono HB5s.out)).conv); clear fo fb))
              clear hv1 hv2 hv3 hv4 hv5 hv6 hv7 hv8 hv9 hv10 hv11 hv12 hv13 hv14
              go_wp2
              go_ret2
              have HX := Lib.hid (HC.out.done (by rw [HCC.out]; exact HF.out))
              exact ⟨u4, us, by rw [HX.out]; exact rfl, by rw [HX.out]; exact HR5.out.below HB8.out, HW5.out.trans (HB8.out.mono HB5s.out)⟩
        · have HF := Lib.hid (ref_head (c := c) (by rw [HLEN.out]; exact h12) hne)
          generalize hR2 : (c.drop 4).take 4 = R2 at *
          generalize hN1 : crc (c.take 4) = N1 at *
          have HC1 := Lib.hid hN1
          generalize hR1 : four N1 = R1 at *
          have HF1 := Lib.hid hR1
          have hq : (R1 == R2) = false := by rw [beq_eq_false_iff_ne]; exact hne
          clear hR2 hN1 hR1 hne
          go_wp2
          have hw3 : ((E : Int) + 4).toNat = E + 4 := by omega
          have hw4 : ((E : Int) + 8).toNat = E + 8 := by omega
          have hw5 : (0 : Int) ≤ (E : Int) + 4 := by omega
          have hw6 : (0 : Int) ≤ (E : Int) + 8 := by omega
          have hw7 : (E : Int) + 8 ≤ cap := by omega
          have hw8 : (E : Int) + 4 ≤ (E : Int) + 8 := by omega
          have hw9 : ¬ cap = E + 4 := by omega
          have hw10 : E + 4 ≤ E + 8 := by omega
          have hw1 : IntKind.i64.wrap ((E : Int) + 4) = (E : Int) + 4 := IntWalk.i64_in _ (by omega)
          have hw2 : IntKind.i64.wrap ((E : Int) + 8) = (E : Int) + 8 := IntWalk.i64_in _ (by clear hw1; omega)
          refine wp_region_held (S := (fun w' => (convert 36 9 (.slice (some ⟨b, off + (E + 4), none⟩) 4 (cap - (E + 4)))).run Tryz.prog w' = .ok (.string ⟨R2.toArray⟩) w')) (by kernel_rfl) ?_
          change wpAnyH _ _ _ _ _ _ _ _ (World.drew _)
          refine wpAnyH_take (i := 0) (v := ?vB_0) rfl (by kernel_rfl) (by kernel_rfl) (by kernel_rfl) (fun _ _ _ h => h) (Or.inl ⟨by rfl, ?yB_0⟩) cvd ?rB_0
          case yB_0 => (intro W hSw; (try dsimp only at hSw); obtain hSw1 := hSw; first | (go_simp; done) | (go_simp; with_reducible rfl))
          try go_simp
          refine wpAnyH_take (i := 1) (v := ?vB_1) rfl (by kernel_rfl) (by kernel_rfl) (by kernel_rfl) (fun _ _ _ h => h) (Or.inl ⟨by rfl, ?yB_1⟩) cvd ?rB_1
          case yB_1 => (intro W hSw; (try dsimp only at hSw); obtain hSw1 := hSw; first | (go_simp; done) | (go_simp; with_reducible rfl))
          try go_simp
          refine wpAnyH_take (i := 2) (v := ?vB_2) rfl (by kernel_rfl) (by kernel_rfl) (by kernel_rfl) (fun _ _ _ h => h) (Or.inl ⟨by rfl, ?yB_2⟩) cvd ?rB_2
          case yB_2 => (intro W hSw; (try dsimp only at hSw); obtain hSw1 := hSw; first | (go_simp; done) | (go_simp; with_reducible rfl))
          try go_simp
          refine wpAnyH_take (i := 3) (v := ?vB_3) rfl (by kernel_rfl) (by kernel_rfl) (by kernel_rfl) (fun _ _ _ h => h) (Or.inl ⟨by rfl, ?yB_3⟩) cvd ?rB_3
          case yB_3 => (intro W hSw; (try dsimp only at hSw); obtain hSw1 := hSw; first | (go_simp; done) | (go_simp; with_reducible rfl))
          try go_simp
          refine wpAnyH_take (i := 7) (v := ?vB_7) rfl (by kernel_rfl) (by kernel_rfl) (by kernel_rfl) (fun _ _ _ h => h) (Or.inl ⟨by rfl, ?yB_7⟩) cvd ?rB_7
          case yB_7 => (intro W hSw; (try dsimp only at hSw); obtain hSw1 := hSw; first | (go_simp; done) | (go_simp; with_reducible rfl))
          try go_simp
          refine wpAnyH_take (i := 8) (v := ?vB_8) rfl (by kernel_rfl) (by kernel_rfl) (by kernel_rfl) (fun _ _ _ h => h) (Or.inl ⟨by rfl, ?yB_8⟩) cvd ?rB_8
          case yB_8 => (intro W hSw; (try dsimp only at hSw); obtain hSw1 := hSw; first | (go_simp; done) | (go_simp; with_reducible rfl))
          try go_simp
          refine wpAnyH_take (i := 9) (v := ?vB_9) rfl (by kernel_rfl) (by kernel_rfl) (by kernel_rfl) (fun _ _ _ h => h) (Or.inl ⟨by rfl, ?yB_9⟩) cvd ?rB_9
          case yB_9 => (intro W hSw; (try dsimp only at hSw); obtain hSw1 := hSw; first | (go_simp; done) | (go_simp; with_reducible rfl))
          try go_simp
          refine wpAnyH_take (i := 10) (v := ?vB_10) rfl (by kernel_rfl) (by kernel_rfl) (by kernel_rfl) (fun _ _ _ h => h) (Or.inl ⟨by rfl, ?yB_10⟩) cvd ?rB_10
          case yB_10 => (intro W hSw; (try dsimp only at hSw); obtain hSw1 := hSw; first | (go_simp; done) | (go_simp; with_reducible rfl))
          try go_simp
          refine wpAnyH_take (i := 11) (v := ?vB_11) rfl (by kernel_rfl) (by kernel_rfl) (by kernel_rfl) (fun _ _ _ h => h) (Or.inl ⟨by rfl, ?yB_11⟩) cvd ?rB_11
          case yB_11 => (intro W hSw; (try dsimp only at hSw); obtain hSw1 := hSw; first | (go_simp; done) | (go_simp; with_reducible rfl))
          try go_simp
          refine wpAnyH_take (i := 12) (v := ?vB_12) rfl (by kernel_rfl) (by kernel_rfl) (by kernel_rfl) (fun _ _ _ h => h) (Or.inl ⟨by rfl, ?yB_12⟩) cvd ?rB_12
          case yB_12 => (intro W hSw; (try dsimp only at hSw); obtain hSw1 := hSw; first | (go_simp; done) | (go_simp; with_reducible rfl))
          try go_simp
          refine wpAnyH_take (i := 13) (v := ?vB_13) rfl (by kernel_rfl) (by kernel_rfl) (by kernel_rfl) (fun _ _ _ h => h) (Or.inl ⟨by rfl, ?yB_13⟩) cvd ?rB_13
          case yB_13 => (intro W hSw; (try dsimp only at hSw); obtain hSw1 := hSw; first | (go_simp; done) | (go_simp; with_reducible rfl))
          try go_simp
          refine wpAnyH_ready (rs := [4]) (by kernel_rfl) (by simp) ?_
          refine AllReadyH.cons rfl (fun K hK => ?_) AllReadyH.nil
          go_simp
          (go_wp2_with (first | (go_at_call 113; (with_reducible refine (rsum_any HHD.out).mono ?_); rw [HC1.out]; rintro e w' ⟨rfl, rfl⟩)))
          refine hK.out _ _ cvd (fun _ => ?_)
          clear hK K
          try go_simp
          refine wpAnyH_ready (rs := [5]) (by kernel_rfl) (by simp) ?_
          refine AllReadyH.cons rfl (fun K hK => ?_) AllReadyH.nil
          go_simp
          (go_wp2_with (first | (go_at_call 112; (refine (four_any _ N1).mono ?_); rw [HF1.out]; rintro e w5 ⟨fc, rfl, fo, fb⟩; have cv5 : (convert 36 9 (.slice (some ⟨wd.heap.size, 0, none⟩) 4 fc)).run Tryz.prog w5 = .ok (.string ⟨R1.toArray⟩) w5 := (own_sb fo).conv; have HB5 := Lib.hid (HD.out.trans fb); have HP5 := Lib.hid ((HP2.out.below (HB5.out.mono HWs.out)).conv); clear fo fb)))
          refine hK.out _ _ HP5.out (fun _ => ?_)
          clear hK K
          try go_simp
          refine wpAnyH_ready (rs := [6]) (by kernel_rfl) (by simp) ?_
          refine AllReadyH.cons rfl (fun K hK => ?_) AllReadyH.nil
          go_simp
          refine hK.out _ _ HP5.out (fun _ => ?_)
          clear hK K
          try go_simp
          refine wpAnyH_take (i := 14) (v := ?vBb_14) rfl (by kernel_rfl) (by kernel_rfl) (by kernel_rfl) (fun _ _ _ h => h) (Or.inl ⟨by rfl, ?yBb_14⟩) HP5.out ?rBb_14
          case yBb_14 => (intro W hSw; (try dsimp only at hSw); obtain hSw1 := hSw; first | (go_simp; done) | (go_simp; with_reducible rfl))
          try go_simp
          refine wpAnyH_take (i := 15) (v := ?vBb_15) rfl (by kernel_rfl) (by kernel_rfl) (by kernel_rfl) (fun _ _ _ h => h) (Or.inl ⟨by rfl, ?yBb_15⟩) HP5.out ?rBb_15
          case yBb_15 => (intro W hSw; (try dsimp only at hSw); obtain hSw1 := hSw; first | (go_simp; done) | (go_simp; with_reducible rfl))
          try go_simp
          refine wpAnyH_take (i := 16) (v := ?vBb_16) rfl (by kernel_rfl) (by kernel_rfl) (by kernel_rfl) (fun _ _ _ h => h) (Or.inl ⟨by rfl, ?yBb_16⟩) HP5.out ?rBb_16
          case yBb_16 => (intro W hSw; (try dsimp only at hSw); obtain hSw1 := hSw; first | (go_simp; done) | (go_simp; with_reducible rfl))
          try go_simp
          refine wpAnyH_take (i := 17) (v := undef) rfl (by kernel_rfl) (by kernel_rfl) (by kernel_rfl) (fun _ _ _ h => h) (Or.inr ⟨by rfl, rfl⟩) HP5.out ?rBb_17
          try go_simp
          refine wpAnyH_take (i := 18) (v := undef) rfl (by kernel_rfl) (by kernel_rfl) (by kernel_rfl) (fun _ _ _ h => h) (Or.inr ⟨by rfl, rfl⟩) HP5.out ?rBb_18
          try go_simp
          refine wpAnyH_take (i := 19) (v := undef) rfl (by kernel_rfl) (by kernel_rfl) (by kernel_rfl) (fun _ _ _ h => h) (Or.inr ⟨by rfl, rfl⟩) HP5.out ?rBb_19
          try go_simp
          refine wpAnyH_take (i := 20) (v := undef) rfl (by kernel_rfl) (by kernel_rfl) (by kernel_rfl) (fun _ _ _ h => h) (Or.inr ⟨by rfl, rfl⟩) HP5.out ?rBb_20
          try go_simp
          refine wpAnyH_take (i := 21) (v := undef) rfl (by kernel_rfl) (by kernel_rfl) (by kernel_rfl) (fun _ _ _ h => h) (Or.inr ⟨by rfl, rfl⟩) HP5.out ?rBb_21
          try go_simp
          refine wpAnyH_take (i := 22) (v := undef) rfl (by kernel_rfl) (by kernel_rfl) (by kernel_rfl) (fun _ _ _ h => h) (Or.inr ⟨by rfl, rfl⟩) HP5.out ?rBb_22
          try go_simp
          refine wpAnyH_take (i := 23) (v := undef) rfl (by kernel_rfl) (by kernel_rfl) (by kernel_rfl) (fun _ _ _ h => h) (Or.inr ⟨by rfl, rfl⟩) HP5.out ?rBb_23
          try go_simp
          refine wpAnyH_take (i := 24) (v := ?vBb_24) rfl (by kernel_rfl) (by kernel_rfl) (by kernel_rfl) (fun _ _ _ h => h) (Or.inl ⟨by rfl, ?yBb_24⟩) HP5.out ?rBb_24
          case yBb_24 => (intro W hSw; (try dsimp only at hSw); obtain hSw1 := hSw; first | (go_simp; done) | (go_simp; with_reducible rfl))
          try go_simp
          refine wpAnyH_done (by kernel_rfl) ?_ _
          clear hw1 hw2 hw3 hw4 hw5 hw6 hw7 hw8 hw9 hw10
          go_wp2
          go_ret2
          have HX := Lib.hid (HC.out.done (by rw [HCC.out]; exact HF.out))
          have HB6 := Lib.hid (HB5.out.trans (Below.refl _ _))
          exact ⟨u4, us, by rw [HX.out]; exact rfl, by rw [HX.out]; exact HRd.out.below HB5.out, HWd.out.trans (HB5.out.mono HWs.out)⟩
    · have HF := Lib.hid (first_short (b := l.drop E) (by rw [List.length_drop, ← HN.out]; omega))
      have HX := Lib.hid (HC.out.done HF.out)
      go_wp2
      go_ret2
      exact ⟨u4, us, by rw [HX.out]; exact rfl, by rw [HX.out]; exact HR.out, HW.out⟩
end Go.Proofs.YtkilkhnoldfhcaaGreatDoor.Fr
namespace Go.Proofs.YtkilkhnoldfhcaaGreatDoor.Fr
open Go.RowKit
theorem take_same {L M : List (List UInt8)} {k : Nat} (hk : k < L.length) (hl : L.length = M.length) (h : L.take k = M.take k) (he : L.getD k [] = M.getD k []) : L.take (k + 1) = M.take (k + 1) := by
  rw [List.take_add_one, List.take_add_one, h]
  rw [List.getD_eq_getElem?_getD, List.getD_eq_getElem?_getD, List.getElem?_eq_getElem hk, List.getElem?_eq_getElem (by omega)] at he
  rw [List.getElem?_eq_getElem hk, List.getElem?_eq_getElem (by omega)]
  simp at he
  rw [he]
theorem drewN_add (w : World) (a b : Nat) : (w.drewN a).drewN b = w.drewN (a + b) := by
  simp [World.drewN, Nat.add_assoc]
set_option maxRecDepth 100000 in
theorem rows_any {B C : Nat} {w : World} {ao bo : Option Addr} {n cap m bcap : Nat} {L M : List (List UInt8)} (h : RB B w ao n cap L) (h2 : RB C w bo m bcap M) :
    Calls Tryz.prog 34 #[.slice ao n cap, .slice bo m bcap] w fun e w' => e = .returned (.bool (L == M)) ∧ ∃ k, w' = w.drewN k := by
  have hl := h.len
  have hl2 := h2.len
  have hlt := h.lt
  have H := Lib.hid h
  have H2 := Lib.hid h2
  clear h h2
  by_cases hnm : n = m
  · subst hnm
    have HL := Lib.hid hl
    have HM := Lib.hid hl2
    clear hl hl2
    go_enter Tryz.func34, Tryz.ntmps34
    go_wp2
    go_loopw [5] (fun i wr => ∃ k : Nat, i = .int .i64 k ∧ k ≤ n ∧ Hid (L.take k = M.take k) ∧ ∃ q, Hid (wr = w.drewN q)) (fun i _ => n - (intOf i).toNat)
    case atStart => exact ⟨0, rfl, Nat.zero_le _, rfl, 0, rfl⟩
    case round =>
      obtain ⟨k, rfl, hk, HT, q, HQ⟩ := hrel
      by_cases hkn : k < n
      · obtain ⟨b, off, ro, c, d, rfl, c1, s1⟩ := H.out.at_ hkn
        obtain ⟨b2, off2, ro2, cc2, d2, rfl, c2, s2⟩ := H2.out.at_ hkn
        have c1' : wr.cell? ⟨b, off + k, none⟩ = some (.slice ro c d) := by rw [HQ.out, World.cell?_drewN]; exact c1
        have c2' : wr.cell? ⟨b2, off2 + k, none⟩ = some (.slice ro2 cc2 d2) := by rw [HQ.out, World.cell?_drewN]; exact c2
        have s1w : SB B wr ro c d (L.getD k []) := by rw [HQ.out]; exact s1.drewN q
        have s2w : SB C wr ro2 cc2 d2 (M.getD k []) := by rw [HQ.out]; exact s2.drewN q
        have cv1 : ∀ q, (convert 36 9 (.slice ro c d)).run Tryz.prog (wr.drewN q) = .ok (.string ⟨(L.getD k []).toArray⟩) (wr.drewN q) := fun q => (s1w.drewN q).conv
        have cv2 : ∀ q, (convert 36 9 (.slice ro2 cc2 d2)).run Tryz.prog (wr.drewN q) = .ok (.string ⟨(M.getD k []).toArray⟩) (wr.drewN q) := fun q => (s2w.drewN q).conv
        clear c1 c2 s1 s2 s1w s2w
        have HE := Lib.hid (take_same (L := L) (M := M) (k := k) (by rw [← HL.out]; exact hkn) (by rw [← HL.out, ← HM.out]) HT.out)
        generalize hx : L.getD k [] = x at *
        generalize hy : M.getD k [] = y at *
        have HX := Lib.hid hx
        have HY := Lib.hid hy
        clear hx hy
        by_cases hxy : x = y
        · subst hxy
          have HE2 := Lib.hid (HE.out rfl)
          go_wp2
          go_quiet (fail)
          go_wp2
          go_roundw
          case rel => exact ⟨k + 1, by go_num, by omega, HE2.out, q + nq, by rw [HQ.out, drewN_add]; exact rfl⟩
          case measure => simp [intOf]; omega
        · have ht : (x == y) = false := by rw [beq_eq_false_iff_ne]; exact hxy
          have hne : (L == M) = false := by
            rw [beq_eq_false_iff_ne]
            intro e
            rw [e] at HX
            exact hxy (HX.out.symm.trans HY.out)
          have HNE := Lib.hid hne
          clear hne hxy
          go_wp2
          go_quiet (fail)
          go_wp2
          go_ret
          rw [HNE.out]
          exact ⟨rfl, q + nq, by rw [HQ.out, drewN_add]⟩
      · obtain rfl : k = n := by omega
        have hE : L = M := by
          have := HT.out
          rw [List.take_of_length_le (by rw [← HL.out]; omega), List.take_of_length_le (by rw [← HM.out]; omega)] at this
          exact this
        subst hE
        go_wp2
        go_ret
        exact ⟨by simp, q, HQ.out⟩
  · have hne : (L == M) = false := by
      rw [beq_eq_false_iff_ne]; intro e; subst e; omega
    rw [hne]
    have ht : (((n : Int)) != (m : Int)) = true := by rw [bne_iff_ne]; omega
    clear hl hl2 hnm
    go_enter Tryz.func34, Tryz.ntmps34
    go_wp2
    go_ret
    exact ⟨rfl, 0, rfl⟩
/-- How many bytes the first rows have. -/
def wei (L : List (List UInt8)) : Nat := (L.map fun l => min l.length 20001).sum
def fewB (L : List (List UInt8)) : Bool := decide (L.length ≤ 100) && decide (wei (L.take 100) ≤ 20000)
theorem wei_take {L : List (List UInt8)} {k : Nat} (h : k < L.length) : wei (L.take (k + 1)) = wei (L.take k) + min (L.getD k []).length 20001 := by
  have e : L.take (k + 1) = L.take k ++ [L.getD k []] := by
    rw [List.take_add_one, List.getD_eq_getElem?_getD, List.getElem?_eq_getElem h]; rfl
  unfold wei
  rw [e, List.map_append, List.sum_append]
  simp
theorem wei_le (L : List (List UInt8)) : wei L ≤ L.length * 20001 := by
  induction L with
  | nil => simp [wei]
  | cons t r ih =>
    have e : wei (t :: r) = min t.length 20001 + wei r := rfl
    rw [e, List.length_cons, Nat.add_mul]
    omega
theorem few_yes {L : List (List UInt8)} (h : fewB L = true) : L.length ≤ 100 ∧ wei L ≤ 20000 := by
  unfold fewB at h
  simp only [Bool.and_eq_true, decide_eq_true_eq] at h
  obtain ⟨h1, h2⟩ := h
  rw [List.take_of_length_le h1] at h2
  exact ⟨h1, h2⟩
theorem wei_mem {L : List (List UInt8)} (h : wei L ≤ 20000) : ∀ l ∈ L, l.length ≤ 20000 := by
  induction L with
  | nil => intro t ht; cases ht
  | cons u r ih =>
    have e : wei (u :: r) = min u.length 20001 + wei r := rfl
    intro t ht
    rcases List.mem_cons.1 ht with rfl | ht
    · omega
    · exact ih (by omega) t ht
theorem join_len {L : List (List UInt8)} (h : wei L ≤ 20000) : (joinV L).length ≤ L.length * 12 + wei L := by
  induction L with
  | nil => simp [joinV]
  | cons u r ih =>
    have e : wei (u :: r) = min u.length 20001 + wei r := rfl
    have := wei_mem h u List.mem_cons_self
    have := ih (by omega)
    rw [join_cons, List.length_append, frame_length, List.length_cons, e]
    omega
end Go.Proofs.YtkilkhnoldfhcaaGreatDoor.Fr
