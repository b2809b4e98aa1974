/- raceref7.Append. Conditions: a log as it keeps to; bytes that are neither the log's nor the disk's. -/
import Derived.Test.YtkilkhnoldfhcaaGreatDoorLzg
namespace Go.Proofs.YtkilkhnoldfhcaaGreatDoor
open Go.RowKit
section
variable {B : Nat} {w : World} {b c : Nat} {C S E : Nat → Prop} {r : Rl} {d : Dk} {p : List UInt8} {po : Option Addr} {pc : Nat}
set_option maxRecDepth 100000 in
set_option maxHeartbeats 80000000 in
theorem rlappend_any (h : WR B w b C r c S d) (hB : B ≤ w.heap.size) (hk : ROk r) (hfew : r.nums.length ≤ 999999) (hall : r.all.length ≤ 99999999) (hd : d.done ≤ 1000000000) (hp : SB E w po p.length pc p) (hE : ∀ k, E k → k < w.heap.size ∧ ¬ C k ∧ ¬ S k) :
    Calls Tryz.prog 46 #[ptr b, .slice po p.length pc] w (RLogged2 C S B w b c (r.append d p)) := by
  have HW := Lib.hid h
  have HBW := Lib.hid hB
  have HK := Lib.hid hk
  have HP := Lib.hid hp
  have HE := Lib.hid hE
  by_cases hl : 262144 < p.length
  · have HA : Hid (r.append d p = (r, d, 0, 2)) := by show _ = _; unfold Rl.append; rw [if_pos hl]
    clear h hB hk hd hp hE hfew hall
    go_enter Tryz.func46, Tryz.ntmps46
    go_wp2_with (go_at_call 88; (refine (Fr.rframe_long (fr_sb HP.out) hl).mono ?_); rintro e w1 ⟨rfl, rfl⟩)
    go_ret2
    rw [HA.out]
    exact ⟨rfl, _, _, HW.out, went_below (Below.refl _ _)⟩
  have hpl2 : p.length ≤ 262144 := by omega
  have AF : ∀ {w0 : World}, w0 = w → Calls Tryz.prog 88 #[.slice po p.length pc] w0 fun e w' => ∃ fo fc, e = .returned (.tuple #[.slice fo (Fr.frameV p).length fc, .int .i64 0]) ∧ w'.ownsRow w.heap.size 5 1 (.slice fo (Fr.frameV p).length fc) (Fr.frameV p).length (bys (Fr.frameV p)) ∧ Below w.heap.size w w' := by
    rintro w0 rfl
    refine (Fr.rframe_any (fr_sb HP.out) hpl2).mono ?_
    rintro e w1 ⟨vb, rfl, ho1, hb1⟩
    obtain ⟨fo, fc, rfl⟩ := own_slice ho1
    exact ⟨fo, fc, rfl, ho1, hb1⟩
  have HAF := Lib.hid (AF rfl)
  clear AF
  by_cases hn : 99999999 < r.next
  · have HA : Hid (r.append d p = (r, d, 0, 1)) := by show _ = _; unfold Rl.append; rw [if_neg hl, if_pos hn]
    have hn1 : (99999999 : Int) < ((r.low + r.all.length : Nat) : Int) := by have : (r.low + r.all.length : Nat) = r.next := rfl; omega
    have hn2 : (99999999 : Int) < (r.low : Int) + (r.all.length : Int) := by omega
    clear h hB hk hd hp hE hl hn hfew hall
    go_enter Tryz.func46, Tryz.ntmps46
    go_wp2_with (first
      | (go_at_call 88; (refine HAF.out.mono ?_); rintro e w1 ⟨fo, fc, rfl, ho1, hb1⟩; have HB1 := Lib.hid hb1; clear ho1 hb1)
      | (go_at_call 53; (obtain ⟨v0, a0, us0, hl0⟩ := (HW.out.below HB1.out).lk; refine (rnext_any hl0 HK.out).mono ?_); rintro e w2 ⟨rfl, hb2⟩; have HB2 := Lib.hid hb2; clear hb2 hl0))
    go_ret2
    rw [HA.out]
    exact ⟨rfl, _, _, (HW.out.below HB1.out).below HB2.out, (went_below HB1.out).trans (went_below HB2.out)⟩
  have hnx : r.next ≤ 99999999 := by omega
  have hn1 : ¬ (99999999 : Int) < ((r.low + r.all.length : Nat) : Int) := by have : (r.low + r.all.length : Nat) = r.next := rfl; omega
  have hn2 : ¬ (99999999 : Int) < (r.low : Int) + (r.all.length : Int) := by omega
  have hlo := hk.low1
  have HNX : Hid (r.low + r.all.length = r.next ∧ 1 ≤ r.next ∧ r.next ≤ 99999999) := Lib.hid ⟨rfl, by unfold Rl.next; omega, hnx⟩
  have HAP : Hid (r.append d p = if (r.more d).2.2 = 0 then Rl.write (r.more d) p else ((r.more d).1, (r.more d).2.1, 0, (r.more d).2.2)) := by show _ = _; unfold Rl.append; rw [if_neg hl, if_neg hn]
  have HFEW := Lib.hid hfew
  have HALL := Lib.hid hall
  have HDN := Lib.hid hd
  have HFLE : Hid ((Fr.frameV p).length = p.length + 12) := Fr.frame_length p
  obtain ⟨fl, hfl⟩ : ∃ fl, fl = d.read (segN r.dir r.end_) := ⟨_, rfl⟩
  have HFR := Lib.hid hfl
  have HMO : Hid (r.more d = if ((fl.1.length : Nat) : Int) < r.seg then (r, d, 0) else if (r.sync d).2.2 = 0 then (if ((r.sync d).2.1.create (segN r.dir r.next)).2 = 0 then ({ (r.sync d).1 with nums := r.nums ++ [r.next] }, ((r.sync d).2.1.create (segN r.dir r.next)).1, 0) else ((r.sync d).1, ((r.sync d).2.1.create (segN r.dir r.next)).1, ((r.sync d).2.1.create (segN r.dir r.next)).2)) else r.sync d) := by show _ = _; unfold Rl.more; rw [hfl]
  clear h hB hk hp hE hl hn hfew hall hd hfl hlo hnx
  by_cases hsm : ((fl.1.length : Nat) : Int) < r.seg
  · go_enter Tryz.func46, Tryz.ntmps46
    go_upto_region 6 with (first
      | (go_at_call 88; (refine HAF.out.mono ?_); rintro e w1 ⟨fo, fc, rfl, ho1, hb1⟩; have HO1 := Lib.hid ho1; have HB1 := Lib.hid hb1; clear ho1 hb1)
      | (go_at_call 53; (obtain ⟨v0, a0, us0, hl0⟩ := (HW.out.below HB1.out).lk; refine (rnext_any hl0 HK.out).mono ?_); rintro e w2 ⟨rfl, hb2⟩; have HB2 := Lib.hid hb2; clear hb2 hl0))
    have HB3 : Hid (Below w.heap.size w w2.drew) := (HB1.out.trans (HB2.out.mono HB1.out.size)).trans ((Below.refl _ w2).drew.mono (Nat.le_trans HB1.out.size HB2.out.size))
    have HW3 := Lib.hid (HW.out.below HB3.out)
    have HBW3 : Hid (B ≤ w2.drew.heap.size) := Nat.le_trans HBW.out HB3.out.size
    obtain ⟨vn3, va3, ua3, hl3⟩ := HW3.out.lk
    obtain ⟨vd3, ud3, hra3⟩ := HW3.out.dk
    have HL3 := Lib.hid hl3
    have HD3 := Lib.hid hra3
    have HBS3 : Hid (b < w2.drew.heap.size) := hl3.lt b hl3.cb
    have c0 : w2.drew.cell? ⟨b, 0, none⟩ = some (ptr c) := hl3.c0
    clear hl3 hra3
    go_region_held (fun w' => w'.cell? ⟨b, 0, none⟩ = some (ptr c)) (exact c0) (first
      | (go_at_call 80; (refine (rlast_any HL3.out HK.out).mono ?_); rintro e w4 ⟨rfl, hq⟩; have HB4 := Lib.hid hq; have c0 := (hq.cell (p := ⟨b, 0, none⟩) HBS3.out).trans c0; clear hq)
      | (go_at_call 81; (refine (rread_any (HD3.out.below HB4.out) (segN r.dir r.end_)).mono ?_); rintro e w5 ⟨ro, rc, rfl, hs5, rfl⟩; rw [← HFR.out]; clear hs5))
    have HB24 : Hid (Below w2.heap.size w2 w4) := (Below.refl _ w2).drew.trans (HB4.out.mono (Nat.le_refl _))
    have HB5 : Hid (Below w.heap.size w w4) := HB3.out.trans (HB4.out.mono HB3.out.size)
    have HW5 := Lib.hid (HW.out.below HB5.out)
    obtain ⟨vn5, va5, ua5, hl5⟩ := HW5.out.lk
    have c2 := hl5.c2
    clear hl5 c0
    have hge : decide (r.seg ≤ ((fl.1.length : Nat) : Int)) = false := decide_eq_false (by omega)
    have HMt : Hid (r.more d = (r, d, 0)) := by show _ = _; rw [HMO.out, if_pos hsm]
    clear hsm
    go_upto_region 16 with (fail)
    have HWt := HW5
    have HKt := HK
    have HGt : Hid (Went (fun k => C k ∨ S k) w w4 (fun k => C k ∨ S k)) := went_below HB5.out
    have HBt : Hid (B ≤ w4.heap.size) := Nat.le_trans HBW.out HB5.out.size
    have HDt : Hid (d.done ≤ 1000000002) := Nat.le_trans HDN.out (by decide)
    have HFt : Hid (SB (fun k => w.heap.size ≤ k ∧ k < w1.heap.size) w4 fo (Fr.frameV p).length fc (Fr.frameV p)) := (((own_sb HO1.out).mono fun k _ hk => HO1.out.lt k hk).below HB2.out).below HB24.out
    have HPt : Hid (SB E w4 po p.length pc p) := HP.out.below HB5.out
    have HEt : Hid (∀ k, E k → ¬ C k ∧ ¬ S k) := fun k hk => (HE.out k hk).2
    have HNt : Hid (r.next ≤ 99999999) := HNX.out.2.2
    have HALt : Hid (r.all.length ≤ 99999999) := HALL.out
    clear c2
    have HB6d : Hid (Below w4.heap.size w4 (w4).drew) := (Below.refl _ w4).drew
    have HW6 := Lib.hid (HWt.out.below HB6d.out)
    have HBW6 : Hid (B ≤ (w4).drew.heap.size) := Nat.le_trans HBt.out HB6d.out.size
    obtain ⟨vn6, va6, ua6, hl6⟩ := HW6.out.lk
    obtain ⟨vd6, ud6, hra6⟩ := HW6.out.dk
    have HL6 := Lib.hid hl6
    have HD6 := Lib.hid hra6
    have HBS6 : Hid (b < (w4).drew.heap.size) := hl6.lt b hl6.cb
    have HCB6 := Lib.hid hl6.cb
    have c0 : (w4).drew.cell? ⟨b, 0, none⟩ = some (ptr c) := hl6.c0
    have HDN6 : Hid ((d).done < 9223372036854775807) := Nat.lt_of_le_of_lt HDt.out (by decide)
    have HF6 := Lib.hid (HFt.out.below HB6d.out)
    have HP6 := Lib.hid (HPt.out.below HB6d.out)
    clear hl6 hra6
    obtain ⟨q, hq⟩ : ∃ q, (d).append (segN (r).dir (r).end_) (Fr.frameV p) = q := ⟨_, rfl⟩
    have HQ := Lib.hid hq
    have HWR : Hid (r.append d p = if q.2 = 0 then ({ r with all := (r).all ++ [p] }, q.1, (r).next, 0) else (r, q.1, 0, q.2)) := by
      show _ = _
      rw [HAP.out, HMt.out, if_pos rfl, ← hq]
      rfl
    clear hq
    go_region_held (fun w' => w'.cell? ⟨b, 0, none⟩ = some (ptr c)) (exact c0) (first
      | (go_at_call 80; (refine (rlast_any HL6.out HKt.out).mono ?_); rintro e w6 ⟨rfl, hq⟩; have HB6 := Lib.hid hq; have c0 := (hq.cell (p := ⟨b, 0, none⟩) HBS6.out).trans c0; clear hq)
      | (go_at_call 89; (refine (rappend_any (HD6.out.below HB6.out) (segN (r).dir (r).end_) HDN6.out (HF6.out.below HB6.out)).mono ?_); rintro e w7 ⟨rfl, hd7, ht7⟩; rw [HQ.out] at hd7 ⊢; have HW7 := Lib.hid ((HW6.out.below HB6.out).disk (Nat.le_trans HBW6.out HB6.out.size) hd7 ht7); have c0 := ht7.cell c0 (HW6.out.cs _ HCB6.out); have HT7 := Lib.hid ht7; clear hd7 ht7))
    have HGE : Hid (Went (fun k => C k ∨ S k) w w7 (fun k => C k ∨ Gw S w6 w7 k)) := ((HGt.out.trans (went_below HB6d.out)).trans (went_below HB6.out)).trans (went_disk HT7.out)
    have HBW7 : Hid (B ≤ w7.heap.size) := Nat.le_trans HBW6.out (Nat.le_trans HB6.out.size HT7.out.size)
    clear c0
    by_cases hq0 : q.2 = 0
    · have hb1 : (((q.2 : Nat) : Int) != 0) = false := by rw [hq0]; rfl
      have HQ0 := Lib.hid hq0
      clear hq0
      go_upto_region 19 with (fail)
      have HB7d : Hid (Below w7.heap.size w7 w7.drew) := (Below.refl _ w7).drew
      have HW8 := Lib.hid (HW7.out.below HB7d.out)
      have HBW8 : Hid (B ≤ w7.drew.heap.size) := Nat.le_trans HBW7.out HB7d.out.size
      obtain ⟨vn8, va8, ua8, hl8⟩ := HW8.out.lk
      have HL8 := Lib.hid hl8
      have HBS8 : Hid (b < w7.drew.heap.size) := hl8.lt b hl8.cb
      have c4 : w7.drew.cell? ⟨b, 4, none⟩ = some va8 := hl8.c4
      have HP8 : Hid (SB E w7.drew po p.length pc p) := ((HP6.out.below HB6.out).tn HT7.out (fun k hk e => (HEt.out k hk).2 e)).below HB7d.out
      have hpl : p.length ≤ 140737488355328 := by omega
      have HAL := HALt
      clear hl8
      refine wp_region_held (S := (fun _ => True)) (by kernel_rfl) ?_
      change wpAnyH _ _ _ _ _ _ _ _ (World.drew _)
      refine wpAnyH_take (i := 0) (v := ?vh1t_0) rfl (by kernel_rfl) (by kernel_rfl) (by kernel_rfl) (fun _ _ _ h => h) (Or.inl ⟨by rfl, ?yh1t_0⟩) trivial ?rh1t_0
      case yh1t_0 => (intro W hSw; (try dsimp only at hSw); obtain _ := hSw; first | (go_simp; done) | (go_simp; with_reducible rfl))
      try go_simp
      refine wpAnyH_take (i := 1) (v := ?vh1t_1) rfl (by kernel_rfl) (by kernel_rfl) (by kernel_rfl) (fun _ _ _ h => h) (Or.inl ⟨by rfl, ?yh1t_1⟩) trivial ?rh1t_1
      case yh1t_1 => (intro W hSw; (try dsimp only at hSw); obtain _ := hSw; first | (go_simp; done) | (go_simp; with_reducible rfl))
      try go_simp
      refine wpAnyH_take (i := 2) (v := ?vh1t_2) rfl (by kernel_rfl) (by kernel_rfl) (by kernel_rfl) (fun _ _ _ h => h) (Or.inl ⟨by rfl, ?yh1t_2⟩) trivial ?rh1t_2
      case yh1t_2 => (intro W hSw; (try dsimp only at hSw); obtain _ := hSw; first | (go_simp; done) | (go_simp; with_reducible rfl))
      try go_simp
      refine wpAnyH_take (i := 3) (v := ?vh1t_3) rfl (by kernel_rfl) (by kernel_rfl) (by kernel_rfl) (fun _ _ _ h => h) (Or.inl ⟨by rfl, ?yh1t_3⟩) trivial ?rh1t_3
      case yh1t_3 => (intro W hSw; (try dsimp only at hSw); obtain _ := hSw; first | (go_simp; done) | (go_simp; with_reducible rfl))
      try go_simp
      refine wpAnyH_take (i := 5) (v := ?vh1t_5) rfl (by kernel_rfl) (by kernel_rfl) (by kernel_rfl) (fun _ _ _ h => h) (Or.inl ⟨by rfl, ?yh1t_5⟩) trivial ?rh1t_5
      case yh1t_5 => (intro W hSw; (try dsimp only at hSw); obtain _ := hSw; first | (go_simp; done) | (go_simp; with_reducible rfl))
      try go_simp
      refine wpAnyH_ready (rs := [4, 6]) (by kernel_rfl) (by simp) ?_
      refine AllReadyH.cons rfl (fun K hK => ?_) (AllReadyH.cons rfl (fun K hK => ?_) AllReadyH.nil)
      · go_simp
        refine hK.out _ _ trivial (fun _ => ?_)
        clear hK K
        try go_simp
        refine wpAnyH_ready (rs := [6]) (by kernel_rfl) (by simp) ?_
        refine AllReadyH.cons rfl (fun K hK => ?_) AllReadyH.nil
        go_simp
        (go_wp2_with (first | (go_at_call 26; (refine (copyBytes_any HP8.out hpl).mono ?_); rintro e w9 ⟨co, cc, rfl, ho9, hb9⟩; have HO9 := Lib.hid ho9; have HB9 := Lib.hid hb9; have p4 := (hb9.cell (p := ⟨b, 4, none⟩) HBS8.out).trans c4; clear ho9 hb9)))
        refine hK.out _ _ trivial (fun _ => ?_)
        clear hK K
        try go_simp
        refine wpAnyH_ready (rs := [7]) (by kernel_rfl) (by simp) ?_
        refine AllReadyH.cons rfl (fun K hK => ?_) AllReadyH.nil
        go_simp
        refine hK.out _ _ trivial (fun _ => ?_)
        clear hK K
        try go_simp
        have HBE := Lib.hid (below_alloc HB9.out (.cells #[.slice co p.length cc] 36) HB9.out.size)
        have q4 : (w9.alloc (.cells #[.slice co p.length cc] 36)).cell? ⟨b, 4, none⟩ = some va8 := (HL8.out.below HBE.out).c4
        refine wpAnyH_ready (rs := [8]) (by kernel_rfl) (by simp) ?_
        refine AllReadyH.cons rfl (fun K hK => ?_) AllReadyH.nil
        have hall8 := (HL8.out.below HBE.out).all
        refine oper_append_off under57 info36 rfl (by decide) (wanted_none rfl _) (.tmp 90) (.tmp 93) rfl rfl hall8 rfl (heap_alloc_new w9 _) rfl (Nat.le_trans HAL.out (by decide)) ?_
        intro v8 w8 ho8 hg8 hl9
        obtain ⟨o8, k8, rfl, _, _, _, _⟩ := ho8.slice
        have hbx : w8.heap[b]? = some (.cells #[ptr c, nmv (r).dir, .int .i64 (r).seg, vn8, va8, .int .i64 ((r).top : Int)] 118 (0, 0)) := HL8.out.box8 HBE.out (.inr rfl) hg8
        have HOO := Lib.hid ho8
        have HGG := Lib.hid hg8
        have HLL := Lib.hid hl9
        have r4 : w8.cell? ⟨b, 4, none⟩ = some va8 := by simp [World.cell?, hbx]
        have fz4 : w8.frozen? ⟨b, 4, none⟩ = false := frozen_zero hbx
        clear ho8 hg8 hl9 hall8 hbx q4
        try go_simp
        refine hK.out _ _ trivial (fun _ => ?_)
        clear hK K
        try go_simp
        refine wpAnyH_take (i := 9) (v := ?vh1ta_9) rfl (by kernel_rfl) (by kernel_rfl) (by kernel_rfl) (fun _ _ _ h => h) (Or.inl ⟨by rfl, ?yh1ta_9⟩) trivial ?rh1ta_9
        case yh1ta_9 => (intro W hSw; (try dsimp only at hSw); obtain _ := hSw; first | (go_simp; done) | (go_simp; with_reducible rfl))
        try go_simp
        refine wpAnyH_take (i := 10) (v := ?vh1ta_10) rfl (by kernel_rfl) (by kernel_rfl) (by kernel_rfl) (fun _ _ _ h => h) (Or.inl ⟨by rfl, ?yh1ta_10⟩) trivial ?rh1ta_10
        case yh1ta_10 => (intro W hSw; (try dsimp only at hSw); obtain _ := hSw; first | (go_simp; done) | (go_simp; with_reducible rfl))
        try go_simp
        refine wpAnyH_ready (rs := [11]) (by kernel_rfl) (by simp) ?_
        refine AllReadyH.cons rfl (fun K hK => ?_) AllReadyH.nil
        go_simp
        refine hK.out _ _ trivial (fun _ => ?_)
        clear hK K
        try go_simp
        refine wpAnyH_done (by kernel_rfl) ?_ _
        obtain ⟨hwE, htE⟩ := rapp_end HW8.out HBW8.out HL8.out HB9.out HO9.out HOO.out HGG.out HLL.out
        have HWE := Lib.hid hwE
        have HTE := Lib.hid htE
        have hok2 : ROk { r with all := (r).all ++ [p] } := ⟨HKt.out.dir, HKt.out.ne, HKt.out.few, HKt.out.num, by show ((r).all ++ [p]).length ≤ _; have := HAL.out; rw [List.length_append]; simp; omega, HKt.out.top⟩
        have HKE := Lib.hid hok2
        have hnx2 : (({ r with all := (r).all ++ [p] } : Rl).low + ({ r with all := (r).all ++ [p] } : Rl).all.length : Nat) = (r).next + 1 := by show (r).low + ((r).all ++ [p]).length = (r).low + (r).all.length + 1; rw [List.length_append]; simp; omega
        have HNE := Lib.hid hnx2
        have hnt := HNt.out
        have hwv : IntKind.i64.wrap ((((r).next + 1 : Nat) : Int) - 1) = (((r).next : Nat) : Int) := by rw [wrap_in (by omega)]; omega
        have hwv2 : IntKind.i64.wrap (((r).next : Int) + 1 - 1) = (((r).next : Nat) : Int) := by rw [wrap_in (by omega)]; omega
        have hwv3 : wrap64 (((r).next : Nat) : Int) = (((r).next : Nat) : Int) := by unfold wrap64; omega
        clear hwE htE hok2 hnx2 c4 r4 fz4 hnt
        go_wp2_with (go_at_call 53; (obtain ⟨v0, a0, us0, hl0⟩ := HWE.out.lk; refine (rnext_any hl0 HKE.out).mono ?_); rw [HNE.out]; rintro e w10 ⟨rfl, hb10⟩; have HB10 := Lib.hid hb10; clear hb10 hl0)
        go_ret2
        try rw [hwv3]
        rw [HWR.out, if_pos HQ0.out]
        exact ⟨rfl, _, _, HWE.out.below HB10.out, (HGE.out.trans ((went_below HB7d.out).trans (went_log HTE.out))).trans (went_below HB10.out)⟩
      · go_simp
        (go_wp2_with (first | (go_at_call 26; (refine (copyBytes_any HP8.out hpl).mono ?_); rintro e w9 ⟨co, cc, rfl, ho9, hb9⟩; have HO9 := Lib.hid ho9; have HB9 := Lib.hid hb9; have p4 := (hb9.cell (p := ⟨b, 4, none⟩) HBS8.out).trans c4; clear ho9 hb9)))
        refine hK.out _ _ trivial (fun _ => ?_)
        clear hK K
        try go_simp
        refine wpAnyH_ready (rs := [4, 7]) (by kernel_rfl) (by simp) ?_
        refine AllReadyH.cons rfl (fun K hK => ?_) (AllReadyH.cons rfl (fun K hK => ?_) AllReadyH.nil)
        · go_simp
          refine hK.out _ _ trivial (fun _ => ?_)
          clear hK K
          try go_simp
          refine wpAnyH_ready (rs := [7]) (by kernel_rfl) (by simp) ?_
          refine AllReadyH.cons rfl (fun K hK => ?_) AllReadyH.nil
          go_simp
          refine hK.out _ _ trivial (fun _ => ?_)
          clear hK K
          try go_simp
          have HBE := Lib.hid (below_alloc HB9.out (.cells #[.slice co p.length cc] 36) HB9.out.size)
          have q4 : (w9.alloc (.cells #[.slice co p.length cc] 36)).cell? ⟨b, 4, none⟩ = some va8 := (HL8.out.below HBE.out).c4
          refine wpAnyH_ready (rs := [8]) (by kernel_rfl) (by simp) ?_
          refine AllReadyH.cons rfl (fun K hK => ?_) AllReadyH.nil
          have hall8 := (HL8.out.below HBE.out).all
          refine oper_append_off under57 info36 rfl (by decide) (wanted_none rfl _) (.tmp 90) (.tmp 93) rfl rfl hall8 rfl (heap_alloc_new w9 _) rfl (Nat.le_trans HAL.out (by decide)) ?_
          intro v8 w8 ho8 hg8 hl9
          obtain ⟨o8, k8, rfl, _, _, _, _⟩ := ho8.slice
          have hbx : w8.heap[b]? = some (.cells #[ptr c, nmv (r).dir, .int .i64 (r).seg, vn8, va8, .int .i64 ((r).top : Int)] 118 (0, 0)) := HL8.out.box8 HBE.out (.inr rfl) hg8
          have HOO := Lib.hid ho8
          have HGG := Lib.hid hg8
          have HLL := Lib.hid hl9
          have r4 : w8.cell? ⟨b, 4, none⟩ = some va8 := by simp [World.cell?, hbx]
          have fz4 : w8.frozen? ⟨b, 4, none⟩ = false := frozen_zero hbx
          clear ho8 hg8 hl9 hall8 hbx q4
          try go_simp
          refine hK.out _ _ trivial (fun _ => ?_)
          clear hK K
          try go_simp
          refine wpAnyH_take (i := 9) (v := ?vh1tb_9) rfl (by kernel_rfl) (by kernel_rfl) (by kernel_rfl) (fun _ _ _ h => h) (Or.inl ⟨by rfl, ?yh1tb_9⟩) trivial ?rh1tb_9
          case yh1tb_9 => (intro W hSw; (try dsimp only at hSw); obtain _ := hSw; first | (go_simp; done) | (go_simp; with_reducible rfl))
          try go_simp
          refine wpAnyH_take (i := 10) (v := ?vh1tb_10) rfl (by kernel_rfl) (by kernel_rfl) (by kernel_rfl) (fun _ _ _ h => h) (Or.inl ⟨by rfl, ?yh1tb_10⟩) trivial ?rh1tb_10
          case yh1tb_10 => (intro W hSw; (try dsimp only at hSw); obtain _ := hSw; first | (go_simp; done) | (go_simp; with_reducible rfl))
          try go_simp
          refine wpAnyH_ready (rs := [11]) (by kernel_rfl) (by simp) ?_
          refine AllReadyH.cons rfl (fun K hK => ?_) AllReadyH.nil
          go_simp
          refine hK.out _ _ trivial (fun _ => ?_)
          clear hK K
          try go_simp
          refine wpAnyH_done (by kernel_rfl) ?_ _
          obtain ⟨hwE, htE⟩ := rapp_end HW8.out HBW8.out HL8.out HB9.out HO9.out HOO.out HGG.out HLL.out
          have HWE := Lib.hid hwE
          have HTE := Lib.hid htE
          have hok2 : ROk { r with all := (r).all ++ [p] } := ⟨HKt.out.dir, HKt.out.ne, HKt.out.few, HKt.out.num, by show ((r).all ++ [p]).length ≤ _; have := HAL.out; rw [List.length_append]; simp; omega, HKt.out.top⟩
          have HKE := Lib.hid hok2
          have hnx2 : (({ r with all := (r).all ++ [p] } : Rl).low + ({ r with all := (r).all ++ [p] } : Rl).all.length : Nat) = (r).next + 1 := by show (r).low + ((r).all ++ [p]).length = (r).low + (r).all.length + 1; rw [List.length_append]; simp; omega
          have HNE := Lib.hid hnx2
          have hnt := HNt.out
          have hwv : IntKind.i64.wrap ((((r).next + 1 : Nat) : Int) - 1) = (((r).next : Nat) : Int) := by rw [wrap_in (by omega)]; omega
          have hwv2 : IntKind.i64.wrap (((r).next : Int) + 1 - 1) = (((r).next : Nat) : Int) := by rw [wrap_in (by omega)]; omega
          have hwv3 : wrap64 (((r).next : Nat) : Int) = (((r).next : Nat) : Int) := by unfold wrap64; omega
          clear hwE htE hok2 hnx2 c4 r4 fz4 hnt
          go_wp2_with (go_at_call 53; (obtain ⟨v0, a0, us0, hl0⟩ := HWE.out.lk; refine (rnext_any hl0 HKE.out).mono ?_); rw [HNE.out]; rintro e w10 ⟨rfl, hb10⟩; have HB10 := Lib.hid hb10; clear hb10 hl0)
          go_ret2
          try rw [hwv3]
          rw [HWR.out, if_pos HQ0.out]
          exact ⟨rfl, _, _, HWE.out.below HB10.out, (HGE.out.trans ((went_below HB7d.out).trans (went_log HTE.out))).trans (went_below HB10.out)⟩
        · go_simp
          refine hK.out _ _ trivial (fun _ => ?_)
          clear hK K
          try go_simp
          have HBE := Lib.hid (below_alloc HB9.out (.cells #[.slice co p.length cc] 36) HB9.out.size)
          have q4 : (w9.alloc (.cells #[.slice co p.length cc] 36)).cell? ⟨b, 4, none⟩ = some va8 := (HL8.out.below HBE.out).c4
          refine wpAnyH_ready (rs := [4]) (by kernel_rfl) (by simp) ?_
          refine AllReadyH.cons rfl (fun K hK => ?_) AllReadyH.nil
          go_simp
          refine hK.out _ _ trivial (fun _ => ?_)
          clear hK K
          try go_simp
          refine wpAnyH_ready (rs := [8]) (by kernel_rfl) (by simp) ?_
          refine AllReadyH.cons rfl (fun K hK => ?_) AllReadyH.nil
          have hall8 := (HL8.out.below HBE.out).all
          refine oper_append_off under57 info36 rfl (by decide) (wanted_none rfl _) (.tmp 90) (.tmp 93) rfl rfl hall8 rfl (heap_alloc_new w9 _) rfl (Nat.le_trans HAL.out (by decide)) ?_
          intro v8 w8 ho8 hg8 hl9
          obtain ⟨o8, k8, rfl, _, _, _, _⟩ := ho8.slice
          have hbx : w8.heap[b]? = some (.cells #[ptr c, nmv (r).dir, .int .i64 (r).seg, vn8, va8, .int .i64 ((r).top : Int)] 118 (0, 0)) := HL8.out.box8 HBE.out (.inr rfl) hg8
          have HOO := Lib.hid ho8
          have HGG := Lib.hid hg8
          have HLL := Lib.hid hl9
          have r4 : w8.cell? ⟨b, 4, none⟩ = some va8 := by simp [World.cell?, hbx]
          have fz4 : w8.frozen? ⟨b, 4, none⟩ = false := frozen_zero hbx
          clear ho8 hg8 hl9 hall8 hbx q4
          try go_simp
          refine hK.out _ _ trivial (fun _ => ?_)
          clear hK K
          try go_simp
          refine wpAnyH_take (i := 9) (v := ?vh1tc_9) rfl (by kernel_rfl) (by kernel_rfl) (by kernel_rfl) (fun _ _ _ h => h) (Or.inl ⟨by rfl, ?yh1tc_9⟩) trivial ?rh1tc_9
          case yh1tc_9 => (intro W hSw; (try dsimp only at hSw); obtain _ := hSw; first | (go_simp; done) | (go_simp; with_reducible rfl))
          try go_simp
          refine wpAnyH_take (i := 10) (v := ?vh1tc_10) rfl (by kernel_rfl) (by kernel_rfl) (by kernel_rfl) (fun _ _ _ h => h) (Or.inl ⟨by rfl, ?yh1tc_10⟩) trivial ?rh1tc_10
          case yh1tc_10 => (intro W hSw; (try dsimp only at hSw); obtain _ := hSw; first | (go_simp; done) | (go_simp; with_reducible rfl))
          try go_simp
          refine wpAnyH_ready (rs := [11]) (by kernel_rfl) (by simp) ?_
          refine AllReadyH.cons rfl (fun K hK => ?_) AllReadyH.nil
          go_simp
          refine hK.out _ _ trivial (fun _ => ?_)
          clear hK K
          try go_simp
          refine wpAnyH_done (by kernel_rfl) ?_ _
          obtain ⟨hwE, htE⟩ := rapp_end HW8.out HBW8.out HL8.out HB9.out HO9.out HOO.out HGG.out HLL.out
          have HWE := Lib.hid hwE
          have HTE := Lib.hid htE
          have hok2 : ROk { r with all := (r).all ++ [p] } := ⟨HKt.out.dir, HKt.out.ne, HKt.out.few, HKt.out.num, by show ((r).all ++ [p]).length ≤ _; have := HAL.out; rw [List.length_append]; simp; omega, HKt.out.top⟩
          have HKE := Lib.hid hok2
          have hnx2 : (({ r with all := (r).all ++ [p] } : Rl).low + ({ r with all := (r).all ++ [p] } : Rl).all.length : Nat) = (r).next + 1 := by show (r).low + ((r).all ++ [p]).length = (r).low + (r).all.length + 1; rw [List.length_append]; simp; omega
          have HNE := Lib.hid hnx2
          have hnt := HNt.out
          have hwv : IntKind.i64.wrap ((((r).next + 1 : Nat) : Int) - 1) = (((r).next : Nat) : Int) := by rw [wrap_in (by omega)]; omega
          have hwv2 : IntKind.i64.wrap (((r).next : Int) + 1 - 1) = (((r).next : Nat) : Int) := by rw [wrap_in (by omega)]; omega
          have hwv3 : wrap64 (((r).next : Nat) : Int) = (((r).next : Nat) : Int) := by unfold wrap64; omega
          clear hwE htE hok2 hnx2 c4 r4 fz4 hnt
          go_wp2_with (go_at_call 53; (obtain ⟨v0, a0, us0, hl0⟩ := HWE.out.lk; refine (rnext_any hl0 HKE.out).mono ?_); rw [HNE.out]; rintro e w10 ⟨rfl, hb10⟩; have HB10 := Lib.hid hb10; clear hb10 hl0)
          go_ret2
          try rw [hwv3]
          rw [HWR.out, if_pos HQ0.out]
          exact ⟨rfl, _, _, HWE.out.below HB10.out, (HGE.out.trans ((went_below HB7d.out).trans (went_log HTE.out))).trans (went_below HB10.out)⟩
    · have hb1 : (((q.2 : Nat) : Int) != 0) = true := by simpa using hq0
      have HQ0 := Lib.hid hq0
      clear hq0
      go_wp2
      go_ret2
      rw [HWR.out, if_neg HQ0.out]
      exact ⟨rfl, _, _, HW7.out, HGE.out⟩
  · go_enter Tryz.func46, Tryz.ntmps46
    go_upto_region 6 with (first
      | (go_at_call 88; (refine HAF.out.mono ?_); rintro e w1 ⟨fo, fc, rfl, ho1, hb1⟩; have HO1 := Lib.hid ho1; have HB1 := Lib.hid hb1; clear ho1 hb1)
      | (go_at_call 53; (obtain ⟨v0, a0, us0, hl0⟩ := (HW.out.below HB1.out).lk; refine (rnext_any hl0 HK.out).mono ?_); rintro e w2 ⟨rfl, hb2⟩; have HB2 := Lib.hid hb2; clear hb2 hl0))
    have HB3 : Hid (Below w.heap.size w w2.drew) := (HB1.out.trans (HB2.out.mono HB1.out.size)).trans ((Below.refl _ w2).drew.mono (Nat.le_trans HB1.out.size HB2.out.size))
    have HW3 := Lib.hid (HW.out.below HB3.out)
    have HBW3 : Hid (B ≤ w2.drew.heap.size) := Nat.le_trans HBW.out HB3.out.size
    obtain ⟨vn3, va3, ua3, hl3⟩ := HW3.out.lk
    obtain ⟨vd3, ud3, hra3⟩ := HW3.out.dk
    have HL3 := Lib.hid hl3
    have HD3 := Lib.hid hra3
    have HBS3 : Hid (b < w2.drew.heap.size) := hl3.lt b hl3.cb
    have c0 : w2.drew.cell? ⟨b, 0, none⟩ = some (ptr c) := hl3.c0
    clear hl3 hra3
    go_region_held (fun w' => w'.cell? ⟨b, 0, none⟩ = some (ptr c)) (exact c0) (first
      | (go_at_call 80; (refine (rlast_any HL3.out HK.out).mono ?_); rintro e w4 ⟨rfl, hq⟩; have HB4 := Lib.hid hq; have c0 := (hq.cell (p := ⟨b, 0, none⟩) HBS3.out).trans c0; clear hq)
      | (go_at_call 81; (refine (rread_any (HD3.out.below HB4.out) (segN r.dir r.end_)).mono ?_); rintro e w5 ⟨ro, rc, rfl, hs5, rfl⟩; rw [← HFR.out]; clear hs5))
    have HB24 : Hid (Below w2.heap.size w2 w4) := (Below.refl _ w2).drew.trans (HB4.out.mono (Nat.le_refl _))
    have HB5 : Hid (Below w.heap.size w w4) := HB3.out.trans (HB4.out.mono HB3.out.size)
    have HW5 := Lib.hid (HW.out.below HB5.out)
    obtain ⟨vn5, va5, ua5, hl5⟩ := HW5.out.lk
    have c2 := hl5.c2
    clear hl5 c0
    have hge : decide (r.seg ≤ ((fl.1.length : Nat) : Int)) = true := decide_eq_true (by omega)
    have HSM := Lib.hid hsm
    clear hsm
    obtain ⟨hk1, hnx1, hdir1, hnums1, hall1, hdn1⟩ := rsync_ok HK.out (Nat.le_trans HNX.out.2.2 (by decide)) d
    obtain ⟨y, hy⟩ : ∃ y, r.sync d = y := ⟨_, rfl⟩
    have HY := Lib.hid hy
    rw [hy] at hk1 hnx1 hdir1 hnums1 hall1 hdn1
    have HMO2 : Hid (r.more d = if y.2.2 = 0 then (if (y.2.1.create (segN r.dir r.next)).2 = 0 then ({ y.1 with nums := r.nums ++ [r.next] }, (y.2.1.create (segN r.dir r.next)).1, 0) else (y.1, (y.2.1.create (segN r.dir r.next)).1, (y.2.1.create (segN r.dir r.next)).2)) else y) := by show _ = _; rw [HMO.out, if_neg (by have := HSM.out; omega), hy]
    have HK1 := Lib.hid hk1
    have HNX1 := Lib.hid hnx1
    have HDI1 := Lib.hid hdir1
    have HNU1 := Lib.hid hnums1
    have HAL1 := Lib.hid hall1
    have HDN1 := Lib.hid hdn1
    clear hy hk1 hnx1 hdir1 hnums1 hall1 hdn1
    have HBW5 : Hid (B ≤ w4.heap.size) := Nat.le_trans HBW.out HB5.out.size
    go_upto_region 9 with (go_at_call 47; (refine (rlsync_any HW5.out HBW5.out HK.out (Nat.lt_of_le_of_lt HDN.out (by decide))).mono ?_); rw [HY.out]; rintro e w11 ⟨rfl, C5, S5, hw11, hg11⟩; have HW11 := Lib.hid hw11; have HG11 := Lib.hid hg11; clear hw11 hg11)
    clear c2
    have HGA : Hid (Went (fun k => C k ∨ S k) w w11 (fun k => C5 k ∨ S5 k)) := (went_below HB5.out).trans HG11.out
    have HBA : Hid (B ≤ w11.heap.size) := Nat.le_trans HBW5.out HG11.out.tn.size
    have H14 : Hid (Below w1.heap.size w1 w4) := HB2.out.trans (HB24.out.mono HB2.out.size)
    have HGA1 : Hid (Went (fun k => C k ∨ S k) w1 w11 (fun k => C5 k ∨ S5 k)) := (went_below H14.out).trans HG11.out
    by_cases hy0 : y.2.2 = 0
    · have hb1 : (((y.2.2 : Nat) : Int) != 0) = false := by rw [hy0]; rfl
      have HY0 := Lib.hid hy0
      clear hy0
      go_upto_region 11 with (fail)
      have HB12 : Hid (Below w11.heap.size w11 w11.drew) := (Below.refl _ w11).drew
      have HW12 := Lib.hid (HW11.out.below HB12.out)
      have HBW12 : Hid (B ≤ w11.drew.heap.size) := Nat.le_trans HBA.out HB12.out.size
      obtain ⟨vn12, va12, ua12, hl12⟩ := HW12.out.lk
      have HL12 := Lib.hid hl12
      have HBS12 : Hid (b < w11.drew.heap.size) := hl12.lt b hl12.cb
      have c1 : w11.drew.cell? ⟨b, 1, none⟩ = some (nmv y.1.dir) := hl12.c1
      have hdl : y.1.dir.length ≤ maxLen := Nat.le_trans HK1.out.dir.2 (by decide)
      have HDL := Lib.hid hdl
      have HNAME : Hid (nameV y.1.dir ((y.1.low + y.1.all.length : Nat) : Int) = (segN r.dir r.next, 0)) := Lib.hid (by
        have e1 : y.1.low + y.1.all.length = r.next := HNX1.out
        rw [e1]
        unfold nameV
        rw [if_neg (by intro e; rcases e with e | e; (have := HK1.out.dir.1; rw [e] at this; simp at this); (have := HK1.out.dir.2; omega)), if_neg (by have := HNX.out; omega), Int.toNat_natCast, HDI1.out])
      have HM1 : Hid (-9223372036854775808 ≤ ((y.1.low + y.1.all.length : Nat) : Int)) := Lib.hid (by omega)
      have HM2 : Hid (((y.1.low + y.1.all.length : Nat) : Int) ≤ 9223372036854775807) := Lib.hid (by have e1 : y.1.low + y.1.all.length = r.next := HNX1.out; have := HNX.out; omega)
      clear hl12 hdl
      go_region_held (fun w' => w'.cell? ⟨b, 1, none⟩ = some (nmv y.1.dir)) (exact c1) (first
        | (go_at_call 53; (refine (rnext_any HL12.out HK1.out).mono ?_); rintro e w13 ⟨rfl, hb13⟩; have HB13 := Lib.hid hb13; have c1 := (hb13.cell (p := ⟨b, 1, none⟩) HBS12.out).trans c1; clear hb13)
        | (go_at_call 22; (refine (rwname_any _ y.1.dir HDL.out _ HM1.out HM2.out).mono ?_); rw [HNAME.out]; rintro e w14 ⟨rfl, hb14⟩; have HB14 := Lib.hid hb14; have c1 := (hb14.cell (p := ⟨b, 1, none⟩) (Nat.lt_of_lt_of_le HBS12.out HB13.out.size)).trans c1; clear hb14))
      have HB15 : Hid (Below w11.heap.size w11 w14) := (HB12.out.trans (HB13.out.mono HB12.out.size)).trans (HB14.out.mono (Nat.le_trans HB12.out.size HB13.out.size))
      have HW15 := Lib.hid (HW11.out.below HB15.out)
      have HBW15 : Hid (B ≤ w14.heap.size) := Nat.le_trans HBA.out HB15.out.size
      obtain ⟨vn15, va15, ua15, hl15⟩ := HW15.out.lk
      obtain ⟨vd15, ud15, hra15⟩ := HW15.out.dk
      have HD15 := Lib.hid hra15
      have HDN15 : Hid (y.2.1.done < 9223372036854775807) := Nat.lt_of_le_of_lt (Nat.le_trans HDN1.out (Nat.add_le_add_right HDN.out 1)) (by decide)
      have HNL : Hid ((segN r.dir r.next).length ≤ maxLen) := Lib.hid (by
        have h8 := HNX.out.2.2
        rw [seg_pre, num8_digs h8, List.length_append, digs_length, List.length_append]
        have := HK.out.dir.2
        unfold maxLen
        simp
        omega)
      have c0 := hl15.c0
      obtain ⟨y2, hq⟩ : ∃ y2, y.2.1.create (segN r.dir r.next) = y2 := ⟨_, rfl⟩
      have HQC := Lib.hid hq
      have HMO3 : Hid (r.more d = if y2.2 = 0 then ({ y.1 with nums := r.nums ++ [r.next] }, y2.1, 0) else (y.1, y2.1, y2.2)) := by show _ = _; rw [HMO2.out, if_pos HY0.out, hq]
      have HQD : Hid (y2.1.done ≤ 1000000002) := Lib.hid (by
        have := create_done y.2.1 (segN r.dir r.next)
        rw [hq] at this
        have := HDN1.out
        have := HDN.out
        omega)
      clear hl15 hra15 hq c1
      go_upto_region 13 with (go_at_call 45; (refine (rcreate_any HD15.out (segN r.dir r.next) HNL.out HDN15.out).mono ?_); rintro e w16 ⟨rfl, hd16, ht16⟩; rw [HQC.out] at hd16 ⊢; have HW16 := Lib.hid (HW15.out.disk HBW15.out hd16 ht16); have HT16 := Lib.hid ht16; clear hd16 ht16)
      clear c0
      have HGB : Hid (Went (fun k => C k ∨ S k) w w16 (fun k => C5 k ∨ Gw S5 w14 w16 k)) := (HGA.out.trans (went_below HB15.out)).trans (went_disk HT16.out)
      have HGB1 : Hid (Went (fun k => C k ∨ S k) w1 w16 (fun k => C5 k ∨ Gw S5 w14 w16 k)) := (HGA1.out.trans (went_below HB15.out)).trans (went_disk HT16.out)
      have HBW16 : Hid (B ≤ w16.heap.size) := Nat.le_trans HBW15.out HT16.out.size
      by_cases hq0 : y2.2 = 0
      · have hb2 : (((y2.2 : Nat) : Int) != 0) = false := by rw [hq0]; rfl
        have HMt : Hid (r.more d = ({ y.1 with nums := y.1.nums ++ [r.next] }, y2.1, 0)) := by show _ = _; rw [HMO3.out, if_pos hq0, HNU1.out]
        clear hq0
        go_upto_region 15 with (fail)
        have HB17 : Hid (Below w16.heap.size w16 w16.drew) := (Below.refl _ w16).drew
        have HW17 := Lib.hid (HW16.out.below HB17.out)
        have HBW17 : Hid (B ≤ w16.drew.heap.size) := Nat.le_trans HBW16.out HB17.out.size
        obtain ⟨vn17, va17, ua17, hl17⟩ := HW17.out.lk
        have HL17 := Lib.hid hl17
        have HBS17 : Hid (b < w16.drew.heap.size) := hl17.lt b hl17.cb
        have c3 : w16.drew.cell? ⟨b, 3, none⟩ = some vn17 := hl17.c3
        have HNY : Hid ((y.1.low + y.1.all.length : Nat) = r.next) := HNX1.out
        have HNUL : Hid (y.1.nums.length ≤ 100000000) := Lib.hid (by rw [HNU1.out]; have := HFEW.out; omega)
        have hok3 := rpush_ok HK1.out (by rw [HNU1.out]; exact HFEW.out) (n := r.next) HNX.out.2
        have HKt := Lib.hid hok3.1
        have HNt : Hid (Rl.next { y.1 with nums := y.1.nums ++ [r.next] } ≤ 99999999) := Lib.hid (by rw [hok3.2]; have e1 : y.1.next = r.next := HNX1.out; rw [e1]; exact HNX.out.2.2)
        have HALt : Hid (y.1.all.length ≤ 99999999) := Lib.hid (by rw [HAL1.out]; exact HALL.out)
        clear hl17 hok3
        refine wp_region_held (S := (fun _ => True)) (by kernel_rfl) ?_
        change wpAnyH _ _ _ _ _ _ _ _ (World.drew _)
        refine wpAnyH_take (i := 0) (v := ?vm_0) rfl (by kernel_rfl) (by kernel_rfl) (by kernel_rfl) (fun _ _ _ h => h) (Or.inl ⟨by rfl, ?ym_0⟩) trivial ?rm_0
        case ym_0 => (intro W hSw; (try dsimp only at hSw); obtain _ := hSw; first | (go_simp; done) | (go_simp; with_reducible rfl))
        try go_simp
        refine wpAnyH_take (i := 1) (v := ?vm_1) rfl (by kernel_rfl) (by kernel_rfl) (by kernel_rfl) (fun _ _ _ h => h) (Or.inl ⟨by rfl, ?ym_1⟩) trivial ?rm_1
        case ym_1 => (intro W hSw; (try dsimp only at hSw); obtain _ := hSw; first | (go_simp; done) | (go_simp; with_reducible rfl))
        try go_simp
        refine wpAnyH_take (i := 2) (v := ?vm_2) rfl (by kernel_rfl) (by kernel_rfl) (by kernel_rfl) (fun _ _ _ h => h) (Or.inl ⟨by rfl, ?ym_2⟩) trivial ?rm_2
        case ym_2 => (intro W hSw; (try dsimp only at hSw); obtain _ := hSw; first | (go_simp; done) | (go_simp; with_reducible rfl))
        try go_simp
        refine wpAnyH_take (i := 3) (v := ?vm_3) rfl (by kernel_rfl) (by kernel_rfl) (by kernel_rfl) (fun _ _ _ h => h) (Or.inl ⟨by rfl, ?ym_3⟩) trivial ?rm_3
        case ym_3 => (intro W hSw; (try dsimp only at hSw); obtain _ := hSw; first | (go_simp; done) | (go_simp; with_reducible rfl))
        try go_simp
        refine wpAnyH_take (i := 5) (v := ?vm_5) rfl (by kernel_rfl) (by kernel_rfl) (by kernel_rfl) (fun _ _ _ h => h) (Or.inl ⟨by rfl, ?ym_5⟩) trivial ?rm_5
        case ym_5 => (intro W hSw; (try dsimp only at hSw); obtain _ := hSw; first | (go_simp; done) | (go_simp; with_reducible rfl))
        try go_simp
        refine wpAnyH_ready (rs := [4, 6]) (by kernel_rfl) (by simp) ?_
        refine AllReadyH.cons rfl (fun K hK => ?_) (AllReadyH.cons rfl (fun K hK => ?_) AllReadyH.nil)
        · go_simp
          refine hK.out _ _ trivial (fun _ => ?_)
          clear hK K
          try go_simp
          refine wpAnyH_ready (rs := [6]) (by kernel_rfl) (by simp) ?_
          refine AllReadyH.cons rfl (fun K hK => ?_) AllReadyH.nil
          go_simp
          (go_wp2_with (first | (go_at_call 53; (refine (rnext_any HL17.out HK1.out).mono ?_); rw [HNY.out]; rintro e w18 ⟨rfl, hb18⟩; have HB18 := Lib.hid hb18; have p3 := (hb18.cell (p := ⟨b, 3, none⟩) HBS17.out).trans c3; clear hb18)))
          refine hK.out _ _ trivial (fun _ => ?_)
          clear hK K
          try go_simp
          refine wpAnyH_ready (rs := [7]) (by kernel_rfl) (by simp) ?_
          refine AllReadyH.cons rfl (fun K hK => ?_) AllReadyH.nil
          go_simp
          refine hK.out _ _ trivial (fun _ => ?_)
          clear hK K
          try go_simp
          have HBE3 := Lib.hid (below_alloc HB18.out (.cells #[.int .i64 (r.next : Int)] 3) HB18.out.size)
          have q3 : (w18.alloc (.cells #[.int .i64 (r.next : Int)] 3)).cell? ⟨b, 3, none⟩ = some vn17 := (HL17.out.below HBE3.out).c3
          refine wpAnyH_ready (rs := [8]) (by kernel_rfl) (by simp) ?_
          refine AllReadyH.cons rfl (fun K hK => ?_) AllReadyH.nil
          have hnum17 := (HL17.out.below HBE3.out).nums
          refine oper_append_off under37n info3n rfl (by decide) (wanted_none rfl _) (.tmp 68) (.tmp 71) rfl rfl hnum17 rfl (heap_alloc_new w18 _) rfl HNUL.out ?_
          intro v19 w19 ho19 hg19 hl19
          obtain ⟨o19, k19, rfl, _, _, _, _⟩ := ho19.slice
          have hbx : w19.heap[b]? = some (.cells #[ptr c, nmv y.1.dir, .int .i64 y.1.seg, vn17, va17, .int .i64 (y.1.top : Int)] 118 (0, 0)) := HL17.out.box8 HBE3.out (.inl rfl) hg19
          have HOO3 := Lib.hid ho19
          have HGG3 := Lib.hid hg19
          have HLL3 := Lib.hid hl19
          have r3 : w19.cell? ⟨b, 3, none⟩ = some vn17 := by simp [World.cell?, hbx]
          have fz3 : w19.frozen? ⟨b, 3, none⟩ = false := frozen_zero hbx
          clear ho19 hg19 hl19 hnum17 hbx q3
          try go_simp
          refine hK.out _ _ trivial (fun _ => ?_)
          clear hK K
          try go_simp
          refine wpAnyH_take (i := 9) (v := ?vma_9) rfl (by kernel_rfl) (by kernel_rfl) (by kernel_rfl) (fun _ _ _ h => h) (Or.inl ⟨by rfl, ?yma_9⟩) trivial ?rma_9
          case yma_9 => (intro W hSw; (try dsimp only at hSw); obtain _ := hSw; first | (go_simp; done) | (go_simp; with_reducible rfl))
          try go_simp
          refine wpAnyH_take (i := 10) (v := ?vma_10) rfl (by kernel_rfl) (by kernel_rfl) (by kernel_rfl) (fun _ _ _ h => h) (Or.inl ⟨by rfl, ?yma_10⟩) trivial ?rma_10
          case yma_10 => (intro W hSw; (try dsimp only at hSw); obtain _ := hSw; first | (go_simp; done) | (go_simp; with_reducible rfl))
          try go_simp
          refine wpAnyH_ready (rs := [11]) (by kernel_rfl) (by simp) ?_
          refine AllReadyH.cons rfl (fun K hK => ?_) AllReadyH.nil
          go_simp
          refine hK.out _ _ trivial (fun _ => ?_)
          clear hK K
          try go_simp
          refine wpAnyH_done (by kernel_rfl) ?_ _
          obtain ⟨hwE, htE⟩ := rnum_end HW17.out HBW17.out HL17.out HB18.out HOO3.out HGG3.out HLL3.out
          have HTE3 := Lib.hid htE
          have HWt := Lib.hid hwE
          obtain ⟨wt, hwt⟩ : ∃ wt, wt = w19.setCell ⟨b, 3, none⟩ (.slice o19 (y.1.nums.length + 1) k19) := ⟨_, rfl⟩
          rw [← hwt] at HWt HTE3 ⊢
          have HGt : Hid (Went (fun k => C k ∨ S k) w wt (fun k => Gw C5 w16.drew wt k ∨ Gw S5 w14 w16 k)) := (HGB.out.trans (went_below HB17.out)).trans (went_log HTE3.out)
          have HBt : Hid (B ≤ wt.heap.size) := Nat.le_trans HBW17.out HTE3.out.size
          have HDt := HQD
          have hG1 : Went (fun k => C k ∨ S k) w1 wt (fun k => Gw C5 w16.drew wt k ∨ Gw S5 w14 w16 k) := (HGB1.out.trans (went_below HB17.out)).trans (went_log HTE3.out)
          have HFt : Hid (SB (fun k => w.heap.size ≤ k ∧ k < w1.heap.size) wt fo (Fr.frameV p).length fc (Fr.frameV p)) := ((own_sb HO1.out).mono fun k _ hk => HO1.out.lt k hk).tn hG1.tn (fun k hk e => by rcases e with e | e; (have := HW.out.clt k e; omega); (have := HW.out.dk.lt k e; omega))
          have HPt : Hid (SB E wt po p.length pc p) := HP.out.tn HGt.out.tn (fun k hk e => e.elim (HE.out k hk).2.1 (HE.out k hk).2.2)
          have HEt : Hid (∀ k, E k → ¬ Gw C5 w16.drew wt k ∧ ¬ Gw S5 w14 w16 k) := fun k hk => by have h1 := HGt.out.sub k; have h2 := HE.out k hk; refine ⟨fun e => ?_, fun e => ?_⟩; (rcases h1 (.inl e) with h3 | h3; exact h3.elim h2.2.1 h2.2.2; omega); (rcases h1 (.inr e) with h3 | h3; exact h3.elim h2.2.1 h2.2.2; omega)
          obtain ⟨rt, hrt⟩ : ∃ rt : Rl, rt = { y.1 with nums := y.1.nums ++ [r.next] } := ⟨_, rfl⟩
          have HWt : Hid (WR B wt b (Gw C5 w16.drew wt) rt c (Gw S5 w14 w16) y2.1) := Lib.hid (by rw [hrt]; exact HWt.out)
          have HKt : Hid (ROk rt) := Lib.hid (by rw [hrt]; exact HKt.out)
          have HNt : Hid (rt.next ≤ 99999999) := Lib.hid (by rw [hrt]; exact HNt.out)
          have HMt : Hid (r.more d = (rt, y2.1, 0)) := Lib.hid (by rw [hrt]; exact HMt.out)
          have HALt : Hid (rt.all.length ≤ 99999999) := Lib.hid (by rw [hrt]; exact HALt.out)
          clear hwE htE hwt c3 r3 fz3 hG1 hrt
          go_upto_region 16 with (fail)
          have HB6d : Hid (Below wt.heap.size wt (wt).drew) := (Below.refl _ wt).drew
          have HW6 := Lib.hid (HWt.out.below HB6d.out)
          have HBW6 : Hid (B ≤ (wt).drew.heap.size) := Nat.le_trans HBt.out HB6d.out.size
          obtain ⟨vn6, va6, ua6, hl6⟩ := HW6.out.lk
          obtain ⟨vd6, ud6, hra6⟩ := HW6.out.dk
          have HL6 := Lib.hid hl6
          have HD6 := Lib.hid hra6
          have HBS6 : Hid (b < (wt).drew.heap.size) := hl6.lt b hl6.cb
          have HCB6 := Lib.hid hl6.cb
          have c0 : (wt).drew.cell? ⟨b, 0, none⟩ = some (ptr c) := hl6.c0
          have HDN6 : Hid ((y2.1).done < 9223372036854775807) := Nat.lt_of_le_of_lt HDt.out (by decide)
          have HF6 := Lib.hid (HFt.out.below HB6d.out)
          have HP6 := Lib.hid (HPt.out.below HB6d.out)
          clear hl6 hra6
          obtain ⟨q, hq⟩ : ∃ q, (y2.1).append (segN (rt).dir (rt).end_) (Fr.frameV p) = q := ⟨_, rfl⟩
          have HQ := Lib.hid hq
          have HWR : Hid (r.append d p = if q.2 = 0 then ({ rt with all := (rt).all ++ [p] }, q.1, (rt).next, 0) else (rt, q.1, 0, q.2)) := by
            show _ = _
            rw [HAP.out, HMt.out, if_pos rfl, ← hq]
            rfl
          clear hq
          go_region_held (fun w' => w'.cell? ⟨b, 0, none⟩ = some (ptr c)) (exact c0) (first
            | (go_at_call 80; (refine (rlast_any HL6.out HKt.out).mono ?_); rintro e w6 ⟨rfl, hq⟩; have HB6 := Lib.hid hq; have c0 := (hq.cell (p := ⟨b, 0, none⟩) HBS6.out).trans c0; clear hq)
            | (go_at_call 89; (refine (rappend_any (HD6.out.below HB6.out) (segN (rt).dir (rt).end_) HDN6.out (HF6.out.below HB6.out)).mono ?_); rintro e w7 ⟨rfl, hd7, ht7⟩; rw [HQ.out] at hd7 ⊢; have HW7 := Lib.hid ((HW6.out.below HB6.out).disk (Nat.le_trans HBW6.out HB6.out.size) hd7 ht7); have c0 := ht7.cell c0 (HW6.out.cs _ HCB6.out); have HT7 := Lib.hid ht7; clear hd7 ht7))
          have HGE : Hid (Went (fun k => C k ∨ S k) w w7 (fun k => (Gw C5 w16.drew wt) k ∨ Gw (Gw S5 w14 w16) w6 w7 k)) := ((HGt.out.trans (went_below HB6d.out)).trans (went_below HB6.out)).trans (went_disk HT7.out)
          have HBW7 : Hid (B ≤ w7.heap.size) := Nat.le_trans HBW6.out (Nat.le_trans HB6.out.size HT7.out.size)
          clear c0
          by_cases hq0 : q.2 = 0
          · have hb1 : (((q.2 : Nat) : Int) != 0) = false := by rw [hq0]; rfl
            have HQ0 := Lib.hid hq0
            clear hq0
            go_upto_region 19 with (fail)
            have HB7d : Hid (Below w7.heap.size w7 w7.drew) := (Below.refl _ w7).drew
            have HW8 := Lib.hid (HW7.out.below HB7d.out)
            have HBW8 : Hid (B ≤ w7.drew.heap.size) := Nat.le_trans HBW7.out HB7d.out.size
            obtain ⟨vn8, va8, ua8, hl8⟩ := HW8.out.lk
            have HL8 := Lib.hid hl8
            have HBS8 : Hid (b < w7.drew.heap.size) := hl8.lt b hl8.cb
            have c4 : w7.drew.cell? ⟨b, 4, none⟩ = some va8 := hl8.c4
            have HP8 : Hid (SB E w7.drew po p.length pc p) := ((HP6.out.below HB6.out).tn HT7.out (fun k hk e => (HEt.out k hk).2 e)).below HB7d.out
            have hpl : p.length ≤ 140737488355328 := by omega
            have HAL := HALt
            clear hl8
            refine wp_region_held (S := (fun _ => True)) (by kernel_rfl) ?_
            change wpAnyH _ _ _ _ _ _ _ _ (World.drew _)
            refine wpAnyH_take (i := 0) (v := ?vh2t_0) rfl (by kernel_rfl) (by kernel_rfl) (by kernel_rfl) (fun _ _ _ h => h) (Or.inl ⟨by rfl, ?yh2t_0⟩) trivial ?rh2t_0
            case yh2t_0 => (intro W hSw; (try dsimp only at hSw); obtain _ := hSw; first | (go_simp; done) | (go_simp; with_reducible rfl))
            try go_simp
            refine wpAnyH_take (i := 1) (v := ?vh2t_1) rfl (by kernel_rfl) (by kernel_rfl) (by kernel_rfl) (fun _ _ _ h => h) (Or.inl ⟨by rfl, ?yh2t_1⟩) trivial ?rh2t_1
            case yh2t_1 => (intro W hSw; (try dsimp only at hSw); obtain _ := hSw; first | (go_simp; done) | (go_simp; with_reducible rfl))
            try go_simp
            refine wpAnyH_take (i := 2) (v := ?vh2t_2) rfl (by kernel_rfl) (by kernel_rfl) (by kernel_rfl) (fun _ _ _ h => h) (Or.inl ⟨by rfl, ?yh2t_2⟩) trivial ?rh2t_2
            case yh2t_2 => (intro W hSw; (try dsimp only at hSw); obtain _ := hSw; first | (go_simp; done) | (go_simp; with_reducible rfl))
            try go_simp
            refine wpAnyH_take (i := 3) (v := ?vh2t_3) rfl (by kernel_rfl) (by kernel_rfl) (by kernel_rfl) (fun _ _ _ h => h) (Or.inl ⟨by rfl, ?yh2t_3⟩) trivial ?rh2t_3
            case yh2t_3 => (intro W hSw; (try dsimp only at hSw); obtain _ := hSw; first | (go_simp; done) | (go_simp; with_reducible rfl))
            try go_simp
            refine wpAnyH_take (i := 5) (v := ?vh2t_5) rfl (by kernel_rfl) (by kernel_rfl) (by kernel_rfl) (fun _ _ _ h => h) (Or.inl ⟨by rfl, ?yh2t_5⟩) trivial ?rh2t_5
            case yh2t_5 => (intro W hSw; (try dsimp only at hSw); obtain _ := hSw; first | (go_simp; done) | (go_simp; with_reducible rfl))
            try go_simp
            refine wpAnyH_ready (rs := [4, 6]) (by kernel_rfl) (by simp) ?_
            refine AllReadyH.cons rfl (fun K hK => ?_) (AllReadyH.cons rfl (fun K hK => ?_) AllReadyH.nil)
            · go_simp
              refine hK.out _ _ trivial (fun _ => ?_)
              clear hK K
              try go_simp
              refine wpAnyH_ready (rs := [6]) (by kernel_rfl) (by simp) ?_
              refine AllReadyH.cons rfl (fun K hK => ?_) AllReadyH.nil
              go_simp
              (go_wp2_with (first | (go_at_call 26; (refine (copyBytes_any HP8.out hpl).mono ?_); rintro e w9 ⟨co, cc, rfl, ho9, hb9⟩; have HO9 := Lib.hid ho9; have HB9 := Lib.hid hb9; have p4 := (hb9.cell (p := ⟨b, 4, none⟩) HBS8.out).trans c4; clear ho9 hb9)))
              refine hK.out _ _ trivial (fun _ => ?_)
              clear hK K
              try go_simp
              refine wpAnyH_ready (rs := [7]) (by kernel_rfl) (by simp) ?_
              refine AllReadyH.cons rfl (fun K hK => ?_) AllReadyH.nil
              go_simp
              refine hK.out _ _ trivial (fun _ => ?_)
              clear hK K
              try go_simp
              have HBE := Lib.hid (below_alloc HB9.out (.cells #[.slice co p.length cc] 36) HB9.out.size)
              have q4 : (w9.alloc (.cells #[.slice co p.length cc] 36)).cell? ⟨b, 4, none⟩ = some va8 := (HL8.out.below HBE.out).c4
              refine wpAnyH_ready (rs := [8]) (by kernel_rfl) (by simp) ?_
              refine AllReadyH.cons rfl (fun K hK => ?_) AllReadyH.nil
              have hall8 := (HL8.out.below HBE.out).all
              refine oper_append_off under57 info36 rfl (by decide) (wanted_none rfl _) (.tmp 90) (.tmp 93) rfl rfl hall8 rfl (heap_alloc_new w9 _) rfl (Nat.le_trans HAL.out (by decide)) ?_
              intro v8 w8 ho8 hg8 hl9
              obtain ⟨o8, k8, rfl, _, _, _, _⟩ := ho8.slice
              have hbx : w8.heap[b]? = some (.cells #[ptr c, nmv (rt).dir, .int .i64 (rt).seg, vn8, va8, .int .i64 ((rt).top : Int)] 118 (0, 0)) := HL8.out.box8 HBE.out (.inr rfl) hg8
              have HOO := Lib.hid ho8
              have HGG := Lib.hid hg8
              have HLL := Lib.hid hl9
              have r4 : w8.cell? ⟨b, 4, none⟩ = some va8 := by simp [World.cell?, hbx]
              have fz4 : w8.frozen? ⟨b, 4, none⟩ = false := frozen_zero hbx
              clear ho8 hg8 hl9 hall8 hbx q4
              try go_simp
              refine hK.out _ _ trivial (fun _ => ?_)
              clear hK K
              try go_simp
              refine wpAnyH_take (i := 9) (v := ?vh2ta_9) rfl (by kernel_rfl) (by kernel_rfl) (by kernel_rfl) (fun _ _ _ h => h) (Or.inl ⟨by rfl, ?yh2ta_9⟩) trivial ?rh2ta_9
              case yh2ta_9 => (intro W hSw; (try dsimp only at hSw); obtain _ := hSw; first | (go_simp; done) | (go_simp; with_reducible rfl))
              try go_simp
              refine wpAnyH_take (i := 10) (v := ?vh2ta_10) rfl (by kernel_rfl) (by kernel_rfl) (by kernel_rfl) (fun _ _ _ h => h) (Or.inl ⟨by rfl, ?yh2ta_10⟩) trivial ?rh2ta_10
              case yh2ta_10 => (intro W hSw; (try dsimp only at hSw); obtain _ := hSw; first | (go_simp; done) | (go_simp; with_reducible rfl))
              try go_simp
              refine wpAnyH_ready (rs := [11]) (by kernel_rfl) (by simp) ?_
              refine AllReadyH.cons rfl (fun K hK => ?_) AllReadyH.nil
              go_simp
              refine hK.out _ _ trivial (fun _ => ?_)
              clear hK K
              try go_simp
              refine wpAnyH_done (by kernel_rfl) ?_ _
              obtain ⟨hwE, htE⟩ := rapp_end HW8.out HBW8.out HL8.out HB9.out HO9.out HOO.out HGG.out HLL.out
              have HWE := Lib.hid hwE
              have HTE := Lib.hid htE
              have hok2 : ROk { rt with all := (rt).all ++ [p] } := ⟨HKt.out.dir, HKt.out.ne, HKt.out.few, HKt.out.num, by show ((rt).all ++ [p]).length ≤ _; have := HAL.out; rw [List.length_append]; simp; omega, HKt.out.top⟩
              have HKE := Lib.hid hok2
              have hnx2 : (({ rt with all := (rt).all ++ [p] } : Rl).low + ({ rt with all := (rt).all ++ [p] } : Rl).all.length : Nat) = (rt).next + 1 := by show (rt).low + ((rt).all ++ [p]).length = (rt).low + (rt).all.length + 1; rw [List.length_append]; simp; omega
              have HNE := Lib.hid hnx2
              have hnt := HNt.out
              have hwv : IntKind.i64.wrap ((((rt).next + 1 : Nat) : Int) - 1) = (((rt).next : Nat) : Int) := by rw [wrap_in (by omega)]; omega
              have hwv2 : IntKind.i64.wrap (((rt).next : Int) + 1 - 1) = (((rt).next : Nat) : Int) := by rw [wrap_in (by omega)]; omega
              have hwv3 : wrap64 (((rt).next : Nat) : Int) = (((rt).next : Nat) : Int) := by unfold wrap64; omega
              clear hwE htE hok2 hnx2 c4 r4 fz4 hnt
              go_wp2_with (go_at_call 53; (obtain ⟨v0, a0, us0, hl0⟩ := HWE.out.lk; refine (rnext_any hl0 HKE.out).mono ?_); rw [HNE.out]; rintro e w10 ⟨rfl, hb10⟩; have HB10 := Lib.hid hb10; clear hb10 hl0)
              go_ret2
              try rw [hwv3]
              rw [HWR.out, if_pos HQ0.out]
              exact ⟨rfl, _, _, HWE.out.below HB10.out, (HGE.out.trans ((went_below HB7d.out).trans (went_log HTE.out))).trans (went_below HB10.out)⟩
            · go_simp
              (go_wp2_with (first | (go_at_call 26; (refine (copyBytes_any HP8.out hpl).mono ?_); rintro e w9 ⟨co, cc, rfl, ho9, hb9⟩; have HO9 := Lib.hid ho9; have HB9 := Lib.hid hb9; have p4 := (hb9.cell (p := ⟨b, 4, none⟩) HBS8.out).trans c4; clear ho9 hb9)))
              refine hK.out _ _ trivial (fun _ => ?_)
              clear hK K
              try go_simp
              refine wpAnyH_ready (rs := [4, 7]) (by kernel_rfl) (by simp) ?_
              refine AllReadyH.cons rfl (fun K hK => ?_) (AllReadyH.cons rfl (fun K hK => ?_) AllReadyH.nil)
              · go_simp
                refine hK.out _ _ trivial (fun _ => ?_)
                clear hK K
                try go_simp
                refine wpAnyH_ready (rs := [7]) (by kernel_rfl) (by simp) ?_
                refine AllReadyH.cons rfl (fun K hK => ?_) AllReadyH.nil
                go_simp
                refine hK.out _ _ trivial (fun _ => ?_)
                clear hK K
                try go_simp
                have HBE := Lib.hid (below_alloc HB9.out (.cells #[.slice co p.length cc] 36) HB9.out.size)
                have q4 : (w9.alloc (.cells #[.slice co p.length cc] 36)).cell? ⟨b, 4, none⟩ = some va8 := (HL8.out.below HBE.out).c4
                refine wpAnyH_ready (rs := [8]) (by kernel_rfl) (by simp) ?_
                refine AllReadyH.cons rfl (fun K hK => ?_) AllReadyH.nil
                have hall8 := (HL8.out.below HBE.out).all
                refine oper_append_off under57 info36 rfl (by decide) (wanted_none rfl _) (.tmp 90) (.tmp 93) rfl rfl hall8 rfl (heap_alloc_new w9 _) rfl (Nat.le_trans HAL.out (by decide)) ?_
                intro v8 w8 ho8 hg8 hl9
                obtain ⟨o8, k8, rfl, _, _, _, _⟩ := ho8.slice
                have hbx : w8.heap[b]? = some (.cells #[ptr c, nmv (rt).dir, .int .i64 (rt).seg, vn8, va8, .int .i64 ((rt).top : Int)] 118 (0, 0)) := HL8.out.box8 HBE.out (.inr rfl) hg8
                have HOO := Lib.hid ho8
                have HGG := Lib.hid hg8
                have HLL := Lib.hid hl9
                have r4 : w8.cell? ⟨b, 4, none⟩ = some va8 := by simp [World.cell?, hbx]
                have fz4 : w8.frozen? ⟨b, 4, none⟩ = false := frozen_zero hbx
                clear ho8 hg8 hl9 hall8 hbx q4
                try go_simp
                refine hK.out _ _ trivial (fun _ => ?_)
                clear hK K
                try go_simp
                refine wpAnyH_take (i := 9) (v := ?vh2tb_9) rfl (by kernel_rfl) (by kernel_rfl) (by kernel_rfl) (fun _ _ _ h => h) (Or.inl ⟨by rfl, ?yh2tb_9⟩) trivial ?rh2tb_9
                case yh2tb_9 => (intro W hSw; (try dsimp only at hSw); obtain _ := hSw; first | (go_simp; done) | (go_simp; with_reducible rfl))
                try go_simp
                refine wpAnyH_take (i := 10) (v := ?vh2tb_10) rfl (by kernel_rfl) (by kernel_rfl) (by kernel_rfl) (fun _ _ _ h => h) (Or.inl ⟨by rfl, ?yh2tb_10⟩) trivial ?rh2tb_10
                case yh2tb_10 => (intro W hSw; (try dsimp only at hSw); obtain _ := hSw; first | (go_simp; done) | (go_simp; with_reducible rfl))
                try go_simp
                refine wpAnyH_ready (rs := [11]) (by kernel_rfl) (by simp) ?_
                refine AllReadyH.cons rfl (fun K hK => ?_) AllReadyH.nil
                go_simp
                refine hK.out _ _ trivial (fun _ => ?_)
                clear hK K
                try go_simp
                refine wpAnyH_done (by kernel_rfl) ?_ _
                obtain ⟨hwE, htE⟩ := rapp_end HW8.out HBW8.out HL8.out HB9.out HO9.out HOO.out HGG.out HLL.out
                have HWE := Lib.hid hwE
                have HTE := Lib.hid htE
                have hok2 : ROk { rt with all := (rt).all ++ [p] } := ⟨HKt.out.dir, HKt.out.ne, HKt.out.few, HKt.out.num, by show ((rt).all ++ [p]).length ≤ _; have := HAL.out; rw [List.length_append]; simp; omega, HKt.out.top⟩
                have HKE := Lib.hid hok2
                have hnx2 : (({ rt with all := (rt).all ++ [p] } : Rl).low + ({ rt with all := (rt).all ++ [p] } : Rl).all.length : Nat) = (rt).next + 1 := by show (rt).low + ((rt).all ++ [p]).length = (rt).low + (rt).all.length + 1; rw [List.length_append]; simp; omega
                have HNE := Lib.hid hnx2
                have hnt := HNt.out
                have hwv : IntKind.i64.wrap ((((rt).next + 1 : Nat) : Int) - 1) = (((rt).next : Nat) : Int) := by rw [wrap_in (by omega)]; omega
                have hwv2 : IntKind.i64.wrap (((rt).next : Int) + 1 - 1) = (((rt).next : Nat) : Int) := by rw [wrap_in (by omega)]; omega
                have hwv3 : wrap64 (((rt).next : Nat) : Int) = (((rt).next : Nat) : Int) := by unfold wrap64; omega
                clear hwE htE hok2 hnx2 c4 r4 fz4 hnt
                go_wp2_with (go_at_call 53; (obtain ⟨v0, a0, us0, hl0⟩ := HWE.out.lk; refine (rnext_any hl0 HKE.out).mono ?_); rw [HNE.out]; rintro e w10 ⟨rfl, hb10⟩; have HB10 := Lib.hid hb10; clear hb10 hl0)
                go_ret2
                try rw [hwv3]
                rw [HWR.out, if_pos HQ0.out]
                exact ⟨rfl, _, _, HWE.out.below HB10.out, (HGE.out.trans ((went_below HB7d.out).trans (went_log HTE.out))).trans (went_below HB10.out)⟩
              · go_simp
                refine hK.out _ _ trivial (fun _ => ?_)
                clear hK K
                try go_simp
                have HBE := Lib.hid (below_alloc HB9.out (.cells #[.slice co p.length cc] 36) HB9.out.size)
                have q4 : (w9.alloc (.cells #[.slice co p.length cc] 36)).cell? ⟨b, 4, none⟩ = some va8 := (HL8.out.below HBE.out).c4
                refine wpAnyH_ready (rs := [4]) (by kernel_rfl) (by simp) ?_
                refine AllReadyH.cons rfl (fun K hK => ?_) AllReadyH.nil
                go_simp
                refine hK.out _ _ trivial (fun _ => ?_)
                clear hK K
                try go_simp
                refine wpAnyH_ready (rs := [8]) (by kernel_rfl) (by simp) ?_
                refine AllReadyH.cons rfl (fun K hK => ?_) AllReadyH.nil
                have hall8 := (HL8.out.below HBE.out).all
                refine oper_append_off under57 info36 rfl (by decide) (wanted_none rfl _) (.tmp 90) (.tmp 93) rfl rfl hall8 rfl (heap_alloc_new w9 _) rfl (Nat.le_trans HAL.out (by decide)) ?_
                intro v8 w8 ho8 hg8 hl9
                obtain ⟨o8, k8, rfl, _, _, _, _⟩ := ho8.slice
                have hbx : w8.heap[b]? = some (.cells #[ptr c, nmv (rt).dir, .int .i64 (rt).seg, vn8, va8, .int .i64 ((rt).top : Int)] 118 (0, 0)) := HL8.out.box8 HBE.out (.inr rfl) hg8
                have HOO := Lib.hid ho8
                have HGG := Lib.hid hg8
                have HLL := Lib.hid hl9
                have r4 : w8.cell? ⟨b, 4, none⟩ = some va8 := by simp [World.cell?, hbx]
                have fz4 : w8.frozen? ⟨b, 4, none⟩ = false := frozen_zero hbx
                clear ho8 hg8 hl9 hall8 hbx q4
                try go_simp
                refine hK.out _ _ trivial (fun _ => ?_)
                clear hK K
                try go_simp
                refine wpAnyH_take (i := 9) (v := ?vh2tc_9) rfl (by kernel_rfl) (by kernel_rfl) (by kernel_rfl) (fun _ _ _ h => h) (Or.inl ⟨by rfl, ?yh2tc_9⟩) trivial ?rh2tc_9
                case yh2tc_9 => (intro W hSw; (try dsimp only at hSw); obtain _ := hSw; first | (go_simp; done) | (go_simp; with_reducible rfl))
                try go_simp
                refine wpAnyH_take (i := 10) (v := ?vh2tc_10) rfl (by kernel_rfl) (by kernel_rfl) (by kernel_rfl) (fun _ _ _ h => h) (Or.inl ⟨by rfl, ?yh2tc_10⟩) trivial ?rh2tc_10
                case yh2tc_10 => (intro W hSw; (try dsimp only at hSw); obtain _ := hSw; first | (go_simp; done) | (go_simp; with_reducible rfl))
                try go_simp
                refine wpAnyH_ready (rs := [11]) (by kernel_rfl) (by simp) ?_
                refine AllReadyH.cons rfl (fun K hK => ?_) AllReadyH.nil
                go_simp
                refine hK.out _ _ trivial (fun _ => ?_)
                clear hK K
                try go_simp
                refine wpAnyH_done (by kernel_rfl) ?_ _
                obtain ⟨hwE, htE⟩ := rapp_end HW8.out HBW8.out HL8.out HB9.out HO9.out HOO.out HGG.out HLL.out
                have HWE := Lib.hid hwE
                have HTE := Lib.hid htE
                have hok2 : ROk { rt with all := (rt).all ++ [p] } := ⟨HKt.out.dir, HKt.out.ne, HKt.out.few, HKt.out.num, by show ((rt).all ++ [p]).length ≤ _; have := HAL.out; rw [List.length_append]; simp; omega, HKt.out.top⟩
                have HKE := Lib.hid hok2
                have hnx2 : (({ rt with all := (rt).all ++ [p] } : Rl).low + ({ rt with all := (rt).all ++ [p] } : Rl).all.length : Nat) = (rt).next + 1 := by show (rt).low + ((rt).all ++ [p]).length = (rt).low + (rt).all.length + 1; rw [List.length_append]; simp; omega
                have HNE := Lib.hid hnx2
                have hnt := HNt.out
                have hwv : IntKind.i64.wrap ((((rt).next + 1 : Nat) : Int) - 1) = (((rt).next : Nat) : Int) := by rw [wrap_in (by omega)]; omega
                have hwv2 : IntKind.i64.wrap (((rt).next : Int) + 1 - 1) = (((rt).next : Nat) : Int) := by rw [wrap_in (by omega)]; omega
                have hwv3 : wrap64 (((rt).next : Nat) : Int) = (((rt).next : Nat) : Int) := by unfold wrap64; omega
                clear hwE htE hok2 hnx2 c4 r4 fz4 hnt
                go_wp2_with (go_at_call 53; (obtain ⟨v0, a0, us0, hl0⟩ := HWE.out.lk; refine (rnext_any hl0 HKE.out).mono ?_); rw [HNE.out]; rintro e w10 ⟨rfl, hb10⟩; have HB10 := Lib.hid hb10; clear hb10 hl0)
                go_ret2
                try rw [hwv3]
                rw [HWR.out, if_pos HQ0.out]
                exact ⟨rfl, _, _, HWE.out.below HB10.out, (HGE.out.trans ((went_below HB7d.out).trans (went_log HTE.out))).trans (went_below HB10.out)⟩
          · have hb1 : (((q.2 : Nat) : Int) != 0) = true := by simpa using hq0
            have HQ0 := Lib.hid hq0
            clear hq0
            go_wp2
            go_ret2
            rw [HWR.out, if_neg HQ0.out]
            exact ⟨rfl, _, _, HW7.out, HGE.out⟩
        · go_simp
          (go_wp2_with (first | (go_at_call 53; (refine (rnext_any HL17.out HK1.out).mono ?_); rw [HNY.out]; rintro e w18 ⟨rfl, hb18⟩; have HB18 := Lib.hid hb18; have p3 := (hb18.cell (p := ⟨b, 3, none⟩) HBS17.out).trans c3; clear hb18)))
          refine hK.out _ _ trivial (fun _ => ?_)
          clear hK K
          try go_simp
          refine wpAnyH_ready (rs := [4, 7]) (by kernel_rfl) (by simp) ?_
          refine AllReadyH.cons rfl (fun K hK => ?_) (AllReadyH.cons rfl (fun K hK => ?_) AllReadyH.nil)
          · go_simp
            refine hK.out _ _ trivial (fun _ => ?_)
            clear hK K
            try go_simp
            refine wpAnyH_ready (rs := [7]) (by kernel_rfl) (by simp) ?_
            refine AllReadyH.cons rfl (fun K hK => ?_) AllReadyH.nil
            go_simp
            refine hK.out _ _ trivial (fun _ => ?_)
            clear hK K
            try go_simp
            have HBE3 := Lib.hid (below_alloc HB18.out (.cells #[.int .i64 (r.next : Int)] 3) HB18.out.size)
            have q3 : (w18.alloc (.cells #[.int .i64 (r.next : Int)] 3)).cell? ⟨b, 3, none⟩ = some vn17 := (HL17.out.below HBE3.out).c3
            refine wpAnyH_ready (rs := [8]) (by kernel_rfl) (by simp) ?_
            refine AllReadyH.cons rfl (fun K hK => ?_) AllReadyH.nil
            have hnum17 := (HL17.out.below HBE3.out).nums
            refine oper_append_off under37n info3n rfl (by decide) (wanted_none rfl _) (.tmp 68) (.tmp 71) rfl rfl hnum17 rfl (heap_alloc_new w18 _) rfl HNUL.out ?_
            intro v19 w19 ho19 hg19 hl19
            obtain ⟨o19, k19, rfl, _, _, _, _⟩ := ho19.slice
            have hbx : w19.heap[b]? = some (.cells #[ptr c, nmv y.1.dir, .int .i64 y.1.seg, vn17, va17, .int .i64 (y.1.top : Int)] 118 (0, 0)) := HL17.out.box8 HBE3.out (.inl rfl) hg19
            have HOO3 := Lib.hid ho19
            have HGG3 := Lib.hid hg19
            have HLL3 := Lib.hid hl19
            have r3 : w19.cell? ⟨b, 3, none⟩ = some vn17 := by simp [World.cell?, hbx]
            have fz3 : w19.frozen? ⟨b, 3, none⟩ = false := frozen_zero hbx
            clear ho19 hg19 hl19 hnum17 hbx q3
            try go_simp
            refine hK.out _ _ trivial (fun _ => ?_)
            clear hK K
            try go_simp
            refine wpAnyH_take (i := 9) (v := ?vmb_9) rfl (by kernel_rfl) (by kernel_rfl) (by kernel_rfl) (fun _ _ _ h => h) (Or.inl ⟨by rfl, ?ymb_9⟩) trivial ?rmb_9
            case ymb_9 => (intro W hSw; (try dsimp only at hSw); obtain _ := hSw; first | (go_simp; done) | (go_simp; with_reducible rfl))
            try go_simp
            refine wpAnyH_take (i := 10) (v := ?vmb_10) rfl (by kernel_rfl) (by kernel_rfl) (by kernel_rfl) (fun _ _ _ h => h) (Or.inl ⟨by rfl, ?ymb_10⟩) trivial ?rmb_10
            case ymb_10 => (intro W hSw; (try dsimp only at hSw); obtain _ := hSw; first | (go_simp; done) | (go_simp; with_reducible rfl))
            try go_simp
            refine wpAnyH_ready (rs := [11]) (by kernel_rfl) (by simp) ?_
            refine AllReadyH.cons rfl (fun K hK => ?_) AllReadyH.nil
            go_simp
            refine hK.out _ _ trivial (fun _ => ?_)
            clear hK K
            try go_simp
            refine wpAnyH_done (by kernel_rfl) ?_ _
            obtain ⟨hwE, htE⟩ := rnum_end HW17.out HBW17.out HL17.out HB18.out HOO3.out HGG3.out HLL3.out
            have HTE3 := Lib.hid htE
            have HWt := Lib.hid hwE
            obtain ⟨wt, hwt⟩ : ∃ wt, wt = w19.setCell ⟨b, 3, none⟩ (.slice o19 (y.1.nums.length + 1) k19) := ⟨_, rfl⟩
            rw [← hwt] at HWt HTE3 ⊢
            have HGt : Hid (Went (fun k => C k ∨ S k) w wt (fun k => Gw C5 w16.drew wt k ∨ Gw S5 w14 w16 k)) := (HGB.out.trans (went_below HB17.out)).trans (went_log HTE3.out)
            have HBt : Hid (B ≤ wt.heap.size) := Nat.le_trans HBW17.out HTE3.out.size
            have HDt := HQD
            have hG1 : Went (fun k => C k ∨ S k) w1 wt (fun k => Gw C5 w16.drew wt k ∨ Gw S5 w14 w16 k) := (HGB1.out.trans (went_below HB17.out)).trans (went_log HTE3.out)
            have HFt : Hid (SB (fun k => w.heap.size ≤ k ∧ k < w1.heap.size) wt fo (Fr.frameV p).length fc (Fr.frameV p)) := ((own_sb HO1.out).mono fun k _ hk => HO1.out.lt k hk).tn hG1.tn (fun k hk e => by rcases e with e | e; (have := HW.out.clt k e; omega); (have := HW.out.dk.lt k e; omega))
            have HPt : Hid (SB E wt po p.length pc p) := HP.out.tn HGt.out.tn (fun k hk e => e.elim (HE.out k hk).2.1 (HE.out k hk).2.2)
            have HEt : Hid (∀ k, E k → ¬ Gw C5 w16.drew wt k ∧ ¬ Gw S5 w14 w16 k) := fun k hk => by have h1 := HGt.out.sub k; have h2 := HE.out k hk; refine ⟨fun e => ?_, fun e => ?_⟩; (rcases h1 (.inl e) with h3 | h3; exact h3.elim h2.2.1 h2.2.2; omega); (rcases h1 (.inr e) with h3 | h3; exact h3.elim h2.2.1 h2.2.2; omega)
            obtain ⟨rt, hrt⟩ : ∃ rt : Rl, rt = { y.1 with nums := y.1.nums ++ [r.next] } := ⟨_, rfl⟩
            have HWt : Hid (WR B wt b (Gw C5 w16.drew wt) rt c (Gw S5 w14 w16) y2.1) := Lib.hid (by rw [hrt]; exact HWt.out)
            have HKt : Hid (ROk rt) := Lib.hid (by rw [hrt]; exact HKt.out)
            have HNt : Hid (rt.next ≤ 99999999) := Lib.hid (by rw [hrt]; exact HNt.out)
            have HMt : Hid (r.more d = (rt, y2.1, 0)) := Lib.hid (by rw [hrt]; exact HMt.out)
            have HALt : Hid (rt.all.length ≤ 99999999) := Lib.hid (by rw [hrt]; exact HALt.out)
            clear hwE htE hwt c3 r3 fz3 hG1 hrt
            go_upto_region 16 with (fail)
            have HB6d : Hid (Below wt.heap.size wt (wt).drew) := (Below.refl _ wt).drew
            have HW6 := Lib.hid (HWt.out.below HB6d.out)
            have HBW6 : Hid (B ≤ (wt).drew.heap.size) := Nat.le_trans HBt.out HB6d.out.size
            obtain ⟨vn6, va6, ua6, hl6⟩ := HW6.out.lk
            obtain ⟨vd6, ud6, hra6⟩ := HW6.out.dk
            have HL6 := Lib.hid hl6
            have HD6 := Lib.hid hra6
            have HBS6 : Hid (b < (wt).drew.heap.size) := hl6.lt b hl6.cb
            have HCB6 := Lib.hid hl6.cb
            have c0 : (wt).drew.cell? ⟨b, 0, none⟩ = some (ptr c) := hl6.c0
            have HDN6 : Hid ((y2.1).done < 9223372036854775807) := Nat.lt_of_le_of_lt HDt.out (by decide)
            have HF6 := Lib.hid (HFt.out.below HB6d.out)
            have HP6 := Lib.hid (HPt.out.below HB6d.out)
            clear hl6 hra6
            obtain ⟨q, hq⟩ : ∃ q, (y2.1).append (segN (rt).dir (rt).end_) (Fr.frameV p) = q := ⟨_, rfl⟩
            have HQ := Lib.hid hq
            have HWR : Hid (r.append d p = if q.2 = 0 then ({ rt with all := (rt).all ++ [p] }, q.1, (rt).next, 0) else (rt, q.1, 0, q.2)) := by
              show _ = _
              rw [HAP.out, HMt.out, if_pos rfl, ← hq]
              rfl
            clear hq
            go_region_held (fun w' => w'.cell? ⟨b, 0, none⟩ = some (ptr c)) (exact c0) (first
              | (go_at_call 80; (refine (rlast_any HL6.out HKt.out).mono ?_); rintro e w6 ⟨rfl, hq⟩; have HB6 := Lib.hid hq; have c0 := (hq.cell (p := ⟨b, 0, none⟩) HBS6.out).trans c0; clear hq)
              | (go_at_call 89; (refine (rappend_any (HD6.out.below HB6.out) (segN (rt).dir (rt).end_) HDN6.out (HF6.out.below HB6.out)).mono ?_); rintro e w7 ⟨rfl, hd7, ht7⟩; rw [HQ.out] at hd7 ⊢; have HW7 := Lib.hid ((HW6.out.below HB6.out).disk (Nat.le_trans HBW6.out HB6.out.size) hd7 ht7); have c0 := ht7.cell c0 (HW6.out.cs _ HCB6.out); have HT7 := Lib.hid ht7; clear hd7 ht7))
            have HGE : Hid (Went (fun k => C k ∨ S k) w w7 (fun k => (Gw C5 w16.drew wt) k ∨ Gw (Gw S5 w14 w16) w6 w7 k)) := ((HGt.out.trans (went_below HB6d.out)).trans (went_below HB6.out)).trans (went_disk HT7.out)
            have HBW7 : Hid (B ≤ w7.heap.size) := Nat.le_trans HBW6.out (Nat.le_trans HB6.out.size HT7.out.size)
            clear c0
            by_cases hq0 : q.2 = 0
            · have hb1 : (((q.2 : Nat) : Int) != 0) = false := by rw [hq0]; rfl
              have HQ0 := Lib.hid hq0
              clear hq0
              go_upto_region 19 with (fail)
              have HB7d : Hid (Below w7.heap.size w7 w7.drew) := (Below.refl _ w7).drew
              have HW8 := Lib.hid (HW7.out.below HB7d.out)
              have HBW8 : Hid (B ≤ w7.drew.heap.size) := Nat.le_trans HBW7.out HB7d.out.size
              obtain ⟨vn8, va8, ua8, hl8⟩ := HW8.out.lk
              have HL8 := Lib.hid hl8
              have HBS8 : Hid (b < w7.drew.heap.size) := hl8.lt b hl8.cb
              have c4 : w7.drew.cell? ⟨b, 4, none⟩ = some va8 := hl8.c4
              have HP8 : Hid (SB E w7.drew po p.length pc p) := ((HP6.out.below HB6.out).tn HT7.out (fun k hk e => (HEt.out k hk).2 e)).below HB7d.out
              have hpl : p.length ≤ 140737488355328 := by omega
              have HAL := HALt
              clear hl8
              refine wp_region_held (S := (fun _ => True)) (by kernel_rfl) ?_
              change wpAnyH _ _ _ _ _ _ _ _ (World.drew _)
              refine wpAnyH_take (i := 0) (v := ?vh3t_0) rfl (by kernel_rfl) (by kernel_rfl) (by kernel_rfl) (fun _ _ _ h => h) (Or.inl ⟨by rfl, ?yh3t_0⟩) trivial ?rh3t_0
              case yh3t_0 => (intro W hSw; (try dsimp only at hSw); obtain _ := hSw; first | (go_simp; done) | (go_simp; with_reducible rfl))
              try go_simp
              refine wpAnyH_take (i := 1) (v := ?vh3t_1) rfl (by kernel_rfl) (by kernel_rfl) (by kernel_rfl) (fun _ _ _ h => h) (Or.inl ⟨by rfl, ?yh3t_1⟩) trivial ?rh3t_1
              case yh3t_1 => (intro W hSw; (try dsimp only at hSw); obtain _ := hSw; first | (go_simp; done) | (go_simp; with_reducible rfl))
              try go_simp
              refine wpAnyH_take (i := 2) (v := ?vh3t_2) rfl (by kernel_rfl) (by kernel_rfl) (by kernel_rfl) (fun _ _ _ h => h) (Or.inl ⟨by rfl, ?yh3t_2⟩) trivial ?rh3t_2
              case yh3t_2 => (intro W hSw; (try dsimp only at hSw); obtain _ := hSw; first | (go_simp; done) | (go_simp; with_reducible rfl))
              try go_simp
              refine wpAnyH_take (i := 3) (v := ?vh3t_3) rfl (by kernel_rfl) (by kernel_rfl) (by kernel_rfl) (fun _ _ _ h => h) (Or.inl ⟨by rfl, ?yh3t_3⟩) trivial ?rh3t_3
              case yh3t_3 => (intro W hSw; (try dsimp only at hSw); obtain _ := hSw; first | (go_simp; done) | (go_simp; with_reducible rfl))
              try go_simp
              refine wpAnyH_take (i := 5) (v := ?vh3t_5) rfl (by kernel_rfl) (by kernel_rfl) (by kernel_rfl) (fun _ _ _ h => h) (Or.inl ⟨by rfl, ?yh3t_5⟩) trivial ?rh3t_5
              case yh3t_5 => (intro W hSw; (try dsimp only at hSw); obtain _ := hSw; first | (go_simp; done) | (go_simp; with_reducible rfl))
              try go_simp
              refine wpAnyH_ready (rs := [4, 6]) (by kernel_rfl) (by simp) ?_
              refine AllReadyH.cons rfl (fun K hK => ?_) (AllReadyH.cons rfl (fun K hK => ?_) AllReadyH.nil)
              · go_simp
                refine hK.out _ _ trivial (fun _ => ?_)
                clear hK K
                try go_simp
                refine wpAnyH_ready (rs := [6]) (by kernel_rfl) (by simp) ?_
                refine AllReadyH.cons rfl (fun K hK => ?_) AllReadyH.nil
                go_simp
                (go_wp2_with (first | (go_at_call 26; (refine (copyBytes_any HP8.out hpl).mono ?_); rintro e w9 ⟨co, cc, rfl, ho9, hb9⟩; have HO9 := Lib.hid ho9; have HB9 := Lib.hid hb9; have p4 := (hb9.cell (p := ⟨b, 4, none⟩) HBS8.out).trans c4; clear ho9 hb9)))
                refine hK.out _ _ trivial (fun _ => ?_)
                clear hK K
                try go_simp
                refine wpAnyH_ready (rs := [7]) (by kernel_rfl) (by simp) ?_
                refine AllReadyH.cons rfl (fun K hK => ?_) AllReadyH.nil
                go_simp
                refine hK.out _ _ trivial (fun _ => ?_)
                clear hK K
                try go_simp
                have HBE := Lib.hid (below_alloc HB9.out (.cells #[.slice co p.length cc] 36) HB9.out.size)
                have q4 : (w9.alloc (.cells #[.slice co p.length cc] 36)).cell? ⟨b, 4, none⟩ = some va8 := (HL8.out.below HBE.out).c4
                refine wpAnyH_ready (rs := [8]) (by kernel_rfl) (by simp) ?_
                refine AllReadyH.cons rfl (fun K hK => ?_) AllReadyH.nil
                have hall8 := (HL8.out.below HBE.out).all
                refine oper_append_off under57 info36 rfl (by decide) (wanted_none rfl _) (.tmp 90) (.tmp 93) rfl rfl hall8 rfl (heap_alloc_new w9 _) rfl (Nat.le_trans HAL.out (by decide)) ?_
                intro v8 w8 ho8 hg8 hl9
                obtain ⟨o8, k8, rfl, _, _, _, _⟩ := ho8.slice
                have hbx : w8.heap[b]? = some (.cells #[ptr c, nmv (rt).dir, .int .i64 (rt).seg, vn8, va8, .int .i64 ((rt).top : Int)] 118 (0, 0)) := HL8.out.box8 HBE.out (.inr rfl) hg8
                have HOO := Lib.hid ho8
                have HGG := Lib.hid hg8
                have HLL := Lib.hid hl9
                have r4 : w8.cell? ⟨b, 4, none⟩ = some va8 := by simp [World.cell?, hbx]
                have fz4 : w8.frozen? ⟨b, 4, none⟩ = false := frozen_zero hbx
                clear ho8 hg8 hl9 hall8 hbx q4
                try go_simp
                refine hK.out _ _ trivial (fun _ => ?_)
                clear hK K
                try go_simp
                refine wpAnyH_take (i := 9) (v := ?vh3ta_9) rfl (by kernel_rfl) (by kernel_rfl) (by kernel_rfl) (fun _ _ _ h => h) (Or.inl ⟨by rfl, ?yh3ta_9⟩) trivial ?rh3ta_9
                case yh3ta_9 => (intro W hSw; (try dsimp only at hSw); obtain _ := hSw; first | (go_simp; done) | (go_simp; with_reducible rfl))
                try go_simp
                refine wpAnyH_take (i := 10) (v := ?vh3ta_10) rfl (by kernel_rfl) (by kernel_rfl) (by kernel_rfl) (fun _ _ _ h => h) (Or.inl ⟨by rfl, ?yh3ta_10⟩) trivial ?rh3ta_10
                case yh3ta_10 => (intro W hSw; (try dsimp only at hSw); obtain _ := hSw; first | (go_simp; done) | (go_simp; with_reducible rfl))
                try go_simp
                refine wpAnyH_ready (rs := [11]) (by kernel_rfl) (by simp) ?_
                refine AllReadyH.cons rfl (fun K hK => ?_) AllReadyH.nil
                go_simp
                refine hK.out _ _ trivial (fun _ => ?_)
                clear hK K
                try go_simp
                refine wpAnyH_done (by kernel_rfl) ?_ _
                obtain ⟨hwE, htE⟩ := rapp_end HW8.out HBW8.out HL8.out HB9.out HO9.out HOO.out HGG.out HLL.out
                have HWE := Lib.hid hwE
                have HTE := Lib.hid htE
                have hok2 : ROk { rt with all := (rt).all ++ [p] } := ⟨HKt.out.dir, HKt.out.ne, HKt.out.few, HKt.out.num, by show ((rt).all ++ [p]).length ≤ _; have := HAL.out; rw [List.length_append]; simp; omega, HKt.out.top⟩
                have HKE := Lib.hid hok2
                have hnx2 : (({ rt with all := (rt).all ++ [p] } : Rl).low + ({ rt with all := (rt).all ++ [p] } : Rl).all.length : Nat) = (rt).next + 1 := by show (rt).low + ((rt).all ++ [p]).length = (rt).low + (rt).all.length + 1; rw [List.length_append]; simp; omega
                have HNE := Lib.hid hnx2
                have hnt := HNt.out
                have hwv : IntKind.i64.wrap ((((rt).next + 1 : Nat) : Int) - 1) = (((rt).next : Nat) : Int) := by rw [wrap_in (by omega)]; omega
                have hwv2 : IntKind.i64.wrap (((rt).next : Int) + 1 - 1) = (((rt).next : Nat) : Int) := by rw [wrap_in (by omega)]; omega
                have hwv3 : wrap64 (((rt).next : Nat) : Int) = (((rt).next : Nat) : Int) := by unfold wrap64; omega
                clear hwE htE hok2 hnx2 c4 r4 fz4 hnt
                go_wp2_with (go_at_call 53; (obtain ⟨v0, a0, us0, hl0⟩ := HWE.out.lk; refine (rnext_any hl0 HKE.out).mono ?_); rw [HNE.out]; rintro e w10 ⟨rfl, hb10⟩; have HB10 := Lib.hid hb10; clear hb10 hl0)
                go_ret2
                try rw [hwv3]
                rw [HWR.out, if_pos HQ0.out]
                exact ⟨rfl, _, _, HWE.out.below HB10.out, (HGE.out.trans ((went_below HB7d.out).trans (went_log HTE.out))).trans (went_below HB10.out)⟩
              · go_simp
                (go_wp2_with (first | (go_at_call 26; (refine (copyBytes_any HP8.out hpl).mono ?_); rintro e w9 ⟨co, cc, rfl, ho9, hb9⟩; have HO9 := Lib.hid ho9; have HB9 := Lib.hid hb9; have p4 := (hb9.cell (p := ⟨b, 4, none⟩) HBS8.out).trans c4; clear ho9 hb9)))
                refine hK.out _ _ trivial (fun _ => ?_)
                clear hK K
                try go_simp
                refine wpAnyH_ready (rs := [4, 7]) (by kernel_rfl) (by simp) ?_
                refine AllReadyH.cons rfl (fun K hK => ?_) (AllReadyH.cons rfl (fun K hK => ?_) AllReadyH.nil)
                · go_simp
                  refine hK.out _ _ trivial (fun _ => ?_)
                  clear hK K
                  try go_simp
                  refine wpAnyH_ready (rs := [7]) (by kernel_rfl) (by simp) ?_
                  refine AllReadyH.cons rfl (fun K hK => ?_) AllReadyH.nil
                  go_simp
                  refine hK.out _ _ trivial (fun _ => ?_)
                  clear hK K
                  try go_simp
                  have HBE := Lib.hid (below_alloc HB9.out (.cells #[.slice co p.length cc] 36) HB9.out.size)
                  have q4 : (w9.alloc (.cells #[.slice co p.length cc] 36)).cell? ⟨b, 4, none⟩ = some va8 := (HL8.out.below HBE.out).c4
                  refine wpAnyH_ready (rs := [8]) (by kernel_rfl) (by simp) ?_
                  refine AllReadyH.cons rfl (fun K hK => ?_) AllReadyH.nil
                  have hall8 := (HL8.out.below HBE.out).all
                  refine oper_append_off under57 info36 rfl (by decide) (wanted_none rfl _) (.tmp 90) (.tmp 93) rfl rfl hall8 rfl (heap_alloc_new w9 _) rfl (Nat.le_trans HAL.out (by decide)) ?_
                  intro v8 w8 ho8 hg8 hl9
                  obtain ⟨o8, k8, rfl, _, _, _, _⟩ := ho8.slice
                  have hbx : w8.heap[b]? = some (.cells #[ptr c, nmv (rt).dir, .int .i64 (rt).seg, vn8, va8, .int .i64 ((rt).top : Int)] 118 (0, 0)) := HL8.out.box8 HBE.out (.inr rfl) hg8
                  have HOO := Lib.hid ho8
                  have HGG := Lib.hid hg8
                  have HLL := Lib.hid hl9
                  have r4 : w8.cell? ⟨b, 4, none⟩ = some va8 := by simp [World.cell?, hbx]
                  have fz4 : w8.frozen? ⟨b, 4, none⟩ = false := frozen_zero hbx
                  clear ho8 hg8 hl9 hall8 hbx q4
                  try go_simp
                  refine hK.out _ _ trivial (fun _ => ?_)
                  clear hK K
                  try go_simp
                  refine wpAnyH_take (i := 9) (v := ?vh3tb_9) rfl (by kernel_rfl) (by kernel_rfl) (by kernel_rfl) (fun _ _ _ h => h) (Or.inl ⟨by rfl, ?yh3tb_9⟩) trivial ?rh3tb_9
                  case yh3tb_9 => (intro W hSw; (try dsimp only at hSw); obtain _ := hSw; first | (go_simp; done) | (go_simp; with_reducible rfl))
                  try go_simp
                  refine wpAnyH_take (i := 10) (v := ?vh3tb_10) rfl (by kernel_rfl) (by kernel_rfl) (by kernel_rfl) (fun _ _ _ h => h) (Or.inl ⟨by rfl, ?yh3tb_10⟩) trivial ?rh3tb_10
                  case yh3tb_10 => (intro W hSw; (try dsimp only at hSw); obtain _ := hSw; first | (go_simp; done) | (go_simp; with_reducible rfl))
                  try go_simp
                  refine wpAnyH_ready (rs := [11]) (by kernel_rfl) (by simp) ?_
                  refine AllReadyH.cons rfl (fun K hK => ?_) AllReadyH.nil
                  go_simp
                  refine hK.out _ _ trivial (fun _ => ?_)
                  clear hK K
                  try go_simp
                  refine wpAnyH_done (by kernel_rfl) ?_ _
                  obtain ⟨hwE, htE⟩ := rapp_end HW8.out HBW8.out HL8.out HB9.out HO9.out HOO.out HGG.out HLL.out
                  have HWE := Lib.hid hwE
                  have HTE := Lib.hid htE
                  have hok2 : ROk { rt with all := (rt).all ++ [p] } := ⟨HKt.out.dir, HKt.out.ne, HKt.out.few, HKt.out.num, by show ((rt).all ++ [p]).length ≤ _; have := HAL.out; rw [List.length_append]; simp; omega, HKt.out.top⟩
                  have HKE := Lib.hid hok2
                  have hnx2 : (({ rt with all := (rt).all ++ [p] } : Rl).low + ({ rt with all := (rt).all ++ [p] } : Rl).all.length : Nat) = (rt).next + 1 := by show (rt).low + ((rt).all ++ [p]).length = (rt).low + (rt).all.length + 1; rw [List.length_append]; simp; omega
                  have HNE := Lib.hid hnx2
                  have hnt := HNt.out
                  have hwv : IntKind.i64.wrap ((((rt).next + 1 : Nat) : Int) - 1) = (((rt).next : Nat) : Int) := by rw [wrap_in (by omega)]; omega
                  have hwv2 : IntKind.i64.wrap (((rt).next : Int) + 1 - 1) = (((rt).next : Nat) : Int) := by rw [wrap_in (by omega)]; omega
                  have hwv3 : wrap64 (((rt).next : Nat) : Int) = (((rt).next : Nat) : Int) := by unfold wrap64; omega
                  clear hwE htE hok2 hnx2 c4 r4 fz4 hnt
                  go_wp2_with (go_at_call 53; (obtain ⟨v0, a0, us0, hl0⟩ := HWE.out.lk; refine (rnext_any hl0 HKE.out).mono ?_); rw [HNE.out]; rintro e w10 ⟨rfl, hb10⟩; have HB10 := Lib.hid hb10; clear hb10 hl0)
                  go_ret2
                  try rw [hwv3]
                  rw [HWR.out, if_pos HQ0.out]
                  exact ⟨rfl, _, _, HWE.out.below HB10.out, (HGE.out.trans ((went_below HB7d.out).trans (went_log HTE.out))).trans (went_below HB10.out)⟩
                · go_simp
                  refine hK.out _ _ trivial (fun _ => ?_)
                  clear hK K
                  try go_simp
                  have HBE := Lib.hid (below_alloc HB9.out (.cells #[.slice co p.length cc] 36) HB9.out.size)
                  have q4 : (w9.alloc (.cells #[.slice co p.length cc] 36)).cell? ⟨b, 4, none⟩ = some va8 := (HL8.out.below HBE.out).c4
                  refine wpAnyH_ready (rs := [4]) (by kernel_rfl) (by simp) ?_
                  refine AllReadyH.cons rfl (fun K hK => ?_) AllReadyH.nil
                  go_simp
                  refine hK.out _ _ trivial (fun _ => ?_)
                  clear hK K
                  try go_simp
                  refine wpAnyH_ready (rs := [8]) (by kernel_rfl) (by simp) ?_
                  refine AllReadyH.cons rfl (fun K hK => ?_) AllReadyH.nil
                  have hall8 := (HL8.out.below HBE.out).all
                  refine oper_append_off under57 info36 rfl (by decide) (wanted_none rfl _) (.tmp 90) (.tmp 93) rfl rfl hall8 rfl (heap_alloc_new w9 _) rfl (Nat.le_trans HAL.out (by decide)) ?_
                  intro v8 w8 ho8 hg8 hl9
                  obtain ⟨o8, k8, rfl, _, _, _, _⟩ := ho8.slice
                  have hbx : w8.heap[b]? = some (.cells #[ptr c, nmv (rt).dir, .int .i64 (rt).seg, vn8, va8, .int .i64 ((rt).top : Int)] 118 (0, 0)) := HL8.out.box8 HBE.out (.inr rfl) hg8
                  have HOO := Lib.hid ho8
                  have HGG := Lib.hid hg8
                  have HLL := Lib.hid hl9
                  have r4 : w8.cell? ⟨b, 4, none⟩ = some va8 := by simp [World.cell?, hbx]
                  have fz4 : w8.frozen? ⟨b, 4, none⟩ = false := frozen_zero hbx
                  clear ho8 hg8 hl9 hall8 hbx q4
                  try go_simp
                  refine hK.out _ _ trivial (fun _ => ?_)
                  clear hK K
                  try go_simp
                  refine wpAnyH_take (i := 9) (v := ?vh3tc_9) rfl (by kernel_rfl) (by kernel_rfl) (by kernel_rfl) (fun _ _ _ h => h) (Or.inl ⟨by rfl, ?yh3tc_9⟩) trivial ?rh3tc_9
                  case yh3tc_9 => (intro W hSw; (try dsimp only at hSw); obtain _ := hSw; first | (go_simp; done) | (go_simp; with_reducible rfl))
                  try go_simp
                  refine wpAnyH_take (i := 10) (v := ?vh3tc_10) rfl (by kernel_rfl) (by kernel_rfl) (by kernel_rfl) (fun _ _ _ h => h) (Or.inl ⟨by rfl, ?yh3tc_10⟩) trivial ?rh3tc_10
                  case yh3tc_10 => (intro W hSw; (try dsimp only at hSw); obtain _ := hSw; first | (go_simp; done) | (go_simp; with_reducible rfl))
                  try go_simp
                  refine wpAnyH_ready (rs := [11]) (by kernel_rfl) (by simp) ?_
                  refine AllReadyH.cons rfl (fun K hK => ?_) AllReadyH.nil
                  go_simp
                  refine hK.out _ _ trivial (fun _ => ?_)
                  clear hK K
                  try go_simp
                  refine wpAnyH_done (by kernel_rfl) ?_ _
                  obtain ⟨hwE, htE⟩ := rapp_end HW8.out HBW8.out HL8.out HB9.out HO9.out HOO.out HGG.out HLL.out
                  have HWE := Lib.hid hwE
                  have HTE := Lib.hid htE
                  have hok2 : ROk { rt with all := (rt).all ++ [p] } := ⟨HKt.out.dir, HKt.out.ne, HKt.out.few, HKt.out.num, by show ((rt).all ++ [p]).length ≤ _; have := HAL.out; rw [List.length_append]; simp; omega, HKt.out.top⟩
                  have HKE := Lib.hid hok2
                  have hnx2 : (({ rt with all := (rt).all ++ [p] } : Rl).low + ({ rt with all := (rt).all ++ [p] } : Rl).all.length : Nat) = (rt).next + 1 := by show (rt).low + ((rt).all ++ [p]).length = (rt).low + (rt).all.length + 1; rw [List.length_append]; simp; omega
                  have HNE := Lib.hid hnx2
                  have hnt := HNt.out
                  have hwv : IntKind.i64.wrap ((((rt).next + 1 : Nat) : Int) - 1) = (((rt).next : Nat) : Int) := by rw [wrap_in (by omega)]; omega
                  have hwv2 : IntKind.i64.wrap (((rt).next : Int) + 1 - 1) = (((rt).next : Nat) : Int) := by rw [wrap_in (by omega)]; omega
                  have hwv3 : wrap64 (((rt).next : Nat) : Int) = (((rt).next : Nat) : Int) := by unfold wrap64; omega
                  clear hwE htE hok2 hnx2 c4 r4 fz4 hnt
                  go_wp2_with (go_at_call 53; (obtain ⟨v0, a0, us0, hl0⟩ := HWE.out.lk; refine (rnext_any hl0 HKE.out).mono ?_); rw [HNE.out]; rintro e w10 ⟨rfl, hb10⟩; have HB10 := Lib.hid hb10; clear hb10 hl0)
                  go_ret2
                  try rw [hwv3]
                  rw [HWR.out, if_pos HQ0.out]
                  exact ⟨rfl, _, _, HWE.out.below HB10.out, (HGE.out.trans ((went_below HB7d.out).trans (went_log HTE.out))).trans (went_below HB10.out)⟩
            · have hb1 : (((q.2 : Nat) : Int) != 0) = true := by simpa using hq0
              have HQ0 := Lib.hid hq0
              clear hq0
              go_wp2
              go_ret2
              rw [HWR.out, if_neg HQ0.out]
              exact ⟨rfl, _, _, HW7.out, HGE.out⟩
          · go_simp
            refine hK.out _ _ trivial (fun _ => ?_)
            clear hK K
            try go_simp
            have HBE3 := Lib.hid (below_alloc HB18.out (.cells #[.int .i64 (r.next : Int)] 3) HB18.out.size)
            have q3 : (w18.alloc (.cells #[.int .i64 (r.next : Int)] 3)).cell? ⟨b, 3, none⟩ = some vn17 := (HL17.out.below HBE3.out).c3
            refine wpAnyH_ready (rs := [4]) (by kernel_rfl) (by simp) ?_
            refine AllReadyH.cons rfl (fun K hK => ?_) AllReadyH.nil
            go_simp
            refine hK.out _ _ trivial (fun _ => ?_)
            clear hK K
            try go_simp
            refine wpAnyH_ready (rs := [8]) (by kernel_rfl) (by simp) ?_
            refine AllReadyH.cons rfl (fun K hK => ?_) AllReadyH.nil
            have hnum17 := (HL17.out.below HBE3.out).nums
            refine oper_append_off under37n info3n rfl (by decide) (wanted_none rfl _) (.tmp 68) (.tmp 71) rfl rfl hnum17 rfl (heap_alloc_new w18 _) rfl HNUL.out ?_
            intro v19 w19 ho19 hg19 hl19
            obtain ⟨o19, k19, rfl, _, _, _, _⟩ := ho19.slice
            have hbx : w19.heap[b]? = some (.cells #[ptr c, nmv y.1.dir, .int .i64 y.1.seg, vn17, va17, .int .i64 (y.1.top : Int)] 118 (0, 0)) := HL17.out.box8 HBE3.out (.inl rfl) hg19
            have HOO3 := Lib.hid ho19
            have HGG3 := Lib.hid hg19
            have HLL3 := Lib.hid hl19
            have r3 : w19.cell? ⟨b, 3, none⟩ = some vn17 := by simp [World.cell?, hbx]
            have fz3 : w19.frozen? ⟨b, 3, none⟩ = false := frozen_zero hbx
            clear ho19 hg19 hl19 hnum17 hbx q3
            try go_simp
            refine hK.out _ _ trivial (fun _ => ?_)
            clear hK K
            try go_simp
            refine wpAnyH_take (i := 9) (v := ?vmc_9) rfl (by kernel_rfl) (by kernel_rfl) (by kernel_rfl) (fun _ _ _ h => h) (Or.inl ⟨by rfl, ?ymc_9⟩) trivial ?rmc_9
            case ymc_9 => (intro W hSw; (try dsimp only at hSw); obtain _ := hSw; first | (go_simp; done) | (go_simp; with_reducible rfl))
            try go_simp
            refine wpAnyH_take (i := 10) (v := ?vmc_10) rfl (by kernel_rfl) (by kernel_rfl) (by kernel_rfl) (fun _ _ _ h => h) (Or.inl ⟨by rfl, ?ymc_10⟩) trivial ?rmc_10
            case ymc_10 => (intro W hSw; (try dsimp only at hSw); obtain _ := hSw; first | (go_simp; done) | (go_simp; with_reducible rfl))
            try go_simp
            refine wpAnyH_ready (rs := [11]) (by kernel_rfl) (by simp) ?_
            refine AllReadyH.cons rfl (fun K hK => ?_) AllReadyH.nil
            go_simp
            refine hK.out _ _ trivial (fun _ => ?_)
            clear hK K
            try go_simp
            refine wpAnyH_done (by kernel_rfl) ?_ _
            obtain ⟨hwE, htE⟩ := rnum_end HW17.out HBW17.out HL17.out HB18.out HOO3.out HGG3.out HLL3.out
            have HTE3 := Lib.hid htE
            have HWt := Lib.hid hwE
            obtain ⟨wt, hwt⟩ : ∃ wt, wt = w19.setCell ⟨b, 3, none⟩ (.slice o19 (y.1.nums.length + 1) k19) := ⟨_, rfl⟩
            rw [← hwt] at HWt HTE3 ⊢
            have HGt : Hid (Went (fun k => C k ∨ S k) w wt (fun k => Gw C5 w16.drew wt k ∨ Gw S5 w14 w16 k)) := (HGB.out.trans (went_below HB17.out)).trans (went_log HTE3.out)
            have HBt : Hid (B ≤ wt.heap.size) := Nat.le_trans HBW17.out HTE3.out.size
            have HDt := HQD
            have hG1 : Went (fun k => C k ∨ S k) w1 wt (fun k => Gw C5 w16.drew wt k ∨ Gw S5 w14 w16 k) := (HGB1.out.trans (went_below HB17.out)).trans (went_log HTE3.out)
            have HFt : Hid (SB (fun k => w.heap.size ≤ k ∧ k < w1.heap.size) wt fo (Fr.frameV p).length fc (Fr.frameV p)) := ((own_sb HO1.out).mono fun k _ hk => HO1.out.lt k hk).tn hG1.tn (fun k hk e => by rcases e with e | e; (have := HW.out.clt k e; omega); (have := HW.out.dk.lt k e; omega))
            have HPt : Hid (SB E wt po p.length pc p) := HP.out.tn HGt.out.tn (fun k hk e => e.elim (HE.out k hk).2.1 (HE.out k hk).2.2)
            have HEt : Hid (∀ k, E k → ¬ Gw C5 w16.drew wt k ∧ ¬ Gw S5 w14 w16 k) := fun k hk => by have h1 := HGt.out.sub k; have h2 := HE.out k hk; refine ⟨fun e => ?_, fun e => ?_⟩; (rcases h1 (.inl e) with h3 | h3; exact h3.elim h2.2.1 h2.2.2; omega); (rcases h1 (.inr e) with h3 | h3; exact h3.elim h2.2.1 h2.2.2; omega)
            obtain ⟨rt, hrt⟩ : ∃ rt : Rl, rt = { y.1 with nums := y.1.nums ++ [r.next] } := ⟨_, rfl⟩
            have HWt : Hid (WR B wt b (Gw C5 w16.drew wt) rt c (Gw S5 w14 w16) y2.1) := Lib.hid (by rw [hrt]; exact HWt.out)
            have HKt : Hid (ROk rt) := Lib.hid (by rw [hrt]; exact HKt.out)
            have HNt : Hid (rt.next ≤ 99999999) := Lib.hid (by rw [hrt]; exact HNt.out)
            have HMt : Hid (r.more d = (rt, y2.1, 0)) := Lib.hid (by rw [hrt]; exact HMt.out)
            have HALt : Hid (rt.all.length ≤ 99999999) := Lib.hid (by rw [hrt]; exact HALt.out)
            clear hwE htE hwt c3 r3 fz3 hG1 hrt
            go_upto_region 16 with (fail)
            have HB6d : Hid (Below wt.heap.size wt (wt).drew) := (Below.refl _ wt).drew
            have HW6 := Lib.hid (HWt.out.below HB6d.out)
            have HBW6 : Hid (B ≤ (wt).drew.heap.size) := Nat.le_trans HBt.out HB6d.out.size
            obtain ⟨vn6, va6, ua6, hl6⟩ := HW6.out.lk
            obtain ⟨vd6, ud6, hra6⟩ := HW6.out.dk
            have HL6 := Lib.hid hl6
            have HD6 := Lib.hid hra6
            have HBS6 : Hid (b < (wt).drew.heap.size) := hl6.lt b hl6.cb
            have HCB6 := Lib.hid hl6.cb
            have c0 : (wt).drew.cell? ⟨b, 0, none⟩ = some (ptr c) := hl6.c0
            have HDN6 : Hid ((y2.1).done < 9223372036854775807) := Nat.lt_of_le_of_lt HDt.out (by decide)
            have HF6 := Lib.hid (HFt.out.below HB6d.out)
            have HP6 := Lib.hid (HPt.out.below HB6d.out)
            clear hl6 hra6
            obtain ⟨q, hq⟩ : ∃ q, (y2.1).append (segN (rt).dir (rt).end_) (Fr.frameV p) = q := ⟨_, rfl⟩
            have HQ := Lib.hid hq
            have HWR : Hid (r.append d p = if q.2 = 0 then ({ rt with all := (rt).all ++ [p] }, q.1, (rt).next, 0) else (rt, q.1, 0, q.2)) := by
              show _ = _
              rw [HAP.out, HMt.out, if_pos rfl, ← hq]
              rfl
            clear hq
            go_region_held (fun w' => w'.cell? ⟨b, 0, none⟩ = some (ptr c)) (exact c0) (first
              | (go_at_call 80; (refine (rlast_any HL6.out HKt.out).mono ?_); rintro e w6 ⟨rfl, hq⟩; have HB6 := Lib.hid hq; have c0 := (hq.cell (p := ⟨b, 0, none⟩) HBS6.out).trans c0; clear hq)
              | (go_at_call 89; (refine (rappend_any (HD6.out.below HB6.out) (segN (rt).dir (rt).end_) HDN6.out (HF6.out.below HB6.out)).mono ?_); rintro e w7 ⟨rfl, hd7, ht7⟩; rw [HQ.out] at hd7 ⊢; have HW7 := Lib.hid ((HW6.out.below HB6.out).disk (Nat.le_trans HBW6.out HB6.out.size) hd7 ht7); have c0 := ht7.cell c0 (HW6.out.cs _ HCB6.out); have HT7 := Lib.hid ht7; clear hd7 ht7))
            have HGE : Hid (Went (fun k => C k ∨ S k) w w7 (fun k => (Gw C5 w16.drew wt) k ∨ Gw (Gw S5 w14 w16) w6 w7 k)) := ((HGt.out.trans (went_below HB6d.out)).trans (went_below HB6.out)).trans (went_disk HT7.out)
            have HBW7 : Hid (B ≤ w7.heap.size) := Nat.le_trans HBW6.out (Nat.le_trans HB6.out.size HT7.out.size)
            clear c0
            by_cases hq0 : q.2 = 0
            · have hb1 : (((q.2 : Nat) : Int) != 0) = false := by rw [hq0]; rfl
              have HQ0 := Lib.hid hq0
              clear hq0
              go_upto_region 19 with (fail)
              have HB7d : Hid (Below w7.heap.size w7 w7.drew) := (Below.refl _ w7).drew
              have HW8 := Lib.hid (HW7.out.below HB7d.out)
              have HBW8 : Hid (B ≤ w7.drew.heap.size) := Nat.le_trans HBW7.out HB7d.out.size
              obtain ⟨vn8, va8, ua8, hl8⟩ := HW8.out.lk
              have HL8 := Lib.hid hl8
              have HBS8 : Hid (b < w7.drew.heap.size) := hl8.lt b hl8.cb
              have c4 : w7.drew.cell? ⟨b, 4, none⟩ = some va8 := hl8.c4
              have HP8 : Hid (SB E w7.drew po p.length pc p) := ((HP6.out.below HB6.out).tn HT7.out (fun k hk e => (HEt.out k hk).2 e)).below HB7d.out
              have hpl : p.length ≤ 140737488355328 := by omega
              have HAL := HALt
              clear hl8
              refine wp_region_held (S := (fun _ => True)) (by kernel_rfl) ?_
              change wpAnyH _ _ _ _ _ _ _ _ (World.drew _)
              refine wpAnyH_take (i := 0) (v := ?vh4t_0) rfl (by kernel_rfl) (by kernel_rfl) (by kernel_rfl) (fun _ _ _ h => h) (Or.inl ⟨by rfl, ?yh4t_0⟩) trivial ?rh4t_0
              case yh4t_0 => (intro W hSw; (try dsimp only at hSw); obtain _ := hSw; first | (go_simp; done) | (go_simp; with_reducible rfl))
              try go_simp
              refine wpAnyH_take (i := 1) (v := ?vh4t_1) rfl (by kernel_rfl) (by kernel_rfl) (by kernel_rfl) (fun _ _ _ h => h) (Or.inl ⟨by rfl, ?yh4t_1⟩) trivial ?rh4t_1
              case yh4t_1 => (intro W hSw; (try dsimp only at hSw); obtain _ := hSw; first | (go_simp; done) | (go_simp; with_reducible rfl))
              try go_simp
              refine wpAnyH_take (i := 2) (v := ?vh4t_2) rfl (by kernel_rfl) (by kernel_rfl) (by kernel_rfl) (fun _ _ _ h => h) (Or.inl ⟨by rfl, ?yh4t_2⟩) trivial ?rh4t_2
              case yh4t_2 => (intro W hSw; (try dsimp only at hSw); obtain _ := hSw; first | (go_simp; done) | (go_simp; with_reducible rfl))
              try go_simp
              refine wpAnyH_take (i := 3) (v := ?vh4t_3) rfl (by kernel_rfl) (by kernel_rfl) (by kernel_rfl) (fun _ _ _ h => h) (Or.inl ⟨by rfl, ?yh4t_3⟩) trivial ?rh4t_3
              case yh4t_3 => (intro W hSw; (try dsimp only at hSw); obtain _ := hSw; first | (go_simp; done) | (go_simp; with_reducible rfl))
              try go_simp
              refine wpAnyH_take (i := 5) (v := ?vh4t_5) rfl (by kernel_rfl) (by kernel_rfl) (by kernel_rfl) (fun _ _ _ h => h) (Or.inl ⟨by rfl, ?yh4t_5⟩) trivial ?rh4t_5
              case yh4t_5 => (intro W hSw; (try dsimp only at hSw); obtain _ := hSw; first | (go_simp; done) | (go_simp; with_reducible rfl))
              try go_simp
              refine wpAnyH_ready (rs := [4, 6]) (by kernel_rfl) (by simp) ?_
              refine AllReadyH.cons rfl (fun K hK => ?_) (AllReadyH.cons rfl (fun K hK => ?_) AllReadyH.nil)
              · go_simp
                refine hK.out _ _ trivial (fun _ => ?_)
                clear hK K
                try go_simp
                refine wpAnyH_ready (rs := [6]) (by kernel_rfl) (by simp) ?_
                refine AllReadyH.cons rfl (fun K hK => ?_) AllReadyH.nil
                go_simp
                (go_wp2_with (first | (go_at_call 26; (refine (copyBytes_any HP8.out hpl).mono ?_); rintro e w9 ⟨co, cc, rfl, ho9, hb9⟩; have HO9 := Lib.hid ho9; have HB9 := Lib.hid hb9; have p4 := (hb9.cell (p := ⟨b, 4, none⟩) HBS8.out).trans c4; clear ho9 hb9)))
                refine hK.out _ _ trivial (fun _ => ?_)
                clear hK K
                try go_simp
                refine wpAnyH_ready (rs := [7]) (by kernel_rfl) (by simp) ?_
                refine AllReadyH.cons rfl (fun K hK => ?_) AllReadyH.nil
                go_simp
                refine hK.out _ _ trivial (fun _ => ?_)
                clear hK K
                try go_simp
                have HBE := Lib.hid (below_alloc HB9.out (.cells #[.slice co p.length cc] 36) HB9.out.size)
                have q4 : (w9.alloc (.cells #[.slice co p.length cc] 36)).cell? ⟨b, 4, none⟩ = some va8 := (HL8.out.below HBE.out).c4
                refine wpAnyH_ready (rs := [8]) (by kernel_rfl) (by simp) ?_
                refine AllReadyH.cons rfl (fun K hK => ?_) AllReadyH.nil
                have hall8 := (HL8.out.below HBE.out).all
                refine oper_append_off under57 info36 rfl (by decide) (wanted_none rfl _) (.tmp 90) (.tmp 93) rfl rfl hall8 rfl (heap_alloc_new w9 _) rfl (Nat.le_trans HAL.out (by decide)) ?_
                intro v8 w8 ho8 hg8 hl9
                obtain ⟨o8, k8, rfl, _, _, _, _⟩ := ho8.slice
                have hbx : w8.heap[b]? = some (.cells #[ptr c, nmv (rt).dir, .int .i64 (rt).seg, vn8, va8, .int .i64 ((rt).top : Int)] 118 (0, 0)) := HL8.out.box8 HBE.out (.inr rfl) hg8
                have HOO := Lib.hid ho8
                have HGG := Lib.hid hg8
                have HLL := Lib.hid hl9
                have r4 : w8.cell? ⟨b, 4, none⟩ = some va8 := by simp [World.cell?, hbx]
                have fz4 : w8.frozen? ⟨b, 4, none⟩ = false := frozen_zero hbx
                clear ho8 hg8 hl9 hall8 hbx q4
                try go_simp
                refine hK.out _ _ trivial (fun _ => ?_)
                clear hK K
                try go_simp
                refine wpAnyH_take (i := 9) (v := ?vh4ta_9) rfl (by kernel_rfl) (by kernel_rfl) (by kernel_rfl) (fun _ _ _ h => h) (Or.inl ⟨by rfl, ?yh4ta_9⟩) trivial ?rh4ta_9
                case yh4ta_9 => (intro W hSw; (try dsimp only at hSw); obtain _ := hSw; first | (go_simp; done) | (go_simp; with_reducible rfl))
                try go_simp
                refine wpAnyH_take (i := 10) (v := ?vh4ta_10) rfl (by kernel_rfl) (by kernel_rfl) (by kernel_rfl) (fun _ _ _ h => h) (Or.inl ⟨by rfl, ?yh4ta_10⟩) trivial ?rh4ta_10
                case yh4ta_10 => (intro W hSw; (try dsimp only at hSw); obtain _ := hSw; first | (go_simp; done) | (go_simp; with_reducible rfl))
                try go_simp
                refine wpAnyH_ready (rs := [11]) (by kernel_rfl) (by simp) ?_
                refine AllReadyH.cons rfl (fun K hK => ?_) AllReadyH.nil
                go_simp
                refine hK.out _ _ trivial (fun _ => ?_)
                clear hK K
                try go_simp
                refine wpAnyH_done (by kernel_rfl) ?_ _
                obtain ⟨hwE, htE⟩ := rapp_end HW8.out HBW8.out HL8.out HB9.out HO9.out HOO.out HGG.out HLL.out
                have HWE := Lib.hid hwE
                have HTE := Lib.hid htE
                have hok2 : ROk { rt with all := (rt).all ++ [p] } := ⟨HKt.out.dir, HKt.out.ne, HKt.out.few, HKt.out.num, by show ((rt).all ++ [p]).length ≤ _; have := HAL.out; rw [List.length_append]; simp; omega, HKt.out.top⟩
                have HKE := Lib.hid hok2
                have hnx2 : (({ rt with all := (rt).all ++ [p] } : Rl).low + ({ rt with all := (rt).all ++ [p] } : Rl).all.length : Nat) = (rt).next + 1 := by show (rt).low + ((rt).all ++ [p]).length = (rt).low + (rt).all.length + 1; rw [List.length_append]; simp; omega
                have HNE := Lib.hid hnx2
                have hnt := HNt.out
                have hwv : IntKind.i64.wrap ((((rt).next + 1 : Nat) : Int) - 1) = (((rt).next : Nat) : Int) := by rw [wrap_in (by omega)]; omega
                have hwv2 : IntKind.i64.wrap (((rt).next : Int) + 1 - 1) = (((rt).next : Nat) : Int) := by rw [wrap_in (by omega)]; omega
                have hwv3 : wrap64 (((rt).next : Nat) : Int) = (((rt).next : Nat) : Int) := by unfold wrap64; omega
                clear hwE htE hok2 hnx2 c4 r4 fz4 hnt
                go_wp2_with (go_at_call 53; (obtain ⟨v0, a0, us0, hl0⟩ := HWE.out.lk; refine (rnext_any hl0 HKE.out).mono ?_); rw [HNE.out]; rintro e w10 ⟨rfl, hb10⟩; have HB10 := Lib.hid hb10; clear hb10 hl0)
                go_ret2
                try rw [hwv3]
                rw [HWR.out, if_pos HQ0.out]
                exact ⟨rfl, _, _, HWE.out.below HB10.out, (HGE.out.trans ((went_below HB7d.out).trans (went_log HTE.out))).trans (went_below HB10.out)⟩
              · go_simp
                (go_wp2_with (first | (go_at_call 26; (refine (copyBytes_any HP8.out hpl).mono ?_); rintro e w9 ⟨co, cc, rfl, ho9, hb9⟩; have HO9 := Lib.hid ho9; have HB9 := Lib.hid hb9; have p4 := (hb9.cell (p := ⟨b, 4, none⟩) HBS8.out).trans c4; clear ho9 hb9)))
                refine hK.out _ _ trivial (fun _ => ?_)
                clear hK K
                try go_simp
                refine wpAnyH_ready (rs := [4, 7]) (by kernel_rfl) (by simp) ?_
                refine AllReadyH.cons rfl (fun K hK => ?_) (AllReadyH.cons rfl (fun K hK => ?_) AllReadyH.nil)
                · go_simp
                  refine hK.out _ _ trivial (fun _ => ?_)
                  clear hK K
                  try go_simp
                  refine wpAnyH_ready (rs := [7]) (by kernel_rfl) (by simp) ?_
                  refine AllReadyH.cons rfl (fun K hK => ?_) AllReadyH.nil
                  go_simp
                  refine hK.out _ _ trivial (fun _ => ?_)
                  clear hK K
                  try go_simp
                  have HBE := Lib.hid (below_alloc HB9.out (.cells #[.slice co p.length cc] 36) HB9.out.size)
                  have q4 : (w9.alloc (.cells #[.slice co p.length cc] 36)).cell? ⟨b, 4, none⟩ = some va8 := (HL8.out.below HBE.out).c4
                  refine wpAnyH_ready (rs := [8]) (by kernel_rfl) (by simp) ?_
                  refine AllReadyH.cons rfl (fun K hK => ?_) AllReadyH.nil
                  have hall8 := (HL8.out.below HBE.out).all
                  refine oper_append_off under57 info36 rfl (by decide) (wanted_none rfl _) (.tmp 90) (.tmp 93) rfl rfl hall8 rfl (heap_alloc_new w9 _) rfl (Nat.le_trans HAL.out (by decide)) ?_
                  intro v8 w8 ho8 hg8 hl9
                  obtain ⟨o8, k8, rfl, _, _, _, _⟩ := ho8.slice
                  have hbx : w8.heap[b]? = some (.cells #[ptr c, nmv (rt).dir, .int .i64 (rt).seg, vn8, va8, .int .i64 ((rt).top : Int)] 118 (0, 0)) := HL8.out.box8 HBE.out (.inr rfl) hg8
                  have HOO := Lib.hid ho8
                  have HGG := Lib.hid hg8
                  have HLL := Lib.hid hl9
                  have r4 : w8.cell? ⟨b, 4, none⟩ = some va8 := by simp [World.cell?, hbx]
                  have fz4 : w8.frozen? ⟨b, 4, none⟩ = false := frozen_zero hbx
                  clear ho8 hg8 hl9 hall8 hbx q4
                  try go_simp
                  refine hK.out _ _ trivial (fun _ => ?_)
                  clear hK K
                  try go_simp
                  refine wpAnyH_take (i := 9) (v := ?vh4tb_9) rfl (by kernel_rfl) (by kernel_rfl) (by kernel_rfl) (fun _ _ _ h => h) (Or.inl ⟨by rfl, ?yh4tb_9⟩) trivial ?rh4tb_9
                  case yh4tb_9 => (intro W hSw; (try dsimp only at hSw); obtain _ := hSw; first | (go_simp; done) | (go_simp; with_reducible rfl))
                  try go_simp
                  refine wpAnyH_take (i := 10) (v := ?vh4tb_10) rfl (by kernel_rfl) (by kernel_rfl) (by kernel_rfl) (fun _ _ _ h => h) (Or.inl ⟨by rfl, ?yh4tb_10⟩) trivial ?rh4tb_10
                  case yh4tb_10 => (intro W hSw; (try dsimp only at hSw); obtain _ := hSw; first | (go_simp; done) | (go_simp; with_reducible rfl))
                  try go_simp
                  refine wpAnyH_ready (rs := [11]) (by kernel_rfl) (by simp) ?_
                  refine AllReadyH.cons rfl (fun K hK => ?_) AllReadyH.nil
                  go_simp
                  refine hK.out _ _ trivial (fun _ => ?_)
                  clear hK K
                  try go_simp
                  refine wpAnyH_done (by kernel_rfl) ?_ _
                  obtain ⟨hwE, htE⟩ := rapp_end HW8.out HBW8.out HL8.out HB9.out HO9.out HOO.out HGG.out HLL.out
                  have HWE := Lib.hid hwE
                  have HTE := Lib.hid htE
                  have hok2 : ROk { rt with all := (rt).all ++ [p] } := ⟨HKt.out.dir, HKt.out.ne, HKt.out.few, HKt.out.num, by show ((rt).all ++ [p]).length ≤ _; have := HAL.out; rw [List.length_append]; simp; omega, HKt.out.top⟩
                  have HKE := Lib.hid hok2
                  have hnx2 : (({ rt with all := (rt).all ++ [p] } : Rl).low + ({ rt with all := (rt).all ++ [p] } : Rl).all.length : Nat) = (rt).next + 1 := by show (rt).low + ((rt).all ++ [p]).length = (rt).low + (rt).all.length + 1; rw [List.length_append]; simp; omega
                  have HNE := Lib.hid hnx2
                  have hnt := HNt.out
                  have hwv : IntKind.i64.wrap ((((rt).next + 1 : Nat) : Int) - 1) = (((rt).next : Nat) : Int) := by rw [wrap_in (by omega)]; omega
                  have hwv2 : IntKind.i64.wrap (((rt).next : Int) + 1 - 1) = (((rt).next : Nat) : Int) := by rw [wrap_in (by omega)]; omega
                  have hwv3 : wrap64 (((rt).next : Nat) : Int) = (((rt).next : Nat) : Int) := by unfold wrap64; omega
                  clear hwE htE hok2 hnx2 c4 r4 fz4 hnt
                  go_wp2_with (go_at_call 53; (obtain ⟨v0, a0, us0, hl0⟩ := HWE.out.lk; refine (rnext_any hl0 HKE.out).mono ?_); rw [HNE.out]; rintro e w10 ⟨rfl, hb10⟩; have HB10 := Lib.hid hb10; clear hb10 hl0)
                  go_ret2
                  try rw [hwv3]
                  rw [HWR.out, if_pos HQ0.out]
                  exact ⟨rfl, _, _, HWE.out.below HB10.out, (HGE.out.trans ((went_below HB7d.out).trans (went_log HTE.out))).trans (went_below HB10.out)⟩
                · go_simp
                  refine hK.out _ _ trivial (fun _ => ?_)
                  clear hK K
                  try go_simp
                  have HBE := Lib.hid (below_alloc HB9.out (.cells #[.slice co p.length cc] 36) HB9.out.size)
                  have q4 : (w9.alloc (.cells #[.slice co p.length cc] 36)).cell? ⟨b, 4, none⟩ = some va8 := (HL8.out.below HBE.out).c4
                  refine wpAnyH_ready (rs := [4]) (by kernel_rfl) (by simp) ?_
                  refine AllReadyH.cons rfl (fun K hK => ?_) AllReadyH.nil
                  go_simp
                  refine hK.out _ _ trivial (fun _ => ?_)
                  clear hK K
                  try go_simp
                  refine wpAnyH_ready (rs := [8]) (by kernel_rfl) (by simp) ?_
                  refine AllReadyH.cons rfl (fun K hK => ?_) AllReadyH.nil
                  have hall8 := (HL8.out.below HBE.out).all
                  refine oper_append_off under57 info36 rfl (by decide) (wanted_none rfl _) (.tmp 90) (.tmp 93) rfl rfl hall8 rfl (heap_alloc_new w9 _) rfl (Nat.le_trans HAL.out (by decide)) ?_
                  intro v8 w8 ho8 hg8 hl9
                  obtain ⟨o8, k8, rfl, _, _, _, _⟩ := ho8.slice
                  have hbx : w8.heap[b]? = some (.cells #[ptr c, nmv (rt).dir, .int .i64 (rt).seg, vn8, va8, .int .i64 ((rt).top : Int)] 118 (0, 0)) := HL8.out.box8 HBE.out (.inr rfl) hg8
                  have HOO := Lib.hid ho8
                  have HGG := Lib.hid hg8
                  have HLL := Lib.hid hl9
                  have r4 : w8.cell? ⟨b, 4, none⟩ = some va8 := by simp [World.cell?, hbx]
                  have fz4 : w8.frozen? ⟨b, 4, none⟩ = false := frozen_zero hbx
                  clear ho8 hg8 hl9 hall8 hbx q4
                  try go_simp
                  refine hK.out _ _ trivial (fun _ => ?_)
                  clear hK K
                  try go_simp
                  refine wpAnyH_take (i := 9) (v := ?vh4tc_9) rfl (by kernel_rfl) (by kernel_rfl) (by kernel_rfl) (fun _ _ _ h => h) (Or.inl ⟨by rfl, ?yh4tc_9⟩) trivial ?rh4tc_9
                  case yh4tc_9 => (intro W hSw; (try dsimp only at hSw); obtain _ := hSw; first | (go_simp; done) | (go_simp; with_reducible rfl))
                  try go_simp
                  refine wpAnyH_take (i := 10) (v := ?vh4tc_10) rfl (by kernel_rfl) (by kernel_rfl) (by kernel_rfl) (fun _ _ _ h => h) (Or.inl ⟨by rfl, ?yh4tc_10⟩) trivial ?rh4tc_10
                  case yh4tc_10 => (intro W hSw; (try dsimp only at hSw); obtain _ := hSw; first | (go_simp; done) | (go_simp; with_reducible rfl))
                  try go_simp
                  refine wpAnyH_ready (rs := [11]) (by kernel_rfl) (by simp) ?_
                  refine AllReadyH.cons rfl (fun K hK => ?_) AllReadyH.nil
                  go_simp
                  refine hK.out _ _ trivial (fun _ => ?_)
                  clear hK K
                  try go_simp
                  refine wpAnyH_done (by kernel_rfl) ?_ _
                  obtain ⟨hwE, htE⟩ := rapp_end HW8.out HBW8.out HL8.out HB9.out HO9.out HOO.out HGG.out HLL.out
                  have HWE := Lib.hid hwE
                  have HTE := Lib.hid htE
                  have hok2 : ROk { rt with all := (rt).all ++ [p] } := ⟨HKt.out.dir, HKt.out.ne, HKt.out.few, HKt.out.num, by show ((rt).all ++ [p]).length ≤ _; have := HAL.out; rw [List.length_append]; simp; omega, HKt.out.top⟩
                  have HKE := Lib.hid hok2
                  have hnx2 : (({ rt with all := (rt).all ++ [p] } : Rl).low + ({ rt with all := (rt).all ++ [p] } : Rl).all.length : Nat) = (rt).next + 1 := by show (rt).low + ((rt).all ++ [p]).length = (rt).low + (rt).all.length + 1; rw [List.length_append]; simp; omega
                  have HNE := Lib.hid hnx2
                  have hnt := HNt.out
                  have hwv : IntKind.i64.wrap ((((rt).next + 1 : Nat) : Int) - 1) = (((rt).next : Nat) : Int) := by rw [wrap_in (by omega)]; omega
                  have hwv2 : IntKind.i64.wrap (((rt).next : Int) + 1 - 1) = (((rt).next : Nat) : Int) := by rw [wrap_in (by omega)]; omega
                  have hwv3 : wrap64 (((rt).next : Nat) : Int) = (((rt).next : Nat) : Int) := by unfold wrap64; omega
                  clear hwE htE hok2 hnx2 c4 r4 fz4 hnt
                  go_wp2_with (go_at_call 53; (obtain ⟨v0, a0, us0, hl0⟩ := HWE.out.lk; refine (rnext_any hl0 HKE.out).mono ?_); rw [HNE.out]; rintro e w10 ⟨rfl, hb10⟩; have HB10 := Lib.hid hb10; clear hb10 hl0)
                  go_ret2
                  try rw [hwv3]
                  rw [HWR.out, if_pos HQ0.out]
                  exact ⟨rfl, _, _, HWE.out.below HB10.out, (HGE.out.trans ((went_below HB7d.out).trans (went_log HTE.out))).trans (went_below HB10.out)⟩
            · have hb1 : (((q.2 : Nat) : Int) != 0) = true := by simpa using hq0
              have HQ0 := Lib.hid hq0
              clear hq0
              go_wp2
              go_ret2
              rw [HWR.out, if_neg HQ0.out]
              exact ⟨rfl, _, _, HW7.out, HGE.out⟩
      · have hb2 : (((y2.2 : Nat) : Int) != 0) = true := by simpa using hq0
        have HQ0 := Lib.hid hq0
        clear hq0
        go_wp2
        go_ret2
        rw [HAP.out, HMO3.out, if_neg HQ0.out, if_neg HQ0.out]
        exact ⟨rfl, _, _, HW16.out, HGB.out⟩
    · have hb1 : (((y.2.2 : Nat) : Int) != 0) = true := by simpa using hy0
      have HY0 := Lib.hid hy0
      clear hy0
      go_wp2
      go_ret2
      rw [HAP.out, HMO2.out, if_neg HY0.out, if_neg HY0.out]
      exact ⟨rfl, _, _, HW11.out, HGA.out⟩
end
end Go.Proofs.YtkilkhnoldfhcaaGreatDoor
