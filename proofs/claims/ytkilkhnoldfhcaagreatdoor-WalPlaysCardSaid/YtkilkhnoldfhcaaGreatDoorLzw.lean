/- racelaw7.stands: both stand alike. Conditions: logs as a play keeps to. -/
import Derived.Test.YtkilkhnoldfhcaaGreatDoorLzq
namespace Go.Proofs.YtkilkhnoldfhcaaGreatDoor
open Go.RowKit
section
variable {B : Nat} {w w1 w2 : World} {dp c n T : Nat} {lv mv : Value} {d : Dk} {U V : Nat → Prop} {lg : Lg}
theorem lp_first (h : LP B w lv dp (some lg) d U) (hp : Pl n T lg d) : Calls Tryz.prog 31 #[lv] w fun e w' => e = .returned (.int .i64 (lg.low : Int)) ∧ Below w.heap.size w w' := by
  obtain ⟨a, C, S, rfl, hw, rfl⟩ := h
  obtain ⟨lo, all, hc, _⟩ := hp.ch
  obtain ⟨v, us, hl⟩ := hw.lk
  exact (first_any hl hc.ok).mono fun e w' h => ⟨h.1, h.2 ▸ Below.refl _ _⟩
theorem rp_first (h : RP B w mv c (some lg) d V) (hp : Pl n T lg d) (hT : T ≤ 60000) : Calls Tryz.prog 52 #[mv] w fun e w' => e = .returned (.int .i64 (lg.low : Int)) ∧ Below w.heap.size w w' := by
  obtain ⟨b, C, S, rfl, hw, rfl⟩ := h
  obtain ⟨lo, all, hc, _⟩ := hp.ch
  obtain ⟨vn, va, ua, hl⟩ := hw.lk
  refine (rfirst_any hl (pl_rok hp (by omega))).mono fun e w' h => ⟨?_, h.2 ▸ Below.refl _ _⟩
  rw [h.1, ref_low hc.ok.ne]
theorem lp_next (h : LP B w lv dp (some lg) d U) (hp : Pl n T lg d) : Calls Tryz.prog 29 #[lv] w fun e w' => e = .returned (.int .i64 (lg.next : Int)) ∧ Below w.heap.size w w' := by
  obtain ⟨a, C, S, rfl, hw, rfl⟩ := h
  obtain ⟨lo, all, hc, _⟩ := hp.ch
  obtain ⟨v, us, hl⟩ := hw.lk
  exact next_any hl hc.ok
theorem rp_next (h : RP B w mv c (some lg) d V) (hp : Pl n T lg d) (hT : T ≤ 60000) : Calls Tryz.prog 53 #[mv] w fun e w' => e = .returned (.int .i64 (lg.next : Int)) ∧ Below w.heap.size w w' := by
  obtain ⟨b, C, S, rfl, hw, rfl⟩ := h
  obtain ⟨lo, all, hc, _⟩ := hp.ch
  obtain ⟨vn, va, ua, hl⟩ := hw.lk
  have e := rnext_any hl (pl_rok hp (by omega))
  have e2 : lg.ref.low + lg.ref.all.length = lg.next := hc.ref_next
  rw [e2] at e
  exact e
theorem lp_safe (h : LP B w lv dp (some lg) d U) : Calls Tryz.prog 30 #[lv] w fun e w' => e = .returned (.int .i64 (lg.safe : Int)) ∧ Below w.heap.size w w' := by
  obtain ⟨a, C, S, rfl, hw, rfl⟩ := h
  obtain ⟨v, us, hl⟩ := hw.lk
  exact (safe_any hl).mono fun e w' h => ⟨h.1, h.2 ▸ Below.refl _ _⟩
theorem rp_safe (h : RP B w mv c (some lg) d V) (hp : Pl n T lg d) (hT : T ≤ 60000) : Calls Tryz.prog 54 #[mv] w fun e w' => e = .returned (.int .i64 (lg.safe : Int)) ∧ Below w.heap.size w w' := by
  obtain ⟨b, C, S, rfl, hw, rfl⟩ := h
  obtain ⟨lo, all, hc, _, _, _, _, _, h6⟩ := pl_len hp hT
  obtain ⟨vn, va, ua, hl⟩ := hw.lk
  have e := rsafe_any hl (pl_rok hp (by omega))
  rw [h6] at e
  exact e
theorem pl_read (hp : Pl n T lg d) {j : Nat} (hj : lg.low + j < lg.next) : ∃ p, lg.read ((lg.low + j : Nat) : Int) = some p ∧ p.length ≤ 140737488355328 := by
  obtain ⟨lo, all, hc, hw⟩ := hp.ch
  have h1 := hc.low
  have h2 := hc.next
  have hj2 : j < all.length := by omega
  refine ⟨all[j], ?_, ?_⟩
  · rw [hc.read, h1, if_neg (by omega), show (((lo + j : Nat) : Int) - (lo : Int)).toNat = j by omega, List.getElem?_eq_getElem hj2]
  · have h3 : all[j].length + 12 ≤ (⟨0, all⟩ : Sg).size := rec_size (g := ⟨0, all⟩) (List.getElem_mem hj2)
    have h5 := size_le (l := lg.segs) (g := lg.last) hc.ok.last.1
    have h6 : (⟨0, all⟩ : Sg).size = wt all := rfl
    have h7 : wt all ≤ 1000000 * 4194304 := by
      obtain ⟨g0, r, h8, _, h9, _⟩ := hc.cons
      have hsum : ∀ l : List Sg, (∀ g ∈ l, g.size ≤ 4194304) → wt (allR l) ≤ l.length * 4194304 := fun l => by
        induction l with
        | nil => intro _; exact Nat.zero_le _
        | cons g l ih =>
          intro hg
          have h1 := ih (fun x hx => hg x (List.mem_cons_of_mem _ hx))
          have h2 := hg g List.mem_cons_self
          have h3 : wt g.recs = g.size := rfl
          rw [allR_cons, wt_append, h3, List.length_cons, Nat.succ_mul]
          omega
      have h10 := hsum lg.segs hc.ok.room
      rw [h8, h9] at h10
      rw [← h8] at h10
      exact Nat.le_trans h10 (Nat.mul_le_mul_right _ hc.ok.few)
    omega
end
section
variable {B : Nat} {w : World} {k dp c n T : Nat} {lv mv : Value} {dir : Nm} {seg : Int} {o : Option Lg} {lg : Lg} {d : Dk} {U V : Nat → Prop}
theorem on2v {B : Nat} {C : Nat → Prop} {w w' : World} {ao : Option Addr} {n cap : Nat} {l : List UInt8} (h : SB C w ao n cap l) (hb : Below B w w') (hC : ∀ k, C k → k < B) : SB C w' ao n cap l :=
  h.tn (S := fun j => B ≤ j) ⟨hb.os, hb.tape, hb.output, hb.size, fun k _ hn => hb.block k (Nat.lt_of_not_le hn)⟩ (fun k hk e => absurd (hC k hk) (Nat.not_lt.2 e))
theorem same_bo (h : Bo B w k lv mv dp c dir seg o d U V) : Calls Tryz.prog 51 #[ptr dp, ptr c] w fun e w' => e = .returned (.bool true) ∧ Below w.heap.size w w' := by
  have hB : B ≤ w.heap.size := Nat.le_trans h.kb (Nat.le_of_lt h.lt)
  obtain ⟨_, hd, _, _⟩ := h.lp.turn hB
  obtain ⟨_, hr, _, _⟩ := h.rp.turn hB
  exact same_disks hd hr
set_option maxRecDepth 100000 in
theorem stands_none (h : Bo B w k lv mv dp c dir seg none d U V) : Calls Tryz.prog 16 #[ptr k] w fun e w' => e = .returned (.bool true) ∧ Below w.heap.size w w' := by
  have HO := Lib.hid h
  have HOD := Lib.hid (h.below (Below.refl _ w).drew)
  have HKD : Hid (k < w.drew.heap.size) := h.lt
  obtain rfl : mv = .pointer none := h.rp.1
  have c0 : w.drew.cell? ⟨k, 0, none⟩ = some (ptr dp) := HOD.out.c0
  have c1 : w.drew.cell? ⟨k, 1, none⟩ = some (ptr c) := HOD.out.c1
  clear h
  go_enter Tryz.func16, Tryz.ntmps16
  go_upto_region 1 with (fail)
  go_region_held (fun w' => w'.cell? ⟨k, 0, none⟩ = some (ptr dp) ∧ w'.cell? ⟨k, 1, none⟩ = some (ptr c)) (exact ⟨c0, c1⟩) (first
    | (go_at_call 51; (refine (same_bo HOD.out).mono ?_); rintro e w2 ⟨rfl, hb⟩; have HB2 := Lib.hid hb; have c0 := (hb.cell (p := ⟨k, 0, none⟩) HKD.out).trans c0; have c1 := (hb.cell (p := ⟨k, 1, none⟩) HKD.out).trans c1; clear hb))
  have HB3 : Hid (Below w.heap.size w w2) := (Below.refl _ w).drew.trans (HB2.out.mono (Nat.le_refl _))
  have c3 := (HO.out.below HB3.out).c3
  clear c0 c1
  go_wp2
  go_ret
  exact ⟨rfl, HB3.out⟩
set_option maxRecDepth 100000 in
set_option maxHeartbeats 8000000 in
theorem stands_some (h : Bo B w k lv mv dp c dir seg (some lg) d U V) (hp : Pl n T lg d ∧ T ≤ 60000) : Calls Tryz.prog 16 #[ptr k] w fun e w' => e = .returned (.bool true) ∧ Below w.heap.size w w' := by
  have HP := Lib.hid hp
  have HO := Lib.hid h
  have HOD := Lib.hid (h.below (Below.refl _ w).drew)
  have HKD : Hid (k < w.drew.heap.size) := h.lt
  obtain ⟨la, rfl⟩ : ∃ la, lv = ptr la := by obtain ⟨a, _, _, e, _⟩ := h.lp; exact ⟨a, e⟩
  obtain ⟨mb, rfl⟩ : ∃ mb, mv = ptr mb := by obtain ⟨b, _, _, e, _⟩ := h.rp; exact ⟨b, e⟩
  have c0 : w.drew.cell? ⟨k, 0, none⟩ = some (ptr dp) := HOD.out.c0
  have c1 : w.drew.cell? ⟨k, 1, none⟩ = some (ptr c) := HOD.out.c1
  clear h hp
  go_enter Tryz.func16, Tryz.ntmps16
  go_upto_region 1 with (fail)
  go_region_held (fun w' => w'.cell? ⟨k, 0, none⟩ = some (ptr dp) ∧ w'.cell? ⟨k, 1, none⟩ = some (ptr c)) (exact ⟨c0, c1⟩) (first
    | (go_at_call 51; (refine (same_bo HOD.out).mono ?_); rintro e w2 ⟨rfl, hb⟩; have HB2 := Lib.hid hb; have c0 := (hb.cell (p := ⟨k, 0, none⟩) HKD.out).trans c0; have c1 := (hb.cell (p := ⟨k, 1, none⟩) HKD.out).trans c1; clear hb))
  have HB3 : Hid (Below w.heap.size w w2) := (Below.refl _ w).drew.trans (HB2.out.mono (Nat.le_refl _))
  have c3 := (HO.out.below HB3.out).c3
  clear c0 c1
  go_upto_region 5 with (fail)
  have HB5 : Hid (Below w.heap.size w w2.drew) := HB3.out.trans ((Below.refl _ w2).drew.mono HB3.out.size)
  have HO5 := Lib.hid (HO.out.below HB5.out)
  have c2 := HO5.out.c2
  have c3 := HO5.out.c3
  go_region_held (fun w' => w'.cell? ⟨k, 2, none⟩ = some (ptr la) ∧ w'.cell? ⟨k, 3, none⟩ = some (ptr mb)) (exact ⟨c2, c3⟩) (first
    | (go_at_call 31; (refine (lp_first HO5.out.lp HP.out.1).mono ?_); rintro e w50 ⟨rfl, hb⟩; have HB5 := Lib.hid (HB5.out.trans (hb.mono HB5.out.size)); have HO5 := Lib.hid (HO5.out.below hb); have c2 := HO5.out.c2; have c3 := HO5.out.c3; clear hb)
    | (go_at_call 52; (refine (rp_first HO5.out.rp HP.out.1 HP.out.2).mono ?_); rintro e w51 ⟨rfl, hb⟩; have HB5 := Lib.hid (HB5.out.trans (hb.mono HB5.out.size)); have HO5 := Lib.hid (HO5.out.below hb); have c2 := HO5.out.c2; have c3 := HO5.out.c3; clear hb)
    | (go_at_call 29; (refine (lp_next HO5.out.lp HP.out.1).mono ?_); rintro e w52 ⟨rfl, hb⟩; have HB5 := Lib.hid (HB5.out.trans (hb.mono HB5.out.size)); have HO5 := Lib.hid (HO5.out.below hb); have c2 := HO5.out.c2; have c3 := HO5.out.c3; clear hb)
    | (go_at_call 53; (refine (rp_next HO5.out.rp HP.out.1 HP.out.2).mono ?_); rintro e w53 ⟨rfl, hb⟩; have HB5 := Lib.hid (HB5.out.trans (hb.mono HB5.out.size)); have HO5 := Lib.hid (HO5.out.below hb); have c2 := HO5.out.c2; have c3 := HO5.out.c3; clear hb)
    | (go_at_call 30; (refine (lp_safe HO5.out.lp).mono ?_); rintro e w54 ⟨rfl, hb⟩; have HB5 := Lib.hid (HB5.out.trans (hb.mono HB5.out.size)); have HO5 := Lib.hid (HO5.out.below hb); have c2 := HO5.out.c2; have c3 := HO5.out.c3; clear hb)
    | (go_at_call 54; (refine (rp_safe HO5.out.rp HP.out.1 HP.out.2).mono ?_); rintro e w55 ⟨rfl, hb⟩; have HB5 := Lib.hid (HB5.out.trans (hb.mono HB5.out.size)); have HO5 := Lib.hid (HO5.out.below hb); have c2 := HO5.out.c2; have c3 := HO5.out.c3; clear hb))
  have c3 := HO5.out.c3
  clear c2
  go_wp2_with (go_at_call 52; (refine (rp_first HO5.out.rp HP.out.1 HP.out.2).mono ?_); rintro e w60 ⟨rfl, hb⟩; have HB5 := Lib.hid (HB5.out.trans (hb.mono HB5.out.size)); have HO5 := Lib.hid (HO5.out.below hb); have c3 := HO5.out.c3; clear hb)
  obtain ⟨lo, hlo⟩ : ∃ lo, lo = lg.low := ⟨_, rfl⟩
  obtain ⟨nx, hnx⟩ : ∃ nx, nx = lg.next := ⟨_, rfl⟩
  rw [← hlo, ← hnx]
  have HLO := Lib.hid hlo
  have HNX := Lib.hid hnx
  have hle : lo ≤ nx ∧ nx ≤ 200000000 := by
    obtain ⟨lo2, all, hc, _⟩ := HP.out.1.ch
    have h1 := hc.low
    have h2 := hc.next
    have h3 := hc.ok.next
    omega
  have HLE := Lib.hid hle
  clear hlo hnx hle c3
  go_loopg [3, 4, 5, 6, 7, 8, 9, 10] (nx - lo) (fun gk v3 v4 v5 v6 v7 v8 v9 v10 wr => ∃ j, gk + j = nx - lo ∧ v3 = .int .i64 ((lo + j : Nat) : Int) ∧ Hid (Below w.heap.size w wr))
  case atStart => exact ⟨0, by omega, by simp, HB5⟩
  case round =>
    obtain ⟨j, hj, rfl, HB5⟩ := hrel
    have HO5 := Lib.hid (HO.out.below HB5.out)
    have c3 := HO5.out.c3
    have c2 := HO5.out.c2
    by_cases hjn : j < nx - lo
    · have hle := HLE.out
      have hlt : decide (((lo + j : Nat) : Int) < (nx : Int)) = true := decide_eq_true (by omega)
      have hlt2 : decide ((lo : Int) + (j : Int) < (nx : Int)) = true := decide_eq_true (by omega)
      obtain ⟨p, hrd, hpl⟩ := pl_read HP.out.1 (j := j) (by rw [← HLO.out, ← HNX.out]; omega)
      rw [← HLO.out] at hrd
      have HRD := Lib.hid hrd
      have HPL := Lib.hid hpl
      obtain ⟨gk2, rfl⟩ : ∃ gk2, gk = gk2 + 1 := ⟨gk - 1, by omega⟩
      have HNI : Hid (wrap64 (((lo + j : Nat) : Int) + 1) = ((lo + (j + 1) : Nat) : Int)) := Lib.hid (by unfold wrap64; omega)
      clear hrd hpl hle
      go_upto_region 14 with (first
        | (go_at_call 53; (refine (rp_next HO5.out.rp HP.out.1 HP.out.2).mono ?_); rw [← HNX.out]; rintro e w61 ⟨rfl, hb⟩; have HB5 := Lib.hid (HB5.out.trans (hb.mono HB5.out.size)); have HO5 := Lib.hid (HO5.out.below hb); have c2 := HO5.out.c2; have c3 := HO5.out.c3; clear hb)
        | (go_at_call 39; (refine (lp_read HO5.out.lp HP.out.1 ((lo + j : Nat) : Int)).mono ?_); rw [HRD.out]; rintro e w62 ⟨⟨xo, xc, rfl, hx⟩, hb⟩; have HX := Lib.hid hx; have HB62 := Lib.hid HB5.out.size; have HB5 := Lib.hid (HB5.out.trans (hb.mono HB5.out.size)); have HO5 := Lib.hid (HO5.out.below hb); have c2 := HO5.out.c2; have c3 := HO5.out.c3; clear hb hx)
        | (go_at_call 49; (refine (rp_read HO5.out.rp HP.out.1 HP.out.2 ((lo + j : Nat) : Int)).mono ?_); rw [HRD.out]; rintro e w63 ⟨⟨yo, yc, rfl, hy⟩, hb⟩; have HY := Lib.hid hy; have HB5 := Lib.hid (HB5.out.trans (hb.mono HB5.out.size)); have HO5 := Lib.hid (HO5.out.below hb); have HX := Lib.hid (own_below HX.out hb); have c2 := HO5.out.c2; have c3 := HO5.out.c3; clear hb hy)
        | (go_at_call 40; (refine (bytes_any (own_sb HX.out) HY.out).mono ?_); rw [beq_self_eq_true]; rintro e w64 ⟨rfl, hww⟩; obtain rfl := hww))
      have HVL : Hid (∀ q, V q → q < w.heap.size) := Lib.hid (fun q hq => (HO.out.rp.lt q hq).2)
      have HXB : Hid (∀ q, (Value.slice xo p.length xc).ownBlock = some q → w.heap.size ≤ q ∧ q < w63.heap.size) := Lib.hid (fun q hq => by have h1 := HX.out.lt q hq; have h2 := HB62.out; omega)
      clear c2 c3
      go_wp2
      go_loopg [8] p.length (fun gq v8 wq => ∃ i, gq + i = p.length ∧ v8 = .int .i64 (i : Int) ∧ Hid (Below w.heap.size w63 wq) ∧ Hid (∀ g, xo = some g → ∃ cs, wq.heap[g.block]? = some (.cells cs 5 (0, 0)) ∧ p.length ≤ cs.size))
      case atStart => exact ⟨0, rfl, rfl, Lib.hid (Below.refl _ _), Lib.hid (fun g hg => by
        rcases HX.out.2 with ⟨e, _⟩ | ⟨g2, c2, cs, e, _, h2, h3, _, h5, _⟩
        · injection e with e1; rw [hg] at e1; cases e1
        · injection e with e1
          rw [hg] at e1
          obtain rfl := Option.some.inj e1
          exact ⟨cs, h2, by omega⟩)⟩
      case round =>
        obtain ⟨i, hi, rfl, HBI, HCE⟩ := hrel
        have HBW3 : Hid (Below w.heap.size w wr) := HB5.out.trans HBI.out
        by_cases hin : i < p.length
        · have hlt3 : decide ((i : Int) < (p.length : Int)) = true := decide_eq_true (by omega)
          have hlt4 : (i : Int) < (p.length : Int) := by omega
          obtain ⟨g, cp, hv⟩ := own_shape HX.out (by omega)
          obtain ⟨hv1, hv2⟩ : xo = some ⟨g, 0, none⟩ ∧ cp = xc := by cases hv; exact ⟨rfl, rfl⟩
          subst hv2
          clear hv
          obtain ⟨cs, hcs, hsz⟩ := HCE.out _ hv1
          have hcs : wr.heap[g]? = some (.cells cs 5 (0, 0)) := hcs
          have cg : wr.cell? ⟨g, i, none⟩ = some (cs[i]'(by omega)) := by
            have : i < cs.size := by omega
            simp [World.cell?, hcs, this]
          have fz : wr.frozen? ⟨g, i, none⟩ = false := frozen_zero hcs
          have hgr := HXB.out g (by rw [hv1]; rfl)
          have HGR := Lib.hid hgr
          have HCS := Lib.hid hcs
          have HSZ := Lib.hid hsz
          have HNQ : Hid (wrap64 ((i : Int) + 1) = ((i + 1 : Nat) : Int)) := Lib.hid (by have := HPL.out; unfold wrap64; omega)
          obtain ⟨gq2, rfl⟩ : ∃ gq2, gk = gq2 + 1 := ⟨gk - 1, by omega⟩
          subst hv1
          clear hgr hcs
          go_wp2
          have hTg : Tn (· = g) wr (wr.setCell ⟨g, i, none⟩ (.int .u8 88)) := tn_set (Tn.refl _ _) _
          have HTG : Hid (Below w.heap.size wr (wr.setCell ⟨g, i, none⟩ (.int .u8 88))) := Lib.hid (hTg.below (by have := HBW3.out.size; exact this) (fun q hq => hq ▸ HGR.out.1))
          have HHS := Lib.hid (heap_set (o := i) HCS.out (.int .u8 88) rfl)
          clear hTg cg fz hlt3 hlt4 hsz
          go_roundg gq2
          case measure => omega
          case rel => rw [HNQ.out]; exact ⟨i + 1, by omega, rfl, Lib.hid (HBI.out.trans HTG.out), Lib.hid (fun g3 hg3 => by
            obtain rfl := Option.some.inj hg3
            exact ⟨_, HHS.out, by have := HSZ.out; simpa using this⟩)⟩
        · have hlt3 : decide ((i : Int) < (p.length : Int)) = false := decide_eq_false (by omega)
          have hlt4 : ¬ (i : Int) < (p.length : Int) := by omega
          have HO6 := Lib.hid (HO.out.below HBW3.out)
          have c2 := HO6.out.c2
          have HYW : Hid (SB V wr yo p.length yc p) := Lib.hid (on2v HY.out HBI.out HVL.out)
          go_wp2_with (first
            | (go_at_call 39; (refine (lp_read HO6.out.lp HP.out.1 ((lo + j : Nat) : Int)).mono ?_); rw [HRD.out]; rintro e w72 ⟨⟨zo, zc, rfl, hz⟩, hb⟩; have HZ := Lib.hid hz; have HYW := Lib.hid (HYW.out.below hb); have HBW3 := Lib.hid (HBW3.out.trans (hb.mono HBW3.out.size)); clear hb hz)
            | (go_at_call 40; (refine (bytes_any (own_sb HZ.out) HYW.out).mono ?_); rw [beq_self_eq_true]; rintro e w64 ⟨rfl, hww⟩; obtain rfl := hww))
          go_roundg gk2
          case measure => omega
          case rel => first | (rw [HNI.out]; exact ⟨j + 1, by omega, rfl, HBW3⟩) | exact ⟨j + 1, by omega, congrArg (Value.int .i64) (by have := HNI.out; rw [Int.natCast_add] at this; exact this), HBW3⟩
    · have hle := HLE.out
      have hlt : decide (((lo + j : Nat) : Int) < (nx : Int)) = false := decide_eq_false (by omega)
      have hlt2 : decide ((lo : Int) + (j : Int) < (nx : Int)) = false := decide_eq_false (by omega)
      go_wp2_with (go_at_call 53; (refine (rp_next HO5.out.rp HP.out.1 HP.out.2).mono ?_); rw [← HNX.out]; rintro e w61 ⟨rfl, hb⟩; have HB5 := Lib.hid (HB5.out.trans (hb.mono HB5.out.size)); clear hb)
      go_ret
      exact ⟨rfl, HB5.out⟩
end
end Go.Proofs.YtkilkhnoldfhcaaGreatDoor
