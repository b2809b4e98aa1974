/- racelaw7.opened: a log of a new disk that did operations. Conditions: few operations, a segment's size that may be. -/
import Derived.Test.YtkilkhnoldfhcaaGreatDoorLw
namespace Go.Proofs.YtkilkhnoldfhcaaGreatDoor
open Go.RowKit
theorem f_openN (full : Nat) (h : 64 ≤ full ∧ full ≤ 262144) : openL dLog (full : Int) .zero = (some (opZero full).1, fDA, 0) := by
  unfold openL
  rw [if_neg (by decide), if_neg (by omega), if_neg (by decide), Int.toNat_natCast]
  kernel_rfl
section
variable {B : Nat} {w w1 w2 : World} {v : Value} {C S C' S' : Nat → Prop}
/-- What lies apart from log and disk stays so. -/
theorem apart_went (hd : ∀ k, v.ownBlock = some k → ¬ C k ∧ ¬ S k) (hlt : ∀ k, v.ownBlock = some k → k < w1.heap.size) (hg : Went (fun k => C k ∨ S k) w1 w2 (fun k => C' k ∨ S' k)) : ∀ k, v.ownBlock = some k → ¬ C' k ∧ ¬ S' k := by
  intro k hk
  have h1 := hd k hk
  have h2 := hlt k hk
  exact ⟨fun e => (hg.sub k (.inl e)).elim (fun x => x.elim h1.1 h1.2) (fun x => by omega), fun e => (hg.sub k (.inr e)).elim (fun x => x.elim h1.1 h1.2) (fun x => by omega)⟩
end
/-- Turns of what is neither log nor disk. -/
theorem WL.aside {B : Nat} {w w' : World} {a dp : Nat} {C S U : Nat → Prop} {lg : Lg} {d : Dk} (h : WL B w a C lg dp S d) (ht : Tn U w w') (hC : ∀ k, C k → ¬ U k) (hS : ∀ k, S k → ¬ U k) : WL B w' a C lg dp S d :=
  ⟨let ⟨v, us, hl⟩ := h.lk; ⟨v, us, hl.tn ht hC⟩, h.dk.tn ht hS, h.cb, h.sb, h.cs⟩
set_option maxRecDepth 100000 in
set_option maxHeartbeats 8000000 in
theorem opened_any (w : World) (hT : Tabs w) (full : Nat) (hf : 64 ≤ full ∧ full ≤ 262144) {ao : Option Addr} {cap : Nat} {l : List Wo} (h : SW (fun k => k < w.heap.size) w ao l.length cap l) (hfew : fewW l = true) :
    Calls Tryz.prog 38 #[.int .i64 (full : Int), .slice ao l.length cap] w fun e w' => ∃ a dp C S v us, e = .returned (.tuple #[ptr dp, ptr a, v]) ∧ WL w.heap.size w' a C (opFold full l).1 dp S (opFold full l).2.1 ∧ AO w.heap.size w w' v us (opFold full l).2.2 ∧ Below w.heap.size w w' := by
  have HT := Lib.hid hT
  have H6 := Lib.hid hT.size
  have H := Lib.hid h
  have HFO := Lib.hid (f_openN full hf)
  have HIN := Lib.hid (opIn_all (full := full) hfew)
  have HFT := Lib.hid (opFold_take full l)
  have HFW := Lib.hid (feww_yes hfew)
  have hl2 := (feww_yes hfew).1
  clear hT h hfew hf
  go_enter Tryz.func38, Tryz.ntmps38
  go_wp2_with (first
    | (go_at_call 13; (refine (new_any _).mono ?_); rintro e w1 ⟨rfl, hb, hd⟩; have HB := Lib.hid hb; have HD := Lib.hid hd; clear hb hd)
    | (go_at_call 23; (refine (open_any (B := w.heap.size) HD.out (fun k hk => hk.1) HB.out.size (HT.out.below HB.out) H6.out dLog (by decide) (full : Int) (by decide) (by decide) (fun _ h => absurd (by kernel_rfl) h)).mono ?_); rw [HFO.out]; rintro e w2 ⟨_, a, C0, S0, rfl, hw, hg⟩; have HW0 := Lib.hid hw; have HB0 := Lib.hid (HB.out.trans (hg.tn.below HB.out.size (fun k hk => hk.1))); clear hw hg))
  go_loopw [10, 11] (fun v10 vi wr => ∃ (i : Nat) (C S : Nat → Prop) (us : List Value), vi = .int .i64 (i : Int) ∧ i ≤ l.length ∧ Hid (WL w.heap.size wr a C (opFold full (l.take i)).1 (w.heap.size + 1) S (opFold full (l.take i)).2.1) ∧ Hid (AO w.heap.size w wr v10 us (opFold full (l.take i)).2.2) ∧ Hid (∀ k, v10.ownBlock = some k → ¬ C k ∧ ¬ S k) ∧ Hid (Below w.heap.size w wr)) (fun _ vi _ => l.length - (RowKit.intOf vi).toNat)
  case atStart => exact ⟨0, C0, S0, [], rfl, Nat.zero_le _, HW0, Lib.hid (AO.nil _ _ _), Lib.hid (fun _ h => (nomatch h)), HB0⟩
  case round =>
    clear HW0 HB0 HD HB
    obtain ⟨i, C, S, us, rfl, hi, HW, HA, HAP, HB⟩ := hrel
    by_cases hlt : i < l.length
    · have hil : (i : Int) < (l.length : Int) := by omega
      have hil2 : decide ((i : Int) < (l.length : Int)) = true := decide_eq_true hil
      have hwi : IntKind.i64.wrap ((i : Int) + 1) = ((i + 1 : Nat) : Int) := by rw [wrap_in (by omega)]; omega
      obtain ⟨b, off, rfl, hbl, ho, hwf⟩ := H.out.at_ hlt
      have q0 := (HB.out.cell (p := ⟨b, off + i * 6, none⟩) hbl).trans ho.c0
      obtain ⟨a3, k3, c3, s3⟩ := ho.c3
      have q3 := (HB.out.cell (p := ⟨b, off + i * 6 + 3, none⟩) hbl).trans c3
      have HI := Lib.hid (HIN.out i hi)
      have HS := Lib.hid (HFT.out i hlt)
      have HLT := Lib.hid hlt
      have HS3 := Lib.hid s3
      have HBL := Lib.hid hbl
      have HC3 := Lib.hid c3
      generalize l[i] = p at *
      clear ho hwf s3 hbl c3 hlt
      generalize opFold full (l.take i) = s at *
      obtain ⟨lg, d, all⟩ := s
      simp only at HW HA
      by_cases hk1 : p.kind = 1
      · have t1 : (p.kind == 1) = true := by simpa using hk1
        have HST : Hid (opFold full (l.take (i + 1)) = ((lg.append d p.b).1, (lg.append d p.b).2.1, if (lg.append d p.b).2.2.2 = 0 then all ++ [p.b] else all)) := Lib.hid (HS.out.trans (if_pos hk1))
        clear hk1
        generalize hr : lg.append d p.b = r at *
        go_upto_region 14 with (go_at_call 25; (refine (lappend_any HW.out HB.out.size (HT.out.below HB.out) H6.out HI.out.ch.ok (by have := HI.out.few; simp only at this; omega) (by have := HI.out.done; simp only at this; omega) (HS3.out.below HB.out) (fun k hk => ⟨Nat.lt_of_lt_of_le hk HB.out.size, fun e => absurd (HW.out.cb k e) (Nat.not_le_of_lt hk), fun e => absurd (HW.out.sb k e) (Nat.not_le_of_lt hk)⟩)).mono ?_); rw [hr]; rintro e w3 ⟨rfl, C3, S3, hw, hg⟩; have HW3 := Lib.hid hw; have HA3 := Lib.hid (HA.out.tn hg.tn (fun k hk e => e.elim (HAP.out k hk).1 (HAP.out k hk).2)); have HAP3 := Lib.hid (apart_went HAP.out (fun k hk => (HA.out.own.lt k hk).2) hg); have HB3 := Lib.hid (HB.out.trans (HW.out.went HB.out.size hg)); clear hw hg)
        by_cases h0 : r.2.2.2 = 0
        · have t2 : (((r.2.2.2 : Nat) : Int) == 0) = true := by rw [h0]; rfl
          rw [if_pos h0] at HST
          clear h0
          obtain ⟨ro, rc, hv⟩ := own_slice HA3.out.own
          subst hv
          have q3' := (HB3.out.cell (p := ⟨b, off + i * 6 + 3, none⟩) HBL.out).trans HC3.out
          have HRM : Hid (all.length ≤ 1000000) := Lib.hid (by have := HI.out.len; simp only at this; omega)
          clear q0 q3
          go_wp2_with (at_builtin; refine wpList_append_rec (wanted_none rfl _) (.tmp 54) (.tmp 60) rfl rfl ((HA3.out.below (below1 w3 _)).own) rfl (heap_alloc_new w3 _) rfl HRM.out ?_; intro v4 w4 ho4 hg4 hl4; have HO4 := Lib.hid ho4; have HG4 : Hid ((w3.alloc (.cells #[.slice a3 p.b.length k3] 36)).grownBy w4 (Value.slice ro all.length rc).ownBlock) := Lib.hid hg4; have HL4 : Hid (v4.ownBlock = (Value.slice ro all.length rc).ownBlock ∨ v4.ownBlock = some (w3.alloc (.cells #[.slice a3 p.b.length k3] 36)).heap.size) := Lib.hid hl4; clear ho4 hg4 hl4)
          have hb5 := HB3.out.trans ((below1 w3 (.cells #[.slice a3 p.b.length k3] 36)).mono HB3.out.size)
          have ha5 := HA3.out.below (below1 w3 (.cells #[.slice a3 p.b.length k3] 36))
          have hw5 := HW3.out.below (below1 w3 (.cells #[.slice a3 p.b.length k3] 36))
          have ht5 : Tn (fun k => (Value.slice ro all.length rc).ownBlock = some k) (w3.alloc (.cells #[.slice a3 p.b.length k3] 36)) w4 := (Tn.refl _ _).grown HG4.out (fun k e _ => e)
          have hw6 := hw5.aside ht5 (fun k hk e => (HAP3.out k e).1 hk) (fun k hk e => (HAP3.out k e).2 hk)
          have hap : ∀ k, v4.ownBlock = some k → ¬ C3 k ∧ ¬ S3 k := fun k hk => by
            rcases HL4.out with e | e
            · exact HAP3.out k (e ▸ hk)
            · rw [e] at hk
              injection hk with hk
              subst hk
              exact ⟨fun x => absurd (hw5.clt _ x) (Nat.lt_irrefl _), fun x => absurd (hw5.dk.lt _ x) (Nat.lt_irrefl _)⟩
          have hlt2 := HLT.out
          exact ⟨⟨i + 1, C3, S3, _, congrArg (Value.int .i64) (by omega), hlt2, Lib.hid (by rw [HST.out]; exact hw6), Lib.hid (by rw [HST.out]; exact ha5.snoc HO4.out HL4.out hb5.size HS3.out), Lib.hid hap, Lib.hid (hb5.grown HG4.out hb5.size (fun k e => ha5.row k e))⟩, by simp [RowKit.intOf]; omega⟩
        · have t2 : (((r.2.2.2 : Nat) : Int) == 0) = false := by simpa using h0
          rw [if_neg h0] at HST
          clear h0 q0 q3
          go_wp2
          have hlt2 := HLT.out
          exact ⟨⟨i + 1, C3, S3, us, congrArg (Value.int .i64) (by omega), hlt2, Lib.hid (by rw [HST.out]; exact HW3.out), Lib.hid (by rw [HST.out]; exact HA3.out), HAP3, HB3⟩, by simp [RowKit.intOf]; omega⟩
      · have t1 : (p.kind == 1) = false := by simpa using hk1
        by_cases hk2 : p.kind = 2
        · have t2 : (p.kind == 2) = true := by simpa using hk2
          have HST : Hid (opFold full (l.take (i + 1)) = ((lg.sync d).1, (lg.sync d).2.1, all)) := Lib.hid (HS.out.trans ((if_neg hk1).trans (if_pos hk2)))
          clear hk1 hk2
          generalize hr : lg.sync d = r at *
          go_wp2_with (go_at_call 27; (refine (lsync_any HW.out HB.out.size HI.out.ch.ok (by have := HI.out.done; simp only at this; omega)).mono ?_); rw [hr]; rintro e w3 ⟨rfl, C3, S3, hw, hg⟩; have HW3 := Lib.hid hw; have HA3 := Lib.hid (HA.out.tn hg.tn (fun k hk e => e.elim (HAP.out k hk).1 (HAP.out k hk).2)); have HAP3 := Lib.hid (apart_went HAP.out (fun k hk => (HA.out.own.lt k hk).2) hg); have HB3 := Lib.hid (HB.out.trans (HW.out.went HB.out.size hg)); clear hw hg)
          have hlt2 := HLT.out
          exact ⟨⟨i + 1, C3, S3, us, congrArg (Value.int .i64) (by omega), hlt2, Lib.hid (by rw [HST.out]; exact HW3.out), Lib.hid (by rw [HST.out]; exact HA3.out), HAP3, HB3⟩, by simp [RowKit.intOf]; omega⟩
        · have t2 : (p.kind == 2) = false := by simpa using hk2
          have HST : Hid (opFold full (l.take (i + 1)) = (lg, d, all)) := Lib.hid (HS.out.trans ((if_neg hk1).trans (if_neg hk2)))
          clear hk1 hk2
          go_wp2
          have hlt2 := HLT.out
          exact ⟨⟨i + 1, C, S, us, congrArg (Value.int .i64) (by omega), hlt2, Lib.hid (by rw [HST.out]; exact HW.out), Lib.hid (by rw [HST.out]; exact HA.out), HAP, HB⟩, by simp [RowKit.intOf]; omega⟩
    · obtain rfl : i = l.length := by omega
      have hil : ¬ ((l.length : Nat) : Int) < (l.length : Int) := by omega
      have hil2 : decide (((l.length : Nat) : Int) < (l.length : Int)) = false := decide_eq_false hil
      rw [List.take_length] at HW HA
      go_wp2
      go_ret3
      exact ⟨a, _, C, S, _, rfl, HW.out, ⟨us, HA.out⟩, HB.out⟩
end Go.Proofs.YtkilkhnoldfhcaaGreatDoor
