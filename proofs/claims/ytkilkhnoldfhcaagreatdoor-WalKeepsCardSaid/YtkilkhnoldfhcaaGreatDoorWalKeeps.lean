/- Behind any crash, also within an Open, a log tells a beginning of what was appended, with all that were safe: racelaw7.WalKeeps answers true and leaves its arguments as they were. Conditions: the library's tables and errors hold what their initialisers lay. -/
import Derived.Test.YtkilkhnoldfhcaaGreatDoorLyn
namespace Go.Proofs.YtkilkhnoldfhcaaGreatDoor
open Go.ChangeShapes Go.WideShapes Go.ChangeAt Go.RowKit
theorem keeps_rb {W w : World} {B dp a g n0 l0 rr : Nat} {C S E : Nat → Prop} {lg : Lg} {d : Dk} {us : List Value} {AA : List (List UInt8)} (h : Mo W B dp a C S E w lg d (.slice (some ⟨g, 0, none⟩) n0 rr) us AA) (hl : AA.length = n0) (hl0 : l0 ≤ n0) (hck : ¬ rr = l0) : Fr.RB w.heap.size w (some ⟨g, l0, none⟩) (n0 - l0) (rr - l0) (AA.drop l0) := by
  have h1 := ro_rb2 h.ro hl.symm
  have h2 := h1.le
  exact rb_drop h1 hl0 (some ⟨g, l0, none⟩) (fun _ => by rw [Nat.zero_add]) (fun h => absurd (show l0 < rr by omega) h)
set_option maxRecDepth 100000 in
set_option maxHeartbeats 4000000 in
theorem keeps_not (W : World) (seg : Int) (ao : Option Addr) (cap : Nat) (l : List Fl) (hT : Tabs W) (hc : seg < 64 ∨ 262144 < seg) :
    Calls Tryz.prog 6 #[.int .i64 seg, .slice ao l.length cap] W fun e w' => e = .returned (.bool true) ∧ Below W.heap.size W w' := by
  have HT := Lib.hid hT
  have HB := Lib.hid (Below.refl W.heap.size W)
  clear hT
  have A11 := fun w (h : Below W.heap.size W w) => Lib.hid (first7 w (HT.out.below h))
  rcases (show seg < 64 ∨ (¬ seg < 64 ∧ 262144 < seg) by omega) with h3 | ⟨h3, h4⟩
  · have d1 : decide (seg < 64) = true := decide_eq_true h3
    clear hc h3
    go_enter Tryz.func6, Tryz.ntmps6
    go_wp2_with (go_at_call 11; (refine (A11 _ HB.out).out.mono ?_); rintro e w6 ⟨rfl, hb⟩; have HB := Lib.hid (HB.out.trans (hb.mono HB.out.size)); clear hb)
    go_ret
    exact ⟨rfl, HB.out⟩
  · have d1 : decide (seg < 64) = false := decide_eq_false h3
    have d2 : decide (262144 < seg) = true := decide_eq_true h4
    clear hc h3 h4
    go_enter Tryz.func6, Tryz.ntmps6
    go_wp2_with (go_at_call 11; (refine (A11 _ HB.out).out.mono ?_); rintro e w6 ⟨rfl, hb⟩; have HB := Lib.hid (HB.out.trans (hb.mono HB.out.size)); clear hb)
    go_ret
    exact ⟨rfl, HB.out⟩
set_option maxRecDepth 100000 in
set_option maxHeartbeats 32000000 in
theorem keeps_main (W : World) (full : Nat) (h64 : 64 ≤ full ∧ full ≤ 262144) (ao : Option Addr) (cap : Nat) (l : List Fl) (hl : SL (fun k => k < W.heap.size) W ao l.length cap l) (hT : Tabs W) :
    Calls Tryz.prog 6 #[.int .i64 (full : Int), .slice ao l.length cap] W fun e w' => e = .returned (.bool true) ∧ Below W.heap.size W w' := by
  have HT := Lib.hid hT
  have H6 := Lib.hid hT.size
  have HL := Lib.hid hl
  have HB := Lib.hid (Below.refl W.heap.size W)
  have hll := hl.lt
  have A11 := fun w (h : Below W.heap.size W w) => Lib.hid (first7 w (HT.out.below h))
  have HFO := Lib.hid (f_openN full h64)
  clear hT hl
  have d1 : decide ((full : Int) < 64) = false := decide_eq_false (by omega)
  have d2 : decide ((262144 : Int) < (full : Int)) = false := decide_eq_false (by omega)
  go_enter Tryz.func6, Tryz.ntmps6
  go_upto_region 5 with (go_at_call 11; (refine (A11 _ HB.out).out.mono ?_); rintro e w0 ⟨rfl, hb⟩; have HB := Lib.hid (HB.out.trans (hb.mono HB.out.size)); clear hb)
  have HBW : Hid (W.heap.size ≤ w0.heap.size) := Lib.hid HB.out.size
  have HB6 : Hid (6 ≤ w0.heap.size) := Lib.hid (Nat.le_trans H6.out HB.out.size)
  go_upto_region 11 with (first
    | (go_at_call 13; (refine (new_any _).mono ?_); rintro e w1 ⟨rfl, hb, hd⟩; have HD := Lib.hid hd; have HBX := Lib.hid hb; have HB := Lib.hid (HB.out.trans (hb.mono HB.out.size)); clear hb hd)
    | (go_at_call 23; (refine (open_any (B := w0.heap.size) HD.out (fun k hk => hk.1) HBX.out.size (HT.out.below HB.out) HB6.out dLog (by decide) (full : Int) (by decide) (by decide) (fun _ h => absurd (by kernel_rfl) h)).mono ?_); rw [HFO.out]; rintro e w2 ⟨_, a, C0, S0, rfl, hw, hg⟩; have HW0 := Lib.hid hw; have HBN := Lib.hid (hg.tn.below HBX.out.size (fun k hk => hk.1)); have HBX := Lib.hid (HBX.out.trans HBN.out); have HB := Lib.hid (HB.out.trans (HBN.out.mono HBW.out)); clear hw hg))
  go_wp2
  go_loopw [6, 8, 9] (fun v6 v8 vi wr => ∃ (i a : Nat) (C S E : Nat → Prop) (lg : Lg) (d : Dk) (lo : Nat) (all : List (List UInt8)) (us : List Value), vi = .int .i64 (i : Int) ∧ i ≤ l.length ∧ i ≤ 6 ∧ v6 = ptr a ∧ Hid (Mo W w0.heap.size (w0.heap.size + 1) a C S E wr lg d v8 us all) ∧ Hid (Kp full i 0 lg d lo all false [] [])) (fun _ _ vi _ => 6 - (intOf vi).toNat)
  case atStart => exact ⟨0, a, C0, S0, (fun _ => False), _, _, 1, [], [], rfl, Nat.zero_le _, Nat.zero_le _, rfl, Lib.hid ⟨HW0.out, RO.nil _ _, fun _ h => h.elim, HB.out, HBX.out.size, HBW.out⟩, Lib.hid (kp_zero h64.1)⟩
  case round =>
    clear HW0 HB HBX HD HBN
    obtain ⟨i, a, C, S, E, lg, d, lo, all, us, rfl, hi, hi6, rfl, HM, HKP⟩ := hrel
    by_cases hlt : i < l.length ∧ i < 6
    · obtain ⟨hlt, hl6⟩ := hlt
      have hil6 : (i : Int) < 6 := by omega
      have hwi : IntKind.i64.wrap ((i : Int) + 1) = ((i + 1 : Nat) : Int) := by rw [wrap_in (by omega)]; omega
      obtain ⟨fb, fo, hfa, hfl, hfo, hfw⟩ := HL.out.at_ hlt
      have f0 := (HM.out.below.cell (p := ⟨fb, fo + i * 4, none⟩) hfl).trans hfo.c0
      obtain ⟨la, lc, h1, s1⟩ := hfo.c1
      obtain ⟨pa, pc, h2, s2⟩ := hfo.c2
      obtain ⟨ra, rc0, h3, s3⟩ := hfo.c3
      have f1 := (HM.out.below.cell (p := ⟨fb, fo + i * 4 + 1, none⟩) hfl).trans h1
      have f2 := (HM.out.below.cell (p := ⟨fb, fo + i * 4 + 2, none⟩) hfl).trans h2
      have f3 := (HM.out.below.cell (p := ⟨fb, fo + i * 4 + 3, none⟩) hfl).trans h3
      have HLS := Lib.hid s1
      have HPS := Lib.hid s2
      have HRS := Lib.hid s3
      have HIL := Lib.hid (show i + 1 ≤ l.length from hlt)
      have HL6 := Lib.hid (show i + 1 ≤ 6 from hl6)
      have hst := hfw.steps
      have hpl := s1.lt
      subst hfa
      generalize l[i] = p at *
      clear hfo h1 h2 h3 s1 s2 s3 hlt hfw hfl
      have hba := below1 wr (.cells #[.int .i64 p.steps, .slice la p.l.length lc, .slice pa p.picks.length pc, .slice ra p.again.length rc0] 59)
      go_upto_region 16 with (fail)
      obtain ⟨wA, hwA⟩ : ∃ wA, wA = wr.alloc (.cells #[.int .i64 p.steps, .slice la p.l.length lc, .slice pa p.picks.length pc, .slice ra p.again.length rc0] 59) := ⟨_, rfl⟩
      have HX0 : Hid (Bx wr.heap.size (.int .i64 p.steps) (.slice la p.l.length lc) (.slice pa p.picks.length pc) (.slice ra p.again.length rc0) C S E wA) := Lib.hid ⟨by rw [hwA, World.cell?, heap_alloc_new]; rfl, by rw [hwA, World.cell?, heap_alloc_new]; rfl, by rw [hwA, World.cell?, heap_alloc_new]; rfl, by rw [hwA, World.cell?, heap_alloc_new]; rfl, fun e => absurd (HM.out.wl.clt _ e) (Nat.lt_irrefl _), fun e => absurd (HM.out.wl.dk.lt _ e) (Nat.lt_irrefl _), fun e => absurd (HM.out.e _ e).2.1 (Nat.lt_irrefl _)⟩
      rw [← hwA] at hba ⊢
      have HM := Lib.hid (HM.out.quiet hba)
      clear hwA hba f0 f1 f2 f3
      generalize wr.heap.size = bx at *
      have x0 := HX0.out.c0
      go_wp2_with (go_at_call 19; (refine (dk_arm HM.out.wl.dk p.steps hst.1 hst.2).mono ?_); rintro e w3 ⟨rfl, hd, ht⟩; have HM := Lib.hid (HM.out.disk hd ht); have HX := Lib.hid (HX0.out.disk ht); clear hd ht)
      have HKP := Lib.hid (HKP.out.arm p.steps)
      clear x0 HX0 hst
      go_loopw [8, 11, 12, 13] (fun v8 v11 v12 vk wr => ∃ (k : Nat) (C S E : Nat → Prop) (lg : Lg) (d : Dk) (lo : Nat) (all : List (List UInt8)) (us : List Value) (fell : Bool) (tn : List UInt8) (ta : Option Addr) (tc : Nat) (t : List UInt8), vk = .int .i64 (k : Int) ∧ k ≤ p.l.length ∧ k ≤ 40 ∧ v11 = .slice ta tn.length tc ∧ v12 = .bool fell ∧ Hid (Mo W w0.heap.size (w0.heap.size + 1) a C S E wr lg d v8 us all) ∧ Hid (Bx bx (.int .i64 p.steps) (.slice la p.l.length lc) (.slice pa p.picks.length pc) (.slice ra p.again.length rc0) C S E wr) ∧ Hid (Kp full i k lg d lo all fell tn t) ∧ Hid (SB (fun k => k < W.heap.size) W ta tn.length tc tn)) (fun _ _ _ vk _ => 40 - (intOf vk).toNat)
      case atStart => exact ⟨0, C, S, E, lg, _, lo, all, us, false, [], none, 0, [], rfl, Nat.zero_le _, Nat.zero_le _, rfl, rfl, HM, HX, HKP, Lib.hid (sb_nil _ _)⟩
      case round =>
        clear HM HX HKP
        obtain ⟨k, C, S, E, lg, d, lo, all, us, fell, tn, ta, tc, t, rfl, hk, hk4, rfl, rfl, HM, HX, HKP, HTN⟩ := hrel
        obtain ⟨ro, rc, hv8⟩ := own_slice HM.out.ro.own
        subst hv8
        have c1 := HX.out.c1
        by_cases hlt : k < p.l.length ∧ k < 40
        · obtain ⟨hlt, hl4⟩ := hlt
          have hi40 : (k : Int) < 40 := by omega
          have hwk : IntKind.i64.wrap ((k : Int) + 1) = ((k + 1 : Nat) : Int) := by rw [wrap_in (by omega)]; omega
          obtain ⟨b, off, hla, hbl, ho, hwf⟩ := HLS.out.at_ hlt
          have q0 := (HM.out.below.cell (p := ⟨b, off + k * 6, none⟩) hbl).trans ho.c0
          have q1 := (HM.out.below.cell (p := ⟨b, off + k * 6 + 1, none⟩) hbl).trans ho.c1
          have q2 := (HM.out.below.cell (p := ⟨b, off + k * 6 + 2, none⟩) hbl).trans ho.c2
          obtain ⟨a3, k3, h3, s3⟩ := ho.c3
          have q3 := (HM.out.below.cell (p := ⟨b, off + k * 6 + 3, none⟩) hbl).trans h3
          have q4 := (HM.out.below.cell (p := ⟨b, off + k * 6 + 4, none⟩) hbl).trans ho.c4
          obtain ⟨a5, k5, h5, s5⟩ := ho.c5
          have q5 := (HM.out.below.cell (p := ⟨b, off + k * 6 + 5, none⟩) hbl).trans h5
          subst hla
          have HSP := Lib.hid s3
          have HLT := Lib.hid (show k + 1 ≤ p.l.length from hlt)
          have HL4 := Lib.hid (show k + 1 ≤ 40 by omega)
          generalize p.l[k] = o at *
          have hok := HKP.out.ch.ok
          have hdn := HKP.out.done
          have HOK := Lib.hid hok
          have HFW : Hid (lg.segs.length ≤ 999999) := Lib.hid (Nat.le_trans (lieL_few HKP.out.lie HM.out.wl.dk.ok) (by decide))
          have HDN : Hid (d.done ≤ 1000000000) := Lib.hid (by omega)
          have HDL : Hid (d.done < 9223372036854775807) := Lib.hid (by omega)
          have HAL : Hid (all.length ≤ 1000000) := Lib.hid (by have := HKP.out.len; omega)
          have HDO := Lib.hid HM.out.wl.dk.ok
          have HI6 := Lib.hid hi6
          clear s3 s5 ho hwf h3 h5 hbl hok hdn
          go_upto_region 23 with (fail)
          have hba := below1 wr (.cells #[.int .i64 o.kind, .int .i64 o.n, .int .i64 o.m, .slice a3 o.b.length k3, nmv o.name, .slice a5 o.picks.length k5] 39)
          obtain ⟨wA, hwA⟩ : ∃ wA, wA = wr.alloc (.cells #[.int .i64 o.kind, .int .i64 o.n, .int .i64 o.m, .slice a3 o.b.length k3, nmv o.name, .slice a5 o.picks.length k5] 39) := ⟨_, rfl⟩
          have oc0 : wA.cell? ⟨wr.heap.size, 0, none⟩ = some (.int .i64 o.kind) := by rw [hwA, World.cell?, heap_alloc_new]; rfl
          have oc1 : wA.cell? ⟨wr.heap.size, 1, none⟩ = some (.int .i64 o.n) := by rw [hwA, World.cell?, heap_alloc_new]; rfl
          have oc3 : wA.cell? ⟨wr.heap.size, 3, none⟩ = some (.slice a3 o.b.length k3) := by rw [hwA, World.cell?, heap_alloc_new]; rfl
          rw [← hwA] at hba ⊢
          have HOB : Hid (¬ (C wr.heap.size ∨ S wr.heap.size)) := Lib.hid (fun e => e.elim (fun x => absurd (HM.out.wl.clt _ x) (Nat.lt_irrefl _)) (fun x => absurd (HM.out.wl.dk.lt _ x) (Nat.lt_irrefl _)))
          have HM := Lib.hid (HM.out.quiet hba)
          have HX := Lib.hid (HX.out.quiet hba)
          clear hwA hba q0 q1 q2 q3 q4 q5
          generalize wr.heap.size = ob at *
          have HE : Hid (∀ k, k < W.heap.size → k < wA.heap.size ∧ ¬ C k ∧ ¬ S k) := Lib.hid (fun k hk => ⟨Nat.lt_of_lt_of_le hk HM.out.below.size, fun e => absurd (HM.out.wl.cb k e) (Nat.not_le_of_lt (Nat.lt_of_lt_of_le hk HM.out.baseW)), fun e => absurd (HM.out.wl.sb k e) (Nat.not_le_of_lt (Nat.lt_of_lt_of_le hk HM.out.baseW))⟩)
          by_cases hlong : 1000 < o.b.length
          · have d1 : (1000 : Int) < (o.b.length : Int) := by omega
            have d2 : decide ((1000 : Int) < (o.b.length : Int)) = true := decide_eq_true d1
            clear d1
            have HKP2 := Lib.hid HKP.out.more
            go_wp2
            go_roundw
            case rel => exact ⟨k + 1, C, S, E, lg, d, lo, all, us, fell, tn, ta, tc, t, congrArg (Value.int .i64) (by omega), HLT.out, HL4.out, rfl, rfl, HM, HX, HKP2, HTN⟩
            case measure => (have h4 := HL4.out; simp [intOf]; omega)
          · have d1 : ¬ (1000 : Int) < (o.b.length : Int) := by omega
            have d2 : decide ((1000 : Int) < (o.b.length : Int)) = false := decide_eq_false d1
            have hob : o.b.length ≤ 1000 := by omega
            have HBL := Lib.hid hob
            have HRM : Hid (o.b.length ≤ 140737488355328) := Lib.hid (by omega)
            clear hlong hlt
            by_cases hk1 : o.kind = 1
            · have t1 : (o.kind == 1) = true := by simpa using hk1
              obtain ⟨p1, p2, p3⟩ := HKP.out.append (p := o.b) HDO.out HI6.out hl4 hob
              have P1 := Lib.hid p1
              have P2 := Lib.hid p2
              have P3 := Lib.hid p3
              clear hk1 hob p1 p2 p3 hl4
              generalize hr : lg.append d o.b = r at *
              by_cases h0 : r.2.2.2 = 0
              · have t2 : (((r.2.2.2 : Nat) : Int) == 0) = true := by rw [h0]; rfl
                have HKP2 := Lib.hid (P1.out h0)
                clear h0 P1 P2 P3
                obtain ⟨m2, hm2⟩ : ∃ m2, all.length + 1 = m2 := ⟨_, rfl⟩
                have HM1 := Lib.hid hm2
                have HM2 : Hid ((all ++ [o.b]).length = m2) := Lib.hid (by rw [← hm2]; simp)
                clear hm2
                as_aux_lemma =>
                  go_upto_region 36 with (first
                    | (go_at_call 24; (refine (dk_down HM.out.wl.dk).mono ?_); rintro e w2 ⟨rfl, rfl⟩)
                    | (go_at_call 25; (refine (lappend_any HM.out.wl HM.out.base (HT.out.below HM.out.below) HB6.out HOK.out HFW.out HDN.out (HSP.out.below HM.out.below) HE.out).mono ?_); rw [hr]; rintro e w3 ⟨rfl, C, S, hw, hg⟩; have oc0 := hg.tn.cell oc0 HOB.out; have oc1 := hg.tn.cell oc1 HOB.out; have oc3 := hg.tn.cell oc3 HOB.out; have HM := Lib.hid (HM.out.step hg hw); have HX := Lib.hid (HX.out.step hg); clear hw hg)
                    | (go_at_call 26; (refine (copyBytes_any (HSP.out.below HM.out.below) HRM.out).mono ?_); rintro e w5 ⟨co, cc, rfl, ho5, hb5⟩; have HO5 := Lib.hid ho5; have HB5 := Lib.hid hb5; clear ho5 hb5)
                    | (at_builtin; refine wpList_append_rec (wanted_none rfl _) (.tmp 99) (.tmp 103) rfl rfl ((HM.out.ro.below (HB5.out.trans ((below1 w5 _).mono HB5.out.size))).own) rfl (heap_alloc_new w5 _) rfl HAL.out ?_; intro v4 w4 ho4 hg4 hl4; have HO4 := Lib.hid ho4; have HMn := Lib.hid (HM.out.push HB5.out HO5.out hg4 ho4 hl4); have HXn := Lib.hid (HX.out.push HB5.out hg4 HM.out.ro.row); rw [HM1.out] at ho4; obtain ⟨ro4, rc4, hv4⟩ := own_slice ho4; subst hv4; clear ho4 hg4 hl4))
                  have HM := HMn
                  have HX := HXn
                  clear HMn HXn HO4 HO5 HB5
                  generalize r.1 = lg2 at *
                  obtain ⟨hn1, hn2⟩ := HKP2.out.next
                  have HN1 := Lib.hid hn1
                  have hsf2 : ¬ (m2 : Int) + 1 ≤ (lg2.safe : Int) := by have := HM2.out; omega
                  have hsf3 : decide ((m2 : Int) + 1 ≤ (lg2.safe : Int)) = false := decide_eq_false hsf2
                  have HOK2 := Lib.hid HKP2.out.ch.ok
                  have hmb : m2 ≤ 1000 := by have h1 := HKP2.out.len; have h2 := HM2.out; omega
                  rw [HM2.out] at HN1
                  clear hn1 hn2
                  go_wp2_with (first
                    | (go_at_call 29; (obtain ⟨v1, us1, hl1⟩ := HM.out.wl.lk; refine (next_any hl1 HOK2.out).mono ?_); rw [HN1.out]; rintro e w6 ⟨rfl, hb⟩; have HM := Lib.hid (HM.out.quiet hb); have HX := Lib.hid (HX.out.quiet hb); clear hb hl1)
                    | (go_at_call 30; (obtain ⟨v1, us1, hl1⟩ := HM.out.wl.lk; refine (safe_any hl1).mono ?_); rintro e w6 ⟨rfl, rfl⟩; clear hl1))
                  go_roundw
                  case rel => exact ⟨k + 1, C, S, _, lg2, r.2.1, lo, all ++ [o.b], _, fell, tn, ta, tc, [], congrArg (Value.int .i64) (by omega), HLT.out, HL4.out, rfl, rfl, HM, HX, HKP2, HTN⟩
                  case measure => (have h4 := HL4.out; simp [intOf]; omega)
              · have t2 : (((r.2.2.2 : Nat) : Int) == 0) = false := by simpa using h0
                cases hoff : d.off with
                | false =>
                  obtain ⟨t2', hkp⟩ := P2.out h0 hoff
                  have HKP2 := Lib.hid hkp
                  clear h0 P1 P2 P3 hkp
                  obtain ⟨m2, hm2⟩ : ∃ m2, all.length = m2 := ⟨_, rfl⟩
                  have HM2 := Lib.hid hm2
                  have HTN := Lib.hid (HSP.out)
                  as_aux_lemma =>
                    go_upto_region 36 with (first
                      | (go_at_call 24; (refine (dk_down HM.out.wl.dk).mono ?_); rintro e w2 ⟨rfl, rfl⟩)
                      | (go_at_call 25; (refine (lappend_any HM.out.wl HM.out.base (HT.out.below HM.out.below) HB6.out HOK.out HFW.out HDN.out (HSP.out.below HM.out.below) HE.out).mono ?_); rw [hr]; rintro e w3 ⟨rfl, C, S, hw, hg⟩; have oc0 := hg.tn.cell oc0 HOB.out; have oc1 := hg.tn.cell oc1 HOB.out; have oc3 := hg.tn.cell oc3 HOB.out; have HM := Lib.hid (HM.out.step hg hw); have HX := Lib.hid (HX.out.step hg); clear hw hg))
                    generalize r.1 = lg2 at *
                    rw [hm2] at HM
                    clear hm2
                    obtain ⟨hn1, hn2⟩ := HKP2.out.next
                    have HN1 := Lib.hid hn1
                    have hsf2 : ¬ (m2 : Int) + 1 ≤ (lg2.safe : Int) := by have := HM2.out; omega
                    have hsf3 : decide ((m2 : Int) + 1 ≤ (lg2.safe : Int)) = false := decide_eq_false hsf2
                    have HOK2 := Lib.hid HKP2.out.ch.ok
                    have hmb : m2 ≤ 1000 := by have h1 := HKP2.out.len; have h2 := HM2.out; omega
                    rw [HM2.out] at HN1
                    clear hn1 hn2
                    go_wp2_with (first
                      | (go_at_call 29; (obtain ⟨v1, us1, hl1⟩ := HM.out.wl.lk; refine (next_any hl1 HOK2.out).mono ?_); rw [HN1.out]; rintro e w6 ⟨rfl, hb⟩; have HM := Lib.hid (HM.out.quiet hb); have HX := Lib.hid (HX.out.quiet hb); clear hb hl1)
                      | (go_at_call 30; (obtain ⟨v1, us1, hl1⟩ := HM.out.wl.lk; refine (safe_any hl1).mono ?_); rintro e w6 ⟨rfl, rfl⟩; clear hl1))
                    go_roundw
                    case rel => exact ⟨k + 1, C, S, E, lg2, r.2.1, lo, all, us, true, o.b, a3, k3, t2', congrArg (Value.int .i64) (by omega), HLT.out, HL4.out, rfl, rfl, HM, HX, HKP2, HTN⟩
                    case measure => (have h4 := HL4.out; simp [intOf]; omega)
                | true =>
                  obtain ⟨t2', hkp⟩ := P3.out h0 hoff
                  have HKP2 := Lib.hid hkp
                  clear h0 P1 P2 P3 hkp
                  obtain ⟨m2, hm2⟩ : ∃ m2, all.length = m2 := ⟨_, rfl⟩
                  have HM2 := Lib.hid hm2
                  as_aux_lemma =>
                    go_upto_region 36 with (first
                      | (go_at_call 24; (refine (dk_down HM.out.wl.dk).mono ?_); rintro e w2 ⟨rfl, rfl⟩)
                      | (go_at_call 25; (refine (lappend_any HM.out.wl HM.out.base (HT.out.below HM.out.below) HB6.out HOK.out HFW.out HDN.out (HSP.out.below HM.out.below) HE.out).mono ?_); rw [hr]; rintro e w3 ⟨rfl, C, S, hw, hg⟩; have oc0 := hg.tn.cell oc0 HOB.out; have oc1 := hg.tn.cell oc1 HOB.out; have oc3 := hg.tn.cell oc3 HOB.out; have HM := Lib.hid (HM.out.step hg hw); have HX := Lib.hid (HX.out.step hg); clear hw hg))
                    generalize r.1 = lg2 at *
                    rw [hm2] at HM
                    clear hm2
                    obtain ⟨hn1, hn2⟩ := HKP2.out.next
                    have HN1 := Lib.hid hn1
                    have hsf2 : ¬ (m2 : Int) + 1 ≤ (lg2.safe : Int) := by have := HM2.out; omega
                    have hsf3 : decide ((m2 : Int) + 1 ≤ (lg2.safe : Int)) = false := decide_eq_false hsf2
                    have HOK2 := Lib.hid HKP2.out.ch.ok
                    have hmb : m2 ≤ 1000 := by have h1 := HKP2.out.len; have h2 := HM2.out; omega
                    rw [HM2.out] at HN1
                    clear hn1 hn2
                    go_wp2_with (first
                      | (go_at_call 29; (obtain ⟨v1, us1, hl1⟩ := HM.out.wl.lk; refine (next_any hl1 HOK2.out).mono ?_); rw [HN1.out]; rintro e w6 ⟨rfl, hb⟩; have HM := Lib.hid (HM.out.quiet hb); have HX := Lib.hid (HX.out.quiet hb); clear hb hl1)
                      | (go_at_call 30; (obtain ⟨v1, us1, hl1⟩ := HM.out.wl.lk; refine (safe_any hl1).mono ?_); rintro e w6 ⟨rfl, rfl⟩; clear hl1))
                    go_roundw
                    case rel => exact ⟨k + 1, C, S, E, lg2, r.2.1, lo, all, us, fell, tn, ta, tc, t2', congrArg (Value.int .i64) (by omega), HLT.out, HL4.out, rfl, rfl, HM, HX, HKP2, HTN⟩
                    case measure => (have h4 := HL4.out; simp [intOf]; omega)
            · have t1 : (o.kind == 1) = false := by simpa using hk1
              by_cases hk2 : o.kind = 2
              · have t2 : (o.kind == 2) = true := by simpa using hk2
                have HKP2 := Lib.hid (HKP.out.sync HDO.out)
                clear hk1 hk2 hob hl4
                generalize hr : lg.sync d = r at *
                obtain ⟨m2, hm2⟩ : ∃ m2, all.length = m2 := ⟨_, rfl⟩
                have HM2 := Lib.hid hm2
                as_aux_lemma =>
                  go_upto_region 36 with (go_at_call 27; (refine (lsync_any HM.out.wl HM.out.base HOK.out HDL.out).mono ?_); rw [hr]; rintro e w3 ⟨rfl, C, S, hw, hg⟩; have HM := Lib.hid (HM.out.step hg hw); have HX := Lib.hid (HX.out.step hg); clear hw hg)
                  generalize r.1 = lg2 at *
                  rw [hm2] at HM
                  clear hm2
                  obtain ⟨hn1, hn2⟩ := HKP2.out.next
                  have HN1 := Lib.hid hn1
                  have hsf2 : ¬ (m2 : Int) + 1 ≤ (lg2.safe : Int) := by have := HM2.out; omega
                  have hsf3 : decide ((m2 : Int) + 1 ≤ (lg2.safe : Int)) = false := decide_eq_false hsf2
                  have HOK2 := Lib.hid HKP2.out.ch.ok
                  have hmb : m2 ≤ 1000 := by have h1 := HKP2.out.len; have h2 := HM2.out; omega
                  rw [HM2.out] at HN1
                  clear hn1 hn2
                  go_wp2_with (first
                    | (go_at_call 29; (obtain ⟨v1, us1, hl1⟩ := HM.out.wl.lk; refine (next_any hl1 HOK2.out).mono ?_); rw [HN1.out]; rintro e w6 ⟨rfl, hb⟩; have HM := Lib.hid (HM.out.quiet hb); have HX := Lib.hid (HX.out.quiet hb); clear hb hl1)
                    | (go_at_call 30; (obtain ⟨v1, us1, hl1⟩ := HM.out.wl.lk; refine (safe_any hl1).mono ?_); rintro e w6 ⟨rfl, rfl⟩; clear hl1))
                  go_roundw
                  case rel => exact ⟨k + 1, C, S, E, lg2, r.2.1, lo, all, us, fell, tn, ta, tc, t, congrArg (Value.int .i64) (by omega), HLT.out, HL4.out, rfl, rfl, HM, HX, HKP2, HTN⟩
                  case measure => (have h4 := HL4.out; simp [intOf]; omega)
              · have t2 : (o.kind == 2) = false := by simpa using hk2
                by_cases hk3 : o.kind = 3
                · have t3 : (o.kind == 3) = true := by simpa using hk3
                  obtain ⟨lo', hkp⟩ := HKP.out.trim HDO.out o.n
                  have HKP2 := Lib.hid hkp
                  clear hk1 hk2 hk3 hob hl4 hkp
                  generalize hr : lg.trim d o.n = r at *
                  obtain ⟨m2, hm2⟩ : ∃ m2, all.length = m2 := ⟨_, rfl⟩
                  have HM2 := Lib.hid hm2
                  as_aux_lemma =>
                    go_upto_region 36 with (go_at_call 28; (refine (ltrim_any HM.out.wl HM.out.base HOK.out HDN.out o.n).mono ?_); rw [hr]; rintro e w3 ⟨rfl, C, S, hw, hg⟩; have HM := Lib.hid (HM.out.step hg hw); have HX := Lib.hid (HX.out.step hg); clear hw hg)
                    generalize r.1 = lg2 at *
                    rw [hm2] at HM
                    clear hm2
                    obtain ⟨hn1, hn2⟩ := HKP2.out.next
                    have HN1 := Lib.hid hn1
                    have hsf2 : ¬ (m2 : Int) + 1 ≤ (lg2.safe : Int) := by have := HM2.out; omega
                    have hsf3 : decide ((m2 : Int) + 1 ≤ (lg2.safe : Int)) = false := decide_eq_false hsf2
                    have HOK2 := Lib.hid HKP2.out.ch.ok
                    have hmb : m2 ≤ 1000 := by have h1 := HKP2.out.len; have h2 := HM2.out; omega
                    rw [HM2.out] at HN1
                    clear hn1 hn2
                    go_wp2_with (first
                      | (go_at_call 29; (obtain ⟨v1, us1, hl1⟩ := HM.out.wl.lk; refine (next_any hl1 HOK2.out).mono ?_); rw [HN1.out]; rintro e w6 ⟨rfl, hb⟩; have HM := Lib.hid (HM.out.quiet hb); have HX := Lib.hid (HX.out.quiet hb); clear hb hl1)
                      | (go_at_call 30; (obtain ⟨v1, us1, hl1⟩ := HM.out.wl.lk; refine (safe_any hl1).mono ?_); rintro e w6 ⟨rfl, rfl⟩; clear hl1))
                    go_roundw
                    case rel => exact ⟨k + 1, C, S, E, lg2, r.2.1, lo', all, us, fell, tn, ta, tc, t, congrArg (Value.int .i64) (by omega), HLT.out, HL4.out, rfl, rfl, HM, HX, HKP2, HTN⟩
                    case measure => (have h4 := HL4.out; simp [intOf]; omega)
                · have t3 : (o.kind == 3) = false := by simpa using hk3
                  have HKP2 := Lib.hid HKP.out.more
                  clear hk1 hk2 hk3 hob hl4
                  as_aux_lemma =>
                    go_upto_region 36 with (fail)
                    generalize hm2 : all.length = m2 at HM ⊢
                    have HM2 := Lib.hid hm2
                    generalize hlg : lg = lg2 at *
                    clear hm2 hlg
                    obtain ⟨hn1, hn2⟩ := HKP2.out.next
                    have HN1 := Lib.hid hn1
                    have hsf2 : ¬ (m2 : Int) + 1 ≤ (lg2.safe : Int) := by have := HM2.out; omega
                    have hsf3 : decide ((m2 : Int) + 1 ≤ (lg2.safe : Int)) = false := decide_eq_false hsf2
                    have HOK2 := Lib.hid HKP2.out.ch.ok
                    have hmb : m2 ≤ 1000 := by have h1 := HKP2.out.len; have h2 := HM2.out; omega
                    rw [HM2.out] at HN1
                    clear hn1 hn2
                    go_wp2_with (first
                      | (go_at_call 29; (obtain ⟨v1, us1, hl1⟩ := HM.out.wl.lk; refine (next_any hl1 HOK2.out).mono ?_); rw [HN1.out]; rintro e w6 ⟨rfl, hb⟩; have HM := Lib.hid (HM.out.quiet hb); have HX := Lib.hid (HX.out.quiet hb); clear hb hl1)
                      | (go_at_call 30; (obtain ⟨v1, us1, hl1⟩ := HM.out.wl.lk; refine (safe_any hl1).mono ?_); rintro e w6 ⟨rfl, rfl⟩; clear hl1))
                    go_roundw
                    case rel => exact ⟨k + 1, C, S, E, lg2, d, lo, all, us, fell, tn, ta, tc, t, congrArg (Value.int .i64) (by omega), HLT.out, HL4.out, rfl, rfl, HM, HX, HKP2, HTN⟩
                    case measure => (have h4 := HL4.out; simp [intOf]; omega)
        · 
          have HF1 := HKP.out
          obtain ⟨init, first, Q, n, hfl⟩ := HF1.crash HM.out.wl.dk.ok h64 hi6 hk4 p.picks
          have HFE := Lib.hid hfl
          have hlow : (lg.segs.getD 0 ⟨0, []⟩).first = lo := HKP.out.ch.low
          have HLO := Lib.hid hlow
          have HOK := Lib.hid HKP.out.ch.ok
          have hn0 := hfl.pos
          have hns := hfl.safe
          have hnm := hfl.most
          have hal : all.length ≤ 1000 := by have := HKP.out.len; omega
          have hlo1 := HKP.out.low
          have HTTL : Hid (tn.length ≤ 140737488355328) := Lib.hid (Nat.le_trans HKP.out.tsm (by decide))
          have x0 := HX.out.c0
          have x1 := HX.out.c1
          have x2 := HX.out.c2
          have x3 := HX.out.c3
          have HAGF := Lib.hid (fun d' => hfl.kp d')
          have hex : ¬ k < p.l.length ∨ (k < p.l.length ∧ ¬ (k : Int) < 40) := by omega
          have HDD9 : Hid (1 + 3000 * i + 70 * k ≤ 900000000) := Lib.hid (by omega)
          clear HF1 hfl hlow hlt
          have HNX : Hid ((agLog full init first Q).next = n) := Lib.hid HFE.out.next
          have HSA : Hid ((agLog full init first Q).safe = n - 1) := Lib.hid HFE.out.safe2
          obtain ⟨sf, hsf⟩ : ∃ sf, lg.safe = sf := ⟨_, rfl⟩
          have HSFE := Lib.hid hsf
          rw [hsf] at hns
          clear hsf
          rcases hex with e1 | ⟨e1, e2⟩
          all_goals
            go_upto_region 40 with (first
              | (go_at_call 31; (obtain ⟨v1, us1, hl1⟩ := HM.out.wl.lk; refine (first_any hl1 HOK.out).mono ?_); rw [HLO.out]; rintro e w5 ⟨rfl, rfl⟩; clear hl1)
              | (go_at_call 30; (obtain ⟨v1, us1, hl1⟩ := HM.out.wl.lk; refine (safe_any hl1).mono ?_); rw [HSFE.out]; rintro e w6 ⟨rfl, rfl⟩; clear hl1)
              | (go_at_call 32; (refine (again_any HM.out.wl.dk HM.out.wl.sb HM.out.base (HT.out.below HM.out.below) HB6.out HFE.out.ag HFE.out.was (by decide) HDD9.out (fun k hk => Nat.lt_of_lt_of_le hk HM.out.baseW) (HPS.out.below HM.out.below) (HRS.out.below HM.out.below)).mono ?_); rintro e w7 ⟨a7, C7, S7, d7, rfl, hw, hlie, htot, hdn, hg⟩; have HKN := Lib.hid (HAGF.out d7 hlie hdn); have HM7 := Lib.hid (HM.out.step ⟨hg.tn.mono (fun k _ hk => .inr hk), fun k hk => (hg.sub k hk).elim (fun x => .inl (.inr x)) .inr⟩ hw); clear hw hlie htot hdn hg))
            clear HFE HAGF HKP
            generalize agLog full init first Q = lgN at *
            have HM := HM7
            have HCH := Lib.hid HKN.out.ch
            have hnx := HKN.out.next.1
            have hkl := HKN.out.low
            have hfr : lgN.safe + 1 = lo + (List.drop (lo - 1) ((all ++ [tn]).take (n - 1))).length := by
              rw [List.length_drop]
              have := HSA.out
              have := HNX.out
              omega
            obtain ⟨hf1, hf2⟩ := HKN.out.ch.whole hfr (by rw [List.length_drop, List.length_take, List.length_append]; simp; omega)
            have hlow2 : (lgN.segs.getD 0 ⟨0, []⟩).first = lo := HKN.out.ch.low
            have HLO2 := Lib.hid hlow2
            obtain ⟨n0, rfl⟩ : ∃ n0, n = n0 + 1 := ⟨n - 1, by omega⟩
            obtain ⟨l0, rfl⟩ : ∃ l0, lo = l0 + 1 := ⟨lo - 1, by omega⟩
            rw [Nat.add_sub_cancel] at HSA hf1 hf2 HKN hkl hnx
            rw [Nat.add_sub_cancel] at hf1 hf2 hkl
            have HNX2 : Hid (lgN.next = n0 + 1) := HNX
            have hw1 : IntKind.i64.wrap ((n0 : Int) + 1 - 1) = (n0 : Int) := by rw [wrap_in (by omega)]; omega
            have hw2 : IntKind.i64.wrap ((l0 : Int) + 1 - 1) = (l0 : Int) := by rw [wrap_in (by omega)]; omega
            have hs1 : ¬ (n0 : Int) + 1 ≤ (sf : Int) := by omega
            have hs2 : decide ((n0 : Int) + 1 ≤ (sf : Int)) = false := decide_eq_false hs1
            have HFR := Lib.hid hf1
            have HRM : Hid ((lgN.rests ((l0 + 1 : Nat) : Int)).length ≤ 1000000) := Lib.hid (by rw [hf2, List.length_drop, List.length_take, List.length_append]; simp; omega)
            have HSF : Hid (lgN.safe ≤ 1000000000) := Lib.hid (by have := HSA.out; omega)
            have HOKN := Lib.hid HCH.out.ok
            have hl0n : l0 ≤ n0 := by rw [List.length_take] at hkl; omega
            clear hf1 hf2 hlow2 hfr hnx hkl hns HM7
            go_upto_region 42 with (first
              | (go_at_call 31; (obtain ⟨v1, us1, hl1⟩ := HM.out.wl.lk; refine (first_any hl1 HOKN.out).mono ?_); rw [HLO2.out]; rintro e w5 ⟨rfl, rfl⟩; clear hl1)
              | (go_at_call 30; (obtain ⟨v1, us1, hl1⟩ := HM.out.wl.lk; refine (safe_any hl1).mono ?_); rw [HSA.out]; rintro e w6 ⟨rfl, rfl⟩; clear hl1)
              | (go_at_call 29; (obtain ⟨v1, us1, hl1⟩ := HM.out.wl.lk; refine (next_any hl1 HOKN.out).mono ?_); rw [HNX2.out]; rintro e w6 ⟨rfl, hb⟩; have HM := Lib.hid (HM.out.quiet hb); clear hb hl1))
            by_cases hA : n0 = all.length + 1
            · obtain rfl : fell = true := (hnm.resolve_left (by omega)).2
              have t1 : ((n0 : Int) + 1 == (all.length : Int) + 2) = true := by simp; omega
              have HM1 : Hid (all.length + 1 = n0) := Lib.hid hA.symm
              have HAL : Hid (all.length ≤ 1000000) := Lib.hid (by omega)
              have hn1k : n0 ≤ 1001 := by omega
              clear hnm hA
              as_aux_lemma =>
                go_upto_region 44 with (first
                  | (go_at_call 29; (obtain ⟨v1, us1, hl1⟩ := HM.out.wl.lk; refine (next_any hl1 HOKN.out).mono ?_); rw [HNX2.out]; rintro e w6 ⟨rfl, hb⟩; have HM := Lib.hid (HM.out.quiet hb); clear hb hl1)
                  | (go_at_call 26; (refine (copyBytes_any (HTN.out.below HM.out.below) HTTL.out).mono ?_); rintro e w9 ⟨co, cc, rfl, ho5, hb5⟩; have HO5 := Lib.hid ho5; have HB5 := Lib.hid hb5; clear ho5 hb5)
                  | (at_builtin; refine wpList_append_rec (wanted_none rfl _) (.tmp 171) (.tmp 174) rfl rfl ((HM.out.ro.below (HB5.out.trans ((below1 w9 _).mono HB5.out.size))).own) rfl (heap_alloc_new w9 _) rfl HAL.out ?_; intro v4 w4 ho4 hg4 hl4; have HMn := Lib.hid (HM.out.push HB5.out HO5.out hg4 ho4 hl4); rw [HM1.out] at ho4; obtain ⟨ro4, rc4, hv4⟩ := own_slice ho4; subst hv4; have HCP := Lib.hid (own_cap ho4); clear ho4 hg4 hl4))
                have hcp := HCP.out
                have HM := HMn
                clear t1 HMn
                go_upto_region 46 with (go_at_call 29; (obtain ⟨v1, us1, hl1⟩ := HM.out.wl.lk; refine (next_any hl1 HOKN.out).mono ?_); rw [HNX2.out]; rintro e w6 ⟨rfl, hb⟩; have HM := Lib.hid (HM.out.quiet hb); clear hb hl1)
                have hcpi : (n0 : Int) ≤ (rc4 : Int) := by omega
                go_upto_region 47 with (go_at_call 29; (obtain ⟨v1, us1, hl1⟩ := HM.out.wl.lk; refine (next_any hl1 HOKN.out).mono ?_); rw [HNX2.out]; rintro e w6 ⟨rfl, hb⟩; have HM := Lib.hid (HM.out.quiet hb); clear hb hl1)
                have HAL2 : Hid (((all ++ [tn]).take n0).length = n0) := Lib.hid (by rw [List.length_take, List.length_append]; have := HM1.out; simp; omega)
                have HM := Lib.hid (HM.out.top (m := n0) (n := n0) (by rw [List.length_append]; have := HM1.out; simp; omega) (Nat.le_refl _))
                generalize (all ++ [tn]).take n0 = AA at *
                generalize ro4 = rq at *
                generalize rc4 = rr at *
                -- M: the records from the first number on
                have HMM := Lib.hid HM.out.ro
                have hcap : n0 ≤ rr := own_cap (by have := HM.out.ro.own; rw [HAL2.out] at this; exact this)
                generalize hM : List.drop l0 AA = M at *
                have HMD := Lib.hid hM
                have hml : M.length = n0 - l0 := by rw [← hM, List.length_drop, HAL2.out]
                have HML := Lib.hid hml
                clear hM hml
                cases rq with
                | none =>
                  obtain ⟨hn00, hrr0⟩ : n0 = 0 ∧ rr = 0 := by
                    rcases HM.out.ro.own.2 with ⟨e1, e2⟩ | ⟨_, _, _, e1, _⟩
                    · injection e1 with e3 e4 e5
                      exact ⟨e4, e5⟩
                    · cases e1
                  subst hn00 hrr0
                  obtain rfl : l0 = 0 := by omega
                  have HNIL : Hid (M = []) := Lib.hid (List.eq_nil_of_length_eq_zero (by rw [HML.out]))
                  clear hcap HMM
                  as_aux_lemma =>
                    go_wp2_with (first
                      | (go_at_call 33; (obtain ⟨v1, us1, hl1⟩ := HM.out.wl.lk; refine (lfrom_any hl1 HOKN.out HSF.out _ 1073741824 HRM.out).mono ?_); rw [HFR.out]; rintro e w7 ⟨⟨v7, r7, rfl, ⟨us7, hr7⟩, rfl⟩, hb⟩; obtain ⟨fo7, fc7, rfl⟩ := own_slice hr7.own; have HRO := Lib.hid hr7; have HM := Lib.hid (HM.out.quiet hb); clear hb hl1 hr7)
                      | (go_at_call 34; (refine (Fr.rows_any (ro_rb2 HRO.out rfl) (rb_z rfl rfl HNIL.out)).mono ?_); rw [beq_self_eq_true]; rintro e w8 ⟨rfl, q, hq⟩; have hb := below_of_drew hq; have HM := Lib.hid (HM.out.quiet hb); clear hq hb))
                    go_roundw
                    case rel => exact ⟨i + 1, a7, C7, S7, _, lgN, d7, _, _, _, congrArg (Value.int .i64) (by omega), HIL.out, HL6.out, rfl, HM, HKN⟩
                    case measure => (have h6 := HL6.out; simp [intOf]; omega)
                | some ad =>
                  obtain ⟨rg, rfl⟩ : ∃ rg, ad = ⟨rg, 0, none⟩ := by
                    rcases HM.out.ro.own.2 with ⟨e1, e2⟩ | ⟨g, _, _, e1, _⟩
                    · cases e1
                    · injection e1 with e3 e4 e5
                      injection e3 with e3
                      exact ⟨g, e3⟩
                  by_cases hck : rr = l0
                  · have HNIL : Hid (M = []) := Lib.hid (List.eq_nil_of_length_eq_zero (by rw [HML.out]; omega))
                    obtain rfl : n0 = l0 := by omega
                    subst hck
                    clear hcap HMM
                    as_aux_lemma =>
                      go_wp2_with (first
                        | (go_at_call 33; (obtain ⟨v1, us1, hl1⟩ := HM.out.wl.lk; refine (lfrom_any hl1 HOKN.out HSF.out _ 1073741824 HRM.out).mono ?_); rw [HFR.out]; rintro e w7 ⟨⟨v7, r7, rfl, ⟨us7, hr7⟩, rfl⟩, hb⟩; obtain ⟨fo7, fc7, rfl⟩ := own_slice hr7.own; have HRO := Lib.hid hr7; have HM := Lib.hid (HM.out.quiet hb); clear hb hl1 hr7)
                        | (go_at_call 34; (refine (Fr.rows_any (ro_rb2 HRO.out rfl) (rb_z rfl rfl HNIL.out)).mono ?_); rw [beq_self_eq_true]; rintro e w8 ⟨rfl, q, hq⟩; have hb := below_of_drew hq; have HM := Lib.hid (HM.out.quiet hb); clear hq hb))
                      go_roundw
                      case rel => exact ⟨i + 1, a7, C7, S7, _, lgN, d7, _, _, _, congrArg (Value.int .i64) (by omega), HIL.out, HL6.out, rfl, HM, HKN⟩
                      case measure => (have h6 := HL6.out; simp [intOf]; omega)
                  · have hck2 : ¬ l0 = rr := fun e => hck e.symm
                    clear HMM
                    as_aux_lemma =>
                      go_wp2_with (first
                        | (go_at_call 33; (obtain ⟨v1, us1, hl1⟩ := HM.out.wl.lk; refine (lfrom_any hl1 HOKN.out HSF.out _ 1073741824 HRM.out).mono ?_); rw [HFR.out]; rintro e w7 ⟨⟨v7, r7, rfl, ⟨us7, hr7⟩, rfl⟩, hb⟩; obtain ⟨fo7, fc7, rfl⟩ := own_slice hr7.own; have HRO := Lib.hid hr7; have HM := Lib.hid (HM.out.quiet hb); clear hb hl1 hr7)
                        | (go_at_call 34; (refine (Fr.rows_any (ro_rb2 HRO.out rfl) (HMD.out ▸ keeps_rb HM.out HAL2.out hl0n hck)).mono ?_); rw [beq_self_eq_true]; rintro e w8 ⟨rfl, q, hq⟩; have hb := below_of_drew hq; have HM := Lib.hid (HM.out.quiet hb); clear hq hb))
                      go_roundw
                      case rel => exact ⟨i + 1, a7, C7, S7, _, lgN, d7, _, _, _, congrArg (Value.int .i64) (by omega), HIL.out, HL6.out, rfl, HM, HKN⟩
                      case measure => (have h6 := HL6.out; simp [intOf]; omega)
            · have hB : n0 ≤ all.length := by omega
              have t1 : ((n0 : Int) + 1 == (all.length : Int) + 2) = false := by simp; omega
              have t2 : ¬ (all.length : Int) + 1 < (n0 : Int) + 1 := by omega
              have t3 : decide ((all.length : Int) + 1 < (n0 : Int) + 1) = false := decide_eq_false t2
              clear hnm
              as_aux_lemma =>
                go_upto_region 46 with (go_at_call 29; (obtain ⟨v1, us1, hl1⟩ := HM.out.wl.lk; refine (next_any hl1 HOKN.out).mono ?_); rw [HNX2.out]; rintro e w6 ⟨rfl, hb⟩; have HM := Lib.hid (HM.out.quiet hb); clear hb hl1)
                have hcp : all.length ≤ rc := own_cap HM.out.ro.own
                have hcpi : (n0 : Int) ≤ (rc : Int) := by omega
                have hcpn : n0 ≤ rc := by omega
                go_upto_region 47 with (go_at_call 29; (obtain ⟨v1, us1, hl1⟩ := HM.out.wl.lk; refine (next_any hl1 HOKN.out).mono ?_); rw [HNX2.out]; rintro e w6 ⟨rfl, hb⟩; have HM := Lib.hid (HM.out.quiet hb); clear hb hl1)
                have hAA : (all ++ [tn]).take n0 = all.take n0 := List.take_append_of_le_length hB
                rw [hAA] at HFR HKN
                have HAL2 : Hid ((all.take n0).length = n0) := Lib.hid (by rw [List.length_take]; omega)
                have HM := Lib.hid (HM.out.top (n := n0) rfl hB)
                clear hAA
                generalize all.take n0 = AA at *
                generalize ro = rq at *
                generalize rc = rr at *
                -- M: the records from the first number on
                have HMM := Lib.hid HM.out.ro
                have hcap : n0 ≤ rr := own_cap (by have := HM.out.ro.own; rw [HAL2.out] at this; exact this)
                generalize hM : List.drop l0 AA = M at *
                have HMD := Lib.hid hM
                have hml : M.length = n0 - l0 := by rw [← hM, List.length_drop, HAL2.out]
                have HML := Lib.hid hml
                clear hM hml
                cases rq with
                | none =>
                  obtain ⟨hn00, hrr0⟩ : n0 = 0 ∧ rr = 0 := by
                    rcases HM.out.ro.own.2 with ⟨e1, e2⟩ | ⟨_, _, _, e1, _⟩
                    · injection e1 with e3 e4 e5
                      exact ⟨e4, e5⟩
                    · cases e1
                  subst hn00 hrr0
                  obtain rfl : l0 = 0 := by omega
                  have HNIL : Hid (M = []) := Lib.hid (List.eq_nil_of_length_eq_zero (by rw [HML.out]))
                  clear hcap HMM
                  as_aux_lemma =>
                    go_wp2_with (first
                      | (go_at_call 33; (obtain ⟨v1, us1, hl1⟩ := HM.out.wl.lk; refine (lfrom_any hl1 HOKN.out HSF.out _ 1073741824 HRM.out).mono ?_); rw [HFR.out]; rintro e w7 ⟨⟨v7, r7, rfl, ⟨us7, hr7⟩, rfl⟩, hb⟩; obtain ⟨fo7, fc7, rfl⟩ := own_slice hr7.own; have HRO := Lib.hid hr7; have HM := Lib.hid (HM.out.quiet hb); clear hb hl1 hr7)
                      | (go_at_call 34; (refine (Fr.rows_any (ro_rb2 HRO.out rfl) (rb_z rfl rfl HNIL.out)).mono ?_); rw [beq_self_eq_true]; rintro e w8 ⟨rfl, q, hq⟩; have hb := below_of_drew hq; have HM := Lib.hid (HM.out.quiet hb); clear hq hb))
                    go_roundw
                    case rel => exact ⟨i + 1, a7, C7, S7, _, lgN, d7, _, _, _, congrArg (Value.int .i64) (by omega), HIL.out, HL6.out, rfl, HM, HKN⟩
                    case measure => (have h6 := HL6.out; simp [intOf]; omega)
                | some ad =>
                  obtain ⟨rg, rfl⟩ : ∃ rg, ad = ⟨rg, 0, none⟩ := by
                    rcases HM.out.ro.own.2 with ⟨e1, e2⟩ | ⟨g, _, _, e1, _⟩
                    · cases e1
                    · injection e1 with e3 e4 e5
                      injection e3 with e3
                      exact ⟨g, e3⟩
                  by_cases hck : rr = l0
                  · have HNIL : Hid (M = []) := Lib.hid (List.eq_nil_of_length_eq_zero (by rw [HML.out]; omega))
                    obtain rfl : n0 = l0 := by omega
                    subst hck
                    clear hcap HMM
                    as_aux_lemma =>
                      go_wp2_with (first
                        | (go_at_call 33; (obtain ⟨v1, us1, hl1⟩ := HM.out.wl.lk; refine (lfrom_any hl1 HOKN.out HSF.out _ 1073741824 HRM.out).mono ?_); rw [HFR.out]; rintro e w7 ⟨⟨v7, r7, rfl, ⟨us7, hr7⟩, rfl⟩, hb⟩; obtain ⟨fo7, fc7, rfl⟩ := own_slice hr7.own; have HRO := Lib.hid hr7; have HM := Lib.hid (HM.out.quiet hb); clear hb hl1 hr7)
                        | (go_at_call 34; (refine (Fr.rows_any (ro_rb2 HRO.out rfl) (rb_z rfl rfl HNIL.out)).mono ?_); rw [beq_self_eq_true]; rintro e w8 ⟨rfl, q, hq⟩; have hb := below_of_drew hq; have HM := Lib.hid (HM.out.quiet hb); clear hq hb))
                      go_roundw
                      case rel => exact ⟨i + 1, a7, C7, S7, _, lgN, d7, _, _, _, congrArg (Value.int .i64) (by omega), HIL.out, HL6.out, rfl, HM, HKN⟩
                      case measure => (have h6 := HL6.out; simp [intOf]; omega)
                  · have hck2 : ¬ l0 = rr := fun e => hck e.symm
                    clear HMM
                    as_aux_lemma =>
                      go_wp2_with (first
                        | (go_at_call 33; (obtain ⟨v1, us1, hl1⟩ := HM.out.wl.lk; refine (lfrom_any hl1 HOKN.out HSF.out _ 1073741824 HRM.out).mono ?_); rw [HFR.out]; rintro e w7 ⟨⟨v7, r7, rfl, ⟨us7, hr7⟩, rfl⟩, hb⟩; obtain ⟨fo7, fc7, rfl⟩ := own_slice hr7.own; have HRO := Lib.hid hr7; have HM := Lib.hid (HM.out.quiet hb); clear hb hl1 hr7)
                        | (go_at_call 34; (refine (Fr.rows_any (ro_rb2 HRO.out rfl) (HMD.out ▸ keeps_rb HM.out HAL2.out hl0n hck)).mono ?_); rw [beq_self_eq_true]; rintro e w8 ⟨rfl, q, hq⟩; have hb := below_of_drew hq; have HM := Lib.hid (HM.out.quiet hb); clear hq hb))
                      go_roundw
                      case rel => exact ⟨i + 1, a7, C7, S7, _, lgN, d7, _, _, _, congrArg (Value.int .i64) (by omega), HIL.out, HL6.out, rfl, HM, HKN⟩
                      case measure => (have h6 := HL6.out; simp [intOf]; omega)
    · have HBE := Lib.hid HM.out.below
      have hex : ¬ i < l.length ∨ (i < l.length ∧ ¬ (i : Int) < 6) := by omega
      clear hlt
      rcases hex with e1 | ⟨e1, e2⟩
      all_goals
        go_wp2_with (go_at_call 11; (refine (A11 _ HBE.out).out.mono ?_); rintro e w9 ⟨rfl, hb⟩; have HBE := Lib.hid (HBE.out.trans (hb.mono HBE.out.size)); clear hb)
        go_ret
        exact ⟨rfl, HBE.out⟩
theorem walKeeps_walk (W : World) (seg : Int) (_ : -9223372036854775808 ≤ seg) (_ : seg ≤ 9223372036854775807) (ao : Option Addr) (cap : Nat) (l : List Fl) (hl : SL (fun k => k < W.heap.size) W ao l.length cap l) (hT : Tabs W) :
    Calls Tryz.prog 6 #[.int .i64 seg, .slice ao l.length cap] W fun e w' => e = .returned (.bool true) ∧ Below W.heap.size W w' := by
  by_cases hs : seg < 64 ∨ 262144 < seg
  · exact keeps_not W seg ao cap l hT hs
  · have h := keeps_main W seg.toNat (by omega) ao cap l hl hT
    rw [show ((seg.toNat : Nat) : Int) = seg by omega] at h
    exact h

set_option maxRecDepth 100000 in
theorem walKeeps_lifted (os : Os) (started : os.Started) (H : Type) (enc : TypeId × Value → H) :
    ReturnsInHanded {} Tryz.checked os 6 .any (fun w args => (Rows.walKeepsSpec.pre enc Tryz.prog Tryz.f6 [] false w args ∧ laidMetH Tryz.prog laid7 w) ∧ sizedMet enc Tryz.prog Tryz.f6 (OpenSpec.ofChange Rows.walKeepsSpec) false w args)
      (Rows.walKeepsSpec.post enc Tryz.prog Tryz.f6 false true false false) := by
  refine returnsInHanded_of_change_and (C := Tryz.checked) (X := fun w _ => laidMetH Tryz.prog laid7 w) (fun _ _ _ hh h => h.of_heap hh) own started (by kernel_rfl) Tryz.func6
    (ChangeSpec.witness_shaped (enc := enc) (C := Tryz.checked) (os := os) (X := fun w _ => laidMetH Tryz.prog laid7 w) false (World.doorLaid Tryz.prog 400 os) #[.int .i64 0, .slice none 0 0] 8 rfl (World.shaped_of_RefB (by kernel_rfl) (by kernel_rfl)) (by kernel_rfl) (by kernel_rfl) (by kernel_rfl) (door_met os _)) ?_
  intro W base args ds gs before hval0 hW _ _ hL _
  have hval : ∀ (j : Nat) t v, Tryz.f6.params[j]? = some t → args[j]? = some v → Value.okWide Tryz.prog W .any base t v := hval0
  have hW' := hW
  obtain ⟨p, q, hA0, hV, rfl, hfz, hnd⟩ := hW
  have hA : DataW.TrodAll enc Tryz.prog W 0 (fun _ => true) true Tryz.f6.params.toList args.toList ds p := hA0
  rw [Tryz.params6] at hA hval
  obtain ⟨v0, v1, d0, d1, p0, p1, rfl, rfl, rfl, h0, h1⟩ := trodAll_two hA
  obtain ⟨rfl, rfl⟩ := trodVars_none hV
  clear hA0 hval0
  simp only [List.append_nil] at hW'
  have hlt : ∀ x ∈ p0 ++ p1, x.block < W.heap.size := fun x hx => hW'.lt x (by simpa using hx)
  have hT := tabs_of_laid hL
  have k0 := h0
  obtain ⟨a0, rfl, rfl, rfl, wf0⟩ := open_int Tryz.underlying3 (hval 0 3 v0 rfl rfl) h0
  have hwf0 := wf0
  simp [Lit.wf, IntKind.min, IntKind.max, IntKind.signed, IntKind.bits] at hwf0
  have k1 := h1
  obtain ⟨b1, len1, cap1, rfl⟩ := okWide_slice Tryz.underlying54 (hval 1 54 v1 rfl rfl)
  obtain ⟨fuel1, g1⟩ := h1
  obtain ⟨ao1, c1, xs1, hv1, r1⟩ := open_sl g1
  refine Calls.mono (?walk : Calls _ _ _ _ fun e w' => e = .returned (.bool true) ∧ Below W.heap.size W w') fun e W' ⟨he, hw⟩ => ?_
  case walk =>
    rw [hv1]
    exact walKeeps_walk W a0 (by omega) (by omega) ao1 c1 xs1 r1 hT
  subst he
  exact ⟨_, rfl, post_of_below (pa := [] ++ p1) (pv := []) hW' (fun _ _ _ => trodAll_mk1 (shut_bool Tryz.underlying4 _)) (fun sp hsp => trodAll_mk2 (WideElems.Trod_stays laidOut (by kernel_rfl) (of_decide_eq_true (by kernel_rfl)) k0 (fun x hx => hw.same (hlt x (nomatch hx))) (fun x hx => hsp x (nomatch hx))) (WideElems.Trod_stays laidOut (by kernel_rfl) (of_decide_eq_true (by kernel_rfl)) k1 (fun x hx => hw.same (hlt x (by simp [hx]))) (fun x hx => hsp x (by simp [hx])))) (fun _ _ => rfl) (by simp) hw (ok_one (by kernel_rfl) rfl (okWide_bool_mk Tryz.underlying4 _))⟩
theorem walKeeps_holds : Rows.WalKeepsSaid :=
  OpenClaim.holds_of_wide 6 Tryz.f6 rfl rfl rfl rfl rfl rfl rfl ⟨rfl, rfl, rfl, rfl, rfl⟩ rfl rfl rfl rfl rfl (by kernel_rfl) Tryz.func6 (by kernel_rfl)
    (of_decide_eq_true (by kernel_rfl)) (by unfold Func.isWrapper; first | (rw [if_pos (by decide +kernel)]; kernel_rfl) | (rw [if_neg (by decide +kernel)]; exact ⟨rfl, rfl⟩))
    (fun os started H enc _ => walKeeps_lifted os started H enc)
/-- THE TIED CARD. -/
theorem walKeeps_card : Rows.WalKeepsCardSaid :=
  Claim7.holds_tied_plain_at .later [] [.data, .data, .data, .sentinel, .sentinel] true (true, "e9ab51ce47dcc3953fa184c943e4ea011639904eb8e571ed572ebda56f291a89") true
    walKeeps_holds (fun _ h => by cases h) (by kernel_rfl) (fun _ h => by cases h) walKeeps_row_tie rfl ⟨rfl, rfl⟩ (by kernel_rfl) rfl
    (fun f fn hf hfn => by
      obtain rfl : f = 6 := Option.some.inj ((show Tryz.prog.funcNamed "headrace/racelaw7.WalKeeps" = some 6 by kernel_rfl).symm.trans hf) |>.symm
      obtain rfl : fn = Tryz.f6 := (Option.some.inj (Tryz.func6.symm.trans hfn)).symm
      exact ⟨by kernel_rfl, fun j t ht => by
        rw [Tryz.params6] at ht
        have hm : t ∈ [3, 54] := by simpa using Array.mem_of_getElem? ht
        have hall : ([3, 54].all fun u => !Tryz.prog.wantsStandIn u) = true := by kernel_rfl
        exact (show Tryz.prog.wantsStandIn t = false by simpa using List.all_eq_true.1 hall t hm)⟩)
    (by kernel_rfl)
#print axioms walKeeps_card
end Go.Proofs.YtkilkhnoldfhcaaGreatDoor
