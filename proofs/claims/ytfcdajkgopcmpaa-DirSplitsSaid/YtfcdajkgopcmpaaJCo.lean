/- isCover: the ranges in ascending order, each where the last one ended. Conditions: all are valid. place.Check. Conditions: none. -/
import Derived.Test.YtfcdajkgopcmpaaJCs
import Derived.Test.YtfcdajkgopcmpaaJCk
namespace Go.Proofs.Ytfcdajkgopcmpaa
open Go.ChangeShapes Go.WideShapes Go.ChangeAt Go.RowKit
theorem canon_pt {b : Nat} (hb : b ≤ oneB) : canon b = b := canon_fin (Nat.lt_of_le_of_lt hb (by decide))
theorem rank_le {a b : Nat} (ha : a ≤ oneB) (hb : b ≤ oneB) (h : rankN a ≤ rankN b) : a ≤ b := by
  have hov : oneB = 4607182418800017408 := rfl
  have ca : canon a = a := canon_pt ha
  have cb : canon b = b := canon_pt hb
  rw [rankN_lo (by omega), rankN_lo (by omega)] at h
  omega
theorem chainS_at {s : List RV} {i e : Nat} (h : i < s.length) : chainS e (s.drop i) = if s[i].lo = e then chainS s[i].hi (s.drop (i + 1)) else none := by
  rw [List.drop_eq_getElem_cons h, chainS]
set_option maxRecDepth 100000 in
set_option maxHeartbeats 4000000 in
theorem isCover_some (l : List RV) (n b o cap : Nat) (hn : l.length = n) (h0 : 0 < n) (hm : n ≤ 1000000) (hw : ∀ r ∈ l, r.wf) (hv : ∀ r ∈ l, mayV r = true) (w : World) (hc : ∀ i, (h : i < l.length) → RAt w b (o + i * 4) l[i]) :
    Calls Try.prog 45 #[.slice (some ⟨b, o, none⟩) n cap] w fun e w' => e = .returned (.bool (chainR n 0 l == some oneB)) ∧ Below w.heap.size w w' := by
  have hst := run_stf
  obtain ⟨R, hR⟩ : ∃ R, (chainR n 0 l == some oneB) = R := ⟨_, rfl⟩
  rw [hR]
  have HCl := Lib.hid (clone_some l n b o cap hn hm w hc)
  have HS := fun (W : World) (g c : Nat) (h : W.ownsRow w.heap.size 37 4 (.slice (some ⟨g, 0, none⟩) n c) n (cellsR l)) (hg : w.heap.size ≤ g) (hgs : g < W.heap.size) => Lib.hid (sort_own l hw hn hm h hg hgs)
  have HV := Lib.hid (fun r hr => may_pts (hv r hr))
  have HR := Lib.hid hR
  have HN := Lib.hid hn
  clear hc hw hv hR hn
  go_enter Try.func45, Try.ntmps45
  go_wp2_with (first
    | (go_at_call 54; ((with_reducible refine HCl.out.mono ?_); rintro e w1 ⟨v1, rfl, hown, hb⟩; have HB1 := Lib.hid hb; obtain ⟨g, cap1, cur, rfl, hg, hgb, hcap1, _⟩ := hown.2.resolve_left (by rintro ⟨_, hz⟩; omega); have hgs := (Array.getElem?_eq_some_iff.1 hgb).1; have HO := Lib.hid hown; clear hb hown hgb))
    | (go_at_call 55; refine (HS _ g cap1 HO.out hg hgs).out.mono ?_; rintro e w2 ⟨rfl, s, hp, hso, hrow, hlt, hb⟩; have HB2 := Lib.hid (HB1.out.trans hb)))
  have hv' : ∀ q ∈ l, q.lo < q.hi := fun q hq => (HV.out q hq).2.2.1
  have hasc : s.Pairwise (fun a b => a.lo ≤ b.lo) := hso.imp_of_mem fun ha hb h => rank_le (of_decide_eq_true (HV.out _ (hp.mem_iff.1 ha)).1) (of_decide_eq_true (HV.out _ (hp.mem_iff.1 hb)).1) h
  have hch := chain_same hv' hp hasc 0
  rw [HN.out] at hch
  have hsl : s.length = n := hp.length_eq.trans HN.out
  have HSV := Lib.hid (fun r hr => HV.out r (hp.mem_iff.1 hr))
  have HEnd := Lib.hid (hch ▸ HR.out : (chainS 0 s == some oneB) = R)
  have HRow := Lib.hid hrow
  have HLT := Lib.hid hlt
  clear hv' hasc hch hp hso HV HR HCl HS hrow hlt HO hb
  go_loopw [4, 13] (fun ve vi wr => ∃ (e k : Nat), ve = .float .f64 e ∧ vi = .int .i64 (k : Int) ∧ k ≤ n ∧ e ≤ oneB ∧ Hid ((chainS e (s.drop k) == some oneB) = R) ∧ Hid (Below w2.heap.size w2 wr)) (fun _ vi _ => n - (RowKit.intOf vi).toNat)
  case atStart => exact ⟨0, 0, rfl, rfl, Nat.zero_le _, by decide, HEnd, Lib.hid (Below.refl _ _)⟩
  case round =>
    obtain ⟨e, k, rfl, rfl, hk, he1, HE, HW⟩ := hrel
    by_cases hlt : k < n
    · have hk' : k < s.length := by omega
      have hA := (HRow.out k hk').below HW.out HLT.out
      rw [Nat.zero_add] at hA
      have HA := Lib.hid hA
      clear hA
      have hpt := HSV.out _ (List.getElem_mem hk')
      have hq := ord_eq (of_decide_eq_true hpt.1) he1
      have hhi := of_decide_eq_true hpt.2.1
      have HE' := HE.out
      rw [chainS_at hk'] at HE'
      generalize s[k] = r at *
      have HT := Lib.hid (at_new wr r)
      have HW1 := Lib.hid (HW.out.alloc HW.out.size (robj r))
      have r0 := HA.out.c0; have r1 := HA.out.c1; have r2 := HA.out.c2; have r3 := HA.out.c3
      have t2 := HT.out.c2; have t3 := HT.out.c3
      by_cases hx : r.lo = e
      · rw [if_pos hx] at HE'
        have HE' := Lib.hid HE'
        have hq : (FloatKind.f64.format.order r.lo e != some Ordering.eq) = false := by rw [bne, hq, decide_eq_true hx]; rfl
        clear hx HE hpt
        go_wp2
        go_roundw
        case rel => exact ⟨_, k + 1, rfl, by go_num, by omega, hhi, HE', HW1⟩
        case measure => simp [RowKit.intOf]; omega
      · rw [if_neg hx] at HE'
        have HE' := Lib.hid HE'
        have hq : (FloatKind.f64.format.order r.lo e != some Ordering.eq) = true := by rw [bne, hq, decide_eq_false hx]; rfl
        clear hx HE hpt
        go_wp2
        go_ret
        exact ⟨by rw [← HE'.out]; rfl, HB2.out.trans (HW1.out.mono HB2.out.size)⟩
    · obtain rfl : k = n := by omega
      have HE' := HE.out
      rw [List.drop_eq_nil_of_le (by omega), chainS] at HE'
      have hq := ord_eq he1 (Nat.le_refl oneB)
      have hov : oneB = 4607182418800017408 := rfl
      have hR : decide (e = oneB) = R := by rw [← HE']; by_cases h : e = oneB <;> simp [h]
      rw [hR, hov] at hq
      clear HE HE' hlt hR
      go_wp2
      go_ret
      exact ⟨by rw [← hq]; rfl, HB2.out.trans (HW.out.mono HB2.out.size)⟩
end Go.Proofs.Ytfcdajkgopcmpaa
namespace Go.Proofs.Ytfcdajkgopcmpaa
open Go.ChangeShapes Go.WideShapes Go.ChangeAt Go.RowKit
abbrev tobj : Obj := .cells #[.bool false, .bool false, .bool false, .bool false, .bool false, .bool false, .bool false, .bool false, .bool false, .bool false, .bool false, .bool false, .bool false] 91
/-- The IDs that are taken. -/
structure Tk (w : World) (p : Nat) (pre : List RV) : Prop where
  lt : p < w.heap.size
  c : ∀ q : Nat, q ≤ 12 → w.cell? ⟨p, q, none⟩ = some (.bool (pre.any (fun r => r.i == (q : Int))))
  f : ∀ q : Nat, q ≤ 12 → w.frozen? ⟨p, q, none⟩ = false
theorem tk_new (w : World) : Tk (w.alloc tobj) w.heap.size [] := by
  refine ⟨by simp, fun q hq => ?_, fun q _ => World.frozen?_alloc_new _ _ _ _⟩
  have : q = 0 ∨ q = 1 ∨ q = 2 ∨ q = 3 ∨ q = 4 ∨ q = 5 ∨ q = 6 ∨ q = 7 ∨ q = 8 ∨ q = 9 ∨ q = 10 ∨ q = 11 ∨ q = 12 := by omega
  rcases this with rfl | rfl | rfl | rfl | rfl | rfl | rfl | rfl | rfl | rfl | rfl | rfl | rfl <;> simp [World.cell?_alloc_new]
theorem Tk.below {B : Nat} {w w' : World} {p : Nat} {pre : List RV} (h : Tk w p pre) (hb : Below B w w') (hl : p < B) : Tk w' p pre :=
  ⟨Nat.lt_of_lt_of_le h.lt hb.size, fun q hq => (hb.cell hl).trans (h.c q hq), fun q hq => (hb.frozen hl).trans (h.f q hq)⟩
theorem Tk.set {w : World} {p q : Nat} {pre : List RV} {r : RV} (h : Tk w p pre) (hr : r.i = (q : Int)) (hq : q ≤ 12) : Tk (w.setCell ⟨p, q, none⟩ (.bool true)) p (pre ++ [r]) := by
  refine ⟨by simpa using h.lt, fun u hu => ?_, fun u hu => (World.frozen?_setCell _ _ _ _).trans (h.f u hu)⟩
  rw [List.any_append]
  by_cases he : u = q
  · subst he
    rw [World.cell?_setCell_same _ _ _ (h.c u hu)]
    simp [hr]
  · rw [World.cell?_setCell_other _ _ _ _ (fun e => he (by injection e with _ h _; exact h.symm)), h.c u hu]
    have : (r.i == (u : Int)) = false := by rw [beq_eq_false_iff_ne]; omega
    simp [this]
theorem scan_step9 {l : List RV} {k : Nat} (h : k < l.length) (hm : mayV l[k] = true) (ht : (l.take k).any (fun r => r.i == l[k].i) = true) : tailV l k = 9 := by
  unfold tailV
  rw [List.drop_eq_getElem_cons h, scanV, hm, ht]; rfl
theorem scan_step0 {l : List RV} {k : Nat} (h : k < l.length) (hm : mayV l[k] = true) (ht : (l.take k).any (fun r => r.i == l[k].i) = false) : tailV l k = tailV l (k + 1) :=
  tail_next h hm (fun q hq => by have := List.any_eq_false.1 ht q hq; simpa using this)
theorem take_one {l : List RV} {k : Nat} (h : k < l.length) : l.take (k + 1) = l.take k ++ [l[k]] := by
  rw [List.take_add_one, List.getElem?_eq_getElem h]; rfl
set_option maxRecDepth 100000 in
set_option maxHeartbeats 4000000 in
theorem check_some (l : List RV) (n b o cap : Nat) (hn : l.length = n) (h0 : 0 < n) (hn12 : n ≤ 12) (hw : ∀ r ∈ l, r.wf) (w : World) (hb : b < w.heap.size) (hc : ∀ i, (h : i < l.length) → RAt w b (o + i * 4) l[i]) :
    Calls Try.prog 28 #[.slice (some ⟨b, o, none⟩) n cap] w fun e w' => e = .returned (.int .i64 (tailV l 0)) ∧ Below w.heap.size w w' := by
  have hst := run_stf
  have HC := Lib.hid hc
  have HB := Lib.hid hb
  have HWf := Lib.hid hw
  have HN := Lib.hid hn
  obtain ⟨R, hR⟩ : ∃ R, tailV l 0 = R := ⟨_, rfl⟩
  rw [hR]
  have HR := Lib.hid hR
  have hne : ¬ ((n : Int) = 0) := by omega
  have hgt : ¬ ((12 : Int) < (n : Int)) := by omega
  have HK := Lib.hid (tk_new w)
  have HW0 := Lib.hid (below1 w tobj)
  clear hc hb hw hR
  go_enter Try.func28, Try.ntmps28
  go_wp2
  go_loopw [16] (fun vi wr => ∃ (k : Nat), vi = .int .i64 (k : Int) ∧ k ≤ n ∧ Hid (tailV l k = R) ∧ Hid (∀ r ∈ l.take k, mayV r = true) ∧ Hid (Tk wr w.heap.size (l.take k)) ∧ Hid (Below w.heap.size w wr)) (fun vi _ => n - (RowKit.intOf vi).toNat)
  case atStart => exact ⟨0, rfl, Nat.zero_le _, HR, Lib.hid (fun r hr => by cases hr), HK, HW0⟩
  case round =>
    obtain ⟨k, rfl, hk, HT, HM, HTk, HW⟩ := hrel
    by_cases hlt : k < n
    · have hk' : k < l.length := by omega
      have HA := Lib.hid ((HC.out k hk').below HW.out HB.out)
      have hwf := HWf.out _ (List.getElem_mem hk')
      have HI := fun w => Lib.hid (may_any l[k] hwf.2.2.1 hwf.2.2.2 w)
      have HT1 := Lib.hid (fun h => (tail_may hk' h).symm.trans HT.out)
      have HT9 := Lib.hid (fun h he => (scan_step9 hk' h he).symm.trans HT.out)
      have HTN := Lib.hid (fun h he => (scan_step0 hk' h he).symm.trans HT.out)
      have HMN := Lib.hid (fun (h : mayV l[k] = true) => show ∀ r ∈ l.take (k + 1), mayV r = true by
        intro r hr
        rw [take_one hk'] at hr
        rcases List.mem_append.1 hr with h1 | h1
        · exact HM.out r h1
        · obtain rfl : r = l[k] := by simpa using h1
          exact h)
      have htk := take_one hk'
      rw [htk] at HMN
      have HTN : Hid (mayV l[k] = true → (l.take k).any (fun r => r.i == l[k].i) = false → tailV l (k + 1) = R) := HTN
      generalize l[k] = r at *
      generalize l.take k = pre at *
      have r0 := HA.out.c0; have r1 := HA.out.c1; have r2 := HA.out.c2; have r3 := HA.out.c3
      have HQ := Lib.hid (at_new wr r)
      have HW1 := Lib.hid (HW.out.alloc HW.out.size (robj r))
      have HK1 := Lib.hid (HTk.out.below (below1 wr (robj r)) HTk.out.lt)
      have q0 := HQ.out.c0; have q1 := HQ.out.c1; have q2 := HQ.out.c2; have q3 := HQ.out.c3
      clear hwf
      cases hm : mayV r
      · have HT1 := Lib.hid (HT1.out hm)
        rw [hm] at HI
        clear HT9 HTN HMN
        go_wp2_with (go_at_call 39; ((with_reducible refine (HI _).out.mono ?_); rintro e w2 ⟨rfl, h2⟩; have HW2 := Lib.hid (HW1.out.trans (h2.mono HW1.out.size)); clear h2))
        go_ret
        exact ⟨by rw [← HT1.out]; rfl, HW2.out⟩
      · obtain ⟨_, _, _, hi1, hi2, _⟩ := may_pts hm
        obtain ⟨i, e, lo, hi⟩ := r
        simp only at hi1 hi2
        obtain ⟨u, rfl⟩ : ∃ u : Nat, i = (u : Int) := ⟨i.toNat, by omega⟩
        have hu1 : u ≤ 12 := by omega
        have hu2 : (u : Int) < 13 := by omega
        have HT9 := Lib.hid (HT9.out hm)
        have HTN := Lib.hid (HTN.out hm)
        have HMN := Lib.hid (HMN.out hm)
        rw [hm] at HI
        clear HT1 hi1 hi2
        cases ha : pre.any (fun r => r.i == (u : Int))
        · have HTN := Lib.hid (HTN.out ha)
          clear HT9
          go_wp2_with (go_at_call 39; ((with_reducible refine (HI _).out.mono ?_); rintro e w2 ⟨rfl, h2⟩; have HW2 := Lib.hid (HW1.out.trans (h2.mono HW1.out.size)); have HK2 := Lib.hid (HK1.out.below h2 HK1.out.lt); have HQ2 := Lib.hid (HQ.out.below h2 HQ.out.lt); have q0 := HQ2.out.c0; have t0 := HK2.out.c u hu1; rw [ha] at t0; have tf := HK2.out.f u hu1; clear h2))
          go_roundw
          case rel => exact ⟨k + 1, by go_num, by omega, HTN, Lib.hid (htk ▸ HMN.out), Lib.hid (htk ▸ HK2.out.set rfl hu1), Lib.hid (HW2.out.setCell (show w.heap.size ≤ (⟨w.heap.size, u, none⟩ : Addr).block from Nat.le_refl _) _)⟩
          case measure => simp [RowKit.intOf]; omega
        · have HT9 := Lib.hid (HT9.out ha)
          clear HTN
          go_wp2_with (go_at_call 39; ((with_reducible refine (HI _).out.mono ?_); rintro e w2 ⟨rfl, h2⟩; have HW2 := Lib.hid (HW1.out.trans (h2.mono HW1.out.size)); have HK2 := Lib.hid (HK1.out.below h2 HK1.out.lt); have HQ2 := Lib.hid (HQ.out.below h2 HQ.out.lt); have q0 := HQ2.out.c0; have t0 := HK2.out.c u hu1; rw [ha] at t0; clear h2))
          go_ret
          exact ⟨by rw [← HT9.out]; rfl, HW2.out⟩
    · obtain rfl : k = n := by omega
      have hall : ∀ r ∈ l, mayV r = true := by have := HM.out; rwa [List.take_of_length_le (by omega)] at this
      have hend : (bif chainR k 0 l == some oneB then (0 : Int) else 14) = R := by have := HT.out; rw [← HN.out, tail_end, HN.out] at this; exact this
      have HCo := Lib.hid (isCover_some l k b o cap HN.out h0 (by omega) HWf.out hall wr (fun i hi => (HC.out i hi).below HW.out HB.out))
      cases hz : chainR k 0 l == some oneB
      all_goals rw [hz] at HCo hend
      all_goals have HEnd := Lib.hid hend
      all_goals clear hend hz hall HT HM HTk
      all_goals go_wp2_with (go_at_call 45; ((with_reducible refine HCo.out.mono ?_); rintro e w2 ⟨rfl, h2⟩; have HW2 := Lib.hid (HW.out.trans (h2.mono HW.out.size)); clear h2))
      all_goals go_ret
      all_goals exact ⟨by rw [← HEnd.out]; rfl, HW2.out⟩
theorem check_none (ao : Option Addr) (cap : Nat) (w : World) : Calls Try.prog 28 #[.slice ao 0 cap] w fun e w' => e = .returned (.int .i64 8) ∧ Below w.heap.size w w' := by
  go_enter Try.func28, Try.ntmps28
  go_wp2
  go_ret
  exact ⟨rfl, Below.refl _ _⟩
theorem check_many (ao : Option Addr) (n cap : Nat) (hn : 12 < n) (w : World) : Calls Try.prog 28 #[.slice ao n cap] w fun e w' => e = .returned (.int .i64 3) ∧ Below w.heap.size w w' := by
  have hne : ¬ ((n : Int) = 0) := by omega
  have hgt : (12 : Int) < (n : Int) := by omega
  clear hn
  go_enter Try.func28, Try.ntmps28
  go_wp2
  go_ret
  exact ⟨rfl, Below.refl _ _⟩
theorem check_any {P : Nat → Prop} {w : World} {v : Value} {l : List RV} (hv : HasR P w v l) (hw : ∀ r ∈ l, r.wf) :
    Calls Try.prog 28 #[v] w fun e w' => e = .returned (.int .i64 (checkV l)) ∧ Below w.heap.size w w' := by
  obtain ⟨ao, cap, rfl, h1, h2, h3, h4⟩ := hv
  unfold checkV
  rcases h4 with rfl | ⟨b, o, rfl, _, h6, h7⟩
  · exact check_none ao cap w
  by_cases h0 : l.length = 0
  · obtain rfl := List.eq_nil_of_length_eq_zero h0
    exact check_none _ cap w
  rw [beq_eq_false_iff_ne.2 h0, cond_false]
  by_cases h12 : 12 < l.length
  · rw [decide_eq_true h12, cond_true]
    exact check_many _ l.length cap h12 w
  · rw [decide_eq_false h12, cond_false]
    exact check_some l _ b o cap rfl (by omega) (by omega) hw w h6 h7
end Go.Proofs.Ytfcdajkgopcmpaa
