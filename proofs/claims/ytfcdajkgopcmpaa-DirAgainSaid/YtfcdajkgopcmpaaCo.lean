/- isCover: the ranges in ascending order, each where the last one ended. Conditions: all are valid. -/
import Derived.Test.YtfcdajkgopcmpaaCs
import Derived.Test.YtfcdajkgopcmpaaCk
namespace Go.Proofs.Ytfcdajkgopcmpaa
open Go.ChangeShapes Go.WideShapes Go.ChangeAt Go.RowKit
theorem canon_pt {b : Nat} (hb : b ≤ oneB) : canon b = b := canon_fin (Nat.lt_of_le_of_lt hb (by decide))
theorem rank_le {a b : Nat} (ha : a ≤ oneB) (hb : b ≤ oneB) (h : rankN a ≤ rankN b) : a ≤ b := by
  have hov : oneB = 4607182418800017408 := rfl
  have ca : canon a = a := canon_pt ha
  have cb : canon b = b := canon_pt hb
  rw [rankN_lo (by omega), rankN_lo (by omega)] at h
  omega
theorem chainS_at {s : List RV} {i e : Nat} (h : i < s.length) : chainS e (s.drop i) = if s[i].lo = e then chainS s[i].hi (s.drop (i + 1)) else none := by
  rw [List.drop_eq_getElem_cons h, chainS]
set_option maxRecDepth 100000 in
set_option maxHeartbeats 4000000 in
theorem isCover_some (l : List RV) (n b o cap : Nat) (hn : l.length = n) (h0 : 0 < n) (hm : n ≤ 1000000) (hw : ∀ r ∈ l, r.wf) (hv : ∀ r ∈ l, mayV r = true) (w : World) (hc : ∀ i, (h : i < l.length) → RAt w b (o + i * 4) l[i]) :
    Calls Try.prog 45 #[.slice (some ⟨b, o, none⟩) n cap] w fun e w' => e = .returned (.bool (chainR n 0 l == some oneB)) ∧ Below w.heap.size w w' := by
  have hst := run_stf
  obtain ⟨R, hR⟩ : ∃ R, (chainR n 0 l == some oneB) = R := ⟨_, rfl⟩
  rw [hR]
  have HCl := Lib.hid (clone_some l n b o cap hn hm w hc)
  have HS := fun (W : World) (g c : Nat) (h : W.ownsRow w.heap.size 37 4 (.slice (some ⟨g, 0, none⟩) n c) n (cellsR l)) (hg : w.heap.size ≤ g) (hgs : g < W.heap.size) => Lib.hid (sort_own l hw hn hm h hg hgs)
  have HV := Lib.hid (fun r hr => may_pts (hv r hr))
  have HR := Lib.hid hR
  have HN := Lib.hid hn
  clear hc hw hv hR hn
  go_enter Try.func45, Try.ntmps45
  go_wp2_with (first
    | (go_at_call 54; ((with_reducible refine HCl.out.mono ?_); rintro e w1 ⟨v1, rfl, hown, hb⟩; have HB1 := Lib.hid hb; obtain ⟨g, cap1, cur, rfl, hg, hgb, hcap1, _⟩ := hown.2.resolve_left (by rintro ⟨_, hz⟩; omega); have hgs := (Array.getElem?_eq_some_iff.1 hgb).1; have HO := Lib.hid hown; clear hb hown hgb))
    | (go_at_call 55; refine (HS _ g cap1 HO.out hg hgs).out.mono ?_; rintro e w2 ⟨rfl, s, hp, hso, hrow, hlt, hb⟩; have HB2 := Lib.hid (HB1.out.trans hb)))
  have hv' : ∀ q ∈ l, q.lo < q.hi := fun q hq => (HV.out q hq).2.2.1
  have hasc : s.Pairwise (fun a b => a.lo ≤ b.lo) := hso.imp_of_mem fun ha hb h => rank_le (of_decide_eq_true (HV.out _ (hp.mem_iff.1 ha)).1) (of_decide_eq_true (HV.out _ (hp.mem_iff.1 hb)).1) h
  have hch := chain_same hv' hp hasc 0
  rw [HN.out] at hch
  have hsl : s.length = n := hp.length_eq.trans HN.out
  have HSV := Lib.hid (fun r hr => HV.out r (hp.mem_iff.1 hr))
  have HEnd := Lib.hid (hch ▸ HR.out : (chainS 0 s == some oneB) = R)
  have HRow := Lib.hid hrow
  have HLT := Lib.hid hlt
  clear hv' hasc hch hp hso HV HR HCl HS hrow hlt HO hb
  go_loopw [4, 13] (fun ve vi wr => ∃ (e k : Nat), ve = .float .f64 e ∧ vi = .int .i64 (k : Int) ∧ k ≤ n ∧ e ≤ oneB ∧ Hid ((chainS e (s.drop k) == some oneB) = R) ∧ Hid (Below w2.heap.size w2 wr)) (fun _ vi _ => n - (RowKit.intOf vi).toNat)
  case atStart => exact ⟨0, 0, rfl, rfl, Nat.zero_le _, by decide, HEnd, Lib.hid (Below.refl _ _)⟩
  case round =>
    obtain ⟨e, k, rfl, rfl, hk, he1, HE, HW⟩ := hrel
    by_cases hlt : k < n
    · have hk' : k < s.length := by omega
      have hA := (HRow.out k hk').below HW.out HLT.out
      rw [Nat.zero_add] at hA
      have HA := Lib.hid hA
      clear hA
      have hpt := HSV.out _ (List.getElem_mem hk')
      have hq := ord_eq (of_decide_eq_true hpt.1) he1
      have hhi := of_decide_eq_true hpt.2.1
      have HE' := HE.out
      rw [chainS_at hk'] at HE'
      generalize s[k] = r at *
      have HT := Lib.hid (at_new wr r)
      have HW1 := Lib.hid (HW.out.alloc HW.out.size (robj r))
      have r0 := HA.out.c0; have r1 := HA.out.c1; have r2 := HA.out.c2; have r3 := HA.out.c3
      have t2 := HT.out.c2; have t3 := HT.out.c3
      by_cases hx : r.lo = e
      · rw [if_pos hx] at HE'
        have HE' := Lib.hid HE'
        have hq : (FloatKind.f64.format.order r.lo e != some Ordering.eq) = false := by rw [bne, hq, decide_eq_true hx]; rfl
        clear hx HE hpt
        go_wp2
        go_roundw
        case rel => exact ⟨_, k + 1, rfl, by go_num, by omega, hhi, HE', HW1⟩
        case measure => simp [RowKit.intOf]; omega
      · rw [if_neg hx] at HE'
        have HE' := Lib.hid HE'
        have hq : (FloatKind.f64.format.order r.lo e != some Ordering.eq) = true := by rw [bne, hq, decide_eq_false hx]; rfl
        clear hx HE hpt
        go_wp2
        go_ret
        exact ⟨by rw [← HE'.out]; rfl, HB2.out.trans (HW1.out.mono HB2.out.size)⟩
    · obtain rfl : k = n := by omega
      have HE' := HE.out
      rw [List.drop_eq_nil_of_le (by omega), chainS] at HE'
      have hq := ord_eq he1 (Nat.le_refl oneB)
      have hov : oneB = 4607182418800017408 := rfl
      have hR : decide (e = oneB) = R := by rw [← HE']; by_cases h : e = oneB <;> simp [h]
      rw [hR, hov] at hq
      clear HE HE' hlt hR
      go_wp2
      go_ret
      exact ⟨by rw [← hq]; rfl, HB2.out.trans (HW.out.mono HB2.out.size)⟩
end Go.Proofs.Ytfcdajkgopcmpaa
