/- raceref4.Check: a list of ranges, by definition. Conditions: none. -/
import Derived.Test.YtfcdajkgopcmpaaFd
import Derived.Test.YtfcdajkgopcmpaaCh
namespace Go.Proofs.Ytfcdajkgopcmpaa
open Go.ChangeShapes Go.WideShapes Go.ChangeAt Go.RowKit
def scanV : List RV → List RV → Int
  | _, [] => 0
  | pre, r :: t => bif mayV r then (bif pre.any (fun q => q.i == r.i) then 9 else scanV (pre ++ [r]) t) else 1
theorem scan_may {l : List RV} {k : Nat} (h : k < l.length) (hm : mayV l[k] = false) : scanV (l.take k) (l.drop k) = 1 := by
  rw [List.drop_eq_getElem_cons h, scanV, hm]; rfl
theorem scan_twice {l : List RV} {k j : Nat} (h : k < l.length) (hj : j < k) (hm : mayV l[k] = true) (he : l[j].i = l[k].i) : scanV (l.take k) (l.drop k) = 9 := by
  have : (l.take k).any (fun q => q.i == l[k].i) = true := by
    rw [List.any_eq_true]
    refine ⟨l[j], ?_, by rw [he]; exact beq_self_eq_true _⟩
    rw [List.mem_take_iff_getElem]
    exact ⟨j, by omega, rfl⟩
  rw [List.drop_eq_getElem_cons h, scanV, hm, this]; rfl
theorem scan_next {l : List RV} {k : Nat} (h : k < l.length) (hm : mayV l[k] = true) (hn : ∀ q ∈ l.take k, q.i ≠ l[k].i) : scanV (l.take k) (l.drop k) = scanV (l.take (k + 1)) (l.drop (k + 1)) := by
  have : (l.take k).any (fun q => q.i == l[k].i) = false := by
    rw [List.any_eq_false]
    intro q hq
    simpa using hn q hq
  have e : l.take k ++ [l[k]] = l.take (k + 1) := by rw [List.take_add_one, List.getElem?_eq_getElem h]; rfl
  rw [List.drop_eq_getElem_cons h, scanV, hm, this, e]; rfl
/-- From the k-th round of the scan on. -/
def tailV (l : List RV) (k : Nat) : Int := bif scanV (l.take k) (l.drop k) == 0 then (bif chainR l.length 0 l == some oneB then 0 else 14) else scanV (l.take k) (l.drop k)
def checkV (l : List RV) : Int := bif l.length == 0 then 8 else bif decide (12 < l.length) then 3 else tailV l 0
theorem tail_may {l : List RV} {k : Nat} (h : k < l.length) (hm : mayV l[k] = false) : tailV l k = 1 := by unfold tailV; rw [scan_may h hm]; rfl
theorem tail_twice {l : List RV} {k j : Nat} (h : k < l.length) (hj : j < k) (hm : mayV l[k] = true) (he : l[j].i = l[k].i) : tailV l k = 9 := by unfold tailV; rw [scan_twice h hj hm he]; rfl
theorem tail_next {l : List RV} {k : Nat} (h : k < l.length) (hm : mayV l[k] = true) (hn : ∀ q ∈ l.take k, q.i ≠ l[k].i) : tailV l k = tailV l (k + 1) := by unfold tailV; rw [scan_next h hm hn]
theorem tail_end (l : List RV) : tailV l l.length = bif chainR l.length 0 l == some oneB then 0 else 14 := by
  unfold tailV; rw [List.take_length, List.drop_length]; rfl
theorem ord_eq {r q : Nat} (hr : r ≤ oneB) (hq : q ≤ oneB) : (FloatKind.f64.format.order r q == some .eq) = decide (r = q) := by
  have h1 : oneB < infR := by decide
  show (Ieee.double.order r q == some Ordering.eq) = _
  by_cases h : r = q
  · subst h
    rw [order_pos (by omega) (by omega), if_neg (Nat.lt_irrefl _), if_neg (Nat.lt_irrefl _), decide_eq_true rfl]
    rfl
  · rw [order_eq_f (by omega) (by omega) h, decide_eq_false h]
/-- What the inner loop has met of those that begin at e. -/
def NxV (l : List RV) (e j : Nat) (nx : Int) : Prop := (nx = -1 ∧ (l.take j).filter (fun r => r.lo == e) = []) ∨ ∃ i : Nat, nx = (i : Int) ∧ ∃ h : i < l.length, (l.take j).filter (fun r => r.lo == e) = [l[i]]
theorem take_filter {l : List RV} {j e : Nat} (h : j < l.length) : (l.take (j + 1)).filter (fun r => r.lo == e) = (l.take j).filter (fun r => r.lo == e) ++ if l[j].lo = e then [l[j]] else [] := by
  rw [List.take_add_one, List.getElem?_eq_getElem h, List.filter_append]
  congr 1
  by_cases he : l[j].lo = e <;> simp [he]
theorem nx_skip {l : List RV} {j e : Nat} {nx : Int} (h : j < l.length) (hne : l[j].lo ≠ e) (hn : NxV l e j nx) : NxV l e (j + 1) nx := by
  unfold NxV at *
  rw [take_filter h, if_neg hne, List.append_nil]
  exact hn
theorem nx_first {l : List RV} {j e : Nat} (h : j < l.length) (he : l[j].lo = e) (hn : (l.take j).filter (fun r => r.lo == e) = []) : NxV l e (j + 1) (j : Int) := by
  refine .inr ⟨j, rfl, h, ?_⟩
  rw [take_filter h, if_pos he, hn]
  rfl
theorem two_none {l : List RV} {j e n : Nat} {r : RV} (h : j < l.length) (he : l[j].lo = e) (hn : (l.take j).filter (fun r => r.lo == e) = [r]) : chainR (n + 1) e l = none := by
  refine chain_none fun q hq => ?_
  have e1 : l = l.take (j + 1) ++ l.drop (j + 1) := (List.take_append_drop _ _).symm
  rw [e1, List.filter_append, take_filter h, if_pos he, hn] at hq
  have := congrArg List.length hq
  simp at this
set_option maxRecDepth 100000 in
set_option maxHeartbeats 4000000 in
theorem rcheck_some (l : List RV) (n b o cap : Nat) (hn : l.length = n) (h0 : 0 < n) (hn12 : n ≤ 12) (hw : ∀ r ∈ l, r.wf) (w : World) (hb : b < w.heap.size) (hcap : n ≤ cap) (hc : ∀ i, (h : i < l.length) → RAt w b (o + i * 4) l[i]) :
    Calls Try.prog 25 #[.slice (some ⟨b, o, none⟩) n cap] w fun e w' => e = .returned (.int .i64 (tailV l 0)) ∧ Below w.heap.size w w' := by
  have HC := Lib.hid hc
  have HB := Lib.hid hb
  have HWf := Lib.hid hw
  obtain ⟨R, hR⟩ : ∃ R, tailV l 0 = R := ⟨_, rfl⟩
  rw [hR]
  have HR := Lib.hid hR
  have hne : ¬ ((n : Int) = 0) := by omega
  have hgt : ¬ ((12 : Int) < (n : Int)) := by omega
  clear hc hb hw hR
  go_enter Try.func25, Try.ntmps25
  go_wp2
  go_loopw [3] (fun vi wr => ∃ (k : Nat), vi = .int .i64 (k : Int) ∧ k ≤ n ∧ Hid (tailV l k = R) ∧ Hid (∀ r ∈ l.take k, mayV r = true) ∧ Hid (Below w.heap.size w wr)) (fun vi _ => n - (RowKit.intOf vi).toNat)
  case atStart => exact ⟨0, rfl, Nat.zero_le _, HR, Lib.hid (fun r hr => by cases hr), Lib.hid (Below.refl _ _)⟩
  case round =>
    obtain ⟨k, rfl, hk, HT, HM, HW⟩ := hrel
    by_cases hlt : k < n
    · have hk' : k < l.length := by omega
      have HA := Lib.hid ((HC.out k hk').below HW.out HB.out)
      have hwf := HWf.out _ (List.getElem_mem hk')
      have HI := fun w => Lib.hid (rmay_any l[k] hwf.2.2.1 hwf.2.2.2 w)
      have HT1 := Lib.hid (fun h => (tail_may hk' h).symm.trans HT.out)
      have HT9 := Lib.hid (fun j (hj : j < k) h he => (tail_twice hk' hj h he).symm.trans HT.out)
      have HTN := Lib.hid (fun h hq => (tail_next hk' h hq).symm.trans HT.out)
      have HMN := Lib.hid (fun (h : mayV l[k] = true) => show ∀ r ∈ l.take (k + 1), mayV r = true by
        intro r hr
        rw [List.take_add_one, List.getElem?_eq_getElem hk'] at hr
        rcases List.mem_append.1 hr with h1 | h1
        · exact HM.out r h1
        · obtain rfl : r = l[k] := by simpa using h1
          exact h)
      have r0 := HA.out.c0; have r1 := HA.out.c1; have r2 := HA.out.c2; have r3 := HA.out.c3
      clear hwf
      cases hm : mayV l[k]
      · have HT1 := Lib.hid (HT1.out hm)
        rw [hm] at HI
        clear HT9 HTN HMN
        go_wp2_with (go_at_call 41; ((with_reducible refine (HI _).out.mono ?_); rintro e w2 ⟨rfl, h2⟩; have HW2 := Lib.hid (HW.out.trans (h2.mono HW.out.size)); clear h2))
        go_ret
        exact ⟨by rw [← HT1.out]; rfl, HW2.out⟩
      · have HT9 := Lib.hid (fun j hj he => HT9.out j hj hm he)
        have HTN := Lib.hid (HTN.out hm)
        have HMN := Lib.hid (HMN.out hm)
        rw [hm] at HI
        clear HT1
        go_wp2_with (go_at_call 41; ((with_reducible refine (HI _).out.mono ?_); rintro e w2 ⟨rfl, h2⟩; have HW2 := Lib.hid (HW.out.trans (h2.mono HW.out.size)); clear h2))
        obtain ⟨wo, rfl⟩ : ∃ wo : World, wo = wr := ⟨_, rfl⟩
        go_loopw [4] (fun vj wr => ∃ (j : Nat), vj = .int .i64 (j : Int) ∧ j ≤ k ∧ Hid (∀ q ∈ l.take j, q.i ≠ l[k].i) ∧ Hid (Below w.heap.size w wr)) (fun vj _ => k - (RowKit.intOf vj).toNat)
        case atStart => exact ⟨0, rfl, Nat.zero_le _, Lib.hid (fun r hr => by cases hr), HW2⟩
        case round =>
          obtain ⟨j, rfl, hj, HQ, HW3⟩ := hrel
          by_cases hjk : j < k
          · have hj' : j < l.length := by omega
            have HA := Lib.hid (((HC.out k hk').below HW3.out HB.out).below (Below.refl wr.heap.size wr).drew (Nat.lt_of_lt_of_le HB.out HW3.out.size))
            have HE := Lib.hid (((HC.out j hj').below HW3.out HB.out).below (Below.refl wr.heap.size wr).drew (Nat.lt_of_lt_of_le HB.out HW3.out.size))
            have r0 := HA.out.c0
            have s0 := HE.out.c0
            have HQN := Lib.hid (fun (h : ¬ l[j].i = l[k].i) => show ∀ q ∈ l.take (j + 1), q.i ≠ l[k].i by
              intro r hr
              rw [List.take_add_one, List.getElem?_eq_getElem hj'] at hr
              rcases List.mem_append.1 hr with h1 | h1
              · exact HQ.out r h1
              · obtain rfl : r = l[j] := by simpa using h1
                exact h)
            by_cases he : l[j].i = l[k].i
            · have HT9 := Lib.hid (HT9.out j hjk he)
              have hee : (l[j].i == l[k].i) = true := by rw [he]; exact beq_self_eq_true _
              clear HQN he
              go_wp2
              go_region
              go_wp2
              go_ret
              exact ⟨by rw [← HT9.out]; rfl, HW3.out.drew⟩
            · have HQN := Lib.hid (HQN.out he)
              have hee : (l[j].i == l[k].i) = false := beq_eq_false_iff_ne.2 he
              clear HT9 he
              go_wp2
              go_region
              go_wp2
              go_roundw
              case rel => exact ⟨j + 1, by go_num, by omega, HQN, Lib.hid HW3.out.drew⟩
              case measure => simp [RowKit.intOf]; omega
          · obtain rfl : j = k := by omega
            have HTN := Lib.hid (HTN.out HQ.out)
            clear HT9 HQ
            go_wp2
            go_roundw
            case rel => exact ⟨j + 1, by go_num, by omega, HTN, HMN, HW3⟩
            case measure => simp [RowKit.intOf]; omega
    · obtain rfl : k = n := by omega
      have hall : ∀ r ∈ l, mayV r = true := by have := HM.out; rwa [List.take_of_length_le (by omega)] at this
      have HV := Lib.hid (fun r hr => may_pts (hall r hr))
      have hend : (bif chainR k 0 l == some oneB then (0 : Int) else 14) = R := by have := HT.out; rw [← hn, tail_end, hn] at this; exact this
      obtain ⟨C, hC⟩ : ∃ C, chainR k 0 l = C := ⟨_, rfl⟩
      rw [hC] at hend
      have HEnd := Lib.hid hend
      have HC0 := Lib.hid hC
      clear hlt hall hend hC HT HM hk
      go_wp2
      obtain ⟨wo, rfl⟩ : ∃ wo : World, wo = wr := ⟨_, rfl⟩
      go_loopw [5, 6] (fun ve vm wr => ∃ (e m : Nat), ve = .float .f64 e ∧ vm = .int .i64 (m : Int) ∧ m ≤ k ∧ e ≤ oneB ∧ Hid (chainR (k - m) e l = C) ∧ Hid (Below w.heap.size w wr)) (fun _ vm _ => k - (RowKit.intOf vm).toNat)
      case atStart => exact ⟨0, 0, rfl, rfl, Nat.zero_le _, by decide, HC0, HW⟩
      case round =>
        obtain ⟨e, m, rfl, rfl, hm, hee, HCm, HW3⟩ := hrel
        by_cases hmk : m < k
        · have hstep : k - m = (k - (m + 1)) + 1 := by omega
          have HCm := Lib.hid (hstep ▸ HCm.out)
          clear hstep
          go_wp2
          obtain ⟨wp, rfl⟩ : ∃ wp : World, wp = wr := ⟨_, rfl⟩
          go_loopw [7, 8] (fun vx vj wr => ∃ (nx : Int) (j : Nat), vx = .int .i64 nx ∧ vj = .int .i64 (j : Int) ∧ j ≤ k ∧ Hid (NxV l e j nx) ∧ Hid (Below w.heap.size w wr)) (fun _ vj _ => k - (RowKit.intOf vj).toNat)
          case atStart => exact ⟨-1, 0, rfl, rfl, Nat.zero_le _, Lib.hid (.inl ⟨rfl, rfl⟩), HW3⟩
          case round =>
            obtain ⟨nx, j, rfl, rfl, hj, HX, HW4⟩ := hrel
            by_cases hjk : j < k
            · have hj' : j < l.length := by omega
              have HE := Lib.hid ((HC.out j hj').below HW4.out HB.out)
              have hpt := HV.out _ (List.getElem_mem hj')
              have hq := ord_eq (of_decide_eq_true hpt.1) hee
              have s2 := HE.out.c2
              clear hpt
              by_cases he : l[j].lo = e
              · rw [decide_eq_true he] at hq
                rcases HX.out with ⟨rfl, hf⟩ | ⟨i, rfl, hi, hf⟩
                · have HN := Lib.hid (nx_first hj' he hf)
                  clear hf he HX
                  go_wp2
                  go_roundw
                  case rel => exact ⟨_, j + 1, rfl, by go_num, by omega, HN, HW4⟩
                  case measure => simp [RowKit.intOf]; omega
                · have h14 : C = none := HCm.out.symm.trans (two_none hj' he hf)
                  have HEnd := Lib.hid (h14 ▸ HEnd.out)
                  have hi0 : (0 : Int) ≤ (i : Int) := Int.natCast_nonneg i
                  clear hf he HX h14
                  go_wp2
                  go_ret
                  exact ⟨by rw [← HEnd.out]; rfl, HW4.out⟩
              · rw [decide_eq_false he] at hq
                have HN := Lib.hid (nx_skip hj' he HX.out)
                clear he HX
                go_wp2
                go_roundw
                case rel => exact ⟨_, j + 1, rfl, by go_num, by omega, HN, HW4⟩
                case measure => simp [RowKit.intOf]; omega
            · obtain rfl : j = k := by omega
              have hX := HX.out
              unfold NxV at hX
              rw [List.take_of_length_le (by omega)] at hX
              rcases hX with ⟨rfl, hf⟩ | ⟨i, rfl, hi, hf⟩
              · have h14 : C = none := HCm.out.symm.trans (chain_none fun r h => by rw [hf] at h; cases h)
                have HEnd := Lib.hid (h14 ▸ HEnd.out)
                clear hf HX h14
                go_wp2
                go_ret
                exact ⟨by rw [← HEnd.out]; rfl, HW4.out⟩
              · have HCn := Lib.hid ((chain_one hf).symm.trans HCm.out)
                have HE := Lib.hid ((HC.out i hi).below HW4.out HB.out)
                have hpt := HV.out _ (List.getElem_mem hi)
                have hle := of_decide_eq_true hpt.2.1
                have s3 := HE.out.c3
                have hi0 : ¬ (i : Int) < 0 := by omega
                have hil : i < j := by omega
                clear hf HX hpt HCm
                go_wp2
                go_roundw
                case rel => exact ⟨_, m + 1, rfl, by go_num, by omega, hle, HCn, HW4⟩
                case measure => simp [RowKit.intOf]; omega
        · obtain rfl : m = k := by omega
          have hC : some e = C := by have := HCm.out; rw [Nat.sub_self] at this; exact this
          have hq := ord_eq hee (Nat.le_refl oneB)
          have HEnd := Lib.hid (hC ▸ HEnd.out)
          have hov : oneB = 4607182418800017408 := rfl
          clear hC HCm
          by_cases he : e = oneB
          · rw [decide_eq_true he, hov] at hq
            have hq : (FloatKind.f64.format.order e 4607182418800017408 != some Ordering.eq) = false := by rw [bne, hq]; rfl
            have hR : (0 : Int) = R := by rw [← HEnd.out, he]; rfl
            have HR' := Lib.hid hR
            clear he hR HEnd
            go_wp2
            go_ret
            exact ⟨by rw [← HR'.out]; rfl, HW3.out⟩
          · rw [decide_eq_false he, hov] at hq
            have hq : (FloatKind.f64.format.order e 4607182418800017408 != some Ordering.eq) = true := by rw [bne, hq]; rfl
            have hR : (14 : Int) = R := by
              rw [← HEnd.out]
              have : (some e == some oneB) = false := by simpa using he
              rw [this]; rfl
            have HR' := Lib.hid hR
            clear he hR HEnd
            go_wp2
            go_ret
            exact ⟨by rw [← HR'.out]; rfl, HW3.out⟩
theorem rcheck_none (ao : Option Addr) (cap : Nat) (w : World) : Calls Try.prog 25 #[.slice ao 0 cap] w fun e w' => e = .returned (.int .i64 8) ∧ Below w.heap.size w w' := by
  go_enter Try.func25, Try.ntmps25
  go_wp2
  go_ret
  exact ⟨rfl, Below.refl _ _⟩
theorem rcheck_many (ao : Option Addr) (n cap : Nat) (hn : 12 < n) (w : World) : Calls Try.prog 25 #[.slice ao n cap] w fun e w' => e = .returned (.int .i64 3) ∧ Below w.heap.size w w' := by
  have hne : ¬ ((n : Int) = 0) := by omega
  have hgt : (12 : Int) < (n : Int) := by omega
  clear hn
  go_enter Try.func25, Try.ntmps25
  go_wp2
  go_ret
  exact ⟨rfl, Below.refl _ _⟩
theorem rcheck_any {P : Nat → Prop} {w : World} {v : Value} {l : List RV} (hv : HasR P w v l) (hw : ∀ r ∈ l, r.wf) :
    Calls Try.prog 25 #[v] w fun e w' => e = .returned (.int .i64 (checkV l)) ∧ Below w.heap.size w w' := by
  obtain ⟨ao, cap, rfl, h1, h2, h3, h4⟩ := hv
  unfold checkV
  rcases h4 with rfl | ⟨b, o, rfl, _, h6, h7⟩
  · exact rcheck_none ao cap w
  by_cases h0 : l.length = 0
  · obtain rfl := List.eq_nil_of_length_eq_zero h0
    exact rcheck_none _ cap w
  rw [beq_eq_false_iff_ne.2 h0, cond_false]
  by_cases h12 : 12 < l.length
  · rw [decide_eq_true h12, cond_true]
    exact rcheck_many _ l.length cap h12 w
  · rw [decide_eq_false h12, cond_false]
    exact rcheck_some l _ b o cap rfl (by omega) (by omega) hw w h6 h1 h7
end Go.Proofs.Ytfcdajkgopcmpaa
