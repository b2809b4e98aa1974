/- raceref4.Check: a list of ranges, by definition. Conditions: none. Covers in plain terms: a check that finds nothing; in any order, without one, with one twice, with one split; each place lies in just one. Conditions: none of its own. -/
import Derived.Test.YtfcdajkgopcmpaaJFd
import Derived.Test.YtfcdajkgopcmpaaJMd
namespace Go.Proofs.Ytfcdajkgopcmpaa
open Go.ChangeShapes Go.WideShapes Go.ChangeAt Go.RowKit
def scanV : List RV → List RV → Int
  | _, [] => 0
  | pre, r :: t => bif mayV r then (bif pre.any (fun q => q.i == r.i) then 9 else scanV (pre ++ [r]) t) else 1
theorem scan_may {l : List RV} {k : Nat} (h : k < l.length) (hm : mayV l[k] = false) : scanV (l.take k) (l.drop k) = 1 := by
  rw [List.drop_eq_getElem_cons h, scanV, hm]; rfl
theorem scan_twice {l : List RV} {k j : Nat} (h : k < l.length) (hj : j < k) (hm : mayV l[k] = true) (he : l[j].i = l[k].i) : scanV (l.take k) (l.drop k) = 9 := by
  have : (l.take k).any (fun q => q.i == l[k].i) = true := by
    rw [List.any_eq_true]
    refine ⟨l[j], ?_, by rw [he]; exact beq_self_eq_true _⟩
    rw [List.mem_take_iff_getElem]
    exact ⟨j, by omega, rfl⟩
  rw [List.drop_eq_getElem_cons h, scanV, hm, this]; rfl
theorem scan_next {l : List RV} {k : Nat} (h : k < l.length) (hm : mayV l[k] = true) (hn : ∀ q ∈ l.take k, q.i ≠ l[k].i) : scanV (l.take k) (l.drop k) = scanV (l.take (k + 1)) (l.drop (k + 1)) := by
  have : (l.take k).any (fun q => q.i == l[k].i) = false := by
    rw [List.any_eq_false]
    intro q hq
    simpa using hn q hq
  have e : l.take k ++ [l[k]] = l.take (k + 1) := by rw [List.take_add_one, List.getElem?_eq_getElem h]; rfl
  rw [List.drop_eq_getElem_cons h, scanV, hm, this, e]; rfl
/-- From the k-th round of the scan on. -/
def tailV (l : List RV) (k : Nat) : Int := bif scanV (l.take k) (l.drop k) == 0 then (bif chainR l.length 0 l == some oneB then 0 else 14) else scanV (l.take k) (l.drop k)
def checkV (l : List RV) : Int := bif l.length == 0 then 8 else bif decide (12 < l.length) then 3 else tailV l 0
theorem tail_may {l : List RV} {k : Nat} (h : k < l.length) (hm : mayV l[k] = false) : tailV l k = 1 := by unfold tailV; rw [scan_may h hm]; rfl
theorem tail_twice {l : List RV} {k j : Nat} (h : k < l.length) (hj : j < k) (hm : mayV l[k] = true) (he : l[j].i = l[k].i) : tailV l k = 9 := by unfold tailV; rw [scan_twice h hj hm he]; rfl
theorem tail_next {l : List RV} {k : Nat} (h : k < l.length) (hm : mayV l[k] = true) (hn : ∀ q ∈ l.take k, q.i ≠ l[k].i) : tailV l k = tailV l (k + 1) := by unfold tailV; rw [scan_next h hm hn]
theorem tail_end (l : List RV) : tailV l l.length = bif chainR l.length 0 l == some oneB then 0 else 14 := by
  unfold tailV; rw [List.take_length, List.drop_length]; rfl
theorem ord_eq {r q : Nat} (hr : r ≤ oneB) (hq : q ≤ oneB) : (FloatKind.f64.format.order r q == some .eq) = decide (r = q) := by
  have h1 : oneB < infR := by decide
  show (Ieee.double.order r q == some Ordering.eq) = _
  by_cases h : r = q
  · subst h
    rw [order_pos (by omega) (by omega), if_neg (Nat.lt_irrefl _), if_neg (Nat.lt_irrefl _), decide_eq_true rfl]
    rfl
  · rw [order_eq_f (by omega) (by omega) h, decide_eq_false h]
/-- What the inner loop has met of those that begin at e. -/
def NxV (l : List RV) (e j : Nat) (nx : Int) : Prop := (nx = -1 ∧ (l.take j).filter (fun r => r.lo == e) = []) ∨ ∃ i : Nat, nx = (i : Int) ∧ ∃ h : i < l.length, (l.take j).filter (fun r => r.lo == e) = [l[i]]
theorem take_filter {l : List RV} {j e : Nat} (h : j < l.length) : (l.take (j + 1)).filter (fun r => r.lo == e) = (l.take j).filter (fun r => r.lo == e) ++ if l[j].lo = e then [l[j]] else [] := by
  rw [List.take_add_one, List.getElem?_eq_getElem h, List.filter_append]
  congr 1
  by_cases he : l[j].lo = e <;> simp [he]
theorem nx_skip {l : List RV} {j e : Nat} {nx : Int} (h : j < l.length) (hne : l[j].lo ≠ e) (hn : NxV l e j nx) : NxV l e (j + 1) nx := by
  unfold NxV at *
  rw [take_filter h, if_neg hne, List.append_nil]
  exact hn
theorem nx_first {l : List RV} {j e : Nat} (h : j < l.length) (he : l[j].lo = e) (hn : (l.take j).filter (fun r => r.lo == e) = []) : NxV l e (j + 1) (j : Int) := by
  refine .inr ⟨j, rfl, h, ?_⟩
  rw [take_filter h, if_pos he, hn]
  rfl
theorem two_none {l : List RV} {j e n : Nat} {r : RV} (h : j < l.length) (he : l[j].lo = e) (hn : (l.take j).filter (fun r => r.lo == e) = [r]) : chainR (n + 1) e l = none := by
  refine chain_none fun q hq => ?_
  have e1 : l = l.take (j + 1) ++ l.drop (j + 1) := (List.take_append_drop _ _).symm
  rw [e1, List.filter_append, take_filter h, if_pos he, hn] at hq
  have := congrArg List.length hq
  simp at this
set_option maxRecDepth 100000 in
set_option maxHeartbeats 4000000 in
theorem rcheck_some (l : List RV) (n b o cap : Nat) (hn : l.length = n) (h0 : 0 < n) (hn12 : n ≤ 12) (hw : ∀ r ∈ l, r.wf) (w : World) (hb : b < w.heap.size) (hcap : n ≤ cap) (hc : ∀ i, (h : i < l.length) → RAt w b (o + i * 4) l[i]) :
    Calls Try.prog 25 #[.slice (some ⟨b, o, none⟩) n cap] w fun e w' => e = .returned (.int .i64 (tailV l 0)) ∧ Below w.heap.size w w' := by
  have HC := Lib.hid hc
  have HB := Lib.hid hb
  have HWf := Lib.hid hw
  obtain ⟨R, hR⟩ : ∃ R, tailV l 0 = R := ⟨_, rfl⟩
  rw [hR]
  have HR := Lib.hid hR
  have hne : ¬ ((n : Int) = 0) := by omega
  have hgt : ¬ ((12 : Int) < (n : Int)) := by omega
  clear hc hb hw hR
  go_enter Try.func25, Try.ntmps25
  go_wp2
  go_loopw [3] (fun vi wr => ∃ (k : Nat), vi = .int .i64 (k : Int) ∧ k ≤ n ∧ Hid (tailV l k = R) ∧ Hid (∀ r ∈ l.take k, mayV r = true) ∧ Hid (Below w.heap.size w wr)) (fun vi _ => n - (RowKit.intOf vi).toNat)
  case atStart => exact ⟨0, rfl, Nat.zero_le _, HR, Lib.hid (fun r hr => by cases hr), Lib.hid (Below.refl _ _)⟩
  case round =>
    obtain ⟨k, rfl, hk, HT, HM, HW⟩ := hrel
    by_cases hlt : k < n
    · have hk' : k < l.length := by omega
      have HA := Lib.hid ((HC.out k hk').below HW.out HB.out)
      have hwf := HWf.out _ (List.getElem_mem hk')
      have HI := fun w => Lib.hid (rmay_any l[k] hwf.2.2.1 hwf.2.2.2 w)
      have HT1 := Lib.hid (fun h => (tail_may hk' h).symm.trans HT.out)
      have HT9 := Lib.hid (fun j (hj : j < k) h he => (tail_twice hk' hj h he).symm.trans HT.out)
      have HTN := Lib.hid (fun h hq => (tail_next hk' h hq).symm.trans HT.out)
      have HMN := Lib.hid (fun (h : mayV l[k] = true) => show ∀ r ∈ l.take (k + 1), mayV r = true by
        intro r hr
        rw [List.take_add_one, List.getElem?_eq_getElem hk'] at hr
        rcases List.mem_append.1 hr with h1 | h1
        · exact HM.out r h1
        · obtain rfl : r = l[k] := by simpa using h1
          exact h)
      have r0 := HA.out.c0; have r1 := HA.out.c1; have r2 := HA.out.c2; have r3 := HA.out.c3
      clear hwf
      cases hm : mayV l[k]
      · have HT1 := Lib.hid (HT1.out hm)
        rw [hm] at HI
        clear HT9 HTN HMN
        go_wp2_with (go_at_call 41; ((with_reducible refine (HI _).out.mono ?_); rintro e w2 ⟨rfl, h2⟩; have HW2 := Lib.hid (HW.out.trans (h2.mono HW.out.size)); clear h2))
        go_ret
        exact ⟨by rw [← HT1.out]; rfl, HW2.out⟩
      · have HT9 := Lib.hid (fun j hj he => HT9.out j hj hm he)
        have HTN := Lib.hid (HTN.out hm)
        have HMN := Lib.hid (HMN.out hm)
        rw [hm] at HI
        clear HT1
        go_wp2_with (go_at_call 41; ((with_reducible refine (HI _).out.mono ?_); rintro e w2 ⟨rfl, h2⟩; have HW2 := Lib.hid (HW.out.trans (h2.mono HW.out.size)); clear h2))
        obtain ⟨wo, rfl⟩ : ∃ wo : World, wo = wr := ⟨_, rfl⟩
        go_loopw [4] (fun vj wr => ∃ (j : Nat), vj = .int .i64 (j : Int) ∧ j ≤ k ∧ Hid (∀ q ∈ l.take j, q.i ≠ l[k].i) ∧ Hid (Below w.heap.size w wr)) (fun vj _ => k - (RowKit.intOf vj).toNat)
        case atStart => exact ⟨0, rfl, Nat.zero_le _, Lib.hid (fun r hr => by cases hr), HW2⟩
        case round =>
          obtain ⟨j, rfl, hj, HQ, HW3⟩ := hrel
          by_cases hjk : j < k
          · have hj' : j < l.length := by omega
            have HA := Lib.hid (((HC.out k hk').below HW3.out HB.out).below (Below.refl wr.heap.size wr).drew (Nat.lt_of_lt_of_le HB.out HW3.out.size))
            have HE := Lib.hid (((HC.out j hj').below HW3.out HB.out).below (Below.refl wr.heap.size wr).drew (Nat.lt_of_lt_of_le HB.out HW3.out.size))
            have r0 := HA.out.c0
            have s0 := HE.out.c0
            have HQN := Lib.hid (fun (h : ¬ l[j].i = l[k].i) => show ∀ q ∈ l.take (j + 1), q.i ≠ l[k].i by
              intro r hr
              rw [List.take_add_one, List.getElem?_eq_getElem hj'] at hr
              rcases List.mem_append.1 hr with h1 | h1
              · exact HQ.out r h1
              · obtain rfl : r = l[j] := by simpa using h1
                exact h)
            by_cases he : l[j].i = l[k].i
            · have HT9 := Lib.hid (HT9.out j hjk he)
              have hee : (l[j].i == l[k].i) = true := by rw [he]; exact beq_self_eq_true _
              clear HQN he
              go_wp2
              go_region
              go_wp2
              go_ret
              exact ⟨by rw [← HT9.out]; rfl, HW3.out.drew⟩
            · have HQN := Lib.hid (HQN.out he)
              have hee : (l[j].i == l[k].i) = false := beq_eq_false_iff_ne.2 he
              clear HT9 he
              go_wp2
              go_region
              go_wp2
              go_roundw
              case rel => exact ⟨j + 1, by go_num, by omega, HQN, Lib.hid HW3.out.drew⟩
              case measure => simp [RowKit.intOf]; omega
          · obtain rfl : j = k := by omega
            have HTN := Lib.hid (HTN.out HQ.out)
            clear HT9 HQ
            go_wp2
            go_roundw
            case rel => exact ⟨j + 1, by go_num, by omega, HTN, HMN, HW3⟩
            case measure => simp [RowKit.intOf]; omega
    · obtain rfl : k = n := by omega
      have hall : ∀ r ∈ l, mayV r = true := by have := HM.out; rwa [List.take_of_length_le (by omega)] at this
      have HV := Lib.hid (fun r hr => may_pts (hall r hr))
      have hend : (bif chainR k 0 l == some oneB then (0 : Int) else 14) = R := by have := HT.out; rw [← hn, tail_end, hn] at this; exact this
      obtain ⟨C, hC⟩ : ∃ C, chainR k 0 l = C := ⟨_, rfl⟩
      rw [hC] at hend
      have HEnd := Lib.hid hend
      have HC0 := Lib.hid hC
      clear hlt hall hend hC HT HM hk
      go_wp2
      obtain ⟨wo, rfl⟩ : ∃ wo : World, wo = wr := ⟨_, rfl⟩
      go_loopw [5, 6] (fun ve vm wr => ∃ (e m : Nat), ve = .float .f64 e ∧ vm = .int .i64 (m : Int) ∧ m ≤ k ∧ e ≤ oneB ∧ Hid (chainR (k - m) e l = C) ∧ Hid (Below w.heap.size w wr)) (fun _ vm _ => k - (RowKit.intOf vm).toNat)
      case atStart => exact ⟨0, 0, rfl, rfl, Nat.zero_le _, by decide, HC0, HW⟩
      case round =>
        obtain ⟨e, m, rfl, rfl, hm, hee, HCm, HW3⟩ := hrel
        by_cases hmk : m < k
        · have hstep : k - m = (k - (m + 1)) + 1 := by omega
          have HCm := Lib.hid (hstep ▸ HCm.out)
          clear hstep
          go_wp2
          obtain ⟨wp, rfl⟩ : ∃ wp : World, wp = wr := ⟨_, rfl⟩
          go_loopw [7, 8] (fun vx vj wr => ∃ (nx : Int) (j : Nat), vx = .int .i64 nx ∧ vj = .int .i64 (j : Int) ∧ j ≤ k ∧ Hid (NxV l e j nx) ∧ Hid (Below w.heap.size w wr)) (fun _ vj _ => k - (RowKit.intOf vj).toNat)
          case atStart => exact ⟨-1, 0, rfl, rfl, Nat.zero_le _, Lib.hid (.inl ⟨rfl, rfl⟩), HW3⟩
          case round =>
            obtain ⟨nx, j, rfl, rfl, hj, HX, HW4⟩ := hrel
            by_cases hjk : j < k
            · have hj' : j < l.length := by omega
              have HE := Lib.hid ((HC.out j hj').below HW4.out HB.out)
              have hpt := HV.out _ (List.getElem_mem hj')
              have hq := ord_eq (of_decide_eq_true hpt.1) hee
              have s2 := HE.out.c2
              clear hpt
              by_cases he : l[j].lo = e
              · rw [decide_eq_true he] at hq
                rcases HX.out with ⟨rfl, hf⟩ | ⟨i, rfl, hi, hf⟩
                · have HN := Lib.hid (nx_first hj' he hf)
                  clear hf he HX
                  go_wp2
                  go_roundw
                  case rel => exact ⟨_, j + 1, rfl, by go_num, by omega, HN, HW4⟩
                  case measure => simp [RowKit.intOf]; omega
                · have h14 : C = none := HCm.out.symm.trans (two_none hj' he hf)
                  have HEnd := Lib.hid (h14 ▸ HEnd.out)
                  have hi0 : (0 : Int) ≤ (i : Int) := Int.natCast_nonneg i
                  clear hf he HX h14
                  go_wp2
                  go_ret
                  exact ⟨by rw [← HEnd.out]; rfl, HW4.out⟩
              · rw [decide_eq_false he] at hq
                have HN := Lib.hid (nx_skip hj' he HX.out)
                clear he HX
                go_wp2
                go_roundw
                case rel => exact ⟨_, j + 1, rfl, by go_num, by omega, HN, HW4⟩
                case measure => simp [RowKit.intOf]; omega
            · obtain rfl : j = k := by omega
              have hX := HX.out
              unfold NxV at hX
              rw [List.take_of_length_le (by omega)] at hX
              rcases hX with ⟨rfl, hf⟩ | ⟨i, rfl, hi, hf⟩
              · have h14 : C = none := HCm.out.symm.trans (chain_none fun r h => by rw [hf] at h; cases h)
                have HEnd := Lib.hid (h14 ▸ HEnd.out)
                clear hf HX h14
                go_wp2
                go_ret
                exact ⟨by rw [← HEnd.out]; rfl, HW4.out⟩
              · have HCn := Lib.hid ((chain_one hf).symm.trans HCm.out)
                have HE := Lib.hid ((HC.out i hi).below HW4.out HB.out)
                have hpt := HV.out _ (List.getElem_mem hi)
                have hle := of_decide_eq_true hpt.2.1
                have s3 := HE.out.c3
                have hi0 : ¬ (i : Int) < 0 := by omega
                have hil : i < j := by omega
                clear hf HX hpt HCm
                go_wp2
                go_roundw
                case rel => exact ⟨_, m + 1, rfl, by go_num, by omega, hle, HCn, HW4⟩
                case measure => simp [RowKit.intOf]; omega
        · obtain rfl : m = k := by omega
          have hC : some e = C := by have := HCm.out; rw [Nat.sub_self] at this; exact this
          have hq := ord_eq hee (Nat.le_refl oneB)
          have HEnd := Lib.hid (hC ▸ HEnd.out)
          have hov : oneB = 4607182418800017408 := rfl
          clear hC HCm
          by_cases he : e = oneB
          · rw [decide_eq_true he, hov] at hq
            have hq : (FloatKind.f64.format.order e 4607182418800017408 != some Ordering.eq) = false := by rw [bne, hq]; rfl
            have hR : (0 : Int) = R := by rw [← HEnd.out, he]; rfl
            have HR' := Lib.hid hR
            clear he hR HEnd
            go_wp2
            go_ret
            exact ⟨by rw [← HR'.out]; rfl, HW3.out⟩
          · rw [decide_eq_false he, hov] at hq
            have hq : (FloatKind.f64.format.order e 4607182418800017408 != some Ordering.eq) = true := by rw [bne, hq]; rfl
            have hR : (14 : Int) = R := by
              rw [← HEnd.out]
              have : (some e == some oneB) = false := by simpa using he
              rw [this]; rfl
            have HR' := Lib.hid hR
            clear he hR HEnd
            go_wp2
            go_ret
            exact ⟨by rw [← HR'.out]; rfl, HW3.out⟩
theorem rcheck_none (ao : Option Addr) (cap : Nat) (w : World) : Calls Try.prog 25 #[.slice ao 0 cap] w fun e w' => e = .returned (.int .i64 8) ∧ Below w.heap.size w w' := by
  go_enter Try.func25, Try.ntmps25
  go_wp2
  go_ret
  exact ⟨rfl, Below.refl _ _⟩
theorem rcheck_many (ao : Option Addr) (n cap : Nat) (hn : 12 < n) (w : World) : Calls Try.prog 25 #[.slice ao n cap] w fun e w' => e = .returned (.int .i64 3) ∧ Below w.heap.size w w' := by
  have hne : ¬ ((n : Int) = 0) := by omega
  have hgt : (12 : Int) < (n : Int) := by omega
  clear hn
  go_enter Try.func25, Try.ntmps25
  go_wp2
  go_ret
  exact ⟨rfl, Below.refl _ _⟩
theorem rcheck_any {P : Nat → Prop} {w : World} {v : Value} {l : List RV} (hv : HasR P w v l) (hw : ∀ r ∈ l, r.wf) :
    Calls Try.prog 25 #[v] w fun e w' => e = .returned (.int .i64 (checkV l)) ∧ Below w.heap.size w w' := by
  obtain ⟨ao, cap, rfl, h1, h2, h3, h4⟩ := hv
  unfold checkV
  rcases h4 with rfl | ⟨b, o, rfl, _, h6, h7⟩
  · exact rcheck_none ao cap w
  by_cases h0 : l.length = 0
  · obtain rfl := List.eq_nil_of_length_eq_zero h0
    exact rcheck_none _ cap w
  rw [beq_eq_false_iff_ne.2 h0, cond_false]
  by_cases h12 : 12 < l.length
  · rw [decide_eq_true h12, cond_true]
    exact rcheck_many _ l.length cap h12 w
  · rw [decide_eq_false h12, cond_false]
    exact rcheck_some l _ b o cap rfl (by omega) (by omega) hw w h6 h1 h7
end Go.Proofs.Ytfcdajkgopcmpaa
namespace Go.Proofs.Ytfcdajkgopcmpaa
theorem chainS_in : ∀ {s : List RV} {e f : Nat}, (∀ q ∈ s, q.lo < q.hi) → chainS e s = some f → e ≤ f ∧ s.Pairwise (fun a b => a.lo ≤ b.lo) ∧ (∀ r ∈ s, e ≤ r.lo ∧ r.hi ≤ f)
  | [], e, f, _, h => by
    rw [chainS] at h
    obtain rfl := Option.some.inj h
    exact ⟨Nat.le_refl _, List.Pairwise.nil, fun r hr => by cases hr⟩
  | r :: s, e, f, hv, h => by
    rw [chainS] at h
    split at h
    case isFalse => cases h
    rename_i hlo
    have hr := hv r List.mem_cons_self
    obtain ⟨h1, h2, h3⟩ := chainS_in (fun q hq => hv q (List.mem_cons_of_mem _ hq)) h
    refine ⟨by omega, List.pairwise_cons.2 ⟨fun q hq => ?_, h2⟩, fun q hq => ?_⟩
    · have := h3 q hq; omega
    · rcases List.mem_cons.1 hq with rfl | hq
      · omega
      · have := h3 q hq; omega
/-- How much of the line ranges take, together. -/
def span (l : List RV) : Int := (l.map fun r => (r.hi : Int) - (r.lo : Int)).sum
theorem span_cons (r : RV) (l : List RV) : span (r :: l) = ((r.hi : Int) - (r.lo : Int)) + span l := rfl
theorem span_perm {l s : List RV} (h : l.Perm s) : span l = span s := by
  induction h with
  | nil => rfl
  | cons x _ ih => rw [span_cons, span_cons, ih]
  | swap x y l => simp only [span_cons]; omega
  | trans _ _ h1 h2 => exact h1.trans h2
theorem chainS_span : ∀ {s : List RV} {e f : Nat}, chainS e s = some f → span s = (f : Int) - (e : Int)
  | [], e, f, h => by
    rw [chainS] at h
    obtain rfl := Option.some.inj h
    simp [span]
  | r :: s, e, f, h => by
    rw [chainS] at h
    split at h
    case isFalse => cases h
    rename_i hlo
    rw [span_cons, chainS_span h, hlo]
    omega
/-- A list whose chain is whole is one in ascending order, but for its order. -/
theorem chain_sort {l : List RV} (hv : ∀ q ∈ l, q.lo < q.hi) (e : Nat) : ∃ s : List RV, s.Perm l ∧ chainR l.length e l = chainS e s := by
  refine ⟨l.mergeSort (fun a b => decide (a.lo ≤ b.lo)), List.mergeSort_perm _ _, ?_⟩
  refine chain_same hv (List.mergeSort_perm _ _) ?_ e
  have h := List.pairwise_mergeSort (le := fun a b : RV => decide (a.lo ≤ b.lo)) (fun a b c h1 h2 => by simp at h1 h2 ⊢; omega) (fun a b => by simp; omega) l
  exact h.imp (fun h => by simpa using h)
theorem chain_span {l : List RV} (hv : ∀ q ∈ l, q.lo < q.hi) {e f : Nat} (h : chainR l.length e l = some f) : span l = (f : Int) - (e : Int) := by
  obtain ⟨s, hp, hs⟩ := chain_sort hv e
  rw [← span_perm hp]
  exact chainS_span (hs.symm.trans h)
/-- WITHOUT ONE OF THEM THEY ARE NO CHAIN. -/
theorem chain_less {l : List RV} (hv : ∀ q ∈ l, q.lo < q.hi) {e f k : Nat} (hk : k < l.length) (h : chainR l.length e l = some f) : chainR (l.take k ++ l.drop (k + 1)).length e (l.take k ++ l.drop (k + 1)) ≠ some f := by
  intro h2
  have e1 : l = l.take k ++ l[k] :: l.drop (k + 1) := by rw [← List.drop_eq_getElem_cons hk, List.take_append_drop]
  have hv2 : ∀ q ∈ l.take k ++ l.drop (k + 1), q.lo < q.hi := by
    intro q hq
    rcases List.mem_append.1 hq with hq | hq
    · exact hv q (List.mem_of_mem_take hq)
    · exact hv q (List.mem_of_mem_drop hq)
  have s1 := chain_span hv h
  have s2 := chain_span hv2 h2
  have s3 : span l = ((l[k].hi : Int) - (l[k].lo : Int)) + span (l.take k ++ l.drop (k + 1)) := by
    rw [← span_cons]
    conv => lhs; rw [e1]
    exact span_perm List.perm_middle
  have := hv l[k] (List.getElem_mem hk)
  omega
/-- A chain of which one is two: it is one still. -/
theorem chainS_split {a b r : RV} (h1 : a.lo = r.lo) (h2 : a.hi = b.lo) (h3 : b.hi = r.hi) (t : List RV) : ∀ (s : List RV) (e : Nat), chainS e (s ++ a :: b :: t) = chainS e (s ++ r :: t)
  | [], e => by
    simp only [List.nil_append, chainS, h1, h2, h3, if_true]
  | q :: s, e => by
    simp only [List.cons_append, chainS]
    rw [chainS_split h1 h2 h3 t s]
theorem chain_split {l : List RV} (hv : ∀ q ∈ l, q.lo < q.hi) {a b : RV} {k : Nat} (hk : k < l.length) (h1 : a.lo = l[k].lo) (h2 : a.hi = b.lo) (h3 : b.hi = l[k].hi) (ha : a.lo < a.hi) (hb : b.lo < b.hi) {e f : Nat} (h : chainR l.length e l = some f) :
    chainR (l.set k a ++ [b]).length e (l.set k a ++ [b]) = some f := by
  obtain ⟨s, hp, hs⟩ := chain_sort hv e
  have hm : l[k] ∈ s := hp.mem_iff.2 (List.getElem_mem hk)
  obtain ⟨s1, s2, rfl⟩ := List.append_of_mem hm
  have e1 : l = l.take k ++ l[k] :: l.drop (k + 1) := by rw [← List.drop_eq_getElem_cons hk, List.take_append_drop]
  have p1 : (s1 ++ s2).Perm (l.take k ++ l.drop (k + 1)) := by
    have := hp
    conv at this => rhs; rw [e1]
    exact (List.perm_cons l[k]).1 (List.perm_middle.symm.trans (this.trans List.perm_middle))
  have p2 : (s1 ++ a :: b :: s2).Perm (l.set k a ++ [b]) := by
    rw [List.set_eq_take_append_cons_drop, if_pos hk]
    refine List.perm_middle.trans ?_
    refine ((List.Perm.cons a List.perm_middle).trans ?_)
    have : (l.take k ++ a :: l.drop (k + 1) ++ [b]).Perm (a :: b :: (l.take k ++ l.drop (k + 1))) := by
      rw [List.append_assoc, List.cons_append]
      refine List.perm_middle.trans (List.Perm.cons a ?_)
      rw [← List.append_assoc]
      exact List.perm_append_comm
    exact (List.Perm.cons a (List.Perm.cons b p1)).trans this.symm
  have hc : chainS e (s1 ++ a :: b :: s2) = some f := by rw [chainS_split h1 h2 h3, ← hs]; exact h
  have hv2 : ∀ q ∈ l.set k a ++ [b], q.lo < q.hi := by
    intro q hq
    rcases List.mem_append.1 hq with hq | hq
    · rcases List.mem_or_eq_of_mem_set hq with hq | rfl
      · exact hv q hq
      · exact ha
    · obtain rfl := List.mem_singleton.1 hq; exact hb
  have hv3 : ∀ q ∈ s1 ++ a :: b :: s2, q.lo < q.hi := fun q hq => hv2 q (p2.mem_iff.1 hq)
  rw [chain_same hv2 p2 (chainS_in hv3 hc).2.1 e]
  exact hc
/-- EACH PLACE LIES IN JUST ONE. -/
theorem chainS_one {x : Nat} : ∀ {s : List RV} {e f : Nat}, (∀ q ∈ s, q.lo < q.hi) → chainS e s = some f → e ≤ x → x < f → s.countP (fun r => decide (r.lo ≤ x ∧ x < r.hi)) = 1
  | [], e, f, _, h, h1, h2 => by
    rw [chainS] at h
    obtain rfl := Option.some.inj h
    omega
  | r :: s, e, f, hv, h, h1, h2 => by
    rw [chainS] at h
    split at h
    case isFalse => cases h
    rename_i hlo
    have hv' : ∀ q ∈ s, q.lo < q.hi := fun q hq => hv q (List.mem_cons_of_mem _ hq)
    by_cases hx : x < r.hi
    · rw [List.countP_cons_of_pos (by simp; omega)]
      have : s.countP (fun r => decide (r.lo ≤ x ∧ x < r.hi)) = 0 := by
        rw [List.countP_eq_zero]
        intro q hq
        have := (chainS_in hv' h).2.2 q hq
        simp; omega
      omega
    · rw [List.countP_cons_of_neg (by simp; omega)]
      exact chainS_one hv' h (by omega) h2
theorem chain_only {l : List RV} (hv : ∀ q ∈ l, q.lo < q.hi) {e f x : Nat} (h : chainR l.length e l = some f) (h1 : e ≤ x) (h2 : x < f) : l.countP (fun r => decide (r.lo ≤ x ∧ x < r.hi)) = 1 := by
  obtain ⟨s, hp, hs⟩ := chain_sort hv e
  rw [← hp.countP_eq]
  exact chainS_one (fun q hq => hv q (hp.mem_iff.1 hq)) (hs.symm.trans h) h1 h2
theorem scan_zero : ∀ (post pre : List RV), scanV pre post = 0 ↔ (∀ r ∈ post, mayV r = true) ∧ (∀ r ∈ post, ∀ q ∈ pre, q.i ≠ r.i) ∧ (post.map (·.i)).Nodup
  | [], pre => by simp [scanV]
  | r :: t, pre => by
    rw [scanV]
    cases hm : mayV r with
    | false => simp [hm]
    | true =>
      cases ha : pre.any (fun q => q.i == r.i) with
      | true =>
        obtain ⟨q, hq, he⟩ := List.any_eq_true.1 ha
        simp only [cond_true]
        refine ⟨fun h => by omega, fun h => ?_⟩
        exact absurd (eq_of_beq he) (h.2.1 r List.mem_cons_self q hq)
      | false =>
        simp only [cond_true, cond_false]
        have hn : ∀ q ∈ pre, q.i ≠ r.i := fun q hq e => by
          have := List.any_eq_false.1 ha q hq
          simp [e] at this
        rw [scan_zero t (pre ++ [r])]
        constructor
        · rintro ⟨h1, h2, h3⟩
          refine ⟨fun q hq => ?_, fun q hq p hp => ?_, ?_⟩
          · rcases List.mem_cons.1 hq with rfl | hq
            · exact hm
            · exact h1 q hq
          · rcases List.mem_cons.1 hq with rfl | hq
            · exact hn p hp
            · exact h2 q hq p (List.mem_append_left _ hp)
          · rw [List.map_cons, List.nodup_cons]
            refine ⟨fun hmem => ?_, h3⟩
            obtain ⟨q, hq, he⟩ := List.mem_map.1 hmem
            exact h2 q hq r (List.mem_append_right _ List.mem_cons_self) he.symm
        · rintro ⟨h1, h2, h3⟩
          rw [List.map_cons, List.nodup_cons] at h3
          refine ⟨fun q hq => h1 q (List.mem_cons_of_mem _ hq), fun q hq p hp => ?_, h3.2⟩
          rcases List.mem_append.1 hp with hp | hp
          · exact h2 q (List.mem_cons_of_mem _ hq) p hp
          · obtain rfl := List.mem_singleton.1 hp
            intro e
            exact h3.1 (List.mem_map.2 ⟨q, hq, e.symm⟩)
/-- A cover. -/
structure Cov (l : List RV) : Prop where
  ne : l ≠ []
  few : l.length ≤ 12
  may : ∀ r ∈ l, mayV r = true
  own : (l.map (·.i)).Nodup
  all : chainR l.length 0 l = some oneB
theorem check_zero {l : List RV} : checkV l = 0 ↔ Cov l := by
  unfold checkV
  cases h0 : l.length == 0 with
  | true =>
    simp only [cond_true]
    refine ⟨fun h => by omega, fun h => absurd (List.eq_nil_of_length_eq_zero (eq_of_beq h0)) h.ne⟩
  | false =>
    simp only [cond_false]
    have hne : l ≠ [] := fun e => by subst e; simp at h0
    by_cases h12 : 12 < l.length
    · rw [decide_eq_true h12]
      simp only [cond_true]
      exact ⟨fun h => by omega, fun h => by have := h.few; omega⟩
    · rw [decide_eq_false h12]
      simp only [cond_false]
      have hz := scan_zero l []
      unfold tailV
      simp only [List.take_zero, List.drop_zero]
      cases hs : scanV [] l == 0 with
      | true =>
        obtain ⟨h1, _, h3⟩ := hz.1 (eq_of_beq hs)
        cases hc : chainR l.length 0 l == some oneB with
        | true => exact ⟨fun _ => ⟨hne, by omega, h1, h3, eq_of_beq hc⟩, fun _ => rfl⟩
        | false =>
          simp only [cond_true, cond_false]
          exact ⟨fun h => by omega, fun h => by rw [h.all, beq_self_eq_true] at hc; cases hc⟩
      | false =>
        simp only [cond_false]
        refine ⟨fun h => (by rw [h] at hs; cases hs), fun h => ?_⟩
        exact hz.2 ⟨h.may, fun _ _ _ hq => absurd hq List.not_mem_nil, h.own⟩
section
variable {l : List RV}
theorem Cov.lt (h : Cov l) : ∀ q ∈ l, q.lo < q.hi := fun q hq => (may_pts (h.may q hq)).2.2.1
theorem Cov.perm {s : List RV} (h : Cov l) (hp : l.Perm s) : Cov s := by
  refine ⟨fun e => h.ne (by subst e; exact hp.eq_nil), by rw [← hp.length_eq]; exact h.few, fun r hr => h.may r (hp.mem_iff.2 hr), (hp.map _).nodup_iff.1 h.own, ?_⟩
  rw [← hp.length_eq, ← chain_perm hp]
  exact h.all
/-- WITHOUT ONE OF THEM THEY ARE NO COVER. -/
theorem Cov.less (h : Cov l) {k : Nat} (hk : k < l.length) : ¬ Cov (l.take k ++ l.drop (k + 1)) := fun h2 => chain_less h.lt hk h.all h2.all
/-- WITH ONE OF THEM TWICE THEY ARE NONE. -/
theorem Cov.twice {k : Nat} (hk : k < l.length) {s : List RV} (hp : l.Perm s) : ¬ Cov (s ++ [l[k]]) := fun h => by
  have h1 := h.own
  rw [List.map_append, List.nodup_append] at h1
  have h2 : l[k] ∈ s := hp.mem_iff.1 (List.getElem_mem hk)
  exact h1.2.2 _ (List.mem_map.2 ⟨l[k], h2, rfl⟩) _ (by simp) rfl
/-- ONE IS SPLIT: A COVER STILL. -/
theorem Cov.split (h : Cov l) {a b : RV} {k : Nat} (hk : k < l.length) (h12 : l.length < 12) (ha : mayV a = true) (hb : mayV b = true) (h1 : a.lo = l[k].lo) (h2 : a.hi = b.lo) (h3 : b.hi = l[k].hi) (hi : a.i = l[k].i) (hn : ∀ q ∈ l, q.i ≠ b.i) : Cov (l.set k a ++ [b]) := by
  refine ⟨by simp, by simp; omega, fun r hr => ?_, ?_, chain_split h.lt hk h1 h2 h3 (may_pts ha).2.2.1 (may_pts hb).2.2.1 h.all⟩
  · rcases List.mem_append.1 hr with hr | hr
    · rcases List.mem_or_eq_of_mem_set hr with hr | rfl
      · exact h.may r hr
      · exact ha
    · obtain rfl := List.mem_singleton.1 hr; exact hb
  · have e : (l.set k a).map (·.i) = l.map (·.i) := by
      rw [List.map_set, hi]
      apply List.ext_getElem
      · simp
      · intro j h1 h2
        rw [List.getElem_set]
        split
        · rename_i e; subst e; simp
        · rfl
    rw [List.map_append, e, List.nodup_append]
    refine ⟨h.own, by simp, fun x hx y hy => ?_⟩
    obtain ⟨q, hq, rfl⟩ := List.mem_map.1 hx
    simp at hy
    subst hy
    exact hn q hq
theorem Cov.one (h : Cov l) {x : Nat} (hx : x < oneB) : l.countP (fun r => decide (r.lo ≤ x ∧ x < r.hi)) = 1 := chain_only h.lt h.all (Nat.zero_le _) hx
end
end Go.Proofs.Ytfcdajkgopcmpaa
