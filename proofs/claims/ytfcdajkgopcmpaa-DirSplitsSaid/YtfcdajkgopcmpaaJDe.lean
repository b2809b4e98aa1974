/- Keys; the document's directory (raceref14): Route. Conditions: no more than a million ranges. The document's directory (raceref14): Learn. Conditions: no more than a million ranges; numbers of 64 bits. A directory of ranges in plain terms: a cover that is learnt, the last range from the list turned round, groups of keys. Conditions: none. -/
import Derived.Test.YtfcdajkgopcmpaaJDc
import Derived.Deep.RegionHeld
import Derived.Test.YtfcdajkgopcmpaaJCk
namespace Go.Proofs.Ytfcdajkgopcmpaa
open Go.ChangeShapes Go.WideShapes Go.ChangeAt Go.RowKit Go.Deep
def keyB (s : ByteArray) : Bool := decide (1 ≤ s.size) && decide (s.size ≤ 24)
set_option maxRecDepth 100000 in
theorem rkey_any (s : ByteArray) (w : World) : Calls Try.prog 34 #[.string s] w fun e w' => e = .returned (.bool (keyB s)) ∧ w = w' := by
  have e : keyB s = (decide (1 ≤ s.size) && decide (s.size ≤ 24)) := rfl
  rw [e]
  clear e
  by_cases h1 : 1 ≤ s.size
  · have h2 : (s.size : Int) ≥ 1 := by omega
    by_cases h3 : s.size ≤ 24
    · have h4 : (s.size : Int) ≤ 24 := by omega
      go_enter Try.func34, Try.ntmps34
      go_wp2
      go_ret
      exact ⟨by simp [h1, h3], rfl⟩
    · have h4 : ¬ (s.size : Int) ≤ 24 := by omega
      go_enter Try.func34, Try.ntmps34
      go_wp2
      go_ret
      exact ⟨by simp, rfl⟩
  · have h2 : ¬ (s.size : Int) ≥ 1 := by omega
    go_enter Try.func34, Try.ntmps34
    go_wp2
    go_ret
    exact ⟨by simp, rfl⟩
/-- The last one in which a place lies. -/
def lastIn (L : List RV) (x : Nat) : RV × Bool := L.foldl (fun p r => if inV r x = true then (r, true) else p) (RV.zero, false)
def routeL (L : List RV) (s : ByteArray) : RV × Bool := if keyB s = true then lastIn L (ofH s.data.toList) else (RV.zero, false)
theorem lastIn_next {L : List RV} {k : Nat} (h : k < L.length) (x : Nat) : lastIn (L.take (k + 1)) x = if inV L[k] x = true then (L[k], true) else lastIn (L.take k) x := by
  unfold lastIn
  rw [foldl_take h]
theorem at_new2 (w : World) (o : Obj) (r : RV) : At ((w.alloc o).alloc (robj r)) (w.heap.size + 1) r := by
  have := at_new (w.alloc o) r
  simpa using this
section
variable {C : Nat → Prop} {w : World} {a : Nat} {L : List RV}
set_option maxRecDepth 100000 in
set_option maxHeartbeats 4000000 in
theorem rroute_any (h : RD C w a L) (s : ByteArray) (hs : s.size ≤ 9223372036854775807) (hl : L.length ≤ 1000000) :
    Calls Try.prog 13 #[ptr a, .string s] w fun e w' => e = .returned (.tuple #[ragg (routeL L s).1, .bool (routeL L s).2]) ∧ Below w.heap.size w w' := by
  have hst := run_stf
  obtain ⟨v, hr⟩ := h
  obtain ⟨ao, cap, e⟩ := own_slice hr.own
  subst e
  have hb2 := below2 w (robj RV.zero) (robj RV.zero)
  have H := Lib.hid (hr.below hb2)
  have HX4 := Lib.hid ((at_new w RV.zero).below (below1 _ (robj RV.zero)) (at_new w RV.zero).lt)
  have HX6 := Lib.hid (at_new2 w (robj RV.zero) RV.zero)
  obtain ⟨b, hbs⟩ : ∃ b, w.heap.size = b := ⟨_, rfl⟩
  have HBS := Lib.hid hbs
  rw [hbs] at HX4 HX6
  obtain ⟨W2, hW2⟩ : ∃ W2, (w.alloc (robj RV.zero)).alloc (robj RV.zero) = W2 := ⟨_, rfl⟩
  have HSZ : Hid (W2.heap.size = b + 2) := Lib.hid (by rw [← hW2, ← hbs]; simp)
  rw [hW2] at H HX4 HX6 hb2
  have HB2 := Lib.hid hb2
  have HAB : Hid (a < b) := Lib.hid (by rw [← hbs]; exact hr.alt)
  have HCK := fun w => Lib.hid (rkey_any s w)
  have HRT : Hid (routeL L s = if keyB s = true then lastIn L (ofH s.data.toList) else (RV.zero, false)) := Lib.hid rfl
  obtain ⟨n, hn⟩ : ∃ n, L.length = n := ⟨_, rfl⟩
  have HN := Lib.hid hn
  rw [hn] at hl
  have H0 := hr.own
  have HC0 : ∀ wz : World, Below W2.heap.size W2 wz → Hid (wz.cell? ⟨a, 0, none⟩ = some (.slice ao n cap)) := fun wz hb => Lib.hid (by rw [← hn]; exact (hb.cell (p := ⟨a, 0, none⟩) H.out.alt).trans H.out.c0)
  have HGL : Hid (∀ k, k < L.length → ∀ g, ao = some ⟨g, 0, none⟩ → g < w.heap.size) := Lib.hid (fun k hk g e => by subst e; exact (hr.own.lt g rfl).2)
  clear hn hr hb2 H0
  have HEW := Lib.hid hW2
  dsimp only [RV.zero] at HEW
  clear hW2 hbs
  cases hkb : keyB s with
  | false =>
    rw [HRT.out, hkb]
    simp only [hkb] at HCK
    clear hkb HRT
    go_enter Try.func13, Try.ntmps13
    go_wp2
    rw [HBS.out, HEW.out]
    go_loopw [7, 8] (fun vo vi wr => vi = .int .i64 0 ∧ vo = .bool false ∧ Hid (wr = W2)) (fun _ _ _ => 0)
    case atStart => exact ⟨rfl, rfl, Lib.hid rfl⟩
    case round =>
      obtain ⟨rfl, rfl, hw⟩ := hrel
      obtain rfl := hw.out
      have c0 := (HC0 _ (Below.refl _ _)).out
      have x0 := HX6.out.c0; have x1 := HX6.out.c1; have x2 := HX6.out.c2; have x3 := HX6.out.c3
      have f0 := HX4.out.f0; have f1 := HX4.out.f1; have f2 := HX4.out.f2; have f3 := HX4.out.f3
      have y0 := HX4.out.c0; have y1 := HX4.out.c1; have y2 := HX4.out.c2; have y3 := HX4.out.c3
      dsimp only [RV.zero] at x0 x1 x2 x3 y0 y1 y2 y3
      by_cases h0 : (0 : Int) < n
      · go_wp2_with (go_at_call 34; refine (HCK _).out.mono ?_; rintro e w3 ⟨rfl, rfl⟩)
        refine bodyPost_ret (res_two rfl _ rfl (HX4.out.setAll RV.zero)) rfl ⟨rfl, below_set4 HB2.out (by rw [HBS.out]; exact Nat.le_refl _) RV.zero⟩
      · go_wp2
        refine bodyPost_ret (res_two rfl _ rfl (HX4.out.setAll RV.zero)) rfl ⟨rfl, below_set4 HB2.out (by rw [HBS.out]; exact Nat.le_refl _) RV.zero⟩
  | true =>
    rw [HRT.out, hkb, if_pos rfl]
    simp only [hkb] at HCK
    clear hkb HRT
    have HOF := fun w => Lib.hid (rof_any s hs w)
    generalize ofH s.data.toList = X at *
    go_enter Try.func13, Try.ntmps13
    go_wp2
    rw [HBS.out, HEW.out]
    go_loopw [7, 8] (fun vo vi wr => ∃ k : Nat, vi = .int .i64 k ∧ k ≤ n ∧ vo = .bool (lastIn (L.take k) X).2 ∧ Hid (At wr (b + 1) (lastIn (L.take k) X).1) ∧ Hid (Below b w wr ∧ Below (b + 1) W2 wr)) (fun _ vi _ => n - (RowKit.intOf vi).toNat)
    case atStart => exact ⟨0, rfl, Nat.zero_le _, rfl, HX6, Lib.hid ⟨by rw [← HBS.out]; exact HB2.out, Below.refl _ _⟩⟩
    case round =>
      obtain ⟨k, rfl, hk, rfl, HX, HBB⟩ := hrel
      have HB := Lib.hid HBB.out.1
      have HR := Lib.hid HBB.out.2
      have hs2 := HSZ.out
      have HRS : Hid (b + 2 ≤ wr.heap.size) := Lib.hid (by have := HR.out.size; omega)
      clear hs2
      have HC1 : ∀ wz : World, Below (b + 1) W2 wz → Hid (wz.cell? ⟨a, 0, none⟩ = some (.slice ao n cap)) := fun wz hb => Lib.hid (by
        have h1 := H.out.c0
        rw [HN.out] at h1
        exact (hb.cell (p := ⟨a, 0, none⟩) (show a < b + 1 by have := HAB.out; omega)).trans h1)
      by_cases hlt : k < n
      · have hkl : k < L.length := by rw [HN.out]; exact hlt
        obtain ⟨g, rfl, hg, hra⟩ := own_rat H.out.own hkl
        have HGB : Hid (g < b) := Lib.hid (by rw [← HBS.out]; exact HGL.out k hkl g rfl)
        have HRA := Lib.hid hra
        have HT := Lib.hid (lastIn_next hkl X)
        have HIN := fun w => Lib.hid (rin_any L[k] X w)
        clear hg hra
        generalize L[k] = q at *
        clear hkl
        generalize lastIn (L.take k) X = p at *
        obtain ⟨p1, p2⟩ := p
        simp only at HX
        have hlt2 : (k : Int) < (n : Int) := by omega
        have HQ : ∀ wz : World, Below (b + 1) W2 wz → Hid (RAt wz g (k * 4) q) := fun wz hb => Lib.hid (HRA.out.below hb (show g < b + 1 by have := HGB.out; omega))
        have c0 := (HC1 _ HR.out).out
        go_wp2_with (go_at_call 34; refine (HCK _).out.mono ?_; rintro e w3 ⟨rfl, rfl⟩)
        clear c0
        have hbd := (Below.refl wr.heap.size wr).drew
        have HX := Lib.hid (HX.out.below hbd HX.out.lt)
        have HR := Lib.hid (HR.out.trans (hbd.mono (by have := HRS.out; omega)))
        have HB := Lib.hid (HB.out.trans (hbd.mono (by have := HRS.out; omega)))
        have HRS : Hid (b + 2 ≤ wr.drew.heap.size) := HRS
        clear hbd
        cases hi : inV q X
        all_goals
          simp only [hi] at HIN HT
          clear hi
          go_region_held (fun w' => w'.cell? ⟨a, 0, none⟩ = some (.slice (some ⟨g, 0, none⟩) n cap) ∧ w'.cell? ⟨g, k * 4, none⟩ = some (.int .i64 q.i) ∧ w'.cell? ⟨g, k * 4 + 1, none⟩ = some (.int .i64 q.e) ∧ w'.cell? ⟨g, k * 4 + 2, none⟩ = some (.float .f64 q.lo) ∧ w'.cell? ⟨g, k * 4 + 3, none⟩ = some (.float .f64 q.hi)) (exact ⟨(HC1 _ HR.out).out, (HQ _ HR.out).out.c0, (HQ _ HR.out).out.c1, (HQ _ HR.out).out.c2, (HQ _ HR.out).out.c3⟩)
            ((first
              | (go_at_call 24; refine (HOF _).out.mono ?_; rintro e w5 ⟨rfl, rfl⟩)
              | (go_at_call 23; refine (HIN _).out.mono ?_; rintro e w6 ⟨rfl, hb⟩; have HX := Lib.hid (HX.out.below hb HX.out.lt); have HR := Lib.hid (HR.out.trans (hb.mono (by have := HRS.out; omega))); have HB := Lib.hid (HB.out.trans (hb.mono (by have := HRS.out; omega))); clear hb)))
        · have HT2 : Hid (lastIn (L.take (k + 1)) X = (p1, p2)) := Lib.hid (by rw [HT.out]; rfl)
          clear HT
          go_wp2
          go_roundw
          case rel => exact ⟨k + 1, by go_num, by omega, by rw [HT2.out], by rw [HT2.out]; exact HX, Lib.hid ⟨HB.out, HR.out⟩⟩
          case measure => simp [RowKit.intOf]; omega
        · have HT2 : Hid (lastIn (L.take (k + 1)) X = (q, true)) := Lib.hid (by rw [HT.out]; rfl)
          clear HT
          have c0 := (HC1 _ HR.out).out
          have hq := (HQ _ HR.out).out
          have d0 := hq.c0; have d1 := hq.c1; have d2 := hq.c2; have d3 := hq.c3
          have x0 := HX.out.c0; have x1 := HX.out.c1; have x2 := HX.out.c2; have x3 := HX.out.c3
          have f0 := HX.out.f0; have f1 := HX.out.f1; have f2 := HX.out.f2; have f3 := HX.out.f3
          have HX9 := Lib.hid (HX.out.setAll q)
          have HR9 := Lib.hid (below_set4 HR.out (Nat.le_refl _) q)
          have HB9 := Lib.hid (below_set4 HB.out (Nat.le_succ b) q)
          clear hq
          go_wp2
          go_roundw
          case rel => exact ⟨k + 1, by go_num, by omega, by rw [HT2.out], by rw [HT2.out]; exact HX9, Lib.hid ⟨HB9.out, HR9.out⟩⟩
          case measure => simp [RowKit.intOf]; omega
      · obtain rfl : k = n := by omega
        have e : L.take k = L := List.take_of_length_le (by rw [HN.out]; exact Nat.le_refl _)
        rw [e] at HX ⊢
        clear e
        obtain ⟨⟨p1, p2⟩, hp⟩ : ∃ p, lastIn L X = p := ⟨_, rfl⟩
        have HPE := Lib.hid hp
        rw [hp] at HX ⊢
        clear hp
        simp only at HX
        have HY := Lib.hid (HX4.out.below HR.out (Nat.lt_succ_self b))
        have c0 := (HC1 _ HR.out).out
        have x0 := HX.out.c0; have x1 := HX.out.c1; have x2 := HX.out.c2; have x3 := HX.out.c3
        have f0 := HY.out.f0; have f1 := HY.out.f1; have f2 := HY.out.f2; have f3 := HY.out.f3
        have y0 := HY.out.c0; have y1 := HY.out.c1; have y2 := HY.out.c2; have y3 := HY.out.c3
        dsimp only [RV.zero] at y0 y1 y2 y3
        go_wp2
        refine bodyPost_ret (res_two rfl _ rfl (HY.out.setAll p1)) rfl ⟨by rw [HPE.out]; rfl, ?_⟩
        rw [HBS.out]
        exact below_set4 HB.out (Nat.le_refl _) p1
end
end Go.Proofs.Ytfcdajkgopcmpaa
namespace Go.Proofs.Ytfcdajkgopcmpaa
open Go.ChangeShapes Go.WideShapes Go.ChangeAt Go.RowKit Go.Deep
theorem learn_snoc : ∀ (l L : List RV) (r : RV), learnL L (l ++ [r]) = ((hear (learnL L l).1 r).1, (learnL L l).2 + (hear (learnL L l).1 r).2)
  | [], L, r => by
    show ((hear L r).1, (hear L r).2 + 0) = ((hear L r).1, 0 + (hear L r).2)
    rw [Nat.zero_add, Nat.add_zero]
  | q :: l, L, r => by
    show ((learnL (hear L q).1 (l ++ [r])).1, (hear L q).2 + (learnL (hear L q).1 (l ++ [r])).2) = _
    rw [learn_snoc l]
    show _ = ((hear (learnL (hear L q).1 l).1 r).1, ((hear L q).2 + (learnL (hear L q).1 l).2) + (hear (learnL (hear L q).1 l).1 r).2)
    rw [Nat.add_assoc]
theorem learn_take {l L : List RV} {k : Nat} (h : k < l.length) : learnL L (l.take (k + 1)) = ((hear (learnL L (l.take k)).1 l[k]).1, (learnL L (l.take k)).2 + (hear (learnL L (l.take k)).1 l[k]).2) := by
  rw [List.take_succ_eq_append_getElem h, learn_snoc]
theorem learn_len : ∀ (l L : List RV), (learnL L l).1.length ≤ L.length + l.length
  | [], _ => Nat.le_refl _
  | r :: l, L => by
    have h1 := hear_len L r
    have h2 := learn_len l (hear L r).1
    show (learnL (hear L r).1 l).1.length ≤ L.length + (l.length + 1)
    omega
theorem getL_at {L : List RV} (h : Rise L) {p : Nat} (hp : p < L.length) {id : Int} (he : L[p].i = id) : getL L id = some L[p] := by
  rw [← he]; exact getL_mem h (List.getElem_mem hp)
theorem getL_not {L : List RV} {id : Int} (h : ∀ q ∈ L, q.i ≠ id) : getL L id = none := by
  unfold getL
  rw [List.find?_eq_none]
  intro q hq
  simpa using h q hq
theorem setL_same : ∀ {L : List RV} {r : RV}, (∀ q ∈ L, q.i ≠ r.i) → setL L r = L
  | [], _, _ => rfl
  | b :: L, r, h => by rw [setL_cons, if_neg (h b List.mem_cons_self), setL_same fun q hq => h q (List.mem_cons_of_mem _ hq)]
theorem setL_at : ∀ {L : List RV} (_ : Rise L) {p : Nat} (hp : p < L.length) {r : RV} (_ : L[p].i = r.i), setL L r = L.set p r
  | [], _, p, hp, _, _ => absurd hp (Nat.not_lt_zero _)
  | a :: L, h, 0, _, r, he => by
    have ha := List.pairwise_cons.1 h
    have he' : a.i = r.i := he
    rw [setL_cons, if_pos he', List.set_cons_zero]
    congr 1
    exact setL_same fun q hq e => by have := ha.1 q hq; omega
  | a :: L, h, p + 1, hp, r, he => by
    have ha := List.pairwise_cons.1 h
    have hp' : p < L.length := by simpa using hp
    have he' : L[p].i = r.i := he
    have := ha.1 L[p] (List.getElem_mem hp')
    rw [setL_cons, if_neg (by omega), List.set_cons_succ, setL_at ha.2 hp' he']
/-- Where the number stands among the first ones. -/
def AtIx (L : List RV) (id : Int) (j : Nat) (v : Int) : Prop := (v = -1 ∧ ∀ q ∈ L.take j, q.i ≠ id) ∨ ∃ p : Nat, v = p ∧ p < j ∧ ∃ h : p < L.length, L[p].i = id
theorem atix_zero (L : List RV) (id : Int) : AtIx L id 0 (-1) := .inl ⟨rfl, fun q hq => by simp at hq⟩
theorem atix_yes {L : List RV} {id : Int} {j : Nat} (hj : j < L.length) (he : L[j].i = id) : AtIx L id (j + 1) j := .inr ⟨j, rfl, Nat.lt_succ_self _, hj, he⟩
theorem atix_no {L : List RV} {id v : Int} {j : Nat} (h : AtIx L id j v) (hj : j < L.length) (he : L[j].i ≠ id) : AtIx L id (j + 1) v := by
  rcases h with ⟨h1, h2⟩ | ⟨p, h1, h2, h3⟩
  · refine .inl ⟨h1, fun q hq => ?_⟩
    rw [List.take_succ_eq_append_getElem hj] at hq
    rcases List.mem_append.1 hq with hq | hq
    · exact h2 q hq
    · obtain rfl := List.mem_singleton.1 hq; exact he
  · exact .inr ⟨p, h1, Nat.lt_succ_of_lt h2, h3⟩
section
variable {C S : Nat → Prop} {P : Nat → Prop} {w w' : World} {a g : Nat} {L L' l : List RV} {v : Value}
/-- Its row's cells have been turned in place. -/
theorem RDt.turned (h : RDt C w a L v) (hv : v.ownBlock = some g) (ht : Tn (· = g) w w') (ho : w'.ownsRow 0 37 4 v L'.length (cellsR L')) : RDt C w' a L' v :=
  ⟨ht.at_ h.box (fun e => own_ne h.own h.box (by decide) g hv e.symm), ho, h.row, h.ca, fun k hk => Nat.lt_of_lt_of_le (h.lt k hk) ht.size⟩
theorem tn_setR {w w' : World} {g : Nat} (h : Tn (· = g) w w') (o : Nat) (r : RV) : Tn (· = g) w (setR w' g o r) := tn_set (tn_set (tn_set (tn_set h _) _) _) _
set_option maxRecDepth 100000 in
set_option maxHeartbeats 4000000 in
theorem rlearn14_any (h : RD C w a L) (hr : Rise L) (hv : HasR P w v l) (hPC : ∀ k, P k → ¬ C k) (hw : ∀ r ∈ l, r.wf) (hl : L.length + l.length ≤ 1000000) :
    Calls Try.prog 20 #[ptr a, v] w fun e w' => e = .returned (.int .i64 ((learnL L l).2 : Nat)) ∧ ∃ C', RD C' w' a (learnL L l).1 ∧ Way C w C' w' := by
  have hst := run_stf
  obtain ⟨ao, cap, rfl, hcp, hcm⟩ := hasR_len hv
  have HV := Lib.hid hv
  have HR := Lib.hid h
  have HRI := Lib.hid hr
  have HPC := Lib.hid hPC
  have HW := Lib.hid hw
  obtain ⟨m, hm⟩ : ∃ m, l.length = m := ⟨_, rfl⟩
  have HM := Lib.hid hm
  rw [hm] at HV hcp hl ⊢
  clear hv h hr hPC hw hm
  go_enter Try.func20, Try.ntmps20
  go_wp2
  go_loopw [5, 6] (fun vn vi wr => ∃ k : Nat, vi = .int .i64 k ∧ k ≤ m ∧ vn = .int .i64 ((learnL L (l.take k)).2 : Nat) ∧ Hid (∃ C', RD C' wr a (learnL L (l.take k)).1 ∧ Way C w C' wr)) (fun _ vi _ => m - (RowKit.intOf vi).toNat)
  case atStart => exact ⟨0, rfl, Nat.zero_le _, rfl, Lib.hid ⟨C, HR.out, Way.refl _ _⟩⟩
  case round =>
    obtain ⟨k, rfl, hk, rfl, HD⟩ := hrel
    obtain ⟨C1, hd, hwy⟩ := HD.out
    by_cases hlt : k < m
    · have hkl : k < l.length := by rw [HM.out]; exact hlt
      have hlt2 : (k : Int) < (m : Int) := by omega
      obtain ⟨b, o, rfl, hbl, hPb, hra⟩ := hasR_at HV.out hkl
      have hwf := HW.out _ (List.getElem_mem hkl)
      have HRA := Lib.hid hra
      have HT := Lib.hid (learn_take (L := L) hkl)
      have HLE : Hid ((learnL L (l.take k)).2 ≤ m) := Lib.hid (by have := learn_le (l.take k) L; rw [List.length_take] at this; omega)
      have hlen := learn_len (l.take k) L
      rw [List.length_take] at hlen
      have HLN : Hid ((learnL L (l.take k)).1.length ≤ 1000000) := Lib.hid (by omega)
      have HRS := Lib.hid (learn_rise (l.take k) HRI.out)
      have HMY := fun w => Lib.hid (rmay_any l[k] hwf.2.2.1 hwf.2.2.2 w)
      clear hra hlen hwf
      generalize l[k] = r at *
      clear hkl HD
      generalize hML : learnL L (l.take k) = ML at *
      obtain ⟨M, N⟩ := ML
      simp only at hd HT HLE HLN HRS
      clear hML
      have HDD := Lib.hid hd
      have HWY := Lib.hid hwy
      have hbC : ¬ C b := HPC.out b hPb
      have HBW : Hid (b < w.heap.size) := Lib.hid hbl
      have HCF : ∀ wz C2, Way C w C2 wz → Hid (RAt wz b (o + k * 4) r) := fun wz C2 hz => Lib.hid ⟨hz.tn.cell HRA.out.c0 hbC, hz.tn.cell HRA.out.c1 hbC, hz.tn.cell HRA.out.c2 hbC, hz.tn.cell HRA.out.c3 hbC⟩
      have hq := (HCF wr C1 HWY.out).out
      have q0 := hq.c0; have q1 := hq.c1; have q2 := hq.c2; have q3 := hq.c3
      clear hq hd hwy hPb hbl
      obtain ⟨r1, r2, r3, r4⟩ := r
      simp only at q0 q1 q2 q3
      cases hmy : mayV ⟨r1, r2, r3, r4⟩ with
      | false =>
        simp only [hmy] at HMY
        have HH : Hid (hear M ⟨r1, r2, r3, r4⟩ = (M, 0)) := Lib.hid (by unfold hear; rw [hmy]; rfl)
        clear hmy
        have HT2 : Hid (learnL L (l.take (k + 1)) = (M, N)) := Lib.hid (by rw [HT.out, HH.out]; rfl)
        clear HT
        go_wp2_with (go_at_call 41; refine (HMY _).out.mono ?_; rintro e w3 ⟨rfl, hb⟩; have HD3 := Lib.hid (HDD.out.below hb); have HW3 := Lib.hid (HWY.out.trans (Way.of_below hb)); clear hb)
        go_roundw
        case rel => exact ⟨k + 1, by go_num, by omega, by rw [HT2.out], by rw [HT2.out]; exact Lib.hid ⟨C1, HD3.out, HW3.out⟩⟩
        case measure => simp [RowKit.intOf]; omega
      | true =>
        simp only [hmy] at HMY
        go_wp2_with (go_at_call 41; refine (HMY _).out.mono ?_; rintro e w3 ⟨rfl, hb⟩; have HD3 := Lib.hid (HDD.out.below hb); have HW3 := Lib.hid (HWY.out.trans (Way.of_below hb)); clear hb)
        obtain ⟨dv, hdt⟩ := HD3.out
        obtain ⟨ao2, cap2, e⟩ := own_slice hdt.own
        subst e
        have HDT := Lib.hid hdt
        obtain ⟨n2, hn2⟩ : ∃ n2, M.length = n2 := ⟨_, rfl⟩
        have HN2 := Lib.hid hn2
        have hn6 : n2 ≤ 1000000 := by rw [← hn2]; exact HLN.out
        have HC0 : ∀ wz : World, Below w3.heap.size w3 wz → Hid (wz.cell? ⟨a, 0, none⟩ = some (.slice ao2 n2 cap2)) := fun wz hb => Lib.hid (by rw [← hn2]; exact (hb.cell (p := ⟨a, 0, none⟩) HDT.out.alt).trans HDT.out.c0)
        have HQ : ∀ wz : World, Below w3.heap.size w3 wz → Hid (RAt wz b (o + k * 4) ⟨r1, r2, r3, r4⟩) := fun wz hb => HCF wz C1 (HW3.out.trans (Way.of_below hb))
        clear hdt hn2 q0 q1 q2 q3 HDD HWY
        go_loopw [7, 8] (fun va vj wz => ∃ (j : Nat) (x : Int), vj = .int .i64 j ∧ j ≤ n2 ∧ va = .int .i64 x ∧ Hid (AtIx M r1 j x) ∧ Hid (Below w3.heap.size w3 wz)) (fun _ vj _ => n2 - (RowKit.intOf vj).toNat)
        case atStart => exact ⟨0, -1, rfl, Nat.zero_le _, rfl, Lib.hid (atix_zero _ _), Lib.hid (Below.refl _ _)⟩
        case round =>
          obtain ⟨j, x, rfl, hj, rfl, HX, HBZ⟩ := hrel
          by_cases hjn : j < n2
          · have hjl : j < M.length := by rw [HN2.out]; exact hjn
            have hjn2 : (j : Int) < (n2 : Int) := by omega
            obtain ⟨g, rfl, hg, hga⟩ := own_rat HDT.out.own hjl
            have c0 := (HC0 wr HBZ.out).out
            have d0 := (HBZ.out.cell (p := ⟨g, j * 4, none⟩) hg).trans hga.c0
            have q0 := (HQ wr HBZ.out).out.c0
            by_cases he : M[j].i = r1
            · have HX2 := Lib.hid (atix_yes hjl he)
              clear hga hg HX
              rw [he] at d0
              clear he hjl
              go_wp2
              go_quiet (fail)
              have hbq := below_drewN wr nq
              have HBZ := Lib.hid (HBZ.out.trans (hbq.mono HBZ.out.size))
              clear hbq
              generalize wr.drewN nq = wz at *
              go_wp2
              go_roundw
              case rel => exact ⟨j + 1, j, by go_num, by omega, rfl, HX2, HBZ⟩
              case measure => simp [RowKit.intOf]; omega
            · have HX2 := Lib.hid (atix_no HX.out hjl he)
              have hne : (M[j].i == r1) = false := by simpa using he
              clear hga hg HX he
              generalize M[j].i = y at *
              clear hjl
              go_wp2
              go_quiet (fail)
              have hbq := below_drewN wr nq
              have HBZ := Lib.hid (HBZ.out.trans (hbq.mono HBZ.out.size))
              clear hbq
              generalize wr.drewN nq = wz at *
              go_wp2
              go_roundw
              case rel => exact ⟨j + 1, x, by go_num, by omega, rfl, HX2, HBZ⟩
              case measure => simp [RowKit.intOf]; omega
          · obtain rfl : j = n2 := by omega
            have HRDZ := Lib.hid (show RD C1 wr a M from ⟨_, HDT.out.below HBZ.out⟩)
            have HWZ := Lib.hid (HW3.out.trans (Way.of_below (C := C1) HBZ.out))
            have hq := (HQ wr HBZ.out).out
            have q0 := hq.c0; have q1 := hq.c1; have q2 := hq.c2; have q3 := hq.c3
            simp only at q0 q1 q2 q3
            have c0 := (HC0 wr HBZ.out).out
            clear hq
            have HXX := HX
            rcases HX.out with ⟨rfl, hno⟩ | ⟨p, rfl, hpj, hpl, hpe⟩
            · have HH : Hid (hear M ⟨r1, r2, r3, r4⟩ = (putL M ⟨r1, r2, r3, r4⟩, 1)) := Lib.hid (by
                rw [List.take_of_length_le (by rw [HN2.out]; exact Nat.le_refl _)] at hno
                unfold hear
                rw [if_pos hmy, getL_not hno])
              have HPT := Lib.hid (rput_any HRDZ.out ⟨r1, r2, r3, r4⟩ HLN.out)
              have HT2 : Hid (learnL L (l.take (k + 1)) = (putL M ⟨r1, r2, r3, r4⟩, N + 1)) := Lib.hid (by rw [HT.out, HH.out])
              clear hno HT HH hmy HX
              have hNm := HLE.out
              go_wp2_with (go_at_call 29; refine HPT.out.mono ?_; rintro e w5 ⟨rfl, C2, g1, g2⟩; have HD5 := Lib.hid g1; have HW5 := Lib.hid (HWZ.out.trans g2); clear g1 g2)
              go_roundw
              case rel => exact ⟨k + 1, by go_num, by omega, by rw [HT2.out]; go_num, by rw [HT2.out]; exact Lib.hid ⟨C2, HD5.out, HW5.out⟩⟩
              case measure => simp [RowKit.intOf]; omega
            · obtain ⟨g, rfl, hg, hga⟩ := own_rat HDT.out.own hpl
              have HG0 := Lib.hid (getL_at HRS.out hpl hpe)
              have hb0 : ¬ ((p : Int) < 0) := by omega
              have hb1 : (p : Int) < (j : Int) := by omega
              have hgw := (HDT.out.below HBZ.out).own
              have d1 := (HBZ.out.cell (p := ⟨g, p * 4 + 1, none⟩) hg).trans hga.c1
              by_cases hee : M[p].e < r2
              · have HH : Hid (hear M ⟨r1, r2, r3, r4⟩ = (M.set p ⟨r1, r2, r3, r4⟩, 1)) := Lib.hid (by
                  unfold hear
                  rw [if_pos hmy, HG0.out]
                  simp only [if_pos hee]
                  rw [setL_at HRS.out hpl hpe])
                have HT2 : Hid (learnL L (l.take (k + 1)) = (M.set p ⟨r1, r2, r3, r4⟩, N + 1)) := Lib.hid (by rw [HT.out, HH.out])
                have HGW := Lib.hid hg
                have HCG := Lib.hid (HDT.out.row g rfl)
                have HPL := Lib.hid hpl
                clear HT HH hmy HX HG0 hgw hga
                generalize M[p].e = y at *
                clear hpl hpe hg
                go_wp2
                go_quiet (fail)
                have hbq := below_drewN wr nq
                have HBZ := Lib.hid (HBZ.out.trans (hbq.mono HBZ.out.size))
                have HWZ := Lib.hid (HWZ.out.trans (Way.of_below hbq))
                clear hbq c0 d1 q0 q1 q2 q3
                generalize wr.drewN nq = wz at *
                have hq := (HQ wz HBZ.out).out
                have q0 := hq.c0; have q1 := hq.c1; have q2 := hq.c2; have q3 := hq.c3
                simp only at q0 q1 q2 q3
                have c0 := (HC0 wz HBZ.out).out
                have hrw := HDT.out.below HBZ.out
                have hoc := own_oc hrw.own HPL.out
                have e0 := hoc.c0; have e1 := hoc.c1; have e2 := hoc.c2; have e3 := hoc.c3
                have f0 := hoc.f0; have f1 := hoc.f1; have f2 := hoc.f2; have f3 := hoc.f3
                have hset := (own_set hrw.own HPL.out ⟨r1, r2, r3, r4⟩).1
                have hD9 := hrw.turned (L' := M.set p ⟨r1, r2, r3, r4⟩) rfl (tn_setR (Tn.refl (· = g) wz) (p * 4) ⟨r1, r2, r3, r4⟩) (by rw [List.length_set]; exact hset)
                have HD9 := Lib.hid (show RD C1 (setR wz g (p * 4) ⟨r1, r2, r3, r4⟩) a (M.set p ⟨r1, r2, r3, r4⟩) from ⟨_, hD9⟩)
                have HW9 := Lib.hid (show Way C w C1 (setR wz g (p * 4) ⟨r1, r2, r3, r4⟩) from ⟨HWZ.out.tn.trans (tn_setR (Tn.refl (· = g) wz) (p * 4) ⟨r1, r2, r3, r4⟩) (fun x hx e => by
                  rcases HWZ.out.new g HCG.out with h | h
                  · rw [e]; exact h
                  · omega), fun x hx => (HWZ.out.new x hx).imp_right fun ⟨h1, h2⟩ => ⟨h1, by simpa using h2⟩⟩)
                clear hq hrw hset hD9 hoc
                have hNm := HLE.out
                generalize M[p] = mp at *
                go_wp2
                go_region
                all_goals go_wp2
                all_goals
                  go_roundw
                  case rel => exact ⟨k + 1, by go_num, by omega, by rw [HT2.out]; go_num, by rw [HT2.out]; exact Lib.hid ⟨C1, HD9.out.tn (S := fun _ => False) ((Tn.refl _ _).drew) (fun _ _ e => e), ⟨HW9.out.tn.drew, HW9.out.new⟩⟩⟩
                  case measure => simp [RowKit.intOf]; omega
              · have HH : Hid (hear M ⟨r1, r2, r3, r4⟩ = (M, 0)) := Lib.hid (by
                  unfold hear
                  rw [if_pos hmy, HG0.out]
                  simp only [if_neg hee])
                have HT2 : Hid (learnL L (l.take (k + 1)) = (M, N)) := Lib.hid (by rw [HT.out, HH.out]; rfl)
                clear HT HH hmy HX hga HG0 hgw
                generalize M[p].e = y at *
                clear hpl hpe
                go_wp2
                go_quiet (fail)
                have hbq := below_drewN wr nq
                have HD9 := Lib.hid (HRDZ.out.below hbq)
                have HW9 := Lib.hid (HWZ.out.trans (Way.of_below hbq))
                clear hbq
                generalize wr.drewN nq = wz at *
                go_wp2
                go_roundw
                case rel => exact ⟨k + 1, by go_num, by omega, by rw [HT2.out], by rw [HT2.out]; exact Lib.hid ⟨C1, HD9.out, HW9.out⟩⟩
                case measure => simp [RowKit.intOf]; omega
    · obtain rfl : k = m := by omega
      have e : l.take k = l := List.take_of_length_le (by rw [HM.out]; exact Nat.le_refl _)
      have HD2 : Hid (∃ C', RD C' wr a (learnL L l).1 ∧ Way C w C' wr) := Lib.hid ⟨C1, by rw [← e]; exact hd, hwy⟩
      rw [e]
      clear e HD hd hwy
      go_wp2
      go_ret
      exact ⟨rfl, HD2.out⟩
end
end Go.Proofs.Ytfcdajkgopcmpaa
namespace Go.Proofs.Ytfcdajkgopcmpaa
theorem hear_new {L : List RV} {r : RV} (hm : mayV r = true) (hn : ∀ q ∈ L, q.i ≠ r.i) : hear L r = (putL L r, 1) := by
  unfold hear
  rw [if_pos hm, getL_not hn]
theorem learn_all : ∀ (l L : List RV), (∀ r ∈ l, mayV r = true) → (l.map (·.i)).Nodup → (∀ r ∈ l, ∀ q ∈ L, q.i ≠ r.i) → learnL L l = (l.foldl putL L, l.length)
  | [], L, _, _, _ => rfl
  | r :: l, L, hm, hn, hd => by
    rw [List.map_cons, List.nodup_cons] at hn
    have e := hear_new (hm r List.mem_cons_self) (hd r List.mem_cons_self)
    show ((learnL (hear L r).1 l).1, (hear L r).2 + (learnL (hear L r).1 l).2) = _
    rw [e]
    have ih := learn_all l (putL L r) (fun q hq => hm q (List.mem_cons_of_mem _ hq)) hn.2 (fun x hx q hq => by
      rcases mem_putL.1 hq with rfl | hq
      · intro e
        exact hn.1 (List.mem_map.2 ⟨x, hx, e.symm⟩)
      · exact hd x (List.mem_cons_of_mem _ hx) q hq)
    simp only [ih, List.foldl_cons, List.length_cons, Nat.add_comm]
/-- A cover that is learnt by a new directory. -/
theorem learn_new {l : List RV} (h : checkV l = 0) : learnL [] l = (newL l, l.length) :=
  learn_all l [] (check_zero.1 h).may (check_zero.1 h).own (fun _ _ q hq => by cases hq)
theorem lastIn_snoc (L : List RV) (r : RV) (x : Nat) : lastIn (L ++ [r]) x = if inV r x = true then (r, true) else lastIn L x := by
  unfold lastIn
  rw [List.foldl_append]
  rfl
theorem findV_cons (r : RV) (L : List RV) (x : Nat) : findV (r :: L) x = if inV r x = true then (r, true) else findV L x := by
  unfold findV
  rw [List.find?_cons]
  cases inV r x <;> rfl
theorem find_rev (x : Nat) : ∀ L : List RV, findV L.reverse x = lastIn L x := by
  intro L
  rw [← List.reverse_reverse L]
  generalize L.reverse = M
  rw [List.reverse_reverse]
  induction M with
  | nil => rfl
  | cons r M ih => rw [findV_cons, List.reverse_cons, lastIn_snoc, ih]
/-- The range to which a key is routed is one of the directory's, and has its place. -/
theorem last_mem {L : List RV} {x : Nat} : (lastIn L x).2 = true → (lastIn L x).1 ∈ L ∧ inV (lastIn L x).1 x = true := by
  rw [← find_rev]
  intro h
  unfold findV at h ⊢
  split at h
  · rename_i r hf
    exact ⟨by simpa using List.mem_of_find?_eq_some hf, by simpa using List.find?_some hf⟩
  · cases h
theorem last_none {L : List RV} {x : Nat} (h : ∀ r ∈ L, inV r x = false) : lastIn L x = (RV.zero, false) := by
  rw [← find_rev]
  exact find_not (fun r hr => h r (by simpa using hr))
theorem last_some {L : List RV} {x : Nat} {r : RV} (hr : r ∈ L) (hi : inV r x = true) : (lastIn L x).2 = true := by
  rw [← find_rev]
  unfold findV
  split
  · rfl
  · rename_i hf
    have := List.find?_eq_none.1 hf r (by simpa using hr)
    exact absurd hi this
/-- Among ranges of which just one has a place, that one. -/
theorem last_one {L : List RV} {x : Nat} {r : RV} (hr : r ∈ L) (hi : inV r x = true) (hu : ∀ q ∈ L, inV q x = true → q = r) : lastIn L x = (r, true) := by
  have h := last_some hr hi
  have h2 := last_mem h
  have e := hu _ h2.1 h2.2
  exact Prod.ext e h
end Go.Proofs.Ytfcdajkgopcmpaa
