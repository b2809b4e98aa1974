/- raceref.One, raceref.Seen, raceref.CopySeen. Conditions: CopySeen: no more than a million. -/
import Derived.Test.YtbgccaconhmbaaaGreatDoorJPu
namespace Go.Proofs.YtbgccaconhmbaaaGreatDoor
open Go.ChangeShapes Go.WideShapes Go.ChangeAt Go.RowKit Go.Deep
def oneN (a b : SeenV) : Bool := a.key == b.key && ((a.a == b.a && (a.b == b.b && a.c == b.c)) && sameV a.v b.v)
def allN : List SeenV → List SeenV → Bool
  | [], [] => true
  | a :: l, b :: m => oneN a b && allN l m
  | _, _ => false
theorem allN_len : ∀ {l m : List SeenV}, l.length ≠ m.length → allN l m = false
  | [], [], h => absurd rfl h
  | [], _ :: _, _ => rfl
  | _ :: _, [], _ => rfl
  | a :: l, b :: m, h => by
    have : l.length ≠ m.length := fun e => h (by simp [e])
    rw [allN, allN_len this, Bool.and_false]
theorem NAt.below {B : Nat} {w w' : World} {b o : Nat} {r : SeenV} (h : NAt w b o r) (hb : Below B w w') (hl : b < B) : NAt w' b o r :=
  ⟨(hb.cell (p := ⟨b, o, none⟩) hl).trans h.c0, (hb.cell (p := ⟨b, o + 1, none⟩) hl).trans h.c1, (hb.cell (p := ⟨b, o + 2, none⟩) hl).trans h.c2, (hb.cell (p := ⟨b, o + 3, none⟩) hl).trans h.c3, (hb.cell (p := ⟨b, o + 4, none⟩) hl).trans h.c4, (hb.cell (p := ⟨b, o + 5, none⟩) hl).trans h.c5, (hb.cell (p := ⟨b, o + 6, none⟩) hl).trans h.c6⟩
set_option maxRecDepth 100000 in
set_option maxHeartbeats 2000000 in
theorem one_any (a b : SeenV) (w : World) : Calls Tryz.prog 52 #[snagg a, snagg b] w fun e w' => e = .returned (.bool (oneN a b)) ∧ Below w.heap.size w w' := by
  obtain ⟨xk, ⟨x2, x3, x4⟩, xa, xb, xc⟩ := a
  obtain ⟨yk, ⟨y2, y3, y4⟩, ya, yb, yc⟩ := b
  by_cases hh : xk = yk
  · subst hh
    by_cases hh : xa = ya
    · subst hh
      by_cases hh : xb = yb
      · subst hh
        by_cases hh : xc = yc
        · subst hh
          have HV := fun w => Lib.hid (value_any ⟨x2, x3, x4⟩ ⟨y2, y3, y4⟩ w)
          have HE : Hid (oneN ⟨xk, ⟨x2, x3, x4⟩, xa, xb, xc⟩ ⟨xk, ⟨y2, y3, y4⟩, xa, xb, xc⟩ = sameV ⟨x2, x3, x4⟩ ⟨y2, y3, y4⟩) := Lib.hid (by unfold oneN; simp)
          generalize sameV ⟨x2, x3, x4⟩ ⟨y2, y3, y4⟩ = sv at *
          have HB2 := Lib.hid ((below1 w (snobj ⟨xk, ⟨x2, x3, x4⟩, xa, xb, xc⟩)).trans ((below1 (w.alloc (snobj ⟨xk, ⟨x2, x3, x4⟩, xa, xb, xc⟩)) (snobj ⟨xk, ⟨y2, y3, y4⟩, xa, xb, xc⟩)).mono (below1 _ _).size))
          go_enter Tryz.func52, Tryz.ntmps52
          go_wp2_with (go_at_call 34; refine (HV _).out.mono ?_; rintro e w3 ⟨rfl, hb⟩; have HB3 := Lib.hid (HB2.out.trans (hb.mono HB2.out.size)); clear hb)
          go_ret
          exact ⟨by rw [HE.out]; simp, HB3.out⟩
        · have HE : Hid (oneN ⟨xk, ⟨x2, x3, x4⟩, xa, xb, xc⟩ ⟨xk, ⟨y2, y3, y4⟩, xa, xb, yc⟩ = false) := Lib.hid (by unfold oneN; simp [hh])
          have n1 : (xc == yc) = false := beq_eq_false_iff_ne.2 hh
          have n2 : decide (xc = yc) = false := decide_eq_false hh
          go_enter Tryz.func52, Tryz.ntmps52
          go_wp2
          go_ret
          exact ⟨by rw [HE.out]; rfl, (below1 _ _).trans ((below1 _ _).mono (below1 _ _).size)⟩
      · have HE : Hid (oneN ⟨xk, ⟨x2, x3, x4⟩, xa, xb, xc⟩ ⟨xk, ⟨y2, y3, y4⟩, xa, yb, yc⟩ = false) := Lib.hid (by unfold oneN; simp [hh])
        have n1 : (xb == yb) = false := beq_eq_false_iff_ne.2 hh
        have n2 : decide (xb = yb) = false := decide_eq_false hh
        go_enter Tryz.func52, Tryz.ntmps52
        go_wp2
        go_ret
        exact ⟨by rw [HE.out]; rfl, (below1 _ _).trans ((below1 _ _).mono (below1 _ _).size)⟩
    · have HE : Hid (oneN ⟨xk, ⟨x2, x3, x4⟩, xa, xb, xc⟩ ⟨xk, ⟨y2, y3, y4⟩, ya, yb, yc⟩ = false) := Lib.hid (by unfold oneN; simp [hh])
      have n1 : (xa == ya) = false := beq_eq_false_iff_ne.2 hh
      have n2 : decide (xa = ya) = false := decide_eq_false hh
      go_enter Tryz.func52, Tryz.ntmps52
      go_wp2
      go_ret
      exact ⟨by rw [HE.out]; rfl, (below1 _ _).trans ((below1 _ _).mono (below1 _ _).size)⟩
  · have HE : Hid (oneN ⟨xk, ⟨x2, x3, x4⟩, xa, xb, xc⟩ ⟨yk, ⟨y2, y3, y4⟩, ya, yb, yc⟩ = false) := Lib.hid (by unfold oneN; simp [hh])
    have n1 : (xk == yk) = false := beq_eq_false_iff_ne.2 hh
    have n2 : decide (xk = yk) = false := decide_eq_false hh
    go_enter Tryz.func52, Tryz.ntmps52
    go_wp2
    go_ret
    exact ⟨by rw [HE.out]; rfl, (below1 _ _).trans ((below1 _ _).mono (below1 _ _).size)⟩
set_option maxRecDepth 100000 in
set_option maxHeartbeats 4000000 in
theorem seen_any {P Q : Nat → Prop} {w : World} {va vb : Value} {l m : List SeenV} (ha : HasN P w va l) (hb : HasN Q w vb m) :
    Calls Tryz.prog 27 #[va, vb] w fun e w' => e = .returned (.bool (allN l m)) ∧ Below w.heap.size w w' := by
  obtain ⟨ao, cap, rfl, hca, hcm, _, h4⟩ := ha
  have hlt := Nat.le_trans hca hcm
  unfold maxLen at hlt
  clear hca hcm
  obtain ⟨ao2, cap2, rfl, _, _, _, h5⟩ := hb
  by_cases hlen : l.length = m.length
  · rw [← hlen]
    obtain ⟨n, hn⟩ : ∃ n, l.length = n := ⟨_, rfl⟩
    rw [hn]
    rw [hn] at hlt
    have HL := Lib.hid hn.symm
    have HM := Lib.hid (hn.symm.trans hlen)
    clear hn hlen
    obtain ⟨R, hR⟩ : ∃ R, allN l m = R := ⟨_, rfl⟩
    rw [hR]
    have HR := Lib.hid hR
    clear hR
    go_enter Tryz.func27, Tryz.ntmps27
    go_wp2
    go_loopw [5] (fun i wr => ∃ k : Nat, k ≤ n ∧ i = .int .i64 k ∧ Hid (allN (l.drop k) (m.drop k) = R) ∧ Hid (Below w.heap.size w wr)) (fun i _ => n - (intOf i).toNat)
    case atStart => exact ⟨0, Nat.zero_le _, rfl, HR, Lib.hid (Below.refl _ _)⟩
    case round =>
      obtain ⟨k, hk, rfl, HK, HB⟩ := hrel
      by_cases hkn : k < n
      · have hkl : k < l.length := by rw [← HL.out]; exact hkn
        have hkm : k < m.length := by rw [← HM.out]; exact hkn
        obtain ⟨b, o, rfl, _, hb, hc⟩ := h4.resolve_left (fun e => by rw [e] at hkl; exact absurd hkl (Nat.not_lt_zero _))
        obtain ⟨b2, o2, rfl, _, hb2, hc2⟩ := h5.resolve_left (fun e => by rw [e] at hkm; exact absurd hkm (Nat.not_lt_zero _))
        have hK2 : (oneN l[k] m[k] && allN (l.drop (k + 1)) (m.drop (k + 1))) = R := by
          have := HK.out
          rw [List.drop_eq_getElem_cons hkl, List.drop_eq_getElem_cons hkm] at this
          exact this
        have hbw := HB.out.size
        have hbl : b < wr.heap.size := by omega
        have hbl2 : b2 < wr.heap.size := by omega
        have HA := Lib.hid (((hc k hkl).below HB.out hb).sn)
        have HA2 := Lib.hid (((hc2 k hkm).below HB.out hb2).sn)
        generalize l[k] = x at *
        generalize m[k] = y at *
        have HV := fun w => Lib.hid (one_any x y w)
        generalize oneN x y = sv at *
        obtain ⟨xk, ⟨x2, x3, x4⟩, xa, xb, xc⟩ := x
        obtain ⟨yk, ⟨y2, y3, y4⟩, ya, yb, yc⟩ := y
        have e0 := HA.out.c0; have e1 := HA.out.c1; have e2 := HA.out.c2; have e3 := HA.out.c3; have e4 := HA.out.c4; have e5 := HA.out.c5; have e6 := HA.out.c6
        have d0 := HA2.out.c0; have d1 := HA2.out.c1; have d2 := HA2.out.c2; have d3 := HA2.out.c3; have d4 := HA2.out.c4; have d5 := HA2.out.c5; have d6 := HA2.out.c6
        have HK3 := Lib.hid hK2
        clear hK2 HK HR h4 h5 hc hc2
        go_wp2
        have HA := Lib.hid (HA.out.below (Below.refl wr.heap.size wr).drew hbl)
        have HA2 := Lib.hid (HA2.out.below (Below.refl wr.heap.size wr).drew hbl2)
        have HB := Lib.hid HB.out.drew
        have hsz : wr.heap.size ≤ wr.drew.heap.size := Nat.le_refl _
        go_region_held (fun w' => w'.cell? ⟨b, o + k * 7, none⟩ = some (.string ⟨xk.toArray⟩) ∧ w'.cell? ⟨b, o + k * 7 + 1, none⟩ = some (.int .i64 x2) ∧ w'.cell? ⟨b, o + k * 7 + 2, none⟩ = some (.float .f64 x3) ∧ w'.cell? ⟨b, o + k * 7 + 3, none⟩ = some (.string ⟨x4.toArray⟩) ∧ w'.cell? ⟨b, o + k * 7 + 4, none⟩ = some (.int .i64 xa) ∧ w'.cell? ⟨b, o + k * 7 + 5, none⟩ = some (.int .i64 xb) ∧ w'.cell? ⟨b, o + k * 7 + 6, none⟩ = some (.int .i64 xc) ∧ w'.cell? ⟨b2, o2 + k * 7, none⟩ = some (.string ⟨yk.toArray⟩) ∧ w'.cell? ⟨b2, o2 + k * 7 + 1, none⟩ = some (.int .i64 y2) ∧ w'.cell? ⟨b2, o2 + k * 7 + 2, none⟩ = some (.float .f64 y3) ∧ w'.cell? ⟨b2, o2 + k * 7 + 3, none⟩ = some (.string ⟨y4.toArray⟩) ∧ w'.cell? ⟨b2, o2 + k * 7 + 4, none⟩ = some (.int .i64 ya) ∧ w'.cell? ⟨b2, o2 + k * 7 + 5, none⟩ = some (.int .i64 yb) ∧ w'.cell? ⟨b2, o2 + k * 7 + 6, none⟩ = some (.int .i64 yc)) (exact ⟨HA.out.c0, HA.out.c1, HA.out.c2, HA.out.c3, HA.out.c4, HA.out.c5, HA.out.c6, HA2.out.c0, HA2.out.c1, HA2.out.c2, HA2.out.c3, HA2.out.c4, HA2.out.c5, HA2.out.c6⟩)
          ((go_at_call 52; refine (HV _).out.mono ?_; rintro e w6 ⟨rfl, hb6⟩; have HA := Lib.hid (HA.out.below hb6 hbl); have HA2 := Lib.hid (HA2.out.below hb6 hbl2); have HB := Lib.hid (HB.out.trans (hb6.mono HB.out.size)); clear hb6))
        cases sv with
        | false =>
          have hR0 : false = R := by have := HK3.out; simpa using this
          subst hR0
          go_wp2
          go_ret
          exact ⟨rfl, HB.out⟩
        | true =>
          go_wp2
          go_roundw
          case rel => exact ⟨k + 1, by omega, by go_num, Lib.hid (by have := HK3.out; simpa using this), HB⟩
          case measure => simp [intOf]; omega
      · obtain rfl : k = n := by omega
        have hr : true = R := by
          have := HK.out
          rw [List.drop_of_length_le (by rw [← HL.out]; exact Nat.le_refl _), List.drop_of_length_le (by rw [← HM.out]; exact Nat.le_refl _)] at this
          exact this
        subst hr
        clear h4 h5 HK HR
        go_wp2
        go_ret
        exact ⟨rfl, HB.out⟩
  · rw [allN_len hlen]
    have h1 : ¬ (l.length : Int) = (m.length : Int) := by omega
    clear h4 h5 hlen hlt
    generalize l.length = a at *
    generalize m.length = b at *
    go_enter Tryz.func27, Tryz.ntmps27
    go_wp2
    go_ret
    exact ⟨rfl, Below.refl _ _⟩
theorem allN_self : ∀ l : List SeenV, allN l l = true
  | [] => rfl
  | a :: l => by
    rw [allN, allN_self l, Bool.and_true]
    unfold oneN
    rw [sameV_self]; simp
theorem info_sn : (Tryz.prog.info? 52).map (fun i => (i.zero, i.size, i.bytes)) = some (some (snagg default), 7, 72) := by kernel_rfl
theorem under_sns : Tryz.prog.underlying 32 = some (.slice 52) := by kernel_rfl
theorem one_sn (q : SeenV) : ∀ u ∈ snC q, u.oneCell' = true := by
  intro u hu
  simp [snC] at hu
  rcases hu with rfl | rfl | rfl | rfl | rfl | rfl | rfl <;> rfl
theorem cells_sn (w : World) (q : SeenV) (n : Nat) (hn : n = w.heap.size) : ∀ j u, (snC q)[j]? = some u → (w.alloc (snobj q)).cell? ((⟨n, 0, none⟩ : Addr).add j) = some u := by
  subst hn
  intro j u hu
  rw [Addr.add_lit]
  match j, hu with
  | 0, hu => obtain rfl := Option.some.inj hu; simp [World.cell?_alloc_new]
  | 1, hu => obtain rfl := Option.some.inj hu; simp [World.cell?_alloc_new]
  | 2, hu => obtain rfl := Option.some.inj hu; simp [World.cell?_alloc_new]
  | 3, hu => obtain rfl := Option.some.inj hu; simp [World.cell?_alloc_new]
  | 4, hu => obtain rfl := Option.some.inj hu; simp [World.cell?_alloc_new]
  | 5, hu => obtain rfl := Option.some.inj hu; simp [World.cell?_alloc_new]
  | 6, hu => obtain rfl := Option.some.inj hu; simp [World.cell?_alloc_new]
  | j + 7, hu => cases hu
set_option maxRecDepth 100000 in
set_option maxHeartbeats 1000000 in
theorem copySeen_any {P : Nat → Prop} {w : World} {v : Value} {l : List SeenV} (h : HasN P w v l) (hl : l.length ≤ 1000000) :
    Calls Tryz.prog 23 #[v] w fun e w' => ∃ u, e = .returned u ∧ Below w.heap.size w w' ∧ w'.ownsRow w.heap.size 52 7 u l.length (cellsG snC l) := by
  obtain ⟨i0, hi, hz0, hz1, hz2⟩ := info_parts info_sn
  obtain ⟨ao, cap, rfl, _, _, _, h4⟩ := h
  obtain ⟨n, hn⟩ : ∃ n, l.length = n := ⟨_, rfl⟩
  rw [hn] at hl
  rw [hn]
  have HL := Lib.hid hn.symm
  clear hn
  go_enter Tryz.func23, Tryz.ntmps23
  go_wp2
  go_loopw [3, 4] (fun vw vi wr => ∃ (k : Nat), vi = .int .i64 (k : Int) ∧ k ≤ n ∧ Hid (Below w.heap.size w wr) ∧ Hid (wr.ownsRow w.heap.size 52 7 vw k (cellsG snC (l.take k)))) (fun _ vi _ => n - (RowKit.intOf vi).toNat)
  case atStart => exact ⟨0, rfl, Nat.zero_le _, Lib.hid (Below.refl _ _), Lib.hid (World.ownsRow_nil _ _ _ _)⟩
  case round =>
    obtain ⟨k, rfl, hk, HB, HO⟩ := hrel
    by_cases hlt : k < n
    · have hk' : k < l.length := by rw [← HL.out]; exact hlt
      obtain ⟨b, o, rfl, _, hb, hc⟩ := h4.resolve_left (fun e => by rw [e] at hk'; exact absurd hk' (Nat.not_lt_zero _))
      have HQ := Lib.hid (((hc k hk').below HB.out hb).sn)
      have HTk := Lib.hid (take_snocN hk')
      clear h4 hc
      generalize l[k] = r at *
      have r0 := HQ.out.c0; have r1 := HQ.out.c1; have r2 := HQ.out.c2; have r3 := HQ.out.c3; have r4 := HQ.out.c4; have r5 := HQ.out.c5; have r6 := HQ.out.c6
      obtain ⟨key, ⟨vk, vx, vs⟩, ra, rb, rc⟩ := r
      go_wp2_with (at_builtin; refine wpList_append_own _ rfl (.tmp 11) (.tmp 16) 32 rfl w.heap.size 52 i0 (snagg default) 7 72 under_sns hi hz0 hz1 hz2 rfl (by decide) _ _ _ rfl (HO.out.alloc _) ⟨wr.heap.size, 0, none⟩ 1 1 (snC ⟨key, ⟨vk, vx, vs⟩, ra, rb, rc⟩) rfl rfl (cells_sn _ ⟨key, ⟨vk, vx, vs⟩, ra, rb, rc⟩ _ rfl) (one_sn _) (by unfold maxLen; omega) (by omega) (by have := HB.out.size; simp at this ⊢; omega) ?_; intro v2 w3 hown' hgrow _; have HO3 := Lib.hid hown'; have HG3 := Lib.hid hgrow; clear hown' hgrow)
      go_roundw
      case rel => exact ⟨k + 1, by go_num, by omega, Lib.hid ((HB.out.alloc HB.out.size _).grown HG3.out (HB.out.alloc HB.out.size _).size fun q hq => (HO.out.lt q hq).1), by rw [HTk.out, cellsG_append, cellsG_one]; exact HO3⟩
      case measure => simp [RowKit.intOf]; omega
    · obtain rfl : k = n := by omega
      have hT2 : l.take k = l := List.take_of_length_le (by rw [← HL.out]; exact Nat.le_refl _)
      rw [hT2] at HO
      clear h4
      go_wp2
      go_ret
      exact ⟨_, rfl, HB.out, HO.out⟩
end Go.Proofs.YtbgccaconhmbaaaGreatDoor
