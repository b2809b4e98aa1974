/- racelaw14.DirGroups' walk. Conditions: none of its own. racelaw14.DirGroups where a key has no range, or it asks for too much. Conditions: none of its own. -/
import Derived.Test.YtfcdajkgopcmpaaJDv
import Derived.Test.YtfcdajkgopcmpaaJDq
import Derived.Test.YtfcdajkgopcmpaaJDw
import Derived.RegionTactic
import Derived.Deep.RegionHeld
import Derived.Deep.CutRange
import Derived.Deep.DeepCutAuto
namespace Go.Proofs.Ytfcdajkgopcmpaa
open Go.ChangeShapes Go.WideShapes Go.ChangeAt Go.RowKit Go.Deep
theorem new_from9 : ∀ (l acc : List RV), Rise (acc ++ l) → l.foldl putL acc = acc ++ l
  | [], acc, _ => by simp
  | r :: l, acc, h => by
    have h1 := List.pairwise_append.1 h
    have e : putL acc r = acc ++ [r] := put_top fun q hq => h1.2.2 q hq r List.mem_cons_self
    rw [List.foldl_cons, e, new_from9 l (acc ++ [r]) (by simpa using h)]
    simp
theorem new_rise9 {l : List RV} (h : Rise l) : newL l = l := new_from9 l [] h
theorem XB.up {α : Type} {f : α → Value} {d : α} {B B' : Nat} {w : World} {ao : Option Addr} {n cap : Nat} {l : List α} (h : XB f d B w ao n cap l) (hB : B ≤ B') : XB f d B' w ao n cap l := by
  refine ⟨h.len, h.le, h.max, ?_⟩
  rcases h.cells with h0 | ⟨b, off, h1, h2, h3⟩
  · exact .inl h0
  · exact .inr ⟨b, off, h1, Nat.lt_of_lt_of_le h2 hB, h3⟩
theorem key_size9 {s : ByteArray} : keyB s = true ↔ 1 ≤ s.size ∧ s.size ≤ 24 := by
  unfold keyB
  rw [Bool.and_eq_true, decide_eq_true_eq, decide_eq_true_eq]
theorem toList_ne {t s : ByteArray} (h : t ≠ s) : (t.toList == s.toList) = false := by
  rw [beq_eq_false_iff_ne, ByteArray.toList_eq, ByteArray.toList_eq]
  exact fun e => h (bytes_inj e)
theorem mem_next {l : List ByteArray} {k : Nat} (hk : k < l.length) {s : ByteArray} (hn : s ∉ l.take k) : decide (s ∈ l.take (k + 1)) = (l[k].toList == s.toList) := by
  rw [List.take_succ_eq_append_getElem hk]
  by_cases e : l[k] = s
  · rw [e, beq_self_eq_true, decide_eq_true (by simp)]
  · rw [toList_ne e, decide_eq_false (fun h => by
      rcases List.mem_append.1 h with h | h
      · exact hn h
      · exact e (List.mem_singleton.1 h).symm)]
section
variable {C : Nat → Prop} {w : World} {a n cap : Nat} {L : List RV} {ao : Option Addr} {l : List Str}
theorem dgroup_bad (h : DKm C w a L) (hk : KS w.heap.size w ao n cap l) (hp : PK l) (hE : errK L (bys l) ≠ 0) :
    Calls Try.prog 15 #[ptr a, .slice ao n cap] w fun e w' => e = .returned (.tuple #[.slice none 0 0, .int .i64 (errK L (bys l))]) ∧ Below w.heap.size w w' :=
  (dgroup_any h hk hp).mono fun e w' ⟨hb, hor⟩ => by
    rcases hor with ⟨_, rfl⟩ | ⟨h0, _⟩
    · exact ⟨rfl, hb⟩
    · exact absurd h0 hE
theorem dgroup_ok (h : DKm C w a L) (hk : KS w.heap.size w ao n cap l) (hp : PK l) (hE : errK L (bys l) = 0) :
    Calls Try.prog 15 #[ptr a, .slice ao n cap] w fun e w' => ∃ go gc G, e = .returned (.tuple #[.slice go G.length gc, .int .i64 0]) ∧ w'.ownsRow w.heap.size 52 5 (.slice go G.length gc) G.length (cellsV G) ∧
          (∀ x ∈ G, w'.ownsRow w.heap.size 9 1 x.sl x.ks.length (x.ks.map strC)) ∧ GI L (dist (bys l)) G ∧ Below w.heap.size w w' :=
  (dgroup_any h hk hp).mono fun e w' ⟨hb, hor⟩ => by
    rcases hor with ⟨h0, _⟩ | ⟨_, go, gc, G, he, ho, hr, hg⟩
    · exact absurd hE h0
    · exact ⟨go, gc, G, he, ho, hr, hg, hb⟩
end
theorem few14_no {B n cap : Nat} {w : World} {ao : Option Addr} {l : List Str} (h : KS B w ao n cap l) (bo : Option Addr) (m bc : Nat) (hn : ¬ (m ≤ 100 ∧ PK l)) :
    Calls Try.prog 8 #[.slice ao n cap, .slice bo m bc] w fun e w' => e = .returned (.bool false) ∧ w = w' :=
  (few14_any h bo m bc).mono fun e w' ⟨b, he, hb, hw⟩ => by
    cases b
    · exact ⟨he, hw⟩
    · exact absurd (hb rfl) hn
set_option maxRecDepth 100000 in
set_option maxHeartbeats 100000000 in
theorem groups_ok (w : World) (n : Nat) (h0 : 0 < n) (h : n ≤ 12) {lv : Value} {l : List RV} (hv : HasR (fun k => k < w.heap.size) w lv l) (hw : ∀ r ∈ l, r.wf) (hl : l.length ≤ 100)
    (ko : Option Addr) (kn kcap : Nat) (ks : List Str) (hk : KS w.heap.size w ko kn kcap ks) (hp : PK ks) (hE : errK (learnL (evenV n) l).1 (bys ks) = 0) :
    Calls Try.prog 5 #[.int .i64 n, lv, .slice ko kn kcap] w fun e w' => e = .returned (.bool true) ∧ Below w.heap.size w w' := by
  have hst := run_stf
  have HF := fun w => Lib.hid (first14_any w)
  have HE := fun w => Lib.hid (reven_any n h0 h w)
  have HG := Lib.hid (even_gr h0 h (even_wf h0 h))
  have HL := Lib.hid (even_length n)
  have HNW := fun (w' : World) (P : Nat → Prop) v (hh : HasR P w' v (evenV n)) => Lib.hid (dnew_yes hh HG.out.wf (check_zero.2 HG.out.cov))
  simp only [new_rise9 HG.out.rise] at HNW
  have HKK := Lib.hid hk
  have HPK := Lib.hid hp
  obtain ⟨vo, vc, rfl, hcp, hcm⟩ := hasR_len hv
  have HV := Lib.hid hv
  have HFW := fun (w' : World) (hb : Below w.heap.size w w') => Lib.hid (few14_any (HKK.out.below hb) vo l.length vc)
  have hkn := hk.lt
  have HKN := Lib.hid hk.len
  generalize evenV n = E at *
  have HLN := fun (w' : World) (C : Nat → Prop) (a : Nat) (hd : DKm C w' a E) (hb : Below w.heap.size w w') (hC : ∀ k, C k → w.heap.size ≤ k) => Lib.hid (dlearnm_any hd (hv.low hb) (fun k h1 h2 => by have := hC k h2; omega) hw (by rw [HL.out]; omega))
  obtain ⟨L, K, hLK⟩ : ∃ L K, learnL E l = (L, K) := ⟨_, _, rfl⟩
  simp only [hLK] at HLN
  rw [hLK] at hE
  clear hv hw hk hp hLK
  generalize l.length = m at *
  have HEK := Lib.hid hE
  clear hE
  go_enter Try.func5, Try.ntmps5
  go_wp2_with (first
    | (go_at_call 7; first
      | (refine (HF w1).out.mono ?_; rintro e w9 ⟨rfl, hb⟩; have HB9 := Lib.hid (HB1.out.trans (hb.mono HB1.out.size)); clear hb)
      | (refine (HF _).out.mono ?_; rintro e w1 ⟨rfl, hb⟩; have HB1 := Lib.hid hb; clear hb))
    | (go_at_call 8; refine (HFW w1 HB1.out).out.mono ?_; rintro e w2 ⟨b, rfl, hb, rfl⟩; clear hb)
    | (go_at_call 21; refine (HE _).out.mono ?_; rintro e w2 ⟨v, rfl, ho, hb⟩; obtain ⟨g0, c0, hv⟩ := own_shape ho h0; subst hv; have HO2 := Lib.hid ho; have HB2 := Lib.hid (HB1.out.trans (hb.mono HB1.out.size)); clear hb ho)
    | (go_at_call 9; refine (HNW w2 _ _ (own_ranges (by rw [HL.out]; exact HO2.out))).out.mono ?_; rintro e w3 ⟨a, C, rfl, hd, hC, hb⟩; have HD3 := Lib.hid hd; have HC3 := Lib.hid (fun k hk => Nat.le_trans HB2.out.size (hC k hk)); have HB3 := Lib.hid (HB2.out.trans (hb.mono HB2.out.size)); clear hd hC hb)
    | (go_at_call 19; refine (HLN w3 C a HD3.out HB3.out HC3.out).out.mono ?_; rintro e w4 ⟨rfl, hd, hwy⟩; have HD4 := Lib.hid hd; have HB4 := Lib.hid (HB3.out.trans (hwy.tn.below HB3.out.size HC3.out)); clear hd hwy)
    | (go_at_call 15; refine (dgroup_ok HD4.out ((HKK.out.below HB4.out).up HB4.out.size) HPK.out HEK.out).mono ?_; rintro e w5 ⟨go, gc, G, rfl, ho, hr, hg, hb⟩; have HGO := Lib.hid ho; have HGR := Lib.hid hr; have HGI := Lib.hid hg; have HD5 := Lib.hid (HD4.out.below hb); have HB5 := Lib.hid (HB4.out.trans (hb.mono HB4.out.size)); clear ho hr hg hb)
    | fail)
  · go_ret
    exact ⟨rfl, HB9.out⟩
  have HRT := Lib.hid (err_all.1 HEK.out)
  have HRI := Lib.hid HD5.out.rise
  clear HE HG HL HNW HFW HLN HB1 HB2 HO2 HD3 HC3 HB3 HD4 HB4 HV
  have HRA : Hid (∀ i (hi : i < ks.length), routeL L ks[i].1 = ((routeL L ks[i].1).1, true)) := Lib.hid (fun i hi => Prod.ext rfl (HRT.out _ (List.mem_map.2 ⟨ks[i], List.getElem_mem hi, rfl⟩)))
  obtain ⟨N, hN⟩ : ∃ N, G.length = N := ⟨_, rfl⟩
  have HN := Lib.hid hN
  rw [hN] at HGO ⊢
  clear hN
  go_loopw [13, 14] (fun va vi wr => ∃ i : Nat, vi = .int .i64 i ∧ i ≤ kn ∧ va = .bool true ∧ Hid (Below w5.heap.size w5 wr)) (fun _ vi _ => kn - (intOf vi).toNat)
  case atStart => exact ⟨0, rfl, Nat.zero_le _, rfl, Below.refl _ _⟩
  case round =>
    obtain ⟨i, rfl, hi, rfl, HW⟩ := hrel
    have HBW := Lib.hid (HB5.out.trans (HW.out.mono HB5.out.size))
    by_cases hin : i < kn
    · have hin2 : (i : Int) < (kn : Int) := by omega
      obtain ⟨b9, off, rfl, ck⟩ := (HKK.out.below HBW.out).at_ hin
      have hil : i < ks.length := by rw [← HKN.out]; exact hin
      replace ck := ck.trans (congrArg (fun s : Str => some (Value.string s.1)) (getD_at9 hil _))
      have hsz := ks[i].2
      have hra := HRA.out i hil
      generalize ks[i].1 = s at *
      unfold maxLen at hsz
      have HRO := Lib.hid (droute_any (HD5.out.below HW.out) s hsz)
      rw [hra] at HRO
      simp only at HRO
      generalize (routeL L s).1 = r at *
      obtain ⟨r1, r2, r3, r4⟩ := r
      clear hra hil
      go_wp2_with (first
        | (go_at_call 12; refine HRO.out.mono ?_; rintro e w9 ⟨rfl, hb⟩; have HW9 := Lib.hid (HW.out.trans ((hb.alloc hb.size (robj ⟨r1, r2, r3, r4⟩)).mono HW.out.size)); clear hb)
        | fail)
      go_roundw
      case rel => exact ⟨i + 1, by go_num, by omega, rfl, HW9⟩
      case measure => simp [intOf]; omega
    · obtain rfl : i = kn := by omega
      clear HRA
      go_wp2_with (fail)
      have HTT : Hid (tot G ≤ 2000) := Lib.hid (by
        rw [HGI.out.total HRI.out (fun t ht => HRT.out t (dist_mem.1 ht))]
        have h1 := dist_le (bys ks)
        have h2 := HPK.out ks.length (Nat.le_refl _) (fun t ht => (errS_ok (err_route.2 (HRT.out t.1 (List.mem_map.2 ⟨t, List.mem_of_mem_take ht, rfl⟩)))).1)
        have h3 : (bys ks).length = ks.length := by unfold bys; rw [List.length_map]
        rw [h3] at h1
        exact Nat.le_trans h1 h2)
      have hN12 : N ≤ 12 := by rw [← HN.out]; exact HGI.out.few HD5.out.may
      generalize wr = w6 at *
      go_loopw [17, 18] (fun vm vi wr => ∃ i : Nat, vi = .int .i64 i ∧ i ≤ N ∧ vm = .int .i64 (tot (G.take i) : Nat) ∧ Hid (Below w5.heap.size w5 wr)) (fun _ vi _ => N - (intOf vi).toNat)
      case atStart => exact ⟨0, rfl, Nat.zero_le _, rfl, HW⟩
      case round =>
        obtain ⟨p, rfl, hp, rfl, HW⟩ := hrel
        by_cases hpn : p < N
        · have hpn2 : (p : Int) < (N : Int) := by omega
          have hpl : p < G.length := by rw [HN.out]; exact hpn
          obtain ⟨g, rfl, hgc⟩ := own_group (own_below HGO.out HW.out) hpl HN.out
          have HGX := Lib.hid (show G[p] ∈ G from List.getElem_mem hpl)
          have HTN := Lib.hid (tot_take hpl)
          have HTL : Hid (tot (G.take p) + G[p].ks.length ≤ 2000) := Lib.hid (by have h1 := tot_le G (p + 1); rw [tot_take hpl] at h1; have := HTT.out; omega)
          have HNE : Hid (0 < G[p].ks.length) := Lib.hid (List.length_pos_iff.2 (HGI.out.mem _ (List.getElem_mem hpl)).2.2)
          have HPR : Hid (∀ q, p = q + 1 → ∃ y : RV, wr.cell? ⟨g, q * 5, none⟩ = some (.int .i64 y.i) ∧ ∀ hq : q < G.length, G[q].r = y ∧ y.i < G[p].r.i) := Lib.hid (fun q e => by
            have hq : q < G.length := by omega
            obtain ⟨g2, e2, hg2⟩ := own_group (own_below HGO.out HW.out) hq HN.out
            injection e2 with e2
            injection e2 with e2
            subst e2
            refine ⟨G[q].r, hg2.c0, fun _ => ⟨rfl, ?_⟩⟩
            exact List.pairwise_iff_getElem.1 HGI.out.rise q p hq hpl (by omega))
          have HGO2 : Hid (∀ wz, Below w5.heap.size w5 wz → Gc wz g (p * 5) G[p]) := Lib.hid (fun wz hb => by
            obtain ⟨g2, e2, hg2⟩ := own_group (own_below HGO.out hb) hpl HN.out
            injection e2 with e2
            injection e2 with e2
            subst e2
            exact hg2)
          generalize G[p] = x at *
          obtain ⟨⟨x1, x2, x3, x4⟩, xk, xg, xc⟩ := x
          obtain ⟨c0, c1, c2, c3, c4⟩ := hgc
          simp only at c0 c1 c2 c3 c4 HNE HTN HTL HPR
          obtain ⟨T, hT⟩ : ∃ T, tot (G.take p) = T := ⟨_, rfl⟩
          rw [hT] at HTN HTL ⊢
          clear hT
          obtain ⟨M, hM⟩ : ∃ M, xk.length = M := ⟨_, rfl⟩
          have HM := Lib.hid hM
          rw [hM] at HNE HTN HTL c4
          clear hM
          have hM0 : ((M : Int) == 0) = false := by have := HNE.out; simp; omega
          go_upto_region 27 with fail
          go_cut [125] (fun v wc => v = .bool false ∧ wr.drew = wc)
          case first =>
            rcases Nat.eq_zero_or_pos p with h0 | h0
            · subst h0
              go_region
              go_wp2_with (fail)
              go_meet
              case rel => exact ⟨rfl, rfl⟩
            · obtain ⟨q, rfl⟩ : ∃ q, p = q + 1 := ⟨p - 1, by omega⟩
              obtain ⟨y, cy, hy⟩ := HPR.out q rfl
              have hy2 : decide (x1 ≤ y.i) = false := by have := (hy (by omega)).2; simp; omega
              go_region
              go_wp2_with (fail)
              go_meet
              case rel => exact ⟨rfl, rfl⟩
          case rest =>
            obtain ⟨rfl, rfl⟩ := hcut
            clear HPR hM0
            have hdr := (Below.refl wr.heap.size wr).drew
            have HWd := Lib.hid (HW.out.trans (hdr.mono HW.out.size))
            have HXR : Hid (∀ k (hk : k < xk.length), routeL L xk[k] = (⟨x1, x2, x3, x4⟩, true) ∧ keyB xk[k] = true) := Lib.hid (fun k hk => by
              have h1 := HGI.out.route HRI.out (fun t ht => HRT.out t (dist_mem.1 ht)) HGX.out (s := xk[k]) (List.getElem_mem hk)
              exact ⟨h1, (errS_ok (err_route.2 (by rw [h1]))).1⟩)
            have HND : Hid (∀ j k (hj : j < xk.length) (hk : k < xk.length), j < k → xk[j] ≠ xk[k]) := Lib.hid (fun j k hj hk hjk e => by
              have := (List.nodup_iff_pairwise_ne.1 (HGI.out.nodup HGX.out))
              exact List.pairwise_iff_getElem.1 this j k hj hk hjk e)
            have HKR : Hid (∀ wz, Below w5.heap.size w5 wz → ∀ k (hk : k < xk.length), wz.cell? ⟨xg, k, none⟩ = some (.string xk[k])) := Lib.hid (fun wz hb k hk => own_key (e := ⟨⟨x1, x2, x3, x4⟩, xk, xg, xc⟩) (own_below (HGR.out _ HGX.out) hb) hk)
            generalize wr.drew = wd at *
            clear c0 c1 c2 c3 c4
            go_wp2_with (fail)
            go_loopw [17, 19] (fun vm vk wr => ∃ k : Nat, vk = .int .i64 k ∧ k ≤ M ∧ vm = .int .i64 ((T + k : Nat) : Int) ∧ Hid (Below w5.heap.size w5 wr)) (fun _ vk _ => M - (intOf vk).toNat)
            case atStart => exact ⟨0, rfl, Nat.zero_le _, by simp, HWd⟩
            case round =>
              obtain ⟨k, rfl, hk, rfl, HW⟩ := hrel
              have hgc := HGO2.out wr HW.out
              by_cases hkm : k < M
              · have hkm2 : (k : Int) < (M : Int) := by omega
                have hkl : k < xk.length := by rw [HM.out]; exact hkm
                have ck := HKR.out wr HW.out k hkl
                obtain ⟨hro, hky⟩ := HXR.out k hkl
                have hks : xk[k].size ≤ 24 := (key_size9.1 hky).2
                have HRO := Lib.hid (droute_any (HD5.out.below HW.out) xk[k] (by omega))
                rw [hro] at HRO
                simp only at HRO
                have HJ : Hid (∀ j, j < k → ∃ t, (∀ wz, Below w5.heap.size w5 wz → wz.cell? ⟨xg, j, none⟩ = some (.string t)) ∧ t ≠ xk[k]) := Lib.hid (fun j hj => ⟨xk[j]'(by omega), fun wz hb => HKR.out wz hb j (by omega), HND.out j k (by omega) hkl hj⟩)
                have HCK : Hid (∀ wz, Below w5.heap.size w5 wz → wz.cell? ⟨xg, k, none⟩ = some (.string xk[k])) := Lib.hid (fun wz hb => HKR.out wz hb k hkl)
                generalize xk[k] = s at *
                obtain ⟨c0, c1, c2, c3, c4⟩ := hgc
                simp only [HM.out] at c0 c1 c2 c3 c4
                clear hro hky hks hkl
                go_upto_region 33 with (first
                  | (go_at_call 12; refine HRO.out.mono ?_; rintro e w9 ⟨rfl, hb⟩; have HX := Lib.hid (at_new w9 ⟨x1, x2, x3, x4⟩); have HW9 := Lib.hid (HW.out.trans ((hb.alloc hb.size (robj ⟨x1, x2, x3, x4⟩)).mono HW.out.size)); clear hb)
                  | fail)
                clear c0 c1 c2 c3 c4 ck
                dsimp only [robj] at HX HW9
                generalize w9.heap.size = bx at *
                generalize w9.alloc (.cells #[.int .i64 x1, .int .i64 x2, .float .f64 x3, .float .f64 x4] 37) = w10 at *
                have HWz := Lib.hid (HW9.out.trans (((Below.refl w10.heap.size w10).drew).mono HW9.out.size))
                have HXz := Lib.hid (HX.out.below ((Below.refl w10.heap.size w10).drew) HX.out.lt)
                have hgz := HGO2.out _ HWz.out
                have hc4 := hgz.c4
                simp only [HM.out] at hc4
                clear hgz
                go_region_held (fun w' => w'.cell? ⟨bx, 0, none⟩ = some (.int .i64 x1) ∧ w'.cell? ⟨bx, 1, none⟩ = some (.int .i64 x2) ∧ w'.cell? ⟨bx, 2, none⟩ = some (.float .f64 x3) ∧ w'.cell? ⟨bx, 3, none⟩ = some (.float .f64 x4) ∧ w'.cell? ⟨g, p * 5, none⟩ = some (.int .i64 x1) ∧ w'.cell? ⟨g, p * 5 + 1, none⟩ = some (.int .i64 x2) ∧ w'.cell? ⟨g, p * 5 + 2, none⟩ = some (.float .f64 x3) ∧ w'.cell? ⟨g, p * 5 + 3, none⟩ = some (.float .f64 x4)) (exact ⟨HXz.out.c0, HXz.out.c1, HXz.out.c2, HXz.out.c3, (HGO2.out _ HWz.out).c0, (HGO2.out _ HWz.out).c1, (HGO2.out _ HWz.out).c2, (HGO2.out _ HWz.out).c3⟩)
                  ((first
                    | (go_at_call 14; refine (range_same ⟨x1, x2, x3, x4⟩ _).mono ?_; rintro e w11 ⟨rfl, hb⟩; have HWz := Lib.hid (HWz.out.trans (hb.mono HWz.out.size)); have HXz := Lib.hid (HXz.out.below hb HXz.out.lt); clear hb)))
                clear HX HW9 hc4 HXz
                have hk2k : k ≤ 2000 := by have := HTL.out; omega
                go_wp2_with (fail)
                go_loopw [22] (fun vj wr => ∃ j : Nat, vj = .int .i64 j ∧ j ≤ k ∧ Hid (Below w5.heap.size w5 wr)) (fun vj _ => k - (intOf vj).toNat)
                case atStart => exact ⟨0, rfl, Nat.zero_le _, HWz⟩
                case round =>
                  obtain ⟨j, rfl, hj, HW⟩ := hrel
                  by_cases hjk : j < k
                  · have hjk2 : (j : Int) < (k : Int) := by omega
                    obtain ⟨t, ht, hne⟩ := HJ.out j hjk
                    have ct := ht wr HW.out
                    have cs := HCK.out wr HW.out
                    have c4 := (HGO2.out wr HW.out).c4
                    simp only [HM.out] at c4
                    have hjM : (j : Int) < (M : Int) := by omega
                    have HNE2 := Lib.hid hne
                    clear ht hne
                    have HWd2 := Lib.hid (HW.out.trans (((Below.refl wr.heap.size wr).drew).mono HW.out.size))
                    go_upto_region 38 with fail
                    have hq2 := toList_ne HNE2.out
                    go_region
                    go_wp2_with (fail)
                    go_roundw
                    case rel => exact ⟨j + 1, by go_num, by omega, HWd2⟩
                    case measure => simp [intOf]; omega
                  · obtain rfl : j = k := by omega
                    have hjj : ¬ (j : Int) < (j : Int) := by omega
                    have htk : T + j + 1 ≤ 2001 := by have := HTL.out; omega
                    go_wp2_with (fail)
                    go_roundw
                    case rel => exact ⟨j + 1, by go_num, by omega, by go_num, HW⟩
                    case measure => simp [intOf]; omega
              · obtain rfl : k = M := by omega
                obtain ⟨c0, c1, c2, c3, c4⟩ := hgc
                simp only [HM.out] at c4
                have hkk : ¬ (k : Int) < (k : Int) := by omega
                go_wp2_with (fail)
                go_roundw
                case rel => exact ⟨p + 1, by go_num, by omega, by rw [HTN.out], HW⟩
                case measure => simp [intOf]; omega
        · obtain rfl : p = N := by omega
          have hpp : ¬ (p : Int) < (p : Int) := by omega
          have hall : G.take p = G := List.take_of_length_le (by rw [HN.out]; exact Nat.le_refl _)
          rw [hall]
          clear hall
          have HT9 : Hid (tot G = (dist (bys ks)).length) := Lib.hid (HGI.out.total HRI.out (fun t ht => HRT.out t (dist_mem.1 ht)))
          go_wp2_with (fail)
          go_loopw [23, 24] (fun vu vq wr => ∃ q : Nat, vq = .int .i64 q ∧ q ≤ i ∧ vu = .int .i64 ((dist ((bys ks).take q)).length : Nat) ∧ Hid (Below w5.heap.size w5 wr)) (fun _ vq _ => i - (intOf vq).toNat)
          case atStart => exact ⟨0, rfl, Nat.zero_le _, rfl, HW⟩
          case round =>
            obtain ⟨q, rfl, hq, rfl, HW⟩ := hrel
            have HBq := Lib.hid (HB5.out.trans (HW.out.mono HB5.out.size))
            by_cases hqi : q < i
            · have hqi2 : (q : Int) < (i : Int) := by omega
              have hql : q < ks.length := by rw [← HKN.out]; exact hqi
              have hqb : q < (bys ks).length := by unfold bys; rw [List.length_map]; exact hql
              have HDT := Lib.hid (dist_take hqb)
              rw [bys_at hql] at HDT
              have HDL : Hid ((dist ((bys ks).take q)).length ≤ q) := Lib.hid (by have := dist_le ((bys ks).take q); rw [List.length_take] at this; omega)
              have HKE : Hid (∀ wz, Below w.heap.size w wz → ∀ k, k < i → ∃ b off, ko = some ⟨b, off, none⟩ ∧ ∀ hk : k < ks.length, wz.cell? ⟨b, off + k, none⟩ = some (.string ks[k].1)) := Lib.hid (fun wz hb k hk => by
                obtain ⟨b, off, e, ck⟩ := (HKK.out.below hb).at_ hk
                exact ⟨b, off, e, fun hk2 => ck.trans (congrArg (fun s : Str => some (Value.string s.1)) (getD_at9 hk2 _))⟩)
              obtain ⟨kb, koff, rfl, _⟩ := HKE.out _ HBq.out q hqi
              have HKC : Hid (∀ wz, Below w.heap.size w wz → ∀ k (hk : k < ks.length), wz.cell? ⟨kb, koff + k, none⟩ = some (.string ks[k].1)) := Lib.hid (fun wz hb k hk => by
                obtain ⟨b, off, e, ck⟩ := HKE.out wz hb k (by rw [HKN.out]; exact hk)
                injection e with e
                injection e with e1 e2
                subst e1 e2
                exact ck hk)
              have HQC : Hid (∀ wz, Below w.heap.size w wz → wz.cell? ⟨kb, koff + q, none⟩ = some (.string ks[q].1)) := Lib.hid (fun wz hb => HKC.out wz hb q hql)
              generalize ks[q].1 = s at *
              obtain ⟨Z, hZ⟩ : ∃ Z, (dist ((bys ks).take q)).length = Z := ⟨_, rfl⟩
              have HZ := Lib.hid hZ
              rw [hZ] at HDL ⊢
              clear hZ
              clear hql hqb HKE
              go_wp2_with (fail)
              go_loopw [25, 26] (fun vt vk wr => ∃ k : Nat, vk = .int .i64 k ∧ k ≤ q ∧ vt = .bool (decide (s ∈ (bys ks).take k)) ∧ Hid (Below w5.heap.size w5 wr)) (fun _ vk _ => q - (intOf vk).toNat)
              case atStart => exact ⟨0, rfl, Nat.zero_le _, by simp, HW⟩
              case round =>
                obtain ⟨k, rfl, hk, rfl, HW⟩ := hrel
                have HBk := Lib.hid (HB5.out.trans (HW.out.mono HB5.out.size))
                have HWd3 := Lib.hid (HW.out.trans (((Below.refl wr.heap.size wr).drew).mono HW.out.size))
                by_cases hkq : k < q
                · have hkq2 : (k : Int) < (q : Int) := by omega
                  have hki : (k : Int) < (i : Int) := by omega
                  have hkl : k < ks.length := by have := HKN.out; omega
                  have hkb : k < (bys ks).length := by unfold bys; rw [List.length_map]; exact hkl
                  have ck := HKC.out wr HBk.out k hkl
                  have cs := HQC.out wr HBk.out
                  have HNX := Lib.hid (fun hn => mem_next hkb (s := s) hn)
                  have HMO : Hid (s ∈ (bys ks).take k → s ∈ (bys ks).take (k + 1)) := Lib.hid (fun h => by rw [List.take_succ_eq_append_getElem hkb]; exact List.mem_append_left _ h)
                  rw [bys_at hkl] at HNX
                  generalize ks[k].1 = t at *
                  clear hkl hkb
                  by_cases hm : s ∈ (bys ks).take k
                  · have HM2 := Lib.hid (decide_eq_true (HMO.out hm))
                    rw [decide_eq_true hm]
                    clear hm HMO HNX
                    go_upto_region 49 with fail
                    go_region
                    go_wp2_with (fail)
                    go_roundw
                    case rel => exact ⟨k + 1, by go_num, by omega, by rw [HM2.out], HWd3⟩
                    case measure => simp [intOf]; omega
                  · have HM2 := Lib.hid (HNX.out hm)
                    rw [decide_eq_false hm]
                    clear hm HMO HNX
                    go_upto_region 49 with fail
                    go_region
                    go_wp2_with (fail)
                    all_goals
                      go_roundw
                      case rel => exact ⟨k + 1, by go_num, by omega, by rw [HM2.out], HWd3⟩
                      case measure => simp [intOf]; omega
                · obtain rfl : k = q := by omega
                  have hkk : ¬ (k : Int) < (k : Int) := by omega
                  by_cases hm : s ∈ (bys ks).take k
                  · have HD2 : Hid ((dist ((bys ks).take (k + 1))).length = Z) := Lib.hid (by rw [HDT.out, if_pos (dist_mem.2 hm)]; exact HZ.out)
                    rw [decide_eq_true hm]
                    clear hm
                    go_wp2_with (fail)
                    go_roundw
                    case rel => exact ⟨k + 1, by go_num, by omega, by rw [HD2.out], HW⟩
                    case measure => simp [intOf]; omega
                  · have HD2 : Hid ((dist ((bys ks).take (k + 1))).length = Z + 1) := Lib.hid (by rw [HDT.out, if_neg (fun e => hm (dist_mem.1 e)), List.length_append, HZ.out]; rfl)
                    rw [decide_eq_false hm]
                    have hz : Z + 1 ≤ i := by have := HDL.out; omega
                    clear hm
                    go_wp2_with (fail)
                    go_roundw
                    case rel => exact ⟨k + 1, by go_num, by omega, by rw [HD2.out]; go_num, HW⟩
                    case measure => simp [intOf]; omega
            · obtain rfl : q = i := by omega
              have hqq : ¬ (q : Int) < (q : Int) := by omega
              have hall : (bys ks).take q = bys ks := List.take_of_length_le (by unfold bys; rw [List.length_map, HKN.out]; exact Nat.le_refl _)
              rw [hall, ← HT9.out]
              clear hall
              go_wp2_with (first
                | (go_at_call 7; refine (HF _).out.mono ?_; rintro e w12 ⟨rfl, hb⟩; have HB12 := Lib.hid (HBq.out.trans (hb.mono HBq.out.size)); clear hb)
                | fail)
              go_ret
              exact ⟨by simp, HB12.out⟩
end Go.Proofs.Ytfcdajkgopcmpaa
namespace Go.Proofs.Ytfcdajkgopcmpaa
open Go.ChangeShapes Go.WideShapes Go.ChangeAt Go.RowKit Go.Deep
set_option maxRecDepth 100000 in
set_option maxHeartbeats 100000000 in
theorem groups_err (w : World) (n : Nat) (h0 : 0 < n) (h : n ≤ 12) {lv : Value} {l : List RV} (hv : HasR (fun k => k < w.heap.size) w lv l) (hw : ∀ r ∈ l, r.wf) (hl : l.length ≤ 100)
    (ko : Option Addr) (kn kcap : Nat) (ks : List Str) (hk : KS w.heap.size w ko kn kcap ks) (hp : PK ks) (hE : errK (learnL (evenV n) l).1 (bys ks) ≠ 0) :
    Calls Try.prog 5 #[.int .i64 n, lv, .slice ko kn kcap] w fun e w' => e = .returned (.bool true) ∧ Below w.heap.size w w' := by
  have hst := run_stf
  have HF := fun w => Lib.hid (first14_any w)
  have HE := fun w => Lib.hid (reven_any n h0 h w)
  have HG := Lib.hid (even_gr h0 h (even_wf h0 h))
  have HL := Lib.hid (even_length n)
  have HNW := fun (w' : World) (P : Nat → Prop) v (hh : HasR P w' v (evenV n)) => Lib.hid (dnew_yes hh HG.out.wf (check_zero.2 HG.out.cov))
  simp only [new_rise9 HG.out.rise] at HNW
  have HKK := Lib.hid hk
  have HPK := Lib.hid hp
  obtain ⟨vo, vc, rfl, hcp, hcm⟩ := hasR_len hv
  have HV := Lib.hid hv
  have HFW := fun (w' : World) (hb : Below w.heap.size w w') => Lib.hid (few14_any (HKK.out.below hb) vo l.length vc)
  have hkn := hk.lt
  have HKN := Lib.hid hk.len
  generalize evenV n = E at *
  have HLN := fun (w' : World) (C : Nat → Prop) (a : Nat) (hd : DKm C w' a E) (hb : Below w.heap.size w w') (hC : ∀ k, C k → w.heap.size ≤ k) => Lib.hid (dlearnm_any hd (hv.low hb) (fun k h1 h2 => by have := hC k h2; omega) hw (by rw [HL.out]; omega))
  obtain ⟨L, K, hLK⟩ : ∃ L K, learnL E l = (L, K) := ⟨_, _, rfl⟩
  simp only [hLK] at HLN
  rw [hLK] at hE
  simp only at hE
  clear hv hw hk hp hLK
  generalize l.length = m at *
  have HEK := Lib.hid hE
  have HAF : Hid ((bys ks).all (fun s => (routeL L s).2) = false) := Lib.hid (by
    rw [List.all_eq_false]
    refine Classical.byContradiction fun hn => hE (err_all.2 fun s hs => ?_)
    cases hr : (routeL L s).2 with
    | true => rfl
    | false => exact absurd ⟨s, hs, by rw [hr]; decide⟩ hn)
  have hE2 : (errK L (bys ks) == 0) = false := by simpa using hE
  have hE3 : (errK L (bys ks) != 0) = true := by simpa using hE
  have HGB := fun (w' : World) (C : Nat → Prop) (a : Nat) (hd : DKm C w' a L) (hb : Below w.heap.size w w') => Lib.hid (dgroup_bad hd ((HKK.out.below hb).up hb.size) HPK.out HEK.out)
  clear hE HEK
  generalize errK L (bys ks) = ek at *
  go_enter Try.func5, Try.ntmps5
  go_wp2_with (first
    | (go_at_call 7; first
      | (refine (HF w1).out.mono ?_; rintro e w9 ⟨rfl, hb⟩; have HB9 := Lib.hid (HB1.out.trans (hb.mono HB1.out.size)); clear hb)
      | (refine (HF _).out.mono ?_; rintro e w1 ⟨rfl, hb⟩; have HB1 := Lib.hid hb; clear hb))
    | (go_at_call 8; refine (HFW w1 HB1.out).out.mono ?_; rintro e w2 ⟨b, rfl, hb, rfl⟩; clear hb)
    | (go_at_call 21; refine (HE _).out.mono ?_; rintro e w2 ⟨v, rfl, ho, hb⟩; obtain ⟨g0, c0, hv⟩ := own_shape ho h0; subst hv; have HO2 := Lib.hid ho; have HB2 := Lib.hid (HB1.out.trans (hb.mono HB1.out.size)); clear hb ho)
    | (go_at_call 9; refine (HNW w2 _ _ (own_ranges (by rw [HL.out]; exact HO2.out))).out.mono ?_; rintro e w3 ⟨a, C, rfl, hd, hC, hb⟩; have HD3 := Lib.hid hd; have HC3 := Lib.hid (fun k hk => Nat.le_trans HB2.out.size (hC k hk)); have HB3 := Lib.hid (HB2.out.trans (hb.mono HB2.out.size)); clear hd hC hb)
    | (go_at_call 19; refine (HLN w3 C a HD3.out HB3.out HC3.out).out.mono ?_; rintro e w4 ⟨rfl, hd, hwy⟩; have HD4 := Lib.hid hd; have HB4 := Lib.hid (HB3.out.trans (hwy.tn.below HB3.out.size HC3.out)); clear hd hwy)
    | (go_at_call 15; refine (HGB w4 C a HD4.out HB4.out).out.mono ?_; rintro e w5 ⟨rfl, hb⟩; have HD5 := Lib.hid (HD4.out.below hb); have HB5 := Lib.hid (HB4.out.trans (hb.mono HB4.out.size)); clear hb)
    | fail)
  · go_ret
    exact ⟨rfl, HB9.out⟩
  clear HE HG HL HNW HFW HLN HB1 HB2 HO2 HD3 HC3 HB3 HD4 HB4 HV HGB
  go_loopw [13, 14] (fun va vi wr => ∃ i : Nat, vi = .int .i64 i ∧ i ≤ kn ∧ va = .bool (((bys ks).take i).all (fun s => (routeL L s).2)) ∧ Hid (Below w5.heap.size w5 wr)) (fun _ vi _ => kn - (intOf vi).toNat)
  case atStart => exact ⟨0, rfl, Nat.zero_le _, rfl, Below.refl _ _⟩
  case round =>
    obtain ⟨i, rfl, hi, rfl, HW⟩ := hrel
    have HBW := Lib.hid (HB5.out.trans (HW.out.mono HB5.out.size))
    by_cases hin : i < kn
    · have hin2 : (i : Int) < (kn : Int) := by omega
      obtain ⟨b9, off, rfl, ck⟩ := (HKK.out.below HBW.out).at_ hin
      have hil : i < ks.length := by rw [← HKN.out]; exact hin
      have hib : i < (bys ks).length := by unfold bys; rw [List.length_map]; exact hil
      replace ck := ck.trans (congrArg (fun s : Str => some (Value.string s.1)) (getD_at9 hil _))
      have hsz := ks[i].2
      have HTK : Hid (((bys ks).take (i + 1)).all (fun s => (routeL L s).2) = (((bys ks).take i).all (fun s => (routeL L s).2) && (routeL L ks[i].1).2)) := Lib.hid (by
        rw [List.take_succ_eq_append_getElem hib, List.all_append, bys_at hil]
        simp)
      generalize ks[i].1 = s at *
      unfold maxLen at hsz
      have HRO := Lib.hid (droute_any (HD5.out.below HW.out) s hsz)
      generalize routeL L s = pr at *
      obtain ⟨⟨r1, r2, r3, r4⟩, ok⟩ := pr
      simp only at HRO HTK
      clear hil hib
      generalize ((bys ks).take i).all (fun s => (routeL L s).2) = A at *
      cases A
      all_goals
        go_wp2_with (first
          | (go_at_call 12; refine HRO.out.mono ?_; rintro e w9 ⟨rfl, hb⟩; have HW9 := Lib.hid (HW.out.trans ((hb.alloc hb.size (robj ⟨r1, r2, r3, r4⟩)).mono HW.out.size)); clear hb)
          | fail)
        go_roundw
        case rel => exact ⟨i + 1, by go_num, by omega, by rw [HTK.out]; rfl, HW9⟩
        case measure => simp [intOf]; omega
    · obtain rfl : i = kn := by omega
      have hall : (bys ks).take i = bys ks := List.take_of_length_le (by unfold bys; rw [List.length_map, HKN.out]; exact Nat.le_refl _)
      rw [hall, HAF.out]
      clear hall
      go_wp2_with (first
        | (go_at_call 7; refine (HF _).out.mono ?_; rintro e w12 ⟨rfl, hb⟩; have HB12 := Lib.hid (HBW.out.trans (hb.mono HBW.out.size)); clear hb)
        | fail)
      go_ret
      exact ⟨rfl, HB12.out⟩
set_option maxRecDepth 100000 in
theorem groups_out (w : World) (a : Int) (bo : Option Addr) (m bc : Nat) (ko : Option Addr) (kn kcap : Nat) (ks : List Str) (hk : KS w.heap.size w ko kn kcap ks) (hn : ¬ (m ≤ 100 ∧ PK ks)) :
    Calls Try.prog 5 #[.int .i64 a, .slice bo m bc, .slice ko kn kcap] w fun e w' => e = .returned (.bool true) ∧ Below w.heap.size w w' := by
  have HF := fun w => Lib.hid (first14_any w)
  have HKK := Lib.hid hk
  have HFW := fun (w' : World) (hb : Below w.heap.size w w') => Lib.hid (few14_no (HKK.out.below hb) bo m bc hn)
  clear hk hn
  go_enter Try.func5, Try.ntmps5
  go_wp2_with (first
    | (go_at_call 7; first
      | (refine (HF w1).out.mono ?_; rintro e w9 ⟨rfl, hb⟩; have HB9 := Lib.hid (HB1.out.trans (hb.mono HB1.out.size)); clear hb)
      | (refine (HF _).out.mono ?_; rintro e w1 ⟨rfl, hb⟩; have HB1 := Lib.hid hb; clear hb))
    | (go_at_call 8; refine (HFW w1 HB1.out).out.mono ?_; rintro e w2 ⟨rfl, rfl⟩)
    | fail)
  go_ret
  exact ⟨rfl, HB9.out⟩
set_option maxRecDepth 100000 in
theorem groups_bad (w : World) (a : Int) (h : a < 1 ∨ 12 < a) (bo : Option Addr) (m bc : Nat) (ko : Option Addr) (kn kcap : Nat) (ks : List Str) (hk : KS w.heap.size w ko kn kcap ks) :
    Calls Try.prog 5 #[.int .i64 a, .slice bo m bc, .slice ko kn kcap] w fun e w' => e = .returned (.bool true) ∧ Below w.heap.size w w' := by
  have HF := fun w => Lib.hid (first14_any w)
  have HE := fun w => Lib.hid (reven_bad a h w)
  have HKK := Lib.hid hk
  have HFW := fun (w' : World) (hb : Below w.heap.size w w') => Lib.hid (few14_any (HKK.out.below hb) bo m bc)
  clear h hk
  go_enter Try.func5, Try.ntmps5
  go_wp2_with (first
    | (go_at_call 7; first
      | (refine (HF w1).out.mono ?_; rintro e w9 ⟨rfl, hb⟩; have HB9 := Lib.hid (HB1.out.trans (hb.mono HB1.out.size)); clear hb)
      | (refine (HF _).out.mono ?_; rintro e w1 ⟨rfl, hb⟩; have HB1 := Lib.hid hb; clear hb))
    | (go_at_call 8; refine (HFW w1 HB1.out).out.mono ?_; rintro e w2 ⟨b9, rfl, hb, rfl⟩; clear hb)
    | (go_at_call 21; refine (HE _).out.mono ?_; rintro e w2 ⟨rfl, rfl⟩)
    | fail)
  all_goals go_ret
  all_goals exact ⟨rfl, HB9.out⟩
end Go.Proofs.Ytfcdajkgopcmpaa
