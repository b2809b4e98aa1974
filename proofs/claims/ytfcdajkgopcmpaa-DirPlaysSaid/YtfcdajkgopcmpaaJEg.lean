/- The document's Group. Conditions: keys that are no more than 2000 as far as all are keys. -/
import Derived.Test.YtfcdajkgopcmpaaJDv
import Derived.RegionTactic
import Derived.Deep.RegionHeld
namespace Go.Proofs.Ytfcdajkgopcmpaa
open Go.ChangeShapes Go.WideShapes Go.ChangeAt Go.RowKit Go.Deep
def viewK (L : List RV) (D : List ByteArray) (k : Nat) : List (RV × List ByteArray) := ((L.take k).map fun r => (r, grp L D r)).filter (fun p => !p.2.isEmpty)
theorem viewK_next {L : List RV} {D : List ByteArray} {k : Nat} (h : k < L.length) : viewK L D (k + 1) = viewK L D k ++ if grp L D L[k] = [] then [] else [(L[k], grp L D L[k])] := by
  unfold viewK
  rw [List.take_succ_eq_append_getElem h, List.map_append, List.filter_append]
  congr 1
  by_cases e : grp L D L[k] = []
  · rw [if_pos e]; simp [e]
  · rw [if_neg e]; simp [e]
theorem viewK_all (L : List RV) (D : List ByteArray) : viewK L D L.length = groupsL L D := by unfold viewK groupsL; rw [List.take_length]
theorem grp_next {L : List RV} {ks : List ByteArray} {i : Nat} (h : i < ks.length) (r : RV) : grp L (dist (ks.take (i + 1))) r = grp L (dist (ks.take i)) r ++ if (routeL L ks[i]).1.i = r.i ∧ ks[i] ∉ ks.take i then [ks[i]] else [] := by
  rw [dist_take h]
  by_cases hm : ks[i] ∈ ks.take i
  · rw [if_pos (dist_mem.2 hm), if_neg (fun e => e.2 hm), List.append_nil]
  · rw [if_neg (fun e => hm (dist_mem.1 e)), grp_snoc]
    congr 1
    by_cases e : (routeL L ks[i]).1.i = r.i
    · rw [if_pos e, if_pos ⟨e, hm⟩]
    · rw [if_neg e, if_neg (fun e2 => e e2.1)]
theorem toList_ne9 {t s : ByteArray} (h : t ≠ s) : (t.toList == s.toList) = false := by
  rw [beq_eq_false_iff_ne, ByteArray.toList_eq, ByteArray.toList_eq]
  exact fun e => h (bytes_inj e)
theorem mem_next9 {l : List ByteArray} {k : Nat} (hk : k < l.length) {s : ByteArray} (hn : s ∉ l.take k) : decide (s ∈ l.take (k + 1)) = (l[k].toList == s.toList) := by
  rw [List.take_succ_eq_append_getElem hk]
  by_cases e : l[k] = s
  · rw [e, beq_self_eq_true, decide_eq_true (by simp)]
  · rw [toList_ne9 e, decide_eq_false (fun h => by
      rcases List.mem_append.1 h with h | h
      · exact hn h
      · exact e (List.mem_singleton.1 h).symm)]
abbrev g14 : TypeId := 82
theorem info82 : (Try.prog.info? 82).map (fun i => (i.zero, i.size, i.bytes)) = some (some (.agg #[.int .i64 0, .int .i64 0, .float .f64 0, .float .f64 0, .slice none 0 0]), 5, 56) := by kernel_rfl
theorem info82s : ∃ i0, Try.prog.info? 82 = some i0 ∧ i0.zero = some (.agg #[.int .i64 0, .int .i64 0, .float .f64 0, .float .f64 0, .slice none 0 0]) ∧ i0.size = 5 ∧ i0.bytes = 56 := by
  obtain ⟨i0, h1, h2⟩ := Option.map_eq_some_iff.1 info82
  simp only [Prod.mk.injEq] at h2
  exact ⟨i0, h1, h2.1, h2.2.1, h2.2.2⟩
theorem news_g82 (w : World) (e : GV) : ∀ j u, (cellsV [e])[j]? = some u → (w.alloc (.cells #[.int .i64 e.r.i, .int .i64 e.r.e, .float .f64 e.r.lo, .float .f64 e.r.hi, e.sl] 82)).cell? ((⟨w.heap.size, 0, none⟩ : Addr).add j) = some u := by
  intro j u hu
  rw [Addr.add_lit]
  match j, hu with
  | 0, hu => simp [cellsV, gcells] at hu; subst hu; simp [World.cell?_alloc_new]
  | 1, hu => simp [cellsV, gcells] at hu; subst hu; simp [World.cell?_alloc_new]
  | 2, hu => simp [cellsV, gcells] at hu; subst hu; simp [World.cell?_alloc_new]
  | 3, hu => simp [cellsV, gcells] at hu; subst hu; simp [World.cell?_alloc_new]
  | 4, hu => simp [cellsV, gcells] at hu; subst hu; simp [World.cell?_alloc_new]
  | j + 5, hu => simp [cellsV, gcells] at hu
/-- One text more at the end of an own row. -/
theorem str_add {B n : Nat} {w : World} {v : Value} {xs : List ByteArray} {s : ByteArray} (h : w.ownsRow B 9 1 v n (xs.map strC)) (hB : B ≤ w.heap.size) (hn : n ≤ 2000) :
    ∃ g cap w2, (Builtin.append_ #[24, 24] 24 #[v, .slice (some ⟨w.heap.size, 0, none⟩) 1 1]).run Try.prog (w.alloc (sobj s)).drew = .ok (.slice (some ⟨g, 0, none⟩) (n + 1) cap) w2 ∧
      w2.ownsRow B 9 1 (.slice (some ⟨g, 0, none⟩) (n + 1) cap) (n + 1) ((xs ++ [s]).map strC) ∧ Tn (fun k => v.ownBlock = some k) (w.alloc (sobj s)).drew w2 := by
  obtain ⟨i0, hi0, hz0, hz1, hz2⟩ := info_strs
  have hbl := below_sobj w s
  have hown1 := own_below h hbl
  obtain ⟨v', w2, hap, hown2, hgr, _⟩ := run_append_own (P := Try.prog) (w.alloc (sobj s)).drew B 24 24 9 i0 _ 1 16 Try.underlying24 hi0 hz0 hz1 hz2 rfl (by decide) v n (xs.map strC) hown1 ⟨w.heap.size, 0, none⟩ 1 1 [strC s] rfl (by
      intro j u hu
      match j, hu with
      | 0, hu =>
        simp at hu
        subst hu
        rw [Addr.add_lit]
        show (w.alloc (sobj s)).cell? _ = _
        simp [World.cell?_alloc_new, strC]
      | j + 1, hu => simp at hu) (by intro u hu; obtain rfl := List.mem_singleton.1 hu; rfl) (by unfold maxLen; omega) (by omega) (Nat.le_trans hB hbl.size)
  obtain ⟨g, cap, rfl⟩ := own_shape hown2 (by omega)
  exact ⟨g, cap, w2, hap, by rw [List.map_append]; exact hown2, (Tn.refl _ _).grown hgr (fun k hk _ => hk)⟩
abbrev gbox (r1 r2 : Int) (r3 r4 : Nat) (v : Value) : Obj := .cells #[.int .i64 r1, .int .i64 r2, .float .f64 r3, .float .f64 r4, v] 82 (0, 0)
section
variable {C : Nat → Prop} {w : World} {a n cap : Nat} {L : List RV} {ao : Option Addr} {l : List Str}
set_option maxRecDepth 100000 in
set_option maxHeartbeats 40000000 in
theorem rgroup_any (h : RD C w a L) (hL : L.length ≤ 12) (hk : KS w.heap.size w ao n cap l) (hp : PK l) :
    Calls Try.prog 16 #[ptr a, .slice ao n cap] w fun e w' => Below w.heap.size w w' ∧
      ((errK L (bys l) ≠ 0 ∧ e = .returned (.tuple #[.slice none 0 0, .int .i64 (errK L (bys l))])) ∨
       (errK L (bys l) = 0 ∧ ∃ go gc G, e = .returned (.tuple #[.slice go G.length gc, .int .i64 0]) ∧ w'.ownsRow w.heap.size 82 5 (.slice go G.length gc) G.length (cellsV G) ∧
          (∀ x ∈ G, w'.ownsRow w.heap.size 9 1 x.sl x.ks.length (x.ks.map strC)) ∧ G.map (fun e => (e.r, e.ks)) = groupsL L (dist (bys l)))) := by
  have hst := run_stf
  have hlt := hk.lt
  have HL := Lib.hid hk.len
  have HLb : Hid ((bys l).length = n) := Lib.hid (by unfold bys; rw [List.length_map, hk.len])
  have HK := Lib.hid hk
  have HP := Lib.hid hp
  have HD := Lib.hid h
  have HL12 := Lib.hid hL
  clear h hk hp hL
  go_enter Try.func16, Try.ntmps16
  go_wp2
  go_loopw [6] (fun vi wr => ∃ i : Nat, vi = .int .i64 i ∧ i ≤ n ∧ Hid (∀ s ∈ (bys l).take i, errS L s = 0) ∧ Hid (Below w.heap.size w wr)) (fun vi _ => n - (intOf vi).toNat)
  case atStart => exact ⟨0, rfl, Nat.zero_le _, Lib.hid (fun s hs => by simp at hs), Lib.hid (Below.refl _ _)⟩
  case round =>
    obtain ⟨i, rfl, hi, HOK, HW⟩ := hrel
    by_cases hin : i < n
    · have hin2 : (i : Int) < (n : Int) := by omega
      obtain ⟨b, off, rfl, ck⟩ := (HK.out.below HW.out).at_ hin
      have hil : i < l.length := by rw [← HL.out]; exact hin
      have hib : i < (bys l).length := by rw [HLb.out]; exact hin
      replace ck := ck.trans (congrArg (fun s : Str => some (Value.string s.1)) (getD_at9 hil _))
      have hsz := l[i].2
      have HAT := Lib.hid (errK_at hib HOK.out)
      have HTK : Hid ((bys l).take (i + 1) = (bys l).take i ++ [(bys l)[i]]) := Lib.hid (List.take_succ_eq_append_getElem hib)
      rw [bys_at hil] at HAT HTK
      generalize l[i].1 = s at *
      unfold maxLen at hsz
      have HCK := fun w => Lib.hid (rkey_any s w)
      have HRO := Lib.hid (rroute_any (HD.out.tn (Tn.of_below (S := fun _ => False) HW.out) (fun _ _ e => e)) s hsz (by have := HL12.out; omega))
      obtain ⟨⟨⟨r1, r2, r3, r4⟩, ok⟩, hro⟩ : ∃ p, routeL L s = p := ⟨_, rfl⟩
      rw [hro] at HRO
      have HRE := Lib.hid hro
      clear hro hil hib
      cases hkey : keyB s with
      | false =>
        have hes : errS L s = 10 := by unfold errS; rw [hkey]; rfl
        have HE := Lib.hid (HAT.out (by rw [hes]; decide))
        rw [hes] at HE
        simp only [hkey] at HCK
        clear hkey hes
        go_wp2_with (first
          | (go_at_call 34; refine (HCK _).out.mono ?_; rintro e w3 ⟨rfl, rfl⟩)
          | fail)
        go_ret2
        exact ⟨HW.out, .inl ⟨by rw [HE.out]; decide, by rw [HE.out]; rfl⟩⟩
      | true =>
        simp only [hkey] at HCK
        simp only at HRO
        cases ok with
        | false =>
          have hes : errS L s = 8 := by unfold errS; rw [hkey, HRE.out]; rfl
          have HE := Lib.hid (HAT.out (by rw [hes]; decide))
          rw [hes] at HE
          clear hkey hes
          go_wp2_with (first
            | (go_at_call 34; refine (HCK _).out.mono ?_; rintro e w3 ⟨rfl, rfl⟩)
            | (go_at_call 13; refine HRO.out.mono ?_; rintro e w4 ⟨rfl, hb⟩; have HW4 := Lib.hid ((HW.out.trans (hb.mono HW.out.size)).alloc (Nat.le_trans HW.out.size hb.size) (robj ⟨r1, r2, r3, r4⟩)); clear hb)
            | fail)
          go_ret2
          exact ⟨HW4.out, .inl ⟨by rw [HE.out]; decide, by rw [HE.out]; rfl⟩⟩
        | true =>
          have HES := Lib.hid (errS_zero (L := L) hkey (by rw [HRE.out]))
          have HOK2 : Hid (∀ t ∈ (bys l).take (i + 1), errS L t = 0) := Lib.hid (fun t ht => by
            rw [HTK.out] at ht
            rcases List.mem_append.1 ht with ht | ht
            · exact HOK.out t ht
            · obtain rfl := List.mem_singleton.1 ht; exact HES.out)
          clear hkey HES HAT
          go_wp2_with (first
            | (go_at_call 34; refine (HCK _).out.mono ?_; rintro e w3 ⟨rfl, rfl⟩)
            | (go_at_call 13; refine HRO.out.mono ?_; rintro e w4 ⟨rfl, hb⟩; have HW4 := Lib.hid ((HW.out.trans (hb.mono HW.out.size)).alloc (Nat.le_trans HW.out.size hb.size) (robj ⟨r1, r2, r3, r4⟩)); clear hb)
            | fail)
          go_roundw
          case rel => exact ⟨i + 1, by go_num, by omega, HOK2, HW4⟩
          case measure => simp [intOf]; omega
    · obtain rfl : i = n := by omega
      have e : (bys l).take i = bys l := List.take_of_length_le (by rw [HLb.out]; exact Nat.le_refl _)
      rw [e] at HOK
      have HE := Lib.hid (errK_none HOK.out)
      have HN2 : Hid (i ≤ 2000) := Lib.hid (HP.out.le (by rw [← HL.out]; exact Nat.le_refl _) (by rw [e]; exact HOK.out))
      clear e
      obtain ⟨N, hN⟩ : ∃ N, L.length = N := ⟨_, rfl⟩
      have HN := Lib.hid hN
      rw [hN] at HL12
      clear hN
      go_wp2
      go_loopw [9, 10] (fun vo vk wr => ∃ (k : Nat) (G : List GV) (go : Option Addr) (gc : Nat), vk = .int .i64 k ∧ k ≤ N ∧ vo = .slice go G.length gc ∧ Hid (wr.ownsRow w.heap.size 82 5 (.slice go G.length gc) G.length (cellsV G)) ∧ Hid (∀ x ∈ G, wr.ownsRow w.heap.size 9 1 x.sl x.ks.length (x.ks.map strC)) ∧ Hid (G.map (fun e => (e.r, e.ks)) = viewK L (dist (bys l)) k) ∧ Hid (Below w.heap.size w wr)) (fun _ vk _ => N - (intOf vk).toNat)
      case atStart => exact ⟨0, [], none, 0, rfl, Nat.zero_le _, rfl, World.ownsRow_nil _ _ _ _, (fun x hx => by cases hx), rfl, HW⟩
      case round =>
        obtain ⟨k, G, go, gc, rfl, hk, rfl, HO, HR, HVW, HW⟩ := hrel
        have HDr := Lib.hid (HD.out.tn (Tn.of_below (S := fun _ => False) HW.out) (fun _ _ e => e))
        obtain ⟨dv, hdt⟩ := HDr.out
        obtain ⟨lo, lc, e9⟩ := own_slice hdt.own
        subst e9
        have d0 := hdt.c0
        rw [HN.out] at d0
        by_cases hkN : k < N
        · have hkN2 : (k : Int) < (N : Int) := by omega
          have hkl : k < L.length := by rw [HN.out]; exact hkN
          obtain ⟨gl, rfl, hgl, hra⟩ := own_rat hdt.own hkl
          have HVN := Lib.hid (viewK_next (D := dist (bys l)) hkl)
          have q0 := hra.c0; have q1 := hra.c1; have q2 := hra.c2; have q3 := hra.c3
          generalize L[k] = r at *
          obtain ⟨r1, r2, r3, r4⟩ := r
          simp only at q0 q1 q2 q3
          clear hra hgl hdt
          go_upto_region 14 with fail
          clear d0
          have HBX := Lib.hid (show (wr.alloc (.cells #[.int .i64 r1, .int .i64 r2, .float .f64 r3, .float .f64 r4, .slice none 0 0] 82)).heap[wr.heap.size]? = some (gbox r1 r2 r3 r4 (.slice none 0 0)) from heap_alloc_new wr _)
          have HBB := Lib.hid (below1 wr (.cells #[.int .i64 r1, .int .i64 r2, .float .f64 r3, .float .f64 r4, .slice none 0 0] 82))
          generalize wr.alloc (.cells #[.int .i64 r1, .int .i64 r2, .float .f64 r3, .float .f64 r4, .slice none 0 0] 82) = wa at *
          obtain ⟨bk, hbk⟩ : ∃ bk, wr.heap.size = bk := ⟨_, rfl⟩
          have HBK := Lib.hid hbk
          rw [hbk] at HBX HBB ⊢
          clear hbk q0 q1 q2 q3
          generalize wr = wk at *
          go_wp2
          go_loopw [12] (fun vj wz => ∃ (j : Nat) (sl : Value), vj = .int .i64 j ∧ j ≤ i ∧ Hid (wz.heap[bk]? = some (gbox r1 r2 r3 r4 sl)) ∧ Hid (wz.ownsRow bk 9 1 sl (grp L (dist ((bys l).take j)) ⟨r1, r2, r3, r4⟩).length ((grp L (dist ((bys l).take j)) ⟨r1, r2, r3, r4⟩).map strC)) ∧ Hid (Below bk wk wz)) (fun vj _ => i - (intOf vj).toNat)
          case atStart => exact ⟨0, .slice none 0 0, rfl, Nat.zero_le _, HBX, World.ownsRow_nil _ _ _ _, HBB⟩
          case round =>
            clear HBX HBB
            obtain ⟨j, sl, rfl, hj, HBX, HOW, HBB⟩ := hrel
            have HWz := Lib.hid (HW.out.trans (HBB.out.mono (by rw [← HBK.out]; exact HW.out.size)))
            have HBW : Hid (bk < wr.heap.size) := Lib.hid (lt_of_at HBX.out)
            by_cases hji : j < i
            · have hji2 : (j : Int) < (i : Int) := by omega
              have hjl : j < l.length := by rw [← HL.out]; exact hji
              have hjb : j < (bys l).length := by rw [HLb.out]; exact hji
              have HKE : Hid (∀ wz, Below w.heap.size w wz → ∀ q, q < i → ∃ b off, ao = some ⟨b, off, none⟩ ∧ ∀ hq : q < l.length, wz.cell? ⟨b, off + q, none⟩ = some (.string l[q].1)) := Lib.hid (fun wz hb q hq => by
                obtain ⟨b, off, e, ck⟩ := (HK.out.below hb).at_ hq
                exact ⟨b, off, e, fun hk2 => ck.trans (congrArg (fun s : Str => some (Value.string s.1)) (getD_at9 hk2 _))⟩)
              obtain ⟨kb, koff, rfl, _⟩ := HKE.out _ HWz.out j hji
              have HKC : Hid (∀ wz, Below w.heap.size w wz → ∀ q (hq : q < l.length), wz.cell? ⟨kb, koff + q, none⟩ = some (.string l[q].1)) := Lib.hid (fun wz hb q hq => by
                obtain ⟨b, off, e, ck⟩ := HKE.out wz hb q (by rw [HL.out]; exact hq)
                injection e with e
                injection e with e1 e2
                subst e1 e2
                exact ck hq)
              have HQC : Hid (∀ wz, Below w.heap.size w wz → wz.cell? ⟨kb, koff + j, none⟩ = some (.string l[j].1)) := Lib.hid (fun wz hb => HKC.out wz hb j hjl)
              have hsz := l[j].2
              have HGN := Lib.hid (grp_next (L := L) hjb ⟨r1, r2, r3, r4⟩)
              rw [bys_at hjl] at HGN
              have HLE : Hid ((grp L (dist ((bys l).take j)) ⟨r1, r2, r3, r4⟩).length ≤ 2000) := Lib.hid (by
                have h1 := dist_le ((bys l).take j)
                have h2 : (grp L (dist ((bys l).take j)) ⟨r1, r2, r3, r4⟩).length ≤ (dist ((bys l).take j)).length := List.length_filter_le _ _
                rw [List.length_take] at h1
                have := HN2.out
                omega)
              generalize l[j].1 = s at *
              unfold maxLen at hsz
              have HRO := Lib.hid (rroute_any (HD.out.tn (Tn.of_below (S := fun _ => False) HWz.out) (fun _ _ e => e)) s hsz (by rw [HN.out]; have := HL12.out; omega))
              obtain ⟨⟨⟨x1, x2, x3, x4⟩, ok⟩, hro⟩ : ∃ p, routeL L s = p := ⟨_, rfl⟩
              rw [hro] at HRO HGN
              simp only at HRO HGN
              have ck := HQC.out _ HWz.out
              clear hro hjl hjb HKE
              go_upto_region 18 with (first
                | (go_at_call 13; refine HRO.out.mono ?_; rintro e w4 ⟨rfl, hb⟩; have hb5 := hb.alloc hb.size (robj ⟨x1, x2, x3, x4⟩); have HX := Lib.hid (at_new w4 ⟨x1, x2, x3, x4⟩); have HB5 := Lib.hid hb5; clear hb hb5)
                | fail)
              clear ck HRO
              dsimp only [robj] at HX HB5
              generalize w4.heap.size = bx at *
              generalize w4.alloc (.cells #[.int .i64 x1, .int .i64 x2, .float .f64 x3, .float .f64 x4] 37) = wy at *
              generalize wr = wm at *
              have HWy := Lib.hid (HWz.out.trans (HB5.out.mono HWz.out.size))
              go_wp2
              go_loopw [15, 16] (fun vt vq wq => ∃ q : Nat, vq = .int .i64 q ∧ q ≤ j ∧ vt = .bool (decide (s ∈ (bys l).take q)) ∧ Hid (Below wy.heap.size wy wq)) (fun _ vq _ => j - (intOf vq).toNat)
              case atStart => exact ⟨0, rfl, Nat.zero_le _, by simp, Below.refl _ _⟩
              case round =>
                obtain ⟨q, rfl, hq, rfl, HQ⟩ := hrel
                have HWq := Lib.hid (HWy.out.trans (HQ.out.mono HWy.out.size))
                have HQd := Lib.hid (HQ.out.trans (((Below.refl wr.heap.size wr).drew).mono HQ.out.size))
                by_cases hqj : q < j
                · have hqj2 : (q : Int) < (j : Int) := by omega
                  have hqi : (q : Int) < (i : Int) := by omega
                  have hql : q < l.length := by rw [← HL.out]; omega
                  have hqb : q < (bys l).length := by unfold bys; rw [List.length_map]; exact hql
                  have ct := HKC.out wr HWq.out q hql
                  have cs := HQC.out wr HWq.out
                  have HNX := Lib.hid (fun hn => mem_next9 hqb (s := s) hn)
                  have HMO : Hid (s ∈ (bys l).take q → s ∈ (bys l).take (q + 1)) := Lib.hid (fun h => by rw [List.take_succ_eq_append_getElem hqb]; exact List.mem_append_left _ h)
                  rw [bys_at hql] at HNX
                  generalize l[q].1 = t at *
                  clear hql hqb
                  by_cases hm : s ∈ (bys l).take q
                  · have HM2 := Lib.hid (decide_eq_true (HMO.out hm))
                    rw [decide_eq_true hm]
                    clear hm HMO HNX
                    go_upto_region 22 with fail
                    go_region
                    go_wp2_with (fail)
                    go_roundw
                    case rel => exact ⟨q + 1, by go_num, by omega, by rw [HM2.out], HQd⟩
                    case measure => simp [intOf]; omega
                  · have HM2 := Lib.hid (HNX.out hm)
                    rw [decide_eq_false hm]
                    clear hm HMO HNX
                    go_upto_region 22 with fail
                    go_region
                    go_wp2_with (fail)
                    all_goals
                      go_roundw
                      case rel => exact ⟨q + 1, by go_num, by omega, by rw [HM2.out], HQd⟩
                      case measure => simp [intOf]; omega
                · obtain rfl : q = j := by omega
                  have hqq : ¬ (q : Int) < (q : Int) := by omega
                  have HBm := Lib.hid (HB5.out.trans (HQ.out.mono HB5.out.size))
                  have HBX2 : Hid (wr.heap[bk]? = some (gbox r1 r2 r3 r4 sl)) := Lib.hid ((HBm.out.block bk HBW.out).trans HBX.out)
                  have HOW2 := Lib.hid (own_below HOW.out HBm.out)
                  have HX2 := Lib.hid (HX.out.below HQ.out HX.out.lt)
                  have HBB2 := Lib.hid (HBB.out.trans (HBm.out.mono (Nat.le_of_lt HBW.out)))
                  have hx0 := HX2.out.c0
                  have hb0 : wr.cell? ⟨bk, 0, none⟩ = some (.int .i64 r1) := by simp [World.cell?, HBX2.out]
                  simp only at hx0
                  clear HBX HOW HX HBB HKC HWz HB5
                  by_cases hx1 : x1 = r1
                  · subst hx1
                    by_cases hm : s ∈ (bys l).take q
                    · have HK2 := Lib.hid (HGN.out.trans (by rw [if_neg (fun e => e.2 hm), List.append_nil]))
                      rw [decide_eq_true hm]
                      clear hm
                      go_wp2_with (fail)
                      go_roundw
                      case rel => exact ⟨q + 1, sl, by go_num, by omega, HBX2, by rw [HK2.out]; exact HOW2, HBB2⟩
                      case measure => simp [intOf]; omega
                    · have HK2 := Lib.hid (HGN.out.trans (by rw [if_pos ⟨rfl, hm⟩]))
                      rw [decide_eq_false hm]
                      clear hm
                      generalize grp L (dist ((bys l).take q)) ⟨x1, r2, r3, r4⟩ = KJ at *
                      obtain ⟨g2, c2, w2, hap, ho2, ht2⟩ := str_add (s := s) HOW2.out (Nat.le_of_lt (lt_of_at HBX2.out)) HLE.out
                      have HO2 := Lib.hid ho2
                      have HT2 := Lib.hid ht2
                      have hne := own_ne HOW2.out HBX2.out (by decide)
                      have HX3 : Hid (w2.heap[bk]? = some (gbox x1 r2 r3 r4 sl)) := Lib.hid (ht2.at_ (((below_sobj wr s).block bk (lt_of_at HBX2.out)).trans HBX2.out) (fun e => hne bk e rfl))
                      have a4 : wr.cell? ⟨bk, 4, none⟩ = some sl := by simp [World.cell?, HBX2.out]
                      have b4 : (wr.alloc (sobj s)).cell? ⟨bk, 4, none⟩ = some sl := by
                        have e := ((below_sobj wr s).block bk (lt_of_at HBX2.out)).trans HBX2.out
                        have e2 : (wr.alloc (sobj s)).heap[bk]? = some (gbox x1 r2 r3 r4 sl) := e
                        simp only [World.cell?, e2]; rfl
                      have d4 : w2.cell? ⟨bk, 4, none⟩ = some sl := by simp [World.cell?, HX3.out]
                      have f4 : w2.frozen? ⟨bk, 4, none⟩ = false := by simp [World.frozen?, HX3.out]
                      have HW2 : Hid (Below w.heap.size w w2) := Lib.hid (HWq.out.trans (((below_sobj wr s).mono HWq.out.size).trans (ht2.below (B := w.heap.size) (Nat.le_trans HWq.out.size (below_sobj wr s).size) (fun k hk => by have := (HOW2.out.lt k hk).1; have := HW.out.size; have := HBK.out; omega))))
                      have HB2 : Hid (Below bk wk w2) := Lib.hid (HBB2.out.trans (((below_sobj wr s).mono (Nat.le_of_lt (lt_of_at HBX2.out))).trans (ht2.below (B := bk) (Nat.le_trans (Nat.le_of_lt (lt_of_at HBX2.out)) (below_sobj wr s).size) (fun k hk => (HOW2.out.lt k hk).1))))
                      have HHS := Lib.hid (heap_set (o := 4) HX3.out (.slice (some ⟨g2, 0, none⟩) (KJ.length + 1) c2) (cs' := #[.int .i64 x1, .int .i64 r2, .float .f64 r3, .float .f64 r4, .slice (some ⟨g2, 0, none⟩) (KJ.length + 1) c2]) rfl)
                      have hne2 := own_ne HO2.out HX3.out (by decide)
                      have HO3 := Lib.hid (own_tn HO2.out (tn_set (Tn.refl (· = bk) w2) (i := 4) (.slice (some ⟨g2, 0, none⟩) (KJ.length + 1) c2)) (fun k hk e => hne2 k hk e))
                      have hbw : w.heap.size ≤ bk := by have := HW.out.size; have := HBK.out; omega
                      have HB3 : Hid (Below bk wk (w2.setCell ⟨bk, 4, none⟩ (.slice (some ⟨g2, 0, none⟩) (KJ.length + 1) c2))) := Lib.hid (HB2.out.setCell (Nat.le_refl _) _)
                      have HQC0 := HQC.out wr HWq.out
                      have HQC1 : (wr.alloc (sobj s)).drew.cell? ⟨kb, koff + q, none⟩ = some (.string s) := HQC.out _ (HWq.out.trans ((below_sobj wr s).mono HWq.out.size))
                      have HQC2 := HQC.out w2 HW2.out
                      have HQC3 := HQC.out _ (HW2.out.setCell (p := ⟨bk, 4, none⟩) hbw (.slice (some ⟨g2, 0, none⟩) (KJ.length + 1) c2))
                      dsimp only [sobj] at hap b4 HQC1
                      clear ho2 ht2 hne hne2
                      go_upto_region 24 with fail
                      refine wp_region_held (S := (fun w' : World => w'.cell? ⟨kb, koff + q, none⟩ = some (.string s))) (by kernel_rfl) ?_
                      change wpAnyH _ _ _ _ _ _ _ _ (World.drew _)
                      refine wpAnyH_take (i := 0) (v := ?vk_0) rfl (by kernel_rfl) (by kernel_rfl) (by kernel_rfl) (fun _ _ _ h => h) (Or.inl ⟨by rfl, ?yk_0⟩) HQC0 ?rk_0
                      case yk_0 => (intro W hSw; (try dsimp only at hSw); first | (go_simp; done) | (go_simp; with_reducible rfl))
                      try go_simp
                      refine wpAnyH_take (i := 2) (v := ?vk_2) rfl (by kernel_rfl) (by kernel_rfl) (by kernel_rfl) (fun _ _ _ h => h) (Or.inl ⟨by rfl, ?yk_2⟩) HQC0 ?rk_2
                      case yk_2 => (intro W hSw; (try dsimp only at hSw); first | (go_simp; done) | (go_simp; with_reducible rfl))
                      try go_simp
                      refine wpAnyH_take (i := 3) (v := ?vk_3) rfl (by kernel_rfl) (by kernel_rfl) (by kernel_rfl) (fun _ _ _ h => h) (Or.inl ⟨by rfl, ?yk_3⟩) HQC0 ?rk_3
                      case yk_3 => (intro W hSw; (try dsimp only at hSw); first | (go_simp; done) | (go_simp; with_reducible rfl))
                      try go_simp
                      refine wpAnyH_take (i := 4) (v := ?vk_4) rfl (by kernel_rfl) (by kernel_rfl) (by kernel_rfl) (fun _ _ _ h => h) (Or.inl ⟨by rfl, ?yk_4⟩) HQC0 ?rk_4
                      case yk_4 => (intro W hSw; (try dsimp only at hSw); first | (go_simp; done) | (go_simp; with_reducible rfl))
                      try go_simp
                      refine wpAnyH_take (i := 5) (v := ?vk_5) rfl (by kernel_rfl) (by kernel_rfl) (by kernel_rfl) (fun _ _ _ h => h) (Or.inl ⟨by rfl, ?yk_5⟩) HQC0 ?rk_5
                      case yk_5 => (intro W hSw; (try dsimp only at hSw); first | (go_simp; done) | (go_simp; with_reducible rfl))
                      try go_simp
                      refine wpAnyH_ready (rs := [1, 6]) (by kernel_rfl) (by simp) ?_
                      refine AllReadyH.cons rfl (fun K hK => ?_) (AllReadyH.cons rfl (fun K hK => ?_) AllReadyH.nil)
                      · go_simp
                        refine hK.out _ _ HQC0 (fun _ => ?_)
                        clear hK K
                        try go_simp
                        refine wpAnyH_ready (rs := [6]) (by kernel_rfl) (by simp) ?_
                        refine AllReadyH.cons rfl (fun K hK => ?_) AllReadyH.nil
                        go_simp
                        refine hK.out _ _ HQC1 (fun _ => ?_)
                        clear hK K
                        try go_simp
                        refine wpAnyH_ready (rs := [7]) (by kernel_rfl) (by simp) ?_
                        refine AllReadyH.cons rfl (fun K hK => ?_) AllReadyH.nil
                        refine oper_append_run rfl (.tmp 100) (.tmp 105) rfl rfl rfl hap ?_
                        refine hK.out _ _ HQC2 (fun _ => ?_)
                        clear hK K
                        try go_simp
                        refine wpAnyH_take (i := 8) (v := ?vkpm_8) rfl (by kernel_rfl) (by kernel_rfl) (by kernel_rfl) (fun _ _ _ h => h) (Or.inl ⟨by rfl, ?ykpm_8⟩) HQC2 ?rkpm_8
                        case ykpm_8 => (intro W hSw; (try dsimp only at hSw); first | (go_simp; done) | (go_simp; with_reducible rfl))
                        try go_simp
                        refine wpAnyH_ready (rs := [9]) (by kernel_rfl) (by simp) ?_
                        refine AllReadyH.cons rfl (fun K hK => ?_) AllReadyH.nil
                        go_simp
                        refine hK.out _ _ HQC3 (fun _ => ?_)
                        clear hK K
                        try go_simp
                        refine wpAnyH_done (by kernel_rfl) ?_ _
                        go_wp2_with (fail)
                        go_roundw
                        case rel => exact ⟨q + 1, _, by go_num, by omega, HHS, by rw [HK2.out, List.length_append]; exact HO3, HB3⟩
                        case measure => simp [intOf]; omega
                      · go_simp
                        refine hK.out _ _ HQC1 (fun _ => ?_)
                        clear hK K
                        try go_simp
                        refine wpAnyH_ready (rs := [1]) (by kernel_rfl) (by simp) ?_
                        refine AllReadyH.cons rfl (fun K hK => ?_) AllReadyH.nil
                        go_simp
                        refine hK.out _ _ HQC1 (fun _ => ?_)
                        clear hK K
                        try go_simp
                        refine wpAnyH_ready (rs := [7]) (by kernel_rfl) (by simp) ?_
                        refine AllReadyH.cons rfl (fun K hK => ?_) AllReadyH.nil
                        refine oper_append_run rfl (.tmp 100) (.tmp 105) rfl rfl rfl hap ?_
                        refine hK.out _ _ HQC2 (fun _ => ?_)
                        clear hK K
                        try go_simp
                        refine wpAnyH_take (i := 8) (v := ?vkqm_8) rfl (by kernel_rfl) (by kernel_rfl) (by kernel_rfl) (fun _ _ _ h => h) (Or.inl ⟨by rfl, ?ykqm_8⟩) HQC2 ?rkqm_8
                        case ykqm_8 => (intro W hSw; (try dsimp only at hSw); first | (go_simp; done) | (go_simp; with_reducible rfl))
                        try go_simp
                        refine wpAnyH_ready (rs := [9]) (by kernel_rfl) (by simp) ?_
                        refine AllReadyH.cons rfl (fun K hK => ?_) AllReadyH.nil
                        go_simp
                        refine hK.out _ _ HQC3 (fun _ => ?_)
                        clear hK K
                        try go_simp
                        refine wpAnyH_done (by kernel_rfl) ?_ _
                        go_wp2_with (fail)
                        go_roundw
                        case rel => exact ⟨q + 1, _, by go_num, by omega, HHS, by rw [HK2.out, List.length_append]; exact HO3, HB3⟩
                        case measure => simp [intOf]; omega
                  · have HK2 := Lib.hid (HGN.out.trans (by rw [if_neg (fun e => hx1 e.1), List.append_nil]))
                    have hx3 : (x1 == r1) = false := by simpa using hx1
                    clear hx1
                    go_wp2_with (fail)
                    go_roundw
                    case rel => exact ⟨q + 1, sl, by go_num, by omega, HBX2, by rw [HK2.out]; exact HOW2, HBB2⟩
                    case measure => simp [intOf]; omega
            · obtain rfl : j = i := by omega
              have hjj : ¬ (j : Int) < (j : Int) := by omega
              have hall : (bys l).take j = bys l := List.take_of_length_le (by rw [HLb.out]; exact Nat.le_refl _)
              rw [hall] at HOW
              clear hall
              have HO2 := Lib.hid (own_below HO.out (HBB.out.mono (Nat.le_of_eq HBK.out)))
              have HR2 : Hid (∀ x ∈ G, wr.ownsRow w.heap.size 9 1 x.sl x.ks.length (x.ks.map strC)) := Lib.hid (fun x hx => own_below (HR.out x hx) (HBB.out.mono (Nat.le_of_eq HBK.out)))
              have hN12 := HL12.out
              have HGL : Hid (G.length ≤ 12) := Lib.hid (by
                have h1 := congrArg List.length HVW.out
                rw [List.length_map] at h1
                have h2 : (viewK L (dist (bys l)) k).length ≤ k := by
                  unfold viewK
                  refine Nat.le_trans (List.length_filter_le _ _) ?_
                  rw [List.length_map, List.length_take]
                  omega
                have := HL12.out
                omega)
              generalize grp L (dist (bys l)) ⟨r1, r2, r3, r4⟩ = KK at *
              by_cases hK : KK = []
              · subst hK
                have HV2 := Lib.hid (HVN.out.trans (by rw [if_pos rfl, List.append_nil]))
                obtain ⟨so, sc, rfl⟩ := own_slice HOW.out
                have a4 : wr.cell? ⟨bk, 4, none⟩ = some (.slice so 0 sc) := by simp [World.cell?, HBX.out]
                go_wp2_with (fail)
                go_roundw
                case rel => exact ⟨k + 1, G, go, gc, by go_num, by omega, rfl, HO2, HR2, Lib.hid (by rw [HV2.out]; exact HVW.out), HWz⟩
                case measure => simp [intOf]; omega
              · have HV2 := Lib.hid (HVN.out.trans (by rw [if_neg hK]))
                have hpos : 0 < KK.length := List.length_pos_iff.2 hK
                obtain ⟨sg, sc, rfl⟩ := own_shape HOW.out hpos
                have a0 : wr.cell? ⟨bk, 0, none⟩ = some (.int .i64 r1) := by simp [World.cell?, HBX.out]
                have a1 : wr.cell? ⟨bk, 1, none⟩ = some (.int .i64 r2) := by simp [World.cell?, HBX.out]
                have a2 : wr.cell? ⟨bk, 2, none⟩ = some (.float .f64 r3) := by simp [World.cell?, HBX.out]
                have a3 : wr.cell? ⟨bk, 3, none⟩ = some (.float .f64 r4) := by simp [World.cell?, HBX.out]
                have a4 : wr.cell? ⟨bk, 4, none⟩ = some (.slice (some ⟨sg, 0, none⟩) KK.length sc) := by simp [World.cell?, HBX.out]
                have hK2 : decide ((0 : Int) < (KK.length : Int)) = true := by simp; omega
                obtain ⟨i0, hi0, hz0, hz1, hz2⟩ := info82s
                have HNW := Lib.hid (news_g82 wr ⟨⟨r1, r2, r3, r4⟩, KK, sg, sc⟩)
                have HCO := Lib.hid (cellsV_one ⟨⟨r1, r2, r3, r4⟩, KK, sg, sc⟩)
                dsimp only [GV.sl] at HNW
                have hgl := HGL.out
                have hws := HWz.out.size
                clear hK
                obtain ⟨KL, hKL⟩ : ∃ KL, KK.length = KL := ⟨_, rfl⟩
                have HKL := Lib.hid hKL
                rw [hKL] at a4 hpos hK2 HNW
                clear hKL
                go_wp2_with (first
                  | (at_builtin; refine wpList_append_own _ rfl (.tmp 112) (.tmp 114) 44 rfl w.heap.size 82 i0 _ 5 56 Try.underlying44 hi0 hz0 hz1 hz2 rfl (by decide) _ G.length _ rfl (HO2.out.alloc _) ⟨wr.heap.size, 0, none⟩ 1 1 (cellsV [⟨⟨r1, r2, r3, r4⟩, KK, sg, sc⟩]) rfl rfl HNW.out HCO.out (by unfold maxLen; omega) (by omega) (by simp; omega) ?_; intro v2 w2 hown hg _; have HO3 := Lib.hid hown; have HG3 := Lib.hid hg; clear hown hg)
                  | fail)
                obtain ⟨go2, gc2, e2⟩ := own_slice HO3.out
                subst e2
                have HT3 : Hid (Tn (fun b => (Value.slice go G.length gc).ownBlock = some b) wr w2) := Lib.hid (((Tn.refl _ wr).alloc _).grown HG3.out (fun k hk _ => hk))
                have HOX : Hid (w2.ownsRow w.heap.size 82 5 (.slice go2 (G ++ [(⟨⟨r1, r2, r3, r4⟩, KK, sg, sc⟩ : GV)]).length gc2) (G ++ [(⟨⟨r1, r2, r3, r4⟩, KK, sg, sc⟩ : GV)]).length (cellsV (G ++ [⟨⟨r1, r2, r3, r4⟩, KK, sg, sc⟩]))) := Lib.hid (by rw [List.length_append, cellsV_snoc]; exact HO3.out)
                have HRX : Hid (∀ x ∈ G ++ [(⟨⟨r1, r2, r3, r4⟩, KK, sg, sc⟩ : GV)], w2.ownsRow w.heap.size 9 1 x.sl x.ks.length (x.ks.map strC)) := Lib.hid (fun x hx => by
                  rcases List.mem_append.1 hx with hx | hx
                  · exact own_tn (HR2.out x hx) HT3.out (own_apart (HR2.out x hx) HO2.out (by decide))
                  · obtain rfl := List.mem_singleton.1 hx
                    exact own_mono (own_tn HOW.out HT3.out (own_apart HOW.out HO2.out (by decide))) (by rw [← HBK.out]; exact HW.out.size))
                have HVX : Hid ((G ++ [(⟨⟨r1, r2, r3, r4⟩, KK, sg, sc⟩ : GV)]).map (fun e => (e.r, e.ks)) = viewK L (dist (bys l)) (k + 1)) := Lib.hid (by rw [List.map_append, HVW.out, HV2.out]; rfl)
                have HW2 : Hid (Below w.heap.size w w2) := Lib.hid ((HWz.out.alloc hws _).grown HG3.out (by simp; omega) (fun k hk => (HO2.out.lt k hk).1))
                go_roundw
                case rel => exact ⟨k + 1, _, go2, gc2, by go_num, by omega, by rw [List.length_append]; rfl, HOX, HRX, HVX, HW2⟩
                case measure => simp [intOf]; omega
        · obtain rfl : k = N := by omega
          have hkk : ¬ (k : Int) < (k : Int) := by omega
          have hv := HVW.out
          rw [← HN.out, viewK_all] at hv
          have HV9 := Lib.hid hv
          clear hv
          go_wp2
          go_ret2
          exact ⟨HW.out, .inr ⟨HE.out, go, gc, G, rfl, HO.out, HR.out, HV9.out⟩⟩
end
end Go.Proofs.Ytfcdajkgopcmpaa
