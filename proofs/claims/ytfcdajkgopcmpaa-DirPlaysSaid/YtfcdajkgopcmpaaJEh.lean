/- raceref.Texts, racelaw14.groups of groups that are alike; rows of rows of ranges; both directories beside each other. Conditions: none. racelaw14.DirPlays' walk. Conditions: none of its own. -/
import Derived.Test.YtfcdajkgopcmpaaJEg
import Derived.Test.YtfcdajkgopcmpaaJSm
import Derived.Test.YtfcdajkgopcmpaaJDq
import Derived.RegionTactic
import Derived.Deep.RegionHeld
namespace Go.Proofs.Ytfcdajkgopcmpaa
open Go.ChangeShapes Go.WideShapes Go.ChangeAt Go.RowKit Go.Deep
set_option maxRecDepth 100000 in
theorem texts_alike {w : World} {n g1 c1 g2 c2 : Nat} {ks : List ByteArray} (hn : ks.length = n) (h63 : n ≤ 2000) (h1 : ∀ j (hj : j < ks.length), w.cell? ⟨g1, j, none⟩ = some (.string ks[j])) (h2 : ∀ j (hj : j < ks.length), w.cell? ⟨g2, j, none⟩ = some (.string ks[j])) :
    Calls Try.prog 37 #[.slice (some ⟨g1, 0, none⟩) n c1, .slice (some ⟨g2, 0, none⟩) n c2] w fun e w' => e = .returned (.bool true) ∧ Below w.heap.size w w' := by
  have H1 := Lib.hid h1
  have H2 := Lib.hid h2
  have HN := Lib.hid hn
  clear h1 h2 hn
  go_enter Try.func37, Try.ntmps37
  go_wp2
  go_loopw [5] (fun vi wr => ∃ i : Nat, vi = .int .i64 i ∧ i ≤ n ∧ Hid (Below w.heap.size w wr)) (fun vi _ => n - (intOf vi).toNat)
  case atStart => exact ⟨0, rfl, Nat.zero_le _, Below.refl _ _⟩
  case round =>
    obtain ⟨i, rfl, hi, HW⟩ := hrel
    by_cases hin : i < n
    · have hin2 : (i : Int) < (n : Int) := by omega
      have hil : i < ks.length := by rw [HN.out]; exact hin
      have c1 := H1.out i hil
      have c2 := H2.out i hil
      have a1 := (HW.out.cell (World.block_lt_of_cell? _ _ c1)).trans c1
      have a2 := (HW.out.cell (World.block_lt_of_cell? _ _ c2)).trans c2
      generalize ks[i] = s at *
      have hss : (s.toList == s.toList) = true := beq_self_eq_true _
      have hss2 : (s.toList != s.toList) = false := by simp [bne]
      have HWd := Lib.hid (HW.out.drew)
      clear c1 c2
      go_upto_region 6 with fail
      go_region
      go_wp2_with (fail)
      go_roundw
      case rel => exact ⟨i + 1, by go_num, by omega, HWd⟩
      case measure => simp [intOf]; omega
    · obtain rfl : i = n := by omega
      have hii : ¬ (i : Int) < (i : Int) := by omega
      go_wp2
      go_ret
      exact ⟨rfl, HW.out⟩
theorem own_groupT {w : World} {base n gc : Nat} {T : TypeId} {go : Option Addr} {G : List GV} (h : w.ownsRow base T 5 (.slice go n gc) n (cellsV G)) {i : Nat} (hi : i < G.length) (hn : G.length = n) : ∃ g, go = some ⟨g, 0, none⟩ ∧ g < w.heap.size ∧ Gc w g (i * 5) G[i] := by
  obtain ⟨g, c, e⟩ := own_shape h (by omega)
  injection e with e1 _ _
  subst e1
  have c := fun j u hu => h.cells (g := g) rfl (i * 5 + j) u (cellsV_get G i hi j u hu)
  have c0 := c 0 _ rfl; have c1 := c 1 _ rfl; have c2 := c 2 _ rfl; have c3 := c 3 _ rfl; have c4 := c 4 _ rfl
  rw [Addr.add_lit, Nat.zero_add] at c0 c1 c2 c3 c4
  exact ⟨g, rfl, (h.lt g rfl).2, c0, c1, c2, c3, c4⟩
set_option maxRecDepth 100000 in
set_option maxHeartbeats 40000000 in
theorem groups_alike {w : World} {B1 B2 n c1 c2 : Nat} {g1 g2 : Option Addr} {G1 G2 : List GV} (h1 : w.ownsRow B1 52 5 (.slice g1 n c1) n (cellsV G1)) (h2 : w.ownsRow B2 82 5 (.slice g2 n c2) n (cellsV G2)) (hn1 : G1.length = n) (hn2 : G2.length = n) (h12 : n ≤ 12)
    (hr1 : ∀ x ∈ G1, w.ownsRow B1 9 1 x.sl x.ks.length (x.ks.map strC)) (hr2 : ∀ x ∈ G2, w.ownsRow B2 9 1 x.sl x.ks.length (x.ks.map strC)) (hv : G1.map (fun e => (e.r, e.ks)) = G2.map (fun e => (e.r, e.ks))) (hs : ∀ x ∈ G1, x.ks.length ≤ 2000) :
    Calls Try.prog 17 #[.slice g1 n c1, .slice g2 n c2] w fun e w' => e = .returned (.bool true) ∧ Below w.heap.size w w' := by
  have hst := run_stf
  have H1 := Lib.hid h1
  have H2 := Lib.hid h2
  have HR1 := Lib.hid hr1
  have HR2 := Lib.hid hr2
  have HV := Lib.hid hv
  have HS := Lib.hid hs
  have HN1 := Lib.hid hn1
  have HN2 := Lib.hid hn2
  clear h1 h2 hr1 hr2 hv hs hn1 hn2
  go_enter Try.func17, Try.ntmps17
  go_wp2
  go_loopw [5] (fun vi wr => ∃ i : Nat, vi = .int .i64 i ∧ i ≤ n ∧ Hid (Below w.heap.size w wr)) (fun vi _ => n - (intOf vi).toNat)
  case atStart => exact ⟨0, rfl, Nat.zero_le _, Below.refl _ _⟩
  case round =>
    obtain ⟨i, rfl, hi, HW⟩ := hrel
    by_cases hin : i < n
    · have hin2 : (i : Int) < (n : Int) := by omega
      have hi1 : i < G1.length := by rw [HN1.out]; exact hin
      have hi2 : i < G2.length := by rw [HN2.out]; exact hin
      obtain ⟨a1, rfl, ha1, hg1⟩ := own_groupT H1.out hi1 HN1.out
      obtain ⟨a2, rfl, ha2, hg2⟩ := own_groupT H2.out hi2 HN2.out
      have hv : (G1[i].r, G1[i].ks) = (G2[i].r, G2[i].ks) := by
        have e1 : (G1.map (fun e => (e.r, e.ks)))[i]? = some (G1[i].r, G1[i].ks) := by simp [hi1]
        have e2 : (G2.map (fun e => (e.r, e.ks)))[i]? = some (G2[i].r, G2[i].ks) := by simp [hi2]
        rw [HV.out, e2] at e1
        exact (Option.some.inj e1).symm
      have HK1 := Lib.hid (HR1.out _ (List.getElem_mem hi1))
      have HK2 := Lib.hid (HR2.out _ (List.getElem_mem hi2))
      have HSZ := Lib.hid (HS.out _ (List.getElem_mem hi1))
      generalize G1[i] = x at *
      generalize G2[i] = y at *
      obtain ⟨⟨x1, x2, x3, x4⟩, xk, xg, xc⟩ := x
      obtain ⟨yr, yk, yg, yc⟩ := y
      simp only [Prod.mk.injEq] at hv
      obtain ⟨rfl, rfl⟩ := hv
      have HG1 : Hid (∀ wz, Below w.heap.size w wz → Gc wz a1 (i * 5) ⟨⟨x1, x2, x3, x4⟩, xk, xg, xc⟩) := Lib.hid (fun wz hb => ⟨(hb.cell (p := ⟨a1, _, none⟩) ha1).trans hg1.c0, (hb.cell (p := ⟨a1, _, none⟩) ha1).trans hg1.c1, (hb.cell (p := ⟨a1, _, none⟩) ha1).trans hg1.c2, (hb.cell (p := ⟨a1, _, none⟩) ha1).trans hg1.c3, (hb.cell (p := ⟨a1, _, none⟩) ha1).trans hg1.c4⟩)
      have HG2 : Hid (∀ wz, Below w.heap.size w wz → Gc wz a2 (i * 5) ⟨⟨x1, x2, x3, x4⟩, xk, yg, yc⟩) := Lib.hid (fun wz hb => ⟨(hb.cell (p := ⟨a2, _, none⟩) ha2).trans hg2.c0, (hb.cell (p := ⟨a2, _, none⟩) ha2).trans hg2.c1, (hb.cell (p := ⟨a2, _, none⟩) ha2).trans hg2.c2, (hb.cell (p := ⟨a2, _, none⟩) ha2).trans hg2.c3, (hb.cell (p := ⟨a2, _, none⟩) ha2).trans hg2.c4⟩)
      have HTX : Hid (∀ wz, Below w.heap.size w wz → Calls Try.prog 37 #[.slice (some ⟨xg, 0, none⟩) xk.length xc, .slice (some ⟨yg, 0, none⟩) xk.length yc] wz fun e w' => e = .returned (.bool true) ∧ Below wz.heap.size wz w') := Lib.hid (fun wz hb => texts_alike rfl HSZ.out
        (fun j hj => own_key (e := ⟨⟨x1, x2, x3, x4⟩, xk, xg, xc⟩) (own_below HK1.out hb) hj) (fun j hj => own_key (e := ⟨⟨x1, x2, x3, x4⟩, xk, yg, yc⟩) (own_below HK2.out hb) hj))
      clear hg1 hg2 hi1 hi2
      have HWz := Lib.hid (HW.out.drew)
      go_upto_region 6 with fail
      go_region_held (fun w' => w'.cell? ⟨a1, i * 5, none⟩ = some (.int .i64 x1) ∧ w'.cell? ⟨a1, i * 5 + 1, none⟩ = some (.int .i64 x2) ∧ w'.cell? ⟨a1, i * 5 + 2, none⟩ = some (.float .f64 x3) ∧ w'.cell? ⟨a1, i * 5 + 3, none⟩ = some (.float .f64 x4) ∧ w'.cell? ⟨a1, i * 5 + 4, none⟩ = some (.slice (some ⟨xg, 0, none⟩) xk.length xc) ∧ w'.cell? ⟨a2, i * 5, none⟩ = some (.int .i64 x1) ∧ w'.cell? ⟨a2, i * 5 + 1, none⟩ = some (.int .i64 x2) ∧ w'.cell? ⟨a2, i * 5 + 2, none⟩ = some (.float .f64 x3) ∧ w'.cell? ⟨a2, i * 5 + 3, none⟩ = some (.float .f64 x4) ∧ w'.cell? ⟨a2, i * 5 + 4, none⟩ = some (.slice (some ⟨yg, 0, none⟩) xk.length yc))
        (exact ⟨(HG1.out _ HWz.out).c0, (HG1.out _ HWz.out).c1, (HG1.out _ HWz.out).c2, (HG1.out _ HWz.out).c3, (HG1.out _ HWz.out).c4, (HG2.out _ HWz.out).c0, (HG2.out _ HWz.out).c1, (HG2.out _ HWz.out).c2, (HG2.out _ HWz.out).c3, (HG2.out _ HWz.out).c4⟩)
        ((first
          | (go_at_call 14; refine (range_same ⟨x1, x2, x3, x4⟩ _).mono ?_; rintro e w11 ⟨rfl, hb⟩; have HWz := Lib.hid (HWz.out.trans (hb.mono HWz.out.size)); clear hb)
          | (go_at_call 37; refine (HTX.out _ HWz.out).mono ?_; rintro e w12 ⟨rfl, hb⟩; have HWz := Lib.hid (HWz.out.trans (hb.mono HWz.out.size)); clear hb)))
      go_wp2_with (fail)
      go_roundw
      case rel => exact ⟨i + 1, by go_num, by omega, HWz⟩
      case measure => simp [intOf]; omega
    · obtain rfl : i = n := by omega
      have hii : ¬ (i : Int) < (i : Int) := by omega
      go_wp2
      go_ret
      exact ⟨rfl, HW.out⟩
end Go.Proofs.Ytfcdajkgopcmpaa
namespace Go.Proofs.Ytfcdajkgopcmpaa
open Go.ChangeShapes Go.WideShapes Go.ChangeAt Go.RowKit Go.Deep
def RowsT (w : World) : Type := { p : Value × List RV // HasR (fun k => k < w.heap.size) w p.1 p.2 ∧ ∀ r ∈ p.2, r.wf }
def rowV {w : World} (a : RowsT w) : Value := a.1.1
def rowZ (w : World) : RowsT w := ⟨(.slice none 0 0, []), ⟨none, 0, rfl, Nat.le_refl _, Nat.zero_le _, fun _ => ⟨rfl, rfl⟩, .inl rfl⟩, fun r h => by cases h⟩
theorem open_rows {H : Type} {enc : TypeId × Value → H} {w : World} {base : Nat} {held : Bool} {fuel : Nat} {v : Value} {x : DataW H × List MemPlace} (h : DataW.trod enc Try.prog w base (fun _ => true) held fuel 23 [v] = some x) :
    ∃ ao cap l, v = .slice ao l.length cap ∧ XB (rowV (w := w)) (rowZ w) w.heap.size w ao l.length cap l := by
  refine open_xb rowV _ 23 22 (by kernel_rfl) (by kernel_rfl) (fun n v y hy => ?_) h
  obtain ⟨l, h1, h2, _⟩ := open_ranges hy
  exact ⟨⟨(v, l), h1, h2⟩, rfl⟩
/-- Both directories, apart from each other. -/
structure DX (B : Nat) (w0 w : World) (a b : Nat) (La Lb : List RV) (C1 C2 : Nat → Prop) : Prop where
  ha : DKm C1 w a La
  hx : RD C2 w b Lb
  dis : ∀ k, C1 k → ¬ C2 k
  b1 : ∀ k, C1 k → B ≤ k
  b2 : ∀ k, C2 k → B ≤ k
  lo : Below B w0 w
  bw : B ≤ w.heap.size
section
variable {B a b : Nat} {w0 w w' : World} {La Lb L' : List RV} {C1 C2 C' : Nat → Prop}
theorem DX.below (h : DX B w0 w a b La Lb C1 C2) (hb : Below w.heap.size w w') : DX B w0 w' a b La Lb C1 C2 :=
  ⟨h.ha.below hb, h.hx.below hb, h.dis, h.b1, h.b2, h.lo.trans (hb.mono h.bw), Nat.le_trans h.bw hb.size⟩
theorem DX.stepa (h : DX B w0 w a b La Lb C1 C2) (hk : DKm C' w' a L') (hw : Way C1 w C' w') : DX B w0 w' a b L' Lb C' C2 := by
  refine ⟨hk, h.hx.tn hw.tn (fun k h2 h1 => h.dis k h1 h2), fun k h1 h2 => ?_, fun k h1 => ?_, h.b2, h.lo.trans (hw.tn.below h.bw h.b1), Nat.le_trans h.bw hw.tn.size⟩
  · rcases hw.new k h1 with h3 | h3
    · exact h.dis k h3 h2
    · have := h.hx.lt k h2; omega
  · rcases hw.new k h1 with h3 | h3
    · exact h.b1 k h3
    · have := h.bw; omega
theorem DX.stepb (h : DX B w0 w a b La Lb C1 C2) (hk : RD C' w' b L') (hw : Way C2 w C' w') : DX B w0 w' a b La L' C1 C' := by
  refine ⟨h.ha.tn hw.tn (fun k h1 h2 => h.dis k h1 h2), hk, fun k h1 h2 => ?_, h.b1, fun k h2 => ?_, h.lo.trans (hw.tn.below h.bw h.b2), Nat.le_trans h.bw hw.tn.size⟩
  · rcases hw.new k h2 with h3 | h3
    · exact h.dis k h1 h3
    · have := h.ha.lt k h1; omega
  · rcases hw.new k h2 with h3 | h3
    · exact h.b2 k h3
    · have := h.bw; omega
end
theorem XB.up9 {α : Type} {f : α → Value} {d : α} {B B' : Nat} {w : World} {ao : Option Addr} {n cap : Nat} {l : List α} (h : XB f d B w ao n cap l) (hB : B ≤ B') : XB f d B' w ao n cap l := by
  refine ⟨h.len, h.le, h.max, ?_⟩
  rcases h.cells with h0 | ⟨b, off, h1, h2, h3⟩
  · exact .inl h0
  · exact .inr ⟨b, off, h1, Nat.lt_of_lt_of_le h2 hB, h3⟩
def gview (L : List RV) (ks : List ByteArray) : List (RV × List ByteArray) := if errK L ks = 0 then groupsL L (dist ks) else []
section
variable {C : Nat → Prop} {w : World} {a n cap : Nat} {L : List RV} {ao : Option Addr} {l : List Str}
theorem gview_len {L : List RV} (hm : ∀ q ∈ L, mayV q = true) (hL : Rise L) (ks : List ByteArray) : (gview L ks).length ≤ 12 := by
  unfold gview
  split
  · unfold groupsL
    refine Nat.le_trans (List.length_filter_le _ _) ?_
    rw [List.length_map]
    exact may_len hL hm
  · exact Nat.zero_le _
theorem PK.sum {l : List Str} (hp : PK l) {L : List RV} (h : errK L (bys l) = 0) : (dist (bys l)).length ≤ 2000 := by
  have h1 := dist_le (bys l)
  have h3 : (bys l).length = l.length := by unfold bys; rw [List.length_map]
  have h2 := hp l.length (Nat.le_refl _) (fun t ht => (errS_ok (err_route.2 (err_all.1 h t.1 (List.mem_map.2 ⟨t, List.mem_of_mem_take ht, rfl⟩)))).1)
  rw [h3] at h1
  exact Nat.le_trans h1 h2
theorem dgroup_u (h : DKm C w a L) (hk : KS w.heap.size w ao n cap l) (hp : PK l) :
    Calls Try.prog 15 #[ptr a, .slice ao n cap] w fun e w' => ∃ go gc G, e = .returned (.tuple #[.slice go G.length gc, .int .i64 (errK L (bys l))]) ∧ w'.ownsRow w.heap.size 52 5 (.slice go G.length gc) G.length (cellsV G) ∧
          (∀ x ∈ G, w'.ownsRow w.heap.size 9 1 x.sl x.ks.length (x.ks.map strC)) ∧ G.map (fun e => (e.r, e.ks)) = gview L (bys l) ∧ (∀ x ∈ G, x.ks.length ≤ 2000) ∧ Below w.heap.size w w' :=
  (dgroup_any h hk hp).mono fun e w' ⟨hb, hor⟩ => by
    rcases hor with ⟨h0, rfl⟩ | ⟨h0, go, gc, G, rfl, ho, hr, hg⟩
    · exact ⟨none, 0, [], rfl, World.ownsRow_nil _ _ _ _, (fun x hx => by cases hx), by unfold gview; rw [if_neg h0]; rfl, (fun x hx => by cases hx), hb⟩
    · refine ⟨go, gc, G, by rw [h0], ho, hr, by unfold gview; rw [if_pos h0]; exact hg.view h.rise, fun x hx => ?_, hb⟩
      rw [(hg.mem x hx).2.1]
      exact Nat.le_trans (List.length_filter_le _ _) (hp.sum h0)
theorem rgroup_u (h : RD C w a L) (hL : L.length ≤ 12) (hk : KS w.heap.size w ao n cap l) (hp : PK l) :
    Calls Try.prog 16 #[ptr a, .slice ao n cap] w fun e w' => ∃ go gc G, e = .returned (.tuple #[.slice go G.length gc, .int .i64 (errK L (bys l))]) ∧ w'.ownsRow w.heap.size 82 5 (.slice go G.length gc) G.length (cellsV G) ∧
          (∀ x ∈ G, w'.ownsRow w.heap.size 9 1 x.sl x.ks.length (x.ks.map strC)) ∧ G.map (fun e => (e.r, e.ks)) = gview L (bys l) ∧ Below w.heap.size w w' :=
  (rgroup_any h hL hk hp).mono fun e w' ⟨hb, hor⟩ => by
    rcases hor with ⟨h0, rfl⟩ | ⟨h0, go, gc, G, rfl, ho, hr, hg⟩
    · exact ⟨none, 0, [], rfl, World.ownsRow_nil _ _ _ _, (fun x hx => by cases hx), by unfold gview; rw [if_neg h0]; rfl, hb⟩
    · exact ⟨go, gc, G, by rw [h0], ho, hr, by unfold gview; rw [if_pos h0]; exact hg, hb⟩
end
set_option maxRecDepth 100000 in
set_option maxHeartbeats 100000000 in
theorem plays_ok (w : World) {lv : Value} {l : List RV} (hv : HasR (fun k => k < w.heap.size) w lv l) (hw : ∀ r ∈ l, r.wf) (hl : l.length ≤ 100) (mo : Option Addr) (mn mc : Nat) (ms : List (RowsT w)) (hms : XB (rowV (w := w)) (rowZ w) w.heap.size w mo mn mc ms) (h40 : mn ≤ 40)
    (ko : Option Addr) (kn kcap : Nat) (ks : List Str) (hk : KS w.heap.size w ko kn kcap ks) (hp : PK ks) (hC : checkV l = 0) :
    Calls Try.prog 3 #[lv, .slice mo mn mc, .slice ko kn kcap] w fun e w' => e = .returned (.bool true) ∧ Below w.heap.size w w' := by
  have hst := run_stf
  have HF := fun w => Lib.hid (first14_any w)
  obtain ⟨vo, vc, rfl, hcp, hcm⟩ := hasR_len hv
  have HV := Lib.hid hv
  have HWF := Lib.hid hw
  have HKK := Lib.hid hk
  have HPK := Lib.hid hp
  have HMS := Lib.hid hms
  have HFW := fun (w' : World) (hb : Below w.heap.size w w') => Lib.hid (few14_any (HKK.out.below hb) vo l.length vc)
  have HNA := fun (w' : World) (P : Nat → Prop) v (hh : HasR P w' v l) => Lib.hid (dnew_yes hh hw hC)
  have HNB := fun (w' : World) (P : Nat → Prop) v (hh : HasR P w' v l) => Lib.hid (rnew14_yes hh hw hC)
  have HSM := fun (w' : World) (P Q : Nat → Prop) v1 v2 (h1 : HasR P w' v1 l) (h2 : HasR Q w' v2 l) => Lib.hid (ranges_same h1 h2 (by omega))
  have hkn := hk.lt
  have hmn2 : ¬ (40 : Int) < (mn : Int) := by omega
  have HKN := Lib.hid hk.len
  have HMN := Lib.hid hms.len
  clear hv hw hk hp hms hC
  obtain ⟨m, hm⟩ : ∃ m, l.length = m := ⟨_, rfl⟩
  have HM := Lib.hid hm
  rw [hm] at HFW HV hcp hl ⊢
  clear hm
  go_enter Try.func3, Try.ntmps3
  go_wp2_with (first
    | (go_at_call 7; first
      | (refine (HF w1).out.mono ?_; rintro e w9 ⟨rfl, hb⟩; have HB9 := Lib.hid (HB1.out.trans (hb.mono HB1.out.size)); clear hb)
      | (refine (HF _).out.mono ?_; rintro e w1 ⟨rfl, hb⟩; have HB1 := Lib.hid hb; clear hb))
    | (go_at_call 8; refine (HFW w1 HB1.out).out.mono ?_; rintro e w2 ⟨b, rfl, hb, rfl⟩; clear hb)
    | (at_builtin; refine wpList_append_ranges (wanted_none rfl _) (.tmp 38) (.tmp 39) rfl (B := w.heap.size) (M := []) (n := 0) rfl (own_mono (World.ownsRow_made _ #[] 0 (Nat.le_refl _) (Nat.zero_le _) (by simp)) HB1.out.size) (by have := HB1.out.size; simp; omega) rfl ((HV.out.low HB1.out).below (below1 _ _)) (by omega) ?_; intro v2 w2 ho2 hg2; obtain ⟨io, ic, e2⟩ := own_slice ho2; subst e2; have HI2 := Lib.hid ho2; have HB2 := Lib.hid ((HB1.out.alloc HB1.out.size (.cells #[] 37)).grown hg2 (by have := HB1.out.size; simp; omega) (fun k hk => by cases hk; exact HB1.out.size)); clear ho2 hg2)
    | (go_at_call 9; refine (HNA w2 _ _ (own_ranges (l := l) (by rw [HM.out]; simpa using HI2.out))).out.mono ?_; rintro e w3 ⟨a, C1, rfl, hd, hC, hb⟩; have HD3 := Lib.hid hd; have HC3 := Lib.hid (fun k hk => Nat.le_trans HB2.out.size (hC k hk)); have HB3 := Lib.hid (HB2.out.trans (hb.mono HB2.out.size)); have HI3 := Lib.hid (own_below HI2.out hb); clear hd hC hb)
    | (go_at_call 10; refine (HNB w3 _ _ (HV.out.low HB3.out)).out.mono ?_; rintro e w4 ⟨b2, C2, rfl, hd, hC, hb⟩; have HX4 := Lib.hid (show DX w.heap.size w w4 a b2 (newL l) (newL l) C1 C2 from ⟨HD3.out.below hb, hd, fun k h1 h2 => by have := HD3.out.lt k h1; have := hC k h2; omega, HC3.out, fun k hk => Nat.le_trans HB3.out.size (hC k hk), HB3.out.trans (hb.mono HB3.out.size), Nat.le_trans HB3.out.size hb.size⟩); have HI4 := Lib.hid (own_below HI3.out hb); clear hd hC hb)
    | (go_at_call 11; refine (HSM w4 _ _ _ _ (own_ranges (l := l) (by rw [HM.out]; simpa using HI4.out)) (HV.out.low HX4.out.lo)).out.mono ?_; rintro e w5 ⟨rfl, hb⟩; have HX5 := Lib.hid (HX4.out.below hb); clear hb)
    | fail)
  rotate_left
  · go_ret
    exact ⟨rfl, HB9.out⟩
  clear HNA HNB HSM HFW HB1 HB2 HI2 HD3 HC3 HB3 HI3 HX4 HI4 HV HWF
  go_loopw [12] (fun vi wr => ∃ (i : Nat) (L : List RV) (C1 C2 : Nat → Prop), vi = .int .i64 i ∧ i ≤ mn + 1 ∧ Hid (DX w.heap.size w wr a b2 L L C1 C2)) (fun vi _ => mn + 1 - (intOf vi).toNat)
  case atStart => exact ⟨0, _, _, _, rfl, Nat.zero_le _, HX5⟩
  case round =>
    clear HX5
    obtain ⟨i, L, D1, D2, rfl, hi, HX⟩ := hrel
    have HRI := Lib.hid HX.out.ha.rise
    have HL12 := Lib.hid HX.out.ha.few
    have HMY := Lib.hid HX.out.ha.may
    by_cases him : i ≤ mn
    · have him2 : (i : Int) ≤ (mn : Int) := by omega
      generalize wr = wb at *
      go_wp2
      go_loopw [13] (fun vk wr => ∃ k : Nat, vk = .int .i64 k ∧ k ≤ kn ∧ Hid (Below wb.heap.size wb wr)) (fun vk _ => kn - (intOf vk).toNat)
      case atStart => exact ⟨0, rfl, Nat.zero_le _, Below.refl _ _⟩
      case round =>
        obtain ⟨k, rfl, hk, HW⟩ := hrel
        have HXr := Lib.hid (HX.out.below HW.out)
        by_cases hkn2 : k < kn
        · have hkn3 : (k : Int) < (kn : Int) := by omega
          have hkl : k < ks.length := by rw [← HKN.out]; exact hkn2
          obtain ⟨kb, koff, rfl, ck⟩ := (HKK.out.below HXr.out.lo).at_ hkn2
          replace ck := ck.trans (congrArg (fun s : Str => some (Value.string s.1)) (getD_at9 hkl _))
          have hsz := ks[k].2
          generalize ks[k].1 = s at *
          unfold maxLen at hsz
          have hkb := World.block_lt_of_cell? _ _ ck
          have HCK : Hid (∀ wz, Below wr.heap.size wr wz → wz.cell? ⟨kb, koff + k, none⟩ = some (.string s)) := Lib.hid (fun wz hb => (hb.cell (p := ⟨kb, koff + k, none⟩) hkb).trans ck)
          have HRA : Hid (∀ wz, Below wr.heap.size wr wz → Calls Try.prog 12 #[ptr a, .string s] wz fun e w' => e = .returned (.tuple #[ragg (routeL L s).1, .bool (routeL L s).2]) ∧ Below wz.heap.size wz w') := Lib.hid (fun wz hb => droute_any (HXr.out.below hb).ha s hsz)
          have HRB : Hid (∀ wz, Below wr.heap.size wr wz → Calls Try.prog 13 #[ptr b2, .string s] wz fun e w' => e = .returned (.tuple #[ragg (routeL L s).1, .bool (routeL L s).2]) ∧ Below wz.heap.size wz w') := Lib.hid (fun wz hb => rroute_any (HXr.out.below hb).hx s hsz (by have := HL12.out; omega))
          generalize routeL L s = pr at *
          obtain ⟨⟨r1, r2, r3, r4⟩, ok⟩ := pr
          simp only at HRA HRB
          have HBz := Lib.hid (Below.refl wr.heap.size wr)
          have hok : (ok != ok) = false := by cases ok <;> rfl
          clear hkb hkl
          go_upto_region 20 with (first
            | (go_at_call 12; refine (HRA.out _ HBz.out).mono ?_; rintro e w9 ⟨rfl, hb⟩; have HBz := Lib.hid ((HBz.out.trans (hb.mono HBz.out.size)).alloc (Nat.le_trans HBz.out.size hb.size) (robj ⟨r1, r2, r3, r4⟩)); have HX27 := Lib.hid (at_new w9 ⟨r1, r2, r3, r4⟩); have ck := HCK.out _ HBz.out; dsimp only [robj] at ck; clear hb)
            | (go_at_call 13; refine (HRB.out _ HBz.out).mono ?_; rintro e w10 ⟨rfl, hb⟩; have HBz := Lib.hid ((HBz.out.trans (hb.mono HBz.out.size)).alloc (Nat.le_trans HBz.out.size hb.size) (robj ⟨r1, r2, r3, r4⟩)); have HX27 := Lib.hid ((HX27.out.below hb HX27.out.lt).alloc (robj ⟨r1, r2, r3, r4⟩)); have HX29 := Lib.hid (at_new w10 ⟨r1, r2, r3, r4⟩); clear hb)
            | fail)
          clear ck
          dsimp only [robj] at HX27 HX29 HBz
          generalize w10.alloc (.cells #[.int .i64 r1, .int .i64 r2, .float .f64 r3, .float .f64 r4] 37) = w12 at *
          have t0 := HX27.out.c0; have t1 := HX27.out.c1; have t2 := HX27.out.c2; have t3 := HX27.out.c3
          have s0 := HX29.out.c0; have s1 := HX29.out.c1; have s2 := HX29.out.c2; have s3 := HX29.out.c3
          simp only at t0 t1 t2 t3 s0 s1 s2 s3
          go_wp2_with (first
            | (go_at_call 14; refine (range_same ⟨r1, r2, r3, r4⟩ _).mono ?_; rintro e w11 ⟨rfl, hb⟩; have HBz := Lib.hid (HBz.out.trans (hb.mono HBz.out.size)); clear hb)
            | fail)
          go_roundw
          case rel => exact ⟨k + 1, by go_num, by omega, Lib.hid (HW.out.trans (HBz.out.mono HW.out.size))⟩
          case measure => simp [intOf]; omega
        · obtain rfl : k = kn := by omega
          have hkk : ¬ (k : Int) < (k : Int) := by omega
          generalize wr = wk at *
          have HGA := Lib.hid (dgroup_u HXr.out.ha ((HKK.out.below HXr.out.lo).up9 HXr.out.bw) HPK.out)
          have HGB : Hid (∀ wz, Below wk.heap.size wk wz → Calls Try.prog 16 #[ptr b2, .slice ko k kcap] wz fun e w' => ∃ go gc G, e = .returned (.tuple #[.slice go G.length gc, .int .i64 (errK L (bys ks))]) ∧ w'.ownsRow wz.heap.size 82 5 (.slice go G.length gc) G.length (cellsV G) ∧
            (∀ x ∈ G, w'.ownsRow wz.heap.size 9 1 x.sl x.ks.length (x.ks.map strC)) ∧ G.map (fun e => (e.r, e.ks)) = gview L (bys ks) ∧ Below wz.heap.size wz w') := Lib.hid (fun wz hb => rgroup_u (HXr.out.below hb).hx HL12.out ((HKK.out.below (HXr.out.below hb).lo).up9 (HXr.out.below hb).bw) HPK.out)
          have HGL := Lib.hid (gview_len HMY.out HRI.out (bys ks))
          generalize gview L (bys ks) = GW at *
          generalize errK L (bys ks) = ek at *
          have hek : (ek != ek) = false := by simp
          go_upto_region 24 with (first
            | (go_at_call 15; refine HGA.out.mono ?_; rintro e w13 ⟨go, gc, G, rfl, ho, hr, hg, hs, hb⟩; have HO1 := Lib.hid ho; have HR1 := Lib.hid hr; have HV1 := Lib.hid hg; have HS1 := Lib.hid hs; have HB13 := Lib.hid hb; clear ho hr hg hs hb)
            | (go_at_call 16; refine (HGB.out _ HB13.out).mono ?_; rintro e w14 ⟨go2, gc2, G2, rfl, ho, hr, hg, hb⟩; have HO2 := Lib.hid ho; have HR2 := Lib.hid hr; have HV2 := Lib.hid hg; have HB14 := Lib.hid hb; clear ho hr hg hb)
            | fail)
          have HLN : Hid (G2.length = G.length) := Lib.hid (by
            have h1 := congrArg List.length HV1.out
            have h2 := congrArg List.length HV2.out
            rw [List.length_map] at h1 h2
            omega)
          have HGN : Hid (G.length ≤ 12) := Lib.hid (by
            have h1 := congrArg List.length HV1.out
            rw [List.length_map] at h1
            have := HGL.out
            omega)
          have HB12 := Lib.hid (HB13.out.trans (HB14.out.mono HB13.out.size))
          have HX14 := Lib.hid (HXr.out.below HB12.out)
          have HO1b := Lib.hid (own_below HO1.out HB14.out)
          have HR1b : Hid (∀ x ∈ G, w14.ownsRow wk.heap.size 9 1 x.sl x.ks.length (x.ks.map strC)) := Lib.hid (fun x hx => own_below (HR1.out x hx) HB14.out)
          rw [HLN.out] at HO2 ⊢
          obtain ⟨N, hN⟩ : ∃ N, G.length = N := ⟨_, rfl⟩
          have HN := Lib.hid hN
          rw [hN] at HO1b HO2 HGN HLN ⊢
          have HGS : Hid (∀ wz, Below w14.heap.size w14 wz → Calls Try.prog 17 #[.slice go N gc, .slice go2 N gc2] wz fun e w' => e = .returned (.bool true) ∧ Below wz.heap.size wz w') := Lib.hid (fun wz hb => groups_alike (own_below HO1b.out hb) (own_below HO2.out hb) HN.out HLN.out HGN.out (fun x hx => own_below (HR1b.out x hx) hb) (fun x hx => own_below (HR2.out x hx) hb) (HV1.out.trans HV2.out.symm) HS1.out)
          have HLS : Hid (∀ wz, Below w14.heap.size w14 wz → Calls Try.prog 18 #[ptr a] wz fun e w' => ∃ ao cap, e = .returned (.slice ao L.length cap) ∧ w'.ownsRow wz.heap.size 37 4 (.slice ao L.length cap) L.length (cellsR L) ∧ Below wz.heap.size wz w') := Lib.hid (fun wz hb => dlist_any (HX14.out.below hb).ha)
          clear hN HO1 HR1 HGA HGB
          obtain ⟨dv, hdt⟩ := HX14.out.hx
          obtain ⟨xo, xc, e9⟩ := own_slice hdt.own
          subst e9
          have HXO := Lib.hid hdt.own
          have HC0 : Hid (∀ wz, Below w14.heap.size w14 wz → wz.cell? ⟨b2, 0, none⟩ = some (.slice xo L.length xc)) := Lib.hid (fun wz hb => (hb.cell (p := ⟨b2, 0, none⟩) hdt.alt).trans hdt.c0)
          have HXL : Hid (∀ wz, Below w14.heap.size w14 wz → HasR (fun k => 0 ≤ k) wz (.slice xo L.length xc) L) := Lib.hid (fun wz hb => own_ranges (own_mono (own_below hdt.own hb) (Nat.zero_le _)))
          have HBz := Lib.hid ((Below.refl w14.heap.size w14).drew)
          clear hdt
          go_region_held (fun w' => w'.cell? ⟨b2, 0, none⟩ = some (.slice xo L.length xc)) (exact HC0.out _ HBz.out)
            ((first
              | (go_at_call 17; refine (HGS.out _ HBz.out).mono ?_; rintro e w15 ⟨rfl, hb⟩; have HBz := Lib.hid (HBz.out.trans (hb.mono HBz.out.size)); clear hb)
              | (go_at_call 18; refine (HLS.out _ HBz.out).mono ?_; rintro e w16 ⟨lo, lc, rfl, ho, hb⟩; have HLR := Lib.hid (own_ranges ho); have HBz := Lib.hid (HBz.out.trans (hb.mono HBz.out.size)); clear ho hb)
              | (go_at_call 11; refine (ranges_same HLR.out (HXL.out _ HBz.out) (by have := HL12.out; omega)).mono ?_; rintro e w17 ⟨rfl, hb⟩; have HBz := Lib.hid (HBz.out.trans (hb.mono HBz.out.size)); clear hb)))
          have HBK := Lib.hid (HB12.out.trans (HBz.out.mono HB12.out.size))
          have HOs := Lib.hid (own_below HO1b.out HBz.out)
          have HRs : Hid (∀ x ∈ G, ∃ xs, w17.ownsRow wk.heap.size 9 1 x.sl x.ks.length xs) := Lib.hid (fun x hx => ⟨_, own_below (HR1b.out x hx) HBz.out⟩)
          clear HGS HLS HXO HC0 HXL HBz HLR HO2 HR2 HV1 HV2 HO1b HR1b HX14 HB12 HB13 HB14 HLN hek
          go_wp2_with (fail)
          go_loopw [22] (fun vq wr => ∃ q : Nat, vq = .int .i64 q ∧ q ≤ N ∧ Hid (Below wk.heap.size wk wr) ∧ Hid (wr.ownsRow wk.heap.size 52 5 (.slice go N gc) N (cellsV G)) ∧ Hid (∀ x ∈ G, ∃ xs, wr.ownsRow wk.heap.size 9 1 x.sl x.ks.length xs)) (fun vq _ => N - (intOf vq).toNat)
          case atStart => exact ⟨0, rfl, Nat.zero_le _, HBK, HOs, HRs⟩
          case round =>
            clear HBK HOs HRs
            obtain ⟨q, rfl, hq, HBK, HOs, HRs⟩ := hrel
            by_cases hqn : q < N
            · have hqn2 : (q : Int) < (N : Int) := by omega
              have hql : q < G.length := by rw [HN.out]; exact hqn
              obtain ⟨g, rfl, hgl, _⟩ := own_groupT HOs.out hql HN.out
              have HGX := Lib.hid (List.getElem_mem hql)
              have HGC : Hid (∀ wz, wz.ownsRow wk.heap.size 52 5 (.slice (some ⟨g, 0, none⟩) N gc) N (cellsV G) → Gc wz g (q * 5) G[q]) := Lib.hid (fun wz ho => by
                obtain ⟨g2, e2, _, hg2⟩ := own_groupT ho hql HN.out
                injection e2 with e2
                injection e2 with e2
                subst e2
                exact hg2)
              generalize G[q] = x at *
              clear hql hgl
              go_wp2_with (fail)
              go_loopw [23] (fun vj wr => ∃ j : Nat, vj = .int .i64 j ∧ j ≤ x.ks.length ∧ Hid (Below wk.heap.size wk wr) ∧ Hid (wr.ownsRow wk.heap.size 52 5 (.slice (some ⟨g, 0, none⟩) N gc) N (cellsV G)) ∧ Hid (∀ x ∈ G, ∃ xs, wr.ownsRow wk.heap.size 9 1 x.sl x.ks.length xs)) (fun vj _ => x.ks.length - (intOf vj).toNat)
              case atStart => exact ⟨0, rfl, Nat.zero_le _, HBK, HOs, HRs⟩
              case round =>
                clear HBK HOs HRs
                obtain ⟨j, rfl, hj, HBK, HOs, HRs⟩ := hrel
                have c4 := (HGC.out _ HOs.out).c4
                by_cases hjm : j < x.ks.length
                · have hjm2 : (j : Int) < (x.ks.length : Int) := by omega
                  obtain ⟨xs, hxs⟩ := HRs.out x HGX.out
                  have HXS := Lib.hid hxs
                  have hxl : xs.length = x.ks.length * 1 := hxs.1
                  obtain ⟨u0, hu0⟩ : ∃ u, xs[j]? = some u := ⟨_, List.getElem?_eq_getElem (by omega)⟩
                  have cj := hxs.cells (g := x.g) rfl j u0 hu0
                  rw [Addr.add_lit, Nat.zero_add] at cj
                  have fj : wr.frozen? ⟨x.g, j, none⟩ = false := hxs.frozenAt j
                  have hone := hxs.lt x.g rfl
                  have HSET : Hid (∀ v, Below wk.heap.size wk (wr.setCell ⟨x.g, j, none⟩ v) ∧ (wr.setCell ⟨x.g, j, none⟩ v).ownsRow wk.heap.size 52 5 (.slice (some ⟨g, 0, none⟩) N gc) N (cellsV G) ∧ (∀ y ∈ G, ∃ ys, (wr.setCell ⟨x.g, j, none⟩ v).ownsRow wk.heap.size 9 1 y.sl y.ks.length ys)) := Lib.hid (fun v => by
                    refine ⟨HBK.out.setCell hone.1 v, own_tn HOs.out (tn_set (Tn.refl (· = x.g) wr) v) (fun k hk e => own_apart HOs.out hxs (by decide) k hk (by rw [e]; rfl)), fun y hy => ?_⟩
                    obtain ⟨ys, hys⟩ := HRs.out y hy
                    by_cases e : y.g = x.g
                    · have := (hys.stored j v).1
                      rw [← e]
                      exact ⟨_, this⟩
                    · exact ⟨ys, own_tn hys (tn_set (Tn.refl (· = x.g) wr) v) (fun k hk e2 => e (by rw [← e2]; exact (Option.some.inj hk)))⟩)
                  clear hxs hxl hone hu0
                  have hm2k : j ≤ 2000 := by have := HS1.out x HGX.out; omega
                  go_wp2_with (fail)
                  have HS2 := Lib.hid (HSET.out (.string ⟨#[115, 112, 111, 105, 108, 116]⟩))
                  go_roundw
                  case rel => exact ⟨j + 1, by go_num, by omega, HS2.out.1, HS2.out.2.1, HS2.out.2.2⟩
                  case measure => simp [intOf]; omega
                · obtain rfl : j = x.ks.length := by omega
                  have hjj : ¬ (x.ks.length : Int) < (x.ks.length : Int) := by omega
                  have hN12 := HGN.out
                  go_wp2_with (fail)
                  go_roundw
                  case rel => exact ⟨q + 1, by go_num, by omega, HBK, HOs, HRs⟩
                  case measure => simp [intOf]; omega
            · obtain rfl : q = N := by omega
              have hqq : ¬ (q : Int) < (q : Int) := by omega
              have HX18 := Lib.hid (HXr.out.below HBK.out)
              have HLT := Lib.hid (dlist_any HX18.out.ha)
              clear HOs HRs HS1 HGN HN HGL
              generalize wr = wp at *
              go_wp2_with (first
                | (go_at_call 18; refine HLT.out.mono ?_; rintro e w19 ⟨to, tc, rfl, ho, hb⟩; have HT19 := Lib.hid ho; have HB19 := Lib.hid hb; clear ho hb)
                | fail)
              obtain ⟨LN, hLN⟩ : ∃ n, L.length = n := ⟨_, rfl⟩
              have HLN := Lib.hid hLN
              rw [hLN] at HT19 HL12 ⊢
              clear hLN HLT
              go_loopw [25] (fun vq wr => ∃ (q : Nat) (M : List RV), vq = .int .i64 q ∧ q ≤ LN ∧ Hid (M.length = LN) ∧ Hid (Below wp.heap.size wp wr) ∧ Hid (wr.ownsRow wp.heap.size 37 4 (.slice to LN tc) LN (cellsR M))) (fun vq _ => LN - (intOf vq).toNat)
              case atStart => exact ⟨0, L, rfl, Nat.zero_le _, HLN, HB19, HT19⟩
              case round =>
                clear HB19 HT19
                obtain ⟨q2, M, rfl, hq2, HML, HBT, HOT⟩ := hrel
                by_cases hqL : q2 < LN
                · have hqL2 : (q2 : Int) < (LN : Int) := by omega
                  obtain ⟨g, c, e9⟩ := own_shape HOT.out (by omega)
                  injection e9 with e1 e2 e3
                  subst e1
                  have hjM : q2 < M.length := by rw [HML.out]; exact hqL
                  obtain ⟨b0, b1, b2', b3, y0, y1, y2, y3⟩ := own_oc HOT.out hjM
                  have HS := own_set HOT.out hjM RV.zero
                  have HSr := Lib.hid HS.1
                  have HSb := Lib.hid (below_setR HBT.out (HOT.out.lt g rfl).1 (q2 * 4) RV.zero)
                  have HSl : Hid ((M.set q2 RV.zero).length = LN) := Lib.hid (by rw [List.length_set]; exact HML.out)
                  have hl12 := HL12.out
                  dsimp only [setR, RV.zero] at HSr HSb
                  generalize M[q2] = r at *
                  obtain ⟨r1, r2, r3, r4⟩ := r
                  simp only at b0 b1 b2' b3
                  clear HS hjM
                  go_wp2_with (fail)
                  go_roundw
                  case rel => exact ⟨q2 + 1, _, by go_num, by omega, HSl, HSb, HSr⟩
                  case measure => simp [intOf]; omega
                · obtain rfl : q2 = LN := by omega
                  have hqq2 : ¬ (q2 : Int) < (q2 : Int) := by omega
                  have HX20 := Lib.hid (HX18.out.below HBT.out)
                  clear HOT HBT HX18
                  go_upto_region 38 with fail
                  have HXd := Lib.hid (HX20.out.below ((Below.refl wr.heap.size wr).drew))
                  by_cases hlt : i < mn
                  · have hlt2 : (i : Int) < (mn : Int) := by omega
                    obtain ⟨mb, moff, rfl, cm⟩ := (HMS.out.below HX20.out.lo).at_ hlt
                    have HMB : Hid (∀ wz, Below w.heap.size w wz → wz.cell? ⟨mb, moff + i, none⟩ = some (rowV (ms.getD i (rowZ w)))) := Lib.hid (fun wz hb => by
                      obtain ⟨b9, o9, e9, c9⟩ := (HMS.out.below hb).at_ hlt
                      injection e9 with e9
                      injection e9 with e9 e10
                      subst e9 e10
                      exact c9)
                    obtain ⟨el, hel⟩ : ∃ el, ms.getD i (rowZ w) = el := ⟨_, rfl⟩
                    rw [hel] at cm HMB
                    clear hel
                    obtain ⟨⟨ev, rl⟩, hrv, hrw⟩ := el
                    simp only at hrv hrw
                    obtain ⟨eo, ec, he, _, hcm9⟩ := hasR_len hrv
                    subst he
                    replace cm : wr.cell? ⟨mb, moff + i, none⟩ = some (.slice eo rl.length ec) := cm
                    replace HMB : Hid (∀ wz, Below w.heap.size w wz → wz.cell? ⟨mb, moff + i, none⟩ = some (.slice eo rl.length ec)) := HMB
                    have HRV := Lib.hid hrv
                    have HRW := Lib.hid hrw
                    by_cases h100 : rl.length ≤ 100
                    · have h101 : (rl.length : Int) ≤ 100 := by omega
                      obtain ⟨L', K, hLK⟩ : ∃ L' K, learnL L rl = (L', K) := ⟨_, _, rfl⟩
                      have HLA : Hid (∀ wz, DX w.heap.size w wz a b2 L L D1 D2 → Calls Try.prog 19 #[ptr a, .slice eo rl.length ec] wz fun e w' => e = .returned (.int .i64 (K : Nat)) ∧ DKm D1 w' a L' ∧ Way D1 wz D1 w') := Lib.hid (fun wz hx => by
                        have := dlearnm_any hx.ha (HRV.out.low hx.lo) (fun k h1 h2 => by have := hx.b1 k h2; omega) HRW.out (by have := HL12.out; have := HLN.out; omega)
                        rw [hLK] at this
                        exact this)
                      have HLB : Hid (∀ wz, DX w.heap.size w wz a b2 L' L D1 D2 → Calls Try.prog 20 #[ptr b2, .slice eo rl.length ec] wz fun e w' => e = .returned (.int .i64 (K : Nat)) ∧ ∃ C', RD C' w' b2 L' ∧ Way D2 wz C' w') := Lib.hid (fun wz hx => by
                        have := rlearn14_any hx.hx HRI.out (HRV.out.low hx.lo) (fun k h1 h2 => by have := hx.b2 k h2; omega) HRW.out (by have := HL12.out; have := HLN.out; omega)
                        rw [hLK] at this
                        exact this)
                      obtain ⟨rn, hrn⟩ : ∃ n, rl.length = n := ⟨_, rfl⟩
                      rw [hrn] at h101 cm HMB HLA HLB
                      have hKK : ((K : Int) != (K : Int)) = false := by simp
                      have HXz := HXd
                      clear hrv hrw hcm9 h100 hLK hrn HRV
                      go_region_held (fun w' => w'.cell? ⟨mb, moff + i, none⟩ = some (.slice eo rn ec)) (exact HMB.out _ HXz.out.lo)
                        ((first
                          | (go_at_call 19; refine (HLA.out _ HXz.out).mono ?_; rintro e w21 ⟨rfl, hd, hw⟩; have HXz := Lib.hid (HXz.out.stepa hd hw); clear hd hw)
                          | (go_at_call 20; refine (HLB.out _ HXz.out).mono ?_; rintro e w22 ⟨rfl, C9, hd, hw⟩; have HXz := Lib.hid (HXz.out.stepb hd hw); clear hd hw)))
                      go_wp2_with (fail)
                      go_roundw
                      case rel => exact ⟨i + 1, L', _, _, by go_num, by omega, HXz⟩
                      case measure => simp [intOf]; omega
                    · have h101 : ¬ (rl.length : Int) ≤ 100 := by omega
                      obtain ⟨rn, hrn⟩ : ∃ n, rl.length = n := ⟨_, rfl⟩
                      rw [hrn] at h101 cm
                      clear hrv hrw hcm9 HMB h100
                      go_region
                      go_wp2_with (fail)
                      go_roundw
                      case rel => exact ⟨i + 1, L, D1, D2, by go_num, by omega, HXd⟩
                      case measure => simp [intOf]; omega
                  · have hlt2 : ¬ (i : Int) < (mn : Int) := by omega
                    go_region
                    go_wp2_with (fail)
                    go_roundw
                    case rel => exact ⟨i + 1, L, D1, D2, by go_num, by omega, HXd⟩
                    case measure => simp [intOf]; omega
    · obtain rfl : i = mn + 1 := by omega
      have hmm : ¬ ((mn + 1 : Nat) : Int) ≤ (mn : Int) := by omega
      go_upto_region 40 with fail
      obtain ⟨dv, hdt⟩ := HX.out.hx
      obtain ⟨xo, xc, e9⟩ := own_slice hdt.own
      subst e9
      have HC0 : Hid (∀ wz, Below wr.heap.size wr wz → wz.cell? ⟨b2, 0, none⟩ = some (.slice xo L.length xc)) := Lib.hid (fun wz hb => (hb.cell (p := ⟨b2, 0, none⟩) hdt.alt).trans hdt.c0)
      have HXL : Hid (∀ wz, Below wr.heap.size wr wz → HasR (fun k => 0 ≤ k) wz (.slice xo L.length xc) L) := Lib.hid (fun wz hb => own_ranges (own_mono (own_below hdt.own hb) (Nat.zero_le _)))
      have HBz := Lib.hid ((Below.refl wr.heap.size wr).drew)
      clear hdt
      go_region_held (fun w' => w'.cell? ⟨b2, 0, none⟩ = some (.slice xo L.length xc)) (exact HC0.out _ HBz.out)
        ((first
          | (go_at_call 7; refine (HF _).out.mono ?_; rintro e w15 ⟨rfl, hb⟩; have HBz := Lib.hid (HBz.out.trans (hb.mono HBz.out.size)); clear hb)
          | (go_at_call 18; refine (dlist_any (HX.out.below HBz.out).ha).mono ?_; rintro e w16 ⟨lo, lc, rfl, ho, hb⟩; have HLR := Lib.hid (own_ranges ho); have HBz := Lib.hid (HBz.out.trans (hb.mono HBz.out.size)); clear ho hb)
          | (go_at_call 11; refine (ranges_same HLR.out (HXL.out _ HBz.out) (by have := HL12.out; omega)).mono ?_; rintro e w17 ⟨rfl, hb⟩; have HBz := Lib.hid (HBz.out.trans (hb.mono HBz.out.size)); clear hb)))
      go_wp2_with (fail)
      go_ret
      exact ⟨rfl, (HX.out.below HBz.out).lo⟩
end Go.Proofs.Ytfcdajkgopcmpaa
