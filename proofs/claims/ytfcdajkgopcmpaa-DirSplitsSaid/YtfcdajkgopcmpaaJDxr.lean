/- racelaw14.DirSplits' walk: what a split puts into a pair of ranges. Conditions: none of its own. -/
import Derived.Test.YtfcdajkgopcmpaaJDxa
namespace Go.Proofs.Ytfcdajkgopcmpaa
open Go.ChangeShapes Go.WideShapes Go.ChangeAt Go.RowKit
set_option maxRecDepth 100000 in
set_option maxHeartbeats 100000000 in
theorem splits_r : splitsA.1.2.2 := by
  intro w
  set_option tactic.hygienic false in intros
  refine wp_region_held (S := (fun w' : World => w'.cell? ⟨g, J * 4, none⟩ = some (.int .i64 ri) ∧ w'.cell? ⟨g, J * 4 + 1, none⟩ = some (.int .i64 re) ∧ w'.cell? ⟨g, J * 4 + 2, none⟩ = some (.float .f64 rl) ∧ w'.cell? ⟨g, J * 4 + 3, none⟩ = some (.float .f64 rh) ∧ w'.cell? ⟨pb, poff + q, none⟩ = some (.float .f64 x))) (by kernel_rfl) ?_
  change wpAnyH _ _ _ _ _ _ _ _ (World.drew _)
  have HC := Lib.hid ((Below.refl wr.heap.size wr).drew)
  refine wpAnyH_take (i := 0) (v := ?va_0) rfl (by kernel_rfl) (by kernel_rfl) (by kernel_rfl) (fun _ _ _ h => h) (Or.inl ⟨by rfl, ?ya_0⟩) ⟨(HC.out.cell (p := ⟨g, J * 4, none⟩) hgs.out).trans ka0.out, (HC.out.cell (p := ⟨g, J * 4 + 1, none⟩) hgs.out).trans ka1.out, (HC.out.cell (p := ⟨g, J * 4 + 2, none⟩) hgs.out).trans ka2.out, (HC.out.cell (p := ⟨g, J * 4 + 3, none⟩) hgs.out).trans ka3.out, (HC.out.cell (p := ⟨pb, poff + q, none⟩) hpbs.out).trans kcp.out⟩ ?ra_0
  case ya_0 => (intro W hSw; (try dsimp only at hSw); obtain ⟨s0, s1, s2, s3, s4⟩ := hSw; first | (go_simp; done) | (go_simp; with_reducible rfl))
  try go_simp
  refine wpAnyH_take (i := 1) (v := ?va_1) rfl (by kernel_rfl) (by kernel_rfl) (by kernel_rfl) (fun _ _ _ h => h) (Or.inl ⟨by rfl, ?ya_1⟩) ⟨(HC.out.cell (p := ⟨g, J * 4, none⟩) hgs.out).trans ka0.out, (HC.out.cell (p := ⟨g, J * 4 + 1, none⟩) hgs.out).trans ka1.out, (HC.out.cell (p := ⟨g, J * 4 + 2, none⟩) hgs.out).trans ka2.out, (HC.out.cell (p := ⟨g, J * 4 + 3, none⟩) hgs.out).trans ka3.out, (HC.out.cell (p := ⟨pb, poff + q, none⟩) hpbs.out).trans kcp.out⟩ ?ra_1
  case ya_1 => (intro W hSw; (try dsimp only at hSw); obtain ⟨s0, s1, s2, s3, s4⟩ := hSw; first | (go_simp; done) | (go_simp; with_reducible rfl))
  try go_simp
  refine wpAnyH_take (i := 2) (v := ?va_2) rfl (by kernel_rfl) (by kernel_rfl) (by kernel_rfl) (fun _ _ _ h => h) (Or.inl ⟨by rfl, ?ya_2⟩) ⟨(HC.out.cell (p := ⟨g, J * 4, none⟩) hgs.out).trans ka0.out, (HC.out.cell (p := ⟨g, J * 4 + 1, none⟩) hgs.out).trans ka1.out, (HC.out.cell (p := ⟨g, J * 4 + 2, none⟩) hgs.out).trans ka2.out, (HC.out.cell (p := ⟨g, J * 4 + 3, none⟩) hgs.out).trans ka3.out, (HC.out.cell (p := ⟨pb, poff + q, none⟩) hpbs.out).trans kcp.out⟩ ?ra_2
  case ya_2 => (intro W hSw; (try dsimp only at hSw); obtain ⟨s0, s1, s2, s3, s4⟩ := hSw; first | (go_simp; done) | (go_simp; with_reducible rfl))
  try go_simp
  refine wpAnyH_take (i := 3) (v := ?va_3) rfl (by kernel_rfl) (by kernel_rfl) (by kernel_rfl) (fun _ _ _ h => h) (Or.inl ⟨by rfl, ?ya_3⟩) ⟨(HC.out.cell (p := ⟨g, J * 4, none⟩) hgs.out).trans ka0.out, (HC.out.cell (p := ⟨g, J * 4 + 1, none⟩) hgs.out).trans ka1.out, (HC.out.cell (p := ⟨g, J * 4 + 2, none⟩) hgs.out).trans ka2.out, (HC.out.cell (p := ⟨g, J * 4 + 3, none⟩) hgs.out).trans ka3.out, (HC.out.cell (p := ⟨pb, poff + q, none⟩) hpbs.out).trans kcp.out⟩ ?ra_3
  case ya_3 => (intro W hSw; (try dsimp only at hSw); obtain ⟨s0, s1, s2, s3, s4⟩ := hSw; first | (go_simp; done) | (go_simp; with_reducible rfl))
  try go_simp
  refine wpAnyH_take (i := 4) (v := ?va_4) rfl (by kernel_rfl) (by kernel_rfl) (by kernel_rfl) (fun _ _ _ h => h) (Or.inl ⟨by rfl, ?ya_4⟩) ⟨(HC.out.cell (p := ⟨g, J * 4, none⟩) hgs.out).trans ka0.out, (HC.out.cell (p := ⟨g, J * 4 + 1, none⟩) hgs.out).trans ka1.out, (HC.out.cell (p := ⟨g, J * 4 + 2, none⟩) hgs.out).trans ka2.out, (HC.out.cell (p := ⟨g, J * 4 + 3, none⟩) hgs.out).trans ka3.out, (HC.out.cell (p := ⟨pb, poff + q, none⟩) hpbs.out).trans kcp.out⟩ ?ra_4
  case ya_4 => (intro W hSw; (try dsimp only at hSw); obtain ⟨s0, s1, s2, s3, s4⟩ := hSw; first | (go_simp; done) | (go_simp; with_reducible rfl))
  try go_simp
  refine wpAnyH_take (i := 5) (v := ?va_5) rfl (by kernel_rfl) (by kernel_rfl) (by kernel_rfl) (fun _ _ _ h => h) (Or.inl ⟨by rfl, ?ya_5⟩) ⟨(HC.out.cell (p := ⟨g, J * 4, none⟩) hgs.out).trans ka0.out, (HC.out.cell (p := ⟨g, J * 4 + 1, none⟩) hgs.out).trans ka1.out, (HC.out.cell (p := ⟨g, J * 4 + 2, none⟩) hgs.out).trans ka2.out, (HC.out.cell (p := ⟨g, J * 4 + 3, none⟩) hgs.out).trans ka3.out, (HC.out.cell (p := ⟨pb, poff + q, none⟩) hpbs.out).trans kcp.out⟩ ?ra_5
  case ya_5 => (intro W hSw; (try dsimp only at hSw); obtain ⟨s0, s1, s2, s3, s4⟩ := hSw; first | (go_simp; done) | (go_simp; with_reducible rfl))
  try go_simp
  refine wpAnyH_take (i := 6) (v := ?va_6) rfl (by kernel_rfl) (by kernel_rfl) (by kernel_rfl) (fun _ _ _ h => h) (Or.inl ⟨by rfl, ?ya_6⟩) ⟨(HC.out.cell (p := ⟨g, J * 4, none⟩) hgs.out).trans ka0.out, (HC.out.cell (p := ⟨g, J * 4 + 1, none⟩) hgs.out).trans ka1.out, (HC.out.cell (p := ⟨g, J * 4 + 2, none⟩) hgs.out).trans ka2.out, (HC.out.cell (p := ⟨g, J * 4 + 3, none⟩) hgs.out).trans ka3.out, (HC.out.cell (p := ⟨pb, poff + q, none⟩) hpbs.out).trans kcp.out⟩ ?ra_6
  case ya_6 => (intro W hSw; (try dsimp only at hSw); obtain ⟨s0, s1, s2, s3, s4⟩ := hSw; first | (go_simp; done) | (go_simp; with_reducible rfl))
  try go_simp
  refine wpAnyH_take (i := 7) (v := ?va_7) rfl (by kernel_rfl) (by kernel_rfl) (by kernel_rfl) (fun _ _ _ h => h) (Or.inl ⟨by rfl, ?ya_7⟩) ⟨(HC.out.cell (p := ⟨g, J * 4, none⟩) hgs.out).trans ka0.out, (HC.out.cell (p := ⟨g, J * 4 + 1, none⟩) hgs.out).trans ka1.out, (HC.out.cell (p := ⟨g, J * 4 + 2, none⟩) hgs.out).trans ka2.out, (HC.out.cell (p := ⟨g, J * 4 + 3, none⟩) hgs.out).trans ka3.out, (HC.out.cell (p := ⟨pb, poff + q, none⟩) hpbs.out).trans kcp.out⟩ ?ra_7
  case ya_7 => (intro W hSw; (try dsimp only at hSw); obtain ⟨s0, s1, s2, s3, s4⟩ := hSw; first | (go_simp; done) | (go_simp; with_reducible rfl))
  try go_simp
  refine wpAnyH_take (i := 8) (v := ?va_8) rfl (by kernel_rfl) (by kernel_rfl) (by kernel_rfl) (fun _ _ _ h => h) (Or.inl ⟨by rfl, ?ya_8⟩) ⟨(HC.out.cell (p := ⟨g, J * 4, none⟩) hgs.out).trans ka0.out, (HC.out.cell (p := ⟨g, J * 4 + 1, none⟩) hgs.out).trans ka1.out, (HC.out.cell (p := ⟨g, J * 4 + 2, none⟩) hgs.out).trans ka2.out, (HC.out.cell (p := ⟨g, J * 4 + 3, none⟩) hgs.out).trans ka3.out, (HC.out.cell (p := ⟨pb, poff + q, none⟩) hpbs.out).trans kcp.out⟩ ?ra_8
  case ya_8 => (intro W hSw; (try dsimp only at hSw); obtain ⟨s0, s1, s2, s3, s4⟩ := hSw; first | (go_simp; done) | (go_simp; with_reducible rfl))
  try go_simp
  refine wpAnyH_take (i := 9) (v := ?va_9) rfl (by kernel_rfl) (by kernel_rfl) (by kernel_rfl) (fun _ _ _ h => h) (Or.inl ⟨by rfl, ?ya_9⟩) ⟨(HC.out.cell (p := ⟨g, J * 4, none⟩) hgs.out).trans ka0.out, (HC.out.cell (p := ⟨g, J * 4 + 1, none⟩) hgs.out).trans ka1.out, (HC.out.cell (p := ⟨g, J * 4 + 2, none⟩) hgs.out).trans ka2.out, (HC.out.cell (p := ⟨g, J * 4 + 3, none⟩) hgs.out).trans ka3.out, (HC.out.cell (p := ⟨pb, poff + q, none⟩) hpbs.out).trans kcp.out⟩ ?ra_9
  case ya_9 => (intro W hSw; (try dsimp only at hSw); obtain ⟨s0, s1, s2, s3, s4⟩ := hSw; first | (go_simp; done) | (go_simp; with_reducible rfl))
  try go_simp
  refine wpAnyH_take (i := 10) (v := ?va_10) rfl (by kernel_rfl) (by kernel_rfl) (by kernel_rfl) (fun _ _ _ h => h) (Or.inl ⟨by rfl, ?ya_10⟩) ⟨(HC.out.cell (p := ⟨g, J * 4, none⟩) hgs.out).trans ka0.out, (HC.out.cell (p := ⟨g, J * 4 + 1, none⟩) hgs.out).trans ka1.out, (HC.out.cell (p := ⟨g, J * 4 + 2, none⟩) hgs.out).trans ka2.out, (HC.out.cell (p := ⟨g, J * 4 + 3, none⟩) hgs.out).trans ka3.out, (HC.out.cell (p := ⟨pb, poff + q, none⟩) hpbs.out).trans kcp.out⟩ ?ra_10
  case ya_10 => (intro W hSw; (try dsimp only at hSw); obtain ⟨s0, s1, s2, s3, s4⟩ := hSw; first | (go_simp; done) | (go_simp; with_reducible rfl))
  try go_simp
  refine wpAnyH_ready (rs := [11, 16, 17]) (by kernel_rfl) (by simp) ?_
  refine AllReadyH.cons rfl (fun K hK => ?_) (AllReadyH.cons rfl (fun K hK => ?_) (AllReadyH.cons rfl (fun K hK => ?_) AllReadyH.nil))
  · go_simp
    go_wp2_with (first | (go_at_call 22; ((with_reducible refine (HSP _).out.mono ?_); rintro e wzp11 ⟨rfl, hb⟩; have HC := Lib.hid (HC.out.trans (hb.mono HC.out.size)); clear hb)))
    refine hK.out _ _ ⟨(HC.out.cell (p := ⟨g, J * 4, none⟩) hgs.out).trans ka0.out, (HC.out.cell (p := ⟨g, J * 4 + 1, none⟩) hgs.out).trans ka1.out, (HC.out.cell (p := ⟨g, J * 4 + 2, none⟩) hgs.out).trans ka2.out, (HC.out.cell (p := ⟨g, J * 4 + 3, none⟩) hgs.out).trans ka3.out, (HC.out.cell (p := ⟨pb, poff + q, none⟩) hpbs.out).trans kcp.out⟩ (fun _ => ?_)
    clear hK K
    try go_simp
    refine wpAnyH_take (i := 12) (v := ?vp11_12) rfl (by kernel_rfl) (by kernel_rfl) (by kernel_rfl) (fun _ _ _ h => h) (Or.inl ⟨by rfl, ?yp11_12⟩) ⟨(HC.out.cell (p := ⟨g, J * 4, none⟩) hgs.out).trans ka0.out, (HC.out.cell (p := ⟨g, J * 4 + 1, none⟩) hgs.out).trans ka1.out, (HC.out.cell (p := ⟨g, J * 4 + 2, none⟩) hgs.out).trans ka2.out, (HC.out.cell (p := ⟨g, J * 4 + 3, none⟩) hgs.out).trans ka3.out, (HC.out.cell (p := ⟨pb, poff + q, none⟩) hpbs.out).trans kcp.out⟩ ?rp11_12
    case yp11_12 => (intro W hSw; (try dsimp only at hSw); obtain ⟨s0, s1, s2, s3, s4⟩ := hSw; first | (go_simp; done) | (go_simp; with_reducible rfl))
    try go_simp
    refine wpAnyH_take (i := 13) (v := ?vp11_13) rfl (by kernel_rfl) (by kernel_rfl) (by kernel_rfl) (fun _ _ _ h => h) (Or.inl ⟨by rfl, ?yp11_13⟩) ⟨(HC.out.cell (p := ⟨g, J * 4, none⟩) hgs.out).trans ka0.out, (HC.out.cell (p := ⟨g, J * 4 + 1, none⟩) hgs.out).trans ka1.out, (HC.out.cell (p := ⟨g, J * 4 + 2, none⟩) hgs.out).trans ka2.out, (HC.out.cell (p := ⟨g, J * 4 + 3, none⟩) hgs.out).trans ka3.out, (HC.out.cell (p := ⟨pb, poff + q, none⟩) hpbs.out).trans kcp.out⟩ ?rp11_13
    case yp11_13 => (intro W hSw; (try dsimp only at hSw); obtain ⟨s0, s1, s2, s3, s4⟩ := hSw; first | (go_simp; done) | (go_simp; with_reducible rfl))
    try go_simp
    refine wpAnyH_take (i := 14) (v := ?vp11_14) rfl (by kernel_rfl) (by kernel_rfl) (by kernel_rfl) (fun _ _ _ h => h) (Or.inl ⟨by rfl, ?yp11_14⟩) ⟨(HC.out.cell (p := ⟨g, J * 4, none⟩) hgs.out).trans ka0.out, (HC.out.cell (p := ⟨g, J * 4 + 1, none⟩) hgs.out).trans ka1.out, (HC.out.cell (p := ⟨g, J * 4 + 2, none⟩) hgs.out).trans ka2.out, (HC.out.cell (p := ⟨g, J * 4 + 3, none⟩) hgs.out).trans ka3.out, (HC.out.cell (p := ⟨pb, poff + q, none⟩) hpbs.out).trans kcp.out⟩ ?rp11_14
    case yp11_14 => (intro W hSw; (try dsimp only at hSw); obtain ⟨s0, s1, s2, s3, s4⟩ := hSw; first | (go_simp; done) | (go_simp; with_reducible rfl))
    try go_simp
    refine wpAnyH_take (i := 15) (v := ?vp11_15) rfl (by kernel_rfl) (by kernel_rfl) (by kernel_rfl) (fun _ _ _ h => h) (Or.inl ⟨by rfl, ?yp11_15⟩) ⟨(HC.out.cell (p := ⟨g, J * 4, none⟩) hgs.out).trans ka0.out, (HC.out.cell (p := ⟨g, J * 4 + 1, none⟩) hgs.out).trans ka1.out, (HC.out.cell (p := ⟨g, J * 4 + 2, none⟩) hgs.out).trans ka2.out, (HC.out.cell (p := ⟨g, J * 4 + 3, none⟩) hgs.out).trans ka3.out, (HC.out.cell (p := ⟨pb, poff + q, none⟩) hpbs.out).trans kcp.out⟩ ?rp11_15
    case yp11_15 => (intro W hSw; (try dsimp only at hSw); obtain ⟨s0, s1, s2, s3, s4⟩ := hSw; first | (go_simp; done) | (go_simp; with_reducible rfl))
    try go_simp
    refine wpAnyH_ready (rs := [16, 17]) (by kernel_rfl) (by simp) ?_
    refine AllReadyH.cons rfl (fun K hK => ?_) (AllReadyH.cons rfl (fun K hK => ?_) AllReadyH.nil)
    · go_simp
      have HpA := Lib.hid (show At (wzp11.alloc (.cells #[.int .i64 0, .int .i64 0, .float .f64 0, .float .f64 0] 37)) wzp11.heap.size RV.zero from at_new wzp11 RV.zero)
      have hpA := HC.out.size
      have HC := Lib.hid (HC.out.alloc HC.out.size (.cells #[.int .i64 0, .int .i64 0, .float .f64 0, .float .f64 0] 37))
      generalize hgen : wzp11.alloc (.cells #[.int .i64 0, .int .i64 0, .float .f64 0, .float .f64 0] 37) = wqp1116 at *
      clear hgen
      refine hK.out _ _ ⟨(HC.out.cell (p := ⟨g, J * 4, none⟩) hgs.out).trans ka0.out, (HC.out.cell (p := ⟨g, J * 4 + 1, none⟩) hgs.out).trans ka1.out, (HC.out.cell (p := ⟨g, J * 4 + 2, none⟩) hgs.out).trans ka2.out, (HC.out.cell (p := ⟨g, J * 4 + 3, none⟩) hgs.out).trans ka3.out, (HC.out.cell (p := ⟨pb, poff + q, none⟩) hpbs.out).trans kcp.out⟩ (fun _ => ?_)
      clear hK K
      try go_simp
      refine wpAnyH_ready (rs := [17]) (by kernel_rfl) (by simp) ?_
      refine AllReadyH.cons rfl (fun K hK => ?_) AllReadyH.nil
      · go_simp
        have HpB := Lib.hid (show At (wqp1116.alloc (.cells #[.int .i64 0, .int .i64 0, .float .f64 0, .float .f64 0] 37)) wqp1116.heap.size RV.zero from at_new wqp1116 RV.zero)
        have hpB := HC.out.size
        have npA := HpA.out.lt; have HpA := Lib.hid (HpA.out.alloc (.cells #[.int .i64 0, .int .i64 0, .float .f64 0, .float .f64 0] 37))
        have HC := Lib.hid (HC.out.alloc HC.out.size (.cells #[.int .i64 0, .int .i64 0, .float .f64 0, .float .f64 0] 37))
        generalize hgen : wqp1116.alloc (.cells #[.int .i64 0, .int .i64 0, .float .f64 0, .float .f64 0] 37) = wqp111617 at *
        clear hgen
        refine hK.out _ _ ⟨(HC.out.cell (p := ⟨g, J * 4, none⟩) hgs.out).trans ka0.out, (HC.out.cell (p := ⟨g, J * 4 + 1, none⟩) hgs.out).trans ka1.out, (HC.out.cell (p := ⟨g, J * 4 + 2, none⟩) hgs.out).trans ka2.out, (HC.out.cell (p := ⟨g, J * 4 + 3, none⟩) hgs.out).trans ka3.out, (HC.out.cell (p := ⟨pb, poff + q, none⟩) hpbs.out).trans kcp.out⟩ (fun _ => ?_)
        clear hK K
        try go_simp
        have hne : wzp11.heap.size ≠ wqp1116.heap.size := by omega
        have pA0 := HpA.out.c0; have pA1 := HpA.out.c1; have pA2 := HpA.out.c2; have pA3 := HpA.out.c3; have pA4 := HpA.out.f0; have pA5 := HpA.out.f1; have pA6 := HpA.out.f2; have pA7 := HpA.out.f3
        refine wpAnyH_ready (rs := [18]) (by kernel_rfl) (by simp) ?_
        refine AllReadyH.cons rfl (fun K hK => ?_) AllReadyH.nil
        go_simp
        have Hm := Lib.hid (show At (((((wqp111617).setCell ⟨wzp11.heap.size, 0, none⟩ (.int .i64 sai)).setCell ⟨wzp11.heap.size, 1, none⟩ (.int .i64 sae)).setCell ⟨wzp11.heap.size, 2, none⟩ (.float .f64 sal)).setCell ⟨wzp11.heap.size, 3, none⟩ (.float .f64 sah)) wzp11.heap.size ⟨sai, sae, sal, sah⟩ from HpA.out.setAll ⟨sai, sae, sal, sah⟩)
        have Ho := Lib.hid (show At (((((wqp111617).setCell ⟨wzp11.heap.size, 0, none⟩ (.int .i64 sai)).setCell ⟨wzp11.heap.size, 1, none⟩ (.int .i64 sae)).setCell ⟨wzp11.heap.size, 2, none⟩ (.float .f64 sal)).setCell ⟨wzp11.heap.size, 3, none⟩ (.float .f64 sah)) wqp1116.heap.size RV.zero from HpB.out.set_other ⟨sai, sae, sal, sah⟩ hne.symm)
        have HC := Lib.hid (show Below wr.heap.size wr (((((wqp111617).setCell ⟨wzp11.heap.size, 0, none⟩ (.int .i64 sai)).setCell ⟨wzp11.heap.size, 1, none⟩ (.int .i64 sae)).setCell ⟨wzp11.heap.size, 2, none⟩ (.float .f64 sal)).setCell ⟨wzp11.heap.size, 3, none⟩ (.float .f64 sah)) from below_set4 HC.out hpA ⟨sai, sae, sal, sah⟩)
        clear HpA HpB pA0 pA1 pA2 pA3 pA4 pA5 pA6 pA7
        have HpA := Hm; have HpB := Ho; clear Hm Ho
        generalize ((((wqp111617).setCell ⟨wzp11.heap.size, 0, none⟩ (.int .i64 sai)).setCell ⟨wzp11.heap.size, 1, none⟩ (.int .i64 sae)).setCell ⟨wzp11.heap.size, 2, none⟩ (.float .f64 sal)).setCell ⟨wzp11.heap.size, 3, none⟩ (.float .f64 sah) = wtp11161718 at *
        refine hK.out _ _ ⟨(HC.out.cell (p := ⟨g, J * 4, none⟩) hgs.out).trans ka0.out, (HC.out.cell (p := ⟨g, J * 4 + 1, none⟩) hgs.out).trans ka1.out, (HC.out.cell (p := ⟨g, J * 4 + 2, none⟩) hgs.out).trans ka2.out, (HC.out.cell (p := ⟨g, J * 4 + 3, none⟩) hgs.out).trans ka3.out, (HC.out.cell (p := ⟨pb, poff + q, none⟩) hpbs.out).trans kcp.out⟩ (fun _ => ?_)
        clear hK K
        try go_simp
        have pB0 := HpB.out.c0; have pB1 := HpB.out.c1; have pB2 := HpB.out.c2; have pB3 := HpB.out.c3; have pB4 := HpB.out.f0; have pB5 := HpB.out.f1; have pB6 := HpB.out.f2; have pB7 := HpB.out.f3
        refine wpAnyH_ready (rs := [19]) (by kernel_rfl) (by simp) ?_
        refine AllReadyH.cons rfl (fun K hK => ?_) AllReadyH.nil
        go_simp
        have Hm := Lib.hid (show At (((((wtp11161718).setCell ⟨wqp1116.heap.size, 0, none⟩ (.int .i64 sbi)).setCell ⟨wqp1116.heap.size, 1, none⟩ (.int .i64 sbe)).setCell ⟨wqp1116.heap.size, 2, none⟩ (.float .f64 sbl)).setCell ⟨wqp1116.heap.size, 3, none⟩ (.float .f64 sbh)) wqp1116.heap.size ⟨sbi, sbe, sbl, sbh⟩ from HpB.out.setAll ⟨sbi, sbe, sbl, sbh⟩)
        have Ho := Lib.hid (show At (((((wtp11161718).setCell ⟨wqp1116.heap.size, 0, none⟩ (.int .i64 sbi)).setCell ⟨wqp1116.heap.size, 1, none⟩ (.int .i64 sbe)).setCell ⟨wqp1116.heap.size, 2, none⟩ (.float .f64 sbl)).setCell ⟨wqp1116.heap.size, 3, none⟩ (.float .f64 sbh)) wzp11.heap.size ⟨sai, sae, sal, sah⟩ from HpA.out.set_other ⟨sbi, sbe, sbl, sbh⟩ hne)
        have HC := Lib.hid (show Below wr.heap.size wr (((((wtp11161718).setCell ⟨wqp1116.heap.size, 0, none⟩ (.int .i64 sbi)).setCell ⟨wqp1116.heap.size, 1, none⟩ (.int .i64 sbe)).setCell ⟨wqp1116.heap.size, 2, none⟩ (.float .f64 sbl)).setCell ⟨wqp1116.heap.size, 3, none⟩ (.float .f64 sbh)) from below_set4 HC.out hpB ⟨sbi, sbe, sbl, sbh⟩)
        clear HpB HpA pB0 pB1 pB2 pB3 pB4 pB5 pB6 pB7
        have HpB := Hm; have HpA := Ho; clear Hm Ho
        generalize ((((wtp11161718).setCell ⟨wqp1116.heap.size, 0, none⟩ (.int .i64 sbi)).setCell ⟨wqp1116.heap.size, 1, none⟩ (.int .i64 sbe)).setCell ⟨wqp1116.heap.size, 2, none⟩ (.float .f64 sbl)).setCell ⟨wqp1116.heap.size, 3, none⟩ (.float .f64 sbh) = wtp11161719 at *
        refine hK.out _ _ ⟨(HC.out.cell (p := ⟨g, J * 4, none⟩) hgs.out).trans ka0.out, (HC.out.cell (p := ⟨g, J * 4 + 1, none⟩) hgs.out).trans ka1.out, (HC.out.cell (p := ⟨g, J * 4 + 2, none⟩) hgs.out).trans ka2.out, (HC.out.cell (p := ⟨g, J * 4 + 3, none⟩) hgs.out).trans ka3.out, (HC.out.cell (p := ⟨pb, poff + q, none⟩) hpbs.out).trans kcp.out⟩ (fun _ => ?_)
        clear hK K
        try go_simp
        refine wpAnyH_take (i := 20) (v := ?vlp111617_20) rfl (by kernel_rfl) (by kernel_rfl) (by kernel_rfl) (fun _ _ _ h => h) (Or.inl ⟨by rfl, ?ylp111617_20⟩) ⟨(HC.out.cell (p := ⟨g, J * 4, none⟩) hgs.out).trans ka0.out, (HC.out.cell (p := ⟨g, J * 4 + 1, none⟩) hgs.out).trans ka1.out, (HC.out.cell (p := ⟨g, J * 4 + 2, none⟩) hgs.out).trans ka2.out, (HC.out.cell (p := ⟨g, J * 4 + 3, none⟩) hgs.out).trans ka3.out, (HC.out.cell (p := ⟨pb, poff + q, none⟩) hpbs.out).trans kcp.out⟩ ?rlp111617_20
        case ylp111617_20 => (intro W hSw; (try dsimp only at hSw); obtain ⟨s0, s1, s2, s3, s4⟩ := hSw; first | (go_simp; done) | (go_simp; with_reducible rfl))
        try go_simp
        refine wpAnyH_done (by kernel_rfl) ?_ _
        (try go_wp2_with fail)
        go_meet
        exact ⟨_, _, rfl, rfl, rfl, HpA, HpB, hne, hpA, hpB, HC⟩
    · go_simp
      have HpB := Lib.hid (show At (wzp11.alloc (.cells #[.int .i64 0, .int .i64 0, .float .f64 0, .float .f64 0] 37)) wzp11.heap.size RV.zero from at_new wzp11 RV.zero)
      have hpB := HC.out.size
      have HC := Lib.hid (HC.out.alloc HC.out.size (.cells #[.int .i64 0, .int .i64 0, .float .f64 0, .float .f64 0] 37))
      generalize hgen : wzp11.alloc (.cells #[.int .i64 0, .int .i64 0, .float .f64 0, .float .f64 0] 37) = wqp1117 at *
      clear hgen
      refine hK.out _ _ ⟨(HC.out.cell (p := ⟨g, J * 4, none⟩) hgs.out).trans ka0.out, (HC.out.cell (p := ⟨g, J * 4 + 1, none⟩) hgs.out).trans ka1.out, (HC.out.cell (p := ⟨g, J * 4 + 2, none⟩) hgs.out).trans ka2.out, (HC.out.cell (p := ⟨g, J * 4 + 3, none⟩) hgs.out).trans ka3.out, (HC.out.cell (p := ⟨pb, poff + q, none⟩) hpbs.out).trans kcp.out⟩ (fun _ => ?_)
      clear hK K
      try go_simp
      refine wpAnyH_ready (rs := [16]) (by kernel_rfl) (by simp) ?_
      refine AllReadyH.cons rfl (fun K hK => ?_) AllReadyH.nil
      · go_simp
        have HpA := Lib.hid (show At (wqp1117.alloc (.cells #[.int .i64 0, .int .i64 0, .float .f64 0, .float .f64 0] 37)) wqp1117.heap.size RV.zero from at_new wqp1117 RV.zero)
        have hpA := HC.out.size
        have npB := HpB.out.lt; have HpB := Lib.hid (HpB.out.alloc (.cells #[.int .i64 0, .int .i64 0, .float .f64 0, .float .f64 0] 37))
        have HC := Lib.hid (HC.out.alloc HC.out.size (.cells #[.int .i64 0, .int .i64 0, .float .f64 0, .float .f64 0] 37))
        generalize hgen : wqp1117.alloc (.cells #[.int .i64 0, .int .i64 0, .float .f64 0, .float .f64 0] 37) = wqp111716 at *
        clear hgen
        refine hK.out _ _ ⟨(HC.out.cell (p := ⟨g, J * 4, none⟩) hgs.out).trans ka0.out, (HC.out.cell (p := ⟨g, J * 4 + 1, none⟩) hgs.out).trans ka1.out, (HC.out.cell (p := ⟨g, J * 4 + 2, none⟩) hgs.out).trans ka2.out, (HC.out.cell (p := ⟨g, J * 4 + 3, none⟩) hgs.out).trans ka3.out, (HC.out.cell (p := ⟨pb, poff + q, none⟩) hpbs.out).trans kcp.out⟩ (fun _ => ?_)
        clear hK K
        try go_simp
        have hne : wqp1117.heap.size ≠ wzp11.heap.size := by omega
        have pA0 := HpA.out.c0; have pA1 := HpA.out.c1; have pA2 := HpA.out.c2; have pA3 := HpA.out.c3; have pA4 := HpA.out.f0; have pA5 := HpA.out.f1; have pA6 := HpA.out.f2; have pA7 := HpA.out.f3
        refine wpAnyH_ready (rs := [18]) (by kernel_rfl) (by simp) ?_
        refine AllReadyH.cons rfl (fun K hK => ?_) AllReadyH.nil
        go_simp
        have Hm := Lib.hid (show At (((((wqp111716).setCell ⟨wqp1117.heap.size, 0, none⟩ (.int .i64 sai)).setCell ⟨wqp1117.heap.size, 1, none⟩ (.int .i64 sae)).setCell ⟨wqp1117.heap.size, 2, none⟩ (.float .f64 sal)).setCell ⟨wqp1117.heap.size, 3, none⟩ (.float .f64 sah)) wqp1117.heap.size ⟨sai, sae, sal, sah⟩ from HpA.out.setAll ⟨sai, sae, sal, sah⟩)
        have Ho := Lib.hid (show At (((((wqp111716).setCell ⟨wqp1117.heap.size, 0, none⟩ (.int .i64 sai)).setCell ⟨wqp1117.heap.size, 1, none⟩ (.int .i64 sae)).setCell ⟨wqp1117.heap.size, 2, none⟩ (.float .f64 sal)).setCell ⟨wqp1117.heap.size, 3, none⟩ (.float .f64 sah)) wzp11.heap.size RV.zero from HpB.out.set_other ⟨sai, sae, sal, sah⟩ hne.symm)
        have HC := Lib.hid (show Below wr.heap.size wr (((((wqp111716).setCell ⟨wqp1117.heap.size, 0, none⟩ (.int .i64 sai)).setCell ⟨wqp1117.heap.size, 1, none⟩ (.int .i64 sae)).setCell ⟨wqp1117.heap.size, 2, none⟩ (.float .f64 sal)).setCell ⟨wqp1117.heap.size, 3, none⟩ (.float .f64 sah)) from below_set4 HC.out hpA ⟨sai, sae, sal, sah⟩)
        clear HpA HpB pA0 pA1 pA2 pA3 pA4 pA5 pA6 pA7
        have HpA := Hm; have HpB := Ho; clear Hm Ho
        generalize ((((wqp111716).setCell ⟨wqp1117.heap.size, 0, none⟩ (.int .i64 sai)).setCell ⟨wqp1117.heap.size, 1, none⟩ (.int .i64 sae)).setCell ⟨wqp1117.heap.size, 2, none⟩ (.float .f64 sal)).setCell ⟨wqp1117.heap.size, 3, none⟩ (.float .f64 sah) = wtp11171618 at *
        refine hK.out _ _ ⟨(HC.out.cell (p := ⟨g, J * 4, none⟩) hgs.out).trans ka0.out, (HC.out.cell (p := ⟨g, J * 4 + 1, none⟩) hgs.out).trans ka1.out, (HC.out.cell (p := ⟨g, J * 4 + 2, none⟩) hgs.out).trans ka2.out, (HC.out.cell (p := ⟨g, J * 4 + 3, none⟩) hgs.out).trans ka3.out, (HC.out.cell (p := ⟨pb, poff + q, none⟩) hpbs.out).trans kcp.out⟩ (fun _ => ?_)
        clear hK K
        try go_simp
        have pB0 := HpB.out.c0; have pB1 := HpB.out.c1; have pB2 := HpB.out.c2; have pB3 := HpB.out.c3; have pB4 := HpB.out.f0; have pB5 := HpB.out.f1; have pB6 := HpB.out.f2; have pB7 := HpB.out.f3
        refine wpAnyH_ready (rs := [19]) (by kernel_rfl) (by simp) ?_
        refine AllReadyH.cons rfl (fun K hK => ?_) AllReadyH.nil
        go_simp
        have Hm := Lib.hid (show At (((((wtp11171618).setCell ⟨wzp11.heap.size, 0, none⟩ (.int .i64 sbi)).setCell ⟨wzp11.heap.size, 1, none⟩ (.int .i64 sbe)).setCell ⟨wzp11.heap.size, 2, none⟩ (.float .f64 sbl)).setCell ⟨wzp11.heap.size, 3, none⟩ (.float .f64 sbh)) wzp11.heap.size ⟨sbi, sbe, sbl, sbh⟩ from HpB.out.setAll ⟨sbi, sbe, sbl, sbh⟩)
        have Ho := Lib.hid (show At (((((wtp11171618).setCell ⟨wzp11.heap.size, 0, none⟩ (.int .i64 sbi)).setCell ⟨wzp11.heap.size, 1, none⟩ (.int .i64 sbe)).setCell ⟨wzp11.heap.size, 2, none⟩ (.float .f64 sbl)).setCell ⟨wzp11.heap.size, 3, none⟩ (.float .f64 sbh)) wqp1117.heap.size ⟨sai, sae, sal, sah⟩ from HpA.out.set_other ⟨sbi, sbe, sbl, sbh⟩ hne)
        have HC := Lib.hid (show Below wr.heap.size wr (((((wtp11171618).setCell ⟨wzp11.heap.size, 0, none⟩ (.int .i64 sbi)).setCell ⟨wzp11.heap.size, 1, none⟩ (.int .i64 sbe)).setCell ⟨wzp11.heap.size, 2, none⟩ (.float .f64 sbl)).setCell ⟨wzp11.heap.size, 3, none⟩ (.float .f64 sbh)) from below_set4 HC.out hpB ⟨sbi, sbe, sbl, sbh⟩)
        clear HpB HpA pB0 pB1 pB2 pB3 pB4 pB5 pB6 pB7
        have HpB := Hm; have HpA := Ho; clear Hm Ho
        generalize ((((wtp11171618).setCell ⟨wzp11.heap.size, 0, none⟩ (.int .i64 sbi)).setCell ⟨wzp11.heap.size, 1, none⟩ (.int .i64 sbe)).setCell ⟨wzp11.heap.size, 2, none⟩ (.float .f64 sbl)).setCell ⟨wzp11.heap.size, 3, none⟩ (.float .f64 sbh) = wtp11171619 at *
        refine hK.out _ _ ⟨(HC.out.cell (p := ⟨g, J * 4, none⟩) hgs.out).trans ka0.out, (HC.out.cell (p := ⟨g, J * 4 + 1, none⟩) hgs.out).trans ka1.out, (HC.out.cell (p := ⟨g, J * 4 + 2, none⟩) hgs.out).trans ka2.out, (HC.out.cell (p := ⟨g, J * 4 + 3, none⟩) hgs.out).trans ka3.out, (HC.out.cell (p := ⟨pb, poff + q, none⟩) hpbs.out).trans kcp.out⟩ (fun _ => ?_)
        clear hK K
        try go_simp
        refine wpAnyH_take (i := 20) (v := ?vlp111716_20) rfl (by kernel_rfl) (by kernel_rfl) (by kernel_rfl) (fun _ _ _ h => h) (Or.inl ⟨by rfl, ?ylp111716_20⟩) ⟨(HC.out.cell (p := ⟨g, J * 4, none⟩) hgs.out).trans ka0.out, (HC.out.cell (p := ⟨g, J * 4 + 1, none⟩) hgs.out).trans ka1.out, (HC.out.cell (p := ⟨g, J * 4 + 2, none⟩) hgs.out).trans ka2.out, (HC.out.cell (p := ⟨g, J * 4 + 3, none⟩) hgs.out).trans ka3.out, (HC.out.cell (p := ⟨pb, poff + q, none⟩) hpbs.out).trans kcp.out⟩ ?rlp111716_20
        case ylp111716_20 => (intro W hSw; (try dsimp only at hSw); obtain ⟨s0, s1, s2, s3, s4⟩ := hSw; first | (go_simp; done) | (go_simp; with_reducible rfl))
        try go_simp
        refine wpAnyH_done (by kernel_rfl) ?_ _
        (try go_wp2_with fail)
        go_meet
        exact ⟨_, _, rfl, rfl, rfl, HpA, HpB, hne, hpA, hpB, HC⟩
  · go_simp
    have HpA := Lib.hid (show At (wr.drew.alloc (.cells #[.int .i64 0, .int .i64 0, .float .f64 0, .float .f64 0] 37)) wr.heap.size RV.zero from at_new wr.drew RV.zero)
    have hpA := HC.out.size
    have HC := Lib.hid (HC.out.alloc HC.out.size (.cells #[.int .i64 0, .int .i64 0, .float .f64 0, .float .f64 0] 37))
    rw [show wr.drew.alloc (.cells #[.int .i64 0, .int .i64 0, .float .f64 0, .float .f64 0] 37) = (wr.alloc (.cells #[.int .i64 0, .int .i64 0, .float .f64 0, .float .f64 0] 37)).drew from rfl] at HpA HC
    generalize hgen : (wr.alloc (.cells #[.int .i64 0, .int .i64 0, .float .f64 0, .float .f64 0] 37)).drew = wqp16 at *
    clear hgen
    refine hK.out _ _ ⟨(HC.out.cell (p := ⟨g, J * 4, none⟩) hgs.out).trans ka0.out, (HC.out.cell (p := ⟨g, J * 4 + 1, none⟩) hgs.out).trans ka1.out, (HC.out.cell (p := ⟨g, J * 4 + 2, none⟩) hgs.out).trans ka2.out, (HC.out.cell (p := ⟨g, J * 4 + 3, none⟩) hgs.out).trans ka3.out, (HC.out.cell (p := ⟨pb, poff + q, none⟩) hpbs.out).trans kcp.out⟩ (fun _ => ?_)
    clear hK K
    try go_simp
    refine wpAnyH_ready (rs := [11, 17]) (by kernel_rfl) (by simp) ?_
    refine AllReadyH.cons rfl (fun K hK => ?_) (AllReadyH.cons rfl (fun K hK => ?_) AllReadyH.nil)
    · go_simp
      go_wp2_with (first | (go_at_call 22; ((with_reducible refine (HSP _).out.mono ?_); rintro e wzp1611 ⟨rfl, hb⟩; have HpA := Lib.hid (HpA.out.below hb HpA.out.lt); have HC := Lib.hid (HC.out.trans (hb.mono HC.out.size)); clear hb)))
      refine hK.out _ _ ⟨(HC.out.cell (p := ⟨g, J * 4, none⟩) hgs.out).trans ka0.out, (HC.out.cell (p := ⟨g, J * 4 + 1, none⟩) hgs.out).trans ka1.out, (HC.out.cell (p := ⟨g, J * 4 + 2, none⟩) hgs.out).trans ka2.out, (HC.out.cell (p := ⟨g, J * 4 + 3, none⟩) hgs.out).trans ka3.out, (HC.out.cell (p := ⟨pb, poff + q, none⟩) hpbs.out).trans kcp.out⟩ (fun _ => ?_)
      clear hK K
      try go_simp
      refine wpAnyH_take (i := 12) (v := ?vp1611_12) rfl (by kernel_rfl) (by kernel_rfl) (by kernel_rfl) (fun _ _ _ h => h) (Or.inl ⟨by rfl, ?yp1611_12⟩) ⟨(HC.out.cell (p := ⟨g, J * 4, none⟩) hgs.out).trans ka0.out, (HC.out.cell (p := ⟨g, J * 4 + 1, none⟩) hgs.out).trans ka1.out, (HC.out.cell (p := ⟨g, J * 4 + 2, none⟩) hgs.out).trans ka2.out, (HC.out.cell (p := ⟨g, J * 4 + 3, none⟩) hgs.out).trans ka3.out, (HC.out.cell (p := ⟨pb, poff + q, none⟩) hpbs.out).trans kcp.out⟩ ?rp1611_12
      case yp1611_12 => (intro W hSw; (try dsimp only at hSw); obtain ⟨s0, s1, s2, s3, s4⟩ := hSw; first | (go_simp; done) | (go_simp; with_reducible rfl))
      try go_simp
      refine wpAnyH_take (i := 13) (v := ?vp1611_13) rfl (by kernel_rfl) (by kernel_rfl) (by kernel_rfl) (fun _ _ _ h => h) (Or.inl ⟨by rfl, ?yp1611_13⟩) ⟨(HC.out.cell (p := ⟨g, J * 4, none⟩) hgs.out).trans ka0.out, (HC.out.cell (p := ⟨g, J * 4 + 1, none⟩) hgs.out).trans ka1.out, (HC.out.cell (p := ⟨g, J * 4 + 2, none⟩) hgs.out).trans ka2.out, (HC.out.cell (p := ⟨g, J * 4 + 3, none⟩) hgs.out).trans ka3.out, (HC.out.cell (p := ⟨pb, poff + q, none⟩) hpbs.out).trans kcp.out⟩ ?rp1611_13
      case yp1611_13 => (intro W hSw; (try dsimp only at hSw); obtain ⟨s0, s1, s2, s3, s4⟩ := hSw; first | (go_simp; done) | (go_simp; with_reducible rfl))
      try go_simp
      refine wpAnyH_take (i := 14) (v := ?vp1611_14) rfl (by kernel_rfl) (by kernel_rfl) (by kernel_rfl) (fun _ _ _ h => h) (Or.inl ⟨by rfl, ?yp1611_14⟩) ⟨(HC.out.cell (p := ⟨g, J * 4, none⟩) hgs.out).trans ka0.out, (HC.out.cell (p := ⟨g, J * 4 + 1, none⟩) hgs.out).trans ka1.out, (HC.out.cell (p := ⟨g, J * 4 + 2, none⟩) hgs.out).trans ka2.out, (HC.out.cell (p := ⟨g, J * 4 + 3, none⟩) hgs.out).trans ka3.out, (HC.out.cell (p := ⟨pb, poff + q, none⟩) hpbs.out).trans kcp.out⟩ ?rp1611_14
      case yp1611_14 => (intro W hSw; (try dsimp only at hSw); obtain ⟨s0, s1, s2, s3, s4⟩ := hSw; first | (go_simp; done) | (go_simp; with_reducible rfl))
      try go_simp
      refine wpAnyH_take (i := 15) (v := ?vp1611_15) rfl (by kernel_rfl) (by kernel_rfl) (by kernel_rfl) (fun _ _ _ h => h) (Or.inl ⟨by rfl, ?yp1611_15⟩) ⟨(HC.out.cell (p := ⟨g, J * 4, none⟩) hgs.out).trans ka0.out, (HC.out.cell (p := ⟨g, J * 4 + 1, none⟩) hgs.out).trans ka1.out, (HC.out.cell (p := ⟨g, J * 4 + 2, none⟩) hgs.out).trans ka2.out, (HC.out.cell (p := ⟨g, J * 4 + 3, none⟩) hgs.out).trans ka3.out, (HC.out.cell (p := ⟨pb, poff + q, none⟩) hpbs.out).trans kcp.out⟩ ?rp1611_15
      case yp1611_15 => (intro W hSw; (try dsimp only at hSw); obtain ⟨s0, s1, s2, s3, s4⟩ := hSw; first | (go_simp; done) | (go_simp; with_reducible rfl))
      try go_simp
      refine wpAnyH_ready (rs := [17]) (by kernel_rfl) (by simp) ?_
      refine AllReadyH.cons rfl (fun K hK => ?_) AllReadyH.nil
      · go_simp
        have HpB := Lib.hid (show At (wzp1611.alloc (.cells #[.int .i64 0, .int .i64 0, .float .f64 0, .float .f64 0] 37)) wzp1611.heap.size RV.zero from at_new wzp1611 RV.zero)
        have hpB := HC.out.size
        have npA := HpA.out.lt; have HpA := Lib.hid (HpA.out.alloc (.cells #[.int .i64 0, .int .i64 0, .float .f64 0, .float .f64 0] 37))
        have HC := Lib.hid (HC.out.alloc HC.out.size (.cells #[.int .i64 0, .int .i64 0, .float .f64 0, .float .f64 0] 37))
        generalize hgen : wzp1611.alloc (.cells #[.int .i64 0, .int .i64 0, .float .f64 0, .float .f64 0] 37) = wqp161117 at *
        clear hgen
        refine hK.out _ _ ⟨(HC.out.cell (p := ⟨g, J * 4, none⟩) hgs.out).trans ka0.out, (HC.out.cell (p := ⟨g, J * 4 + 1, none⟩) hgs.out).trans ka1.out, (HC.out.cell (p := ⟨g, J * 4 + 2, none⟩) hgs.out).trans ka2.out, (HC.out.cell (p := ⟨g, J * 4 + 3, none⟩) hgs.out).trans ka3.out, (HC.out.cell (p := ⟨pb, poff + q, none⟩) hpbs.out).trans kcp.out⟩ (fun _ => ?_)
        clear hK K
        try go_simp
        have hne : wr.heap.size ≠ wzp1611.heap.size := by omega
        have pA0 := HpA.out.c0; have pA1 := HpA.out.c1; have pA2 := HpA.out.c2; have pA3 := HpA.out.c3; have pA4 := HpA.out.f0; have pA5 := HpA.out.f1; have pA6 := HpA.out.f2; have pA7 := HpA.out.f3
        refine wpAnyH_ready (rs := [18]) (by kernel_rfl) (by simp) ?_
        refine AllReadyH.cons rfl (fun K hK => ?_) AllReadyH.nil
        go_simp
        have Hm := Lib.hid (show At (((((wqp161117).setCell ⟨wr.heap.size, 0, none⟩ (.int .i64 sai)).setCell ⟨wr.heap.size, 1, none⟩ (.int .i64 sae)).setCell ⟨wr.heap.size, 2, none⟩ (.float .f64 sal)).setCell ⟨wr.heap.size, 3, none⟩ (.float .f64 sah)) wr.heap.size ⟨sai, sae, sal, sah⟩ from HpA.out.setAll ⟨sai, sae, sal, sah⟩)
        have Ho := Lib.hid (show At (((((wqp161117).setCell ⟨wr.heap.size, 0, none⟩ (.int .i64 sai)).setCell ⟨wr.heap.size, 1, none⟩ (.int .i64 sae)).setCell ⟨wr.heap.size, 2, none⟩ (.float .f64 sal)).setCell ⟨wr.heap.size, 3, none⟩ (.float .f64 sah)) wzp1611.heap.size RV.zero from HpB.out.set_other ⟨sai, sae, sal, sah⟩ hne.symm)
        have HC := Lib.hid (show Below wr.heap.size wr (((((wqp161117).setCell ⟨wr.heap.size, 0, none⟩ (.int .i64 sai)).setCell ⟨wr.heap.size, 1, none⟩ (.int .i64 sae)).setCell ⟨wr.heap.size, 2, none⟩ (.float .f64 sal)).setCell ⟨wr.heap.size, 3, none⟩ (.float .f64 sah)) from below_set4 HC.out hpA ⟨sai, sae, sal, sah⟩)
        clear HpA HpB pA0 pA1 pA2 pA3 pA4 pA5 pA6 pA7
        have HpA := Hm; have HpB := Ho; clear Hm Ho
        generalize ((((wqp161117).setCell ⟨wr.heap.size, 0, none⟩ (.int .i64 sai)).setCell ⟨wr.heap.size, 1, none⟩ (.int .i64 sae)).setCell ⟨wr.heap.size, 2, none⟩ (.float .f64 sal)).setCell ⟨wr.heap.size, 3, none⟩ (.float .f64 sah) = wtp16111718 at *
        refine hK.out _ _ ⟨(HC.out.cell (p := ⟨g, J * 4, none⟩) hgs.out).trans ka0.out, (HC.out.cell (p := ⟨g, J * 4 + 1, none⟩) hgs.out).trans ka1.out, (HC.out.cell (p := ⟨g, J * 4 + 2, none⟩) hgs.out).trans ka2.out, (HC.out.cell (p := ⟨g, J * 4 + 3, none⟩) hgs.out).trans ka3.out, (HC.out.cell (p := ⟨pb, poff + q, none⟩) hpbs.out).trans kcp.out⟩ (fun _ => ?_)
        clear hK K
        try go_simp
        have pB0 := HpB.out.c0; have pB1 := HpB.out.c1; have pB2 := HpB.out.c2; have pB3 := HpB.out.c3; have pB4 := HpB.out.f0; have pB5 := HpB.out.f1; have pB6 := HpB.out.f2; have pB7 := HpB.out.f3
        refine wpAnyH_ready (rs := [19]) (by kernel_rfl) (by simp) ?_
        refine AllReadyH.cons rfl (fun K hK => ?_) AllReadyH.nil
        go_simp
        have Hm := Lib.hid (show At (((((wtp16111718).setCell ⟨wzp1611.heap.size, 0, none⟩ (.int .i64 sbi)).setCell ⟨wzp1611.heap.size, 1, none⟩ (.int .i64 sbe)).setCell ⟨wzp1611.heap.size, 2, none⟩ (.float .f64 sbl)).setCell ⟨wzp1611.heap.size, 3, none⟩ (.float .f64 sbh)) wzp1611.heap.size ⟨sbi, sbe, sbl, sbh⟩ from HpB.out.setAll ⟨sbi, sbe, sbl, sbh⟩)
        have Ho := Lib.hid (show At (((((wtp16111718).setCell ⟨wzp1611.heap.size, 0, none⟩ (.int .i64 sbi)).setCell ⟨wzp1611.heap.size, 1, none⟩ (.int .i64 sbe)).setCell ⟨wzp1611.heap.size, 2, none⟩ (.float .f64 sbl)).setCell ⟨wzp1611.heap.size, 3, none⟩ (.float .f64 sbh)) wr.heap.size ⟨sai, sae, sal, sah⟩ from HpA.out.set_other ⟨sbi, sbe, sbl, sbh⟩ hne)
        have HC := Lib.hid (show Below wr.heap.size wr (((((wtp16111718).setCell ⟨wzp1611.heap.size, 0, none⟩ (.int .i64 sbi)).setCell ⟨wzp1611.heap.size, 1, none⟩ (.int .i64 sbe)).setCell ⟨wzp1611.heap.size, 2, none⟩ (.float .f64 sbl)).setCell ⟨wzp1611.heap.size, 3, none⟩ (.float .f64 sbh)) from below_set4 HC.out hpB ⟨sbi, sbe, sbl, sbh⟩)
        clear HpB HpA pB0 pB1 pB2 pB3 pB4 pB5 pB6 pB7
        have HpB := Hm; have HpA := Ho; clear Hm Ho
        generalize ((((wtp16111718).setCell ⟨wzp1611.heap.size, 0, none⟩ (.int .i64 sbi)).setCell ⟨wzp1611.heap.size, 1, none⟩ (.int .i64 sbe)).setCell ⟨wzp1611.heap.size, 2, none⟩ (.float .f64 sbl)).setCell ⟨wzp1611.heap.size, 3, none⟩ (.float .f64 sbh) = wtp16111719 at *
        refine hK.out _ _ ⟨(HC.out.cell (p := ⟨g, J * 4, none⟩) hgs.out).trans ka0.out, (HC.out.cell (p := ⟨g, J * 4 + 1, none⟩) hgs.out).trans ka1.out, (HC.out.cell (p := ⟨g, J * 4 + 2, none⟩) hgs.out).trans ka2.out, (HC.out.cell (p := ⟨g, J * 4 + 3, none⟩) hgs.out).trans ka3.out, (HC.out.cell (p := ⟨pb, poff + q, none⟩) hpbs.out).trans kcp.out⟩ (fun _ => ?_)
        clear hK K
        try go_simp
        refine wpAnyH_take (i := 20) (v := ?vlp161117_20) rfl (by kernel_rfl) (by kernel_rfl) (by kernel_rfl) (fun _ _ _ h => h) (Or.inl ⟨by rfl, ?ylp161117_20⟩) ⟨(HC.out.cell (p := ⟨g, J * 4, none⟩) hgs.out).trans ka0.out, (HC.out.cell (p := ⟨g, J * 4 + 1, none⟩) hgs.out).trans ka1.out, (HC.out.cell (p := ⟨g, J * 4 + 2, none⟩) hgs.out).trans ka2.out, (HC.out.cell (p := ⟨g, J * 4 + 3, none⟩) hgs.out).trans ka3.out, (HC.out.cell (p := ⟨pb, poff + q, none⟩) hpbs.out).trans kcp.out⟩ ?rlp161117_20
        case ylp161117_20 => (intro W hSw; (try dsimp only at hSw); obtain ⟨s0, s1, s2, s3, s4⟩ := hSw; first | (go_simp; done) | (go_simp; with_reducible rfl))
        try go_simp
        refine wpAnyH_done (by kernel_rfl) ?_ _
        (try go_wp2_with fail)
        go_meet
        exact ⟨_, _, rfl, rfl, rfl, HpA, HpB, hne, hpA, hpB, HC⟩
    · go_simp
      have HpB := Lib.hid (show At (wqp16.alloc (.cells #[.int .i64 0, .int .i64 0, .float .f64 0, .float .f64 0] 37)) wqp16.heap.size RV.zero from at_new wqp16 RV.zero)
      have hpB := HC.out.size
      have npA := HpA.out.lt; have HpA := Lib.hid (HpA.out.alloc (.cells #[.int .i64 0, .int .i64 0, .float .f64 0, .float .f64 0] 37))
      have HC := Lib.hid (HC.out.alloc HC.out.size (.cells #[.int .i64 0, .int .i64 0, .float .f64 0, .float .f64 0] 37))
      generalize hgen : wqp16.alloc (.cells #[.int .i64 0, .int .i64 0, .float .f64 0, .float .f64 0] 37) = wqp1617 at *
      clear hgen
      refine hK.out _ _ ⟨(HC.out.cell (p := ⟨g, J * 4, none⟩) hgs.out).trans ka0.out, (HC.out.cell (p := ⟨g, J * 4 + 1, none⟩) hgs.out).trans ka1.out, (HC.out.cell (p := ⟨g, J * 4 + 2, none⟩) hgs.out).trans ka2.out, (HC.out.cell (p := ⟨g, J * 4 + 3, none⟩) hgs.out).trans ka3.out, (HC.out.cell (p := ⟨pb, poff + q, none⟩) hpbs.out).trans kcp.out⟩ (fun _ => ?_)
      clear hK K
      try go_simp
      refine wpAnyH_ready (rs := [11]) (by kernel_rfl) (by simp) ?_
      refine AllReadyH.cons rfl (fun K hK => ?_) AllReadyH.nil
      · go_simp
        go_wp2_with (first | (go_at_call 22; ((with_reducible refine (HSP _).out.mono ?_); rintro e wzp161711 ⟨rfl, hb⟩; have HpA := Lib.hid (HpA.out.below hb HpA.out.lt); have HpB := Lib.hid (HpB.out.below hb HpB.out.lt); have HC := Lib.hid (HC.out.trans (hb.mono HC.out.size)); clear hb)))
        refine hK.out _ _ ⟨(HC.out.cell (p := ⟨g, J * 4, none⟩) hgs.out).trans ka0.out, (HC.out.cell (p := ⟨g, J * 4 + 1, none⟩) hgs.out).trans ka1.out, (HC.out.cell (p := ⟨g, J * 4 + 2, none⟩) hgs.out).trans ka2.out, (HC.out.cell (p := ⟨g, J * 4 + 3, none⟩) hgs.out).trans ka3.out, (HC.out.cell (p := ⟨pb, poff + q, none⟩) hpbs.out).trans kcp.out⟩ (fun _ => ?_)
        clear hK K
        try go_simp
        refine wpAnyH_take (i := 12) (v := ?vp161711_12) rfl (by kernel_rfl) (by kernel_rfl) (by kernel_rfl) (fun _ _ _ h => h) (Or.inl ⟨by rfl, ?yp161711_12⟩) ⟨(HC.out.cell (p := ⟨g, J * 4, none⟩) hgs.out).trans ka0.out, (HC.out.cell (p := ⟨g, J * 4 + 1, none⟩) hgs.out).trans ka1.out, (HC.out.cell (p := ⟨g, J * 4 + 2, none⟩) hgs.out).trans ka2.out, (HC.out.cell (p := ⟨g, J * 4 + 3, none⟩) hgs.out).trans ka3.out, (HC.out.cell (p := ⟨pb, poff + q, none⟩) hpbs.out).trans kcp.out⟩ ?rp161711_12
        case yp161711_12 => (intro W hSw; (try dsimp only at hSw); obtain ⟨s0, s1, s2, s3, s4⟩ := hSw; first | (go_simp; done) | (go_simp; with_reducible rfl))
        try go_simp
        refine wpAnyH_take (i := 13) (v := ?vp161711_13) rfl (by kernel_rfl) (by kernel_rfl) (by kernel_rfl) (fun _ _ _ h => h) (Or.inl ⟨by rfl, ?yp161711_13⟩) ⟨(HC.out.cell (p := ⟨g, J * 4, none⟩) hgs.out).trans ka0.out, (HC.out.cell (p := ⟨g, J * 4 + 1, none⟩) hgs.out).trans ka1.out, (HC.out.cell (p := ⟨g, J * 4 + 2, none⟩) hgs.out).trans ka2.out, (HC.out.cell (p := ⟨g, J * 4 + 3, none⟩) hgs.out).trans ka3.out, (HC.out.cell (p := ⟨pb, poff + q, none⟩) hpbs.out).trans kcp.out⟩ ?rp161711_13
        case yp161711_13 => (intro W hSw; (try dsimp only at hSw); obtain ⟨s0, s1, s2, s3, s4⟩ := hSw; first | (go_simp; done) | (go_simp; with_reducible rfl))
        try go_simp
        refine wpAnyH_take (i := 14) (v := ?vp161711_14) rfl (by kernel_rfl) (by kernel_rfl) (by kernel_rfl) (fun _ _ _ h => h) (Or.inl ⟨by rfl, ?yp161711_14⟩) ⟨(HC.out.cell (p := ⟨g, J * 4, none⟩) hgs.out).trans ka0.out, (HC.out.cell (p := ⟨g, J * 4 + 1, none⟩) hgs.out).trans ka1.out, (HC.out.cell (p := ⟨g, J * 4 + 2, none⟩) hgs.out).trans ka2.out, (HC.out.cell (p := ⟨g, J * 4 + 3, none⟩) hgs.out).trans ka3.out, (HC.out.cell (p := ⟨pb, poff + q, none⟩) hpbs.out).trans kcp.out⟩ ?rp161711_14
        case yp161711_14 => (intro W hSw; (try dsimp only at hSw); obtain ⟨s0, s1, s2, s3, s4⟩ := hSw; first | (go_simp; done) | (go_simp; with_reducible rfl))
        try go_simp
        refine wpAnyH_take (i := 15) (v := ?vp161711_15) rfl (by kernel_rfl) (by kernel_rfl) (by kernel_rfl) (fun _ _ _ h => h) (Or.inl ⟨by rfl, ?yp161711_15⟩) ⟨(HC.out.cell (p := ⟨g, J * 4, none⟩) hgs.out).trans ka0.out, (HC.out.cell (p := ⟨g, J * 4 + 1, none⟩) hgs.out).trans ka1.out, (HC.out.cell (p := ⟨g, J * 4 + 2, none⟩) hgs.out).trans ka2.out, (HC.out.cell (p := ⟨g, J * 4 + 3, none⟩) hgs.out).trans ka3.out, (HC.out.cell (p := ⟨pb, poff + q, none⟩) hpbs.out).trans kcp.out⟩ ?rp161711_15
        case yp161711_15 => (intro W hSw; (try dsimp only at hSw); obtain ⟨s0, s1, s2, s3, s4⟩ := hSw; first | (go_simp; done) | (go_simp; with_reducible rfl))
        try go_simp
        have hne : wr.heap.size ≠ wqp16.heap.size := by omega
        have pA0 := HpA.out.c0; have pA1 := HpA.out.c1; have pA2 := HpA.out.c2; have pA3 := HpA.out.c3; have pA4 := HpA.out.f0; have pA5 := HpA.out.f1; have pA6 := HpA.out.f2; have pA7 := HpA.out.f3
        refine wpAnyH_ready (rs := [18]) (by kernel_rfl) (by simp) ?_
        refine AllReadyH.cons rfl (fun K hK => ?_) AllReadyH.nil
        go_simp
        have Hm := Lib.hid (show At (((((wzp161711).setCell ⟨wr.heap.size, 0, none⟩ (.int .i64 sai)).setCell ⟨wr.heap.size, 1, none⟩ (.int .i64 sae)).setCell ⟨wr.heap.size, 2, none⟩ (.float .f64 sal)).setCell ⟨wr.heap.size, 3, none⟩ (.float .f64 sah)) wr.heap.size ⟨sai, sae, sal, sah⟩ from HpA.out.setAll ⟨sai, sae, sal, sah⟩)
        have Ho := Lib.hid (show At (((((wzp161711).setCell ⟨wr.heap.size, 0, none⟩ (.int .i64 sai)).setCell ⟨wr.heap.size, 1, none⟩ (.int .i64 sae)).setCell ⟨wr.heap.size, 2, none⟩ (.float .f64 sal)).setCell ⟨wr.heap.size, 3, none⟩ (.float .f64 sah)) wqp16.heap.size RV.zero from HpB.out.set_other ⟨sai, sae, sal, sah⟩ hne.symm)
        have HC := Lib.hid (show Below wr.heap.size wr (((((wzp161711).setCell ⟨wr.heap.size, 0, none⟩ (.int .i64 sai)).setCell ⟨wr.heap.size, 1, none⟩ (.int .i64 sae)).setCell ⟨wr.heap.size, 2, none⟩ (.float .f64 sal)).setCell ⟨wr.heap.size, 3, none⟩ (.float .f64 sah)) from below_set4 HC.out hpA ⟨sai, sae, sal, sah⟩)
        clear HpA HpB pA0 pA1 pA2 pA3 pA4 pA5 pA6 pA7
        have HpA := Hm; have HpB := Ho; clear Hm Ho
        generalize ((((wzp161711).setCell ⟨wr.heap.size, 0, none⟩ (.int .i64 sai)).setCell ⟨wr.heap.size, 1, none⟩ (.int .i64 sae)).setCell ⟨wr.heap.size, 2, none⟩ (.float .f64 sal)).setCell ⟨wr.heap.size, 3, none⟩ (.float .f64 sah) = wtp16171118 at *
        refine hK.out _ _ ⟨(HC.out.cell (p := ⟨g, J * 4, none⟩) hgs.out).trans ka0.out, (HC.out.cell (p := ⟨g, J * 4 + 1, none⟩) hgs.out).trans ka1.out, (HC.out.cell (p := ⟨g, J * 4 + 2, none⟩) hgs.out).trans ka2.out, (HC.out.cell (p := ⟨g, J * 4 + 3, none⟩) hgs.out).trans ka3.out, (HC.out.cell (p := ⟨pb, poff + q, none⟩) hpbs.out).trans kcp.out⟩ (fun _ => ?_)
        clear hK K
        try go_simp
        have pB0 := HpB.out.c0; have pB1 := HpB.out.c1; have pB2 := HpB.out.c2; have pB3 := HpB.out.c3; have pB4 := HpB.out.f0; have pB5 := HpB.out.f1; have pB6 := HpB.out.f2; have pB7 := HpB.out.f3
        refine wpAnyH_ready (rs := [19]) (by kernel_rfl) (by simp) ?_
        refine AllReadyH.cons rfl (fun K hK => ?_) AllReadyH.nil
        go_simp
        have Hm := Lib.hid (show At (((((wtp16171118).setCell ⟨wqp16.heap.size, 0, none⟩ (.int .i64 sbi)).setCell ⟨wqp16.heap.size, 1, none⟩ (.int .i64 sbe)).setCell ⟨wqp16.heap.size, 2, none⟩ (.float .f64 sbl)).setCell ⟨wqp16.heap.size, 3, none⟩ (.float .f64 sbh)) wqp16.heap.size ⟨sbi, sbe, sbl, sbh⟩ from HpB.out.setAll ⟨sbi, sbe, sbl, sbh⟩)
        have Ho := Lib.hid (show At (((((wtp16171118).setCell ⟨wqp16.heap.size, 0, none⟩ (.int .i64 sbi)).setCell ⟨wqp16.heap.size, 1, none⟩ (.int .i64 sbe)).setCell ⟨wqp16.heap.size, 2, none⟩ (.float .f64 sbl)).setCell ⟨wqp16.heap.size, 3, none⟩ (.float .f64 sbh)) wr.heap.size ⟨sai, sae, sal, sah⟩ from HpA.out.set_other ⟨sbi, sbe, sbl, sbh⟩ hne)
        have HC := Lib.hid (show Below wr.heap.size wr (((((wtp16171118).setCell ⟨wqp16.heap.size, 0, none⟩ (.int .i64 sbi)).setCell ⟨wqp16.heap.size, 1, none⟩ (.int .i64 sbe)).setCell ⟨wqp16.heap.size, 2, none⟩ (.float .f64 sbl)).setCell ⟨wqp16.heap.size, 3, none⟩ (.float .f64 sbh)) from below_set4 HC.out hpB ⟨sbi, sbe, sbl, sbh⟩)
        clear HpB HpA pB0 pB1 pB2 pB3 pB4 pB5 pB6 pB7
        have HpB := Hm; have HpA := Ho; clear Hm Ho
        generalize ((((wtp16171118).setCell ⟨wqp16.heap.size, 0, none⟩ (.int .i64 sbi)).setCell ⟨wqp16.heap.size, 1, none⟩ (.int .i64 sbe)).setCell ⟨wqp16.heap.size, 2, none⟩ (.float .f64 sbl)).setCell ⟨wqp16.heap.size, 3, none⟩ (.float .f64 sbh) = wtp16171119 at *
        refine hK.out _ _ ⟨(HC.out.cell (p := ⟨g, J * 4, none⟩) hgs.out).trans ka0.out, (HC.out.cell (p := ⟨g, J * 4 + 1, none⟩) hgs.out).trans ka1.out, (HC.out.cell (p := ⟨g, J * 4 + 2, none⟩) hgs.out).trans ka2.out, (HC.out.cell (p := ⟨g, J * 4 + 3, none⟩) hgs.out).trans ka3.out, (HC.out.cell (p := ⟨pb, poff + q, none⟩) hpbs.out).trans kcp.out⟩ (fun _ => ?_)
        clear hK K
        try go_simp
        refine wpAnyH_take (i := 20) (v := ?vlp161711_20) rfl (by kernel_rfl) (by kernel_rfl) (by kernel_rfl) (fun _ _ _ h => h) (Or.inl ⟨by rfl, ?ylp161711_20⟩) ⟨(HC.out.cell (p := ⟨g, J * 4, none⟩) hgs.out).trans ka0.out, (HC.out.cell (p := ⟨g, J * 4 + 1, none⟩) hgs.out).trans ka1.out, (HC.out.cell (p := ⟨g, J * 4 + 2, none⟩) hgs.out).trans ka2.out, (HC.out.cell (p := ⟨g, J * 4 + 3, none⟩) hgs.out).trans ka3.out, (HC.out.cell (p := ⟨pb, poff + q, none⟩) hpbs.out).trans kcp.out⟩ ?rlp161711_20
        case ylp161711_20 => (intro W hSw; (try dsimp only at hSw); obtain ⟨s0, s1, s2, s3, s4⟩ := hSw; first | (go_simp; done) | (go_simp; with_reducible rfl))
        try go_simp
        refine wpAnyH_done (by kernel_rfl) ?_ _
        (try go_wp2_with fail)
        go_meet
        exact ⟨_, _, rfl, rfl, rfl, HpA, HpB, hne, hpA, hpB, HC⟩
  · go_simp
    have HpB := Lib.hid (show At (wr.drew.alloc (.cells #[.int .i64 0, .int .i64 0, .float .f64 0, .float .f64 0] 37)) wr.heap.size RV.zero from at_new wr.drew RV.zero)
    have hpB := HC.out.size
    have HC := Lib.hid (HC.out.alloc HC.out.size (.cells #[.int .i64 0, .int .i64 0, .float .f64 0, .float .f64 0] 37))
    rw [show wr.drew.alloc (.cells #[.int .i64 0, .int .i64 0, .float .f64 0, .float .f64 0] 37) = (wr.alloc (.cells #[.int .i64 0, .int .i64 0, .float .f64 0, .float .f64 0] 37)).drew from rfl] at HpB HC
    generalize hgen : (wr.alloc (.cells #[.int .i64 0, .int .i64 0, .float .f64 0, .float .f64 0] 37)).drew = wqp17 at *
    clear hgen
    refine hK.out _ _ ⟨(HC.out.cell (p := ⟨g, J * 4, none⟩) hgs.out).trans ka0.out, (HC.out.cell (p := ⟨g, J * 4 + 1, none⟩) hgs.out).trans ka1.out, (HC.out.cell (p := ⟨g, J * 4 + 2, none⟩) hgs.out).trans ka2.out, (HC.out.cell (p := ⟨g, J * 4 + 3, none⟩) hgs.out).trans ka3.out, (HC.out.cell (p := ⟨pb, poff + q, none⟩) hpbs.out).trans kcp.out⟩ (fun _ => ?_)
    clear hK K
    try go_simp
    refine wpAnyH_ready (rs := [11, 16]) (by kernel_rfl) (by simp) ?_
    refine AllReadyH.cons rfl (fun K hK => ?_) (AllReadyH.cons rfl (fun K hK => ?_) AllReadyH.nil)
    · go_simp
      go_wp2_with (first | (go_at_call 22; ((with_reducible refine (HSP _).out.mono ?_); rintro e wzp1711 ⟨rfl, hb⟩; have HpB := Lib.hid (HpB.out.below hb HpB.out.lt); have HC := Lib.hid (HC.out.trans (hb.mono HC.out.size)); clear hb)))
      refine hK.out _ _ ⟨(HC.out.cell (p := ⟨g, J * 4, none⟩) hgs.out).trans ka0.out, (HC.out.cell (p := ⟨g, J * 4 + 1, none⟩) hgs.out).trans ka1.out, (HC.out.cell (p := ⟨g, J * 4 + 2, none⟩) hgs.out).trans ka2.out, (HC.out.cell (p := ⟨g, J * 4 + 3, none⟩) hgs.out).trans ka3.out, (HC.out.cell (p := ⟨pb, poff + q, none⟩) hpbs.out).trans kcp.out⟩ (fun _ => ?_)
      clear hK K
      try go_simp
      refine wpAnyH_take (i := 12) (v := ?vp1711_12) rfl (by kernel_rfl) (by kernel_rfl) (by kernel_rfl) (fun _ _ _ h => h) (Or.inl ⟨by rfl, ?yp1711_12⟩) ⟨(HC.out.cell (p := ⟨g, J * 4, none⟩) hgs.out).trans ka0.out, (HC.out.cell (p := ⟨g, J * 4 + 1, none⟩) hgs.out).trans ka1.out, (HC.out.cell (p := ⟨g, J * 4 + 2, none⟩) hgs.out).trans ka2.out, (HC.out.cell (p := ⟨g, J * 4 + 3, none⟩) hgs.out).trans ka3.out, (HC.out.cell (p := ⟨pb, poff + q, none⟩) hpbs.out).trans kcp.out⟩ ?rp1711_12
      case yp1711_12 => (intro W hSw; (try dsimp only at hSw); obtain ⟨s0, s1, s2, s3, s4⟩ := hSw; first | (go_simp; done) | (go_simp; with_reducible rfl))
      try go_simp
      refine wpAnyH_take (i := 13) (v := ?vp1711_13) rfl (by kernel_rfl) (by kernel_rfl) (by kernel_rfl) (fun _ _ _ h => h) (Or.inl ⟨by rfl, ?yp1711_13⟩) ⟨(HC.out.cell (p := ⟨g, J * 4, none⟩) hgs.out).trans ka0.out, (HC.out.cell (p := ⟨g, J * 4 + 1, none⟩) hgs.out).trans ka1.out, (HC.out.cell (p := ⟨g, J * 4 + 2, none⟩) hgs.out).trans ka2.out, (HC.out.cell (p := ⟨g, J * 4 + 3, none⟩) hgs.out).trans ka3.out, (HC.out.cell (p := ⟨pb, poff + q, none⟩) hpbs.out).trans kcp.out⟩ ?rp1711_13
      case yp1711_13 => (intro W hSw; (try dsimp only at hSw); obtain ⟨s0, s1, s2, s3, s4⟩ := hSw; first | (go_simp; done) | (go_simp; with_reducible rfl))
      try go_simp
      refine wpAnyH_take (i := 14) (v := ?vp1711_14) rfl (by kernel_rfl) (by kernel_rfl) (by kernel_rfl) (fun _ _ _ h => h) (Or.inl ⟨by rfl, ?yp1711_14⟩) ⟨(HC.out.cell (p := ⟨g, J * 4, none⟩) hgs.out).trans ka0.out, (HC.out.cell (p := ⟨g, J * 4 + 1, none⟩) hgs.out).trans ka1.out, (HC.out.cell (p := ⟨g, J * 4 + 2, none⟩) hgs.out).trans ka2.out, (HC.out.cell (p := ⟨g, J * 4 + 3, none⟩) hgs.out).trans ka3.out, (HC.out.cell (p := ⟨pb, poff + q, none⟩) hpbs.out).trans kcp.out⟩ ?rp1711_14
      case yp1711_14 => (intro W hSw; (try dsimp only at hSw); obtain ⟨s0, s1, s2, s3, s4⟩ := hSw; first | (go_simp; done) | (go_simp; with_reducible rfl))
      try go_simp
      refine wpAnyH_take (i := 15) (v := ?vp1711_15) rfl (by kernel_rfl) (by kernel_rfl) (by kernel_rfl) (fun _ _ _ h => h) (Or.inl ⟨by rfl, ?yp1711_15⟩) ⟨(HC.out.cell (p := ⟨g, J * 4, none⟩) hgs.out).trans ka0.out, (HC.out.cell (p := ⟨g, J * 4 + 1, none⟩) hgs.out).trans ka1.out, (HC.out.cell (p := ⟨g, J * 4 + 2, none⟩) hgs.out).trans ka2.out, (HC.out.cell (p := ⟨g, J * 4 + 3, none⟩) hgs.out).trans ka3.out, (HC.out.cell (p := ⟨pb, poff + q, none⟩) hpbs.out).trans kcp.out⟩ ?rp1711_15
      case yp1711_15 => (intro W hSw; (try dsimp only at hSw); obtain ⟨s0, s1, s2, s3, s4⟩ := hSw; first | (go_simp; done) | (go_simp; with_reducible rfl))
      try go_simp
      refine wpAnyH_ready (rs := [16]) (by kernel_rfl) (by simp) ?_
      refine AllReadyH.cons rfl (fun K hK => ?_) AllReadyH.nil
      · go_simp
        have HpA := Lib.hid (show At (wzp1711.alloc (.cells #[.int .i64 0, .int .i64 0, .float .f64 0, .float .f64 0] 37)) wzp1711.heap.size RV.zero from at_new wzp1711 RV.zero)
        have hpA := HC.out.size
        have npB := HpB.out.lt; have HpB := Lib.hid (HpB.out.alloc (.cells #[.int .i64 0, .int .i64 0, .float .f64 0, .float .f64 0] 37))
        have HC := Lib.hid (HC.out.alloc HC.out.size (.cells #[.int .i64 0, .int .i64 0, .float .f64 0, .float .f64 0] 37))
        generalize hgen : wzp1711.alloc (.cells #[.int .i64 0, .int .i64 0, .float .f64 0, .float .f64 0] 37) = wqp171116 at *
        clear hgen
        refine hK.out _ _ ⟨(HC.out.cell (p := ⟨g, J * 4, none⟩) hgs.out).trans ka0.out, (HC.out.cell (p := ⟨g, J * 4 + 1, none⟩) hgs.out).trans ka1.out, (HC.out.cell (p := ⟨g, J * 4 + 2, none⟩) hgs.out).trans ka2.out, (HC.out.cell (p := ⟨g, J * 4 + 3, none⟩) hgs.out).trans ka3.out, (HC.out.cell (p := ⟨pb, poff + q, none⟩) hpbs.out).trans kcp.out⟩ (fun _ => ?_)
        clear hK K
        try go_simp
        have hne : wzp1711.heap.size ≠ wr.heap.size := by omega
        have pA0 := HpA.out.c0; have pA1 := HpA.out.c1; have pA2 := HpA.out.c2; have pA3 := HpA.out.c3; have pA4 := HpA.out.f0; have pA5 := HpA.out.f1; have pA6 := HpA.out.f2; have pA7 := HpA.out.f3
        refine wpAnyH_ready (rs := [18]) (by kernel_rfl) (by simp) ?_
        refine AllReadyH.cons rfl (fun K hK => ?_) AllReadyH.nil
        go_simp
        have Hm := Lib.hid (show At (((((wqp171116).setCell ⟨wzp1711.heap.size, 0, none⟩ (.int .i64 sai)).setCell ⟨wzp1711.heap.size, 1, none⟩ (.int .i64 sae)).setCell ⟨wzp1711.heap.size, 2, none⟩ (.float .f64 sal)).setCell ⟨wzp1711.heap.size, 3, none⟩ (.float .f64 sah)) wzp1711.heap.size ⟨sai, sae, sal, sah⟩ from HpA.out.setAll ⟨sai, sae, sal, sah⟩)
        have Ho := Lib.hid (show At (((((wqp171116).setCell ⟨wzp1711.heap.size, 0, none⟩ (.int .i64 sai)).setCell ⟨wzp1711.heap.size, 1, none⟩ (.int .i64 sae)).setCell ⟨wzp1711.heap.size, 2, none⟩ (.float .f64 sal)).setCell ⟨wzp1711.heap.size, 3, none⟩ (.float .f64 sah)) wr.heap.size RV.zero from HpB.out.set_other ⟨sai, sae, sal, sah⟩ hne.symm)
        have HC := Lib.hid (show Below wr.heap.size wr (((((wqp171116).setCell ⟨wzp1711.heap.size, 0, none⟩ (.int .i64 sai)).setCell ⟨wzp1711.heap.size, 1, none⟩ (.int .i64 sae)).setCell ⟨wzp1711.heap.size, 2, none⟩ (.float .f64 sal)).setCell ⟨wzp1711.heap.size, 3, none⟩ (.float .f64 sah)) from below_set4 HC.out hpA ⟨sai, sae, sal, sah⟩)
        clear HpA HpB pA0 pA1 pA2 pA3 pA4 pA5 pA6 pA7
        have HpA := Hm; have HpB := Ho; clear Hm Ho
        generalize ((((wqp171116).setCell ⟨wzp1711.heap.size, 0, none⟩ (.int .i64 sai)).setCell ⟨wzp1711.heap.size, 1, none⟩ (.int .i64 sae)).setCell ⟨wzp1711.heap.size, 2, none⟩ (.float .f64 sal)).setCell ⟨wzp1711.heap.size, 3, none⟩ (.float .f64 sah) = wtp17111618 at *
        refine hK.out _ _ ⟨(HC.out.cell (p := ⟨g, J * 4, none⟩) hgs.out).trans ka0.out, (HC.out.cell (p := ⟨g, J * 4 + 1, none⟩) hgs.out).trans ka1.out, (HC.out.cell (p := ⟨g, J * 4 + 2, none⟩) hgs.out).trans ka2.out, (HC.out.cell (p := ⟨g, J * 4 + 3, none⟩) hgs.out).trans ka3.out, (HC.out.cell (p := ⟨pb, poff + q, none⟩) hpbs.out).trans kcp.out⟩ (fun _ => ?_)
        clear hK K
        try go_simp
        have pB0 := HpB.out.c0; have pB1 := HpB.out.c1; have pB2 := HpB.out.c2; have pB3 := HpB.out.c3; have pB4 := HpB.out.f0; have pB5 := HpB.out.f1; have pB6 := HpB.out.f2; have pB7 := HpB.out.f3
        refine wpAnyH_ready (rs := [19]) (by kernel_rfl) (by simp) ?_
        refine AllReadyH.cons rfl (fun K hK => ?_) AllReadyH.nil
        go_simp
        have Hm := Lib.hid (show At (((((wtp17111618).setCell ⟨wr.heap.size, 0, none⟩ (.int .i64 sbi)).setCell ⟨wr.heap.size, 1, none⟩ (.int .i64 sbe)).setCell ⟨wr.heap.size, 2, none⟩ (.float .f64 sbl)).setCell ⟨wr.heap.size, 3, none⟩ (.float .f64 sbh)) wr.heap.size ⟨sbi, sbe, sbl, sbh⟩ from HpB.out.setAll ⟨sbi, sbe, sbl, sbh⟩)
        have Ho := Lib.hid (show At (((((wtp17111618).setCell ⟨wr.heap.size, 0, none⟩ (.int .i64 sbi)).setCell ⟨wr.heap.size, 1, none⟩ (.int .i64 sbe)).setCell ⟨wr.heap.size, 2, none⟩ (.float .f64 sbl)).setCell ⟨wr.heap.size, 3, none⟩ (.float .f64 sbh)) wzp1711.heap.size ⟨sai, sae, sal, sah⟩ from HpA.out.set_other ⟨sbi, sbe, sbl, sbh⟩ hne)
        have HC := Lib.hid (show Below wr.heap.size wr (((((wtp17111618).setCell ⟨wr.heap.size, 0, none⟩ (.int .i64 sbi)).setCell ⟨wr.heap.size, 1, none⟩ (.int .i64 sbe)).setCell ⟨wr.heap.size, 2, none⟩ (.float .f64 sbl)).setCell ⟨wr.heap.size, 3, none⟩ (.float .f64 sbh)) from below_set4 HC.out hpB ⟨sbi, sbe, sbl, sbh⟩)
        clear HpB HpA pB0 pB1 pB2 pB3 pB4 pB5 pB6 pB7
        have HpB := Hm; have HpA := Ho; clear Hm Ho
        generalize ((((wtp17111618).setCell ⟨wr.heap.size, 0, none⟩ (.int .i64 sbi)).setCell ⟨wr.heap.size, 1, none⟩ (.int .i64 sbe)).setCell ⟨wr.heap.size, 2, none⟩ (.float .f64 sbl)).setCell ⟨wr.heap.size, 3, none⟩ (.float .f64 sbh) = wtp17111619 at *
        refine hK.out _ _ ⟨(HC.out.cell (p := ⟨g, J * 4, none⟩) hgs.out).trans ka0.out, (HC.out.cell (p := ⟨g, J * 4 + 1, none⟩) hgs.out).trans ka1.out, (HC.out.cell (p := ⟨g, J * 4 + 2, none⟩) hgs.out).trans ka2.out, (HC.out.cell (p := ⟨g, J * 4 + 3, none⟩) hgs.out).trans ka3.out, (HC.out.cell (p := ⟨pb, poff + q, none⟩) hpbs.out).trans kcp.out⟩ (fun _ => ?_)
        clear hK K
        try go_simp
        refine wpAnyH_take (i := 20) (v := ?vlp171116_20) rfl (by kernel_rfl) (by kernel_rfl) (by kernel_rfl) (fun _ _ _ h => h) (Or.inl ⟨by rfl, ?ylp171116_20⟩) ⟨(HC.out.cell (p := ⟨g, J * 4, none⟩) hgs.out).trans ka0.out, (HC.out.cell (p := ⟨g, J * 4 + 1, none⟩) hgs.out).trans ka1.out, (HC.out.cell (p := ⟨g, J * 4 + 2, none⟩) hgs.out).trans ka2.out, (HC.out.cell (p := ⟨g, J * 4 + 3, none⟩) hgs.out).trans ka3.out, (HC.out.cell (p := ⟨pb, poff + q, none⟩) hpbs.out).trans kcp.out⟩ ?rlp171116_20
        case ylp171116_20 => (intro W hSw; (try dsimp only at hSw); obtain ⟨s0, s1, s2, s3, s4⟩ := hSw; first | (go_simp; done) | (go_simp; with_reducible rfl))
        try go_simp
        refine wpAnyH_done (by kernel_rfl) ?_ _
        (try go_wp2_with fail)
        go_meet
        exact ⟨_, _, rfl, rfl, rfl, HpA, HpB, hne, hpA, hpB, HC⟩
    · go_simp
      have HpA := Lib.hid (show At (wqp17.alloc (.cells #[.int .i64 0, .int .i64 0, .float .f64 0, .float .f64 0] 37)) wqp17.heap.size RV.zero from at_new wqp17 RV.zero)
      have hpA := HC.out.size
      have npB := HpB.out.lt; have HpB := Lib.hid (HpB.out.alloc (.cells #[.int .i64 0, .int .i64 0, .float .f64 0, .float .f64 0] 37))
      have HC := Lib.hid (HC.out.alloc HC.out.size (.cells #[.int .i64 0, .int .i64 0, .float .f64 0, .float .f64 0] 37))
      generalize hgen : wqp17.alloc (.cells #[.int .i64 0, .int .i64 0, .float .f64 0, .float .f64 0] 37) = wqp1716 at *
      clear hgen
      refine hK.out _ _ ⟨(HC.out.cell (p := ⟨g, J * 4, none⟩) hgs.out).trans ka0.out, (HC.out.cell (p := ⟨g, J * 4 + 1, none⟩) hgs.out).trans ka1.out, (HC.out.cell (p := ⟨g, J * 4 + 2, none⟩) hgs.out).trans ka2.out, (HC.out.cell (p := ⟨g, J * 4 + 3, none⟩) hgs.out).trans ka3.out, (HC.out.cell (p := ⟨pb, poff + q, none⟩) hpbs.out).trans kcp.out⟩ (fun _ => ?_)
      clear hK K
      try go_simp
      refine wpAnyH_ready (rs := [11]) (by kernel_rfl) (by simp) ?_
      refine AllReadyH.cons rfl (fun K hK => ?_) AllReadyH.nil
      · go_simp
        go_wp2_with (first | (go_at_call 22; ((with_reducible refine (HSP _).out.mono ?_); rintro e wzp171611 ⟨rfl, hb⟩; have HpB := Lib.hid (HpB.out.below hb HpB.out.lt); have HpA := Lib.hid (HpA.out.below hb HpA.out.lt); have HC := Lib.hid (HC.out.trans (hb.mono HC.out.size)); clear hb)))
        refine hK.out _ _ ⟨(HC.out.cell (p := ⟨g, J * 4, none⟩) hgs.out).trans ka0.out, (HC.out.cell (p := ⟨g, J * 4 + 1, none⟩) hgs.out).trans ka1.out, (HC.out.cell (p := ⟨g, J * 4 + 2, none⟩) hgs.out).trans ka2.out, (HC.out.cell (p := ⟨g, J * 4 + 3, none⟩) hgs.out).trans ka3.out, (HC.out.cell (p := ⟨pb, poff + q, none⟩) hpbs.out).trans kcp.out⟩ (fun _ => ?_)
        clear hK K
        try go_simp
        refine wpAnyH_take (i := 12) (v := ?vp171611_12) rfl (by kernel_rfl) (by kernel_rfl) (by kernel_rfl) (fun _ _ _ h => h) (Or.inl ⟨by rfl, ?yp171611_12⟩) ⟨(HC.out.cell (p := ⟨g, J * 4, none⟩) hgs.out).trans ka0.out, (HC.out.cell (p := ⟨g, J * 4 + 1, none⟩) hgs.out).trans ka1.out, (HC.out.cell (p := ⟨g, J * 4 + 2, none⟩) hgs.out).trans ka2.out, (HC.out.cell (p := ⟨g, J * 4 + 3, none⟩) hgs.out).trans ka3.out, (HC.out.cell (p := ⟨pb, poff + q, none⟩) hpbs.out).trans kcp.out⟩ ?rp171611_12
        case yp171611_12 => (intro W hSw; (try dsimp only at hSw); obtain ⟨s0, s1, s2, s3, s4⟩ := hSw; first | (go_simp; done) | (go_simp; with_reducible rfl))
        try go_simp
        refine wpAnyH_take (i := 13) (v := ?vp171611_13) rfl (by kernel_rfl) (by kernel_rfl) (by kernel_rfl) (fun _ _ _ h => h) (Or.inl ⟨by rfl, ?yp171611_13⟩) ⟨(HC.out.cell (p := ⟨g, J * 4, none⟩) hgs.out).trans ka0.out, (HC.out.cell (p := ⟨g, J * 4 + 1, none⟩) hgs.out).trans ka1.out, (HC.out.cell (p := ⟨g, J * 4 + 2, none⟩) hgs.out).trans ka2.out, (HC.out.cell (p := ⟨g, J * 4 + 3, none⟩) hgs.out).trans ka3.out, (HC.out.cell (p := ⟨pb, poff + q, none⟩) hpbs.out).trans kcp.out⟩ ?rp171611_13
        case yp171611_13 => (intro W hSw; (try dsimp only at hSw); obtain ⟨s0, s1, s2, s3, s4⟩ := hSw; first | (go_simp; done) | (go_simp; with_reducible rfl))
        try go_simp
        refine wpAnyH_take (i := 14) (v := ?vp171611_14) rfl (by kernel_rfl) (by kernel_rfl) (by kernel_rfl) (fun _ _ _ h => h) (Or.inl ⟨by rfl, ?yp171611_14⟩) ⟨(HC.out.cell (p := ⟨g, J * 4, none⟩) hgs.out).trans ka0.out, (HC.out.cell (p := ⟨g, J * 4 + 1, none⟩) hgs.out).trans ka1.out, (HC.out.cell (p := ⟨g, J * 4 + 2, none⟩) hgs.out).trans ka2.out, (HC.out.cell (p := ⟨g, J * 4 + 3, none⟩) hgs.out).trans ka3.out, (HC.out.cell (p := ⟨pb, poff + q, none⟩) hpbs.out).trans kcp.out⟩ ?rp171611_14
        case yp171611_14 => (intro W hSw; (try dsimp only at hSw); obtain ⟨s0, s1, s2, s3, s4⟩ := hSw; first | (go_simp; done) | (go_simp; with_reducible rfl))
        try go_simp
        refine wpAnyH_take (i := 15) (v := ?vp171611_15) rfl (by kernel_rfl) (by kernel_rfl) (by kernel_rfl) (fun _ _ _ h => h) (Or.inl ⟨by rfl, ?yp171611_15⟩) ⟨(HC.out.cell (p := ⟨g, J * 4, none⟩) hgs.out).trans ka0.out, (HC.out.cell (p := ⟨g, J * 4 + 1, none⟩) hgs.out).trans ka1.out, (HC.out.cell (p := ⟨g, J * 4 + 2, none⟩) hgs.out).trans ka2.out, (HC.out.cell (p := ⟨g, J * 4 + 3, none⟩) hgs.out).trans ka3.out, (HC.out.cell (p := ⟨pb, poff + q, none⟩) hpbs.out).trans kcp.out⟩ ?rp171611_15
        case yp171611_15 => (intro W hSw; (try dsimp only at hSw); obtain ⟨s0, s1, s2, s3, s4⟩ := hSw; first | (go_simp; done) | (go_simp; with_reducible rfl))
        try go_simp
        have hne : wqp17.heap.size ≠ wr.heap.size := by omega
        have pA0 := HpA.out.c0; have pA1 := HpA.out.c1; have pA2 := HpA.out.c2; have pA3 := HpA.out.c3; have pA4 := HpA.out.f0; have pA5 := HpA.out.f1; have pA6 := HpA.out.f2; have pA7 := HpA.out.f3
        refine wpAnyH_ready (rs := [18]) (by kernel_rfl) (by simp) ?_
        refine AllReadyH.cons rfl (fun K hK => ?_) AllReadyH.nil
        go_simp
        have Hm := Lib.hid (show At (((((wzp171611).setCell ⟨wqp17.heap.size, 0, none⟩ (.int .i64 sai)).setCell ⟨wqp17.heap.size, 1, none⟩ (.int .i64 sae)).setCell ⟨wqp17.heap.size, 2, none⟩ (.float .f64 sal)).setCell ⟨wqp17.heap.size, 3, none⟩ (.float .f64 sah)) wqp17.heap.size ⟨sai, sae, sal, sah⟩ from HpA.out.setAll ⟨sai, sae, sal, sah⟩)
        have Ho := Lib.hid (show At (((((wzp171611).setCell ⟨wqp17.heap.size, 0, none⟩ (.int .i64 sai)).setCell ⟨wqp17.heap.size, 1, none⟩ (.int .i64 sae)).setCell ⟨wqp17.heap.size, 2, none⟩ (.float .f64 sal)).setCell ⟨wqp17.heap.size, 3, none⟩ (.float .f64 sah)) wr.heap.size RV.zero from HpB.out.set_other ⟨sai, sae, sal, sah⟩ hne.symm)
        have HC := Lib.hid (show Below wr.heap.size wr (((((wzp171611).setCell ⟨wqp17.heap.size, 0, none⟩ (.int .i64 sai)).setCell ⟨wqp17.heap.size, 1, none⟩ (.int .i64 sae)).setCell ⟨wqp17.heap.size, 2, none⟩ (.float .f64 sal)).setCell ⟨wqp17.heap.size, 3, none⟩ (.float .f64 sah)) from below_set4 HC.out hpA ⟨sai, sae, sal, sah⟩)
        clear HpA HpB pA0 pA1 pA2 pA3 pA4 pA5 pA6 pA7
        have HpA := Hm; have HpB := Ho; clear Hm Ho
        generalize ((((wzp171611).setCell ⟨wqp17.heap.size, 0, none⟩ (.int .i64 sai)).setCell ⟨wqp17.heap.size, 1, none⟩ (.int .i64 sae)).setCell ⟨wqp17.heap.size, 2, none⟩ (.float .f64 sal)).setCell ⟨wqp17.heap.size, 3, none⟩ (.float .f64 sah) = wtp17161118 at *
        refine hK.out _ _ ⟨(HC.out.cell (p := ⟨g, J * 4, none⟩) hgs.out).trans ka0.out, (HC.out.cell (p := ⟨g, J * 4 + 1, none⟩) hgs.out).trans ka1.out, (HC.out.cell (p := ⟨g, J * 4 + 2, none⟩) hgs.out).trans ka2.out, (HC.out.cell (p := ⟨g, J * 4 + 3, none⟩) hgs.out).trans ka3.out, (HC.out.cell (p := ⟨pb, poff + q, none⟩) hpbs.out).trans kcp.out⟩ (fun _ => ?_)
        clear hK K
        try go_simp
        have pB0 := HpB.out.c0; have pB1 := HpB.out.c1; have pB2 := HpB.out.c2; have pB3 := HpB.out.c3; have pB4 := HpB.out.f0; have pB5 := HpB.out.f1; have pB6 := HpB.out.f2; have pB7 := HpB.out.f3
        refine wpAnyH_ready (rs := [19]) (by kernel_rfl) (by simp) ?_
        refine AllReadyH.cons rfl (fun K hK => ?_) AllReadyH.nil
        go_simp
        have Hm := Lib.hid (show At (((((wtp17161118).setCell ⟨wr.heap.size, 0, none⟩ (.int .i64 sbi)).setCell ⟨wr.heap.size, 1, none⟩ (.int .i64 sbe)).setCell ⟨wr.heap.size, 2, none⟩ (.float .f64 sbl)).setCell ⟨wr.heap.size, 3, none⟩ (.float .f64 sbh)) wr.heap.size ⟨sbi, sbe, sbl, sbh⟩ from HpB.out.setAll ⟨sbi, sbe, sbl, sbh⟩)
        have Ho := Lib.hid (show At (((((wtp17161118).setCell ⟨wr.heap.size, 0, none⟩ (.int .i64 sbi)).setCell ⟨wr.heap.size, 1, none⟩ (.int .i64 sbe)).setCell ⟨wr.heap.size, 2, none⟩ (.float .f64 sbl)).setCell ⟨wr.heap.size, 3, none⟩ (.float .f64 sbh)) wqp17.heap.size ⟨sai, sae, sal, sah⟩ from HpA.out.set_other ⟨sbi, sbe, sbl, sbh⟩ hne)
        have HC := Lib.hid (show Below wr.heap.size wr (((((wtp17161118).setCell ⟨wr.heap.size, 0, none⟩ (.int .i64 sbi)).setCell ⟨wr.heap.size, 1, none⟩ (.int .i64 sbe)).setCell ⟨wr.heap.size, 2, none⟩ (.float .f64 sbl)).setCell ⟨wr.heap.size, 3, none⟩ (.float .f64 sbh)) from below_set4 HC.out hpB ⟨sbi, sbe, sbl, sbh⟩)
        clear HpB HpA pB0 pB1 pB2 pB3 pB4 pB5 pB6 pB7
        have HpB := Hm; have HpA := Ho; clear Hm Ho
        generalize ((((wtp17161118).setCell ⟨wr.heap.size, 0, none⟩ (.int .i64 sbi)).setCell ⟨wr.heap.size, 1, none⟩ (.int .i64 sbe)).setCell ⟨wr.heap.size, 2, none⟩ (.float .f64 sbl)).setCell ⟨wr.heap.size, 3, none⟩ (.float .f64 sbh) = wtp17161119 at *
        refine hK.out _ _ ⟨(HC.out.cell (p := ⟨g, J * 4, none⟩) hgs.out).trans ka0.out, (HC.out.cell (p := ⟨g, J * 4 + 1, none⟩) hgs.out).trans ka1.out, (HC.out.cell (p := ⟨g, J * 4 + 2, none⟩) hgs.out).trans ka2.out, (HC.out.cell (p := ⟨g, J * 4 + 3, none⟩) hgs.out).trans ka3.out, (HC.out.cell (p := ⟨pb, poff + q, none⟩) hpbs.out).trans kcp.out⟩ (fun _ => ?_)
        clear hK K
        try go_simp
        refine wpAnyH_take (i := 20) (v := ?vlp171611_20) rfl (by kernel_rfl) (by kernel_rfl) (by kernel_rfl) (fun _ _ _ h => h) (Or.inl ⟨by rfl, ?ylp171611_20⟩) ⟨(HC.out.cell (p := ⟨g, J * 4, none⟩) hgs.out).trans ka0.out, (HC.out.cell (p := ⟨g, J * 4 + 1, none⟩) hgs.out).trans ka1.out, (HC.out.cell (p := ⟨g, J * 4 + 2, none⟩) hgs.out).trans ka2.out, (HC.out.cell (p := ⟨g, J * 4 + 3, none⟩) hgs.out).trans ka3.out, (HC.out.cell (p := ⟨pb, poff + q, none⟩) hpbs.out).trans kcp.out⟩ ?rlp171611_20
        case ylp171611_20 => (intro W hSw; (try dsimp only at hSw); obtain ⟨s0, s1, s2, s3, s4⟩ := hSw; first | (go_simp; done) | (go_simp; with_reducible rfl))
        try go_simp
        refine wpAnyH_done (by kernel_rfl) ?_ _
        (try go_wp2_with fail)
        go_meet
        exact ⟨_, _, rfl, rfl, rfl, HpA, HpB, hne, hpA, hpB, HC⟩
end Go.Proofs.Ytfcdajkgopcmpaa
