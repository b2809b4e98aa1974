/- racelaw13.does: Take, Drop, Twice, Move, Count, At of both. Conditions: no more mails than there is room for, bytes as few operations have them. -/
import Derived.Test.YtcgbjpmmbbldpaaLc
import Derived.Deep.RegionHeld
import Derived.Deep.RegionHeld3
namespace Go.Proofs.Ytcgbjpmmbbldpaa
open Go.ChangeShapes Go.WideShapes Go.ChangeAt Go.RowKit Go.Deep
section
variable {B n x : Nat} {w : World} {room : Int} {l : List MV}
set_option maxRecDepth 100000 in
set_option maxHeartbeats 4000000 in
theorem does_2n (h : NB B w n x room l) (hok : Okn l) {a : Int} (hi : hasB l a = false) {b : Int} {d : List UInt8} {ao : Option Addr} {cap : Nat} : Calls Try.prog 11 #[ptr n, ptr x, opv ⟨2, a, b, d⟩ ao cap] w (Did B w n x room (l)) := by
  obtain ⟨C1, C2, h0⟩ := h
  have HLo := Lib.hid h0
  have hl6 : l.length ≤ 1000000 := Nat.le_trans hok.len (by decide)
  have h1 := h0.below (below1 w (opo ⟨2, a, b, d⟩ ao cap))
  have hw1 := below1 w (opo ⟨2, a, b, d⟩ ao cap)
  have hbx := heap_new w (opo ⟨2, a, b, d⟩ ao cap)
  have HC1 : Hid (¬ C1 w.heap.size) := Lib.hid (fun e => absurd (h0.hn.lt _ e) (Nat.lt_irrefl _))
  have HC2 : Hid (¬ C2 w.heap.size) := Lib.hid (fun e => absurd (h0.hx.lt _ e) (Nat.lt_irrefl _))
  obtain ⟨W1, hW1⟩ : ∃ W1, w.alloc (opo ⟨2, a, b, d⟩ ao cap) = W1 := ⟨_, rfl⟩
  rw [hW1] at h1 hw1 hbx
  obtain ⟨q0, q1, q2, q3⟩ := box_cells hbx
  have H1 := Lib.hid h1
  have HW1 := Lib.hid (hw1.mono h0.bw)
  have HBX := Lib.hid hbx
  simp only at q0 q1 q2 q3
  have HTN := fun w' (hn : NK C1 w' n room l) => Lib.hid (ntake_no hn hi)
  have HTX := fun w' (hx : RN C2 w' x room l) => Lib.hid (rtake_no hx hi)
  have HSM := fun w' => Lib.hid (same_any (w := w') (m := ⟨0, 0, []⟩) (y := ⟨0, 0, []⟩) (sb_nil (fun _ => True) w') (sb_nil (fun _ => True) w'))
  simp only [sameM_self] at HSM
  clear h0 hok h1 hbx hl6 hw1 hi
  go_enter Try.func11, Try.ntmps11
  go_wp2_with (first
    | (go_at_call 15; refine (HTN _ H1.out.hn).out.mono ?_; rintro e w2 ⟨rfl, hb⟩; have HN2 := Lib.hid (H1.out.below hb); have HB2 := Lib.hid (hb.mono H1.out.bw); have HBX2 := Lib.hid ((Tn.of_below (S := fun _ => False) hb).at_ HBX.out (fun e => e)); obtain ⟨q0, q1, q2, q3⟩ := box_cells HBX2.out; simp only at q0 q1 q2 q3; have hbl := lt_of_at HBX2.out; clear hb; have HX2 := Lib.hid (mx_new w2 40 (⟨0, 0, []⟩, .slice none 0 0)))
    | (go_at_call 26; refine (HTX _ (HN2.out.below (below1 _ _)).hx).out.mono ?_; rintro e w3 ⟨rfl, hb⟩; have HN3 := Lib.hid ((HN2.out.below (below1 w2 (mobj 40 (⟨0, 0, []⟩, .slice none 0 0)))).below hb); have HB3 := Lib.hid ((HB2.out.trans ((below1 w2 (mobj 40 (⟨0, 0, []⟩, .slice none 0 0))).mono HN2.out.bw)).trans (hb.mono (HN2.out.below (below1 w2 (mobj 40 (⟨0, 0, []⟩, .slice none 0 0)))).bw)); have HX3 := Lib.hid (HX2.out.below hb HX2.out.lt); have hxl := HX3.out.lt; have y0 := HX3.out.c0; have y1 := HX3.out.c1; have y2 := HX3.out.c2; simp only at y0 y1 y2; clear hb; have HY3 := Lib.hid (mx_new w3 62 (⟨0, 0, []⟩, .slice none 0 0)))
    | (go_at_call 27; refine (HSM _).out.mono ?_; rintro e w4 ⟨rfl, hb⟩; have HN4 := Lib.hid ((HN3.out.below (below1 w3 (mobj 62 (⟨0, 0, []⟩, .slice none 0 0)))).below hb); have HB4 := Lib.hid ((HB3.out.trans ((below1 w3 (mobj 62 (⟨0, 0, []⟩, .slice none 0 0))).mono HN3.out.bw)).trans (hb.mono (HN3.out.below (below1 w3 (mobj 62 (⟨0, 0, []⟩, .slice none 0 0)))).bw)); clear hb)
    | fail)
  go_ret
  exact ⟨rfl, ⟨_, _, HN4.out⟩, HW1.out.trans HB4.out⟩
set_option maxRecDepth 100000 in
set_option maxHeartbeats 4000000 in
theorem does_2y (h : NB B w n x room l) (hok : Okn l) {i : Nat} (hi : i < l.length) {b : Int} {d : List UInt8} {ao : Option Addr} {cap : Nat} : Calls Try.prog 11 #[ptr n, ptr x, opv ⟨2, (i : Int), b, d⟩ ao cap] w (Did B w n x room (l.eraseIdx i)) := by
  obtain ⟨C1, C2, h0⟩ := h
  have HLo := Lib.hid h0
  have hl6 : l.length ≤ 1000000 := Nat.le_trans hok.len (by decide)
  have h1 := h0.below (below1 w (opo ⟨2, (i : Int), b, d⟩ ao cap))
  have hw1 := below1 w (opo ⟨2, (i : Int), b, d⟩ ao cap)
  have hbx := heap_new w (opo ⟨2, (i : Int), b, d⟩ ao cap)
  have HC1 : Hid (¬ C1 w.heap.size) := Lib.hid (fun e => absurd (h0.hn.lt _ e) (Nat.lt_irrefl _))
  have HC2 : Hid (¬ C2 w.heap.size) := Lib.hid (fun e => absurd (h0.hx.lt _ e) (Nat.lt_irrefl _))
  obtain ⟨W1, hW1⟩ : ∃ W1, w.alloc (opo ⟨2, (i : Int), b, d⟩ ao cap) = W1 := ⟨_, rfl⟩
  rw [hW1] at h1 hw1 hbx
  obtain ⟨q0, q1, q2, q3⟩ := box_cells hbx
  have H1 := Lib.hid h1
  have HW1 := Lib.hid (hw1.mono h0.bw)
  have HBX := Lib.hid hbx
  simp only at q0 q1 q2 q3
  have HTN := fun w' (hn : NK C1 w' n room l) => Lib.hid (ntake_yes hn hi hl6 (Nat.le_trans (hok.dat _ (List.getElem_mem hi)) (by decide)))
  have HTX := fun w' (hx : RN C2 w' x room l) => Lib.hid (rtake_yes hx hi hl6)
  generalize l.eraseIdx i = le at *
  generalize l[i] = m at *
  obtain ⟨m1, m2, m3⟩ := m
  have HSM := fun w' {D E : Nat → Prop} {po uo : Option Addr} {pc uc : Nat} (s1 : SB D w' po m3.length pc m3) (s2 : SB E w' uo m3.length uc m3) => Lib.hid (same_any (m := ⟨m1, m2, m3⟩) (y := ⟨m1, m2, m3⟩) s1 s2)
  simp only [sameM_self] at HSM
  clear h0 hok h1 hbx hl6 hw1 hi
  go_enter Try.func11, Try.ntmps11
  go_wp2_with (first
    | (go_at_call 15; refine (HTN _ H1.out.hn).out.mono ?_; rintro e w2 ⟨po, pc, rfl, C1', h2, h3, h4⟩; obtain ⟨g1, g2⟩ := H1.out.stepn h2 h4; have HN2 := Lib.hid g1; have HB2 := Lib.hid g2; have HS2 := Lib.hid h3; have HBX2 := Lib.hid (h4.tn.at_ HBX.out HC1.out); obtain ⟨q0, q1, q2, q3⟩ := box_cells HBX2.out; simp only at q0 q1 q2 q3; have hbl := lt_of_at HBX2.out; clear h2 h3 h4 g1 g2; have HX2 := Lib.hid (mx_new w2 40 (⟨m1, m2, m3⟩, .slice po m3.length pc)))
    | (go_at_call 26; refine (HTX _ (HN2.out.below (below1 _ _)).hx).out.mono ?_; rintro e w3 ⟨u, rfl, C2', h2, h3, _, h4⟩; obtain ⟨uo, uc, e⟩ := own_slice h3.own; simp only at e; subst e; obtain ⟨g1, g2⟩ := (HN2.out.below (below1 w2 (mobj 40 (⟨m1, m2, m3⟩, .slice po m3.length pc)))).stepx h2 h4; have HN3 := Lib.hid g1; have HB3 := Lib.hid ((HB2.out.trans ((below1 w2 (mobj 40 (⟨m1, m2, m3⟩, .slice po m3.length pc))).mono HN2.out.bw)).trans g2); have HX3 := Lib.hid (HX2.out.tn h4.tn (fun e => absurd (HN2.out.hx.lt _ e) (Nat.lt_irrefl _))); have HS3 := Lib.hid ((HS2.out.below (below1 w2 (mobj 40 (⟨m1, m2, m3⟩, .slice po m3.length pc)))).tn h4.tn (fun k hk h2 => by have := H1.out.hx.lt k h2; rcases hk with hk | hk; exact H1.out.dis k hk h2; omega)); have HU3 := Lib.hid (h3.sb rfl); have hxl := HX3.out.lt; have y0 := HX3.out.c0; have y1 := HX3.out.c1; have y2 := HX3.out.c2; simp only at y0 y1 y2; clear h2 h3 h4 g1 g2)
    | (go_at_call 27; refine (HSM _ (HS3.out.below (below1 _ _)) (HU3.out.below (below1 _ _))).out.mono ?_; rintro e w4 ⟨rfl, hb⟩; have HN4 := Lib.hid ((HN3.out.below (below1 w3 (mobj 62 (⟨m1, m2, m3⟩, .slice uo m3.length uc)))).below hb); have HB4 := Lib.hid ((HB3.out.trans ((below1 w3 (mobj 62 (⟨m1, m2, m3⟩, .slice uo m3.length uc))).mono HN3.out.bw)).trans (hb.mono (HN3.out.below (below1 w3 (mobj 62 (⟨m1, m2, m3⟩, .slice uo m3.length uc)))).bw)); clear hb)
    | fail)
  go_ret
  exact ⟨rfl, ⟨_, _, HN4.out⟩, HW1.out.trans HB4.out⟩
set_option maxRecDepth 100000 in
set_option maxHeartbeats 4000000 in
theorem does_3n (h : NB B w n x room l) (hok : Okn l) {a : Int} (hi : hasB l a = false) {b : Int} {d : List UInt8} {ao : Option Addr} {cap : Nat} : Calls Try.prog 11 #[ptr n, ptr x, opv ⟨3, a, b, d⟩ ao cap] w (Did B w n x room (l)) := by
  obtain ⟨C1, C2, h0⟩ := h
  have HLo := Lib.hid h0
  have hl6 : l.length ≤ 1000000 := Nat.le_trans hok.len (by decide)
  have h1 := h0.below (below1 w (opo ⟨3, a, b, d⟩ ao cap))
  have hw1 := below1 w (opo ⟨3, a, b, d⟩ ao cap)
  have hbx := heap_new w (opo ⟨3, a, b, d⟩ ao cap)
  have HC1 : Hid (¬ C1 w.heap.size) := Lib.hid (fun e => absurd (h0.hn.lt _ e) (Nat.lt_irrefl _))
  have HC2 : Hid (¬ C2 w.heap.size) := Lib.hid (fun e => absurd (h0.hx.lt _ e) (Nat.lt_irrefl _))
  obtain ⟨W1, hW1⟩ : ∃ W1, w.alloc (opo ⟨3, a, b, d⟩ ao cap) = W1 := ⟨_, rfl⟩
  rw [hW1] at h1 hw1 hbx
  obtain ⟨q0, q1, q2, q3⟩ := box_cells hbx
  have H1 := Lib.hid h1
  have HW1 := Lib.hid (hw1.mono h0.bw)
  have HBX := Lib.hid hbx
  simp only at q0 q1 q2 q3
  have HTN := fun w' (hn : NK C1 w' n room l) => Lib.hid (ndrop_no hn hi)
  have HTX := fun w' (hx : RN C2 w' x room l) => Lib.hid (rtake_no hx hi)
  clear h0 hok h1 hbx hl6 hw1 hi
  go_enter Try.func11, Try.ntmps11
  go_wp2_with (first
    | (go_at_call 26; refine (HTX _ H1.out.hx).out.mono ?_; rintro e w2 ⟨rfl, hb⟩; have HN2 := Lib.hid (H1.out.below hb); have HB2 := Lib.hid (hb.mono H1.out.bw); have HBX2 := Lib.hid ((Tn.of_below (S := fun _ => False) hb).at_ HBX.out (fun e => e)); obtain ⟨q0, q1, q2, q3⟩ := box_cells HBX2.out; simp only at q0 q1 q2 q3; have hbl := lt_of_at HBX2.out; clear hb)
    | (go_at_call 17; refine (HTN _ (HN2.out.below (below1 _ _)).hn).out.mono ?_; rintro e w3 ⟨rfl, hb⟩; have HN3 := Lib.hid ((HN2.out.below (below1 w2 (mobj 62 (⟨0, 0, []⟩, .slice none 0 0)))).below hb); have HB3 := Lib.hid ((HB2.out.trans ((below1 w2 (mobj 62 (⟨0, 0, []⟩, .slice none 0 0))).mono HN2.out.bw)).trans (hb.mono (HN2.out.below (below1 w2 (mobj 62 (⟨0, 0, []⟩, .slice none 0 0)))).bw)); clear hb)
    | fail)
  go_ret
  exact ⟨rfl, ⟨_, _, HN3.out⟩, HW1.out.trans HB3.out⟩
set_option maxRecDepth 100000 in
set_option maxHeartbeats 4000000 in
theorem does_3y (h : NB B w n x room l) (hok : Okn l) {i : Nat} (hi : i < l.length) {b : Int} {d : List UInt8} {ao : Option Addr} {cap : Nat} : Calls Try.prog 11 #[ptr n, ptr x, opv ⟨3, (i : Int), b, d⟩ ao cap] w (Did B w n x room (l.eraseIdx i)) := by
  obtain ⟨C1, C2, h0⟩ := h
  have HLo := Lib.hid h0
  have hl6 : l.length ≤ 1000000 := Nat.le_trans hok.len (by decide)
  have h1 := h0.below (below1 w (opo ⟨3, (i : Int), b, d⟩ ao cap))
  have hw1 := below1 w (opo ⟨3, (i : Int), b, d⟩ ao cap)
  have hbx := heap_new w (opo ⟨3, (i : Int), b, d⟩ ao cap)
  have HC1 : Hid (¬ C1 w.heap.size) := Lib.hid (fun e => absurd (h0.hn.lt _ e) (Nat.lt_irrefl _))
  have HC2 : Hid (¬ C2 w.heap.size) := Lib.hid (fun e => absurd (h0.hx.lt _ e) (Nat.lt_irrefl _))
  obtain ⟨W1, hW1⟩ : ∃ W1, w.alloc (opo ⟨3, (i : Int), b, d⟩ ao cap) = W1 := ⟨_, rfl⟩
  rw [hW1] at h1 hw1 hbx
  obtain ⟨q0, q1, q2, q3⟩ := box_cells hbx
  have H1 := Lib.hid h1
  have HW1 := Lib.hid (hw1.mono h0.bw)
  have HBX := Lib.hid hbx
  simp only at q0 q1 q2 q3
  have HTN := fun w' (hn : NK C1 w' n room l) => Lib.hid (ndrop_yes hn hi hl6)
  have HTX := fun w' (hx : RN C2 w' x room l) => Lib.hid (rtake_yes hx hi hl6)
  generalize l.eraseIdx i = le at *
  generalize l[i] = m at *
  obtain ⟨m1, m2, m3⟩ := m
  clear h0 hok h1 hbx hl6 hw1 hi
  go_enter Try.func11, Try.ntmps11
  go_wp2_with (first
    | (go_at_call 26; refine (HTX _ H1.out.hx).out.mono ?_; rintro e w2 ⟨u, rfl, C2', h2, h3, _, h4⟩; obtain ⟨uo, uc, e⟩ := own_slice h3.own; simp only at e; subst e; obtain ⟨g1, g2⟩ := H1.out.stepx h2 h4; have HN2 := Lib.hid g1; have HB2 := Lib.hid g2; have HBX2 := Lib.hid (h4.tn.at_ HBX.out HC2.out); obtain ⟨q0, q1, q2, q3⟩ := box_cells HBX2.out; simp only at q0 q1 q2 q3; have hbl := lt_of_at HBX2.out; clear h2 h3 h4 g1 g2)
    | (go_at_call 17; refine (HTN _ (HN2.out.below (below1 _ _)).hn).out.mono ?_; rintro e w3 ⟨rfl, C1', h2, h4⟩; obtain ⟨g1, g2⟩ := (HN2.out.below (below1 w2 (mobj 62 (⟨m1, m2, m3⟩, .slice uo m3.length uc)))).stepn h2 h4; have HN3 := Lib.hid g1; have HB3 := Lib.hid ((HB2.out.trans ((below1 w2 (mobj 62 (⟨m1, m2, m3⟩, .slice uo m3.length uc))).mono HN2.out.bw)).trans g2); clear h2 h4 g1 g2)
    | fail)
  go_ret
  exact ⟨rfl, ⟨_, _, HN3.out⟩, HW1.out.trans HB3.out⟩
set_option maxRecDepth 100000 in
set_option maxHeartbeats 4000000 in
theorem does_4n (h : NB B w n x room l) (hok : Okn l) {a : Int} (hi : hasB l a = false) {b : Int} {d : List UInt8} {ao : Option Addr} {cap : Nat} : Calls Try.prog 11 #[ptr n, ptr x, opv ⟨4, a, b, d⟩ ao cap] w (Did B w n x room (l)) := by
  obtain ⟨C1, C2, h0⟩ := h
  have HLo := Lib.hid h0
  have hl6 : l.length ≤ 1000000 := Nat.le_trans hok.len (by decide)
  have h1 := h0.below (below1 w (opo ⟨4, a, b, d⟩ ao cap))
  have hw1 := below1 w (opo ⟨4, a, b, d⟩ ao cap)
  have hbx := heap_new w (opo ⟨4, a, b, d⟩ ao cap)
  have HC1 : Hid (¬ C1 w.heap.size) := Lib.hid (fun e => absurd (h0.hn.lt _ e) (Nat.lt_irrefl _))
  have HC2 : Hid (¬ C2 w.heap.size) := Lib.hid (fun e => absurd (h0.hx.lt _ e) (Nat.lt_irrefl _))
  obtain ⟨W1, hW1⟩ : ∃ W1, w.alloc (opo ⟨4, a, b, d⟩ ao cap) = W1 := ⟨_, rfl⟩
  rw [hW1] at h1 hw1 hbx
  obtain ⟨q0, q1, q2, q3⟩ := box_cells hbx
  have H1 := Lib.hid h1
  have HW1 := Lib.hid (hw1.mono h0.bw)
  have HBX := Lib.hid hbx
  simp only at q0 q1 q2 q3
  have HTN := fun w' (hn : NK C1 w' n room l) => Lib.hid (ntwice_no hn hi)
  have HTX := fun w' (hx : RN C2 w' x room l) => Lib.hid (rtwice_no hx hi)
  clear h0 hok h1 hbx hl6 hw1 hi q1 q2 q3
  go_enter Try.func11, Try.ntmps11
  have HBW := Lib.hid H1.out.bw
  go_wp2_with fail
  have HBD := Lib.hid ((Below.refl W1.heap.size W1).drew)
  have H1 := Lib.hid (H1.out.below HBD.out)
  have HW1 := Lib.hid (HW1.out.trans (HBD.out.mono HBW.out))
  have HBX := Lib.hid ((Tn.of_below (S := fun _ => False) HBD.out).at_ HBX.out (fun e => e))
  go_region_held (fun w' => w'.cell? ⟨w.heap.size, 1, none⟩ = some (.int .i64 a)) (exact (box_cells HBX.out).2.1)
    ((first
      | (go_at_call 18; refine (HTN _ H1.out.hn).out.mono ?_; rintro e w2 ⟨rfl, hb⟩; have HN2 := Lib.hid (H1.out.below hb); have HB2 := Lib.hid (hb.mono H1.out.bw); have HBX := Lib.hid ((Tn.of_below (S := fun _ => False) hb).at_ HBX.out (fun e => e)); clear hb)
      | (go_at_call 28; refine (HTX _ HN2.out.hx).out.mono ?_; rintro e w3 ⟨rfl, C2', h2, _, h4⟩; obtain ⟨g1, g2⟩ := HN2.out.stepx h2 h4; have HN3 := Lib.hid g1; have HB3 := Lib.hid (HB2.out.trans g2); have HBX := Lib.hid (h4.tn.at_ HBX.out HC2.out); clear h2 h4 g1 g2)))
  go_wp2
  go_ret
  exact ⟨rfl, ⟨_, _, HN3.out⟩, HW1.out.trans HB3.out⟩
set_option maxRecDepth 100000 in
set_option maxHeartbeats 4000000 in
theorem does_4y (h : NB B w n x room l) (hok : Okn l) {i : Nat} (hi : i < l.length) {b : Int} {d : List UInt8} {ao : Option Addr} {cap : Nat} : Calls Try.prog 11 #[ptr n, ptr x, opv ⟨4, (i : Int), b, d⟩ ao cap] w (Did B w n x room (sentL room l l[i])) := by
  obtain ⟨C1, C2, h0⟩ := h
  have HLo := Lib.hid h0
  have hl6 : l.length ≤ 1000000 := Nat.le_trans hok.len (by decide)
  have h1 := h0.below (below1 w (opo ⟨4, (i : Int), b, d⟩ ao cap))
  have hw1 := below1 w (opo ⟨4, (i : Int), b, d⟩ ao cap)
  have hbx := heap_new w (opo ⟨4, (i : Int), b, d⟩ ao cap)
  have HC1 : Hid (¬ C1 w.heap.size) := Lib.hid (fun e => absurd (h0.hn.lt _ e) (Nat.lt_irrefl _))
  have HC2 : Hid (¬ C2 w.heap.size) := Lib.hid (fun e => absurd (h0.hx.lt _ e) (Nat.lt_irrefl _))
  obtain ⟨W1, hW1⟩ : ∃ W1, w.alloc (opo ⟨4, (i : Int), b, d⟩ ao cap) = W1 := ⟨_, rfl⟩
  rw [hW1] at h1 hw1 hbx
  obtain ⟨q0, q1, q2, q3⟩ := box_cells hbx
  have H1 := Lib.hid h1
  have HW1 := Lib.hid (hw1.mono h0.bw)
  have HBX := Lib.hid hbx
  simp only at q0 q1 q2 q3
  have hdl := Nat.le_trans (hok.dat _ (List.getElem_mem hi)) (show 20000 ≤ 100000000 by decide)
  have HTN := fun w' (hn : NK C1 w' n room l) => Lib.hid (show Calls Try.prog 18 #[ptr n, .int .i64 (i : Int)] w' (NWent C1 w' n room (sentL room l l[i]) (.int .i64 (sentE room l))) from ntwice_yes hn hi hl6 hdl)
  have HTX := fun w' (hx : RN C2 w' x room l) => Lib.hid (show Calls Try.prog 28 #[ptr x, .int .i64 (i : Int)] w' (RSent C2 w' x room (sentL room l l[i]) (sentE room l)) from rtwice_yes hx hi hl6 hdl)
  generalize sentL room l l[i] = l1 at *
  generalize sentE room l = e1 at *
  clear h0 hok h1 hbx hl6 hw1 hi hdl q1 q2 q3
  go_enter Try.func11, Try.ntmps11
  have HBW := Lib.hid H1.out.bw
  go_wp2_with fail
  have HBD := Lib.hid ((Below.refl W1.heap.size W1).drew)
  have H1 := Lib.hid (H1.out.below HBD.out)
  have HW1 := Lib.hid (HW1.out.trans (HBD.out.mono HBW.out))
  have HBX := Lib.hid ((Tn.of_below (S := fun _ => False) HBD.out).at_ HBX.out (fun e => e))
  go_region_held (fun w' => w'.cell? ⟨w.heap.size, 1, none⟩ = some (.int .i64 (i : Int))) (exact (box_cells HBX.out).2.1)
    ((first
      | (go_at_call 18; refine (HTN _ H1.out.hn).out.mono ?_; rintro e w2 ⟨rfl, C1', h2, h4⟩; obtain ⟨g1, g2⟩ := H1.out.stepn h2 h4; have HN2 := Lib.hid g1; have HB2 := Lib.hid g2; have HBX := Lib.hid (h4.tn.at_ HBX.out HC1.out); clear h2 h4 g1 g2)
      | (go_at_call 28; refine (HTX _ HN2.out.hx).out.mono ?_; rintro e w3 ⟨rfl, C2', h2, _, h4⟩; obtain ⟨g1, g2⟩ := HN2.out.stepx h2 h4; have HN3 := Lib.hid g1; have HB3 := Lib.hid (HB2.out.trans g2); have HBX := Lib.hid (h4.tn.at_ HBX.out HC2.out); clear h2 h4 g1 g2)))
  go_wp2
  go_ret
  exact ⟨rfl, ⟨_, _, HN3.out⟩, HW1.out.trans HB3.out⟩
set_option maxRecDepth 100000 in
set_option maxHeartbeats 4000000 in
theorem does_5n (h : NB B w n x room l) (hok : Okn l) {a : Int} (hi : hasB l a = false) {b : Int} {d : List UInt8} {ao : Option Addr} {cap : Nat} : Calls Try.prog 11 #[ptr n, ptr x, opv ⟨5, a, b, d⟩ ao cap] w (Did B w n x room (l)) := by
  obtain ⟨C1, C2, h0⟩ := h
  have HLo := Lib.hid h0
  have hl6 : l.length ≤ 1000000 := Nat.le_trans hok.len (by decide)
  have h1 := h0.below (below1 w (opo ⟨5, a, b, d⟩ ao cap))
  have hw1 := below1 w (opo ⟨5, a, b, d⟩ ao cap)
  have hbx := heap_new w (opo ⟨5, a, b, d⟩ ao cap)
  have HC1 : Hid (¬ C1 w.heap.size) := Lib.hid (fun e => absurd (h0.hn.lt _ e) (Nat.lt_irrefl _))
  have HC2 : Hid (¬ C2 w.heap.size) := Lib.hid (fun e => absurd (h0.hx.lt _ e) (Nat.lt_irrefl _))
  obtain ⟨W1, hW1⟩ : ∃ W1, w.alloc (opo ⟨5, a, b, d⟩ ao cap) = W1 := ⟨_, rfl⟩
  rw [hW1] at h1 hw1 hbx
  obtain ⟨q0, q1, q2, q3⟩ := box_cells hbx
  have H1 := Lib.hid h1
  have HW1 := Lib.hid (hw1.mono h0.bw)
  have HBX := Lib.hid hbx
  simp only at q0 q1 q2 q3
  have HTN := fun w' (hn : NK C1 w' n room l) => Lib.hid (nmove_no hn hi b)
  have HTX := fun w' (hx : RN C2 w' x room l) => Lib.hid (rmove_no hx hi b)
  clear h0 hok h1 hbx hl6 hw1 hi q1 q2 q3
  go_enter Try.func11, Try.ntmps11
  have HBW := Lib.hid H1.out.bw
  go_wp2_with fail
  have HBD := Lib.hid ((Below.refl W1.heap.size W1).drew)
  have H1 := Lib.hid (H1.out.below HBD.out)
  have HW1 := Lib.hid (HW1.out.trans (HBD.out.mono HBW.out))
  have HBX := Lib.hid ((Tn.of_below (S := fun _ => False) HBD.out).at_ HBX.out (fun e => e))
  go_region_held (fun w' => w'.cell? ⟨w.heap.size, 1, none⟩ = some (.int .i64 a) ∧ w'.cell? ⟨w.heap.size, 2, none⟩ = some (.int .i64 b)) (exact ⟨(box_cells HBX.out).2.1, (box_cells HBX.out).2.2.1⟩)
    ((first
      | (go_at_call 19; refine (HTN _ H1.out.hn).out.mono ?_; rintro e w2 ⟨rfl, hb⟩; have HN2 := Lib.hid (H1.out.below hb); have HB2 := Lib.hid (hb.mono H1.out.bw); have HBX := Lib.hid ((Tn.of_below (S := fun _ => False) hb).at_ HBX.out (fun e => e)); clear hb)
      | (go_at_call 29; refine (HTX _ HN2.out.hx).out.mono ?_; rintro e w3 ⟨rfl, C2', h2, _, h4⟩; obtain ⟨g1, g2⟩ := HN2.out.stepx h2 h4; have HN3 := Lib.hid g1; have HB3 := Lib.hid (HB2.out.trans g2); have HBX := Lib.hid (h4.tn.at_ HBX.out HC2.out); clear h2 h4 g1 g2)))
  go_wp2
  go_ret
  exact ⟨rfl, ⟨_, _, HN3.out⟩, HW1.out.trans HB3.out⟩
set_option maxRecDepth 100000 in
set_option maxHeartbeats 4000000 in
theorem does_5y (h : NB B w n x room l) (hok : Okn l) {i : Nat} (hi : i < l.length) {b : Int} {d : List UInt8} {ao : Option Addr} {cap : Nat} : Calls Try.prog 11 #[ptr n, ptr x, opv ⟨5, (i : Int), b, d⟩ ao cap] w (Did B w n x room (moveV l i b)) := by
  obtain ⟨C1, C2, h0⟩ := h
  have HLo := Lib.hid h0
  have hl6 : l.length ≤ 1000000 := Nat.le_trans hok.len (by decide)
  have h1 := h0.below (below1 w (opo ⟨5, (i : Int), b, d⟩ ao cap))
  have hw1 := below1 w (opo ⟨5, (i : Int), b, d⟩ ao cap)
  have hbx := heap_new w (opo ⟨5, (i : Int), b, d⟩ ao cap)
  have HC1 : Hid (¬ C1 w.heap.size) := Lib.hid (fun e => absurd (h0.hn.lt _ e) (Nat.lt_irrefl _))
  have HC2 : Hid (¬ C2 w.heap.size) := Lib.hid (fun e => absurd (h0.hx.lt _ e) (Nat.lt_irrefl _))
  obtain ⟨W1, hW1⟩ : ∃ W1, w.alloc (opo ⟨5, (i : Int), b, d⟩ ao cap) = W1 := ⟨_, rfl⟩
  rw [hW1] at h1 hw1 hbx
  obtain ⟨q0, q1, q2, q3⟩ := box_cells hbx
  have H1 := Lib.hid h1
  have HW1 := Lib.hid (hw1.mono h0.bw)
  have HBX := Lib.hid hbx
  simp only at q0 q1 q2 q3
  have HTN := fun w' (hn : NK C1 w' n room l) => Lib.hid (nmove_yes hn hi hl6 b)
  have HTX := fun w' (hx : RN C2 w' x room l) => Lib.hid (rmove_yes hx hi hl6 b)
  generalize moveV l i b = l1 at *
  clear h0 hok h1 hbx hl6 hw1 hi q1 q2 q3
  go_enter Try.func11, Try.ntmps11
  have HBW := Lib.hid H1.out.bw
  go_wp2_with fail
  have HBD := Lib.hid ((Below.refl W1.heap.size W1).drew)
  have H1 := Lib.hid (H1.out.below HBD.out)
  have HW1 := Lib.hid (HW1.out.trans (HBD.out.mono HBW.out))
  have HBX := Lib.hid ((Tn.of_below (S := fun _ => False) HBD.out).at_ HBX.out (fun e => e))
  go_region_held (fun w' => w'.cell? ⟨w.heap.size, 1, none⟩ = some (.int .i64 (i : Int)) ∧ w'.cell? ⟨w.heap.size, 2, none⟩ = some (.int .i64 b)) (exact ⟨(box_cells HBX.out).2.1, (box_cells HBX.out).2.2.1⟩)
    ((first
      | (go_at_call 19; refine (HTN _ H1.out.hn).out.mono ?_; rintro e w2 ⟨rfl, C1', h2, h4⟩; obtain ⟨g1, g2⟩ := H1.out.stepn h2 h4; have HN2 := Lib.hid g1; have HB2 := Lib.hid g2; have HBX := Lib.hid (h4.tn.at_ HBX.out HC1.out); clear h2 h4 g1 g2)
      | (go_at_call 29; refine (HTX _ HN2.out.hx).out.mono ?_; rintro e w3 ⟨rfl, C2', h2, _, h4⟩; obtain ⟨g1, g2⟩ := HN2.out.stepx h2 h4; have HN3 := Lib.hid g1; have HB3 := Lib.hid (HB2.out.trans g2); have HBX := Lib.hid (h4.tn.at_ HBX.out HC2.out); clear h2 h4 g1 g2)))
  go_wp2
  go_ret
  exact ⟨rfl, ⟨_, _, HN3.out⟩, HW1.out.trans HB3.out⟩
set_option maxRecDepth 100000 in
set_option maxHeartbeats 4000000 in
theorem does_6 (h : NB B w n x room l) (hok : Okn l) {a : Int} {b : Int} {d : List UInt8} {ao : Option Addr} {cap : Nat} : Calls Try.prog 11 #[ptr n, ptr x, opv ⟨6, a, b, d⟩ ao cap] w (Did B w n x room (l)) := by
  obtain ⟨C1, C2, h0⟩ := h
  have HLo := Lib.hid h0
  have hl6 : l.length ≤ 1000000 := Nat.le_trans hok.len (by decide)
  have h1 := h0.below (below1 w (opo ⟨6, a, b, d⟩ ao cap))
  have hw1 := below1 w (opo ⟨6, a, b, d⟩ ao cap)
  have hbx := heap_new w (opo ⟨6, a, b, d⟩ ao cap)
  have HC1 : Hid (¬ C1 w.heap.size) := Lib.hid (fun e => absurd (h0.hn.lt _ e) (Nat.lt_irrefl _))
  have HC2 : Hid (¬ C2 w.heap.size) := Lib.hid (fun e => absurd (h0.hx.lt _ e) (Nat.lt_irrefl _))
  obtain ⟨W1, hW1⟩ : ∃ W1, w.alloc (opo ⟨6, a, b, d⟩ ao cap) = W1 := ⟨_, rfl⟩
  rw [hW1] at h1 hw1 hbx
  obtain ⟨q0, q1, q2, q3⟩ := box_cells hbx
  have H1 := Lib.hid h1
  have HW1 := Lib.hid (hw1.mono h0.bw)
  have HBX := Lib.hid hbx
  simp only at q0 q1 q2 q3
  have HTN := fun w' (hn : NK C1 w' n room l) => Lib.hid (ncount_any hn a hl6)
  have HTX := fun w' (hx : RN C2 w' x room l) => Lib.hid (rcount_any hx a hl6)
  generalize cntV l a = q at *
  clear h0 hok h1 hbx hl6 hw1 q1 q2 q3
  go_enter Try.func11, Try.ntmps11
  have HBW := Lib.hid H1.out.bw
  go_wp2_with fail
  have HBD := Lib.hid ((Below.refl W1.heap.size W1).drew)
  have H1 := Lib.hid (H1.out.below HBD.out)
  have HW1 := Lib.hid (HW1.out.trans (HBD.out.mono HBW.out))
  have HBX := Lib.hid ((Tn.of_below (S := fun _ => False) HBD.out).at_ HBX.out (fun e => e))
  go_region_held (fun w' => w'.cell? ⟨w.heap.size, 1, none⟩ = some (.int .i64 a)) (exact (box_cells HBX.out).2.1)
    ((first
      | (go_at_call 23; refine (HTN _ H1.out.hn).out.mono ?_; rintro e w2 ⟨rfl, hb⟩; have HN2 := Lib.hid (H1.out.below hb); have HB2 := Lib.hid (hb.mono H1.out.bw); have HBX := Lib.hid ((Tn.of_below (S := fun _ => False) hb).at_ HBX.out (fun e => e)); clear hb)
      | (go_at_call 30; refine (HTX _ HN2.out.hx).out.mono ?_; rintro e w3 ⟨rfl, rfl⟩)))
  go_wp2
  go_ret
  exact ⟨rfl, ⟨_, _, HN2.out⟩, HW1.out.trans HB2.out⟩
set_option maxRecDepth 100000 in
set_option maxHeartbeats 4000000 in
theorem does_0n (h : NB B w n x room l) (hok : Okn l) {k : Int} (hk : k ≠ 1 ∧ k ≠ 2 ∧ k ≠ 3 ∧ k ≠ 4 ∧ k ≠ 5 ∧ k ≠ 6) {a : Int} (hi : hasB l a = false) {b : Int} {d : List UInt8} {ao : Option Addr} {cap : Nat} : Calls Try.prog 11 #[ptr n, ptr x, opv ⟨k, a, b, d⟩ ao cap] w (Did B w n x room l) := by
  obtain ⟨C1, C2, h0⟩ := h
  have HLo := Lib.hid h0
  have hl6 : l.length ≤ 1000000 := Nat.le_trans hok.len (by decide)
  have h1 := h0.below (below1 w (opo ⟨k, a, b, d⟩ ao cap))
  have hw1 := below1 w (opo ⟨k, a, b, d⟩ ao cap)
  have hbx := heap_new w (opo ⟨k, a, b, d⟩ ao cap)
  have HC1 : Hid (¬ C1 w.heap.size) := Lib.hid (fun e => absurd (h0.hn.lt _ e) (Nat.lt_irrefl _))
  have HC2 : Hid (¬ C2 w.heap.size) := Lib.hid (fun e => absurd (h0.hx.lt _ e) (Nat.lt_irrefl _))
  obtain ⟨W1, hW1⟩ : ∃ W1, w.alloc (opo ⟨k, a, b, d⟩ ao cap) = W1 := ⟨_, rfl⟩
  rw [hW1] at h1 hw1 hbx
  obtain ⟨q0, q1, q2, q3⟩ := box_cells hbx
  have H1 := Lib.hid h1
  have HW1 := Lib.hid (hw1.mono h0.bw)
  have HBX := Lib.hid hbx
  simp only at q0 q1 q2 q3
  have g1 : (k == 1) = false := beq_eq_false_iff_ne.2 (by omega)
  have g2 : (k == 2) = false := beq_eq_false_iff_ne.2 (by omega)
  have g3 : (k == 3) = false := beq_eq_false_iff_ne.2 (by omega)
  have g4 : (k == 4) = false := beq_eq_false_iff_ne.2 (by omega)
  have g5 : (k == 5) = false := beq_eq_false_iff_ne.2 (by omega)
  have g6 : (k == 6) = false := beq_eq_false_iff_ne.2 (by omega)
  have HTN := fun w' (hn : NK C1 w' n room l) => Lib.hid (nat_no hn hi)
  have HTX := fun w' (hx : RN C2 w' x room l) => Lib.hid (rhas_any hx a)
  simp only [hi] at HTX
  have HSM := fun w' => Lib.hid (same_any (w := w') (m := ⟨0, 0, []⟩) (y := ⟨0, 0, []⟩) (sb_nil (fun _ => True) w') (sb_nil (fun _ => True) w'))
  simp only [sameM_self] at HSM
  clear h0 hok h1 hbx hl6 hw1 hi hk
  go_enter Try.func11, Try.ntmps11
  go_wp2_with (first
    | (go_at_call 13; refine (HTN _ H1.out.hn).out.mono ?_; rintro e w2 ⟨rfl, hb⟩; have HN2 := Lib.hid (H1.out.below hb); have HB2 := Lib.hid (hb.mono H1.out.bw); have HBX2 := Lib.hid ((Tn.of_below (S := fun _ => False) hb).at_ HBX.out (fun e => e)); obtain ⟨q0, q1, q2, q3⟩ := box_cells HBX2.out; simp only at q0 q1 q2 q3; have hbl := lt_of_at HBX2.out; clear hb)
    | (go_at_call 31; refine (HTX _ (HN2.out.below (below1 _ _)).hx).out.mono ?_; rintro e w3 ⟨rfl, rfl⟩)
    | (go_at_call 27; refine (HSM _).out.mono ?_; rintro e w4 ⟨rfl, hb⟩; have HN4 := Lib.hid ((HN2.out.below (below1 w2 (mobj 40 (⟨0, 0, []⟩, .slice none 0 0)))).below hb); have HB4 := Lib.hid ((HB2.out.trans ((below1 w2 (mobj 40 (⟨0, 0, []⟩, .slice none 0 0))).mono HN2.out.bw)).trans (hb.mono (HN2.out.below (below1 w2 (mobj 40 (⟨0, 0, []⟩, .slice none 0 0)))).bw)); clear hb)
    | fail)
  go_ret
  exact ⟨rfl, ⟨_, _, HN4.out⟩, HW1.out.trans HB4.out⟩
set_option maxRecDepth 100000 in
set_option maxHeartbeats 4000000 in
theorem does_0y (h : NB B w n x room l) (hok : Okn l) {k : Int} (hk : k ≠ 1 ∧ k ≠ 2 ∧ k ≠ 3 ∧ k ≠ 4 ∧ k ≠ 5 ∧ k ≠ 6) {i : Nat} (hi : i < l.length) {b : Int} {d : List UInt8} {ao : Option Addr} {cap : Nat} : Calls Try.prog 11 #[ptr n, ptr x, opv ⟨k, (i : Int), b, d⟩ ao cap] w (Did B w n x room l) := by
  obtain ⟨C1, C2, h0⟩ := h
  have HLo := Lib.hid h0
  have hl6 : l.length ≤ 1000000 := Nat.le_trans hok.len (by decide)
  have h1 := h0.below (below1 w (opo ⟨k, (i : Int), b, d⟩ ao cap))
  have hw1 := below1 w (opo ⟨k, (i : Int), b, d⟩ ao cap)
  have hbx := heap_new w (opo ⟨k, (i : Int), b, d⟩ ao cap)
  have HC1 : Hid (¬ C1 w.heap.size) := Lib.hid (fun e => absurd (h0.hn.lt _ e) (Nat.lt_irrefl _))
  have HC2 : Hid (¬ C2 w.heap.size) := Lib.hid (fun e => absurd (h0.hx.lt _ e) (Nat.lt_irrefl _))
  obtain ⟨W1, hW1⟩ : ∃ W1, w.alloc (opo ⟨k, (i : Int), b, d⟩ ao cap) = W1 := ⟨_, rfl⟩
  rw [hW1] at h1 hw1 hbx
  obtain ⟨q0, q1, q2, q3⟩ := box_cells hbx
  have H1 := Lib.hid h1
  have HW1 := Lib.hid (hw1.mono h0.bw)
  have HBX := Lib.hid hbx
  simp only at q0 q1 q2 q3
  have g1 : (k == 1) = false := beq_eq_false_iff_ne.2 (by omega)
  have g2 : (k == 2) = false := beq_eq_false_iff_ne.2 (by omega)
  have g3 : (k == 3) = false := beq_eq_false_iff_ne.2 (by omega)
  have g4 : (k == 4) = false := beq_eq_false_iff_ne.2 (by omega)
  have g5 : (k == 5) = false := beq_eq_false_iff_ne.2 (by omega)
  have g6 : (k == 6) = false := beq_eq_false_iff_ne.2 (by omega)
  have HTN := fun w' (hn : NK C1 w' n room l) => Lib.hid (nat_yes hn hi (Nat.le_trans (hok.dat _ (List.getElem_mem hi)) (by decide)))
  have HTX := fun w' (hx : RN C2 w' x room l) => Lib.hid (rhas_any hx (i : Int))
  simp only [hasB_of hi] at HTX
  generalize l[i] = m at *
  obtain ⟨m1, m2, m3⟩ := m
  clear h0 hok h1 hbx hl6 hw1 hi hk
  go_enter Try.func11, Try.ntmps11
  go_wp2_with (first
    | (go_at_call 13; refine (HTN _ H1.out.hn).out.mono ?_; rintro e w2 ⟨po, pc, rfl, ho, hb⟩; have HN2 := Lib.hid (H1.out.below hb); have HB2 := Lib.hid (hb.mono H1.out.bw); have HBX2 := Lib.hid ((Tn.of_below (S := fun _ => False) hb).at_ HBX.out (fun e => e)); obtain ⟨q0, q1, q2, q3⟩ := box_cells HBX2.out; simp only at q0 q1 q2 q3; have hbl := lt_of_at HBX2.out; clear hb ho)
    | (go_at_call 31; refine (HTX _ (HN2.out.below (below1 _ _)).hx).out.mono ?_; rintro e w3 ⟨rfl, rfl⟩)
    | fail)
  go_ret
  exact ⟨rfl, ⟨_, _, HN2.out.below (below1 _ _)⟩, HW1.out.trans (HB2.out.trans ((below1 w2 (mobj 40 (⟨m1, m2, m3⟩, .slice po m3.length pc))).mono HN2.out.bw))⟩
end
end Go.Proofs.Ytcgbjpmmbbldpaa
