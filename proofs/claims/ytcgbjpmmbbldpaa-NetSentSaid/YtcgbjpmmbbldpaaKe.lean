/- The net's Take. Conditions: no more than a million mails; bytes as a row holds them. -/
import Derived.Test.YtcgbjpmmbbldpaaKd
import Derived.Test.YtcgbjpmmbbldpaaMg
namespace Go.Proofs.Ytcgbjpmmbbldpaa
open Go.ChangeShapes Go.WideShapes Go.ChangeAt Go.RowKit Go.Deep
theorem cellsG_drop {α : Type} {f : α → List Value} {sz : Nat} (hf : ∀ x, (f x).length = sz) (l : List α) (k : Nat) : cellsG f (l.drop k) = (cellsG f l).drop (k * sz) := by
  induction l generalizing k with
  | nil => simp [cellsG]
  | cons x l ih =>
    cases k with
    | zero => simp [cellsG]
    | succ k =>
      show cellsG f (l.drop k) = (f x ++ cellsG f l).drop _
      rw [ih, List.drop_append, hf, Nat.succ_mul, List.drop_of_length_le (l := f x) (by rw [hf]; omega)]
      simp
theorem erase_td {α : Type} (L : List α) (i : Nat) : L.eraseIdx i = L.take i ++ L.drop (i + 1) := List.eraseIdx_eq_take_drop_succ L i
theorem over_erase {L : List MH} {i : Nat} (hi : i < L.length) : over (cellsG mC L) (i * 3) (cellsG mC (L.drop (i + 1))) = cellsG mC (L.eraseIdx i ++ L.drop (L.length - 1)) := by
  have hl : (cellsG mC L).length = L.length * 3 := length_cellsG mC_len L
  have hd : (cellsG mC (L.drop (i + 1))).length = (L.length - (i + 1)) * 3 := by rw [length_cellsG mC_len, List.length_drop]
  rw [over_eq _ _ _ (by omega), hd, erase_td, cellsG_append, cellsG_append, cellsG_take mC_len, cellsG_drop mC_len L (L.length - 1), List.append_assoc]
  congr 3
  omega
theorem over_last {L1 : List MH} {x y : MH} {m : Nat} (hm : L1.length = m) : over (cellsG mC (L1 ++ [x])) (m * 3) (mC y) = cellsG mC (L1 ++ [y]) := by
  have hl : (cellsG mC L1).length = m * 3 := by rw [length_cellsG mC_len, hm]
  rw [over_eq _ _ _ (by rw [cellsG_append, List.length_append, hl, cellsG_one, mC_len, mC_len]; exact Nat.le_refl _), cellsG_append, cellsG_append, cellsG_one, cellsG_one, ← hl, List.take_left', List.drop_of_length_le]
  · simp
  · rw [List.length_append, mC_len, mC_len]; exact Nat.le_refl _
  · rfl
theorem drop_last {α : Type} {L : List α} {n : Nat} (h : L.length = n + 1) : ∃ y, y ∈ L ∧ L.drop n = [y] := by
  refine ⟨L[n], List.getElem_mem _, ?_⟩
  rw [List.drop_eq_getElem_cons (by omega), List.drop_of_length_le (by omega)]
/-- What Take tells, and leaves. -/
def NTook (C : Nat → Prop) (w : World) (a : Nat) (room : Int) (l' : List MV) (m : MV) (e : Ending) (w' : World) : Prop :=
  ∃ ao cap, e = .returned (.tuple #[magg (m, .slice ao m.d.length cap), .bool true]) ∧ ∃ C', NK C' w' a room l' ∧ SB (fun k => C k ∨ (w.heap.size ≤ k ∧ k < w'.heap.size)) w' ao m.d.length cap m.d ∧ Way C w C' w'
section
variable {C : Nat → Prop} {w w' : World} {a : Nat} {room : Int} {l l' : List MV} {m : MV}
set_option maxRecDepth 100000 in
set_option maxHeartbeats 4000000 in
theorem ntake_all (h : NK C w a room l) {i : Nat} (hi : i < l.length) (hl : l.length ≤ 1000000) : Calls Try.prog 15 #[ptr a, .int .i64 i] w (NTook C w a room (l.eraseIdx i) l[i]) := by
  obtain ⟨i0, hi0, hz0, hz1, hz2⟩ := info_parts info_nm
  have HH := fun w h => Lib.hid (nhas_any (w := w) (a := a) (C := C) (room := room) (l := l) h i)
  simp only [hasB_of hi] at HH
  have HLT := Lib.hid h.lt
  have HR := Lib.hid (h.below (below1 w (mobj 40 (⟨0, 0, []⟩, .slice none 0 0))))
  have HX := Lib.hid (mx_new w 40 (⟨0, 0, []⟩, .slice none 0 0))
  have f0 := HX.out.f0; have f1 := HX.out.f1; have f2 := HX.out.f2
  have x0 := HX.out.c0; have x1 := HX.out.c1; have x2 := HX.out.c2
  obtain ⟨v, L, hr⟩ := HR.out
  have hk : i < L.length := by rw [hr.len]; exact hi
  have c1 := hr.c1
  obtain ⟨ao, cap, e⟩ := own_slice hr.ml.own
  subst e
  rw [hr.len] at c1
  obtain ⟨g, rfl, hgl, hCg, hm, hda⟩ := hr.ml.at_ hk
  have he := eq_at hr.eq hk hi
  have HLN := Lib.hid hr.len
  have hln := hr.len
  have HN := Lib.hid hr
  clear hr
  have HE := Lib.hid (map_erase (·.1) L i)
  obtain ⟨n, hn⟩ : ∃ n, l.length = n + 1 := ⟨l.length - 1, by omega⟩
  rw [hn] at c1 hi hln hl
  have hown := HN.out.ml.own
  rw [hln] at hown
  have hmx := own_max hown
  have HOE := Lib.hid (over_erase hk)
  have HLn := Lib.hid hln
  obtain ⟨y, hy, hdr⟩ := drop_last hln
  have HYM := Lib.hid (HN.out.ml.dat y hy)
  have hs : (cellsG mC (L.drop (i + 1))).length = (n - i) * 3 := by rw [length_cellsG mC_len, List.length_drop, hln]; congr 1; omega
  have HSL := Lib.hid hs
  have HOWN := Lib.hid hown
  have HONE := Lib.hid (one_ml (L := L.drop (i + 1)) (fun x hx => HN.out.ml.dat x (List.mem_of_mem_drop hx)))
  have HDR := Lib.hid hdr
  have HBX := Lib.hid (HN.out.c1)
  obtain ⟨x, hx⟩ : ∃ x, L[i] = x := ⟨_, rfl⟩
  rw [hx] at hm hda he
  clear hn h hk hown hdr hs hln hx hy
  obtain ⟨x, u⟩ := x
  simp only at he
  rw [← he]
  clear he
  obtain ⟨uo, uc, e⟩ := own_slice hda.own
  simp only at e
  subst e
  obtain ⟨xf, xt, xd⟩ := x
  have HDA := Lib.hid hda
  clear hda
  have d0 := hm.c0; have d1 := hm.c1; have d2 := hm.c2
  simp only at d0 d1 d2
  have HY := Lib.hid (mx_new2 w (mobj 40 (⟨0, 0, []⟩, .slice none 0 0)) 40 (⟨xf, xt, xd⟩, .slice uo xd.length uc))
  go_enter Try.func15, Try.ntmps15
  go_wp2_with (first
    | (go_at_call 32; refine (HH _ HR.out).out.mono ?_; rintro e w1 ⟨rfl, rfl⟩)
    | fail)
  have hs2 : ((w.alloc (mobj 40 (⟨0, 0, []⟩, .slice none 0 0))).alloc (mobj 40 (⟨xf, xt, xd⟩, .slice uo xd.length uc))).heap.size = w.heap.size + 2 := by simp
  have hb2 := below1 (w.alloc (mobj 40 (⟨0, 0, []⟩, .slice none 0 0))) (mobj 40 (⟨xf, xt, xd⟩, .slice uo xd.length uc))
  have HN2 := Lib.hid (HN.out.below hb2)
  have HOW := Lib.hid (own_below HOWN.out hb2)
  have HX2 := Lib.hid (HX.out.below hb2 HX.out.lt)
  have HB2 := Lib.hid ((below1 w (mobj 40 (⟨0, 0, []⟩, .slice none 0 0))).trans (hb2.mono (by simp)))
  have HDB := Lib.hid (HDA.out.below hb2)
  have HDY := Lib.hid (HYM.out.below hb2)
  have HDL2 := Lib.hid (fun x hx => (HN.out.ml.dat x hx).below hb2)
  clear hb2 c1 d0 d1 d2 x0 x1 x2 f0 f1 f2 hm HX HN HOWN HDA HYM HBX
  dsimp only [mobj] at hs2 HN2 HOW HX2 HB2 HDB HDY HDL2 HY
  generalize (w.alloc (Obj.cells #[Value.int IntKind.i64 0, Value.int IntKind.i64 0, Value.slice none 0 0] 40)).alloc (Obj.cells #[Value.int IntKind.i64 xf, Value.int IntKind.i64 xt, Value.slice uo xd.length uc] 40) = W2 at *
  have HS2 := Lib.hid hs2
  have c1 := HN2.out.c1
  have f1 := HN2.out.fz 1
  rw [HLn.out] at c1
  clear hs2
  have HHX : Hid (∃ e : Addr, True) := Lib.hid ⟨⟨0, 0, none⟩, trivial⟩
  have hc1 : ¬ cap = i := by omega
  have hc2 : ¬ i = cap := by omega
  have hb1 : (i : Int) + 1 ≤ (n : Int) + 1 := by omega
  have hb2 : (i : Int) ≤ (n : Int) + 1 := by omega
  have hw : IntKind.i64.wrap ((i : Int) + 1) = (i : Int) + 1 := by rw [IntKind.wrap_i64]; omega
  have hb3 : (i : Int) ≤ (n : Int) := by omega
  have hb4 : (0 : Int) ≤ (i : Int) + 1 := by omega
  have HNN : Hid (∀ p q, p = n - i → q = n + 1 - i → (cellsG mC (L.drop (i + 1))).length = Nat.min p q * 3) := Lib.hid (by
    rintro p q rfl rfl
    rw [HSL.out, show Nat.min (n - i) (n + 1 - i) = n - i from Nat.min_eq_left (by omega)])
  have HFT : Hid (i * 3 + (cellsG mC (L.drop (i + 1))).length ≤ (n + 1) * 3) := Lib.hid (by rw [HSL.out]; omega)
  have HOD : Hid (W2.drew.ownsRow 0 40 3 (.slice (some ⟨g, 0, none⟩) (n + 1) cap) (n + 1) (cellsG mC L)) := HOW
  have hG := own_hasG mC_len HN2.out.ml.own
  rw [HLn.out] at hG
  have HNW : Hid (∀ j u, (cellsG mC (L.drop (i + 1)))[j]? = some u → W2.drew.cell? ((⟨g, (i + 1) * 3, none⟩ : Addr).add j) = some u) := Lib.hid ((hG.drop0 (k := i + 1) (by omega)).news mC_len _ rfl)
  have HLZ : Hid (cap = i + 1 → ¬ 0 < (cellsG mC (L.drop (i + 1))).length) := Lib.hid (fun e => by rw [HSL.out]; omega)
  clear hG
  have HCS : Hid (∃ cs, cs = cellsG mC (L.drop (i + 1))) := Lib.hid ⟨_, rfl⟩
  obtain ⟨cs, hcs⟩ := HCS.out
  rw [← hcs] at HNN HFT HNW HLZ HOE HONE HSL
  clear hcs HCS
  have HEL : Hid ((L.eraseIdx i).length = n) := Lib.hid (by rw [List.length_eraseIdx, HLn.out, if_pos hi]; omega)
  have HOV : Hid (over (cellsG mC L) (i * 3) cs = cellsG mC (L.eraseIdx i ++ [y])) := Lib.hid (by rw [HOE.out, HLn.out, Nat.add_sub_cancel, HDR.out])
  have HDE : Hid (∀ x ∈ L.eraseIdx i, DA C W2 x) := Lib.hid (fun x hx => HDL2.out x (List.mem_of_mem_eraseIdx hx))
  have hga : ¬ g = a := fun e => own_ne HN2.out.ml.own HN2.out.box (by decide) g rfl e
  have hag : ¬ a = g := fun e => hga e.symm
  have HLTG : Hid (g < w.heap.size) := Lib.hid (HLT.out g hCg)
  have HLTA : Hid (a < w.heap.size) := Lib.hid (HLT.out a HN2.out.ca)
  rcases Classical.em (cap = i + 1) with hc | hc
  · subst hc
    go_region_law (refine step_copy_own rfl (.tmp 25) (.tmp 32) 38 38 rfl 40 i0 3 under_nms hi0 hz1 (by decide) _ _ _ _ _ _ rfl rfl HOD.out (i * 3) cs (HNN.out _ _ (by omega) (by omega)) (fun hp => absurd hp (HLZ.out rfl)) HFT.out HONE.out ?_; intro w3 HO3 HT3)
    all_goals
      clear hc1 hc2 hb2 hb3 hb4 hw HNN HFT HOD HNW HLZ c1 f1
      have hT3 : Tn (· = g) W2 w3 := (Tn.refl (· = g) W2).drew.trans HT3.out (fun _ _ e => e)
      have ho3 := HO3.out
      rw [HOV.out] at ho3
      have hl1 : (L.eraseIdx i ++ [y]).length = n + 1 := by rw [List.length_append, HEL.out]; rfl
      have hn3 := HN2.out.turned (L' := L.eraseIdx i ++ [y]) rfl hT3 (by rw [hl1, HLn.out]; exact ho3) (fun x hx => by
        rcases List.mem_append.1 hx with hx | hx
        · exact HDE.out x hx
        · obtain rfl : x = y := by simpa using hx
          exact HDY.out)
      have HX3 := Lib.hid (HX2.out.tn hT3 (by have := HLTG.out; omega))
      have HY3 := Lib.hid (HY.out.tn hT3 (by have := HLTG.out; omega))
      have HD3 := Lib.hid (HDB.out.tn hT3 (fun k hk e => own_apart HN2.out.ml.own HDB.out.own (by decide) g rfl (e ▸ hk)))
      have c1 := hn3.c1
      have f1 := hn3.fz 1
      rw [HLn.out] at c1
      obtain ⟨g', eg, hg1, hg2, hmy, hdy⟩ := hn3.ml.at_ (k := n) (by rw [hl1]; omega)
      injection eg with eg
      injection eg with eg
      subst eg
      obtain ⟨p0, d0⟩ : ∃ v, w3.cell? ⟨g, n * 3, none⟩ = some v := ⟨_, hmy.c0⟩
      obtain ⟨p1, d1⟩ : ∃ v, w3.cell? ⟨g, n * 3 + 1, none⟩ = some v := ⟨_, hmy.c1⟩
      obtain ⟨p2, d2⟩ : ∃ v, w3.cell? ⟨g, n * 3 + 2, none⟩ = some v := ⟨_, hmy.c2⟩
      have hfz : ∀ o, w3.frozen? ⟨g, o, none⟩ = false := fun o => by
        obtain ⟨cur, hcur⟩ := own_at ho3 rfl
        simp [World.frozen?, hcur]
      have q0 := hfz (n * 3); have q1 := hfz (n * 3 + 1); have q2 := hfz (n * 3 + 2)
      have f0 := HX3.out.f0; have f01 := HX3.out.f1; have f02 := HX3.out.f2
      have x0 := HX3.out.c0; have x1 := HX3.out.c1; have x2 := HX3.out.c2
      have y0 := HY3.out.c0; have y1 := HY3.out.c1; have y2 := HY3.out.c2
      simp only at x0 x1 x2 y0 y1 y2
      have hb1 : (n : Int) ≤ (n : Int) + 1 := by omega
      have HT3 := Lib.hid hT3
      have HN3 := Lib.hid hn3
      have HO3 := Lib.hid ho3
      have n1 : ¬ w.heap.size + 1 = g := by have := HLTG.out; omega
      have n2 : ¬ w.heap.size + 1 = a := by have := HLTA.out; omega
      have n3 : ¬ w.heap.size = g := by have := HLTG.out; omega
      have n4 : ¬ w.heap.size = a := by have := HLTA.out; omega
      clear hmy hfz hdy hl1 hn3 ho3 hT3 hg1 hg2
      go_wp2
      have HO4 := own_setCells (mC (⟨0, 0, []⟩, .slice none 0 0)) (n * 3) HO3.out
      rw [over_last HEL.out] at HO4
      have t4 : Tn (· = g) w3 (w3.setCells g (n * 3) (mC (⟨0, 0, []⟩, .slice none 0 0))) := tn_setCells _ _ (Tn.refl _ w3)
      have hl4 : (L.eraseIdx i ++ [((⟨0, 0, []⟩, .slice none 0 0) : MH)]).length = n + 1 := by rw [List.length_append, HEL.out]; rfl
      have HN4 := HN3.out.turned (L' := L.eraseIdx i ++ [(⟨0, 0, []⟩, .slice none 0 0)]) rfl t4 (by rw [hl4, HLn.out]; exact HO4) (fun x hx => by
        rcases List.mem_append.1 hx with hx | hx
        · exact HN3.out.ml.dat x (List.mem_append_left _ hx)
        · obtain rfl : x = (⟨0, 0, []⟩, .slice none 0 0) := by simpa using hx
          exact ⟨World.ownsRow_nil _ _ _ _, fun k hk => by cases hk⟩)
      obtain ⟨HN5, t5⟩ := HN4.cut (k := n) (by rw [hl4]; exact HLn.out) (by rw [HLn.out]; exact Nat.le_succ n)
      have el : (List.map (·.1) (L.eraseIdx i ++ [((⟨0, 0, []⟩, .slice none 0 0) : MH)])).take n = l.eraseIdx i := by
        rw [List.map_append, List.take_left' (by rw [List.length_map, HEL.out]), HE.out, HN2.out.eq]
      rw [el] at HN5
      dsimp only [mC, World.setCells] at t4 t5 HN5
      have t45 := (t4.mono (U := fun k => k = g ∨ k = a) fun k _ e => .inl e).trans (U := (· = a)) t5 (fun k _ e => .inr e)
      have hxx := HX3.out.tn t45 (by omega)
      have hdd := HD3.out.tn t45 (fun k hk e => by
        rcases e with rfl | rfl
        · exact own_apart HN3.out.ml.own HD3.out.own (by decide) k rfl hk
        · exact HD3.out.ne HN3.out.box (by decide) k hk rfl)
      have t6 : ∀ W : World, Tn (· = w.heap.size) W (((W.setCell ⟨w.heap.size, 0, none⟩ (.int .i64 xf)).setCell ⟨w.heap.size, 1, none⟩ (.int .i64 xt)).setCell ⟨w.heap.size, 2, none⟩ (.slice uo xd.length uc)) := fun W => tn_set (tn_set (tn_set (Tn.refl _ _) _) _) _
      have hC : ∀ k, C k → ¬ k = w.heap.size := fun k hk e => by have := HLT.out k hk; omega
      refine bodyPost_ret (res_nm rfl _ rfl (hxx.setAll (⟨xf, xt, xd⟩, .slice uo xd.length uc))) rfl ⟨uo, uc, rfl, C, ⟨_, _, HN5.tn (t6 _) hC⟩, ?_, ?_, fun k hk => .inl hk⟩
      · exact ((hdd.tn (t6 _) (fun k hk => hC k (hdd.row k hk))).sb rfl).mono fun k _ e => .inl e
      · exact (((Tn.of_below (S := C) HB2.out).trans HT3.out (fun k _ e => e ▸ hCg)).trans t45 (fun k _ e => by
          rcases e with rfl | rfl
          · exact hCg
          · exact HN2.out.ca)).trans (t6 _) (fun k hk e => by omega)
  · go_region_law (refine step_copy_own rfl (.tmp 25) (.tmp 32) 38 38 rfl 40 i0 3 under_nms hi0 hz1 (by decide) _ _ _ _ _ _ rfl rfl HOD.out (i * 3) cs (HNN.out _ _ (by omega) (by omega)) (fun _ => ⟨rfl, _, rfl, HNW.out⟩) HFT.out HONE.out ?_; intro w3 HO3 HT3)
    all_goals
      clear hc1 hc2 hb2 hb3 hb4 hw HNN HFT HOD HNW HLZ c1 f1
      have hT3 : Tn (· = g) W2 w3 := (Tn.refl (· = g) W2).drew.trans HT3.out (fun _ _ e => e)
      have ho3 := HO3.out
      rw [HOV.out] at ho3
      have hl1 : (L.eraseIdx i ++ [y]).length = n + 1 := by rw [List.length_append, HEL.out]; rfl
      have hn3 := HN2.out.turned (L' := L.eraseIdx i ++ [y]) rfl hT3 (by rw [hl1, HLn.out]; exact ho3) (fun x hx => by
        rcases List.mem_append.1 hx with hx | hx
        · exact HDE.out x hx
        · obtain rfl : x = y := by simpa using hx
          exact HDY.out)
      have HX3 := Lib.hid (HX2.out.tn hT3 (by have := HLTG.out; omega))
      have HY3 := Lib.hid (HY.out.tn hT3 (by have := HLTG.out; omega))
      have HD3 := Lib.hid (HDB.out.tn hT3 (fun k hk e => own_apart HN2.out.ml.own HDB.out.own (by decide) g rfl (e ▸ hk)))
      have c1 := hn3.c1
      have f1 := hn3.fz 1
      rw [HLn.out] at c1
      obtain ⟨g', eg, hg1, hg2, hmy, hdy⟩ := hn3.ml.at_ (k := n) (by rw [hl1]; omega)
      injection eg with eg
      injection eg with eg
      subst eg
      obtain ⟨p0, d0⟩ : ∃ v, w3.cell? ⟨g, n * 3, none⟩ = some v := ⟨_, hmy.c0⟩
      obtain ⟨p1, d1⟩ : ∃ v, w3.cell? ⟨g, n * 3 + 1, none⟩ = some v := ⟨_, hmy.c1⟩
      obtain ⟨p2, d2⟩ : ∃ v, w3.cell? ⟨g, n * 3 + 2, none⟩ = some v := ⟨_, hmy.c2⟩
      have hfz : ∀ o, w3.frozen? ⟨g, o, none⟩ = false := fun o => by
        obtain ⟨cur, hcur⟩ := own_at ho3 rfl
        simp [World.frozen?, hcur]
      have q0 := hfz (n * 3); have q1 := hfz (n * 3 + 1); have q2 := hfz (n * 3 + 2)
      have f0 := HX3.out.f0; have f01 := HX3.out.f1; have f02 := HX3.out.f2
      have x0 := HX3.out.c0; have x1 := HX3.out.c1; have x2 := HX3.out.c2
      have y0 := HY3.out.c0; have y1 := HY3.out.c1; have y2 := HY3.out.c2
      simp only at x0 x1 x2 y0 y1 y2
      have hb1 : (n : Int) ≤ (n : Int) + 1 := by omega
      have HT3 := Lib.hid hT3
      have HN3 := Lib.hid hn3
      have HO3 := Lib.hid ho3
      have n1 : ¬ w.heap.size + 1 = g := by have := HLTG.out; omega
      have n2 : ¬ w.heap.size + 1 = a := by have := HLTA.out; omega
      have n3 : ¬ w.heap.size = g := by have := HLTG.out; omega
      have n4 : ¬ w.heap.size = a := by have := HLTA.out; omega
      clear hmy hfz hdy hl1 hn3 ho3 hT3 hg1 hg2
      go_wp2
      have HO4 := own_setCells (mC (⟨0, 0, []⟩, .slice none 0 0)) (n * 3) HO3.out
      rw [over_last HEL.out] at HO4
      have t4 : Tn (· = g) w3 (w3.setCells g (n * 3) (mC (⟨0, 0, []⟩, .slice none 0 0))) := tn_setCells _ _ (Tn.refl _ w3)
      have hl4 : (L.eraseIdx i ++ [((⟨0, 0, []⟩, .slice none 0 0) : MH)]).length = n + 1 := by rw [List.length_append, HEL.out]; rfl
      have HN4 := HN3.out.turned (L' := L.eraseIdx i ++ [(⟨0, 0, []⟩, .slice none 0 0)]) rfl t4 (by rw [hl4, HLn.out]; exact HO4) (fun x hx => by
        rcases List.mem_append.1 hx with hx | hx
        · exact HN3.out.ml.dat x (List.mem_append_left _ hx)
        · obtain rfl : x = (⟨0, 0, []⟩, .slice none 0 0) := by simpa using hx
          exact ⟨World.ownsRow_nil _ _ _ _, fun k hk => by cases hk⟩)
      obtain ⟨HN5, t5⟩ := HN4.cut (k := n) (by rw [hl4]; exact HLn.out) (by rw [HLn.out]; exact Nat.le_succ n)
      have el : (List.map (·.1) (L.eraseIdx i ++ [((⟨0, 0, []⟩, .slice none 0 0) : MH)])).take n = l.eraseIdx i := by
        rw [List.map_append, List.take_left' (by rw [List.length_map, HEL.out]), HE.out, HN2.out.eq]
      rw [el] at HN5
      dsimp only [mC, World.setCells] at t4 t5 HN5
      have t45 := (t4.mono (U := fun k => k = g ∨ k = a) fun k _ e => .inl e).trans (U := (· = a)) t5 (fun k _ e => .inr e)
      have hxx := HX3.out.tn t45 (by omega)
      have hdd := HD3.out.tn t45 (fun k hk e => by
        rcases e with rfl | rfl
        · exact own_apart HN3.out.ml.own HD3.out.own (by decide) k rfl hk
        · exact HD3.out.ne HN3.out.box (by decide) k hk rfl)
      have t6 : ∀ W : World, Tn (· = w.heap.size) W (((W.setCell ⟨w.heap.size, 0, none⟩ (.int .i64 xf)).setCell ⟨w.heap.size, 1, none⟩ (.int .i64 xt)).setCell ⟨w.heap.size, 2, none⟩ (.slice uo xd.length uc)) := fun W => tn_set (tn_set (tn_set (Tn.refl _ _) _) _) _
      have hC : ∀ k, C k → ¬ k = w.heap.size := fun k hk e => by have := HLT.out k hk; omega
      refine bodyPost_ret (res_nm rfl _ rfl (hxx.setAll (⟨xf, xt, xd⟩, .slice uo xd.length uc))) rfl ⟨uo, uc, rfl, C, ⟨_, _, HN5.tn (t6 _) hC⟩, ?_, ?_, fun k hk => .inl hk⟩
      · exact ((hdd.tn (t6 _) (fun k hk => hC k (hdd.row k hk))).sb rfl).mono fun k _ e => .inl e
      · exact (((Tn.of_below (S := C) HB2.out).trans HT3.out (fun k _ e => e ▸ hCg)).trans t45 (fun k _ e => by
          rcases e with rfl | rfl
          · exact hCg
          · exact HN2.out.ca)).trans (t6 _) (fun k hk e => by omega)
theorem ntake_yes (h : NK C w a room l) {i : Nat} (hi : i < l.length) (hl : l.length ≤ 1000000) (_hd : l[i].d.length ≤ 100000000) : Calls Try.prog 15 #[ptr a, .int .i64 i] w (NTook C w a room (l.eraseIdx i) l[i]) := ntake_all h hi hl
end
end Go.Proofs.Ytcgbjpmmbbldpaa
