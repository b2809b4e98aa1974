/- The net's Move. Conditions: no more than a million mails. -/
import Derived.Test.YtcgbjpmmbbldpaaKf
namespace Go.Proofs.Ytcgbjpmmbbldpaa
open Go.ChangeShapes Go.WideShapes Go.ChangeAt Go.RowKit Go.Deep
theorem over_at {A B : List MH} {x y : MH} {p : Nat} (h : A.length = p) : over (cellsG mC (A ++ y :: B)) (p * 3) (mC x) = cellsG mC (A ++ x :: B) := by
  have hl : (cellsG mC A).length = p * 3 := by rw [length_cellsG mC_len, h]
  have e : ∀ z : MH, cellsG mC (A ++ z :: B) = cellsG mC A ++ (mC z ++ cellsG mC B) := fun z => by rw [cellsG_append]; rfl
  rw [e, e, over_eq _ _ _ (by rw [List.length_append, List.length_append, hl, mC_len, mC_len]; omega), List.take_left' hl, mC_len, ← hl]
  rw [show (cellsG mC A).length + 3 = (cellsG mC A).length + (mC y).length by rw [mC_len], ← List.drop_drop, List.drop_left, List.drop_left]
theorem over_copy {L M : List MH} {o : Nat} (h : o + M.length ≤ L.length) : over (cellsG mC L) (o * 3) (cellsG mC M) = cellsG mC (L.take o ++ (M ++ L.drop (o + M.length))) := by
  have hl : (cellsG mC L).length = L.length * 3 := length_cellsG mC_len L
  have hm : (cellsG mC M).length = M.length * 3 := length_cellsG mC_len M
  rw [over_eq _ _ _ (by omega), cellsG_append, cellsG_append, cellsG_take mC_len, cellsG_drop mC_len, hm, Nat.add_mul]
/-- What stands there once the others have been moved along, and the mail is not yet at its place. -/
structure Moved (L : List MH) (i p : Nat) (x : MH) (xs : List Value) (A : List MH) (y : MH) (B : List MH) : Prop where
  eq : xs = cellsG mC (A ++ y :: B)
  len : A.length = p
  all : (A ++ y :: B).length = L.length
  end_ : A ++ x :: B = (L.eraseIdx i).take p ++ x :: (L.eraseIdx i).drop p
  mem : ∀ z ∈ A ++ y :: B, z ∈ L
theorem moved_up {L : List MH} {i p : Nat} (x : MH) (hi : i < L.length) (hp : p < i) : ∃ A y B, Moved L i p x (over (cellsG mC L) ((p + 1) * 3) (cellsG mC ((L.drop p).take (i - p)))) A y B := by
  have hm : ((L.drop p).take (i - p)).length = i - p := by rw [List.length_take, List.length_drop]; omega
  have hlt : (L.take p).length = p := by rw [List.length_take]; omega
  have hti : (L.take i).length = i := by rw [List.length_take]; omega
  refine ⟨L.take p, L[p], (L.drop p).take (i - p) ++ L.drop (i + 1), ?_, hlt, ?_, ?_, ?_⟩
  · rw [over_copy (by rw [hm]; omega), hm, show p + 1 + (i - p) = i + 1 by omega, List.take_succ_eq_append_getElem (by omega), List.append_assoc]
    rfl
  · simp only [List.length_append, List.length_cons, hlt, hm, List.length_drop]; omega
  · rw [erase_td, List.take_append_of_le_length (by omega), List.drop_append_of_le_length (by omega), List.take_take, Nat.min_eq_left (by omega), List.drop_take]
  · intro z hz
    rcases List.mem_append.1 hz with hz | hz
    · exact List.mem_of_mem_take hz
    · rcases List.mem_cons.1 hz with rfl | hz
      · exact List.getElem_mem _
      · rcases List.mem_append.1 hz with hz | hz
        · exact List.mem_of_mem_drop (List.mem_of_mem_take hz)
        · exact List.mem_of_mem_drop hz
theorem moved_down {L : List MH} {i p : Nat} (x : MH) (hi : p < L.length) (hp : i ≤ p) : ∃ A y B, Moved L i p x (over (cellsG mC L) (i * 3) (cellsG mC ((L.drop (i + 1)).take (p - i)))) A y B := by
  have hm : ((L.drop (i + 1)).take (p - i)).length = p - i := by rw [List.length_take, List.length_drop]; omega
  have hlt : (L.take i).length = i := by rw [List.length_take]; omega
  have hA : (L.take i ++ (L.drop (i + 1)).take (p - i)).length = p := by rw [List.length_append, hlt, hm]; omega
  refine ⟨L.take i ++ (L.drop (i + 1)).take (p - i), L[p], L.drop (p + 1), ?_, hA, ?_, ?_, ?_⟩
  · rw [over_copy (by rw [hm]; omega), hm, show i + (p - i) = p by omega, ← List.append_assoc, ← List.drop_eq_getElem_cons]
  · rw [List.length_append, hA, List.length_cons, List.length_drop]; omega
  · rw [erase_td, List.take_append, List.drop_append, hlt, List.take_of_length_le (l := L.take i) (by omega), List.drop_of_length_le (l := L.take i) (by omega), List.drop_drop, List.nil_append, show i + 1 + (p - i) = p + 1 by omega]
  · intro z hz
    rcases List.mem_append.1 hz with hz | hz
    · rcases List.mem_append.1 hz with hz | hz
      · exact List.mem_of_mem_take hz
      · exact List.mem_of_mem_drop (List.mem_of_mem_take hz)
    · rcases List.mem_cons.1 hz with rfl | hz
      · exact List.getElem_mem _
      · exact List.mem_of_mem_drop hz
section
variable {C D : Nat → Prop} {w : World} {a : Nat} {room : Int} {l : List MV}
set_option maxRecDepth 100000 in
theorem nmove_no (h : NK C w a room l) {i : Int} (hi : hasB l i = false) (to : Int) : Calls Try.prog 19 #[ptr a, .int .i64 i, .int .i64 to] w fun e w' => e = .returned (.bool false) ∧ Below w.heap.size w w' := by
  have HH := fun w h => Lib.hid (nhas_any (w := w) (a := a) (C := C) (room := room) (l := l) h i)
  simp only [hi] at HH
  have HR := Lib.hid h
  clear h hi
  go_enter Try.func19, Try.ntmps19
  go_wp2_with (go_at_call 32; refine (HH _ HR.out).out.mono ?_; rintro e w1 ⟨rfl, rfl⟩)
  go_ret
  exact ⟨rfl, Below.refl _ _⟩
set_option maxRecDepth 100000 in
set_option maxHeartbeats 4000000 in
theorem nmove_yes (h : NK C w a room l) {i : Nat} (hi : i < l.length) (hl : l.length ≤ 1000000) (to : Int) : Calls Try.prog 19 #[ptr a, .int .i64 i, .int .i64 to] w (NWent C w a room (moveV l i to) (.bool true)) := by
  obtain ⟨i0, hi0, hz0, hz1, hz2⟩ := info_parts info_nm
  have HH := fun w h => Lib.hid (nhas_any (w := w) (a := a) (C := C) (room := room) (l := l) h i)
  simp only [hasB_of hi] at HH
  have hmv : moveV l i to = (l.eraseIdx i).take (placeV (l.eraseIdx i).length to) ++ l[i] :: (l.eraseIdx i).drop (placeV (l.eraseIdx i).length to) := by
    unfold moveV
    rw [List.getD_eq_getElem?_getD, List.getElem?_eq_getElem hi]; rfl
  rw [hmv]
  clear hmv
  have HR := Lib.hid h
  obtain ⟨v, L, hr⟩ := h
  have hk : i < L.length := by rw [hr.len]; exact hi
  have c1 := hr.c1
  obtain ⟨ao, cap, e⟩ := own_slice hr.ml.own
  subst e
  rw [hr.len] at c1
  obtain ⟨g, rfl, hgl, hCg, hm, hda⟩ := hr.ml.at_ hk
  have he := eq_at hr.eq hk hi
  have hln := hr.len
  have HN := Lib.hid hr
  clear hr
  have HE : Hid (L.map (·.1) = l) := Lib.hid HN.out.eq
  obtain ⟨n, hn⟩ : ∃ n, l.length = n + 1 := ⟨l.length - 1, by omega⟩
  rw [hn] at c1 hi hln hl
  have hown := HN.out.ml.own
  rw [hln] at hown
  have hmx := own_max hown
  have HLn := Lib.hid hln
  have HOWN := Lib.hid hown
  have HEL : Hid ((l.eraseIdx i).length = n) := Lib.hid (by rw [List.length_eraseIdx, hn, if_pos hi]; omega)
  have HLT := Lib.hid HN.out.lt
  have hpc := placeV_cases n to
  have hple := placeV_le n to
  rw [HEL.out]
  obtain ⟨p, hp⟩ : ∃ p, placeV n to = p := ⟨_, rfl⟩
  simp only [hp] at hpc hple
  rw [hp]
  obtain ⟨x, hx⟩ : ∃ x, L[i] = x := ⟨_, rfl⟩
  rw [hx] at hm hda he
  have HMU := Lib.hid (fun q : p < i => moved_up x hk q)
  have HMD := Lib.hid (fun q : i ≤ p => moved_down x (show p < L.length by rw [hln]; omega) q)
  have HEX : Hid ((L.eraseIdx i).map (·.1) = l.eraseIdx i) := Lib.hid (by rw [map_erase, HE.out])
  clear hn hk hown hln hx hp
  rw [← he]
  obtain ⟨x, u⟩ := x
  simp only at he
  clear he
  obtain ⟨uo, uc, e⟩ := own_slice hda.own
  simp only at e
  subst e
  obtain ⟨xf, xt, xd⟩ := x
  simp only
  have HDA := Lib.hid hda
  clear hda
  have d0 := hm.c0; have d1 := hm.c1; have d2 := hm.c2
  simp only at d0 d1 d2
  clear hm
  have HY := Lib.hid (mx_new w 40 (⟨xf, xt, xd⟩, .slice uo xd.length uc))
  have hnn : (0 : Int) ≤ n := by omega
  have key : ∀ to : Int, True := fun _ => trivial
  go_enter Try.func19, Try.ntmps19
  rcases hpc with ⟨ht, rfl⟩ | ⟨p', rfl, ht, rfl⟩ | ⟨rfl, hpn⟩ | ⟨ht, ht0, hpn⟩
  · have hpi0 : 0 < i ∨ i ≤ 0 := by omega
    rcases hpi0 with hpi | hpi
    · go_wp2_with (first
        | (go_at_call 32; refine (HH _ HR.out).out.mono ?_; rintro e w1 ⟨rfl, rfl⟩)
        | fail)
      have hs2 : (w.alloc (mobj 40 (⟨xf, xt, xd⟩, .slice uo xd.length uc))).heap.size = w.heap.size + 1 := by simp
      have hb2 := below1 w (mobj 40 (⟨xf, xt, xd⟩, .slice uo xd.length uc))
      have HN2 := Lib.hid (HN.out.below hb2)
      have HOW := Lib.hid (own_below HOWN.out hb2)
      have HB2 := Lib.hid hb2
      have HDB := Lib.hid (HDA.out.below hb2)
      have HDL2 := Lib.hid (fun x hx => (HN.out.ml.dat x hx).below hb2)
      clear hb2 c1 d0 d1 d2 HN HOWN HDA HR HH
      dsimp only [mobj] at hs2 HN2 HOW HB2 HDB HDL2 HY
      generalize w.alloc (Obj.cells #[Value.int IntKind.i64 xf, Value.int IntKind.i64 xt, Value.slice uo xd.length uc] 40) = W2 at *
      have HS2 := Lib.hid hs2
      have c1 := HN2.out.c1
      rw [HLn.out] at c1
      clear hs2
      have hga : ¬ g = a := fun e => own_ne HN2.out.ml.own HN2.out.box (by decide) g rfl e
      have hag : ¬ a = g := fun e => hga e.symm
      have HLTG : Hid (g < w.heap.size) := Lib.hid (HLT.out g hCg)
      have HLTA : Hid (a < w.heap.size) := Lib.hid (HLT.out a HN2.out.ca)
      have HOD : Hid (W2.drew.ownsRow 0 40 3 (.slice (some ⟨g, 0, none⟩) (n + 1) cap) (n + 1) (cellsG mC L)) := HOW
      have hG := own_hasG mC_len HN2.out.ml.own
      rw [HLn.out] at hG
      clear HMD
      obtain ⟨A, y, B, hmo⟩ := HMU.out hpi
      clear HMU
      have HSL : Hid ((cellsG mC ((L.drop 0).take (i - 0))).length = (i - 0) * 3) := Lib.hid (by rw [length_cellsG mC_len, List.length_take, List.length_drop, HLn.out]; congr 1; omega)
      have HONE := Lib.hid (one_ml (L := (L.drop 0).take (i - 0)) (fun x hx => HDL2.out x (List.mem_of_mem_drop (List.mem_of_mem_take hx))))
      have HNN : Hid (∀ q r, q = i - 0 → r = n + 1 - (0 + 1) → (cellsG mC ((L.drop 0).take (i - 0))).length = Nat.min q r * 3) := Lib.hid (by
        intro q r e1 e2
        rw [e1, e2, HSL.out, show Nat.min (i - 0) (n + 1 - (0 + 1)) = i - 0 from Nat.min_eq_left (by omega)])
      have HFT : Hid ((0 + 1) * 3 + (cellsG mC ((L.drop 0).take (i - 0))).length ≤ (n + 1) * 3) := Lib.hid (by rw [HSL.out]; omega)
      have HNW : Hid (∀ j u, (cellsG mC ((L.drop 0).take (i - 0)))[j]? = some u → W2.drew.cell? ((⟨g, 0 * 3, none⟩ : Addr).add j) = some u) := Lib.hid (((hG.drop0 (k := 0) (by omega)).take (k := i - 0) (by omega)).news mC_len _ rfl)
      clear hG
      obtain ⟨cs, hcs⟩ : ∃ cs, cs = cellsG mC ((L.drop 0).take (i - 0)) := ⟨_, rfl⟩
      rw [← hcs] at HNN HFT HNW hmo HONE HSL
      have HMO := Lib.hid hmo
      clear hcs hmo
      have hc1 : ¬ cap = 1 := by omega
      have hc2 : ¬ 1 = cap := by omega
      have hc3 : ¬ cap = 0 := by omega
      have hc4 : ¬ 0 = cap := by omega
      have hb1 : (0 : Int) ≤ (n : Int) := by omega
      have hb2 : (1 : Int) ≤ (n : Int) + 1 := by omega
      have hb3 : (0 : Int) ≤ (i : Int) := by omega
      have hb4 : (i : Int) ≤ (cap : Int) := by omega
      have hb5 : (0 : Int) ≤ (1 : Int) := by omega
      have hb6 : 0 ≤ i := by omega
      have hb7 : i ≤ cap := by omega
      have hw : IntKind.i64.wrap 1 = 1 := by decide
      go_region_law (refine step_copy_own rfl (.tmp 37) (.tmp 44) 38 38 rfl 40 i0 3 under_nms hi0 hz1 (by decide) _ _ _ _ _ _ rfl rfl HOD.out ((0 + 1) * 3) cs (HNN.out _ _ (by omega) (by omega)) (fun _ => ⟨rfl, _, rfl, HNW.out⟩) HFT.out HONE.out ?_; intro w3 HO3 HT3)
      all_goals
        clear hb1 hb2 hb3 hb4 hb5 hb6 hb7 hc1 hc2 hc3 hc4 hw
        clear HNN HFT HOD HNW c1
        have hT3 : Tn (· = g) W2 w3 := (Tn.refl (· = g) W2).drew.trans HT3.out (fun _ _ e => e)
        have ho3 := HO3.out
        rw [HMO.out.eq] at ho3
        have hl1 : (A ++ y :: B).length = n + 1 := HMO.out.all.trans HLn.out
        have hn3 := HN2.out.turned (L' := A ++ y :: B) rfl hT3 (by rw [hl1, HLn.out]; exact ho3) (fun z hz => HDL2.out z (HMO.out.mem z hz))
        have HY3 := Lib.hid (HY.out.tn hT3 (by have := HLTG.out; omega))
        have HD3 := Lib.hid (HDB.out.tn hT3 (fun k hk e => own_apart HN2.out.ml.own HDB.out.own (by decide) g rfl (e ▸ hk)))
        have c1 := hn3.c1
        rw [HLn.out] at c1
        obtain ⟨g', eg, hg1, hg2, hmy, hdy⟩ := hn3.ml.at_ (k := 0) (by rw [hl1]; omega)
        injection eg with eg
        injection eg with eg
        subst eg
        obtain ⟨p0, d0⟩ : ∃ v, w3.cell? ⟨g, 0 * 3, none⟩ = some v := ⟨_, hmy.c0⟩
        obtain ⟨p1, d1⟩ : ∃ v, w3.cell? ⟨g, 0 * 3 + 1, none⟩ = some v := ⟨_, hmy.c1⟩
        obtain ⟨p2, d2⟩ : ∃ v, w3.cell? ⟨g, 0 * 3 + 2, none⟩ = some v := ⟨_, hmy.c2⟩
        have hfz : ∀ o, w3.frozen? ⟨g, o, none⟩ = false := fun o => by
          obtain ⟨cur, hcur⟩ := own_at ho3 rfl
          simp [World.frozen?, hcur]
        have q0 := hfz (0 * 3); have q1 := hfz (0 * 3 + 1); have q2 := hfz (0 * 3 + 2)
        have y0 := HY3.out.c0; have y1 := HY3.out.c1; have y2 := HY3.out.c2
        simp only at y0 y1 y2
        have hb1 : (0 : Int) ≤ (n : Int) := by omega
        have hb2 : (0 : Int) < (n : Int) + 1 := by omega
        have hb3 : 0 < n + 1 := by omega
        have HT3 := Lib.hid hT3
        have HN3 := Lib.hid hn3
        have HO3 := Lib.hid ho3
        clear hmy hfz hdy hl1 hn3 ho3 hT3 hg1 hg2
        have HO4 := own_setCells (mC (⟨xf, xt, xd⟩, .slice uo xd.length uc)) (0 * 3) HO3.out
        rw [over_at HMO.out.len] at HO4
        have t4 : Tn (· = g) w3 (w3.setCells g (0 * 3) (mC (⟨xf, xt, xd⟩, .slice uo xd.length uc))) := tn_setCells _ _ (Tn.refl _ w3)
        have hl4 : (A ++ (((⟨xf, xt, xd⟩, .slice uo xd.length uc) : MH) :: B)).length = n + 1 := by
          rw [← HLn.out, ← HMO.out.all]
          simp
        have HN4 := HN3.out.turned (L' := A ++ (⟨xf, xt, xd⟩, .slice uo xd.length uc) :: B) rfl t4 (by rw [hl4, HLn.out]; exact HO4) (fun z hz => by
          rcases List.mem_append.1 hz with hz | hz
          · exact HN3.out.ml.dat z (List.mem_append_left _ hz)
          · rcases List.mem_cons.1 hz with rfl | hz
            · exact HD3.out
            · exact HN3.out.ml.dat z (List.mem_append_right _ (List.mem_cons_of_mem _ hz)))
        have el : List.map (·.1) (A ++ ((⟨xf, xt, xd⟩, .slice uo xd.length uc) : MH) :: B) = (l.eraseIdx i).take 0 ++ ⟨xf, xt, xd⟩ :: (l.eraseIdx i).drop 0 := by
          rw [HMO.out.end_, List.map_append, List.map_cons, List.map_take, List.map_drop, HEX.out]
        rw [el] at HN4
        have t5 := (((Tn.of_below (S := C) HB2.out).trans HT3.out (fun k _ e => e ▸ hCg)).trans t4 (fun k _ e => e ▸ hCg))
        replace HN4 := Lib.hid HN4
        replace t5 := Lib.hid t5
        clear HO4 t4 hl4 el
        go_wp2
        go_region
        all_goals go_wp2
        all_goals
          go_ret
          exact ⟨rfl, C, ⟨_, _, HN4.out.tn (S := fun _ => False) ((Tn.refl _ _).drew) (fun _ _ e => e)⟩, ⟨t5.out.drew, fun k hk => .inl hk⟩⟩
    · go_wp2_with (first
        | (go_at_call 32; refine (HH _ HR.out).out.mono ?_; rintro e w1 ⟨rfl, rfl⟩)
        | fail)
      have hs2 : (w.alloc (mobj 40 (⟨xf, xt, xd⟩, .slice uo xd.length uc))).heap.size = w.heap.size + 1 := by simp
      have hb2 := below1 w (mobj 40 (⟨xf, xt, xd⟩, .slice uo xd.length uc))
      have HN2 := Lib.hid (HN.out.below hb2)
      have HOW := Lib.hid (own_below HOWN.out hb2)
      have HB2 := Lib.hid hb2
      have HDB := Lib.hid (HDA.out.below hb2)
      have HDL2 := Lib.hid (fun x hx => (HN.out.ml.dat x hx).below hb2)
      clear hb2 c1 d0 d1 d2 HN HOWN HDA HR HH
      dsimp only [mobj] at hs2 HN2 HOW HB2 HDB HDL2 HY
      generalize w.alloc (Obj.cells #[Value.int IntKind.i64 xf, Value.int IntKind.i64 xt, Value.slice uo xd.length uc] 40) = W2 at *
      have HS2 := Lib.hid hs2
      have c1 := HN2.out.c1
      rw [HLn.out] at c1
      clear hs2
      have hga : ¬ g = a := fun e => own_ne HN2.out.ml.own HN2.out.box (by decide) g rfl e
      have hag : ¬ a = g := fun e => hga e.symm
      have HLTG : Hid (g < w.heap.size) := Lib.hid (HLT.out g hCg)
      have HLTA : Hid (a < w.heap.size) := Lib.hid (HLT.out a HN2.out.ca)
      have HOD : Hid (W2.drew.ownsRow 0 40 3 (.slice (some ⟨g, 0, none⟩) (n + 1) cap) (n + 1) (cellsG mC L)) := HOW
      have hG := own_hasG mC_len HN2.out.ml.own
      rw [HLn.out] at hG
      clear HMU
      obtain ⟨A, y, B, hmo⟩ := HMD.out hpi
      clear HMD
      have HSL : Hid ((cellsG mC ((L.drop (i + 1)).take (0 - i))).length = (0 - i) * 3) := Lib.hid (by rw [length_cellsG mC_len, List.length_take, List.length_drop, HLn.out]; congr 1; omega)
      have HONE := Lib.hid (one_ml (L := (L.drop (i + 1)).take (0 - i)) (fun x hx => HDL2.out x (List.mem_of_mem_drop (List.mem_of_mem_take hx))))
      have HNN : Hid (∀ q r, q = 0 - i → r = n + 1 - i → (cellsG mC ((L.drop (i + 1)).take (0 - i))).length = Nat.min q r * 3) := Lib.hid (by
        intro q r e1 e2
        rw [e1, e2, HSL.out, show Nat.min (0 - i) (n + 1 - i) = 0 - i from Nat.min_eq_left (by omega)])
      have HFT : Hid (i * 3 + (cellsG mC ((L.drop (i + 1)).take (0 - i))).length ≤ (n + 1) * 3) := Lib.hid (by rw [HSL.out]; omega)
      have HNW : Hid (∀ j u, (cellsG mC ((L.drop (i + 1)).take (0 - i)))[j]? = some u → W2.drew.cell? ((⟨g, (i + 1) * 3, none⟩ : Addr).add j) = some u) := Lib.hid (((hG.drop0 (k := i + 1) (by omega)).take (k := 0 - i) (by omega)).news mC_len _ rfl)
      have HLZ : Hid (cap = i + 1 → ¬ 0 < (cellsG mC ((L.drop (i + 1)).take (0 - i))).length) := Lib.hid (fun e => by rw [HSL.out]; omega)
      clear hG
      obtain ⟨cs, hcs⟩ : ∃ cs, cs = cellsG mC ((L.drop (i + 1)).take (0 - i)) := ⟨_, rfl⟩
      rw [← hcs] at HNN HFT HNW hmo HONE HSL HLZ
      have HMO := Lib.hid hmo
      clear hcs hmo
      have hc1 : ¬ cap = i := by omega
      have hc2 : ¬ i = cap := by omega
      have hb1 : (i : Int) ≤ (n : Int) := by omega
      have hb2 : (i : Int) + 1 ≤ (n : Int) + 1 := by omega
      have hb3 : (i : Int) ≤ (0 : Int) := by omega
      have hb4 : (1 : Int) ≤ (cap : Int) := by omega
      have hb5 : (0 : Int) ≤ (i : Int) + 1 := by omega
      have hb6 : (i : Int) ≤ (n : Int) + 1 := by omega
      have hb7 : 1 ≤ cap := by omega
      have hb8 : (0 : Int) ≤ (1 : Int) := by omega
      have hb10 : (1 : Int) ≤ (i : Int) + 1 := by omega
      have hb11 : (i : Int) + 1 ≤ (1 : Int) := by omega
      have hw : IntKind.i64.wrap ((i : Int) + 1) = (i : Int) + 1 := by rw [IntKind.wrap_i64]; omega
      have hw2 : IntKind.i64.wrap 1 = 1 := by decide
      rcases Classical.em (cap = i + 1) with hc | hc
      · subst hc
        have hb9 : 0 ≤ i := by omega
        go_region_law (refine step_copy_own rfl (.tmp 51) (.tmp 60) 38 38 rfl 40 i0 3 under_nms hi0 hz1 (by decide) _ _ _ _ _ _ rfl rfl HOD.out (i * 3) cs (HNN.out _ _ (by omega) (by omega)) (fun hp => absurd hp (HLZ.out rfl)) HFT.out HONE.out ?_; intro w3 HO3 HT3)
        all_goals
          clear hb1 hb2 hb3 hb4 hb5 hb6 hb7 hb8 hb10 hb11 hb9 hc1 hc2 hw hw2 HLZ
          clear HNN HFT HOD HNW c1
          have hT3 : Tn (· = g) W2 w3 := (Tn.refl (· = g) W2).drew.trans HT3.out (fun _ _ e => e)
          have ho3 := HO3.out
          rw [HMO.out.eq] at ho3
          have hl1 : (A ++ y :: B).length = n + 1 := HMO.out.all.trans HLn.out
          have hn3 := HN2.out.turned (L' := A ++ y :: B) rfl hT3 (by rw [hl1, HLn.out]; exact ho3) (fun z hz => HDL2.out z (HMO.out.mem z hz))
          have HY3 := Lib.hid (HY.out.tn hT3 (by have := HLTG.out; omega))
          have HD3 := Lib.hid (HDB.out.tn hT3 (fun k hk e => own_apart HN2.out.ml.own HDB.out.own (by decide) g rfl (e ▸ hk)))
          have c1 := hn3.c1
          rw [HLn.out] at c1
          obtain ⟨g', eg, hg1, hg2, hmy, hdy⟩ := hn3.ml.at_ (k := 0) (by rw [hl1]; omega)
          injection eg with eg
          injection eg with eg
          subst eg
          obtain ⟨p0, d0⟩ : ∃ v, w3.cell? ⟨g, 0 * 3, none⟩ = some v := ⟨_, hmy.c0⟩
          obtain ⟨p1, d1⟩ : ∃ v, w3.cell? ⟨g, 0 * 3 + 1, none⟩ = some v := ⟨_, hmy.c1⟩
          obtain ⟨p2, d2⟩ : ∃ v, w3.cell? ⟨g, 0 * 3 + 2, none⟩ = some v := ⟨_, hmy.c2⟩
          have hfz : ∀ o, w3.frozen? ⟨g, o, none⟩ = false := fun o => by
            obtain ⟨cur, hcur⟩ := own_at ho3 rfl
            simp [World.frozen?, hcur]
          have q0 := hfz (0 * 3); have q1 := hfz (0 * 3 + 1); have q2 := hfz (0 * 3 + 2)
          have y0 := HY3.out.c0; have y1 := HY3.out.c1; have y2 := HY3.out.c2
          simp only at y0 y1 y2
          have hb1 : (0 : Int) ≤ (n : Int) := by omega
          have hb2 : (0 : Int) < (n : Int) + 1 := by omega
          have hb3 : 0 < n + 1 := by omega
          have HT3 := Lib.hid hT3
          have HN3 := Lib.hid hn3
          have HO3 := Lib.hid ho3
          clear hmy hfz hdy hl1 hn3 ho3 hT3 hg1 hg2
          have HO4 := own_setCells (mC (⟨xf, xt, xd⟩, .slice uo xd.length uc)) (0 * 3) HO3.out
          rw [over_at HMO.out.len] at HO4
          have t4 : Tn (· = g) w3 (w3.setCells g (0 * 3) (mC (⟨xf, xt, xd⟩, .slice uo xd.length uc))) := tn_setCells _ _ (Tn.refl _ w3)
          have hl4 : (A ++ (((⟨xf, xt, xd⟩, .slice uo xd.length uc) : MH) :: B)).length = n + 1 := by
            rw [← HLn.out, ← HMO.out.all]
            simp
          have HN4 := HN3.out.turned (L' := A ++ (⟨xf, xt, xd⟩, .slice uo xd.length uc) :: B) rfl t4 (by rw [hl4, HLn.out]; exact HO4) (fun z hz => by
            rcases List.mem_append.1 hz with hz | hz
            · exact HN3.out.ml.dat z (List.mem_append_left _ hz)
            · rcases List.mem_cons.1 hz with rfl | hz
              · exact HD3.out
              · exact HN3.out.ml.dat z (List.mem_append_right _ (List.mem_cons_of_mem _ hz)))
          have el : List.map (·.1) (A ++ ((⟨xf, xt, xd⟩, .slice uo xd.length uc) : MH) :: B) = (l.eraseIdx i).take 0 ++ ⟨xf, xt, xd⟩ :: (l.eraseIdx i).drop 0 := by
            rw [HMO.out.end_, List.map_append, List.map_cons, List.map_take, List.map_drop, HEX.out]
          rw [el] at HN4
          have t5 := (((Tn.of_below (S := C) HB2.out).trans HT3.out (fun k _ e => e ▸ hCg)).trans t4 (fun k _ e => e ▸ hCg))
          replace HN4 := Lib.hid HN4
          replace t5 := Lib.hid t5
          clear HO4 t4 hl4 el
          go_wp2
          go_region
          all_goals go_wp2
          all_goals
            go_ret
            exact ⟨rfl, C, ⟨_, _, HN4.out.tn (S := fun _ => False) ((Tn.refl _ _).drew) (fun _ _ e => e)⟩, ⟨t5.out.drew, fun k hk => .inl hk⟩⟩

      · go_region_law (refine step_copy_own rfl (.tmp 51) (.tmp 60) 38 38 rfl 40 i0 3 under_nms hi0 hz1 (by decide) _ _ _ _ _ _ rfl rfl HOD.out (i * 3) cs (HNN.out _ _ (by omega) (by omega)) (fun _ => ⟨rfl, _, rfl, HNW.out⟩) HFT.out HONE.out ?_; intro w3 HO3 HT3)
        all_goals
          clear hb1 hb2 hb3 hb4 hb5 hb6 hb7 hb8 hb10 hb11 hc1 hc2 hc hw hw2 HLZ
          clear HNN HFT HOD HNW c1
          have hT3 : Tn (· = g) W2 w3 := (Tn.refl (· = g) W2).drew.trans HT3.out (fun _ _ e => e)
          have ho3 := HO3.out
          rw [HMO.out.eq] at ho3
          have hl1 : (A ++ y :: B).length = n + 1 := HMO.out.all.trans HLn.out
          have hn3 := HN2.out.turned (L' := A ++ y :: B) rfl hT3 (by rw [hl1, HLn.out]; exact ho3) (fun z hz => HDL2.out z (HMO.out.mem z hz))
          have HY3 := Lib.hid (HY.out.tn hT3 (by have := HLTG.out; omega))
          have HD3 := Lib.hid (HDB.out.tn hT3 (fun k hk e => own_apart HN2.out.ml.own HDB.out.own (by decide) g rfl (e ▸ hk)))
          have c1 := hn3.c1
          rw [HLn.out] at c1
          obtain ⟨g', eg, hg1, hg2, hmy, hdy⟩ := hn3.ml.at_ (k := 0) (by rw [hl1]; omega)
          injection eg with eg
          injection eg with eg
          subst eg
          obtain ⟨p0, d0⟩ : ∃ v, w3.cell? ⟨g, 0 * 3, none⟩ = some v := ⟨_, hmy.c0⟩
          obtain ⟨p1, d1⟩ : ∃ v, w3.cell? ⟨g, 0 * 3 + 1, none⟩ = some v := ⟨_, hmy.c1⟩
          obtain ⟨p2, d2⟩ : ∃ v, w3.cell? ⟨g, 0 * 3 + 2, none⟩ = some v := ⟨_, hmy.c2⟩
          have hfz : ∀ o, w3.frozen? ⟨g, o, none⟩ = false := fun o => by
            obtain ⟨cur, hcur⟩ := own_at ho3 rfl
            simp [World.frozen?, hcur]
          have q0 := hfz (0 * 3); have q1 := hfz (0 * 3 + 1); have q2 := hfz (0 * 3 + 2)
          have y0 := HY3.out.c0; have y1 := HY3.out.c1; have y2 := HY3.out.c2
          simp only at y0 y1 y2
          have hb1 : (0 : Int) ≤ (n : Int) := by omega
          have hb2 : (0 : Int) < (n : Int) + 1 := by omega
          have hb3 : 0 < n + 1 := by omega
          have HT3 := Lib.hid hT3
          have HN3 := Lib.hid hn3
          have HO3 := Lib.hid ho3
          clear hmy hfz hdy hl1 hn3 ho3 hT3 hg1 hg2
          have HO4 := own_setCells (mC (⟨xf, xt, xd⟩, .slice uo xd.length uc)) (0 * 3) HO3.out
          rw [over_at HMO.out.len] at HO4
          have t4 : Tn (· = g) w3 (w3.setCells g (0 * 3) (mC (⟨xf, xt, xd⟩, .slice uo xd.length uc))) := tn_setCells _ _ (Tn.refl _ w3)
          have hl4 : (A ++ (((⟨xf, xt, xd⟩, .slice uo xd.length uc) : MH) :: B)).length = n + 1 := by
            rw [← HLn.out, ← HMO.out.all]
            simp
          have HN4 := HN3.out.turned (L' := A ++ (⟨xf, xt, xd⟩, .slice uo xd.length uc) :: B) rfl t4 (by rw [hl4, HLn.out]; exact HO4) (fun z hz => by
            rcases List.mem_append.1 hz with hz | hz
            · exact HN3.out.ml.dat z (List.mem_append_left _ hz)
            · rcases List.mem_cons.1 hz with rfl | hz
              · exact HD3.out
              · exact HN3.out.ml.dat z (List.mem_append_right _ (List.mem_cons_of_mem _ hz)))
          have el : List.map (·.1) (A ++ ((⟨xf, xt, xd⟩, .slice uo xd.length uc) : MH) :: B) = (l.eraseIdx i).take 0 ++ ⟨xf, xt, xd⟩ :: (l.eraseIdx i).drop 0 := by
            rw [HMO.out.end_, List.map_append, List.map_cons, List.map_take, List.map_drop, HEX.out]
          rw [el] at HN4
          have t5 := (((Tn.of_below (S := C) HB2.out).trans HT3.out (fun k _ e => e ▸ hCg)).trans t4 (fun k _ e => e ▸ hCg))
          replace HN4 := Lib.hid HN4
          replace t5 := Lib.hid t5
          clear HO4 t4 hl4 el
          go_wp2
          go_region
          all_goals go_wp2
          all_goals
            go_ret
            exact ⟨rfl, C, ⟨_, _, HN4.out.tn (S := fun _ => False) ((Tn.refl _ _).drew) (fun _ _ e => e)⟩, ⟨t5.out.drew, fun k hk => .inl hk⟩⟩
  · have hpi0 : p < i ∨ i ≤ p := by omega
    rcases hpi0 with hpi | hpi
    · go_wp2_with (first
        | (go_at_call 32; refine (HH _ HR.out).out.mono ?_; rintro e w1 ⟨rfl, rfl⟩)
        | fail)
      have hs2 : (w.alloc (mobj 40 (⟨xf, xt, xd⟩, .slice uo xd.length uc))).heap.size = w.heap.size + 1 := by simp
      have hb2 := below1 w (mobj 40 (⟨xf, xt, xd⟩, .slice uo xd.length uc))
      have HN2 := Lib.hid (HN.out.below hb2)
      have HOW := Lib.hid (own_below HOWN.out hb2)
      have HB2 := Lib.hid hb2
      have HDB := Lib.hid (HDA.out.below hb2)
      have HDL2 := Lib.hid (fun x hx => (HN.out.ml.dat x hx).below hb2)
      clear hb2 c1 d0 d1 d2 HN HOWN HDA HR HH
      dsimp only [mobj] at hs2 HN2 HOW HB2 HDB HDL2 HY
      generalize w.alloc (Obj.cells #[Value.int IntKind.i64 xf, Value.int IntKind.i64 xt, Value.slice uo xd.length uc] 40) = W2 at *
      have HS2 := Lib.hid hs2
      have c1 := HN2.out.c1
      rw [HLn.out] at c1
      clear hs2
      have hga : ¬ g = a := fun e => own_ne HN2.out.ml.own HN2.out.box (by decide) g rfl e
      have hag : ¬ a = g := fun e => hga e.symm
      have HLTG : Hid (g < w.heap.size) := Lib.hid (HLT.out g hCg)
      have HLTA : Hid (a < w.heap.size) := Lib.hid (HLT.out a HN2.out.ca)
      have HOD : Hid (W2.drew.ownsRow 0 40 3 (.slice (some ⟨g, 0, none⟩) (n + 1) cap) (n + 1) (cellsG mC L)) := HOW
      have hG := own_hasG mC_len HN2.out.ml.own
      rw [HLn.out] at hG
      clear HMD
      obtain ⟨A, y, B, hmo⟩ := HMU.out hpi
      clear HMU
      have HSL : Hid ((cellsG mC ((L.drop p).take (i - p))).length = (i - p) * 3) := Lib.hid (by rw [length_cellsG mC_len, List.length_take, List.length_drop, HLn.out]; congr 1; omega)
      have HONE := Lib.hid (one_ml (L := (L.drop p).take (i - p)) (fun x hx => HDL2.out x (List.mem_of_mem_drop (List.mem_of_mem_take hx))))
      have HNN : Hid (∀ q r, q = i - p → r = n + 1 - (p + 1) → (cellsG mC ((L.drop p).take (i - p))).length = Nat.min q r * 3) := Lib.hid (by
        intro q r e1 e2
        rw [e1, e2, HSL.out, show Nat.min (i - p) (n + 1 - (p + 1)) = i - p from Nat.min_eq_left (by omega)])
      have HFT : Hid ((p + 1) * 3 + (cellsG mC ((L.drop p).take (i - p))).length ≤ (n + 1) * 3) := Lib.hid (by rw [HSL.out]; omega)
      have HNW : Hid (∀ j u, (cellsG mC ((L.drop p).take (i - p)))[j]? = some u → W2.drew.cell? ((⟨g, p * 3, none⟩ : Addr).add j) = some u) := Lib.hid (((hG.drop0 (k := p) (by omega)).take (k := i - p) (by omega)).news mC_len _ rfl)
      clear hG
      obtain ⟨cs, hcs⟩ : ∃ cs, cs = cellsG mC ((L.drop p).take (i - p)) := ⟨_, rfl⟩
      rw [← hcs] at HNN HFT HNW hmo HONE HSL
      have HMO := Lib.hid hmo
      clear hcs hmo
      have hc1 : ¬ cap = p + 1 := by omega
      have hc2 : ¬ p + 1 = cap := by omega
      have hc3 : ¬ cap = p := by omega
      have hc4 : ¬ p = cap := by omega
      have hb1 : (p : Int) ≤ (n : Int) := by omega
      have hb2 : (p : Int) + 1 ≤ (n : Int) + 1 := by omega
      have hb3 : (p : Int) ≤ (i : Int) := by omega
      have hb4 : (i : Int) ≤ (cap : Int) := by omega
      have hb5 : (0 : Int) ≤ (p : Int) + 1 := by omega
      have hb6 : p ≤ i := by omega
      have hb7 : i ≤ cap := by omega
      have hw : IntKind.i64.wrap ((p : Int) + 1) = (p : Int) + 1 := by rw [IntKind.wrap_i64]; omega
      go_region_law (refine step_copy_own rfl (.tmp 37) (.tmp 44) 38 38 rfl 40 i0 3 under_nms hi0 hz1 (by decide) _ _ _ _ _ _ rfl rfl HOD.out ((p + 1) * 3) cs (HNN.out _ _ (by omega) (by omega)) (fun _ => ⟨rfl, _, rfl, HNW.out⟩) HFT.out HONE.out ?_; intro w3 HO3 HT3)
      all_goals
        clear hb1 hb2 hb3 hb4 hb5 hb6 hb7 hc1 hc2 hc3 hc4 hw
        clear HNN HFT HOD HNW c1
        have hT3 : Tn (· = g) W2 w3 := (Tn.refl (· = g) W2).drew.trans HT3.out (fun _ _ e => e)
        have ho3 := HO3.out
        rw [HMO.out.eq] at ho3
        have hl1 : (A ++ y :: B).length = n + 1 := HMO.out.all.trans HLn.out
        have hn3 := HN2.out.turned (L' := A ++ y :: B) rfl hT3 (by rw [hl1, HLn.out]; exact ho3) (fun z hz => HDL2.out z (HMO.out.mem z hz))
        have HY3 := Lib.hid (HY.out.tn hT3 (by have := HLTG.out; omega))
        have HD3 := Lib.hid (HDB.out.tn hT3 (fun k hk e => own_apart HN2.out.ml.own HDB.out.own (by decide) g rfl (e ▸ hk)))
        have c1 := hn3.c1
        rw [HLn.out] at c1
        obtain ⟨g', eg, hg1, hg2, hmy, hdy⟩ := hn3.ml.at_ (k := p) (by rw [hl1]; omega)
        injection eg with eg
        injection eg with eg
        subst eg
        obtain ⟨p0, d0⟩ : ∃ v, w3.cell? ⟨g, p * 3, none⟩ = some v := ⟨_, hmy.c0⟩
        obtain ⟨p1, d1⟩ : ∃ v, w3.cell? ⟨g, p * 3 + 1, none⟩ = some v := ⟨_, hmy.c1⟩
        obtain ⟨p2, d2⟩ : ∃ v, w3.cell? ⟨g, p * 3 + 2, none⟩ = some v := ⟨_, hmy.c2⟩
        have hfz : ∀ o, w3.frozen? ⟨g, o, none⟩ = false := fun o => by
          obtain ⟨cur, hcur⟩ := own_at ho3 rfl
          simp [World.frozen?, hcur]
        have q0 := hfz (p * 3); have q1 := hfz (p * 3 + 1); have q2 := hfz (p * 3 + 2)
        have y0 := HY3.out.c0; have y1 := HY3.out.c1; have y2 := HY3.out.c2
        simp only at y0 y1 y2
        have hb1 : (p : Int) ≤ (n : Int) := by omega
        have hb2 : (p : Int) < (n : Int) + 1 := by omega
        have hb3 : p < n + 1 := by omega
        have HT3 := Lib.hid hT3
        have HN3 := Lib.hid hn3
        have HO3 := Lib.hid ho3
        clear hmy hfz hdy hl1 hn3 ho3 hT3 hg1 hg2
        have HO4 := own_setCells (mC (⟨xf, xt, xd⟩, .slice uo xd.length uc)) (p * 3) HO3.out
        rw [over_at HMO.out.len] at HO4
        have t4 : Tn (· = g) w3 (w3.setCells g (p * 3) (mC (⟨xf, xt, xd⟩, .slice uo xd.length uc))) := tn_setCells _ _ (Tn.refl _ w3)
        have hl4 : (A ++ (((⟨xf, xt, xd⟩, .slice uo xd.length uc) : MH) :: B)).length = n + 1 := by
          rw [← HLn.out, ← HMO.out.all]
          simp
        have HN4 := HN3.out.turned (L' := A ++ (⟨xf, xt, xd⟩, .slice uo xd.length uc) :: B) rfl t4 (by rw [hl4, HLn.out]; exact HO4) (fun z hz => by
          rcases List.mem_append.1 hz with hz | hz
          · exact HN3.out.ml.dat z (List.mem_append_left _ hz)
          · rcases List.mem_cons.1 hz with rfl | hz
            · exact HD3.out
            · exact HN3.out.ml.dat z (List.mem_append_right _ (List.mem_cons_of_mem _ hz)))
        have el : List.map (·.1) (A ++ ((⟨xf, xt, xd⟩, .slice uo xd.length uc) : MH) :: B) = (l.eraseIdx i).take p ++ ⟨xf, xt, xd⟩ :: (l.eraseIdx i).drop p := by
          rw [HMO.out.end_, List.map_append, List.map_cons, List.map_take, List.map_drop, HEX.out]
        rw [el] at HN4
        have t5 := (((Tn.of_below (S := C) HB2.out).trans HT3.out (fun k _ e => e ▸ hCg)).trans t4 (fun k _ e => e ▸ hCg))
        replace HN4 := Lib.hid HN4
        replace t5 := Lib.hid t5
        clear HO4 t4 hl4 el
        go_wp2
        go_region
        all_goals go_wp2
        all_goals
          go_ret
          exact ⟨rfl, C, ⟨_, _, HN4.out.tn (S := fun _ => False) ((Tn.refl _ _).drew) (fun _ _ e => e)⟩, ⟨t5.out.drew, fun k hk => .inl hk⟩⟩
    · go_wp2_with (first
        | (go_at_call 32; refine (HH _ HR.out).out.mono ?_; rintro e w1 ⟨rfl, rfl⟩)
        | fail)
      have hs2 : (w.alloc (mobj 40 (⟨xf, xt, xd⟩, .slice uo xd.length uc))).heap.size = w.heap.size + 1 := by simp
      have hb2 := below1 w (mobj 40 (⟨xf, xt, xd⟩, .slice uo xd.length uc))
      have HN2 := Lib.hid (HN.out.below hb2)
      have HOW := Lib.hid (own_below HOWN.out hb2)
      have HB2 := Lib.hid hb2
      have HDB := Lib.hid (HDA.out.below hb2)
      have HDL2 := Lib.hid (fun x hx => (HN.out.ml.dat x hx).below hb2)
      clear hb2 c1 d0 d1 d2 HN HOWN HDA HR HH
      dsimp only [mobj] at hs2 HN2 HOW HB2 HDB HDL2 HY
      generalize w.alloc (Obj.cells #[Value.int IntKind.i64 xf, Value.int IntKind.i64 xt, Value.slice uo xd.length uc] 40) = W2 at *
      have HS2 := Lib.hid hs2
      have c1 := HN2.out.c1
      rw [HLn.out] at c1
      clear hs2
      have hga : ¬ g = a := fun e => own_ne HN2.out.ml.own HN2.out.box (by decide) g rfl e
      have hag : ¬ a = g := fun e => hga e.symm
      have HLTG : Hid (g < w.heap.size) := Lib.hid (HLT.out g hCg)
      have HLTA : Hid (a < w.heap.size) := Lib.hid (HLT.out a HN2.out.ca)
      have HOD : Hid (W2.drew.ownsRow 0 40 3 (.slice (some ⟨g, 0, none⟩) (n + 1) cap) (n + 1) (cellsG mC L)) := HOW
      have hG := own_hasG mC_len HN2.out.ml.own
      rw [HLn.out] at hG
      clear HMU
      obtain ⟨A, y, B, hmo⟩ := HMD.out hpi
      clear HMD
      have HSL : Hid ((cellsG mC ((L.drop (i + 1)).take (p - i))).length = (p - i) * 3) := Lib.hid (by rw [length_cellsG mC_len, List.length_take, List.length_drop, HLn.out]; congr 1; omega)
      have HONE := Lib.hid (one_ml (L := (L.drop (i + 1)).take (p - i)) (fun x hx => HDL2.out x (List.mem_of_mem_drop (List.mem_of_mem_take hx))))
      have HNN : Hid (∀ q r, q = p - i → r = n + 1 - i → (cellsG mC ((L.drop (i + 1)).take (p - i))).length = Nat.min q r * 3) := Lib.hid (by
        intro q r e1 e2
        rw [e1, e2, HSL.out, show Nat.min (p - i) (n + 1 - i) = p - i from Nat.min_eq_left (by omega)])
      have HFT : Hid (i * 3 + (cellsG mC ((L.drop (i + 1)).take (p - i))).length ≤ (n + 1) * 3) := Lib.hid (by rw [HSL.out]; omega)
      have HNW : Hid (∀ j u, (cellsG mC ((L.drop (i + 1)).take (p - i)))[j]? = some u → W2.drew.cell? ((⟨g, (i + 1) * 3, none⟩ : Addr).add j) = some u) := Lib.hid (((hG.drop0 (k := i + 1) (by omega)).take (k := p - i) (by omega)).news mC_len _ rfl)
      have HLZ : Hid (cap = i + 1 → ¬ 0 < (cellsG mC ((L.drop (i + 1)).take (p - i))).length) := Lib.hid (fun e => by rw [HSL.out]; omega)
      clear hG
      obtain ⟨cs, hcs⟩ : ∃ cs, cs = cellsG mC ((L.drop (i + 1)).take (p - i)) := ⟨_, rfl⟩
      rw [← hcs] at HNN HFT HNW hmo HONE HSL HLZ
      have HMO := Lib.hid hmo
      clear hcs hmo
      have hc1 : ¬ cap = i := by omega
      have hc2 : ¬ i = cap := by omega
      have hb1 : (i : Int) ≤ (n : Int) := by omega
      have hb2 : (i : Int) + 1 ≤ (n : Int) + 1 := by omega
      have hb3 : (i : Int) ≤ (p : Int) := by omega
      have hb4 : (p : Int) + 1 ≤ (cap : Int) := by omega
      have hb5 : (0 : Int) ≤ (i : Int) + 1 := by omega
      have hb6 : (i : Int) ≤ (n : Int) + 1 := by omega
      have hb7 : p + 1 ≤ cap := by omega
      have hb8 : (0 : Int) ≤ (p : Int) + 1 := by omega
      have hb10 : (1 : Int) ≤ (i : Int) + 1 := by omega
      have hb11 : (i : Int) + 1 ≤ (p : Int) + 1 := by omega
      have hw : IntKind.i64.wrap ((i : Int) + 1) = (i : Int) + 1 := by rw [IntKind.wrap_i64]; omega
      have hw2 : IntKind.i64.wrap ((p : Int) + 1) = (p : Int) + 1 := by rw [IntKind.wrap_i64]; omega
      rcases Classical.em (cap = i + 1) with hc | hc
      · subst hc
        have hb9 : p ≤ i := by omega
        go_region_law (refine step_copy_own rfl (.tmp 51) (.tmp 60) 38 38 rfl 40 i0 3 under_nms hi0 hz1 (by decide) _ _ _ _ _ _ rfl rfl HOD.out (i * 3) cs (HNN.out _ _ (by omega) (by omega)) (fun hp => absurd hp (HLZ.out rfl)) HFT.out HONE.out ?_; intro w3 HO3 HT3)
        all_goals
          clear hb1 hb2 hb3 hb4 hb5 hb6 hb7 hb8 hb10 hb11 hb9 hc1 hc2 hw hw2 HLZ
          clear HNN HFT HOD HNW c1
          have hT3 : Tn (· = g) W2 w3 := (Tn.refl (· = g) W2).drew.trans HT3.out (fun _ _ e => e)
          have ho3 := HO3.out
          rw [HMO.out.eq] at ho3
          have hl1 : (A ++ y :: B).length = n + 1 := HMO.out.all.trans HLn.out
          have hn3 := HN2.out.turned (L' := A ++ y :: B) rfl hT3 (by rw [hl1, HLn.out]; exact ho3) (fun z hz => HDL2.out z (HMO.out.mem z hz))
          have HY3 := Lib.hid (HY.out.tn hT3 (by have := HLTG.out; omega))
          have HD3 := Lib.hid (HDB.out.tn hT3 (fun k hk e => own_apart HN2.out.ml.own HDB.out.own (by decide) g rfl (e ▸ hk)))
          have c1 := hn3.c1
          rw [HLn.out] at c1
          obtain ⟨g', eg, hg1, hg2, hmy, hdy⟩ := hn3.ml.at_ (k := p) (by rw [hl1]; omega)
          injection eg with eg
          injection eg with eg
          subst eg
          obtain ⟨p0, d0⟩ : ∃ v, w3.cell? ⟨g, p * 3, none⟩ = some v := ⟨_, hmy.c0⟩
          obtain ⟨p1, d1⟩ : ∃ v, w3.cell? ⟨g, p * 3 + 1, none⟩ = some v := ⟨_, hmy.c1⟩
          obtain ⟨p2, d2⟩ : ∃ v, w3.cell? ⟨g, p * 3 + 2, none⟩ = some v := ⟨_, hmy.c2⟩
          have hfz : ∀ o, w3.frozen? ⟨g, o, none⟩ = false := fun o => by
            obtain ⟨cur, hcur⟩ := own_at ho3 rfl
            simp [World.frozen?, hcur]
          have q0 := hfz (p * 3); have q1 := hfz (p * 3 + 1); have q2 := hfz (p * 3 + 2)
          have y0 := HY3.out.c0; have y1 := HY3.out.c1; have y2 := HY3.out.c2
          simp only at y0 y1 y2
          have hb1 : (p : Int) ≤ (n : Int) := by omega
          have hb2 : (p : Int) < (n : Int) + 1 := by omega
          have hb3 : p < n + 1 := by omega
          have HT3 := Lib.hid hT3
          have HN3 := Lib.hid hn3
          have HO3 := Lib.hid ho3
          clear hmy hfz hdy hl1 hn3 ho3 hT3 hg1 hg2
          have HO4 := own_setCells (mC (⟨xf, xt, xd⟩, .slice uo xd.length uc)) (p * 3) HO3.out
          rw [over_at HMO.out.len] at HO4
          have t4 : Tn (· = g) w3 (w3.setCells g (p * 3) (mC (⟨xf, xt, xd⟩, .slice uo xd.length uc))) := tn_setCells _ _ (Tn.refl _ w3)
          have hl4 : (A ++ (((⟨xf, xt, xd⟩, .slice uo xd.length uc) : MH) :: B)).length = n + 1 := by
            rw [← HLn.out, ← HMO.out.all]
            simp
          have HN4 := HN3.out.turned (L' := A ++ (⟨xf, xt, xd⟩, .slice uo xd.length uc) :: B) rfl t4 (by rw [hl4, HLn.out]; exact HO4) (fun z hz => by
            rcases List.mem_append.1 hz with hz | hz
            · exact HN3.out.ml.dat z (List.mem_append_left _ hz)
            · rcases List.mem_cons.1 hz with rfl | hz
              · exact HD3.out
              · exact HN3.out.ml.dat z (List.mem_append_right _ (List.mem_cons_of_mem _ hz)))
          have el : List.map (·.1) (A ++ ((⟨xf, xt, xd⟩, .slice uo xd.length uc) : MH) :: B) = (l.eraseIdx i).take p ++ ⟨xf, xt, xd⟩ :: (l.eraseIdx i).drop p := by
            rw [HMO.out.end_, List.map_append, List.map_cons, List.map_take, List.map_drop, HEX.out]
          rw [el] at HN4
          have t5 := (((Tn.of_below (S := C) HB2.out).trans HT3.out (fun k _ e => e ▸ hCg)).trans t4 (fun k _ e => e ▸ hCg))
          replace HN4 := Lib.hid HN4
          replace t5 := Lib.hid t5
          clear HO4 t4 hl4 el
          go_wp2
          go_region
          all_goals go_wp2
          all_goals
            go_ret
            exact ⟨rfl, C, ⟨_, _, HN4.out.tn (S := fun _ => False) ((Tn.refl _ _).drew) (fun _ _ e => e)⟩, ⟨t5.out.drew, fun k hk => .inl hk⟩⟩

      · go_region_law (refine step_copy_own rfl (.tmp 51) (.tmp 60) 38 38 rfl 40 i0 3 under_nms hi0 hz1 (by decide) _ _ _ _ _ _ rfl rfl HOD.out (i * 3) cs (HNN.out _ _ (by omega) (by omega)) (fun _ => ⟨rfl, _, rfl, HNW.out⟩) HFT.out HONE.out ?_; intro w3 HO3 HT3)
        all_goals
          clear hb1 hb2 hb3 hb4 hb5 hb6 hb7 hb8 hb10 hb11 hc1 hc2 hc hw hw2 HLZ
          clear HNN HFT HOD HNW c1
          have hT3 : Tn (· = g) W2 w3 := (Tn.refl (· = g) W2).drew.trans HT3.out (fun _ _ e => e)
          have ho3 := HO3.out
          rw [HMO.out.eq] at ho3
          have hl1 : (A ++ y :: B).length = n + 1 := HMO.out.all.trans HLn.out
          have hn3 := HN2.out.turned (L' := A ++ y :: B) rfl hT3 (by rw [hl1, HLn.out]; exact ho3) (fun z hz => HDL2.out z (HMO.out.mem z hz))
          have HY3 := Lib.hid (HY.out.tn hT3 (by have := HLTG.out; omega))
          have HD3 := Lib.hid (HDB.out.tn hT3 (fun k hk e => own_apart HN2.out.ml.own HDB.out.own (by decide) g rfl (e ▸ hk)))
          have c1 := hn3.c1
          rw [HLn.out] at c1
          obtain ⟨g', eg, hg1, hg2, hmy, hdy⟩ := hn3.ml.at_ (k := p) (by rw [hl1]; omega)
          injection eg with eg
          injection eg with eg
          subst eg
          obtain ⟨p0, d0⟩ : ∃ v, w3.cell? ⟨g, p * 3, none⟩ = some v := ⟨_, hmy.c0⟩
          obtain ⟨p1, d1⟩ : ∃ v, w3.cell? ⟨g, p * 3 + 1, none⟩ = some v := ⟨_, hmy.c1⟩
          obtain ⟨p2, d2⟩ : ∃ v, w3.cell? ⟨g, p * 3 + 2, none⟩ = some v := ⟨_, hmy.c2⟩
          have hfz : ∀ o, w3.frozen? ⟨g, o, none⟩ = false := fun o => by
            obtain ⟨cur, hcur⟩ := own_at ho3 rfl
            simp [World.frozen?, hcur]
          have q0 := hfz (p * 3); have q1 := hfz (p * 3 + 1); have q2 := hfz (p * 3 + 2)
          have y0 := HY3.out.c0; have y1 := HY3.out.c1; have y2 := HY3.out.c2
          simp only at y0 y1 y2
          have hb1 : (p : Int) ≤ (n : Int) := by omega
          have hb2 : (p : Int) < (n : Int) + 1 := by omega
          have hb3 : p < n + 1 := by omega
          have HT3 := Lib.hid hT3
          have HN3 := Lib.hid hn3
          have HO3 := Lib.hid ho3
          clear hmy hfz hdy hl1 hn3 ho3 hT3 hg1 hg2
          have HO4 := own_setCells (mC (⟨xf, xt, xd⟩, .slice uo xd.length uc)) (p * 3) HO3.out
          rw [over_at HMO.out.len] at HO4
          have t4 : Tn (· = g) w3 (w3.setCells g (p * 3) (mC (⟨xf, xt, xd⟩, .slice uo xd.length uc))) := tn_setCells _ _ (Tn.refl _ w3)
          have hl4 : (A ++ (((⟨xf, xt, xd⟩, .slice uo xd.length uc) : MH) :: B)).length = n + 1 := by
            rw [← HLn.out, ← HMO.out.all]
            simp
          have HN4 := HN3.out.turned (L' := A ++ (⟨xf, xt, xd⟩, .slice uo xd.length uc) :: B) rfl t4 (by rw [hl4, HLn.out]; exact HO4) (fun z hz => by
            rcases List.mem_append.1 hz with hz | hz
            · exact HN3.out.ml.dat z (List.mem_append_left _ hz)
            · rcases List.mem_cons.1 hz with rfl | hz
              · exact HD3.out
              · exact HN3.out.ml.dat z (List.mem_append_right _ (List.mem_cons_of_mem _ hz)))
          have el : List.map (·.1) (A ++ ((⟨xf, xt, xd⟩, .slice uo xd.length uc) : MH) :: B) = (l.eraseIdx i).take p ++ ⟨xf, xt, xd⟩ :: (l.eraseIdx i).drop p := by
            rw [HMO.out.end_, List.map_append, List.map_cons, List.map_take, List.map_drop, HEX.out]
          rw [el] at HN4
          have t5 := (((Tn.of_below (S := C) HB2.out).trans HT3.out (fun k _ e => e ▸ hCg)).trans t4 (fun k _ e => e ▸ hCg))
          replace HN4 := Lib.hid HN4
          replace t5 := Lib.hid t5
          clear HO4 t4 hl4 el
          go_wp2
          go_region
          all_goals go_wp2
          all_goals
            go_ret
            exact ⟨rfl, C, ⟨_, _, HN4.out.tn (S := fun _ => False) ((Tn.refl _ _).drew) (fun _ _ e => e)⟩, ⟨t5.out.drew, fun k hk => .inl hk⟩⟩
  · obtain rfl : n = p := hpn.symm
    have hpi0 : n < i ∨ i ≤ n := by omega
    rcases hpi0 with hpi | hpi
    · exact absurd hpi (by omega)
    · go_wp2_with (first
        | (go_at_call 32; refine (HH _ HR.out).out.mono ?_; rintro e w1 ⟨rfl, rfl⟩)
        | fail)
      have hs2 : (w.alloc (mobj 40 (⟨xf, xt, xd⟩, .slice uo xd.length uc))).heap.size = w.heap.size + 1 := by simp
      have hb2 := below1 w (mobj 40 (⟨xf, xt, xd⟩, .slice uo xd.length uc))
      have HN2 := Lib.hid (HN.out.below hb2)
      have HOW := Lib.hid (own_below HOWN.out hb2)
      have HB2 := Lib.hid hb2
      have HDB := Lib.hid (HDA.out.below hb2)
      have HDL2 := Lib.hid (fun x hx => (HN.out.ml.dat x hx).below hb2)
      clear hb2 c1 d0 d1 d2 HN HOWN HDA HR HH
      dsimp only [mobj] at hs2 HN2 HOW HB2 HDB HDL2 HY
      generalize w.alloc (Obj.cells #[Value.int IntKind.i64 xf, Value.int IntKind.i64 xt, Value.slice uo xd.length uc] 40) = W2 at *
      have HS2 := Lib.hid hs2
      have c1 := HN2.out.c1
      rw [HLn.out] at c1
      clear hs2
      have hga : ¬ g = a := fun e => own_ne HN2.out.ml.own HN2.out.box (by decide) g rfl e
      have hag : ¬ a = g := fun e => hga e.symm
      have HLTG : Hid (g < w.heap.size) := Lib.hid (HLT.out g hCg)
      have HLTA : Hid (a < w.heap.size) := Lib.hid (HLT.out a HN2.out.ca)
      have HOD : Hid (W2.drew.ownsRow 0 40 3 (.slice (some ⟨g, 0, none⟩) (n + 1) cap) (n + 1) (cellsG mC L)) := HOW
      have hG := own_hasG mC_len HN2.out.ml.own
      rw [HLn.out] at hG
      clear HMU
      obtain ⟨A, y, B, hmo⟩ := HMD.out hpi
      clear HMD
      have HSL : Hid ((cellsG mC ((L.drop (i + 1)).take (n - i))).length = (n - i) * 3) := Lib.hid (by rw [length_cellsG mC_len, List.length_take, List.length_drop, HLn.out]; congr 1; omega)
      have HONE := Lib.hid (one_ml (L := (L.drop (i + 1)).take (n - i)) (fun x hx => HDL2.out x (List.mem_of_mem_drop (List.mem_of_mem_take hx))))
      have HNN : Hid (∀ q r, q = n - i → r = n + 1 - i → (cellsG mC ((L.drop (i + 1)).take (n - i))).length = Nat.min q r * 3) := Lib.hid (by
        intro q r e1 e2
        rw [e1, e2, HSL.out, show Nat.min (n - i) (n + 1 - i) = n - i from Nat.min_eq_left (by omega)])
      have HFT : Hid (i * 3 + (cellsG mC ((L.drop (i + 1)).take (n - i))).length ≤ (n + 1) * 3) := Lib.hid (by rw [HSL.out]; omega)
      have HNW : Hid (∀ j u, (cellsG mC ((L.drop (i + 1)).take (n - i)))[j]? = some u → W2.drew.cell? ((⟨g, (i + 1) * 3, none⟩ : Addr).add j) = some u) := Lib.hid (((hG.drop0 (k := i + 1) (by omega)).take (k := n - i) (by omega)).news mC_len _ rfl)
      have HLZ : Hid (cap = i + 1 → ¬ 0 < (cellsG mC ((L.drop (i + 1)).take (n - i))).length) := Lib.hid (fun e => by rw [HSL.out]; omega)
      clear hG
      obtain ⟨cs, hcs⟩ : ∃ cs, cs = cellsG mC ((L.drop (i + 1)).take (n - i)) := ⟨_, rfl⟩
      rw [← hcs] at HNN HFT HNW hmo HONE HSL HLZ
      have HMO := Lib.hid hmo
      clear hcs hmo
      have hc1 : ¬ cap = i := by omega
      have hc2 : ¬ i = cap := by omega
      have hb1 : (i : Int) ≤ (n : Int) := by omega
      have hb2 : (i : Int) + 1 ≤ (n : Int) + 1 := by omega
      have hb3 : (i : Int) ≤ (n : Int) := by omega
      have hb4 : (n : Int) + 1 ≤ (cap : Int) := by omega
      have hb5 : (0 : Int) ≤ (i : Int) + 1 := by omega
      have hb6 : (i : Int) ≤ (n : Int) + 1 := by omega
      have hb7 : n + 1 ≤ cap := by omega
      have hb8 : (0 : Int) ≤ (n : Int) + 1 := by omega
      have hb10 : (1 : Int) ≤ (i : Int) + 1 := by omega
      have hb11 : (i : Int) + 1 ≤ (n : Int) + 1 := by omega
      have hw : IntKind.i64.wrap ((i : Int) + 1) = (i : Int) + 1 := by rw [IntKind.wrap_i64]; omega
      have hw2 : IntKind.i64.wrap ((n : Int) + 1) = (n : Int) + 1 := by rw [IntKind.wrap_i64]; omega
      rcases Classical.em (cap = i + 1) with hc | hc
      · subst hc
        have hb9 : n ≤ i := by omega
        go_region_law (refine step_copy_own rfl (.tmp 51) (.tmp 60) 38 38 rfl 40 i0 3 under_nms hi0 hz1 (by decide) _ _ _ _ _ _ rfl rfl HOD.out (i * 3) cs (HNN.out _ _ (by omega) (by omega)) (fun hp => absurd hp (HLZ.out rfl)) HFT.out HONE.out ?_; intro w3 HO3 HT3)
        all_goals
          clear hb1 hb2 hb3 hb4 hb5 hb6 hb7 hb8 hb10 hb11 hb9 hc1 hc2 hw hw2 HLZ
          clear HNN HFT HOD HNW c1
          have hT3 : Tn (· = g) W2 w3 := (Tn.refl (· = g) W2).drew.trans HT3.out (fun _ _ e => e)
          have ho3 := HO3.out
          rw [HMO.out.eq] at ho3
          have hl1 : (A ++ y :: B).length = n + 1 := HMO.out.all.trans HLn.out
          have hn3 := HN2.out.turned (L' := A ++ y :: B) rfl hT3 (by rw [hl1, HLn.out]; exact ho3) (fun z hz => HDL2.out z (HMO.out.mem z hz))
          have HY3 := Lib.hid (HY.out.tn hT3 (by have := HLTG.out; omega))
          have HD3 := Lib.hid (HDB.out.tn hT3 (fun k hk e => own_apart HN2.out.ml.own HDB.out.own (by decide) g rfl (e ▸ hk)))
          have c1 := hn3.c1
          rw [HLn.out] at c1
          obtain ⟨g', eg, hg1, hg2, hmy, hdy⟩ := hn3.ml.at_ (k := n) (by rw [hl1]; omega)
          injection eg with eg
          injection eg with eg
          subst eg
          obtain ⟨p0, d0⟩ : ∃ v, w3.cell? ⟨g, n * 3, none⟩ = some v := ⟨_, hmy.c0⟩
          obtain ⟨p1, d1⟩ : ∃ v, w3.cell? ⟨g, n * 3 + 1, none⟩ = some v := ⟨_, hmy.c1⟩
          obtain ⟨p2, d2⟩ : ∃ v, w3.cell? ⟨g, n * 3 + 2, none⟩ = some v := ⟨_, hmy.c2⟩
          have hfz : ∀ o, w3.frozen? ⟨g, o, none⟩ = false := fun o => by
            obtain ⟨cur, hcur⟩ := own_at ho3 rfl
            simp [World.frozen?, hcur]
          have q0 := hfz (n * 3); have q1 := hfz (n * 3 + 1); have q2 := hfz (n * 3 + 2)
          have y0 := HY3.out.c0; have y1 := HY3.out.c1; have y2 := HY3.out.c2
          simp only at y0 y1 y2
          have hb1 : (n : Int) ≤ (n : Int) := by omega
          have hb2 : (n : Int) < (n : Int) + 1 := by omega
          have hb3 : n < n + 1 := by omega
          have HT3 := Lib.hid hT3
          have HN3 := Lib.hid hn3
          have HO3 := Lib.hid ho3
          clear hmy hfz hdy hl1 hn3 ho3 hT3 hg1 hg2
          have HO4 := own_setCells (mC (⟨xf, xt, xd⟩, .slice uo xd.length uc)) (n * 3) HO3.out
          rw [over_at HMO.out.len] at HO4
          have t4 : Tn (· = g) w3 (w3.setCells g (n * 3) (mC (⟨xf, xt, xd⟩, .slice uo xd.length uc))) := tn_setCells _ _ (Tn.refl _ w3)
          have hl4 : (A ++ (((⟨xf, xt, xd⟩, .slice uo xd.length uc) : MH) :: B)).length = n + 1 := by
            rw [← HLn.out, ← HMO.out.all]
            simp
          have HN4 := HN3.out.turned (L' := A ++ (⟨xf, xt, xd⟩, .slice uo xd.length uc) :: B) rfl t4 (by rw [hl4, HLn.out]; exact HO4) (fun z hz => by
            rcases List.mem_append.1 hz with hz | hz
            · exact HN3.out.ml.dat z (List.mem_append_left _ hz)
            · rcases List.mem_cons.1 hz with rfl | hz
              · exact HD3.out
              · exact HN3.out.ml.dat z (List.mem_append_right _ (List.mem_cons_of_mem _ hz)))
          have el : List.map (·.1) (A ++ ((⟨xf, xt, xd⟩, .slice uo xd.length uc) : MH) :: B) = (l.eraseIdx i).take n ++ ⟨xf, xt, xd⟩ :: (l.eraseIdx i).drop n := by
            rw [HMO.out.end_, List.map_append, List.map_cons, List.map_take, List.map_drop, HEX.out]
          rw [el] at HN4
          have t5 := (((Tn.of_below (S := C) HB2.out).trans HT3.out (fun k _ e => e ▸ hCg)).trans t4 (fun k _ e => e ▸ hCg))
          replace HN4 := Lib.hid HN4
          replace t5 := Lib.hid t5
          clear HO4 t4 hl4 el
          go_wp2
          go_region
          all_goals go_wp2
          all_goals
            go_ret
            exact ⟨rfl, C, ⟨_, _, HN4.out.tn (S := fun _ => False) ((Tn.refl _ _).drew) (fun _ _ e => e)⟩, ⟨t5.out.drew, fun k hk => .inl hk⟩⟩

      · go_region_law (refine step_copy_own rfl (.tmp 51) (.tmp 60) 38 38 rfl 40 i0 3 under_nms hi0 hz1 (by decide) _ _ _ _ _ _ rfl rfl HOD.out (i * 3) cs (HNN.out _ _ (by omega) (by omega)) (fun _ => ⟨rfl, _, rfl, HNW.out⟩) HFT.out HONE.out ?_; intro w3 HO3 HT3)
        all_goals
          clear hb1 hb2 hb3 hb4 hb5 hb6 hb7 hb8 hb10 hb11 hc1 hc2 hc hw hw2 HLZ
          clear HNN HFT HOD HNW c1
          have hT3 : Tn (· = g) W2 w3 := (Tn.refl (· = g) W2).drew.trans HT3.out (fun _ _ e => e)
          have ho3 := HO3.out
          rw [HMO.out.eq] at ho3
          have hl1 : (A ++ y :: B).length = n + 1 := HMO.out.all.trans HLn.out
          have hn3 := HN2.out.turned (L' := A ++ y :: B) rfl hT3 (by rw [hl1, HLn.out]; exact ho3) (fun z hz => HDL2.out z (HMO.out.mem z hz))
          have HY3 := Lib.hid (HY.out.tn hT3 (by have := HLTG.out; omega))
          have HD3 := Lib.hid (HDB.out.tn hT3 (fun k hk e => own_apart HN2.out.ml.own HDB.out.own (by decide) g rfl (e ▸ hk)))
          have c1 := hn3.c1
          rw [HLn.out] at c1
          obtain ⟨g', eg, hg1, hg2, hmy, hdy⟩ := hn3.ml.at_ (k := n) (by rw [hl1]; omega)
          injection eg with eg
          injection eg with eg
          subst eg
          obtain ⟨p0, d0⟩ : ∃ v, w3.cell? ⟨g, n * 3, none⟩ = some v := ⟨_, hmy.c0⟩
          obtain ⟨p1, d1⟩ : ∃ v, w3.cell? ⟨g, n * 3 + 1, none⟩ = some v := ⟨_, hmy.c1⟩
          obtain ⟨p2, d2⟩ : ∃ v, w3.cell? ⟨g, n * 3 + 2, none⟩ = some v := ⟨_, hmy.c2⟩
          have hfz : ∀ o, w3.frozen? ⟨g, o, none⟩ = false := fun o => by
            obtain ⟨cur, hcur⟩ := own_at ho3 rfl
            simp [World.frozen?, hcur]
          have q0 := hfz (n * 3); have q1 := hfz (n * 3 + 1); have q2 := hfz (n * 3 + 2)
          have y0 := HY3.out.c0; have y1 := HY3.out.c1; have y2 := HY3.out.c2
          simp only at y0 y1 y2
          have hb1 : (n : Int) ≤ (n : Int) := by omega
          have hb2 : (n : Int) < (n : Int) + 1 := by omega
          have hb3 : n < n + 1 := by omega
          have HT3 := Lib.hid hT3
          have HN3 := Lib.hid hn3
          have HO3 := Lib.hid ho3
          clear hmy hfz hdy hl1 hn3 ho3 hT3 hg1 hg2
          have HO4 := own_setCells (mC (⟨xf, xt, xd⟩, .slice uo xd.length uc)) (n * 3) HO3.out
          rw [over_at HMO.out.len] at HO4
          have t4 : Tn (· = g) w3 (w3.setCells g (n * 3) (mC (⟨xf, xt, xd⟩, .slice uo xd.length uc))) := tn_setCells _ _ (Tn.refl _ w3)
          have hl4 : (A ++ (((⟨xf, xt, xd⟩, .slice uo xd.length uc) : MH) :: B)).length = n + 1 := by
            rw [← HLn.out, ← HMO.out.all]
            simp
          have HN4 := HN3.out.turned (L' := A ++ (⟨xf, xt, xd⟩, .slice uo xd.length uc) :: B) rfl t4 (by rw [hl4, HLn.out]; exact HO4) (fun z hz => by
            rcases List.mem_append.1 hz with hz | hz
            · exact HN3.out.ml.dat z (List.mem_append_left _ hz)
            · rcases List.mem_cons.1 hz with rfl | hz
              · exact HD3.out
              · exact HN3.out.ml.dat z (List.mem_append_right _ (List.mem_cons_of_mem _ hz)))
          have el : List.map (·.1) (A ++ ((⟨xf, xt, xd⟩, .slice uo xd.length uc) : MH) :: B) = (l.eraseIdx i).take n ++ ⟨xf, xt, xd⟩ :: (l.eraseIdx i).drop n := by
            rw [HMO.out.end_, List.map_append, List.map_cons, List.map_take, List.map_drop, HEX.out]
          rw [el] at HN4
          have t5 := (((Tn.of_below (S := C) HB2.out).trans HT3.out (fun k _ e => e ▸ hCg)).trans t4 (fun k _ e => e ▸ hCg))
          replace HN4 := Lib.hid HN4
          replace t5 := Lib.hid t5
          clear HO4 t4 hl4 el
          go_wp2
          go_region
          all_goals go_wp2
          all_goals
            go_ret
            exact ⟨rfl, C, ⟨_, _, HN4.out.tn (S := fun _ => False) ((Tn.refl _ _).drew) (fun _ _ e => e)⟩, ⟨t5.out.drew, fun k hk => .inl hk⟩⟩
  · obtain rfl : n = p := hpn.symm
    have hpi0 : n < i ∨ i ≤ n := by omega
    rcases hpi0 with hpi | hpi
    · exact absurd hpi (by omega)
    · go_wp2_with (first
        | (go_at_call 32; refine (HH _ HR.out).out.mono ?_; rintro e w1 ⟨rfl, rfl⟩)
        | fail)
      have hs2 : (w.alloc (mobj 40 (⟨xf, xt, xd⟩, .slice uo xd.length uc))).heap.size = w.heap.size + 1 := by simp
      have hb2 := below1 w (mobj 40 (⟨xf, xt, xd⟩, .slice uo xd.length uc))
      have HN2 := Lib.hid (HN.out.below hb2)
      have HOW := Lib.hid (own_below HOWN.out hb2)
      have HB2 := Lib.hid hb2
      have HDB := Lib.hid (HDA.out.below hb2)
      have HDL2 := Lib.hid (fun x hx => (HN.out.ml.dat x hx).below hb2)
      clear hb2 c1 d0 d1 d2 HN HOWN HDA HR HH
      dsimp only [mobj] at hs2 HN2 HOW HB2 HDB HDL2 HY
      generalize w.alloc (Obj.cells #[Value.int IntKind.i64 xf, Value.int IntKind.i64 xt, Value.slice uo xd.length uc] 40) = W2 at *
      have HS2 := Lib.hid hs2
      have c1 := HN2.out.c1
      rw [HLn.out] at c1
      clear hs2
      have hga : ¬ g = a := fun e => own_ne HN2.out.ml.own HN2.out.box (by decide) g rfl e
      have hag : ¬ a = g := fun e => hga e.symm
      have HLTG : Hid (g < w.heap.size) := Lib.hid (HLT.out g hCg)
      have HLTA : Hid (a < w.heap.size) := Lib.hid (HLT.out a HN2.out.ca)
      have HOD : Hid (W2.drew.ownsRow 0 40 3 (.slice (some ⟨g, 0, none⟩) (n + 1) cap) (n + 1) (cellsG mC L)) := HOW
      have hG := own_hasG mC_len HN2.out.ml.own
      rw [HLn.out] at hG
      clear HMU
      obtain ⟨A, y, B, hmo⟩ := HMD.out hpi
      clear HMD
      have HSL : Hid ((cellsG mC ((L.drop (i + 1)).take (n - i))).length = (n - i) * 3) := Lib.hid (by rw [length_cellsG mC_len, List.length_take, List.length_drop, HLn.out]; congr 1; omega)
      have HONE := Lib.hid (one_ml (L := (L.drop (i + 1)).take (n - i)) (fun x hx => HDL2.out x (List.mem_of_mem_drop (List.mem_of_mem_take hx))))
      have HNN : Hid (∀ q r, q = n - i → r = n + 1 - i → (cellsG mC ((L.drop (i + 1)).take (n - i))).length = Nat.min q r * 3) := Lib.hid (by
        intro q r e1 e2
        rw [e1, e2, HSL.out, show Nat.min (n - i) (n + 1 - i) = n - i from Nat.min_eq_left (by omega)])
      have HFT : Hid (i * 3 + (cellsG mC ((L.drop (i + 1)).take (n - i))).length ≤ (n + 1) * 3) := Lib.hid (by rw [HSL.out]; omega)
      have HNW : Hid (∀ j u, (cellsG mC ((L.drop (i + 1)).take (n - i)))[j]? = some u → W2.drew.cell? ((⟨g, (i + 1) * 3, none⟩ : Addr).add j) = some u) := Lib.hid (((hG.drop0 (k := i + 1) (by omega)).take (k := n - i) (by omega)).news mC_len _ rfl)
      have HLZ : Hid (cap = i + 1 → ¬ 0 < (cellsG mC ((L.drop (i + 1)).take (n - i))).length) := Lib.hid (fun e => by rw [HSL.out]; omega)
      clear hG
      obtain ⟨cs, hcs⟩ : ∃ cs, cs = cellsG mC ((L.drop (i + 1)).take (n - i)) := ⟨_, rfl⟩
      rw [← hcs] at HNN HFT HNW hmo HONE HSL HLZ
      have HMO := Lib.hid hmo
      clear hcs hmo
      have hc1 : ¬ cap = i := by omega
      have hc2 : ¬ i = cap := by omega
      have hb1 : (i : Int) ≤ (n : Int) := by omega
      have hb2 : (i : Int) + 1 ≤ (n : Int) + 1 := by omega
      have hb3 : (i : Int) ≤ (n : Int) := by omega
      have hb4 : (n : Int) + 1 ≤ (cap : Int) := by omega
      have hb5 : (0 : Int) ≤ (i : Int) + 1 := by omega
      have hb6 : (i : Int) ≤ (n : Int) + 1 := by omega
      have hb7 : n + 1 ≤ cap := by omega
      have hb8 : (0 : Int) ≤ (n : Int) + 1 := by omega
      have hb10 : (1 : Int) ≤ (i : Int) + 1 := by omega
      have hb11 : (i : Int) + 1 ≤ (n : Int) + 1 := by omega
      have hw : IntKind.i64.wrap ((i : Int) + 1) = (i : Int) + 1 := by rw [IntKind.wrap_i64]; omega
      have hw2 : IntKind.i64.wrap ((n : Int) + 1) = (n : Int) + 1 := by rw [IntKind.wrap_i64]; omega
      rcases Classical.em (cap = i + 1) with hc | hc
      · subst hc
        have hb9 : n ≤ i := by omega
        go_region_law (refine step_copy_own rfl (.tmp 51) (.tmp 60) 38 38 rfl 40 i0 3 under_nms hi0 hz1 (by decide) _ _ _ _ _ _ rfl rfl HOD.out (i * 3) cs (HNN.out _ _ (by omega) (by omega)) (fun hp => absurd hp (HLZ.out rfl)) HFT.out HONE.out ?_; intro w3 HO3 HT3)
        all_goals
          clear hb1 hb2 hb3 hb4 hb5 hb6 hb7 hb8 hb10 hb11 hb9 hc1 hc2 hw hw2 HLZ
          clear HNN HFT HOD HNW c1
          have hT3 : Tn (· = g) W2 w3 := (Tn.refl (· = g) W2).drew.trans HT3.out (fun _ _ e => e)
          have ho3 := HO3.out
          rw [HMO.out.eq] at ho3
          have hl1 : (A ++ y :: B).length = n + 1 := HMO.out.all.trans HLn.out
          have hn3 := HN2.out.turned (L' := A ++ y :: B) rfl hT3 (by rw [hl1, HLn.out]; exact ho3) (fun z hz => HDL2.out z (HMO.out.mem z hz))
          have HY3 := Lib.hid (HY.out.tn hT3 (by have := HLTG.out; omega))
          have HD3 := Lib.hid (HDB.out.tn hT3 (fun k hk e => own_apart HN2.out.ml.own HDB.out.own (by decide) g rfl (e ▸ hk)))
          have c1 := hn3.c1
          rw [HLn.out] at c1
          obtain ⟨g', eg, hg1, hg2, hmy, hdy⟩ := hn3.ml.at_ (k := n) (by rw [hl1]; omega)
          injection eg with eg
          injection eg with eg
          subst eg
          obtain ⟨p0, d0⟩ : ∃ v, w3.cell? ⟨g, n * 3, none⟩ = some v := ⟨_, hmy.c0⟩
          obtain ⟨p1, d1⟩ : ∃ v, w3.cell? ⟨g, n * 3 + 1, none⟩ = some v := ⟨_, hmy.c1⟩
          obtain ⟨p2, d2⟩ : ∃ v, w3.cell? ⟨g, n * 3 + 2, none⟩ = some v := ⟨_, hmy.c2⟩
          have hfz : ∀ o, w3.frozen? ⟨g, o, none⟩ = false := fun o => by
            obtain ⟨cur, hcur⟩ := own_at ho3 rfl
            simp [World.frozen?, hcur]
          have q0 := hfz (n * 3); have q1 := hfz (n * 3 + 1); have q2 := hfz (n * 3 + 2)
          have y0 := HY3.out.c0; have y1 := HY3.out.c1; have y2 := HY3.out.c2
          simp only at y0 y1 y2
          have hb1 : (n : Int) ≤ (n : Int) := by omega
          have hb2 : (n : Int) < (n : Int) + 1 := by omega
          have hb3 : n < n + 1 := by omega
          have HT3 := Lib.hid hT3
          have HN3 := Lib.hid hn3
          have HO3 := Lib.hid ho3
          clear hmy hfz hdy hl1 hn3 ho3 hT3 hg1 hg2
          have HO4 := own_setCells (mC (⟨xf, xt, xd⟩, .slice uo xd.length uc)) (n * 3) HO3.out
          rw [over_at HMO.out.len] at HO4
          have t4 : Tn (· = g) w3 (w3.setCells g (n * 3) (mC (⟨xf, xt, xd⟩, .slice uo xd.length uc))) := tn_setCells _ _ (Tn.refl _ w3)
          have hl4 : (A ++ (((⟨xf, xt, xd⟩, .slice uo xd.length uc) : MH) :: B)).length = n + 1 := by
            rw [← HLn.out, ← HMO.out.all]
            simp
          have HN4 := HN3.out.turned (L' := A ++ (⟨xf, xt, xd⟩, .slice uo xd.length uc) :: B) rfl t4 (by rw [hl4, HLn.out]; exact HO4) (fun z hz => by
            rcases List.mem_append.1 hz with hz | hz
            · exact HN3.out.ml.dat z (List.mem_append_left _ hz)
            · rcases List.mem_cons.1 hz with rfl | hz
              · exact HD3.out
              · exact HN3.out.ml.dat z (List.mem_append_right _ (List.mem_cons_of_mem _ hz)))
          have el : List.map (·.1) (A ++ ((⟨xf, xt, xd⟩, .slice uo xd.length uc) : MH) :: B) = (l.eraseIdx i).take n ++ ⟨xf, xt, xd⟩ :: (l.eraseIdx i).drop n := by
            rw [HMO.out.end_, List.map_append, List.map_cons, List.map_take, List.map_drop, HEX.out]
          rw [el] at HN4
          have t5 := (((Tn.of_below (S := C) HB2.out).trans HT3.out (fun k _ e => e ▸ hCg)).trans t4 (fun k _ e => e ▸ hCg))
          replace HN4 := Lib.hid HN4
          replace t5 := Lib.hid t5
          clear HO4 t4 hl4 el
          go_wp2
          go_region
          all_goals go_wp2
          all_goals
            go_ret
            exact ⟨rfl, C, ⟨_, _, HN4.out.tn (S := fun _ => False) ((Tn.refl _ _).drew) (fun _ _ e => e)⟩, ⟨t5.out.drew, fun k hk => .inl hk⟩⟩

      · go_region_law (refine step_copy_own rfl (.tmp 51) (.tmp 60) 38 38 rfl 40 i0 3 under_nms hi0 hz1 (by decide) _ _ _ _ _ _ rfl rfl HOD.out (i * 3) cs (HNN.out _ _ (by omega) (by omega)) (fun _ => ⟨rfl, _, rfl, HNW.out⟩) HFT.out HONE.out ?_; intro w3 HO3 HT3)
        all_goals
          clear hb1 hb2 hb3 hb4 hb5 hb6 hb7 hb8 hb10 hb11 hc1 hc2 hc hw hw2 HLZ
          clear HNN HFT HOD HNW c1
          have hT3 : Tn (· = g) W2 w3 := (Tn.refl (· = g) W2).drew.trans HT3.out (fun _ _ e => e)
          have ho3 := HO3.out
          rw [HMO.out.eq] at ho3
          have hl1 : (A ++ y :: B).length = n + 1 := HMO.out.all.trans HLn.out
          have hn3 := HN2.out.turned (L' := A ++ y :: B) rfl hT3 (by rw [hl1, HLn.out]; exact ho3) (fun z hz => HDL2.out z (HMO.out.mem z hz))
          have HY3 := Lib.hid (HY.out.tn hT3 (by have := HLTG.out; omega))
          have HD3 := Lib.hid (HDB.out.tn hT3 (fun k hk e => own_apart HN2.out.ml.own HDB.out.own (by decide) g rfl (e ▸ hk)))
          have c1 := hn3.c1
          rw [HLn.out] at c1
          obtain ⟨g', eg, hg1, hg2, hmy, hdy⟩ := hn3.ml.at_ (k := n) (by rw [hl1]; omega)
          injection eg with eg
          injection eg with eg
          subst eg
          obtain ⟨p0, d0⟩ : ∃ v, w3.cell? ⟨g, n * 3, none⟩ = some v := ⟨_, hmy.c0⟩
          obtain ⟨p1, d1⟩ : ∃ v, w3.cell? ⟨g, n * 3 + 1, none⟩ = some v := ⟨_, hmy.c1⟩
          obtain ⟨p2, d2⟩ : ∃ v, w3.cell? ⟨g, n * 3 + 2, none⟩ = some v := ⟨_, hmy.c2⟩
          have hfz : ∀ o, w3.frozen? ⟨g, o, none⟩ = false := fun o => by
            obtain ⟨cur, hcur⟩ := own_at ho3 rfl
            simp [World.frozen?, hcur]
          have q0 := hfz (n * 3); have q1 := hfz (n * 3 + 1); have q2 := hfz (n * 3 + 2)
          have y0 := HY3.out.c0; have y1 := HY3.out.c1; have y2 := HY3.out.c2
          simp only at y0 y1 y2
          have hb1 : (n : Int) ≤ (n : Int) := by omega
          have hb2 : (n : Int) < (n : Int) + 1 := by omega
          have hb3 : n < n + 1 := by omega
          have HT3 := Lib.hid hT3
          have HN3 := Lib.hid hn3
          have HO3 := Lib.hid ho3
          clear hmy hfz hdy hl1 hn3 ho3 hT3 hg1 hg2
          have HO4 := own_setCells (mC (⟨xf, xt, xd⟩, .slice uo xd.length uc)) (n * 3) HO3.out
          rw [over_at HMO.out.len] at HO4
          have t4 : Tn (· = g) w3 (w3.setCells g (n * 3) (mC (⟨xf, xt, xd⟩, .slice uo xd.length uc))) := tn_setCells _ _ (Tn.refl _ w3)
          have hl4 : (A ++ (((⟨xf, xt, xd⟩, .slice uo xd.length uc) : MH) :: B)).length = n + 1 := by
            rw [← HLn.out, ← HMO.out.all]
            simp
          have HN4 := HN3.out.turned (L' := A ++ (⟨xf, xt, xd⟩, .slice uo xd.length uc) :: B) rfl t4 (by rw [hl4, HLn.out]; exact HO4) (fun z hz => by
            rcases List.mem_append.1 hz with hz | hz
            · exact HN3.out.ml.dat z (List.mem_append_left _ hz)
            · rcases List.mem_cons.1 hz with rfl | hz
              · exact HD3.out
              · exact HN3.out.ml.dat z (List.mem_append_right _ (List.mem_cons_of_mem _ hz)))
          have el : List.map (·.1) (A ++ ((⟨xf, xt, xd⟩, .slice uo xd.length uc) : MH) :: B) = (l.eraseIdx i).take n ++ ⟨xf, xt, xd⟩ :: (l.eraseIdx i).drop n := by
            rw [HMO.out.end_, List.map_append, List.map_cons, List.map_take, List.map_drop, HEX.out]
          rw [el] at HN4
          have t5 := (((Tn.of_below (S := C) HB2.out).trans HT3.out (fun k _ e => e ▸ hCg)).trans t4 (fun k _ e => e ▸ hCg))
          replace HN4 := Lib.hid HN4
          replace t5 := Lib.hid t5
          clear HO4 t4 hl4 el
          go_wp2
          go_region
          all_goals go_wp2
          all_goals
            go_ret
            exact ⟨rfl, C, ⟨_, _, HN4.out.tn (S := fun _ => False) ((Tn.refl _ _).drew) (fun _ _ e => e)⟩, ⟨t5.out.drew, fun k hk => .inl hk⟩⟩
end
end Go.Proofs.Ytcgbjpmmbbldpaa
