/- The document's net (raceref13): Move. Conditions: no more than a million mails. -/
import Derived.Test.YtcgbjpmmbbldpaaMf
namespace Go.Proofs.Ytcgbjpmmbbldpaa
open Go.ChangeShapes Go.WideShapes Go.ChangeAt Go.RowKit Go.Deep
def placeV (n : Nat) (to : Int) : Nat := min (max to 0).toNat n
def moveV (l : List MV) (i : Nat) (to : Int) : List MV := (l.eraseIdx i).take (placeV (l.eraseIdx i).length to) ++ l.getD i default :: (l.eraseIdx i).drop (placeV (l.eraseIdx i).length to)
theorem placeV_le (n : Nat) (to : Int) : placeV n to ≤ n := Nat.min_le_right _ _
theorem HasG.drop {α : Type} {f : α → List Value} {sz : Nat} {P : Nat → Prop} {w : World} {b o n c : Nat} {l : List α} (h : HasG f sz P w (.slice (some ⟨b, o, none⟩) n c) l) {k : Nat} (hk : k ≤ n) : HasG f sz P w (.slice (some ⟨b, o + k * sz, none⟩) (n - k) (c - k)) (l.drop k) := by
  obtain ⟨ao', cap, hv, h1, h2, h3, h4⟩ := h
  injection hv with e1 e2 e3
  subst e1 e2 e3
  have hl : (l.drop k).length = l.length - k := List.length_drop
  refine ⟨_, c - k, by rw [hl], by omega, by omega, (fun e => by cases e), ?_⟩
  rcases h4 with rfl | ⟨b', o', e, h5, h6, h7⟩
  · exact .inl (by simp)
  · injection e with e
    injection e with e1 e2
    subst e1 e2
    refine .inr ⟨b, o + k * sz, rfl, h5, h6, fun i hi => ?_⟩
    rw [List.getElem_drop, show o + k * sz + i * sz = o + (k + i) * sz by rw [Nat.add_mul]; omega]
    exact h7 (k + i) (by omega)
theorem HasG.drop0 {α : Type} {f : α → List Value} {sz : Nat} {P : Nat → Prop} {w : World} {b n c : Nat} {l : List α} (h : HasG f sz P w (.slice (some ⟨b, 0, none⟩) n c) l) {k : Nat} (hk : k ≤ n) : HasG f sz P w (.slice (some ⟨b, k * sz, none⟩) (n - k) (c - k)) (l.drop k) := by
  have := h.drop hk
  rwa [Nat.zero_add] at this
theorem own_cast {w : World} {base e size n n' : Nat} {v : Value} {xs ys : List Value} (h : w.ownsRow base e size v n xs) (hn : n = n') (hx : xs = ys) : w.ownsRow base e size v n' ys := by subst hn; subst hx; exact h
section
variable {C D : Nat → Prop} {w : World} {a : Nat} {room : Int} {l : List MV}
/-- What Move leaves. -/
def RMoved (C : Nat → Prop) (w : World) (a : Nat) (room : Int) (l' : List MV) (r : Bool) (e : Ending) (w' : World) : Prop :=
  e = .returned (.bool r) ∧ ∃ C', RN C' w' a room l' ∧ (∀ k, C k → C' k) ∧ Way C w C' w'
theorem rmove_no (h : RN C w a room l) {i : Int} (hi : hasB l i = false) (to : Int) : Calls Try.prog 29 #[ptr a, .int .i64 i, .int .i64 to] w (RMoved C w a room l false) := by
  have HH := fun w h => Lib.hid (rhas_any (w := w) (a := a) (C := C) (room := room) (l := l) h i)
  simp only [hi] at HH
  have HR := Lib.hid h
  clear h hi
  go_enter Try.func29, Try.ntmps29
  go_wp2_with (go_at_call 31; refine (HH _ HR.out).out.mono ?_; rintro e w1 ⟨rfl, rfl⟩)
  go_ret
  exact ⟨rfl, C, HR.out, fun _ h => h, Way.refl _ _⟩
theorem placeV_cases (n : Nat) (to : Int) : (to < 0 ∧ placeV n to = 0) ∨ (∃ p : Nat, to = p ∧ p < n ∧ placeV n to = p) ∨ (to = n ∧ placeV n to = n) ∨ ((n : Int) < to ∧ 0 ≤ to ∧ placeV n to = n) := by
  unfold placeV
  by_cases h : to < 0
  · exact .inl ⟨h, by omega⟩
  · by_cases h2 : to < n
    · exact .inr (.inl ⟨to.toNat, by omega, by omega, by omega⟩)
    · by_cases h3 : to = n
      · exact .inr (.inr (.inl ⟨h3, by omega⟩))
      · exact .inr (.inr (.inr ⟨by omega, by omega, by omega⟩))
theorem one_ml {C : Nat → Prop} {w : World} {L : List MH} (h : ∀ x ∈ L, DA C w x) : ∀ u ∈ cellsG mC L, u.oneCell' = true := by
  intro u hu
  obtain ⟨x, hx, hu⟩ := List.mem_flatMap.1 hu
  exact (h x hx).one u hu
set_option linter.unusedSimpArgs false in
set_option maxRecDepth 100000 in
set_option maxHeartbeats 4000000 in
theorem rmove_yes (h : RN C w a room l) {i : Nat} (hi : i < l.length) (hl : l.length ≤ 1000000) (to : Int) : Calls Try.prog 29 #[ptr a, .int .i64 i, .int .i64 to] w (RMoved C w a room (moveV l i to) true) := by
  have HH := fun w h => Lib.hid (rhas_any (w := w) (a := a) (C := C) (room := room) (l := l) h i)
  simp only [hasB_of hi] at HH
  obtain ⟨i0, hi0, hz0, hz1, hz2⟩ := info_parts info_rm
  have hmv : moveV l i to = (l.eraseIdx i).take (placeV (l.eraseIdx i).length to) ++ l[i] :: (l.eraseIdx i).drop (placeV (l.eraseIdx i).length to) := by
    unfold moveV
    rw [List.getD_eq_getElem?_getD, List.getElem?_eq_getElem hi]; rfl
  have HTK := fun w h => Lib.hid (rtake_yes (w := w) (a := a) (C := C) (room := room) (l := l) h hi hl)
  have hel := Nat.le_trans (erase_len l i) hl
  rw [hmv]
  have HR := Lib.hid h
  generalize l.eraseIdx i = l1 at *
  generalize l[i] = m at *
  obtain ⟨q, hq⟩ : ∃ q, l1.length = q := ⟨_, rfl⟩
  rw [hq] at hel
  rw [hq]
  have HQ := Lib.hid hq
  have hpc := placeV_cases q to
  have hple := placeV_le q to
  obtain ⟨p, hp⟩ : ∃ p, placeV q to = p := ⟨_, rfl⟩
  simp only [hp] at hpc hple
  rw [hp]
  clear h hmv hi hl hq hp
  rcases hpc with ⟨ht, rfl⟩ | ⟨p', rfl, ht, rfl⟩ | ⟨rfl, rfl⟩ | ⟨ht, ht0, rfl⟩
  · go_enter Try.func29, Try.ntmps29
    go_wp2_with (first | (go_at_call 31; refine (HH _ HR.out).out.mono ?_; rintro e w1 ⟨rfl, rfl⟩) | fail)
    refine (HTK _ HR.out).out.mono ?_
    rintro e w2 ⟨u, rfl, C', h1, h2, h3, h4⟩
    have HC2 := Lib.hid h3
    have HW2 := Lib.hid h4
    have HD2 := Lib.hid h2
    obtain ⟨v, L, hr⟩ := h1
    obtain ⟨uo, uc, e⟩ := own_slice h2.own
    simp only at e
    subst e
    obtain ⟨ao, cap, e⟩ := own_slice hr.ml.own
    subst e
    have hG := own_hasG mC_len hr.ml.own
    have HR2 := Lib.hid hr
    have HLL := Lib.hid (hr.len.trans HQ.out)
    have HDA := Lib.hid hr.ml.dat
    have c1 := hr.c1
    rw [hr.len, HQ.out] at c1 hG
    have HC1 := Lib.hid c1
    have hqc : q ≤ cap := by
      obtain ⟨ao', cap', hv, h1, _⟩ := hG
      injection hv with e1 e2 e3
      omega
    have hal := hr.alt
    have hf1 := hr.fz 1
    have HAL := Lib.hid hal
    have HF1 := Lib.hid (hr.fz 1)
    obtain ⟨m1, m2, m3⟩ := m
    simp only
    have HM := Lib.hid (mx_new w2 62 (⟨m1, m2, m3⟩, .slice uo m3.length uc))
    clear h2 h3 h4 hr HTK HH
    cases ao with
    | none =>
      have hz : cap = 0 ∧ L = [] := by
        obtain ⟨ao', cap', hv, _, _, h3, _⟩ := hG
        injection hv with e1 e2 e3
        subst e1 e3
        exact h3 rfl
      obtain ⟨rfl, rfl⟩ := hz
      have hq0 : q = 0 := HLL.out.symm
      subst hq0
      have HG4 := Lib.hid (hG.below (below1 w2 (mobj 62 (⟨m1, m2, m3⟩, .slice uo m3.length uc))))
      have HB4s : w2.heap.size ≤ (w2.alloc (mobj 62 (⟨m1, m2, m3⟩, .slice uo m3.length uc))).heap.size := (below1 w2 _).size
      go_wp2_with (first
        | (at_builtin; (refine wpList_append_row9 rfl (.tmp 42) (.tmp 48) 58 rfl w2.heap.size 62 i0 (.agg #[.int .i64 0, .int .i64 0, .slice none 0 0]) 3 40 under_rms hi0 hz0 hz1 hz2 rfl (by decide) _ _ _ rfl HO5.out _ 0 _ (cellsG mC ([] : List MH)) rfl (fun _ => ⟨rfl, rfl⟩) (by rw [length_cellsG mC_len]; have := HLL.out; simp; try omega) (fun ad e => by cases e) (fun u hu => by cases hu) (by unfold maxLen; omega) (by omega) (by first | exact HB4s | exact HB5s) ?_; intro v6 w6 ho hg; simp only [Nat.zero_add, Nat.sub_zero] at ho; have HO6 := Lib.hid ho; have HB6 := Lib.hid (HB5.out.grown hg HB5.out.size (fun k hk => (HO5.out.lt k hk).1)); obtain ⟨o6, k6, e⟩ := own_slice ho; subst e; have c1 := (HB6.out.cell (p := ⟨a, 1, none⟩) hal).trans HC1.out; have f1 := (HB6.out.frozen (p := ⟨a, 1, none⟩) hal).trans HF1.out; clear ho hg))
        | (at_builtin; (refine wpList_append_own _ rfl (.tmp 37) (.tmp 39) 58 rfl w2.heap.size 62 i0 (.agg #[.int .i64 0, .int .i64 0, .slice none 0 0]) 3 40 under_rms hi0 hz0 hz1 hz2 rfl (by decide) _ _ _ rfl (HO4.out.alloc _) ⟨w4.heap.size, 0, none⟩ 1 1 (mC (⟨m1, m2, m3⟩, .slice uo m3.length uc)) rfl rfl (cells_ml _ (⟨m1, m2, m3⟩, .slice uo m3.length uc) _ _ rfl) HD2.out.one (by unfold maxLen; omega) (by omega) (by have := HB4.out.size; simp; omega) ?_; intro v5 w5 ho hg _; have HO5 := Lib.hid ho; have HB5 := Lib.hid ((HB4.out.alloc HB4.out.size (mobj 62 (⟨m1, m2, m3⟩, .slice uo m3.length uc))).grown hg (HB4.out.alloc HB4.out.size _).size (fun k hk => (HO4.out.lt k hk).1)); have HB5s := HB5.out.size; have c1 := (HB5.out.cell (p := ⟨a, 1, none⟩) hal).trans HC1.out; clear ho hg))
        | (at_builtin; (refine wpList_append_row9 rfl (.tmp 29) (.tmp 35) 58 rfl w2.heap.size 62 i0 (.agg #[.int .i64 0, .int .i64 0, .slice none 0 0]) 3 40 under_rms hi0 hz0 hz1 hz2 rfl (by decide) _ 0 [] rfl (World.ownsRow_nil _ _ _ _) _ 0 _ (cellsG mC ([] : List MH)) rfl (fun _ => ⟨rfl, rfl⟩) (by rw [length_cellsG mC_len]; have := HLL.out; simp; try omega) (fun ad e => by cases e) (fun u hu => by cases hu) (by unfold maxLen; omega) (by omega) (by first | exact HB4s | exact HB5s) ?_; intro v4 w4 ho hg; have HO4 := Lib.hid ho; have HB4 := Lib.hid ((below1 w2 (mobj 62 (⟨m1, m2, m3⟩, .slice uo m3.length uc))).grown hg (below1 w2 _).size (fun k hk => by cases hk)); have HM4 := Lib.hid (HM.out.tn ((Tn.refl (fun _ => False) _).grown hg (fun k hk => by cases hk)) (fun e => e)); have y0 := HM4.out.c0; have y1 := HM4.out.c1; have y2 := HM4.out.c2; simp only at y0 y1 y2; clear ho hg))
        | fail)
      go_ret
      obtain ⟨⟨C2, g1, g2, g3⟩, g4⟩ := HR2.out.relist HB6.out (L' := ([] : List MH) ++ (⟨m1, m2, m3⟩, .slice uo m3.length uc) :: ([] : List MH)) (l' := l1.take 0 ++ ⟨m1, m2, m3⟩ :: l1.drop 0) (own_cast HO6.out (by have := HLL.out; simp; try omega) (by simp [cellsG])) (Nat.le_refl _) (fun x hx => by
        rcases List.mem_append.1 hx with hx | hx
        · exact HDA.out x (by cases hx)
        · rcases List.mem_cons.1 hx with rfl | hx
          · exact HD2.out
          · exact HDA.out x (by cases hx)) (by rw [← HR2.out.eq]; simp)
      exact ⟨rfl, C2, ⟨_, _, g1⟩, fun k hk => g2 _ (HC2.out k hk), HW2.out.trans g3⟩
    | some ad =>
      obtain ⟨g, c, e⟩ : ∃ g c, (Value.slice (some ad) q cap) = .slice (some ⟨g, 0, none⟩) q c := by
        have := HR2.out.ml.own
        rcases this.2 with ⟨e, _⟩ | ⟨g, c, cur, e, _⟩
        · cases e
        · injection e with e1 e2 e3
          exact ⟨g, c, by rw [e1]; injection e1 with e1; rw [e3]⟩
      injection e with e1 _ e3
      injection e1 with e1
      subst e1 e3
      have HG4 := Lib.hid (hG.below (below1 w2 (mobj 62 (⟨m1, m2, m3⟩, .slice uo m3.length uc))))
      have HB4s : w2.heap.size ≤ (w2.alloc (mobj 62 (⟨m1, m2, m3⟩, .slice uo m3.length uc))).heap.size := (below1 w2 _).size
      go_wp2_with (first
        | (at_builtin; (refine wpList_append_row9 rfl (.tmp 42) (.tmp 48) 58 rfl w2.heap.size 62 i0 (.agg #[.int .i64 0, .int .i64 0, .slice none 0 0]) 3 40 under_rms hi0 hz0 hz1 hz2 rfl (by decide) _ _ _ rfl HO5.out _ (q - 0) _ (cellsG mC (L.drop 0)) rfl (fun e => by cases e) (by rw [length_cellsG mC_len]; have := HLL.out; simp; try omega) (((hG.below HB5.out).drop0 (show 0 ≤ q by omega)).news mC_len) (one_ml fun x hx => HDA.out x (List.mem_of_mem_drop hx)) (by unfold maxLen; omega) (by omega) (by first | exact HB4s | exact HB5s) ?_; intro v6 w6 ho hg; simp only [Nat.zero_add, Nat.sub_zero] at ho; have HO6 := Lib.hid ho; have HB6 := Lib.hid (HB5.out.grown hg HB5.out.size (fun k hk => (HO5.out.lt k hk).1)); obtain ⟨o6, k6, e⟩ := own_slice ho; subst e; have c1 := (HB6.out.cell (p := ⟨a, 1, none⟩) hal).trans HC1.out; have f1 := (HB6.out.frozen (p := ⟨a, 1, none⟩) hal).trans HF1.out; clear ho hg))
        | (at_builtin; (refine wpList_append_own _ rfl (.tmp 37) (.tmp 39) 58 rfl w2.heap.size 62 i0 (.agg #[.int .i64 0, .int .i64 0, .slice none 0 0]) 3 40 under_rms hi0 hz0 hz1 hz2 rfl (by decide) _ _ _ rfl (HO4.out.alloc _) ⟨w4.heap.size, 0, none⟩ 1 1 (mC (⟨m1, m2, m3⟩, .slice uo m3.length uc)) rfl rfl (cells_ml _ (⟨m1, m2, m3⟩, .slice uo m3.length uc) _ _ rfl) HD2.out.one (by unfold maxLen; omega) (by omega) (by have := HB4.out.size; simp; omega) ?_; intro v5 w5 ho hg _; have HO5 := Lib.hid ho; have HB5 := Lib.hid ((HB4.out.alloc HB4.out.size (mobj 62 (⟨m1, m2, m3⟩, .slice uo m3.length uc))).grown hg (HB4.out.alloc HB4.out.size _).size (fun k hk => (HO4.out.lt k hk).1)); have HB5s := HB5.out.size; have c1 := (HB5.out.cell (p := ⟨a, 1, none⟩) hal).trans HC1.out; clear ho hg))
        | (at_builtin; (refine wpList_append_row9 rfl (.tmp 29) (.tmp 35) 58 rfl w2.heap.size 62 i0 (.agg #[.int .i64 0, .int .i64 0, .slice none 0 0]) 3 40 under_rms hi0 hz0 hz1 hz2 rfl (by decide) _ 0 [] rfl (World.ownsRow_nil _ _ _ _) _ 0 _ (cellsG mC (L.take 0)) rfl (fun e => by cases e) (by rw [length_cellsG mC_len]; have := HLL.out; simp; try omega) ((HG4.out.take (show 0 ≤ q by omega)).news mC_len) (one_ml fun x hx => HDA.out x (List.mem_of_mem_take hx)) (by unfold maxLen; omega) (by omega) (by first | exact HB4s | exact HB5s) ?_; intro v4 w4 ho hg; have HO4 := Lib.hid ho; have HB4 := Lib.hid ((below1 w2 (mobj 62 (⟨m1, m2, m3⟩, .slice uo m3.length uc))).grown hg (below1 w2 _).size (fun k hk => by cases hk)); have HM4 := Lib.hid (HM.out.tn ((Tn.refl (fun _ => False) _).grown hg (fun k hk => by cases hk)) (fun e => e)); have y0 := HM4.out.c0; have y1 := HM4.out.c1; have y2 := HM4.out.c2; simp only at y0 y1 y2; clear ho hg))
        | fail)
      go_ret
      obtain ⟨⟨C2, g1, g2, g3⟩, g4⟩ := HR2.out.relist HB6.out (L' := (L.take 0) ++ (⟨m1, m2, m3⟩, .slice uo m3.length uc) :: (L.drop 0)) (l' := l1.take 0 ++ ⟨m1, m2, m3⟩ :: l1.drop 0) (own_cast HO6.out (by have := HLL.out; simp; try omega) (by simp [cellsG])) (Nat.le_refl _) (fun x hx => by
        rcases List.mem_append.1 hx with hx | hx
        · exact HDA.out x (List.mem_of_mem_take hx)
        · rcases List.mem_cons.1 hx with rfl | hx
          · exact HD2.out
          · exact HDA.out x (List.mem_of_mem_drop hx)) (by rw [← HR2.out.eq]; simp)
      exact ⟨rfl, C2, ⟨_, _, g1⟩, fun k hk => g2 _ (HC2.out k hk), HW2.out.trans g3⟩
  · go_enter Try.func29, Try.ntmps29
    go_wp2_with (first | (go_at_call 31; refine (HH _ HR.out).out.mono ?_; rintro e w1 ⟨rfl, rfl⟩) | fail)
    refine (HTK _ HR.out).out.mono ?_
    rintro e w2 ⟨u, rfl, C', h1, h2, h3, h4⟩
    have HC2 := Lib.hid h3
    have HW2 := Lib.hid h4
    have HD2 := Lib.hid h2
    obtain ⟨v, L, hr⟩ := h1
    obtain ⟨uo, uc, e⟩ := own_slice h2.own
    simp only at e
    subst e
    obtain ⟨ao, cap, e⟩ := own_slice hr.ml.own
    subst e
    have hG := own_hasG mC_len hr.ml.own
    have HR2 := Lib.hid hr
    have HLL := Lib.hid (hr.len.trans HQ.out)
    have HDA := Lib.hid hr.ml.dat
    have c1 := hr.c1
    rw [hr.len, HQ.out] at c1 hG
    have HC1 := Lib.hid c1
    have hqc : q ≤ cap := by
      obtain ⟨ao', cap', hv, h1, _⟩ := hG
      injection hv with e1 e2 e3
      omega
    have hal := hr.alt
    have hf1 := hr.fz 1
    have HAL := Lib.hid hal
    have HF1 := Lib.hid (hr.fz 1)
    obtain ⟨m1, m2, m3⟩ := m
    simp only
    have HM := Lib.hid (mx_new w2 62 (⟨m1, m2, m3⟩, .slice uo m3.length uc))
    clear h2 h3 h4 hr HTK HH
    cases ao with
    | none =>
      have hz : cap = 0 ∧ L = [] := by
        obtain ⟨ao', cap', hv, _, _, h3, _⟩ := hG
        injection hv with e1 e2 e3
        subst e1 e3
        exact h3 rfl
      obtain ⟨rfl, rfl⟩ := hz
      have hq0 : q = 0 := HLL.out.symm
      subst hq0
      omega
    | some ad =>
      obtain ⟨g, c, e⟩ : ∃ g c, (Value.slice (some ad) q cap) = .slice (some ⟨g, 0, none⟩) q c := by
        have := HR2.out.ml.own
        rcases this.2 with ⟨e, _⟩ | ⟨g, c, cur, e, _⟩
        · cases e
        · injection e with e1 e2 e3
          exact ⟨g, c, by rw [e1]; injection e1 with e1; rw [e3]⟩
      injection e with e1 _ e3
      injection e1 with e1
      subst e1 e3
      have hcp : ¬ cap = p := by omega
      have hpc' : ¬ p = cap := by omega
      have HG4 := Lib.hid (hG.below (below1 w2 (mobj 62 (⟨m1, m2, m3⟩, .slice uo m3.length uc))))
      have HB4s : w2.heap.size ≤ (w2.alloc (mobj 62 (⟨m1, m2, m3⟩, .slice uo m3.length uc))).heap.size := (below1 w2 _).size
      go_wp2_with (first
        | (at_builtin; (refine wpList_append_row9 rfl (.tmp 42) (.tmp 48) 58 rfl w2.heap.size 62 i0 (.agg #[.int .i64 0, .int .i64 0, .slice none 0 0]) 3 40 under_rms hi0 hz0 hz1 hz2 rfl (by decide) _ _ _ rfl HO5.out _ (q - p) _ (cellsG mC (L.drop p)) rfl (fun e => by cases e) (by rw [length_cellsG mC_len]; have := HLL.out; simp; try omega) (((hG.below HB5.out).drop0 (show p ≤ q by omega)).news mC_len) (one_ml fun x hx => HDA.out x (List.mem_of_mem_drop hx)) (by unfold maxLen; omega) (by omega) (by first | exact HB4s | exact HB5s) ?_; intro v6 w6 ho hg; simp only [Nat.zero_add, Nat.sub_zero] at ho; have HO6 := Lib.hid ho; have HB6 := Lib.hid (HB5.out.grown hg HB5.out.size (fun k hk => (HO5.out.lt k hk).1)); obtain ⟨o6, k6, e⟩ := own_slice ho; subst e; have c1 := (HB6.out.cell (p := ⟨a, 1, none⟩) hal).trans HC1.out; have f1 := (HB6.out.frozen (p := ⟨a, 1, none⟩) hal).trans HF1.out; clear ho hg))
        | (at_builtin; (refine wpList_append_own _ rfl (.tmp 37) (.tmp 39) 58 rfl w2.heap.size 62 i0 (.agg #[.int .i64 0, .int .i64 0, .slice none 0 0]) 3 40 under_rms hi0 hz0 hz1 hz2 rfl (by decide) _ _ _ rfl (HO4.out.alloc _) ⟨w4.heap.size, 0, none⟩ 1 1 (mC (⟨m1, m2, m3⟩, .slice uo m3.length uc)) rfl rfl (cells_ml _ (⟨m1, m2, m3⟩, .slice uo m3.length uc) _ _ rfl) HD2.out.one (by unfold maxLen; omega) (by omega) (by have := HB4.out.size; simp; omega) ?_; intro v5 w5 ho hg _; have HO5 := Lib.hid ho; have HB5 := Lib.hid ((HB4.out.alloc HB4.out.size (mobj 62 (⟨m1, m2, m3⟩, .slice uo m3.length uc))).grown hg (HB4.out.alloc HB4.out.size _).size (fun k hk => (HO4.out.lt k hk).1)); have HB5s := HB5.out.size; have c1 := (HB5.out.cell (p := ⟨a, 1, none⟩) hal).trans HC1.out; clear ho hg))
        | (at_builtin; (refine wpList_append_row9 rfl (.tmp 29) (.tmp 35) 58 rfl w2.heap.size 62 i0 (.agg #[.int .i64 0, .int .i64 0, .slice none 0 0]) 3 40 under_rms hi0 hz0 hz1 hz2 rfl (by decide) _ 0 [] rfl (World.ownsRow_nil _ _ _ _) _ p _ (cellsG mC (L.take p)) rfl (fun e => by cases e) (by rw [length_cellsG mC_len]; have := HLL.out; simp; try omega) ((HG4.out.take (show p ≤ q by omega)).news mC_len) (one_ml fun x hx => HDA.out x (List.mem_of_mem_take hx)) (by unfold maxLen; omega) (by omega) (by first | exact HB4s | exact HB5s) ?_; intro v4 w4 ho hg; have HO4 := Lib.hid ho; have HB4 := Lib.hid ((below1 w2 (mobj 62 (⟨m1, m2, m3⟩, .slice uo m3.length uc))).grown hg (below1 w2 _).size (fun k hk => by cases hk)); have HM4 := Lib.hid (HM.out.tn ((Tn.refl (fun _ => False) _).grown hg (fun k hk => by cases hk)) (fun e => e)); have y0 := HM4.out.c0; have y1 := HM4.out.c1; have y2 := HM4.out.c2; simp only at y0 y1 y2; clear ho hg))
        | fail)
      go_ret
      obtain ⟨⟨C2, g1, g2, g3⟩, g4⟩ := HR2.out.relist HB6.out (L' := (L.take p) ++ (⟨m1, m2, m3⟩, .slice uo m3.length uc) :: (L.drop p)) (l' := l1.take p ++ ⟨m1, m2, m3⟩ :: l1.drop p) (own_cast HO6.out (by have := HLL.out; simp; try omega) (by simp [cellsG])) (Nat.le_refl _) (fun x hx => by
        rcases List.mem_append.1 hx with hx | hx
        · exact HDA.out x (List.mem_of_mem_take hx)
        · rcases List.mem_cons.1 hx with rfl | hx
          · exact HD2.out
          · exact HDA.out x (List.mem_of_mem_drop hx)) (by rw [← HR2.out.eq]; simp)
      exact ⟨rfl, C2, ⟨_, _, g1⟩, fun k hk => g2 _ (HC2.out k hk), HW2.out.trans g3⟩
  · go_enter Try.func29, Try.ntmps29
    go_wp2_with (first | (go_at_call 31; refine (HH _ HR.out).out.mono ?_; rintro e w1 ⟨rfl, rfl⟩) | fail)
    refine (HTK _ HR.out).out.mono ?_
    rintro e w2 ⟨u, rfl, C', h1, h2, h3, h4⟩
    have HC2 := Lib.hid h3
    have HW2 := Lib.hid h4
    have HD2 := Lib.hid h2
    obtain ⟨v, L, hr⟩ := h1
    obtain ⟨uo, uc, e⟩ := own_slice h2.own
    simp only at e
    subst e
    obtain ⟨ao, cap, e⟩ := own_slice hr.ml.own
    subst e
    have hG := own_hasG mC_len hr.ml.own
    have HR2 := Lib.hid hr
    have HLL := Lib.hid (hr.len.trans HQ.out)
    have HDA := Lib.hid hr.ml.dat
    have c1 := hr.c1
    rw [hr.len, HQ.out] at c1 hG
    have HC1 := Lib.hid c1
    have hqc : p ≤ cap := by
      obtain ⟨ao', cap', hv, h1, _⟩ := hG
      injection hv with e1 e2 e3
      omega
    have hal := hr.alt
    have hf1 := hr.fz 1
    have HAL := Lib.hid hal
    have HF1 := Lib.hid (hr.fz 1)
    obtain ⟨m1, m2, m3⟩ := m
    simp only
    have HM := Lib.hid (mx_new w2 62 (⟨m1, m2, m3⟩, .slice uo m3.length uc))
    clear h2 h3 h4 hr HTK HH
    cases ao with
    | none =>
      have hz : cap = 0 ∧ L = [] := by
        obtain ⟨ao', cap', hv, _, _, h3, _⟩ := hG
        injection hv with e1 e2 e3
        subst e1 e3
        exact h3 rfl
      obtain ⟨rfl, rfl⟩ := hz
      have hq0 : p = 0 := HLL.out.symm
      subst hq0
      have HG4 := Lib.hid (hG.below (below1 w2 (mobj 62 (⟨m1, m2, m3⟩, .slice uo m3.length uc))))
      have HB4s : w2.heap.size ≤ (w2.alloc (mobj 62 (⟨m1, m2, m3⟩, .slice uo m3.length uc))).heap.size := (below1 w2 _).size
      go_wp2_with (first
        | (at_builtin; (refine wpList_append_row9 rfl (.tmp 42) (.tmp 48) 58 rfl w2.heap.size 62 i0 (.agg #[.int .i64 0, .int .i64 0, .slice none 0 0]) 3 40 under_rms hi0 hz0 hz1 hz2 rfl (by decide) _ _ _ rfl HO5.out _ 0 _ (cellsG mC ([] : List MH)) rfl (fun _ => ⟨rfl, rfl⟩) (by rw [length_cellsG mC_len]; have := HLL.out; simp; try omega) (fun ad e => by cases e) (fun u hu => by cases hu) (by unfold maxLen; omega) (by omega) (by first | exact HB4s | exact HB5s) ?_; intro v6 w6 ho hg; simp only [Nat.zero_add, Nat.sub_zero] at ho; have HO6 := Lib.hid ho; have HB6 := Lib.hid (HB5.out.grown hg HB5.out.size (fun k hk => (HO5.out.lt k hk).1)); obtain ⟨o6, k6, e⟩ := own_slice ho; subst e; have c1 := (HB6.out.cell (p := ⟨a, 1, none⟩) hal).trans HC1.out; have f1 := (HB6.out.frozen (p := ⟨a, 1, none⟩) hal).trans HF1.out; clear ho hg))
        | (at_builtin; (refine wpList_append_own _ rfl (.tmp 37) (.tmp 39) 58 rfl w2.heap.size 62 i0 (.agg #[.int .i64 0, .int .i64 0, .slice none 0 0]) 3 40 under_rms hi0 hz0 hz1 hz2 rfl (by decide) _ _ _ rfl (HO4.out.alloc _) ⟨w4.heap.size, 0, none⟩ 1 1 (mC (⟨m1, m2, m3⟩, .slice uo m3.length uc)) rfl rfl (cells_ml _ (⟨m1, m2, m3⟩, .slice uo m3.length uc) _ _ rfl) HD2.out.one (by unfold maxLen; omega) (by omega) (by have := HB4.out.size; simp; omega) ?_; intro v5 w5 ho hg _; have HO5 := Lib.hid ho; have HB5 := Lib.hid ((HB4.out.alloc HB4.out.size (mobj 62 (⟨m1, m2, m3⟩, .slice uo m3.length uc))).grown hg (HB4.out.alloc HB4.out.size _).size (fun k hk => (HO4.out.lt k hk).1)); have HB5s := HB5.out.size; have c1 := (HB5.out.cell (p := ⟨a, 1, none⟩) hal).trans HC1.out; clear ho hg))
        | (at_builtin; (refine wpList_append_row9 rfl (.tmp 29) (.tmp 35) 58 rfl w2.heap.size 62 i0 (.agg #[.int .i64 0, .int .i64 0, .slice none 0 0]) 3 40 under_rms hi0 hz0 hz1 hz2 rfl (by decide) _ 0 [] rfl (World.ownsRow_nil _ _ _ _) _ 0 _ (cellsG mC ([] : List MH)) rfl (fun _ => ⟨rfl, rfl⟩) (by rw [length_cellsG mC_len]; have := HLL.out; simp; try omega) (fun ad e => by cases e) (fun u hu => by cases hu) (by unfold maxLen; omega) (by omega) (by first | exact HB4s | exact HB5s) ?_; intro v4 w4 ho hg; have HO4 := Lib.hid ho; have HB4 := Lib.hid ((below1 w2 (mobj 62 (⟨m1, m2, m3⟩, .slice uo m3.length uc))).grown hg (below1 w2 _).size (fun k hk => by cases hk)); have HM4 := Lib.hid (HM.out.tn ((Tn.refl (fun _ => False) _).grown hg (fun k hk => by cases hk)) (fun e => e)); have y0 := HM4.out.c0; have y1 := HM4.out.c1; have y2 := HM4.out.c2; simp only at y0 y1 y2; clear ho hg))
        | fail)
      go_ret
      obtain ⟨⟨C2, g1, g2, g3⟩, g4⟩ := HR2.out.relist HB6.out (L' := ([] : List MH) ++ (⟨m1, m2, m3⟩, .slice uo m3.length uc) :: ([] : List MH)) (l' := l1.take 0 ++ ⟨m1, m2, m3⟩ :: l1.drop 0) (own_cast HO6.out (by have := HLL.out; simp; try omega) (by simp [cellsG])) (Nat.le_refl _) (fun x hx => by
        rcases List.mem_append.1 hx with hx | hx
        · exact HDA.out x (by cases hx)
        · rcases List.mem_cons.1 hx with rfl | hx
          · exact HD2.out
          · exact HDA.out x (by cases hx)) (by rw [← HR2.out.eq]; simp)
      exact ⟨rfl, C2, ⟨_, _, g1⟩, fun k hk => g2 _ (HC2.out k hk), HW2.out.trans g3⟩
    | some ad =>
      obtain ⟨g, c, e⟩ : ∃ g c, (Value.slice (some ad) p cap) = .slice (some ⟨g, 0, none⟩) p c := by
        have := HR2.out.ml.own
        rcases this.2 with ⟨e, _⟩ | ⟨g, c, cur, e, _⟩
        · cases e
        · injection e with e1 e2 e3
          exact ⟨g, c, by rw [e1]; injection e1 with e1; rw [e3]⟩
      injection e with e1 _ e3
      injection e1 with e1
      subst e1 e3
      have hcc : cap = p ∨ ¬ cap = p := Classical.em _
      rcases hcc with hcp | hcp
      all_goals
        have HG4 := Lib.hid (hG.below (below1 w2 (mobj 62 (⟨m1, m2, m3⟩, .slice uo m3.length uc))))
        have HB4s : w2.heap.size ≤ (w2.alloc (mobj 62 (⟨m1, m2, m3⟩, .slice uo m3.length uc))).heap.size := (below1 w2 _).size
        go_wp2_with (first
          | (at_builtin; (refine wpList_append_row9 rfl (.tmp 42) (.tmp 48) 58 rfl w2.heap.size 62 i0 (.agg #[.int .i64 0, .int .i64 0, .slice none 0 0]) 3 40 under_rms hi0 hz0 hz1 hz2 rfl (by decide) _ _ _ rfl HO5.out _ 0 _ (cellsG mC (L.drop p)) rfl (fun e => by cases e) (by rw [length_cellsG mC_len]; have := HLL.out; simp; try omega) (fun ad e j u hu => by rw [List.drop_of_length_le (by rw [HLL.out]; exact Nat.le_refl _)] at hu; simp [cellsG] at hu) (one_ml fun x hx => HDA.out x (List.mem_of_mem_drop hx)) (by unfold maxLen; omega) (by omega) (by first | exact HB4s | exact HB5s) ?_; intro v6 w6 ho hg; simp only [Nat.zero_add, Nat.sub_zero] at ho; have HO6 := Lib.hid ho; have HB6 := Lib.hid (HB5.out.grown hg HB5.out.size (fun k hk => (HO5.out.lt k hk).1)); obtain ⟨o6, k6, e⟩ := own_slice ho; subst e; have c1 := (HB6.out.cell (p := ⟨a, 1, none⟩) hal).trans HC1.out; have f1 := (HB6.out.frozen (p := ⟨a, 1, none⟩) hal).trans HF1.out; clear ho hg))
          | (at_builtin; (refine wpList_append_own _ rfl (.tmp 37) (.tmp 39) 58 rfl w2.heap.size 62 i0 (.agg #[.int .i64 0, .int .i64 0, .slice none 0 0]) 3 40 under_rms hi0 hz0 hz1 hz2 rfl (by decide) _ _ _ rfl (HO4.out.alloc _) ⟨w4.heap.size, 0, none⟩ 1 1 (mC (⟨m1, m2, m3⟩, .slice uo m3.length uc)) rfl rfl (cells_ml _ (⟨m1, m2, m3⟩, .slice uo m3.length uc) _ _ rfl) HD2.out.one (by unfold maxLen; omega) (by omega) (by have := HB4.out.size; simp; omega) ?_; intro v5 w5 ho hg _; have HO5 := Lib.hid ho; have HB5 := Lib.hid ((HB4.out.alloc HB4.out.size (mobj 62 (⟨m1, m2, m3⟩, .slice uo m3.length uc))).grown hg (HB4.out.alloc HB4.out.size _).size (fun k hk => (HO4.out.lt k hk).1)); have HB5s := HB5.out.size; have c1 := (HB5.out.cell (p := ⟨a, 1, none⟩) hal).trans HC1.out; clear ho hg))
          | (at_builtin; (refine wpList_append_row9 rfl (.tmp 29) (.tmp 35) 58 rfl w2.heap.size 62 i0 (.agg #[.int .i64 0, .int .i64 0, .slice none 0 0]) 3 40 under_rms hi0 hz0 hz1 hz2 rfl (by decide) _ 0 [] rfl (World.ownsRow_nil _ _ _ _) _ p _ (cellsG mC (L.take p)) rfl (fun e => by cases e) (by rw [length_cellsG mC_len]; have := HLL.out; simp; try omega) ((HG4.out.take (show p ≤ p by omega)).news mC_len) (one_ml fun x hx => HDA.out x (List.mem_of_mem_take hx)) (by unfold maxLen; omega) (by omega) (by first | exact HB4s | exact HB5s) ?_; intro v4 w4 ho hg; have HO4 := Lib.hid ho; have HB4 := Lib.hid ((below1 w2 (mobj 62 (⟨m1, m2, m3⟩, .slice uo m3.length uc))).grown hg (below1 w2 _).size (fun k hk => by cases hk)); have HM4 := Lib.hid (HM.out.tn ((Tn.refl (fun _ => False) _).grown hg (fun k hk => by cases hk)) (fun e => e)); have y0 := HM4.out.c0; have y1 := HM4.out.c1; have y2 := HM4.out.c2; simp only at y0 y1 y2; clear ho hg))
          | fail)
        go_ret
        obtain ⟨⟨C2, g1, g2, g3⟩, g4⟩ := HR2.out.relist HB6.out (L' := (L.take p) ++ (⟨m1, m2, m3⟩, .slice uo m3.length uc) :: (L.drop p)) (l' := l1.take p ++ ⟨m1, m2, m3⟩ :: l1.drop p) (own_cast HO6.out (by have := HLL.out; simp; try omega) (by simp [cellsG])) (Nat.le_refl _) (fun x hx => by
          rcases List.mem_append.1 hx with hx | hx
          · exact HDA.out x (List.mem_of_mem_take hx)
          · rcases List.mem_cons.1 hx with rfl | hx
            · exact HD2.out
            · exact HDA.out x (List.mem_of_mem_drop hx)) (by rw [← HR2.out.eq]; simp)
        exact ⟨rfl, C2, ⟨_, _, g1⟩, fun k hk => g2 _ (HC2.out k hk), HW2.out.trans g3⟩
  · go_enter Try.func29, Try.ntmps29
    go_wp2_with (first | (go_at_call 31; refine (HH _ HR.out).out.mono ?_; rintro e w1 ⟨rfl, rfl⟩) | fail)
    refine (HTK _ HR.out).out.mono ?_
    rintro e w2 ⟨u, rfl, C', h1, h2, h3, h4⟩
    have HC2 := Lib.hid h3
    have HW2 := Lib.hid h4
    have HD2 := Lib.hid h2
    obtain ⟨v, L, hr⟩ := h1
    obtain ⟨uo, uc, e⟩ := own_slice h2.own
    simp only at e
    subst e
    obtain ⟨ao, cap, e⟩ := own_slice hr.ml.own
    subst e
    have hG := own_hasG mC_len hr.ml.own
    have HR2 := Lib.hid hr
    have HLL := Lib.hid (hr.len.trans HQ.out)
    have HDA := Lib.hid hr.ml.dat
    have c1 := hr.c1
    rw [hr.len, HQ.out] at c1 hG
    have HC1 := Lib.hid c1
    have hqc : p ≤ cap := by
      obtain ⟨ao', cap', hv, h1, _⟩ := hG
      injection hv with e1 e2 e3
      omega
    have hal := hr.alt
    have hf1 := hr.fz 1
    have HAL := Lib.hid hal
    have HF1 := Lib.hid (hr.fz 1)
    obtain ⟨m1, m2, m3⟩ := m
    simp only
    have HM := Lib.hid (mx_new w2 62 (⟨m1, m2, m3⟩, .slice uo m3.length uc))
    clear h2 h3 h4 hr HTK HH
    cases ao with
    | none =>
      have hz : cap = 0 ∧ L = [] := by
        obtain ⟨ao', cap', hv, _, _, h3, _⟩ := hG
        injection hv with e1 e2 e3
        subst e1 e3
        exact h3 rfl
      obtain ⟨rfl, rfl⟩ := hz
      have hq0 : p = 0 := HLL.out.symm
      subst hq0
      have HG4 := Lib.hid (hG.below (below1 w2 (mobj 62 (⟨m1, m2, m3⟩, .slice uo m3.length uc))))
      have HB4s : w2.heap.size ≤ (w2.alloc (mobj 62 (⟨m1, m2, m3⟩, .slice uo m3.length uc))).heap.size := (below1 w2 _).size
      go_wp2_with (first
        | (at_builtin; (refine wpList_append_row9 rfl (.tmp 42) (.tmp 48) 58 rfl w2.heap.size 62 i0 (.agg #[.int .i64 0, .int .i64 0, .slice none 0 0]) 3 40 under_rms hi0 hz0 hz1 hz2 rfl (by decide) _ _ _ rfl HO5.out _ 0 _ (cellsG mC ([] : List MH)) rfl (fun _ => ⟨rfl, rfl⟩) (by rw [length_cellsG mC_len]; have := HLL.out; simp; try omega) (fun ad e => by cases e) (fun u hu => by cases hu) (by unfold maxLen; omega) (by omega) (by first | exact HB4s | exact HB5s) ?_; intro v6 w6 ho hg; simp only [Nat.zero_add, Nat.sub_zero] at ho; have HO6 := Lib.hid ho; have HB6 := Lib.hid (HB5.out.grown hg HB5.out.size (fun k hk => (HO5.out.lt k hk).1)); obtain ⟨o6, k6, e⟩ := own_slice ho; subst e; have c1 := (HB6.out.cell (p := ⟨a, 1, none⟩) hal).trans HC1.out; have f1 := (HB6.out.frozen (p := ⟨a, 1, none⟩) hal).trans HF1.out; clear ho hg))
        | (at_builtin; (refine wpList_append_own _ rfl (.tmp 37) (.tmp 39) 58 rfl w2.heap.size 62 i0 (.agg #[.int .i64 0, .int .i64 0, .slice none 0 0]) 3 40 under_rms hi0 hz0 hz1 hz2 rfl (by decide) _ _ _ rfl (HO4.out.alloc _) ⟨w4.heap.size, 0, none⟩ 1 1 (mC (⟨m1, m2, m3⟩, .slice uo m3.length uc)) rfl rfl (cells_ml _ (⟨m1, m2, m3⟩, .slice uo m3.length uc) _ _ rfl) HD2.out.one (by unfold maxLen; omega) (by omega) (by have := HB4.out.size; simp; omega) ?_; intro v5 w5 ho hg _; have HO5 := Lib.hid ho; have HB5 := Lib.hid ((HB4.out.alloc HB4.out.size (mobj 62 (⟨m1, m2, m3⟩, .slice uo m3.length uc))).grown hg (HB4.out.alloc HB4.out.size _).size (fun k hk => (HO4.out.lt k hk).1)); have HB5s := HB5.out.size; have c1 := (HB5.out.cell (p := ⟨a, 1, none⟩) hal).trans HC1.out; clear ho hg))
        | (at_builtin; (refine wpList_append_row9 rfl (.tmp 29) (.tmp 35) 58 rfl w2.heap.size 62 i0 (.agg #[.int .i64 0, .int .i64 0, .slice none 0 0]) 3 40 under_rms hi0 hz0 hz1 hz2 rfl (by decide) _ 0 [] rfl (World.ownsRow_nil _ _ _ _) _ 0 _ (cellsG mC ([] : List MH)) rfl (fun _ => ⟨rfl, rfl⟩) (by rw [length_cellsG mC_len]; have := HLL.out; simp; try omega) (fun ad e => by cases e) (fun u hu => by cases hu) (by unfold maxLen; omega) (by omega) (by first | exact HB4s | exact HB5s) ?_; intro v4 w4 ho hg; have HO4 := Lib.hid ho; have HB4 := Lib.hid ((below1 w2 (mobj 62 (⟨m1, m2, m3⟩, .slice uo m3.length uc))).grown hg (below1 w2 _).size (fun k hk => by cases hk)); have HM4 := Lib.hid (HM.out.tn ((Tn.refl (fun _ => False) _).grown hg (fun k hk => by cases hk)) (fun e => e)); have y0 := HM4.out.c0; have y1 := HM4.out.c1; have y2 := HM4.out.c2; simp only at y0 y1 y2; clear ho hg))
        | fail)
      go_ret
      obtain ⟨⟨C2, g1, g2, g3⟩, g4⟩ := HR2.out.relist HB6.out (L' := ([] : List MH) ++ (⟨m1, m2, m3⟩, .slice uo m3.length uc) :: ([] : List MH)) (l' := l1.take 0 ++ ⟨m1, m2, m3⟩ :: l1.drop 0) (own_cast HO6.out (by have := HLL.out; simp; try omega) (by simp [cellsG])) (Nat.le_refl _) (fun x hx => by
        rcases List.mem_append.1 hx with hx | hx
        · exact HDA.out x (by cases hx)
        · rcases List.mem_cons.1 hx with rfl | hx
          · exact HD2.out
          · exact HDA.out x (by cases hx)) (by rw [← HR2.out.eq]; simp)
      exact ⟨rfl, C2, ⟨_, _, g1⟩, fun k hk => g2 _ (HC2.out k hk), HW2.out.trans g3⟩
    | some ad =>
      obtain ⟨g, c, e⟩ : ∃ g c, (Value.slice (some ad) p cap) = .slice (some ⟨g, 0, none⟩) p c := by
        have := HR2.out.ml.own
        rcases this.2 with ⟨e, _⟩ | ⟨g, c, cur, e, _⟩
        · cases e
        · injection e with e1 e2 e3
          exact ⟨g, c, by rw [e1]; injection e1 with e1; rw [e3]⟩
      injection e with e1 _ e3
      injection e1 with e1
      subst e1 e3
      have hcc : cap = p ∨ ¬ cap = p := Classical.em _
      rcases hcc with hcp | hcp
      all_goals
        have HG4 := Lib.hid (hG.below (below1 w2 (mobj 62 (⟨m1, m2, m3⟩, .slice uo m3.length uc))))
        have HB4s : w2.heap.size ≤ (w2.alloc (mobj 62 (⟨m1, m2, m3⟩, .slice uo m3.length uc))).heap.size := (below1 w2 _).size
        go_wp2_with (first
          | (at_builtin; (refine wpList_append_row9 rfl (.tmp 42) (.tmp 48) 58 rfl w2.heap.size 62 i0 (.agg #[.int .i64 0, .int .i64 0, .slice none 0 0]) 3 40 under_rms hi0 hz0 hz1 hz2 rfl (by decide) _ _ _ rfl HO5.out _ 0 _ (cellsG mC (L.drop p)) rfl (fun e => by cases e) (by rw [length_cellsG mC_len]; have := HLL.out; simp; try omega) (fun ad e j u hu => by rw [List.drop_of_length_le (by rw [HLL.out]; exact Nat.le_refl _)] at hu; simp [cellsG] at hu) (one_ml fun x hx => HDA.out x (List.mem_of_mem_drop hx)) (by unfold maxLen; omega) (by omega) (by first | exact HB4s | exact HB5s) ?_; intro v6 w6 ho hg; simp only [Nat.zero_add, Nat.sub_zero] at ho; have HO6 := Lib.hid ho; have HB6 := Lib.hid (HB5.out.grown hg HB5.out.size (fun k hk => (HO5.out.lt k hk).1)); obtain ⟨o6, k6, e⟩ := own_slice ho; subst e; have c1 := (HB6.out.cell (p := ⟨a, 1, none⟩) hal).trans HC1.out; have f1 := (HB6.out.frozen (p := ⟨a, 1, none⟩) hal).trans HF1.out; clear ho hg))
          | (at_builtin; (refine wpList_append_own _ rfl (.tmp 37) (.tmp 39) 58 rfl w2.heap.size 62 i0 (.agg #[.int .i64 0, .int .i64 0, .slice none 0 0]) 3 40 under_rms hi0 hz0 hz1 hz2 rfl (by decide) _ _ _ rfl (HO4.out.alloc _) ⟨w4.heap.size, 0, none⟩ 1 1 (mC (⟨m1, m2, m3⟩, .slice uo m3.length uc)) rfl rfl (cells_ml _ (⟨m1, m2, m3⟩, .slice uo m3.length uc) _ _ rfl) HD2.out.one (by unfold maxLen; omega) (by omega) (by have := HB4.out.size; simp; omega) ?_; intro v5 w5 ho hg _; have HO5 := Lib.hid ho; have HB5 := Lib.hid ((HB4.out.alloc HB4.out.size (mobj 62 (⟨m1, m2, m3⟩, .slice uo m3.length uc))).grown hg (HB4.out.alloc HB4.out.size _).size (fun k hk => (HO4.out.lt k hk).1)); have HB5s := HB5.out.size; have c1 := (HB5.out.cell (p := ⟨a, 1, none⟩) hal).trans HC1.out; clear ho hg))
          | (at_builtin; (refine wpList_append_row9 rfl (.tmp 29) (.tmp 35) 58 rfl w2.heap.size 62 i0 (.agg #[.int .i64 0, .int .i64 0, .slice none 0 0]) 3 40 under_rms hi0 hz0 hz1 hz2 rfl (by decide) _ 0 [] rfl (World.ownsRow_nil _ _ _ _) _ p _ (cellsG mC (L.take p)) rfl (fun e => by cases e) (by rw [length_cellsG mC_len]; have := HLL.out; simp; try omega) ((HG4.out.take (show p ≤ p by omega)).news mC_len) (one_ml fun x hx => HDA.out x (List.mem_of_mem_take hx)) (by unfold maxLen; omega) (by omega) (by first | exact HB4s | exact HB5s) ?_; intro v4 w4 ho hg; have HO4 := Lib.hid ho; have HB4 := Lib.hid ((below1 w2 (mobj 62 (⟨m1, m2, m3⟩, .slice uo m3.length uc))).grown hg (below1 w2 _).size (fun k hk => by cases hk)); have HM4 := Lib.hid (HM.out.tn ((Tn.refl (fun _ => False) _).grown hg (fun k hk => by cases hk)) (fun e => e)); have y0 := HM4.out.c0; have y1 := HM4.out.c1; have y2 := HM4.out.c2; simp only at y0 y1 y2; clear ho hg))
          | fail)
        go_ret
        obtain ⟨⟨C2, g1, g2, g3⟩, g4⟩ := HR2.out.relist HB6.out (L' := (L.take p) ++ (⟨m1, m2, m3⟩, .slice uo m3.length uc) :: (L.drop p)) (l' := l1.take p ++ ⟨m1, m2, m3⟩ :: l1.drop p) (own_cast HO6.out (by have := HLL.out; simp; try omega) (by simp [cellsG])) (Nat.le_refl _) (fun x hx => by
          rcases List.mem_append.1 hx with hx | hx
          · exact HDA.out x (List.mem_of_mem_take hx)
          · rcases List.mem_cons.1 hx with rfl | hx
            · exact HD2.out
            · exact HDA.out x (List.mem_of_mem_drop hx)) (by rw [← HR2.out.eq]; simp)
        exact ⟨rfl, C2, ⟨_, _, g1⟩, fun k hk => g2 _ (HC2.out k hk), HW2.out.trans g3⟩
end
end Go.Proofs.Ytcgbjpmmbbldpaa
