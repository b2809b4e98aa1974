/- The document's net (raceref13): Take. Conditions: no more than a million mails. -/
import Derived.Test.YtcgbjpmmbbldpaaMc
namespace Go.Proofs.Ytcgbjpmmbbldpaa
open Go.ChangeShapes Go.WideShapes Go.ChangeAt Go.RowKit Go.Deep
/-- A mail in a block of its own. -/
structure Mx (w : World) (b : Nat) (x : MH) : Prop where
  lt : b < w.heap.size
  c0 : w.cell? ⟨b, 0, none⟩ = some (.int .i64 x.1.f)
  c1 : w.cell? ⟨b, 1, none⟩ = some (.int .i64 x.1.t)
  c2 : w.cell? ⟨b, 2, none⟩ = some x.2
  f0 : w.frozen? ⟨b, 0, none⟩ = false
  f1 : w.frozen? ⟨b, 1, none⟩ = false
  f2 : w.frozen? ⟨b, 2, none⟩ = false
theorem Mx.below {B : Nat} {w w' : World} {b : Nat} {x : MH} (h : Mx w b x) (hb : Below B w w') (hl : b < B) : Mx w' b x :=
  ⟨Nat.lt_of_lt_of_le h.lt hb.size, (hb.cell (p := ⟨b, 0, none⟩) hl).trans h.c0, (hb.cell (p := ⟨b, 1, none⟩) hl).trans h.c1, (hb.cell (p := ⟨b, 2, none⟩) hl).trans h.c2, (hb.frozen (p := ⟨b, 0, none⟩) hl).trans h.f0, (hb.frozen (p := ⟨b, 1, none⟩) hl).trans h.f1, (hb.frozen (p := ⟨b, 2, none⟩) hl).trans h.f2⟩
theorem Mx.tn {S : Nat → Prop} {w w' : World} {b : Nat} {x : MH} (h : Mx w b x) (ht : Tn S w w') (hn : ¬ S b) : Mx w' b x := by
  have hbl := ht.block b h.lt hn
  have hf : ∀ o, w'.frozen? ⟨b, o, none⟩ = w.frozen? ⟨b, o, none⟩ := fun o => by simp only [World.frozen?, hbl]
  exact ⟨Nat.lt_of_lt_of_le h.lt ht.size, ht.cell h.c0 hn, ht.cell h.c1 hn, ht.cell h.c2 hn, (hf 0).trans h.f0, (hf 1).trans h.f1, (hf 2).trans h.f2⟩
abbrev mobj (T : TypeId) (x : MH) : Obj := .cells #[.int .i64 x.1.f, .int .i64 x.1.t, x.2] T
theorem mx_new (w : World) (T : TypeId) (x : MH) : Mx (w.alloc (mobj T x)) w.heap.size x :=
  ⟨by simp, by simp [World.cell?_alloc_new], by simp [World.cell?_alloc_new], by simp [World.cell?_alloc_new], World.frozen?_alloc_new _ _ _ _, World.frozen?_alloc_new _ _ _ _, World.frozen?_alloc_new _ _ _ _⟩
theorem mx_new2 (w : World) (o : Obj) (T : TypeId) (x : MH) : Mx ((w.alloc o).alloc (mobj T x)) (w.heap.size + 1) x := by
  have := mx_new (w.alloc o) T x
  simpa using this
theorem cell_set3 {w : World} {b : Nat} {x y z x' y' z' : Value} (h0 : w.cell? ⟨b, 0, none⟩ = some x) (h1 : w.cell? ⟨b, 1, none⟩ = some y) (h2 : w.cell? ⟨b, 2, none⟩ = some z) :
    (((w.setCell ⟨b, 0, none⟩ x').setCell ⟨b, 1, none⟩ y').setCell ⟨b, 2, none⟩ z').cell? ⟨b, 0, none⟩ = some x' ∧ (((w.setCell ⟨b, 0, none⟩ x').setCell ⟨b, 1, none⟩ y').setCell ⟨b, 2, none⟩ z').cell? ⟨b, 1, none⟩ = some y' ∧
      (((w.setCell ⟨b, 0, none⟩ x').setCell ⟨b, 1, none⟩ y').setCell ⟨b, 2, none⟩ z').cell? ⟨b, 2, none⟩ = some z' := by
  have n10 : (⟨b, 1, none⟩ : Addr) ≠ ⟨b, 0, none⟩ := by simp
  have n20 : (⟨b, 2, none⟩ : Addr) ≠ ⟨b, 0, none⟩ := by simp
  have n21 : (⟨b, 2, none⟩ : Addr) ≠ ⟨b, 1, none⟩ := by simp
  refine ⟨?_, ?_, ?_⟩
  · rw [World.cell?_setCell_other (h := n20), World.cell?_setCell_other (h := n10), World.cell?_setCell_same (h := h0)]
  · rw [World.cell?_setCell_other (h := n21), World.cell?_setCell_same (u := y) (h := by rw [World.cell?_setCell_other (h := n10.symm)]; exact h1)]
  · rw [World.cell?_setCell_same (u := z) (h := by rw [World.cell?_setCell_other (h := n21.symm), World.cell?_setCell_other (h := n20.symm)]; exact h2)]
theorem Mx.setAll {w : World} {b : Nat} {x : MH} (h : Mx w b x) (y : MH) : Mx (((w.setCell ⟨b, 0, none⟩ (.int .i64 y.1.f)).setCell ⟨b, 1, none⟩ (.int .i64 y.1.t)).setCell ⟨b, 2, none⟩ y.2) b y := by
  obtain ⟨a, b, c⟩ := cell_set3 (x' := .int .i64 y.1.f) (y' := .int .i64 y.1.t) (z' := y.2) h.c0 h.c1 h.c2
  refine ⟨by simpa using h.lt, a, b, c, ?_, ?_, ?_⟩
  · simpa using h.f0
  · simpa using h.f1
  · simpa using h.f2
theorem below_set3 {B : Nat} {w w' : World} {b : Nat} (h : Below B w w') (hb : B ≤ b) (x y z : Value) : Below B w (((w'.setCell ⟨b, 0, none⟩ x).setCell ⟨b, 1, none⟩ y).setCell ⟨b, 2, none⟩ z) :=
  ((h.setCell (p := ⟨b, 0, none⟩) hb x).setCell (p := ⟨b, 1, none⟩) hb y).setCell (p := ⟨b, 2, none⟩) hb z
theorem load_rm {w : World} {b : Nat} {x : MH} (h : Mx w b x) : (loadVar 62 ⟨b, 0, none⟩).run Try.prog w = .ok (magg x) w := by
  have c0 := h.c0
  have c1 := h.c1
  have c2 := h.c2
  go_simp
theorem res_rm {fn : Func} {p u : Tmp} (h : fn.results = #[.cell p 62, .tmp u]) (tmps : Array Value) {b : Nat} {x : MH} {w : World} (hp : tmps.getD p undef = .pointer (some ⟨b, 0, none⟩)) (hA : Mx w b x) :
    (results fn tmps).run Try.prog w = .ok (.tuple #[magg x, tmps.getD u undef]) w := by
  rw [results_cell_tmp h, hp]
  have hl := load_rm hA
  simp only [asAddr, Sem.run_pure, Result.andThen, hl]
section
variable {C : Nat → Prop} {w w' : World} {a : Nat} {room : Int} {l l' : List MV} {m : MV}
theorem eq_at {L : List MH} (h : L.map (·.1) = l) {k : Nat} (hk : k < L.length) (hk2 : k < l.length) : L[k].1 = l[k] := by subst h; simp
/-- What Take tells, and leaves. -/
def RTook (C : Nat → Prop) (w : World) (a : Nat) (room : Int) (l' : List MV) (m : MV) (e : Ending) (w' : World) : Prop :=
  ∃ u, e = .returned (.tuple #[magg (m, u), .bool true]) ∧ ∃ C', RN C' w' a room l' ∧ DA C' w' (m, u) ∧ (∀ k, C k → C' k) ∧ Way C w C' w'
set_option maxRecDepth 100000 in
theorem rtake_no (h : RN C w a room l) {i : Int} (hi : hasB l i = false) : Calls Try.prog 26 #[ptr a, .int .i64 i] w fun e w' => e = .returned (.tuple #[magg (⟨0, 0, []⟩, .slice none 0 0), .bool false]) ∧ Below w.heap.size w w' := by
  have HH := fun w h => Lib.hid (rhas_any (w := w) (a := a) (C := C) (room := room) (l := l) h i)
  simp only [hi] at HH
  have HR := Lib.hid (h.below (below1 w (mobj 62 (⟨0, 0, []⟩, .slice none 0 0))))
  have HX := Lib.hid (mx_new w 62 (⟨0, 0, []⟩, .slice none 0 0))
  have f0 := HX.out.f0; have f1 := HX.out.f1; have f2 := HX.out.f2
  clear h hi
  go_enter Try.func26, Try.ntmps26
  go_wp2_with (go_at_call 31; refine (HH _ HR.out).out.mono ?_; rintro e w1 ⟨rfl, rfl⟩)
  exact bodyPost_ret (res_rm rfl _ rfl HX.out) rfl ⟨rfl, below1 _ _⟩
set_option maxRecDepth 100000 in
theorem rtake_yes (h : RN C w a room l) {i : Nat} (hi : i < l.length) (hl : l.length ≤ 1000000) : Calls Try.prog 26 #[ptr a, .int .i64 i] w (RTook C w a room (l.eraseIdx i) l[i]) := by
  have HH := fun w h => Lib.hid (rhas_any (w := w) (a := a) (C := C) (room := room) (l := l) h i)
  simp only [hasB_of hi] at HH
  have HD := fun w h => Lib.hid (rdrop_any (w := w) (a := a) (C := C) (room := room) (l := l) h i hl)
  have haw := h.lt a h.ca
  have HLT := Lib.hid h.lt
  have HR := Lib.hid (h.below (below1 w (mobj 62 (⟨0, 0, []⟩, .slice none 0 0))))
  have HX := Lib.hid (mx_new w 62 (⟨0, 0, []⟩, .slice none 0 0))
  have f0 := HX.out.f0; have f1 := HX.out.f1; have f2 := HX.out.f2
  have x0 := HX.out.c0; have x1 := HX.out.c1; have x2 := HX.out.c2
  obtain ⟨v, L, hr⟩ := HR.out
  have hk : i < L.length := by rw [hr.len]; exact hi
  have c1 := hr.c1
  obtain ⟨ao, cap, e⟩ := own_slice hr.ml.own
  subst e
  rw [hr.len] at c1
  obtain ⟨g, rfl, hgl, hCg, hm, hda⟩ := hr.ml.at_ hk
  have he := eq_at hr.eq hk hi
  have hne := hda.ne hr.box (by decide)
  have ha := hr.alt
  clear hr
  obtain ⟨n, hn⟩ : ∃ n, l.length = n := ⟨_, rfl⟩
  rw [hn] at c1 hi
  generalize L[i] = x at *
  clear hn hl h hk
  obtain ⟨x, u⟩ := x
  simp only at he
  rw [← he]
  clear he
  obtain ⟨uo, uc, e⟩ := own_slice hda.own
  simp only at e
  subst e
  obtain ⟨xf, xt, xd⟩ := x
  have HDA := Lib.hid hda
  have HNE := Lib.hid hne
  clear hda hne
  have d0 := hm.c0; have d1 := hm.c1; have d2 := hm.c2
  simp only at d0 d1 d2
  go_enter Try.func26, Try.ntmps26
  go_wp2_with (first
    | (go_at_call 31; refine (HH _ HR.out).out.mono ?_; rintro e w1 ⟨rfl, rfl⟩)
    | (go_at_call 34; refine (HD _ (HR.out.below (below1 _ _))).out.mono ?_; rintro e w3 ⟨rfl, ⟨C', h1, h2, h3⟩, h4⟩; have HN3 := Lib.hid h1; have HU3 := Lib.hid h2; have HW3 := Lib.hid h3; have HX3 := Lib.hid ((HX.out.below (below1 _ _) HX.out.lt).tn h4 (by omega)); have HY3 := Lib.hid ((mx_new2 w (mobj 62 (⟨0, 0, []⟩, .slice none 0 0)) 62 (⟨xf, xt, xd⟩, .slice uo xd.length uc)).tn h4 (by omega)); have HD3 := Lib.hid ((HDA.out.below (below1 _ _)).tn h4 HNE.out); clear h1 h2 h3 h4; have f0 := HX3.out.f0; have f1 := HX3.out.f1; have f2 := HX3.out.f2; have x0 := HX3.out.c0; have x1 := HX3.out.c1; have x2 := HX3.out.c2; have y0 := HY3.out.c0; have y1 := HY3.out.c1; have y2 := HY3.out.c2; simp only at y0 y1 y2 x0 x1 x2))
  have hC : ∀ k, C' k → ¬ k = w.heap.size := fun k hk e => by
    rcases HW3.out.new k hk with h | h
    · have := HLT.out k h; omega
    · simp at h; omega
  have ht : Tn (· = w.heap.size) w3 (((w3.setCell ⟨w.heap.size, 0, none⟩ (.int .i64 xf)).setCell ⟨w.heap.size, 1, none⟩ (.int .i64 xt)).setCell ⟨w.heap.size, 2, none⟩ (.slice uo xd.length uc)) := tn_set (tn_set (tn_set (Tn.refl _ _) _) _) _
  have hD := HD3.out
  have hw : Way C w C' w3 := ((Way.of_below (C := C) (below1 w (mobj 62 (⟨0, 0, []⟩, .slice none 0 0)))).below (below1 _ _)).trans HW3.out
  refine bodyPost_ret (res_rm rfl _ rfl (HX3.out.setAll (⟨xf, xt, xd⟩, .slice uo xd.length uc))) rfl ⟨_, rfl, C', HN3.out.tn ht hC, ⟨own_tn hD.own ht (fun k hk e => hC k (HU3.out k (hD.row k hk)) e), fun k hk => HU3.out k (hD.row k hk)⟩, HU3.out, hw.tn.trans ht (fun k hk e => by omega), fun k hk => ?_⟩
  rcases hw.new k hk with h | h
  · exact .inl h
  · exact .inr (by simpa using h)
end
end Go.Proofs.Ytcgbjpmmbbldpaa
