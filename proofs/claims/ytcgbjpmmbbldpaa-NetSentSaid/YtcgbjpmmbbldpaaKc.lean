/- The net: At; Take where there is none. Conditions: no more than a million mails; bytes as a row holds them. -/
import Derived.Test.YtcgbjpmmbbldpaaKb
import Derived.Test.YtcgbjpmmbbldpaaMf
namespace Go.Proofs.Ytcgbjpmmbbldpaa
open Go.ChangeShapes Go.WideShapes Go.ChangeAt Go.RowKit Go.Deep
abbrev zeroM : Value := magg (⟨0, 0, []⟩, .slice none 0 0)
/-- What At tells: its bytes are new memory. -/
def NTold (w : World) (m : MV) (e : Ending) (w' : World) : Prop :=
  ∃ ao cap, e = .returned (.tuple #[magg (m, .slice ao m.d.length cap), .bool true]) ∧ w'.ownsRow w.heap.size 5 1 (.slice ao m.d.length cap) m.d.length (bys m.d) ∧ Below w.heap.size w w'
theorem load_nm {w : World} {b : Nat} {x : MH} (h : Mx w b x) : (loadVar 40 ⟨b, 0, none⟩).run Try.prog w = .ok (magg x) w := by
  have c0 := h.c0
  have c1 := h.c1
  have c2 := h.c2
  go_simp
theorem res_nm {fn : Func} {p u : Tmp} (h : fn.results = #[.cell p 40, .tmp u]) (tmps : Array Value) {b : Nat} {x : MH} {w : World} (hp : tmps.getD p undef = .pointer (some ⟨b, 0, none⟩)) (hA : Mx w b x) :
    (results fn tmps).run Try.prog w = .ok (.tuple #[magg x, tmps.getD u undef]) w := by
  rw [results_cell_tmp h, hp]
  have hl := load_nm hA
  simp only [asAddr, Sem.run_pure, Result.andThen, hl]
section
variable {C : Nat → Prop} {w w' : World} {a : Nat} {room : Int} {l l' : List MV} {m : MV}
set_option maxRecDepth 100000 in
theorem nat_no (h : NK C w a room l) {i : Int} (hi : hasB l i = false) : Calls Try.prog 13 #[ptr a, .int .i64 i] w fun e w' => e = .returned (.tuple #[zeroM, .bool false]) ∧ Below w.heap.size w w' := by
  have HH := fun w h => Lib.hid (nhas_any (w := w) (a := a) (C := C) (room := room) (l := l) h i)
  simp only [hi] at HH
  have HR := Lib.hid (h.below (below1 w (mobj 40 (⟨0, 0, []⟩, .slice none 0 0))))
  have HX := Lib.hid (mx_new w 40 (⟨0, 0, []⟩, .slice none 0 0))
  have f0 := HX.out.f0; have f1 := HX.out.f1; have f2 := HX.out.f2
  clear h hi
  go_enter Try.func13, Try.ntmps13
  go_wp2_with (go_at_call 32; refine (HH _ HR.out).out.mono ?_; rintro e w1 ⟨rfl, rfl⟩)
  exact bodyPost_ret (res_nm rfl _ rfl HX.out) rfl ⟨rfl, below1 _ _⟩
set_option maxRecDepth 100000 in
theorem ntake_no (h : NK C w a room l) {i : Int} (hi : hasB l i = false) : Calls Try.prog 15 #[ptr a, .int .i64 i] w fun e w' => e = .returned (.tuple #[zeroM, .bool false]) ∧ Below w.heap.size w w' := by
  have HH := fun w h => Lib.hid (nhas_any (w := w) (a := a) (C := C) (room := room) (l := l) h i)
  simp only [hi] at HH
  have HR := Lib.hid (h.below (below1 w (mobj 40 (⟨0, 0, []⟩, .slice none 0 0))))
  have HX := Lib.hid (mx_new w 40 (⟨0, 0, []⟩, .slice none 0 0))
  have f0 := HX.out.f0; have f1 := HX.out.f1; have f2 := HX.out.f2
  clear h hi
  go_enter Try.func15, Try.ntmps15
  go_wp2_with (go_at_call 32; refine (HH _ HR.out).out.mono ?_; rintro e w1 ⟨rfl, rfl⟩)
  exact bodyPost_ret (res_nm rfl _ rfl HX.out) rfl ⟨rfl, below1 _ _⟩
set_option maxRecDepth 100000 in
theorem nat_yes (h : NK C w a room l) {i : Nat} (hi : i < l.length) (hd : l[i].d.length ≤ 100000000) : Calls Try.prog 13 #[ptr a, .int .i64 i] w (NTold w l[i]) := by
  have HH := fun w h => Lib.hid (nhas_any (w := w) (a := a) (C := C) (room := room) (l := l) h i)
  simp only [hasB_of hi] at HH
  have HLT := Lib.hid h.lt
  have HR := Lib.hid (h.below (below1 w (mobj 40 (⟨0, 0, []⟩, .slice none 0 0))))
  have HX := Lib.hid (mx_new w 40 (⟨0, 0, []⟩, .slice none 0 0))
  have f0 := HX.out.f0; have f1 := HX.out.f1; have f2 := HX.out.f2
  have x0 := HX.out.c0; have x1 := HX.out.c1; have x2 := HX.out.c2
  obtain ⟨v, L, hr⟩ := HR.out
  have hk : i < L.length := by rw [hr.len]; exact hi
  have c1 := hr.c1
  obtain ⟨ao, cap, e⟩ := own_slice hr.ml.own
  subst e
  rw [hr.len] at c1
  obtain ⟨g, rfl, hgl, hCg, hm, hda⟩ := hr.ml.at_ hk
  have he := eq_at hr.eq hk hi
  clear hr
  obtain ⟨n, hn⟩ : ∃ n, l.length = n := ⟨_, rfl⟩
  rw [hn] at c1 hi
  generalize L[i] = x at *
  clear hn h hk
  obtain ⟨x, u⟩ := x
  simp only at he
  rw [← he] at hd
  rw [← he]
  clear he
  obtain ⟨uo, uc, e⟩ := own_slice hda.own
  simp only at e
  subst e
  obtain ⟨xf, xt, xd⟩ := x
  simp only at hd
  have HSB := Lib.hid (hda.sb rfl)
  clear hda
  have d0 := hm.c0; have d1 := hm.c1; have d2 := hm.c2
  simp only at d0 d1 d2
  have HY := Lib.hid (mx_new2 w (mobj 40 (⟨0, 0, []⟩, .slice none 0 0)) 40 (⟨xf, xt, xd⟩, .slice uo xd.length uc))
  have HX2 := Lib.hid (HX.out.below (below1 _ (mobj 40 (⟨xf, xt, xd⟩, .slice uo xd.length uc))) HX.out.lt)
  have HSZ : Hid (((w.alloc (mobj 40 (⟨0, 0, []⟩, .slice none 0 0))).alloc (mobj 40 (⟨xf, xt, xd⟩, .slice uo xd.length uc))).heap.size = w.heap.size + 2) := Lib.hid (by simp)
  have HCL := Lib.hid (clone_sb (HSB.out.below (below1 _ (mobj 40 (⟨xf, xt, xd⟩, .slice uo xd.length uc)))) (show xd.length ≤ 140737488355328 by omega))
  have HDL := Lib.hid hd
  clear hd
  go_enter Try.func13, Try.ntmps13
  go_wp2_with (first
    | (go_at_call 32; refine (HH _ HR.out).out.mono ?_; rintro e w1 ⟨rfl, rfl⟩)
    | (go_at_call 33; refine HCL.out.mono ?_; rintro e w3 ⟨vo, vc, rfl, ho, hb⟩; have HO3 := Lib.hid ho; have HB3 := Lib.hid hb; have HX3 := Lib.hid (HX2.out.below hb (by rw [HSZ.out]; omega)); have HY3 := Lib.hid (HY.out.below hb (by rw [HSZ.out]; omega)); clear ho hb; have f0 := HX3.out.f0; have f1 := HX3.out.f1; have f2 := HX3.out.f2; have x0 := HX3.out.c0; have x1 := HX3.out.c1; have x2 := HX3.out.c2; have y0 := HY3.out.c0; have y1 := HY3.out.c1; have y2 := HY3.out.c2; have g2 := HY3.out.f2; simp only at y0 y1 y2 x0 x1 x2))
  have s2 := HSZ.out
  have hb3 : Below w.heap.size w w3 := ((((Below.refl _ w).alloc (Nat.le_refl _) (mobj 40 (⟨0, 0, []⟩, .slice none 0 0))).alloc (by simp) (mobj 40 (⟨xf, xt, xd⟩, .slice uo xd.length uc)))).trans (HB3.out.mono (by omega))
  have hx := HX3.out.tn (tn_set (b := w.heap.size + 1) (i := 2) (Tn.refl _ w3) (.slice vo xd.length vc)) (by omega)
  refine bodyPost_ret (res_nm rfl _ rfl (hx.setAll (⟨xf, xt, xd⟩, .slice vo xd.length vc))) rfl ⟨vo, vc, rfl, ?_, below_set3 (hb3.setCell (p := ⟨w.heap.size + 1, 2, none⟩) (by simp) _) (Nat.le_refl _) _ _ _⟩
  refine own_tn (own_mono HO3.out (by omega)) (S := fun k => k = w.heap.size ∨ k = w.heap.size + 1) (((((Tn.refl _ w3).setCell (p := ⟨w.heap.size + 1, 2, none⟩) (fun _ => .inr rfl) _).setCell (p := ⟨w.heap.size, 0, none⟩) (fun _ => .inl rfl) _).setCell (p := ⟨w.heap.size, 1, none⟩) (fun _ => .inl rfl) _).setCell (p := ⟨w.heap.size, 2, none⟩) (fun _ => .inl rfl) _) (fun k hk => ?_)
  have := (HO3.out.lt k hk).1
  omega
end
end Go.Proofs.Ytcgbjpmmbbldpaa
