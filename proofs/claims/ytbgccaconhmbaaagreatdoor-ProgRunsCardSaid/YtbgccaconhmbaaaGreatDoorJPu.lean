/- prog.parseStep. Conditions: the table of steps lies whole; words of no more than 20000 bytes. prog.split. Conditions: fewer than 2^31 bytes. prog.Parse. Conditions: no more than 20000 bytes; the table of steps lies whole. prog.printStep, prog.Print. Conditions: numbers of 64 bits; the tables hold what their initialisers lay. prog.Print. Conditions: steps as Go has them; the tables hold what their initialisers lay; the text has fewer than 2^47 bytes. What the chapter's example fixes: racelaw9.first answers true. Conditions: the tables hold what their initialisers lay. racelaw9.Few: how many bytes a program's steps bear. Conditions: steps as Go has them. raceref.Writes. Conditions: none. raceref.few, raceref.WeighSeen, racelaw9.fewSeen. Conditions: texts as Go has them. racelaw9.has: is a text in a list? Reads and Names as rows of keys. Conditions: no more than a million steps. raceref.CopyOps. Conditions: no more than a million steps. raceref.One, raceref.Seen, raceref.CopySeen. Conditions: CopySeen: no more than a million. raceref.Ops. Conditions: none. raceref.Texts. Conditions: none. -/
import Derived.Test.YtbgccaconhmbaaaGreatDoorJCd
import Derived.Test.YtbgccaconhmbaaaGreatDoorJRw
import Derived.Test.YtbgccaconhmbaaaGreatDoorJPr
import Derived.Test.YtbgccaconhmbaaaGreatDoorJQu
import Derived.Test.YtbgccaconhmbaaaGreatDoorJSaid
import Derived.Laws.Concat
import Derived.BigQuiet
namespace Go.Proofs.YtbgccaconhmbaaaGreatDoor
open Go.ChangeShapes Go.WideShapes Go.ChangeAt Go.RowKit Go.Deep
def OpV.zero : OpV := ⟨0, [], DV.none⟩
/-- The step that the words begin with, how many words it has, its error. -/
def psV (ws : List Nm) : OpV × Nat × Int :=
  match ws with
  | [] => (OpV.zero, 0, 0)
  | x :: l =>
    if codeV x = 0 then (OpV.zero, 0, 7)
    else if nmsC (codeV x) = 0 then (⟨codeV x, [], DV.none⟩, 1, 0)
    else match l with
      | [] => (OpV.zero, 0, 5)
      | y :: _ => if nmsC (codeV x) = 1 then (⟨codeV x, (pkV y).1, DV.none⟩, 2, (pkV y).2) else (⟨codeV x, [], (dparseV y).1⟩, 2, (dparseV y).2)
/-- A step in a block that may be written. -/
def OW (w : World) (b : Nat) (r : OpV) : Prop := w.heap[b]? = some (oobj r)
theorem ow_new (w : World) (r : OpV) : OW (w.alloc (oobj r)) w.heap.size r := heap_alloc_new w _
abbrev ozero : Obj := .cells #[.int .i64 0, .string ⟨#[]⟩, .int .i64 0, .float .f64 0, .string ⟨#[]⟩] 59
theorem ow_zero (w : World) : OW (w.alloc ozero) w.heap.size OpV.zero := ow_new w OpV.zero
theorem OW.lt {w : World} {b : Nat} {r : OpV} (h : OW w b r) : b < w.heap.size := (Array.getElem?_eq_some_iff.1 h).1
theorem OW.below {w w' : World} {b : Nat} {r : OpV} (h : OW w b r) (hb : Below w.heap.size w w') : OW w' b r := (hb.block _ h.lt).trans h
theorem OW.box {w : World} {b : Nat} {r : OpV} (h : OW w b r) : OBox w b r := ⟨h.lt, cell_box h rfl, cell_box h rfl, cell_box h rfl, cell_box h rfl, cell_box h rfl⟩
theorem OW.fz {w : World} {b : Nat} {r : OpV} (h : OW w b r) (o : Nat) : w.frozen? ⟨b, o, none⟩ = false := by
  unfold OW at h
  simp [World.frozen?, h]
theorem heap_set {w : World} {b o : Nat} {cs : Array Value} {t : TypeId} {u : Value} (h : w.heap[b]? = some (.cells cs t (0, 0))) : (w.setCell ⟨b, o, none⟩ u).heap[b]? = some (.cells (cs.setIfInBounds o u) t (0, 0)) := heap_setCell_same w b o cs t u h
theorem OW.set {w : World} {b : Nat} {r : OpV} (h : OW w b r) (q : OpV) : OW (((((w.setCell ⟨b, 0, none⟩ (.int .i64 q.c)).setCell ⟨b, 1, none⟩ (.string ⟨q.key.toArray⟩)).setCell ⟨b, 2, none⟩ (.int .i64 q.v.k)).setCell ⟨b, 3, none⟩ (.float .f64 q.v.x)).setCell ⟨b, 4, none⟩ (.string ⟨q.v.s.toArray⟩)) b q :=
  heap_set (heap_set (heap_set (heap_set (heap_set h))))
theorem OW.setC {w : World} {b : Nat} {r : OpV} (h : OW w b r) (c : Int) : OW (w.setCell ⟨b, 0, none⟩ (.int .i64 c)) b { r with c := c } := heap_set h
theorem OW.setK {w : World} {b : Nat} {r : OpV} (h : OW w b r) (k : Nm) : OW (w.setCell ⟨b, 1, none⟩ (.string ⟨k.toArray⟩)) b { r with key := k } := heap_set h
theorem OW.setV {w : World} {b : Nat} {r : OpV} (h : OW w b r) (v : DV) : OW (((w.setCell ⟨b, 2, none⟩ (.int .i64 v.k)).setCell ⟨b, 3, none⟩ (.float .f64 v.x)).setCell ⟨b, 4, none⟩ (.string ⟨v.s.toArray⟩)) b { r with v := v } := heap_set (heap_set (heap_set h))
theorem below_set5 {B : Nat} {w w' : World} {b : Nat} (h : Below B w w') (hb : B ≤ b) (x0 x1 x2 x3 x4 : Value) : Below B w (((((w'.setCell ⟨b, 0, none⟩ x0).setCell ⟨b, 1, none⟩ x1).setCell ⟨b, 2, none⟩ x2).setCell ⟨b, 3, none⟩ x3).setCell ⟨b, 4, none⟩ x4) :=
  ((((h.setCell (p := ⟨b, 0, none⟩) hb x0).setCell (p := ⟨b, 1, none⟩) hb x1).setCell (p := ⟨b, 2, none⟩) hb x2).setCell (p := ⟨b, 3, none⟩) hb x3).setCell (p := ⟨b, 4, none⟩) hb x4
theorem load_ob {w : World} {b : Nat} {r : OpV} (h : OBox w b r) : (loadVar 59 ⟨b, 0, none⟩).run Tryz.prog w = .ok (oagg r) w := by
  have c0 := h.c0; have c1 := h.c1; have c2 := h.c2; have c3 := h.c3; have c4 := h.c4
  go_simp
theorem res_step {tmps : Array Value} {b : Nat} {r : OpV} {w : World} (hp : tmps.getD 2 undef = .pointer (some ⟨b, 0, none⟩)) (hA : OBox w b r) {n e : Value} (hn : tmps.getD 3 undef = n) (he : tmps.getD 4 undef = e) :
    (results Tryz.f54 tmps).run Tryz.prog w = .ok (.tuple #[oagg r, n, e]) w := by
  have c0 := hA.c0; have c1 := hA.c1; have c2 := hA.c2; have c3 := hA.c3; have c4 := hA.c4
  simp only [Array.getD_eq_getD_getElem?] at hp hn he
  simp only [results, Tryz.results54]
  simp [Result.andThen, hp, hn, he, asAddr, go_sem, c0, c1, c2, c3, c4]
theorem bool_ok {n : Nat} (h1 : 1 ≤ n) (h2 : n < 16) : okC (n : Int) = true := by
  unfold okC
  rw [decide_eq_true (by omega), decide_eq_true (by omega)]; rfl
section
variable {P : Nat → Prop} {w : World} {v : Value} {x : Nm} {l : List Nm}
set_option maxRecDepth 100000 in
set_option maxHeartbeats 4000000 in
theorem ps_kind (hv : HasS P w v (x :: l)) (hT : Stb w) (h0 : codeV x = 0) :
    Calls Tryz.prog 54 #[v] w fun e w' => e = .returned (.tuple #[oagg OpV.zero, .int .i64 0, .int .i64 7]) ∧ Below w.heap.size w w' := by
  obtain ⟨ao, cap, rfl, _, _, _, h4⟩ := hv
  obtain ⟨b, o, rfl, _, hb, hc⟩ := h4.resolve_left (by simp)
  have c0 := (hc 0 (by simp)) 0 _ rfl
  simp only [Nat.zero_mul, Nat.add_zero, List.getElem_cons_zero] at c0
  have HOW := Lib.hid (ow_zero w)
  have H1 := Lib.hid (below1 w (ozero))
  have hc0 := (H1.out.cell (p := ⟨b, o, none⟩) hb).trans c0
  have HC := Lib.hid (codeOf_any x (w.alloc (ozero)) (hT.below H1.out))
  rw [h0] at HC
  have hN : ∀ w, Hid (Calls Tryz.prog 38 #[.int .i64 0] w fun e w' => e = .returned (.tuple #[sagg SV.zero, .bool false]) ∧ Below w.heap.size w w') := fun w => Lib.hid (stepOf_no (c := 0) (by decide) w)
  have hst := run_stf
  clear hc h4 hT c0
  go_enter Tryz.func54, Tryz.ntmps54
  go_wp2_with (first
    | (go_at_call 94; refine HC.out.mono ?_; rintro e w1 ⟨rfl, hb1⟩; have HO1 := Lib.hid (HOW.out.below hb1); have HB1 := Lib.hid (H1.out.trans (hb1.mono H1.out.size)); clear hb1)
    | (go_at_call 38; refine (hN _).out.mono ?_; rintro e w2 ⟨rfl, hb2⟩; have HO2 := Lib.hid ((HO1.out.below hb2).below (below1 _ (sobj SV.zero))); have HB2 := Lib.hid ((HB1.out.trans (hb2.mono HB1.out.size)).trans ((below1 w2 (sobj SV.zero)).mono (HB1.out.trans (hb2.mono HB1.out.size)).size)); have d0 := HO2.out.box.c0; have d1 := HO2.out.box.c1; have d2 := HO2.out.box.c2; have d3 := HO2.out.box.c3; have d4 := HO2.out.box.c4; have e0 := HO2.out.fz 0; have e1 := HO2.out.fz 1; have e2 := HO2.out.fz 2; have e3 := HO2.out.fz 3; have e4 := HO2.out.fz 4; clear hb2))
  exact bodyPost_ret (res_step rfl (HO2.out.set OpV.zero).box rfl rfl) rfl ⟨rfl, below_set5 HB2.out (Nat.le_refl _) _ _ _ _ _⟩
set_option maxRecDepth 100000 in
set_option maxHeartbeats 4000000 in
theorem ps_plain (hv : HasS P w v (x :: l)) (hT : Stb w) {n : Nat} (h0 : codeV x = n) (h1 : 1 ≤ n) (h2 : n < 16) (hm : nmsC (n : Int) = 0) :
    Calls Tryz.prog 54 #[v] w fun e w' => e = .returned (.tuple #[oagg ⟨n, [], DV.none⟩, .int .i64 1, .int .i64 0]) ∧ Below w.heap.size w w' := by
  obtain ⟨ao, cap, rfl, _, _, _, h4⟩ := hv
  obtain ⟨b, o, rfl, _, hb, hc⟩ := h4.resolve_left (by simp)
  have c0 := (hc 0 (by simp)) 0 _ rfl
  simp only [Nat.zero_mul, Nat.add_zero, List.getElem_cons_zero] at c0
  have HOW := Lib.hid (ow_zero w)
  have H1 := Lib.hid (below1 w ozero)
  have hc0 := (H1.out.cell (p := ⟨b, o, none⟩) hb).trans c0
  have HT := Lib.hid (hT.below H1.out)
  have HC := Lib.hid (codeOf_any x (w.alloc ozero) HT.out)
  rw [h0] at HC
  have hN := fun w (hS : Stp w) => Lib.hid (stepOf_ok h1 h2 w hS)
  have e : SV.at n = ⟨wordC n, 0, (popC n : Nat), (pushC n : Nat)⟩ := by unfold SV.at; rw [hm]
  rw [e] at hN
  generalize wordC n = q0 at *
  generalize ((popC n : Nat) : Int) = q2 at *
  generalize ((pushC n : Nat) : Int) = q3 at *
  have hst := run_stf
  clear hc h4 hT c0 e
  go_enter Tryz.func54, Tryz.ntmps54
  go_wp2_with (first
    | (go_at_call 94; refine HC.out.mono ?_; rintro e w1 ⟨rfl, hb1⟩; have HO1 := Lib.hid (HOW.out.below hb1); have HT1 := Lib.hid (HT.out.below hb1); have HB1 := Lib.hid (H1.out.trans (hb1.mono H1.out.size)); clear hb1)
    | (go_at_call 38; refine (hN _ HT1.out.stp).out.mono ?_; rintro e w2 ⟨rfl, hb2⟩; have HO2 := Lib.hid (((HO1.out.below hb2).below (below1 _ (sobj ⟨q0, 0, q2, q3⟩))).setC n); have HB2 := Lib.hid (((HB1.out.trans (hb2.mono HB1.out.size)).trans ((below1 w2 (sobj ⟨q0, 0, q2, q3⟩)).mono (HB1.out.trans (hb2.mono HB1.out.size)).size)).setCell (p := ⟨w.heap.size, 0, none⟩) (Nat.le_refl _) (.int .i64 n)); have HO0 := Lib.hid ((HO1.out.below hb2).below (below1 _ (sobj ⟨q0, 0, q2, q3⟩))); have d0 := HO0.out.box.c0; have e0 := HO0.out.fz 0; have s0 := HO2.out.box.c0; have s1 := HO2.out.box.c1; have s2 := HO2.out.box.c2; have s3 := HO2.out.box.c3; have s4 := HO2.out.box.c4; have z0 := HO2.out.fz 0; have z1 := HO2.out.fz 1; have z2 := HO2.out.fz 2; have z3 := HO2.out.fz 3; have z4 := HO2.out.fz 4; clear hb2))
  exact bodyPost_ret (res_step rfl (HO2.out.set ⟨n, [], DV.none⟩).box rfl rfl) rfl ⟨rfl, below_set5 HB2.out (Nat.le_refl _) _ _ _ _ _⟩
set_option maxRecDepth 100000 in
set_option maxHeartbeats 4000000 in
theorem ps_short (hv : HasS P w v [x]) (hT : Stb w) {n : Nat} (h0 : codeV x = n) (h1 : 1 ≤ n) (h2 : n < 16) {m : Int} (hm : nmsC (n : Int) = m) (hm0 : m ≠ 0) :
    Calls Tryz.prog 54 #[v] w fun e w' => e = .returned (.tuple #[oagg OpV.zero, .int .i64 0, .int .i64 5]) ∧ Below w.heap.size w w' := by
  obtain ⟨ao, cap, rfl, _, _, _, h4⟩ := hv
  obtain ⟨b, o, rfl, _, hb, hc⟩ := h4.resolve_left (by simp)
  have c0 := (hc 0 (by simp)) 0 _ rfl
  simp only [Nat.zero_mul, Nat.add_zero, List.getElem_cons_zero] at c0
  have HOW := Lib.hid (ow_zero w)
  have H1 := Lib.hid (below1 w ozero)
  have hc0 := (H1.out.cell (p := ⟨b, o, none⟩) hb).trans c0
  have HT := Lib.hid (hT.below H1.out)
  have HC := Lib.hid (codeOf_any x (w.alloc ozero) HT.out)
  rw [h0] at HC
  have hN := fun w (hS : Stp w) => Lib.hid (stepOf_ok h1 h2 w hS)
  have e : SV.at n = ⟨wordC n, m, (popC n : Nat), (pushC n : Nat)⟩ := by unfold SV.at; rw [hm]
  rw [e] at hN
  generalize wordC n = q0 at *
  generalize ((popC n : Nat) : Int) = q2 at *
  generalize ((pushC n : Nat) : Int) = q3 at *
  have hst := run_stf
  have hm1 : (m == 0) = false := by simpa using hm0
  clear hc h4 hT c0 e hm0
  go_enter Tryz.func54, Tryz.ntmps54
  go_wp2_with (first
    | (go_at_call 94; refine HC.out.mono ?_; rintro e w1 ⟨rfl, hb1⟩; have HO1 := Lib.hid (HOW.out.below hb1); have HT1 := Lib.hid (HT.out.below hb1); have HB1 := Lib.hid (H1.out.trans (hb1.mono H1.out.size)); clear hb1)
    | (go_at_call 38; refine (hN _ HT1.out.stp).out.mono ?_; rintro e w2 ⟨rfl, hb2⟩; have HO2 := Lib.hid (((HO1.out.below hb2).below (below1 _ (sobj ⟨q0, m, q2, q3⟩))).setC n); have HB2 := Lib.hid (((HB1.out.trans (hb2.mono HB1.out.size)).trans ((below1 w2 (sobj ⟨q0, m, q2, q3⟩)).mono (HB1.out.trans (hb2.mono HB1.out.size)).size)).setCell (p := ⟨w.heap.size, 0, none⟩) (Nat.le_refl _) (.int .i64 n)); have HO0 := Lib.hid ((HO1.out.below hb2).below (below1 _ (sobj ⟨q0, m, q2, q3⟩))); have d0 := HO0.out.box.c0; have e0 := HO0.out.fz 0; have s0 := HO2.out.box.c0; have s1 := HO2.out.box.c1; have s2 := HO2.out.box.c2; have s3 := HO2.out.box.c3; have s4 := HO2.out.box.c4; have z0 := HO2.out.fz 0; have z1 := HO2.out.fz 1; have z2 := HO2.out.fz 2; have z3 := HO2.out.fz 3; have z4 := HO2.out.fz 4; clear hb2))
  exact bodyPost_ret (res_step rfl (HO2.out.set OpV.zero).box rfl rfl) rfl ⟨rfl, below_set5 HB2.out (Nat.le_refl _) _ _ _ _ _⟩
set_option maxRecDepth 100000 in
set_option maxHeartbeats 4000000 in
theorem ps_key {y : Nm} (hv : HasS P w v (x :: y :: l)) (hT : Stb w) {n : Nat} (h0 : codeV x = n) (h1 : 1 ≤ n) (h2 : n < 16) (hm : nmsC (n : Int) = 1) (hy : y.length ≤ 20000) :
    Calls Tryz.prog 54 #[v] w fun e w' => e = .returned (.tuple #[oagg ⟨n, (pkV y).1, DV.none⟩, .int .i64 2, .int .i64 (pkV y).2]) ∧ Below w.heap.size w w' := by
  obtain ⟨ao, cap, rfl, _, _, _, h4⟩ := hv
  obtain ⟨b, o, rfl, _, hb, hc⟩ := h4.resolve_left (by simp)
  have c0 := (hc 0 (by simp)) 0 _ rfl
  simp only [Nat.zero_mul, Nat.add_zero, List.getElem_cons_zero] at c0
  have c1 := (hc 1 (by simp)) 0 _ rfl
  simp only [Nat.one_mul, Nat.add_zero, List.getElem_cons_succ, List.getElem_cons_zero] at c1
  have HOW := Lib.hid (ow_zero w)
  have H1 := Lib.hid (below1 w ozero)
  have hc0 := (H1.out.cell (p := ⟨b, o, none⟩) hb).trans c0
  have hc1 := (H1.out.cell (p := ⟨b, o + 1, none⟩) hb).trans c1
  have HT := Lib.hid (hT.below H1.out)
  have HK := fun w => Lib.hid (parseKey_any ⟨y.toArray⟩ (by rw [Lib.size_eq]; exact Nat.le_trans hy (by decide)) w)
  rw [show (⟨y.toArray⟩ : ByteArray).data.toList = y from rfl] at HK
  generalize pkV y = K at *
  obtain ⟨k1, k2⟩ := K
  simp only at HK ⊢
  have HC := Lib.hid (codeOf_any x (w.alloc ozero) HT.out)
  rw [h0] at HC
  have hN := fun w (hS : Stp w) => Lib.hid (stepOf_ok h1 h2 w hS)
  have e : SV.at n = ⟨wordC n, 1, (popC n : Nat), (pushC n : Nat)⟩ := by unfold SV.at; rw [hm]
  rw [e] at hN
  generalize wordC n = q0 at *
  generalize ((popC n : Nat) : Int) = q2 at *
  generalize ((pushC n : Nat) : Int) = q3 at *
  have hst := run_stf
  clear hc h4 hT c0 c1 e
  go_enter Tryz.func54, Tryz.ntmps54
  go_wp2_with (first
    | (go_at_call 94; refine HC.out.mono ?_; rintro e w1 ⟨rfl, hb1⟩; have HO1 := Lib.hid (HOW.out.below hb1); have HT1 := Lib.hid (HT.out.below hb1); have HB1 := Lib.hid (H1.out.trans (hb1.mono H1.out.size)); have hc2 := (hb1.cell (p := ⟨b, o + 1, none⟩) (Nat.lt_of_lt_of_le hb H1.out.size)).trans hc1; clear hb1)
    | (go_at_call 38; refine (hN _ HT1.out.stp).out.mono ?_; rintro e w2 ⟨rfl, hb2⟩; have HO2 := Lib.hid (((HO1.out.below hb2).below (below1 _ (sobj ⟨q0, 1, q2, q3⟩))).setC n); have HB2 := Lib.hid (((HB1.out.trans (hb2.mono HB1.out.size)).trans ((below1 w2 (sobj ⟨q0, 1, q2, q3⟩)).mono (HB1.out.trans (hb2.mono HB1.out.size)).size)).setCell (p := ⟨w.heap.size, 0, none⟩) (Nat.le_refl _) (.int .i64 n)); have HO0 := Lib.hid ((HO1.out.below hb2).below (below1 _ (sobj ⟨q0, 1, q2, q3⟩))); have d0 := HO0.out.box.c0; have e0 := HO0.out.fz 0; have s0 := HO2.out.box.c0; have s1 := HO2.out.box.c1; have s2 := HO2.out.box.c2; have s3 := HO2.out.box.c3; have s4 := HO2.out.box.c4; have z0 := HO2.out.fz 0; have z1 := HO2.out.fz 1; have z2 := HO2.out.fz 2; have z3 := HO2.out.fz 3; have z4 := HO2.out.fz 4; have hc3 := (hb2.cell (p := ⟨b, o + 1, none⟩) (Nat.lt_of_lt_of_le hb HB1.out.size)).trans hc2; have hc4 := ((below1 _ (sobj ⟨q0, 1, q2, q3⟩)).cell (p := ⟨b, o + 1, none⟩) (Nat.lt_of_lt_of_le hb (Nat.le_trans HB1.out.size hb2.size))).trans hc3; clear hb2)
    | (go_at_call 95; refine (HK _).out.mono ?_; rintro e w3 ⟨rfl, hb3⟩; have HO3 := Lib.hid (HO2.out.below hb3); have HB3 := Lib.hid (HB2.out.trans (hb3.mono HB2.out.size)); have HO4 := Lib.hid (HO3.out.setK k1); have HB4 := Lib.hid (HB3.out.setCell (p := ⟨w.heap.size, 1, none⟩) (Nat.le_refl _) (.string ⟨k1.toArray⟩)); have g1 := HO3.out.box.c1; have e1 := HO3.out.fz 1; have t0 := HO4.out.box.c0; have t1 := HO4.out.box.c1; have t2 := HO4.out.box.c2; have t3 := HO4.out.box.c3; have t4 := HO4.out.box.c4; have y0 := HO4.out.fz 0; have y1 := HO4.out.fz 1; have y2 := HO4.out.fz 2; have y3 := HO4.out.fz 3; have y4 := HO4.out.fz 4; clear hb3 s0 s1 s2 s3 s4 z0 z1 z2 z3 z4 d0 e0))
  exact bodyPost_ret (res_step rfl (HO4.out.set ⟨n, k1, DV.none⟩).box rfl rfl) rfl ⟨rfl, below_set5 HB4.out (Nat.le_refl _) _ _ _ _ _⟩
set_option maxRecDepth 100000 in
set_option maxHeartbeats 4000000 in
theorem ps_value {y : Nm} (hv : HasS P w v (x :: y :: l)) (hT : Stb w) {n : Nat} (h0 : codeV x = n) (h1 : 1 ≤ n) (h2 : n < 16) (hm : nmsC (n : Int) = 2) (hy : y.length ≤ 20000) :
    Calls Tryz.prog 54 #[v] w fun e w' => e = .returned (.tuple #[oagg ⟨n, [], (dparseV y).1⟩, .int .i64 2, .int .i64 (dparseV y).2]) ∧ Below w.heap.size w w' := by
  obtain ⟨ao, cap, rfl, _, _, _, h4⟩ := hv
  obtain ⟨b, o, rfl, _, hb, hc⟩ := h4.resolve_left (by simp)
  have c0 := (hc 0 (by simp)) 0 _ rfl
  simp only [Nat.zero_mul, Nat.add_zero, List.getElem_cons_zero] at c0
  have c1 := (hc 1 (by simp)) 0 _ rfl
  simp only [Nat.one_mul, Nat.add_zero, List.getElem_cons_succ, List.getElem_cons_zero] at c1
  have HOW := Lib.hid (ow_zero w)
  have H1 := Lib.hid (below1 w ozero)
  have hc0 := (H1.out.cell (p := ⟨b, o, none⟩) hb).trans c0
  have hc1 := (H1.out.cell (p := ⟨b, o + 1, none⟩) hb).trans c1
  have HT := Lib.hid (hT.below H1.out)
  have HK := fun w => Lib.hid (dparse_any ⟨y.toArray⟩ (by rw [Lib.size_eq]; exact hy) w)
  rw [show (⟨y.toArray⟩ : ByteArray).data.toList = y from rfl] at HK
  generalize dparseV y = K at *
  obtain ⟨⟨k, f, s⟩, k2⟩ := K
  simp only at HK ⊢
  have HC := Lib.hid (codeOf_any x (w.alloc ozero) HT.out)
  rw [h0] at HC
  have hN := fun w (hS : Stp w) => Lib.hid (stepOf_ok h1 h2 w hS)
  have e : SV.at n = ⟨wordC n, 2, (popC n : Nat), (pushC n : Nat)⟩ := by unfold SV.at; rw [hm]
  rw [e] at hN
  generalize wordC n = q0 at *
  generalize ((popC n : Nat) : Int) = q2 at *
  generalize ((pushC n : Nat) : Int) = q3 at *
  have hst := run_stf
  clear hc h4 hT c0 c1 e
  go_enter Tryz.func54, Tryz.ntmps54
  go_wp2_with (first
    | (go_at_call 94; refine HC.out.mono ?_; rintro e w1 ⟨rfl, hb1⟩; have HO1 := Lib.hid (HOW.out.below hb1); have HT1 := Lib.hid (HT.out.below hb1); have HB1 := Lib.hid (H1.out.trans (hb1.mono H1.out.size)); have hc2 := (hb1.cell (p := ⟨b, o + 1, none⟩) (Nat.lt_of_lt_of_le hb H1.out.size)).trans hc1; clear hb1)
    | (go_at_call 38; refine (hN _ HT1.out.stp).out.mono ?_; rintro e w2 ⟨rfl, hb2⟩; have HO2 := Lib.hid (((HO1.out.below hb2).below (below1 _ (sobj ⟨q0, 2, q2, q3⟩))).setC n); have HB2 := Lib.hid (((HB1.out.trans (hb2.mono HB1.out.size)).trans ((below1 w2 (sobj ⟨q0, 2, q2, q3⟩)).mono (HB1.out.trans (hb2.mono HB1.out.size)).size)).setCell (p := ⟨w.heap.size, 0, none⟩) (Nat.le_refl _) (.int .i64 n)); have HO0 := Lib.hid ((HO1.out.below hb2).below (below1 _ (sobj ⟨q0, 2, q2, q3⟩))); have d0 := HO0.out.box.c0; have e0 := HO0.out.fz 0; have s0 := HO2.out.box.c0; have s1 := HO2.out.box.c1; have s2 := HO2.out.box.c2; have s3 := HO2.out.box.c3; have s4 := HO2.out.box.c4; have z0 := HO2.out.fz 0; have z1 := HO2.out.fz 1; have z2 := HO2.out.fz 2; have z3 := HO2.out.fz 3; have z4 := HO2.out.fz 4; have hc3 := (hb2.cell (p := ⟨b, o + 1, none⟩) (Nat.lt_of_lt_of_le hb HB1.out.size)).trans hc2; have hc4 := ((below1 _ (sobj ⟨q0, 2, q2, q3⟩)).cell (p := ⟨b, o + 1, none⟩) (Nat.lt_of_lt_of_le hb (Nat.le_trans HB1.out.size hb2.size))).trans hc3; clear hb2)
    | (go_at_call 96; refine (HK _).out.mono ?_; rintro e w3 ⟨rfl, hb3⟩; have HO3 := Lib.hid (HO2.out.below hb3); have HB3 := Lib.hid (HB2.out.trans (hb3.mono HB2.out.size)); have HO4 := Lib.hid (HO3.out.setV ⟨k, f, s⟩); have HB4 := Lib.hid (((HB3.out.setCell (p := ⟨w.heap.size, 2, none⟩) (Nat.le_refl _) (.int .i64 k)).setCell (p := ⟨w.heap.size, 3, none⟩) (Nat.le_refl _) (.float .f64 f)).setCell (p := ⟨w.heap.size, 4, none⟩) (Nat.le_refl _) (.string ⟨s.toArray⟩)); have g2 := HO3.out.box.c2; have g3 := HO3.out.box.c3; have g4 := HO3.out.box.c4; have e2 := HO3.out.fz 2; have e3 := HO3.out.fz 3; have e4 := HO3.out.fz 4; have t0 := HO4.out.box.c0; have t1 := HO4.out.box.c1; have t2 := HO4.out.box.c2; have t3 := HO4.out.box.c3; have t4 := HO4.out.box.c4; have y0 := HO4.out.fz 0; have y1 := HO4.out.fz 1; have y2 := HO4.out.fz 2; have y3 := HO4.out.fz 3; have y4 := HO4.out.fz 4; clear hb3 s0 s1 s2 s3 s4 z0 z1 z2 z3 z4 d0 e0))
  exact bodyPost_ret (res_step rfl (HO4.out.set ⟨n, [], ⟨k, f, s⟩⟩).box rfl rfl) rfl ⟨rfl, below_set5 HB4.out (Nat.le_refl _) _ _ _ _ _⟩
theorem nms_cases (c : Int) : nmsC c = 0 ∨ nmsC c = 1 ∨ nmsC c = 2 := by
  unfold nmsC
  split
  · exact .inr (.inl rfl)
  · split
    · exact .inr (.inr rfl)
    · exact .inl rfl
/-- prog.parseStep, any words. -/
theorem parseStep_any (hv : HasS P w v (x :: l)) (hT : Stb w) (hl : ∀ y ∈ l, y.length ≤ 20000) :
    Calls Tryz.prog 54 #[v] w fun e w' => e = .returned (.tuple #[oagg (psV (x :: l)).1, .int .i64 ((psV (x :: l)).2.1 : Nat), .int .i64 (psV (x :: l)).2.2]) ∧ Below w.heap.size w w' := by
  by_cases h0 : codeV x = 0
  · have e : psV (x :: l) = (OpV.zero, 0, 7) := by unfold psV; exact if_pos h0
    rw [e]
    exact ps_kind hv hT h0
  · have h1 : 1 ≤ codeV x := by omega
    rcases nms_cases (codeV x) with hm | hm | hm
    · have e : psV (x :: l) = (⟨codeV x, [], DV.none⟩, 1, 0) := by unfold psV; simp only; rw [if_neg h0, if_pos hm]
      rw [e]
      exact ps_plain hv hT rfl h1 (code_lt x) hm
    · cases l with
      | nil =>
        have e : psV [x] = (OpV.zero, 0, 5) := by unfold psV; simp only; rw [if_neg h0, if_neg (by rw [hm]; decide)]
        rw [e]
        exact ps_short hv hT rfl h1 (code_lt x) hm (by decide)
      | cons y l =>
        have e : psV (x :: y :: l) = (⟨codeV x, (pkV y).1, DV.none⟩, 2, (pkV y).2) := by unfold psV; simp only; rw [if_neg h0, if_neg (by rw [hm]; decide), if_pos hm]
        rw [e]
        exact ps_key hv hT rfl h1 (code_lt x) hm (hl y (List.mem_cons_self ..))
    · cases l with
      | nil =>
        have e : psV [x] = (OpV.zero, 0, 5) := by unfold psV; simp only; rw [if_neg h0, if_neg (by rw [hm]; decide)]
        rw [e]
        exact ps_short hv hT rfl h1 (code_lt x) hm (by decide)
      | cons y l =>
        have e : psV (x :: y :: l) = (⟨codeV x, [], (dparseV y).1⟩, 2, (dparseV y).2) := by unfold psV; simp only; rw [if_neg h0, if_neg (by rw [hm]; decide), if_neg (by rw [hm]; decide)]
        rw [e]
        exact ps_value hv hT rfl h1 (code_lt x) hm (hl y (List.mem_cons_self ..))
end
end Go.Proofs.YtbgccaconhmbaaaGreatDoor
namespace Go.Proofs.YtbgccaconhmbaaaGreatDoor
open Go.ChangeShapes Go.WideShapes Go.ChangeAt Go.RowKit Go.Deep
/-- The words of a text, or none where a quote stands where it may not. -/
def splitF : Nat → List UInt8 → Option (List Nm)
  | 0, l => if Lib.trimLeftB l 32 = [] then some [] else none
  | n + 1, l =>
    if Lib.trimLeftB l 32 = [] then some []
    else if (sizeV (Lib.trimLeftB l 32)).2 = true then (splitF n ((Lib.trimLeftB l 32).drop (sizeV (Lib.trimLeftB l 32)).1)).map ((Lib.trimLeftB l 32).take (sizeV (Lib.trimLeftB l 32)).1 :: ·)
    else none
def splitV (l : List UInt8) : Option (List Nm) := splitF l.length l
theorem trimL_le (l : List UInt8) : (Lib.trimLeftB l 32).length ≤ l.length := by
  unfold Lib.trimLeftB
  exact (List.dropWhile_sublist _).length_le
theorem trimL_head {l : List UInt8} : (Lib.trimLeftB l 32).head? ≠ some 32 := by
  unfold Lib.trimLeftB
  intro e
  have := List.head?_dropWhile_not (p := (· == (32 : UInt8))) (l := l)
  rw [e] at this
  simp at this
theorem size_pos {t : List UInt8} (h : t ≠ []) (hh : t.head? ≠ some 32) : 1 ≤ (sizeV t).1 := by
  unfold sizeV
  split
  · show 1 ≤ _ + 2
    omega
  · show 1 ≤ (Lib.cut t [32]).1.length
    unfold Lib.cut
    have hi : ¬ Lib.index t [32] = 0 := by
      rw [Lib.index_one]
      cases t with
      | nil => exact absurd rfl h
      | cons a t =>
        have : (a == 32) = false := by
          rw [beq_eq_false_iff_ne]; intro e; exact hh (by rw [e]; rfl)
        unfold Lib.indexByte
        rw [this]
        have := Lib.indexByte_ge t 32
        simp only [Bool.false_eq_true, if_false]
        split
        · decide
        · rename_i hne
          have : Lib.indexByte t 32 ≠ -1 := by simpa using hne
          omega
    have hl : 1 ≤ t.length := by cases t with
      | nil => exact absurd rfl h
      | cons a t => simp
    split
    · rename_i h0
      have := Lib.index_room t [32] h0
      have e : ([32] : List UInt8).length = 1 := rfl
      simp only [List.length_take]
      omega
    · exact hl
theorem splitF_fuel : ∀ (n : Nat) (l : List UInt8), l.length ≤ n → ∀ m, l.length ≤ m → splitF n l = splitF m l := by
  intro n
  induction n with
  | zero =>
    intro l h m _
    obtain rfl : l = [] := List.eq_nil_of_length_eq_zero (by omega)
    cases m <;> simp [splitF, Lib.trimLeftB]
  | succ n ih =>
    intro l h m hm
    by_cases ht : Lib.trimLeftB l 32 = []
    · cases m <;> simp [splitF, ht]
    · have h1 := trimL_le l
      have h2 : 0 < (Lib.trimLeftB l 32).length := List.length_pos_iff.2 ht
      cases m with
      | zero => omega
      | succ m =>
        unfold splitF
        rw [if_neg ht, if_neg ht]
        split
        · have hp := size_pos ht trimL_head
          rw [ih _ (by rw [List.length_drop]; omega) m (by rw [List.length_drop]; omega)]
        · rfl
theorem split_end {l : List UInt8} (h : Lib.trimLeftB l 32 = []) : splitV l = some [] := by
  unfold splitV
  cases l.length <;> simp [splitF, h]
theorem split_bad {l : List UInt8} (h : Lib.trimLeftB l 32 ≠ []) (h2 : (sizeV (Lib.trimLeftB l 32)).2 = false) : splitV l = none := by
  unfold splitV
  cases l.length with
  | zero => simp [splitF, h]
  | succ n => unfold splitF; rw [if_neg h, if_neg (by rw [h2]; exact Bool.noConfusion)]
theorem split_more {l : List UInt8} (h : Lib.trimLeftB l 32 ≠ []) (h2 : (sizeV (Lib.trimLeftB l 32)).2 = true) :
    splitV l = (splitV ((Lib.trimLeftB l 32).drop (sizeV (Lib.trimLeftB l 32)).1)).map ((Lib.trimLeftB l 32).take (sizeV (Lib.trimLeftB l 32)).1 :: ·) := by
  have h1 := trimL_le l
  have hpos : 0 < (Lib.trimLeftB l 32).length := List.length_pos_iff.2 h
  have hp := size_pos h trimL_head
  obtain ⟨n, hn⟩ : ∃ n, l.length = n + 1 := ⟨l.length - 1, by omega⟩
  unfold splitV
  rw [hn]
  conv => lhs; unfold splitF
  rw [if_neg h, if_pos h2, splitF_fuel n _ (by rw [List.length_drop]; omega) _ (Nat.le_refl _)]
/-- What split leaves. -/
def Splt (w : World) (R : Option (List Nm)) (e : Ending) (w' : World) : Prop :=
  Below w.heap.size w w' ∧ ((R = none ∧ e = .returned (.tuple #[.slice none 0 0, .bool false])) ∨ ∃ ws u, R = some ws ∧ e = .returned (.tuple #[u, .bool true]) ∧ w'.ownsRow w.heap.size 9 1 u ws.length (ws.map encStr))
set_option maxRecDepth 100000 in
set_option maxHeartbeats 4000000 in
theorem splitw_any (s : ByteArray) (hs : s.size ≤ 1000000) (w : World) (hM : Mxl w) :
    Calls Tryz.prog 53 #[.string s] w (Splt w (splitV s.data.toList)) := by
  obtain ⟨i0, hi, hz0, hz1, hz2⟩ := info_parts info_str
  obtain ⟨R, hR⟩ : ∃ R, splitV s.data.toList = R := ⟨_, rfl⟩
  rw [hR]
  have hsl : s.data.toList.length ≤ 1000000 := by rw [← Lib.size_eq]; exact hs
  have HM := Lib.hid hM
  clear hM hs
  go_enter Tryz.func53, Tryz.ntmps53
  go_wp2
  go_loopw [0, 4] (fun vs vw wr => ∃ (l : List UInt8) (ws : List Nm), vs = .string ⟨l.toArray⟩ ∧ l.length + ws.length ≤ 1000000 ∧ Hid (R = (splitV l).map (ws ++ ·)) ∧ Hid (Below w.heap.size w wr) ∧ Hid (wr.ownsRow w.heap.size 9 1 vw ws.length (ws.map encStr))) (fun vs _ _ => strSz vs)
  case atStart => exact ⟨s.data.toList, [], by simp, by simpa using hsl, Lib.hid (by rw [hR]; cases R <;> rfl), Lib.hid (Below.refl _ _), Lib.hid (World.ownsRow_nil _ _ _ _)⟩
  case round =>
    obtain ⟨l, ws, rfl, hl, HR, HB, HO⟩ := hrel
    have HT := Lib.hid (Tryz.strings_TrimLeft_one (⟨l.toArray⟩ : ByteArray) 32 (by decide) wr)
    have hT2 := HT.out
    rw [show (⟨l.toArray⟩ : ByteArray).data.toList = l from rfl] at hT2
    have HT := Lib.hid hT2
    clear hT2
    by_cases ht : Lib.trimLeftB l 32 = []
    · rw [ht] at HT
      have HE := Lib.hid (split_end ht)
      clear ht
      go_wp2_with (go_at_call 92; refine HT.out.mono ?_; rintro e w1 ⟨rfl, hw⟩; obtain rfl := hw.symm)
      go_returns
      have hr := HR.out
      rw [HE.out] at hr
      exact ⟨HB.out, .inr ⟨ws, _, by rw [hr]; simp, rfl, HO.out⟩⟩
    · have hh := trimL_head (l := l)
      have hpos := size_pos ht hh
      obtain ⟨t, htt⟩ : ∃ t, Lib.trimLeftB l 32 = t := ⟨_, rfl⟩
      have htl := trimL_le l
      have hmore := split_more ht
      have hbad := split_bad ht
      rw [htt] at HT ht htl hmore hbad hpos
      have hzt : (⟨t.toArray⟩ : ByteArray).size = t.length := by rw [Lib.size_eq]
      have hne : (t == []) = false := by rw [beq_eq_false_iff_ne]; exact ht
      have HS := Lib.hid (sizew_any (⟨t.toArray⟩ : ByteArray) (by rw [hzt]; omega) wr (HM.out.below HB.out))
      rw [show (⟨t.toArray⟩ : ByteArray).data.toList = t from rfl] at HS
      have hsz := sizew_le (s := t)
      generalize sizeV t = z at *
      obtain ⟨z1, z2⟩ := z
      clear ht htt hh
      simp only at HS hsz hmore hbad hpos
      cases z2 with
      | false =>
        have HBD := Lib.hid (hbad rfl)
        clear hbad hmore hsz
        go_wp2_with (first
          | (go_at_call 92; refine HT.out.mono ?_; rintro e w1 ⟨rfl, hw⟩; obtain rfl := hw.symm)
          | (go_at_call 93; refine HS.out.mono ?_; rintro e w2 ⟨rfl, hb⟩; have HB2 := Lib.hid (HB.out.trans (hb.mono HB.out.size)); clear hb))
        go_returns
        have hr := HR.out
        rw [HBD.out] at hr
        exact ⟨HB2.out, .inl ⟨hr, rfl⟩⟩
      | true =>
        have HMR := Lib.hid (hmore rfl)
        have hzl : z1 ≤ t.length := hsz rfl
        have hex1 : (⟨t.toArray⟩ : ByteArray).extract 0 z1 = ⟨(t.take z1).toArray⟩ := by
          apply ByteArray.ext
          simp only [ByteArray.data_extract, List.extract_toArray]
          congr 1
        have hex2 := extract_drop t z1
        clear hbad hmore hsz
        go_wp2_with (first
          | (go_at_call 92; refine HT.out.mono ?_; rintro e w1 ⟨rfl, hw⟩; obtain rfl := hw.symm)
          | (go_at_call 93; refine HS.out.mono ?_; rintro e w2 ⟨rfl, hb⟩; have HB2 := Lib.hid (HB.out.trans (hb.mono HB.out.size)); have HO2 := Lib.hid (own_below HO.out hb); clear hb)
          | (at_builtin; refine wpList_append_own _ rfl (.tmp 19) (.tmp 23) 26 rfl w.heap.size 9 i0 (.string ⟨#[]⟩) 1 16 under_strs hi hz0 hz1 hz2 rfl (by decide) _ _ _ rfl (HO2.out.alloc _) ⟨w2.heap.size, 0, none⟩ 1 1 [.string ⟨(t.take z1).toArray⟩] rfl rfl (cell_nm_at _ _ _ (by simp)) (one_nm _) (by unfold maxLen; omega) (by omega) (by have := HB2.out.size; simp at this ⊢; omega) ?_; intro v2 w3 hown' hgrow _; have HO3 := Lib.hid hown'; have HG3 := Lib.hid hgrow; clear hown' hgrow))
        refine ⟨⟨t.drop z1, ws ++ [t.take z1], rfl, by rw [List.length_drop, List.length_append]; simp; omega, Lib.hid ?_, Lib.hid ((HB2.out.alloc HB2.out.size _).grown HG3.out (HB2.out.alloc HB2.out.size _).size fun q hq => (HO2.out.lt q hq).1), by rw [List.length_append, List.map_append]; exact HO3⟩, ?_⟩
        · rw [HR.out, HMR.out]
          cases splitV (t.drop z1) <;> simp
        · show (⟨(t.drop z1).toArray⟩ : ByteArray).size < (⟨l.toArray⟩ : ByteArray).size
          rw [Lib.size_eq, Lib.size_eq]
          show (t.drop z1).length < l.length
          rw [List.length_drop]
          omega
end Go.Proofs.YtbgccaconhmbaaaGreatDoor
namespace Go.Proofs.YtbgccaconhmbaaaGreatDoor
open Go.ChangeShapes Go.WideShapes Go.ChangeAt Go.RowKit Go.Deep
/-- The steps that the words tell, or the first error. -/
def stepsF : Nat → List Nm → List OpV × Int
  | 0, _ => ([], 0)
  | n + 1, ws => if ws = [] then ([], 0) else if (psV ws).2.2 = 0 then ((psV ws).1 :: (stepsF n (ws.drop (psV ws).2.1)).1, (stepsF n (ws.drop (psV ws).2.1)).2) else ([], (psV ws).2.2)
def stepsV (ws : List Nm) : List OpV × Int := stepsF ws.length ws
/-- The program with the text, its error. -/
def parseV (l : List UInt8) : List OpV × Int :=
  match splitV l with
  | none => ([], 4)
  | some ws => if (stepsV ws).2 = 0 then (if chkV (stepsV ws).1 = 0 then ((stepsV ws).1, 0) else ([], chkV (stepsV ws).1)) else ([], (stepsV ws).2)
theorem ps_size {x : Nm} {l : List Nm} (h : (psV (x :: l)).2.2 = 0) : 1 ≤ (psV (x :: l)).2.1 ∧ (psV (x :: l)).2.1 ≤ l.length + 1 := by
  unfold psV at *
  simp only at *
  split at h
  · exact absurd h (by decide)
  · rename_i h0
    rw [if_neg h0]
    split at h
    · rename_i hm
      rw [if_pos hm]
      exact ⟨Nat.le_refl _, by show 1 ≤ _; omega⟩
    · rename_i hm
      rw [if_neg hm]
      cases l with
      | nil => exact absurd h (by show ¬ (5 : Int) = 0; decide)
      | cons y l =>
        simp only
        split <;> exact ⟨by show 1 ≤ 2; omega, by show 2 ≤ _; simp⟩
theorem stepsF_fuel : ∀ (n : Nat) (l : List Nm), l.length ≤ n → ∀ m, l.length ≤ m → stepsF n l = stepsF m l := by
  intro n
  induction n with
  | zero =>
    intro l h m _
    obtain rfl : l = [] := List.eq_nil_of_length_eq_zero (by omega)
    cases m <;> simp [stepsF]
  | succ n ih =>
    intro l h m hm
    cases l with
    | nil => cases m <;> simp [stepsF]
    | cons x l =>
      simp only [List.length_cons] at h hm
      cases m with
      | zero => omega
      | succ m =>
        unfold stepsF
        have hne : ¬ (x :: l = []) := by simp
        rw [if_neg hne, if_neg hne]
        split
        · rename_i h2
          have hp := (ps_size h2).1
          have e := ih ((x :: l).drop (psV (x :: l)).2.1) (by rw [List.length_drop, List.length_cons]; omega) m (by rw [List.length_drop, List.length_cons]; omega)
          rw [e]
        · rfl
theorem steps_bad {x : Nm} {l : List Nm} (h : (psV (x :: l)).2.2 ≠ 0) : stepsV (x :: l) = ([], (psV (x :: l)).2.2) := by
  unfold stepsV
  rw [List.length_cons]
  unfold stepsF
  rw [if_neg (by simp), if_neg h]
theorem steps_more {x : Nm} {l : List Nm} (h : (psV (x :: l)).2.2 = 0) : stepsV (x :: l) = ((psV (x :: l)).1 :: (stepsV ((x :: l).drop (psV (x :: l)).2.1)).1, (stepsV ((x :: l).drop (psV (x :: l)).2.1)).2) := by
  have hp := (ps_size h).1
  unfold stepsV
  rw [List.length_cons]
  conv => lhs; unfold stepsF
  rw [if_neg (by simp), if_pos h, stepsF_fuel l.length _ (by rw [List.length_drop, List.length_cons]; omega) _ (Nat.le_refl _)]
/-- The words of a text are no longer than it, all together. -/
theorem split_sum : ∀ (n : Nat) (l : List UInt8) (ws : List Nm), splitF n l = some ws → (∀ x ∈ ws, x.length ≤ l.length) ∧ ws.length ≤ l.length := by
  intro n
  induction n with
  | zero =>
    intro l ws h
    unfold splitF at h
    split at h
    · obtain rfl := Option.some.inj h
      exact ⟨(fun _ h => by cases h), Nat.zero_le _⟩
    · cases h
  | succ n ih =>
    intro l ws h
    unfold splitF at h
    split at h
    · obtain rfl := Option.some.inj h
      exact ⟨(fun _ h => by cases h), Nat.zero_le _⟩
    · rename_i ht
      split at h
      · have h1 := trimL_le l
        have h2 := size_pos ht trimL_head
        obtain ⟨ws', h3, rfl⟩ := Option.map_eq_some_iff.1 h
        obtain ⟨a1, a2⟩ := ih _ _ h3
        have h5 : 0 < (Lib.trimLeftB l 32).length := List.length_pos_iff.2 ht
        rw [List.length_drop] at a1 a2
        refine ⟨fun x hx => ?_, by rw [List.length_cons]; omega⟩
        rcases List.mem_cons.1 hx with rfl | hx
        · rw [List.length_take]; omega
        · have := a1 x hx; omega
      · cases h
theorem info_op : (Tryz.prog.info? 59).map (fun i => (i.zero, i.size, i.bytes)) = some (some (oagg OpV.zero), 5, 56) := by kernel_rfl
theorem under_ops : Tryz.prog.underlying 22 = some (.slice 59) := by kernel_rfl
theorem one_op (q : OpV) : ∀ u ∈ opC q, u.oneCell' = true := by
  intro u hu
  simp [opC] at hu
  rcases hu with rfl | rfl | rfl | rfl | rfl <;> rfl
theorem cells_op (w : World) (q : OpV) (n : Nat) (hn : n = w.heap.size) : ∀ j u, (opC q)[j]? = some u → (w.alloc (oobj q)).cell? ((⟨n, 0, none⟩ : Addr).add j) = some u := by
  subst hn
  intro j u hu
  rw [Addr.add_lit]
  match j, hu with
  | 0, hu => obtain rfl := Option.some.inj hu; simp [World.cell?_alloc_new]
  | 1, hu => obtain rfl := Option.some.inj hu; simp [World.cell?_alloc_new]
  | 2, hu => obtain rfl := Option.some.inj hu; simp [World.cell?_alloc_new]
  | 3, hu => obtain rfl := Option.some.inj hu; simp [World.cell?_alloc_new]
  | 4, hu => obtain rfl := Option.some.inj hu; simp [World.cell?_alloc_new]
  | j + 5, hu => cases hu
/-- What Parse leaves. -/
def Prsd (w : World) (R : List OpV × Int) (e : Ending) (w' : World) : Prop :=
  ∃ v, e = .returned (.tuple #[v, .int .i64 R.2]) ∧ Below w.heap.size w w' ∧ w'.ownsRow w.heap.size 59 5 v R.1.length (cellsG opC R.1)
theorem HasG.drop {α : Type} {f : α → List Value} {sz : Nat} {P : Nat → Prop} {w : World} {b o n c : Nat} {l : List α} (h : HasG f sz P w (.slice (some ⟨b, o, none⟩) n c) l) {k : Nat} (hk : k ≤ n) : HasG f sz P w (.slice (some ⟨b, o + k * sz, none⟩) (n - k) (c - k)) (l.drop k) := by
  obtain ⟨ao', cap, hv, h1, h2, h3, h4⟩ := h
  injection hv with e1 e2 e3
  subst e1 e2 e3
  refine ⟨_, _, by rw [List.length_drop], by rw [List.length_drop]; omega, by omega, (fun h => by cases h), ?_⟩
  rcases h4 with rfl | ⟨b', o', h5, h6, h7, h8⟩
  · exact .inl (by simp)
  · obtain ⟨rfl, rfl⟩ : b = b' ∧ o = o' := by
      have := Option.some.inj h5
      injection this with a1 a2
      exact ⟨a1, a2⟩
    refine .inr ⟨b, o + k * sz, rfl, h6, h7, fun i hi => ?_⟩
    rw [List.length_drop] at hi
    have := h8 (k + i) (by omega)
    rw [Nat.add_mul, ← Nat.add_assoc] at this
    rw [List.getElem_drop]
    exact this
theorem HasS.dropc {P : Nat → Prop} {w : World} {b o n c : Nat} {l : List Nm} (h : HasS P w (.slice (some ⟨b, o, none⟩) n c) l) {k : Nat} (hk : k ≤ n) : HasS P w (.slice (if c = k then some ⟨b, o, none⟩ else some ⟨b, o + k, none⟩) (n - k) (c - k)) (l.drop k) := by
  by_cases e : c = k
  · rw [if_pos e]
    obtain ⟨ao', cap, hv, h1, h2, h3, h4⟩ := h
    injection hv with e1 e2 e3
    subst e1 e2 e3
    have hd : l.drop k = [] := List.drop_of_length_le (by omega)
    rw [hd]
    exact ⟨_, _, by rw [show l.length - k = 0 from by omega]; rfl, by simp, by omega, (fun h => by cases h), .inl rfl⟩
  · rw [if_neg e]
    have := HasG.drop h hk
    rwa [Nat.mul_one] at this
def slLen (v : Value) : Nat := match v with | .slice _ n _ => n | _ => 0
set_option maxRecDepth 100000 in
theorem parse_unsplit (s : ByteArray) (hs : s.size ≤ 1000000) (w : World) (hM : Mxl w) (hn : splitV s.data.toList = none) :
    Calls Tryz.prog 28 #[.string s] w (Prsd w ([], 4)) := by
  have HS := Lib.hid (splitw_any s hs w hM)
  rw [hn] at HS
  clear hs hM hn
  go_enter Tryz.func28, Tryz.ntmps28
  go_wp2_with (go_at_call 53; refine HS.out.mono ?_; rintro e w1 ⟨hb, h1⟩; obtain ⟨_, rfl⟩ := h1.resolve_right (fun ⟨_, _, h, _⟩ => by cases h); have HB := Lib.hid hb; clear hb h1)
  go_returns
  exact ⟨_, rfl, HB.out, World.ownsRow_nil _ _ _ _⟩
set_option maxRecDepth 100000 in
set_option maxHeartbeats 8000000 in
theorem parse_split (s : ByteArray) (hs : s.size ≤ 20000) (w : World) (hM : Mxl w) (hT : Stb w) {ws : List Nm} (hn : splitV s.data.toList = some ws) {R : List OpV × Int}
    (hR : (if (stepsV ws).2 = 0 then (if chkV (stepsV ws).1 = 0 then ((stepsV ws).1, 0) else ([], chkV (stepsV ws).1)) else ([], (stepsV ws).2)) = R) :
    Calls Tryz.prog 28 #[.string s] w (Prsd w R) := by
  have hst := run_stf
  obtain ⟨i0, hi, hz0, hz1, hz2⟩ := info_parts info_op
  have HS := Lib.hid (splitw_any s (by omega) w hM)
  rw [hn] at HS
  obtain ⟨hx, hwl⟩ := split_sum _ _ _ hn
  have hsl : s.data.toList.length ≤ 20000 := by rw [← Lib.size_eq]; exact hs
  have HX := Lib.hid (fun x h => Nat.le_trans (hx x h) hsl)
  have hwl : ws.length ≤ 20000 := Nat.le_trans hwl hsl
  have HT := Lib.hid hT
  obtain ⟨Z, hZ⟩ : ∃ Z, stepsV ws = Z := ⟨_, rfl⟩
  rw [hZ] at hR
  have HR := Lib.hid hR
  have HZ := Lib.hid hZ
  clear hM hn hx hsl hT hR hZ hs
  go_enter Tryz.func28, Tryz.ntmps28
  go_wp2_with (go_at_call 53; refine HS.out.mono ?_; rintro e w1 ⟨hb, h1⟩; obtain ⟨ws', u, h2, rfl, h3⟩ := h1.resolve_left (fun ⟨h, _⟩ => by cases h); obtain rfl := Option.some.inj h2; have HB := Lib.hid hb; have HW := Lib.hid ((own_hasG nmC_len (by rw [cells_nm]; exact h3)).weaken (Q := fun k => k < w1.heap.size) (fun b h _ => h)); clear hb h1 h2 h3)
  go_loopw [4, 6] (fun vw vp wr => ∃ (ws' : List Nm) (p : List OpV), Hid (HasS (fun k => k < w1.heap.size) wr vw ws') ∧ slLen vw = ws'.length ∧ ws'.length + p.length ≤ 20000 ∧ Hid (∀ x ∈ ws', x.length ≤ 20000) ∧ Hid (Z = (p ++ (stepsV ws').1, (stepsV ws').2)) ∧ Hid (Below w1.heap.size w1 wr) ∧ Hid (wr.ownsRow w1.heap.size 59 5 vp p.length (cellsG opC p))) (fun vw _ _ => slLen vw)
  case atStart => exact ⟨ws, [], HW, by obtain ⟨ao, cap, rfl, _⟩ := HW.out; rfl, by simpa using hwl, HX, Lib.hid (by rw [HZ.out]; rfl), Lib.hid (Below.refl _ _), Lib.hid (World.ownsRow_nil _ _ _ _)⟩
  case round =>
    obtain ⟨ws', p, HW1, hsl, hlen, HX1, HZ1, HB1, HO1⟩ := hrel
    have HT1 := Lib.hid ((HT.out.below HB.out).below HB1.out)
    have hw1 := HB.out.size
    clear HW HX HZ HS hwl
    cases ws' with
    | nil =>
      obtain ⟨ao, cap, rfl, _⟩ := HW1.out
      have HE : Hid (Z = (p, 0)) := Lib.hid (by rw [HZ1.out, show stepsV [] = ([], 0) from rfl]; simp)
      have HR2 := HR.out
      rw [HE.out] at HR2
      simp only [if_true] at HR2
      obtain ⟨ap, cpp, rfl⟩ := own_sl HO1.out
      have HC := Lib.hid (check_any (own_hasG opC_len HO1.out) HT1.out.stp)
      clear HW1 HX1 HZ1 hsl HR HE hlen
      by_cases hc : chkV p = 0
      · rw [hc] at HC
        rw [if_pos hc] at HR2
        have HR3 := Lib.hid HR2
        clear HR2 hc
        go_wp2_with (go_at_call 16; ((with_reducible refine HC.out.mono ?_); rintro e w2 ⟨rfl, h2⟩; have HB2 := Lib.hid (HB1.out.trans (h2.mono HB1.out.size)); have HO2 := Lib.hid (own_below HO1.out h2); clear h2))
        go_returns
        rw [← HR3.out]
        exact ⟨_, rfl, HB.out.trans (HB2.out.mono HB.out.size), own_mono HO2.out hw1⟩
      · have hcb : (chkV p != 0) = true := by simpa using hc
        rw [if_neg hc] at HR2
        generalize chkV p = c at *
        have HR3 := Lib.hid HR2
        clear HR2 hc
        go_wp2_with (go_at_call 16; ((with_reducible refine HC.out.mono ?_); rintro e w2 ⟨rfl, h2⟩; have HB2 := Lib.hid (HB1.out.trans (h2.mono HB1.out.size)); clear h2))
        go_returns
        rw [← HR3.out]
        exact ⟨_, rfl, HB.out.trans (HB2.out.mono HB.out.size), World.ownsRow_nil _ _ _ _⟩
    | cons x l =>
      have HP := Lib.hid (parseStep_any HW1.out HT1.out (fun y hy => HX1.out y (List.mem_cons_of_mem _ hy)))
      obtain ⟨ao, cap, rfl, hca, hcm, _, h4⟩ := HW1.out
      obtain ⟨b, o, rfl, hb, hlt, _⟩ := h4.resolve_left (by simp)
      clear h4
      by_cases he : (psV (x :: l)).2.2 = 0
      · have hsz := ps_size he
        have HM := Lib.hid (steps_more he)
        generalize psV (x :: l) = q at *
        obtain ⟨⟨c, key, ⟨k, f, sx⟩⟩, z, e⟩ := q
        simp only at he hsz
        subst he
        obtain ⟨hz1', hz2'⟩ := hsz
        simp only at HP HM
        have HQ := fun w => Lib.hid (obox_new w ⟨c, key, ⟨k, f, sx⟩⟩)
        go_wp2_with (first
          | (go_at_call 54; refine HP.out.mono ?_; rintro e w2 ⟨rfl, h2⟩; have HB2 := Lib.hid (HB1.out.trans (h2.mono HB1.out.size)); have HO2 := Lib.hid (own_below HO1.out h2); have HW2 := Lib.hid (HW1.out.below h2); have q0 := (HQ w2).out.c0; have q1 := (HQ w2).out.c1; have q2 := (HQ w2).out.c2; have q3 := (HQ w2).out.c3; have q4 := (HQ w2).out.c4; clear h2)
          | (at_builtin; refine wpList_append_own _ rfl (.tmp 30) (.tmp 32) 22 rfl w1.heap.size 59 i0 (oagg OpV.zero) 5 56 under_ops hi hz0 hz1 hz2 rfl (by decide) _ _ _ rfl ((HO2.out.alloc _).alloc _) ⟨w2.heap.size + 1, 0, none⟩ 1 1 (opC ⟨c, key, ⟨k, f, sx⟩⟩) rfl rfl (cells_op _ ⟨c, key, ⟨k, f, sx⟩⟩ _ (by simp)) (one_op _) (by unfold maxLen; omega) (by omega) (by have := HB2.out.size; simp at this ⊢; omega) ?_; intro v2 w3 hown' hgrow _; have HO3 := Lib.hid hown'; have HG3 := Lib.hid hgrow; clear hown' hgrow))
        refine ⟨⟨(x :: l).drop z, p ++ [⟨c, key, ⟨k, f, sx⟩⟩], Lib.hid ?_, ?_, ?_, Lib.hid (fun y hy => HX1.out y (List.mem_of_mem_drop hy)), Lib.hid ?_, Lib.hid ?_, ?_⟩, ?_⟩
        · have h3 := HasS.dropc HW2.out (k := z) (by rw [List.length_cons]; exact hz2')
          have h4 : Below w1.heap.size w2 w3 := (((Below.refl _ w2).alloc HB2.out.size _).alloc (by have := HB2.out.size; simp; omega) _).grown HG3.out (by have := HB2.out.size; simp; omega) (fun q hq => (HO2.out.lt q hq).1)
          exact h3.belowP h4 (fun _ h => h)
        · rw [List.length_drop]; rfl
        · rw [List.length_drop, List.length_append]; simp at hlen ⊢; omega
        · rw [HZ1.out, HM.out]; simp
        · exact ((HB2.out.alloc HB2.out.size _).alloc ((HB2.out.alloc HB2.out.size _).size) _).grown HG3.out ((HB2.out.alloc HB2.out.size _).alloc ((HB2.out.alloc HB2.out.size _).size) _).size (fun q hq => (HO2.out.lt q hq).1)
        · rw [List.length_append, cellsG_append, cellsG_one]; exact HO3
        · show l.length + 1 - z < l.length + 1
          omega
      · have HB2 := Lib.hid (steps_bad he)
        have hcb : ((psV (x :: l)).2.2 != 0) = true := by simpa using he
        have HE : Hid (Z.2 = (psV (x :: l)).2.2) := Lib.hid (by rw [HZ1.out, HB2.out])
        have HR2 := HR.out
        rw [if_neg (by rw [HE.out]; exact he), HE.out] at HR2
        have HR3 := Lib.hid HR2
        generalize psV (x :: l) = q at *
        obtain ⟨⟨c, key, ⟨k, f, sx⟩⟩, z, e⟩ := q
        simp only at HP hcb HR3
        clear HB2 he HE HR2 HZ1 HX1 hlen hsl
        go_wp2_with (go_at_call 54; refine HP.out.mono ?_; rintro e w2 ⟨rfl, h2⟩; have HB2 := Lib.hid (HB1.out.trans (h2.mono HB1.out.size)); clear h2)
        go_returns
        rw [← HR3.out]
        exact ⟨_, rfl, HB.out.trans ((HB2.out.trans ((below1 _ _).mono HB2.out.size)).mono HB.out.size), World.ownsRow_nil _ _ _ _⟩
/-- prog.Parse, any text of at most 20000 bytes. -/
theorem pparse_any (s : ByteArray) (hs : s.size ≤ 20000) (w : World) (hM : Mxl w) (hT : Stb w) :
    Calls Tryz.prog 28 #[.string s] w (Prsd w (parseV s.data.toList)) := by
  cases hn : splitV s.data.toList with
  | none =>
    rw [show parseV s.data.toList = ([], 4) from by unfold parseV; rw [hn]]
    exact parse_unsplit s (by omega) w hM hn
  | some ws =>
    have e : parseV s.data.toList = if (stepsV ws).2 = 0 then (if chkV (stepsV ws).1 = 0 then ((stepsV ws).1, 0) else ([], chkV (stepsV ws).1)) else ([], (stepsV ws).2) := by unfold parseV; rw [hn]
    rw [e]
    exact parse_split s hs w hM hT hn rfl
end Go.Proofs.YtbgccaconhmbaaaGreatDoor
namespace Go.Proofs.YtbgccaconhmbaaaGreatDoor
open Go.ChangeShapes Go.WideShapes Go.ChangeAt Go.RowKit Go.Deep
/-- A step's text. -/
def stepT (o : OpV) : List UInt8 :=
  if okC o.c = false then [63]
  else if nmsC o.c = 1 then wordC o.c.toNat ++ [32] ++ quoteV o.key
  else if nmsC o.c = 2 then wordC o.c.toNat ++ [32] ++ printV o.v
  else wordC o.c.toNat
theorem word_len (n : Nat) : (wordC n).length ≤ 4 := by
  unfold wordC; split <;> simp
theorem quote_len (l : List UInt8) : (quoteV l).length ≤ 3 * l.length + 2 := by
  have := q1s_len l
  unfold quoteV
  simp only [List.length_cons, List.length_append, List.length_nil]
  omega
theorem print_len {v : DV} (hx : v.x < 18446744073709551616) : (printV v).length ≤ 3 * v.s.length + 50 := by
  unfold printV
  split
  · split
    · have := textN_len hx; omega
    · split
      · have := quote_len v.s; omega
      · simp
  · simp
theorem run_add {x y : List UInt8} (h : x.length + y.length ≤ 9223372036854775807) (w : World) : (Op.stringOp .add ⟨x.toArray⟩ ⟨y.toArray⟩).run Tryz.prog w = .ok (.string ⟨(x ++ y).toArray⟩) w := by
  rw [run_string_add_sum w _ _ (by rw [Lib.size_eq, Lib.size_eq]; exact h), ByteArray.mk_append_mk]
def SW (w : World) (b : Nat) (s : SV) : Prop := w.heap[b]? = some (sobj s)
theorem sw_new (w : World) (s : SV) : SW (w.alloc (sobj s)) w.heap.size s := heap_alloc_new w _
theorem SW.lt {w : World} {b : Nat} {s : SV} (h : SW w b s) : b < w.heap.size := (Array.getElem?_eq_some_iff.1 h).1
theorem SW.below {w w' : World} {b : Nat} {s : SV} (h : SW w b s) (hb : Below w.heap.size w w') : SW w' b s := (hb.block _ h.lt).trans h
theorem SW.c0 {w : World} {b : Nat} {s : SV} (h : SW w b s) : w.cell? ⟨b, 0, none⟩ = some (.string ⟨s.w.toArray⟩) := cell_box h rfl
theorem okC_nat {c : Int} (h : okC c = true) : ∃ n : Nat, c = n ∧ 1 ≤ n ∧ n < 16 := by
  unfold okC at h
  rw [Bool.and_eq_true] at h
  have h1 := of_decide_eq_true h.1
  have h2 := of_decide_eq_true h.2
  exact ⟨c.toNat, by omega, by omega, by omega⟩
set_option maxRecDepth 100000 in
theorem pstep_no (o : OpV) (h : okC o.c = false) (w : World) :
    Calls Tryz.prog 59 #[oagg o] w fun e w' => e = .returned (.string ⟨#[63]⟩) ∧ Below w.heap.size w w' := by
  have HO := Lib.hid (obox_new w o)
  have H1 := Lib.hid (below1 w (oobj o))
  have HN := fun w => Lib.hid (stepOf_no h w)
  have q0 := HO.out.c0
  obtain ⟨c, key, ⟨k, x, s⟩⟩ := o
  clear h
  go_enter Tryz.func59, Tryz.ntmps59
  go_wp2_with (go_at_call 38; refine (HN _).out.mono ?_; rintro e w1 ⟨rfl, hb⟩; have HB := Lib.hid ((H1.out.trans (hb.mono H1.out.size)).trans ((below1 w1 (sobj SV.zero)).mono (H1.out.trans (hb.mono H1.out.size)).size)); clear hb)
  go_ret
  exact ⟨rfl, HB.out⟩
set_option maxRecDepth 100000 in
theorem pstep_plain (o : OpV) {n : Nat} (hc : o.c = n) (h1 : 1 ≤ n) (h2 : n < 16) (hm : nmsC (n : Int) = 0) (w : World) (hS : Stp w) :
    Calls Tryz.prog 59 #[oagg o] w fun e w' => e = .returned (.string ⟨(wordC n).toArray⟩) ∧ Below w.heap.size w w' := by
  have HO := Lib.hid (obox_new w o)
  have H1 := Lib.hid (below1 w (oobj o))
  have e : SV.at n = ⟨wordC n, 0, (popC n : Nat), (pushC n : Nat)⟩ := by unfold SV.at; rw [hm]
  have HN := Lib.hid (stepOf_ok h1 h2 _ (hS.below H1.out))
  rw [e] at HN
  generalize wordC n = q0 at *
  generalize ((popC n : Nat) : Int) = q2 at *
  generalize ((pushC n : Nat) : Int) = q3 at *
  have q0' := HO.out.c0
  obtain ⟨c, key, ⟨k, x, s⟩⟩ := o
  obtain rfl : c = n := hc
  clear h1 h2 hS e
  go_enter Tryz.func59, Tryz.ntmps59
  go_wp2_with (go_at_call 38; refine HN.out.mono ?_; rintro e w1 ⟨rfl, hb⟩; have HB := Lib.hid ((H1.out.trans (hb.mono H1.out.size)).trans ((below1 w1 (sobj ⟨q0, 0, q2, q3⟩)).mono (H1.out.trans (hb.mono H1.out.size)).size)); clear hb)
  go_ret
  exact ⟨rfl, HB.out⟩
set_option maxRecDepth 100000 in
set_option maxHeartbeats 4000000 in
theorem pstep_key (o : OpV) {n : Nat} (hc : o.c = n) (h1 : 1 ≤ n) (h2 : n < 16) (hm : nmsC (n : Int) = 1) (hk : o.key.length ≤ 1099511627776) (w : World) (hS : Stp w) :
    Calls Tryz.prog 59 #[oagg o] w fun e w' => e = .returned (.string ⟨(wordC n ++ [32] ++ quoteV o.key).toArray⟩) ∧ Below w.heap.size w w' := by
  have HO := Lib.hid (obox_new w o)
  have H1 := Lib.hid (below1 w (oobj o))
  have e : SV.at n = ⟨wordC n, 1, (popC n : Nat), (pushC n : Nat)⟩ := by unfold SV.at; rw [hm]
  have HN := Lib.hid (stepOf_ok h1 h2 _ (hS.below H1.out))
  have HQ := fun w => Lib.hid (quote_any ⟨o.key.toArray⟩ (by rw [Lib.size_eq]; exact hk) w)
  rw [show (⟨o.key.toArray⟩ : ByteArray).data.toList = o.key from rfl] at HQ
  rw [e] at HN
  have a1 := fun w => run_add (x := wordC n) (y := [32]) (by have := word_len n; simp; omega) w
  have a2 := fun w => run_add (x := wordC n ++ [32]) (y := quoteV o.key) (by have := word_len n; have := quote_len o.key; simp; omega) w
  generalize wordC n = q0 at *
  generalize ((popC n : Nat) : Int) = q2 at *
  generalize ((pushC n : Nat) : Int) = q3 at *
  generalize quoteV o.key = r at *
  have q0' := HO.out.c0
  obtain ⟨c, key, ⟨k, x, s⟩⟩ := o
  obtain rfl : c = n := hc
  clear h1 h2 hS e hk
  go_enter Tryz.func59, Tryz.ntmps59
  go_wp2_with (go_at_call 38; refine HN.out.mono ?_; rintro e w1 ⟨rfl, hb⟩; have HB := Lib.hid ((H1.out.trans (hb.mono H1.out.size)).trans ((below1 w1 (sobj ⟨q0, 1, q2, q3⟩)).mono (H1.out.trans (hb.mono H1.out.size)).size)); have HB := Lib.hid HB.out.drew; have HO0 := Lib.hid ((HO.out.below hb HO.out.lt).below (below1 w1 (sobj ⟨q0, 1, q2, q3⟩)) (Nat.lt_of_lt_of_le HO.out.lt hb.size)); have HO1 := Lib.hid (HO0.out.below (Below.refl _ _).drew HO0.out.lt); have HX := Lib.hid ((sw_new w1 ⟨q0, 1, q2, q3⟩).below (Below.refl _ _).drew); clear hb)
  go_region_held (fun w' => w'.cell? ⟨w1.heap.size, 0, none⟩ = some (.string ⟨q0.toArray⟩) ∧ w'.cell? ⟨w.heap.size, 1, none⟩ = some (.string ⟨key.toArray⟩)) (exact ⟨HX.out.c0, HO1.out.c1⟩)
    ((go_at_call 100; refine (HQ _).out.mono ?_; rintro e w6 ⟨rfl, hb⟩; have HX := Lib.hid (HX.out.below hb); have HO1 := Lib.hid (HO1.out.below hb HO1.out.lt); have HB := Lib.hid (HB.out.trans (hb.mono HB.out.size)); clear hb))
  all_goals go_wp2
  all_goals go_ret
  all_goals exact ⟨by simp, HB.out⟩
set_option maxRecDepth 100000 in
set_option maxHeartbeats 4000000 in
theorem pstep_value (o : OpV) {n : Nat} (hc : o.c = n) (h1 : 1 ≤ n) (h2 : n < 16) (hm : nmsC (n : Int) = 2) (hk : o.v.s.length ≤ 1099511627776) (hx : o.v.x < 18446744073709551616) (w : World) (hS : Stp w) (hT : Tabs w) :
    Calls Tryz.prog 59 #[oagg o] w fun e w' => e = .returned (.string ⟨(wordC n ++ [32] ++ printV o.v).toArray⟩) ∧ Below w.heap.size w w' := by
  have HO := Lib.hid (obox_new w o)
  have H1 := Lib.hid (below1 w (oobj o))
  have e : SV.at n = ⟨wordC n, 2, (popC n : Nat), (pushC n : Nat)⟩ := by unfold SV.at; rw [hm]
  have HN := Lib.hid (stepOf_ok h1 h2 _ (hS.below H1.out))
  have HQ := fun w hT => Lib.hid (vprint_any o.v hx w hT)
  have HT := Lib.hid (hT.below H1.out)
  rw [e] at HN
  have a1 := fun w => run_add (x := wordC n) (y := [32]) (by have := word_len n; simp; omega) w
  have a2 := fun w => run_add (x := wordC n ++ [32]) (y := printV o.v) (by have := word_len n; have := print_len hx; simp; omega) w
  generalize wordC n = q0 at *
  generalize ((popC n : Nat) : Int) = q2 at *
  generalize ((pushC n : Nat) : Int) = q3 at *
  generalize printV o.v = r at *
  have q0' := HO.out.c0
  obtain ⟨c, key, ⟨k, x, s⟩⟩ := o
  obtain rfl : c = n := hc
  simp only at HQ
  clear h1 h2 hS e hk hx hT
  go_enter Tryz.func59, Tryz.ntmps59
  go_wp2_with (go_at_call 38; refine HN.out.mono ?_; rintro e w1 ⟨rfl, hb⟩; have HB := Lib.hid ((H1.out.trans (hb.mono H1.out.size)).trans ((below1 w1 (sobj ⟨q0, 2, q2, q3⟩)).mono (H1.out.trans (hb.mono H1.out.size)).size)); have HB := Lib.hid HB.out.drew; have HO0 := Lib.hid ((HO.out.below hb HO.out.lt).below (below1 w1 (sobj ⟨q0, 2, q2, q3⟩)) (Nat.lt_of_lt_of_le HO.out.lt hb.size)); have HO1 := Lib.hid (HO0.out.below (Below.refl _ _).drew HO0.out.lt); have HT := Lib.hid (((HT.out.below hb).below (below1 w1 (sobj ⟨q0, 2, q2, q3⟩))).below (Below.refl _ _).drew); have HX := Lib.hid ((sw_new w1 ⟨q0, 2, q2, q3⟩).below (Below.refl _ _).drew); clear hb)
  go_region_held (fun w' => w'.cell? ⟨w1.heap.size, 0, none⟩ = some (.string ⟨q0.toArray⟩) ∧ w'.cell? ⟨w.heap.size, 2, none⟩ = some (.int .i64 k) ∧ w'.cell? ⟨w.heap.size, 3, none⟩ = some (.float .f64 x) ∧ w'.cell? ⟨w.heap.size, 4, none⟩ = some (.string ⟨s.toArray⟩)) (exact ⟨HX.out.c0, HO1.out.c2, HO1.out.c3, HO1.out.c4⟩)
    ((go_at_call 101; refine (HQ _ HT.out).out.mono ?_; rintro e w6 ⟨rfl, hb⟩; have HX := Lib.hid (HX.out.below hb); have HO1 := Lib.hid (HO1.out.below hb HO1.out.lt); have HB := Lib.hid (HB.out.trans (hb.mono HB.out.size)); have HT := Lib.hid (HT.out.below hb); clear hb))
  all_goals go_wp2
  all_goals go_ret
  all_goals exact ⟨by simp, HB.out⟩
/-- prog.printStep, any step. -/
theorem pstep_any (o : OpV) (hk : o.key.length ≤ 1099511627776) (hs : o.v.s.length ≤ 1099511627776) (hx : o.v.x < 18446744073709551616) (w : World) (hS : Stp w) (hT : Tabs w) :
    Calls Tryz.prog 59 #[oagg o] w fun e w' => e = .returned (.string ⟨(stepT o).toArray⟩) ∧ Below w.heap.size w w' := by
  cases h : okC o.c with
  | false =>
    rw [show stepT o = [63] from by unfold stepT; rw [if_pos h]]
    exact pstep_no o h w
  | true =>
    obtain ⟨n, hc, h1, h2⟩ := okC_nat h
    have hn : o.c.toNat = n := by rw [hc]; rfl
    rcases nms_cases (n : Int) with hm | hm | hm
    · rw [show stepT o = wordC n from by unfold stepT; rw [if_neg (by rw [h]; exact Bool.noConfusion), hc, if_neg (by rw [hm]; decide), if_neg (by rw [hm]; decide)]; rfl]
      exact pstep_plain o hc h1 h2 hm w hS
    · rw [show stepT o = wordC n ++ [32] ++ quoteV o.key from by unfold stepT; rw [if_neg (by rw [h]; exact Bool.noConfusion), hc, if_pos hm]; rfl]
      exact pstep_key o hc h1 h2 hm hk w hS
    · rw [show stepT o = wordC n ++ [32] ++ printV o.v from by unfold stepT; rw [if_neg (by rw [h]; exact Bool.noConfusion), hc, if_neg (by rw [hm]; decide), if_pos hm]; rfl]
      exact pstep_value o hc h1 h2 hm hs hx w hS hT
end Go.Proofs.YtbgccaconhmbaaaGreatDoor
namespace Go.Proofs.YtbgccaconhmbaaaGreatDoor
open Go.ChangeShapes Go.WideShapes Go.ChangeAt Go.RowKit Go.Deep
/-- A program's text. -/
def printT (p : List OpV) : List UInt8 := Lib.join (p.map stepT) [32]
/-- What the code asks of steps to print them. -/
structure Pok (o : OpV) : Prop where
  key : o.key.length ≤ 1099511627776
  txt : o.v.s.length ≤ 1099511627776
  num : o.v.x < 18446744073709551616
set_option maxRecDepth 100000 in
set_option maxHeartbeats 4000000 in
theorem pprint_any {P : Nat → Prop} {w : World} {v : Value} {p : List OpV} (hv : HasO P w v p) (hp : ∀ o ∈ p, Pok o) (hl : p.length ≤ 1000000) (hj : (printT p).length ≤ 140737488355328) (hS : Stp w) (hT : Tabs w) :
    Calls Tryz.prog 30 #[v] w fun e w' => e = .returned (.string ⟨(printT p).toArray⟩) ∧ Below w.heap.size w w' := by
  have hst := run_stf
  obtain ⟨i0, hi, hz0, hz1, hz2⟩ := info_parts info_str
  obtain ⟨ao, cap, rfl, hca, hcm, hno, h4⟩ := hv
  obtain ⟨n, hn⟩ : ∃ n, p.length = n := ⟨_, rfl⟩
  rw [hn]
  have HN := Lib.hid hn
  have HP := Lib.hid hp
  have HS := Lib.hid hS
  have HT := Lib.hid hT
  have HJ := Lib.hid hj
  have hl' : n ≤ 1000000 := by omega
  clear hca hcm hno hl hn hp hS hT hj
  obtain ⟨T, hT⟩ : ∃ T, printT p = T := ⟨_, rfl⟩
  rw [hT]
  have HTT := Lib.hid hT
  clear hT
  go_enter Tryz.func30, Tryz.ntmps30
  go_wp2
  go_loopw [3, 8] (fun vw vi wr => ∃ (k : Nat), vi = .int .i64 (k : Int) ∧ k ≤ n ∧ Hid (Below w.heap.size w wr) ∧ Hid (wr.ownsRow w.heap.size 9 1 vw k (((p.take k).map stepT).map encStr))) (fun _ vi _ => n - (RowKit.intOf vi).toNat)
  case atStart => exact ⟨0, rfl, Nat.zero_le _, Lib.hid (Below.refl _ _), Lib.hid (World.ownsRow_nil _ _ _ _)⟩
  case round =>
    obtain ⟨k, rfl, hk, HB, HO⟩ := hrel
    by_cases hlt : k < n
    · have hk' : k < p.length := by rw [HN.out]; exact hlt
      obtain ⟨b, o, rfl, _, hb, hc⟩ := h4.resolve_left (fun e => by rw [e] at hk'; exact absurd hk' (Nat.not_lt_zero _))
      have HQ := Lib.hid (((hc k hk').below HB.out hb).op)
      have HPk := HP.out p[k] (List.getElem_mem hk')
      have HTk := Lib.hid (take_snocO hk')
      have HH := fun w hS hT => Lib.hid (pstep_any p[k] HPk.key HPk.txt HPk.num w hS hT)
      have HS1 := Lib.hid (HS.out.below HB.out)
      have HT1 := Lib.hid (HT.out.below HB.out)
      clear h4 HPk hc
      generalize p[k] = r at *
      have HOB := Lib.hid (obox_new wr r)
      have H1 := Lib.hid (below1 wr (oobj r))
      have r0 := HQ.out.c0; have r1 := HQ.out.c1; have r2 := HQ.out.c2; have r3 := HQ.out.c3; have r4 := HQ.out.c4
      have q0 := HOB.out.c0; have q1 := HOB.out.c1; have q2 := HOB.out.c2; have q3 := HOB.out.c3; have q4 := HOB.out.c4
      generalize hrt : stepT r = t at *
      have HRT := Lib.hid hrt
      clear hrt
      obtain ⟨c, key, ⟨vk, vx, vs⟩⟩ := r
      go_wp2_with (first
        | (go_at_call 59; refine (HH _ (HS1.out.below H1.out) (HT1.out.below H1.out)).out.mono ?_; rintro e w2 ⟨rfl, hb2⟩; have HB2 := Lib.hid (HB.out.trans ((H1.out.trans (hb2.mono H1.out.size)).mono HB.out.size)); have HO2 := Lib.hid (own_below (own_below HO.out H1.out) hb2); clear hb2)
        | (at_builtin; refine wpList_append_own _ rfl (.tmp 12) (.tmp 15) 26 rfl w.heap.size 9 i0 (.string ⟨#[]⟩) 1 16 under_strs hi hz0 hz1 hz2 rfl (by decide) _ _ _ rfl (HO2.out.alloc _) ⟨w2.heap.size, 0, none⟩ 1 1 [.string ⟨t.toArray⟩] rfl rfl (cell_nm_at _ _ _ (by simp)) (one_nm _) (by unfold maxLen; omega) (by omega) (by have := HB2.out.size; simp at this ⊢; omega) ?_; intro v2 w3 hown' hgrow _; have HO3 := Lib.hid hown'; have HG3 := Lib.hid hgrow; clear hown' hgrow))
      go_roundw
      case rel => exact ⟨k + 1, by go_num, by omega, Lib.hid ((HB2.out.alloc HB2.out.size _).grown HG3.out (HB2.out.alloc HB2.out.size _).size fun q hq => (HO2.out.lt q hq).1), by rw [HTk.out, List.map_append, List.map_append]; simp only [List.map_cons, List.map_nil, HRT.out]; exact HO3⟩
      case measure => simp [RowKit.intOf]; omega
    · obtain rfl : k = n := by omega
      have hT2 : p.take k = p := List.take_of_length_le (by rw [HN.out]; exact Nat.le_refl _)
      rw [hT2] at HO
      rcases HO.out.2 with ⟨rfl, hk0⟩ | ⟨g, cap2, cur, rfl, hg0, hg, hnc, hm, _, _⟩
      · have hp0 : p = [] := List.eq_nil_of_length_eq_zero (by rw [HN.out, hk0])
        have hres : [] = T := by rw [← HTT.out, hp0]; rfl
        subst hres
        have HJ0 := fun w => Lib.hid (Tryz.strings_Join_none none 0 ⟨#[32]⟩ w)
        clear h4
        go_wp2_with (go_at_call 60; refine (HJ0 _).out.mono ?_; rintro e w2 ⟨rfl, hw⟩; obtain rfl := hw.symm)
        go_ret
        exact ⟨rfl, HB.out⟩
      · have hcl := HO.out.cells (g := g) rfl
        have hml : (p.map fun o => (⟨(stepT o).toArray⟩ : ByteArray)).length = k := by rw [List.length_map]; exact HN.out
        have hmm : (p.map fun o => (⟨(stepT o).toArray⟩ : ByteArray)).map (·.data.toList) = p.map stepT := by rw [List.map_map]; rfl
        have HJN := Lib.hid (Tryz.strings_Join g 0 cap2 (p.map fun o => (⟨(stepT o).toArray⟩ : ByteArray)) ⟨#[32]⟩ wr (fun j x hx => by
          have := hcl j (.string x) (by
            rw [List.map_map, List.getElem?_map]
            rw [List.getElem?_map] at hx
            cases hj : p[j]? with
            | none => rw [hj] at hx; cases hx
            | some o => rw [hj] at hx; obtain rfl := Option.some.inj hx; rfl)
          rw [Addr.add_lit] at this
          exact this) (Array.getElem?_eq_some_iff.1 hg).1 (by rw [hml]; omega) (by rw [hml]; exact hnc) (by rw [hmm]; exact HJ.out))
        rw [hmm, hml] at HJN
        rw [show Lib.join (p.map stepT) (⟨#[32]⟩ : ByteArray).data.toList = printT p from rfl, HTT.out] at HJN
        clear h4 hmm hml hcl
        go_wp2_with (go_at_call 60; refine HJN.out.mono ?_; rintro e w2 ⟨rfl, hb2⟩; have HB2 := Lib.hid (HB.out.trans (hb2.mono HB.out.size)); clear hb2)
        go_ret
        exact ⟨rfl, HB2.out⟩
end Go.Proofs.YtbgccaconhmbaaaGreatDoor
namespace Go.Proofs.YtbgccaconhmbaaaGreatDoor
open Go.ChangeShapes Go.WideShapes Go.ChangeAt Go.RowKit Go.Deep
/-- What the walks ask of the world. -/
structure Rdy (w : World) : Prop where
  tab : Tabs w
  stb : Stb w
  mxl : Mxl w
theorem Rdy.below {w w' : World} (h : Rdy w) (hb : Below w.heap.size w w') : Rdy w' := ⟨h.tab.below hb, h.stb.below hb, h.mxl.below hb⟩
def exT : List UInt8 := [103, 101, 116, 32, 34, 97, 34, 32, 112, 117, 115, 104, 32, 49, 112, 48, 32, 97, 100, 100, 32, 112, 117, 116, 32, 34, 97, 34]
def exP : List OpV := [⟨1, [97], DV.none⟩, ⟨4, [], ⟨1, 4607182418800017408, []⟩⟩, ⟨5, [], DV.none⟩, ⟨2, [97], DV.none⟩]
def exS : SeenV := ⟨[97], ⟨1, 4611686018427387904, []⟩, 0, 0, 0⟩
def exW : Nm × DV := ([97], ⟨1, 4613937818241073152, []⟩)
theorem ex_parse9 : parseV exT = (exP, 0) := by decide +kernel
theorem ex_run9 : runV exP [exS] = ([exW], 0) := by decide +kernel
theorem ex_none9 : runV exP [] = ([], 8) := by decide +kernel
theorem ex_print9 : printT [⟨1, [97], DV.none⟩] = [103, 101, 116, 32, 34, 97, 34] := by decide +kernel
theorem ex_same9 : sameV ⟨1, 4613937818241073152, []⟩ ⟨1, 4613937818241073152, []⟩ = true := by decide +kernel
theorem num_wf {x : Nat} (h : x < 18446744073709551616) : (DV.mk 1 x []).wf := ⟨⟨show (-9223372036854775808 : Int) ≤ 1 by decide, show (1 : Int) < 9223372036854775808 by decide⟩, h, Nat.zero_le _⟩
theorem ex_wf9 : ∀ o ∈ exP, o.v.wf := by
  intro o ho
  simp only [exP, List.mem_cons, List.not_mem_nil, or_false] at ho
  rcases ho with rfl | rfl | rfl | rfl
  · exact none_wf
  · exact num_wf (by decide)
  · exact none_wf
  · exact none_wf
theorem ex_swf9 : ∀ s ∈ [exS], s.wf := by
  intro s hs
  obtain rfl : s = exS := by simpa using hs
  exact ⟨by show 1 ≤ _; decide, num_wf (by decide), ⟨by show (-9223372036854775808 : Int) ≤ 0; decide, by show (0 : Int) < _; decide⟩, ⟨by show (-9223372036854775808 : Int) ≤ 0; decide, by show (0 : Int) < _; decide⟩, ⟨by show (-9223372036854775808 : Int) ≤ 0; decide, by show (0 : Int) < _; decide⟩⟩
theorem ex_pok9 : ∀ o ∈ exP.take 1, Pok o := by
  intro o ho
  obtain rfl : o = ⟨1, [97], DV.none⟩ := by simpa [exP] using ho
  exact ⟨by show 1 ≤ _; decide, by show 0 ≤ _; decide, by show 0 < _; decide⟩
theorem cap_ge {α : Type} {f : α → List Value} {sz : Nat} {P : Nat → Prop} {w : World} {ao : Option Addr} {n c : Nat} {l : List α} (h : HasG f sz P w (.slice ao n c) l) : l.length ≤ c := by
  obtain ⟨ao', cap, h1, h2, _⟩ := h
  injection h1 with e1 e2 e3
  omega
theorem row_seen (w : World) (s : SeenV) : HasN (fun k => k = w.heap.size) (w.alloc (snobj s)) (.slice (some ⟨w.heap.size, 0, none⟩) 1 1) [s] := by
  refine ⟨_, _, rfl, Nat.le_refl _, by decide, (fun h => by cases h), .inr ⟨w.heap.size, 0, rfl, rfl, by simp, fun i hi => ?_⟩⟩
  obtain rfl : i = 0 := by simpa using hi
  intro j u hu
  rw [Nat.zero_mul, Nat.add_zero, Nat.zero_add]
  exact cell_box (heap_alloc_new w _) (by rw [← hu, List.getElem_cons_zero]; simp [snC])
set_option maxRecDepth 100000 in
set_option maxHeartbeats 1000000 in
theorem first9_gen (w : World) (hR : Rdy w) {p : List OpV} {sn : SeenV} (hsn : sn = ⟨[97], ⟨1, 4611686018427387904, []⟩, 0, 0, 0⟩) (hl : p.length = 4) (hpa : parseV exT = (p, 0)) (hr1 : runV p [sn] = ([([97], ⟨1, 4613937818241073152, []⟩)], 0)) (hr2 : runV p [] = ([], 8))
    (hw : ∀ o ∈ p, o.v.wf) (hws : ∀ s ∈ [sn], s.wf) (hpk : ∀ o ∈ p.take 1, Pok o) (hpt : printT (p.take 1) = [103, 101, 116, 32, 34, 97, 34]) :
    Calls Tryz.prog 11 #[] w fun e w' => e = .returned (.bool true) ∧ Below w.heap.size w w' := by
  have hst := run_stf
  have HR := Lib.hid hR
  have HPA := Lib.hid (pparse_any ⟨exT.toArray⟩ (by rw [Lib.size_eq]; decide) w hR.mxl hR.stb)
  rw [show (⟨exT.toArray⟩ : ByteArray).data.toList = exT from rfl, hpa] at HPA
  have HV := fun w => Lib.hid (value_any ⟨1, 4613937818241073152, []⟩ ⟨1, 4613937818241073152, []⟩ w)
  rw [ex_same9] at HV
  have HL := Lib.hid hl
  have HU1 : Hid (∀ {P Q : Nat → Prop} {w : World} {vp vs : Value}, HasO P w vp p → HasN Q w vs [sn] → Rdy w → Calls Tryz.prog 24 #[vp, vs] w (Ran w ([([97], ⟨1, 4613937818241073152, []⟩)], 0))) := Lib.hid (fun a b c => by
    have := run_any a b c.stb.stp (by show 1 ≤ _; decide) hw hws
    rwa [hr1] at this)
  have HU2 : Hid (∀ {P : Nat → Prop} {w : World} {vp : Value}, HasO P w vp p → Rdy w → Calls Tryz.prog 24 #[vp, .slice none 0 0] w (Ran w ([], 8))) := Lib.hid (fun a c => by
    have := run_any a (hasG_nil (fun _ => False) _) c.stb.stp (by show 0 ≤ _; decide) hw (fun s hs => by cases hs)
    rwa [hr2] at this)
  have HPT : Hid (∀ {P : Nat → Prop} {w : World} {v : Value}, HasO P w v (p.take 1) → Rdy w → Calls Tryz.prog 30 #[v] w fun e w' => e = .returned (.string ⟨#[103, 101, 116, 32, 34, 97, 34]⟩) ∧ Below w.heap.size w w') := Lib.hid (fun a c => by
    have := pprint_any a hpk (by rw [List.length_take]; omega) (by rw [hpt]; show 7 ≤ _; decide) c.stb.stp c.tab
    rwa [hpt] at this)
  have HSN : Hid (∀ w : World, HasN (fun k => k = w.heap.size) (w.alloc (.cells #[.string ⟨#[97]⟩, .int .i64 1, .float .f64 4611686018427387904, .string ⟨#[]⟩, .int .i64 0, .int .i64 0, .int .i64 0] 52)) (.slice (some ⟨w.heap.size, 0, none⟩) 1 1) [sn]) := Lib.hid (fun w => by subst hsn; exact row_seen w _)
  clear hR hl hpa hr1 hr2 hw hws hpk hpt hsn
  go_enter Tryz.func11, Tryz.ntmps11
  go_wp2_with (first
    | (go_at_call 28; refine HPA.out.mono ?_; rintro e w1 ⟨v, rfl, hb, ho⟩; have HB1 := Lib.hid hb; have HR1 := Lib.hid (HR.out.below hb); have HO1 := Lib.hid (own_hasG opC_len ho); rw [HL.out] at ho; obtain ⟨gp, cp, rfl⟩ := own_shape ho (by decide); have hcp : 4 ≤ cp := Nat.le_trans (Nat.le_of_eq HL.out.symm) (cap_ge HO1.out); have hcp0 : ¬ ((cp : Int) < 1) := (by omega); have HB2 := Lib.hid (hb.trans ((below1 w1 (.cells #[.string ⟨#[97]⟩, .int .i64 1, .float .f64 4611686018427387904, .string ⟨#[]⟩, .int .i64 0, .int .i64 0, .int .i64 0] 52)).mono hb.size)); have HR2 := Lib.hid ((HR.out.below hb).below (below1 w1 (.cells #[.string ⟨#[97]⟩, .int .i64 1, .float .f64 4611686018427387904, .string ⟨#[]⟩, .int .i64 0, .int .i64 0, .int .i64 0] 52))); have HO2 := Lib.hid (HO1.out.below (below1 w1 (.cells #[.string ⟨#[97]⟩, .int .i64 1, .float .f64 4611686018427387904, .string ⟨#[]⟩, .int .i64 0, .int .i64 0, .int .i64 0] 52))); clear hb ho)
    | (go_at_call 24; first
      | (refine (HU2.out HO3.out HR3.out).mono ?_; rintro e w3 ⟨v3, rfl, hb, _⟩; have HB4 := Lib.hid (HB3.out.trans (hb.mono HB3.out.size)); have HR4 := Lib.hid (HR3.out.below hb); have HO4 := Lib.hid (HO3.out.below hb); have HW4 := Lib.hid (own_below HW3.out hb); have HT4 := Lib.hid (HO4.out.take (k := 1) (by decide)); have k0 := HW4.out.cells (g := gw) rfl 0 _ rfl; have k1 := HW4.out.cells (g := gw) rfl 1 _ rfl; have k2 := HW4.out.cells (g := gw) rfl 2 _ rfl; have k3 := HW4.out.cells (g := gw) rfl 3 _ rfl; rw [Addr.add_lit] at k0 k1 k2 k3; simp only [Nat.zero_add] at k0 k1 k2 k3; clear hb)
      | (refine (HU1.out HO2.out (HSN.out w1) HR2.out).mono ?_; rintro e w2 ⟨v2, rfl, hb, ho⟩; have HB3 := Lib.hid (HB2.out.trans (hb.mono HB2.out.size)); have HR3 := Lib.hid (HR2.out.below hb); have HO3 := Lib.hid (HO2.out.below hb); have HW3 := Lib.hid ho; obtain ⟨gw, cw, rfl⟩ := own_shape ho (by decide); clear hb ho))
    | (go_at_call 34; refine (HV _).out.mono ?_; rintro e w5 ⟨rfl, hb⟩; have HB5 := Lib.hid (HB4.out.trans (hb.mono HB4.out.size)); have HR5 := Lib.hid (HR4.out.below hb); have HT5 := Lib.hid (HT4.out.below hb); clear hb)
    | (go_at_call 30; refine (HPT.out HT5.out HR5.out).mono ?_; rintro e w6 ⟨rfl, hb⟩; have HB6 := Lib.hid (HB5.out.trans (hb.mono HB5.out.size)); clear hb))
  go_ret
  exact ⟨rfl, HB6.out⟩
/-- racelaw9.first answers true. -/
theorem first9_any (w : World) (hR : Rdy w) : Calls Tryz.prog 11 #[] w fun e w' => e = .returned (.bool true) ∧ Below w.heap.size w w' :=
  first9_gen w hR (p := exP) (sn := exS) rfl rfl ex_parse9 ex_run9 ex_none9 ex_wf9 ex_swf9 ex_pok9 ex_print9
end Go.Proofs.YtbgccaconhmbaaaGreatDoor
namespace Go.Proofs.YtbgccaconhmbaaaGreatDoor
open Go.ChangeShapes Go.WideShapes Go.ChangeAt Go.RowKit Go.Deep
def weiO (l : List OpV) : Nat := (l.map fun p => min p.key.length 20001 + min p.v.s.length 20001).sum
def fewO (l : List OpV) : Bool := decide (l.length ≤ 200) && decide (weiO (l.take 200) ≤ 20000)
theorem weiO_take {l : List OpV} {k : Nat} (h : k < l.length) : weiO (l.take (k + 1)) = weiO (l.take k) + (min l[k].key.length 20001 + min l[k].v.s.length 20001) := by
  unfold weiO
  rw [List.take_succ_eq_append_getElem h, List.map_append, List.sum_append]
  simp
theorem weiO_le (l : List OpV) : weiO l ≤ l.length * 40002 := by
  induction l with
  | nil => simp [weiO]
  | cons p r ih =>
    have e : weiO (p :: r) = (min p.key.length 20001 + min p.v.s.length 20001) + weiO r := rfl
    rw [e, List.length_cons, Nat.add_mul]
    omega
theorem fewO_yes {l : List OpV} (h : fewO l = true) : l.length ≤ 200 ∧ weiO l ≤ 20000 := by
  unfold fewO at h
  simp only [Bool.and_eq_true, decide_eq_true_eq] at h
  obtain ⟨h1, h2⟩ := h
  rw [List.take_of_length_le h1] at h2
  exact ⟨h1, h2⟩
theorem weiO_mem {l : List OpV} (h : weiO l ≤ 20000) : ∀ p ∈ l, p.key.length ≤ 20000 ∧ p.v.s.length ≤ 20000 := by
  induction l with
  | nil => intro p hp; cases hp
  | cons u r ih =>
    have e : weiO (u :: r) = (min u.key.length 20001 + min u.v.s.length 20001) + weiO r := rfl
    intro p hp
    rcases List.mem_cons.1 hp with rfl | hp
    · omega
    · exact ih (by omega) p hp
set_option maxRecDepth 100000 in
set_option maxHeartbeats 1000000 in
theorem fewO_any {P : Nat → Prop} {w : World} {v : Value} {l : List OpV} (h : HasO P w v l) (hwf : ∀ o ∈ l, o.wf) :
    Calls Tryz.prog 12 #[v] w fun e w' => e = .returned (.bool (fewO l)) ∧ Below w.heap.size w w' := by
  obtain ⟨ao, cap, rfl, hca, hcm, _, h4⟩ := h
  obtain ⟨n, hn⟩ : ∃ n, l.length = n := ⟨_, rfl⟩
  rw [hn] at hca
  rw [hn]
  have hlt : n ≤ maxLen := Nat.le_trans hca hcm
  unfold maxLen at hlt
  have HL := Lib.hid hn.symm
  have HWF := Lib.hid hwf
  clear hn hca hcm hwf
  go_enter Tryz.func12, Tryz.ntmps12
  go_wp2
  go_loopw [3, 4] (fun s i wr => ∃ k : Nat, k ≤ n ∧ k ≤ 200 ∧ i = .int .i64 k ∧ s = .int .i64 (weiO (l.take k) : Nat) ∧ Hid (Below w.heap.size w wr)) (fun _ i _ => 200 - (intOf i).toNat)
  case atStart => exact ⟨0, Nat.zero_le _, Nat.zero_le _, rfl, rfl, Lib.hid (Below.refl _ _)⟩
  case round =>
    obtain ⟨k, hk, hk4, rfl, rfl, HB⟩ := hrel
    have hw := weiO_le (l.take k)
    rw [List.length_take] at hw
    by_cases hlt2 : k < n ∧ k < 200
    · obtain ⟨hkn, hk100⟩ := hlt2
      have hkl : k < l.length := by rw [← HL.out]; exact hkn
      obtain ⟨b, off, rfl, _, hb, hc⟩ := h4.resolve_left (fun e => by rw [e] at hkl; exact absurd hkl (Nat.not_lt_zero _))
      have ho := ((hc k hkl).below HB.out hb).op
      have hwk := HWF.out _ (List.getElem_mem hkl)
      have HW := Lib.hid (weiO_take hkl)
      have c1 := ho.c1
      have c4 := ho.c4
      clear ho hc h4
      have n1 := hwk.2.1
      have n2 := hwk.2.2.2.2
      generalize l[k].key = ky at *
      generalize l[k].v.s = nm at *
      clear hwk
      have m1 : min (ky.length : Int) 20001 = ((min ky.length 20001 : Nat) : Int) := by omega
      have m3 : min (nm.length : Int) 20001 = ((min nm.length 20001 : Nat) : Int) := by omega
      go_wp2
      go_quiet (fail)
      have HB2 := Lib.hid (HB.out.trans ((below_drewN wr nq).mono HB.out.size))
      generalize wr.drewN nq = w2 at *
      go_wp2
      go_roundw
      case rel => exact ⟨k + 1, by omega, by omega, by go_num, by rw [HW.out]; congr 1; omega, HB2⟩
      case measure => simp [intOf]; omega
    · by_cases hkn : k < n
      · have hf := Lib.hid (show fewO l = false by unfold fewO; rw [← HL.out, decide_eq_false (by omega)]; rfl)
        have h100 : ¬ (k : Int) < 200 := by omega
        have hn100 : ¬ (n : Int) ≤ 200 := by omega
        clear hw hlt2
        generalize weiO (l.take k) = s at *
        go_wp2
        go_ret
        rw [hf.out]
        exact ⟨rfl, HB.out⟩
      · obtain rfl : k = n := by omega
        have hf := Lib.hid (show fewO l = decide (((weiO (l.take k) : Nat) : Int) ≤ 20000) by
          unfold fewO
          rw [← HL.out, decide_eq_true hk4, Bool.true_and, List.take_of_length_le (by rw [← HL.out]; exact hk4), List.take_of_length_le (by rw [← HL.out]; exact Nat.le_refl _)]
          by_cases hc : weiO l ≤ 20000
          · rw [decide_eq_true hc, decide_eq_true (by omega)]
          · rw [decide_eq_false hc, decide_eq_false (by omega)])
        clear hw hlt2
        generalize weiO (l.take k) = s at *
        go_wp2
        go_ret
        rw [hf.out]
        exact ⟨rfl, HB.out⟩
end Go.Proofs.YtbgccaconhmbaaaGreatDoor
namespace Go.Proofs.YtbgccaconhmbaaaGreatDoor
open Go.ChangeShapes Go.WideShapes Go.ChangeAt Go.RowKit Go.Deep
def oneW (a b : Nm × DV) : Bool := a.1 == b.1 && sameV a.2 b.2
def allW : Ent DV → Ent DV → Bool
  | [], [] => true
  | a :: l, b :: m => oneW a b && allW l m
  | _, _ => false
theorem allW_len : ∀ {l m : Ent DV}, l.length ≠ m.length → allW l m = false
  | [], [], h => absurd rfl h
  | [], _ :: _, _ => rfl
  | _ :: _, [], _ => rfl
  | a :: l, b :: m, h => by
    have : l.length ≠ m.length := fun e => h (by simp [e])
    rw [allW, allW_len this, Bool.and_false]
structure WAt (w : World) (b o : Nat) (r : Nm × DV) : Prop where
  c0 : w.cell? ⟨b, o, none⟩ = some (.string ⟨r.1.toArray⟩)
  c1 : w.cell? ⟨b, o + 1, none⟩ = some (.int .i64 r.2.k)
  c2 : w.cell? ⟨b, o + 2, none⟩ = some (.float .f64 r.2.x)
  c3 : w.cell? ⟨b, o + 3, none⟩ = some (.string ⟨r.2.s.toArray⟩)
theorem Lies.wr {w : World} {b o : Nat} {r : Nm × DV} (h : Lies wrC w b o r) : WAt w b o r := ⟨h 0 _ rfl, h 1 _ rfl, h 2 _ rfl, h 3 _ rfl⟩
theorem WAt.below {B : Nat} {w w' : World} {b o : Nat} {r : Nm × DV} (h : WAt w b o r) (hb : Below B w w') (hl : b < B) : WAt w' b o r :=
  ⟨(hb.cell (p := ⟨b, o, none⟩) hl).trans h.c0, (hb.cell (p := ⟨b, o + 1, none⟩) hl).trans h.c1, (hb.cell (p := ⟨b, o + 2, none⟩) hl).trans h.c2, (hb.cell (p := ⟨b, o + 3, none⟩) hl).trans h.c3⟩
set_option maxRecDepth 100000 in
set_option maxHeartbeats 2000000 in
theorem writes_any {P Q : Nat → Prop} {w : World} {va vb : Value} {l m : Ent DV} (ha : HasW P w va l) (hb : HasW Q w vb m) :
    Calls Tryz.prog 26 #[va, vb] w fun e w' => e = .returned (.bool (allW l m)) ∧ Below w.heap.size w w' := by
  obtain ⟨ao, cap, rfl, hca, hcm, _, h4⟩ := ha
  have hlt := Nat.le_trans hca hcm
  unfold maxLen at hlt
  clear hca hcm
  obtain ⟨ao2, cap2, rfl, _, _, _, h5⟩ := hb
  by_cases hlen : l.length = m.length
  · rw [← hlen]
    obtain ⟨n, hn⟩ : ∃ n, l.length = n := ⟨_, rfl⟩
    rw [hn]
    rw [hn] at hlt
    have HL := Lib.hid hn.symm
    have HM := Lib.hid (hn.symm.trans hlen)
    clear hn hlen
    obtain ⟨R, hR⟩ : ∃ R, allW l m = R := ⟨_, rfl⟩
    rw [hR]
    have HR := Lib.hid hR
    clear hR
    go_enter Tryz.func26, Tryz.ntmps26
    go_wp2
    go_loopw [5] (fun i wr => ∃ k : Nat, k ≤ n ∧ i = .int .i64 k ∧ Hid (allW (l.drop k) (m.drop k) = R) ∧ Hid (Below w.heap.size w wr)) (fun i _ => n - (intOf i).toNat)
    case atStart => exact ⟨0, Nat.zero_le _, rfl, HR, Lib.hid (Below.refl _ _)⟩
    case round =>
      obtain ⟨k, hk, rfl, HK, HB⟩ := hrel
      by_cases hkn : k < n
      · have hkl : k < l.length := by rw [← HL.out]; exact hkn
        have hkm : k < m.length := by rw [← HM.out]; exact hkn
        obtain ⟨b, o, rfl, _, hb, hc⟩ := h4.resolve_left (fun e => by rw [e] at hkl; exact absurd hkl (Nat.not_lt_zero _))
        obtain ⟨b2, o2, rfl, _, hb2, hc2⟩ := h5.resolve_left (fun e => by rw [e] at hkm; exact absurd hkm (Nat.not_lt_zero _))
        have HA := Lib.hid (((hc k hkl).below HB.out hb).wr)
        have HA2 := Lib.hid (((hc2 k hkm).below HB.out hb2).wr)
        have hK2 : (oneW l[k] m[k] && allW (l.drop (k + 1)) (m.drop (k + 1))) = R := by
          have := HK.out
          rw [List.drop_eq_getElem_cons hkl, List.drop_eq_getElem_cons hkm] at this
          exact this
        clear h4 h5 hc hc2 HK HR
        generalize l[k] = x at *
        generalize m[k] = y at *
        have hbw := HB.out.size
        have hbl : b < wr.heap.size := by omega
        have hbl2 : b2 < wr.heap.size := by omega
        obtain ⟨x1, ⟨x2, x3, x4⟩⟩ := x
        obtain ⟨y1, ⟨y2, y3, y4⟩⟩ := y
        have e0 := HA.out.c0; have e1 := HA.out.c1; have e2 := HA.out.c2; have e3 := HA.out.c3
        have d0 := HA2.out.c0; have d1 := HA2.out.c1; have d2 := HA2.out.c2; have d3 := HA2.out.c3
        by_cases hk1 : x1 = y1
        · subst hk1
          have HV := fun w => Lib.hid (value_any ⟨x2, x3, x4⟩ ⟨y2, y3, y4⟩ w)
          have hK3 : (sameV ⟨x2, x3, x4⟩ ⟨y2, y3, y4⟩ && allW (l.drop (k + 1)) (m.drop (k + 1))) = R := by
            have := hK2
            unfold oneW at this
            simpa using this
          clear hK2
          generalize sameV ⟨x2, x3, x4⟩ ⟨y2, y3, y4⟩ = sv at *
          have HK3 := Lib.hid hK3
          clear hK3
          go_wp2
          have HA := Lib.hid (HA.out.below (Below.refl wr.heap.size wr).drew hbl)
          have HA2 := Lib.hid (HA2.out.below (Below.refl wr.heap.size wr).drew hbl2)
          have HB := Lib.hid HB.out.drew
          have hsz : wr.heap.size ≤ wr.drew.heap.size := Nat.le_refl _
          go_region_held (fun w' => w'.cell? ⟨b, o + k * 4, none⟩ = some (.string ⟨x1.toArray⟩) ∧ w'.cell? ⟨b, o + k * 4 + 1, none⟩ = some (.int .i64 x2) ∧ w'.cell? ⟨b, o + k * 4 + 2, none⟩ = some (.float .f64 x3) ∧ w'.cell? ⟨b, o + k * 4 + 3, none⟩ = some (.string ⟨x4.toArray⟩) ∧ w'.cell? ⟨b2, o2 + k * 4, none⟩ = some (.string ⟨x1.toArray⟩) ∧ w'.cell? ⟨b2, o2 + k * 4 + 1, none⟩ = some (.int .i64 y2) ∧ w'.cell? ⟨b2, o2 + k * 4 + 2, none⟩ = some (.float .f64 y3) ∧ w'.cell? ⟨b2, o2 + k * 4 + 3, none⟩ = some (.string ⟨y4.toArray⟩)) (exact ⟨HA.out.c0, HA.out.c1, HA.out.c2, HA.out.c3, HA2.out.c0, HA2.out.c1, HA2.out.c2, HA2.out.c3⟩)
            ((go_at_call 34; refine (HV _).out.mono ?_; rintro e w6 ⟨rfl, hb6⟩; have HA := Lib.hid (HA.out.below hb6 hbl); have HA2 := Lib.hid (HA2.out.below hb6 hbl2); have HB := Lib.hid (HB.out.trans (hb6.mono HB.out.size)); clear hb6))
          cases sv with
          | false =>
            have hR0 : false = R := by have := HK3.out; simpa using this
            subst hR0
            go_wp2
            go_ret
            exact ⟨rfl, HB.out⟩
          | true =>
            go_wp2
            go_roundw
            case rel => exact ⟨k + 1, by omega, by go_num, Lib.hid (by have := HK3.out; simpa using this), HB⟩
            case measure => simp [intOf]; omega
        · have hR0 : false = R := by
            rw [← hK2]; unfold oneW; rw [beq_eq_false_iff_ne.2 hk1]; simp
          subst hR0
          have hne : (x1 == y1) = false := beq_eq_false_iff_ne.2 hk1
          have hnd : decide (x1 = y1) = false := decide_eq_false hk1
          clear hK2 hk1
          go_wp2
          go_quiet (fail)
          have HB2 := Lib.hid (HB.out.trans ((below_drewN wr nq).mono HB.out.size))
          generalize wr.drewN nq = w2 at *
          go_wp2
          go_ret
          exact ⟨rfl, HB2.out⟩
      · obtain rfl : k = n := by omega
        have hr : true = R := by
          have := HK.out
          rw [List.drop_of_length_le (by rw [← HL.out]; exact Nat.le_refl _), List.drop_of_length_le (by rw [← HM.out]; exact Nat.le_refl _)] at this
          exact this
        subst hr
        clear h4 h5 HK HR
        go_wp2
        go_ret
        exact ⟨rfl, HB.out⟩
  · rw [allW_len hlen]
    have h1 : ¬ (l.length : Int) = (m.length : Int) := by omega
    clear h4 h5 hlen hlt
    generalize l.length = a at *
    generalize m.length = b at *
    go_enter Tryz.func26, Tryz.ntmps26
    go_wp2
    go_ret
    exact ⟨rfl, Below.refl _ _⟩
end Go.Proofs.YtbgccaconhmbaaaGreatDoor
namespace Go.Proofs.YtbgccaconhmbaaaGreatDoor
open Go.ChangeShapes Go.WideShapes Go.ChangeAt Go.RowKit Go.Deep
def fewM (n m : Int) : Int := if 20000 < m ∨ 20000 < n then 20001 else IntKind.i64.wrap (n + m)
theorem fewM_any (n m : Int) (w : World) :
    Calls Tryz.prog 70 #[.int .i64 n, .int .i64 m, .int .i64 20000] w fun e w' => e = .returned (.int .i64 (fewM n m)) ∧ w' = w := by
  by_cases h : 20000 < m
  · rw [show fewM n m = 20001 from if_pos (.inl h)]
    have h1 : m > 20000 := h
    clear h
    go_enter Tryz.func70, Tryz.ntmps70
    go_wp2
    go_ret
    exact ⟨rfl, rfl⟩
  · have h1 : ¬ m > 20000 := h
    by_cases h2 : 20000 < n
    · rw [show fewM n m = 20001 from if_pos (.inr h2)]
      have h3 : n > 20000 := h2
      clear h h2
      go_enter Tryz.func70, Tryz.ntmps70
      go_wp2
      go_ret
      exact ⟨rfl, rfl⟩
    · have h3 : ¬ n > 20000 := h2
      rw [show fewM n m = IntKind.i64.wrap (n + m) from if_neg (by omega)]
      clear h h2
      obtain ⟨q, hq⟩ : ∃ q, IntKind.i64.wrap (n + m) = q := ⟨_, rfl⟩
      rw [hq]
      go_enter Tryz.func70, Tryz.ntmps70
      go_wp2
      go_ret
      exact ⟨rfl, rfl⟩
def weighF : Int → List SeenV → Int
  | n, [] => n
  | n, s :: r => if n ≤ 20000 then weighF (fewM (fewM n (IntKind.i64.wrap (1 + (s.key.length : Int)))) (s.v.s.length : Int)) r else n
def fewS (l : List SeenV) : Bool := decide (l.length ≤ 200) && decide (weighF 0 l ≤ 20000)
set_option maxRecDepth 100000 in
set_option maxHeartbeats 1000000 in
theorem weighS_any {P : Nat → Prop} {w : World} {v : Value} {l : List SeenV} (h : HasN P w v l) :
    Calls Tryz.prog 44 #[v, .int .i64 20000] w fun e w' => e = .returned (.int .i64 (weighF 0 l)) ∧ Below w.heap.size w w' := by
  obtain ⟨ao, cap, rfl, hca, hcm, _, h4⟩ := h
  obtain ⟨n, hn⟩ : ∃ n, l.length = n := ⟨_, rfl⟩
  rw [hn] at hca
  rw [hn]
  have hlt : n ≤ maxLen := Nat.le_trans hca hcm
  unfold maxLen at hlt
  have HL := Lib.hid hn.symm
  clear hn hca hcm
  obtain ⟨R, hR⟩ : ∃ R, weighF 0 l = R := ⟨_, rfl⟩
  rw [hR]
  have HR := Lib.hid hR
  clear hR
  go_enter Tryz.func44, Tryz.ntmps44
  go_wp2
  go_loopw [5, 6] (fun s i wr => ∃ (k : Nat) (t : Int), k ≤ n ∧ i = .int .i64 k ∧ s = .int .i64 t ∧ Hid (weighF t (l.drop k) = R) ∧ Hid (Below w.heap.size w wr)) (fun _ i _ => n - (intOf i).toNat)
  case atStart => exact ⟨0, 0, Nat.zero_le _, rfl, rfl, HR, Lib.hid (Below.refl _ _)⟩
  case round =>
    obtain ⟨k, t, hk, rfl, rfl, HK, HB⟩ := hrel
    by_cases hkn : k < n
    · have hkl : k < l.length := by rw [← HL.out]; exact hkn
      by_cases ht2 : t ≤ 20000
      · obtain ⟨b, off, rfl, _, hb, hc⟩ := h4.resolve_left (fun e => by rw [e] at hkl; exact absurd hkl (Nat.not_lt_zero _))
        have ho := ((hc k hkl).below HB.out hb).sn
        have c0 := ho.c0
        have c3 := ho.c3
        have hK2 : weighF (fewM (fewM t (IntKind.i64.wrap (1 + (l[k].key.length : Int)))) (l[k].v.s.length : Int)) (l.drop (k + 1)) = R := by
          have := HK.out
          rw [List.drop_eq_getElem_cons hkl] at this
          unfold weighF at this
          rwa [if_pos ht2] at this
        clear ho hc h4 HK
        generalize l[k].key = ky at *
        generalize l[k].v.s = nm at *
        have hM1 := fun w => Lib.hid (fewM_any t (IntKind.i64.wrap (1 + (ky.length : Int))) w)
        have hM2 := fun w => Lib.hid (fewM_any (fewM t (IntKind.i64.wrap (1 + (ky.length : Int)))) (nm.length : Int) w)
        have HK2 := Lib.hid hK2
        clear hK2
        generalize hq1 : fewM t (IntKind.i64.wrap (1 + (ky.length : Int))) = q1 at *
        generalize hq2 : fewM q1 (nm.length : Int) = q2 at *
        clear hq1 hq2
        go_wp2
        go_quiet (first
          | (go_at_call 70; with_reducible exact Calls.quiet_of_same (hM1 _).out)
          | (go_at_call 70; with_reducible exact Calls.quiet_of_same (hM2 _).out))
        have HB2 := Lib.hid (HB.out.trans ((below_drewN wr nq).mono HB.out.size))
        generalize wr.drewN nq = w2 at *
        go_wp2
        go_roundw
        case rel => exact ⟨k + 1, q2, by omega, by go_num, rfl, HK2, HB2⟩
        case measure => simp [intOf]; omega
      · have hr : t = R := by
          have := HK.out
          rw [List.drop_eq_getElem_cons hkl] at this
          unfold weighF at this
          rwa [if_neg ht2] at this
        subst hr
        clear h4 HR HK
        go_wp2
        go_ret
        exact ⟨rfl, HB.out⟩
    · obtain rfl : k = n := by omega
      have hr : t = R := by
        have := HK.out
        rw [List.drop_of_length_le (by rw [← HL.out]; exact Nat.le_refl _)] at this
        unfold weighF at this
        exact this
      subst hr
      clear h4 HR HK
      go_wp2
      go_ret
      exact ⟨rfl, HB.out⟩
set_option maxRecDepth 100000 in
theorem fewS_any {P : Nat → Prop} {w : World} {v : Value} {l : List SeenV} (h : HasN P w v l) :
    Calls Tryz.prog 22 #[v] w fun e w' => e = .returned (.bool (fewS l)) ∧ Below w.heap.size w w' := by
  have HW := Lib.hid (weighS_any h)
  obtain ⟨ao, cap, rfl, hca, hcm, _, _⟩ := h
  unfold fewS
  obtain ⟨n, hn⟩ : ∃ n, l.length = n := ⟨_, rfl⟩
  rw [hn] at HW
  rw [hn]
  generalize weighF 0 l = s at *
  clear hca hcm hn
  by_cases h2 : n ≤ 200
  · rw [decide_eq_true h2, Bool.true_and]
    have h3 : decide ((n : Int) ≤ 200) = true := decide_eq_true (by omega)
    go_enter Tryz.func22, Tryz.ntmps22
    go_wp2_with (go_at_call 44; refine HW.out.mono ?_; rintro e w2 ⟨rfl, hb⟩; have HB := Lib.hid hb; clear hb)
    go_ret
    exact ⟨by simp, HB.out⟩
  · rw [decide_eq_false h2, Bool.false_and]
    have h3 : decide ((n : Int) ≤ 200) = false := decide_eq_false (by omega)
    have h5 : ¬ (n : Int) ≤ 200 := by omega
    go_enter Tryz.func22, Tryz.ntmps22
    go_wp2_with (fail)
    go_ret
    exact ⟨rfl, Below.refl _ _⟩
end Go.Proofs.YtbgccaconhmbaaaGreatDoor
namespace Go.Proofs.YtbgccaconhmbaaaGreatDoor
open Go.ChangeShapes Go.WideShapes Go.ChangeAt Go.RowKit Go.Deep
def KeyR (w : World) (R : List Nm) (n : Nat) (e : Ending) (w' : World) : Prop :=
  ∃ ao cap, e = .returned (.slice ao n cap) ∧ Below w.heap.size w w' ∧ HasS (fun k => w.heap.size ≤ k) w' (.slice ao n cap) R
theorem readsS_any {P : Nat → Prop} {w : World} {v : Value} {l : List OpV} (hv : HasO P w v l) (hm : l.length ≤ 1000000) {R : List Nm} (hR : readsV l = R) {n : Nat} (hn : R.length = n) :
    Calls Tryz.prog 14 #[v] w (KeyR w R n) :=
  (reads_any hv hm).mono fun e w' ⟨u, h1, h2, h3⟩ => by
    rw [hR] at h3
    have h4 := own_keys h3
    obtain ⟨ao, cap, rfl⟩ := own_sl h3
    rw [hn] at h1 h4
    exact ⟨ao, cap, h1, h2, h4⟩
theorem namesS_any {P : Nat → Prop} {w : World} {v : Value} {l : List OpV} (hv : HasO P w v l) (hm : l.length ≤ 1000000) {R : List Nm} (hR : namesV l = R) {n : Nat} (hn : R.length = n) :
    Calls Tryz.prog 15 #[v] w (KeyR w R n) :=
  (names_any hv hm).mono fun e w' ⟨u, h1, h2, h3⟩ => by
    rw [hR] at h3
    have h4 := own_keys h3
    obtain ⟨ao, cap, rfl⟩ := own_sl h3
    rw [hn] at h1 h4
    exact ⟨ao, cap, h1, h2, h4⟩
theorem keyS_at {P : Nat → Prop} {w : World} {ao : Option Addr} {n cap : Nat} {l : List Nm} (h : HasS P w (.slice ao n cap) l) {k : Nat} (hk : k < l.length) :
    ∃ b o, ao = some ⟨b, o, none⟩ ∧ w.cell? ⟨b, o + k, none⟩ = some (.string ⟨l[k].toArray⟩) := by
  obtain ⟨ao', cap', hv, _, _, _, h4⟩ := h
  injection hv with e1 e2 e3
  subst e1 e2 e3
  obtain ⟨b, o, h4, _, _, hc⟩ := h4.resolve_left (fun e => by rw [e] at hk; exact absurd hk (Nat.not_lt_zero _))
  have c := hc k hk 0 _ rfl
  rw [Nat.mul_one, Nat.add_zero] at c
  exact ⟨b, o, h4, c⟩
theorem str_ne {x s : Nm} (h : x ≠ s) : decide ((⟨x.toArray⟩ : ByteArray) = ⟨s.toArray⟩) = false := decide_eq_false fun e => h (by
  have := congrArg (fun b : ByteArray => b.data.toList) e
  simpa using this)
set_option maxRecDepth 100000 in
theorem has_any {P : Nat → Prop} {w : World} {v : Value} {l : List Nm} (hv : HasS P w v l) (s : Nm) :
    Calls Tryz.prog 32 #[v, .string ⟨s.toArray⟩] w fun e w' => e = .returned (.bool (decide (s ∈ l))) ∧ Below w.heap.size w w' := by
  obtain ⟨ao, cap, rfl, hca, hcm, _, h4⟩ := hv
  obtain ⟨n, hn⟩ : ∃ n, l.length = n := ⟨_, rfl⟩
  rw [hn] at hca
  rw [hn]
  have hlt := Nat.le_trans hca hcm
  unfold maxLen at hlt
  have HL := Lib.hid hn.symm
  clear hn hca hcm
  obtain ⟨R, hR⟩ : ∃ R, decide (s ∈ l) = R := ⟨_, rfl⟩
  rw [hR]
  have HR := Lib.hid hR
  clear hR
  go_enter Tryz.func32, Tryz.ntmps32
  go_wp2
  go_loopw [5] (fun i wr => ∃ k : Nat, k ≤ n ∧ i = .int .i64 k ∧ Hid (∀ x ∈ l.take k, x ≠ s) ∧ Hid (Below w.heap.size w wr)) (fun i _ => n - (intOf i).toNat)
  case atStart => exact ⟨0, Nat.zero_le _, rfl, Lib.hid (fun x hx => by cases hx), Lib.hid (Below.refl _ _)⟩
  case round =>
    obtain ⟨k, hk, rfl, HK, HB⟩ := hrel
    by_cases hkn : k < n
    · have hkl : k < l.length := by rw [← HL.out]; exact hkn
      obtain ⟨b, o, rfl, _, hb, hc⟩ := h4.resolve_left (fun e => by rw [e] at hkl; exact absurd hkl (Nat.not_lt_zero _))
      have c0 := ((hc k hkl).below HB.out hb) 0 _ rfl
      rw [Nat.mul_one, Nat.add_zero] at c0
      have hmem := List.getElem_mem hkl
      have hK2 : l[k] ≠ s → ∀ x ∈ l.take (k + 1), x ≠ s := fun hne x hx => by
        rw [List.take_add_one, List.getElem?_eq_getElem hkl] at hx
        rcases List.mem_append.1 hx with hx | hx
        · exact HK.out x hx
        · obtain rfl : x = l[k] := by simpa using hx
          exact hne
      clear h4 hc hb
      generalize l[k] = x at *
      by_cases hx : x = s
      · subst hx
        have hr : true = R := by rw [← HR.out]; exact (decide_eq_true hmem).symm
        subst hr
        clear hK2 HK HR hmem
        go_wp2
        go_ret
        exact ⟨rfl, HB.out⟩
      · have HK2 := Lib.hid (hK2 hx)
        have hne : (x == s) = false := beq_eq_false_iff_ne.2 hx
        have hnd : decide (x = s) = false := decide_eq_false hx
        clear hK2 HK hmem hx
        go_wp2
        go_roundw
        case rel => exact ⟨k + 1, by omega, by go_num, HK2, HB⟩
        case measure => simp [intOf]; omega
    · obtain rfl : k = n := by omega
      have hr : false = R := by
        rw [← HR.out]
        have := HK.out
        rw [List.take_of_length_le (by rw [← HL.out]; exact Nat.le_refl _)] at this
        exact (decide_eq_false fun h => this s h rfl).symm
      subst hr
      clear h4 HK HR
      go_wp2
      go_ret
      exact ⟨rfl, HB.out⟩
end Go.Proofs.YtbgccaconhmbaaaGreatDoor
namespace Go.Proofs.YtbgccaconhmbaaaGreatDoor
open Go.ChangeShapes Go.WideShapes Go.ChangeAt Go.RowKit Go.Deep
set_option maxRecDepth 100000 in
set_option maxHeartbeats 1000000 in
theorem copyOps_any {P : Nat → Prop} {w : World} {v : Value} {l : List OpV} (h : HasO P w v l) (hl : l.length ≤ 1000000) :
    Calls Tryz.prog 13 #[v] w fun e w' => ∃ u, e = .returned u ∧ Below w.heap.size w w' ∧ w'.ownsRow w.heap.size 59 5 u l.length (cellsG opC l) := by
  obtain ⟨i0, hi, hz0, hz1, hz2⟩ := info_parts info_op
  obtain ⟨ao, cap, rfl, _, _, _, h4⟩ := h
  obtain ⟨n, hn⟩ : ∃ n, l.length = n := ⟨_, rfl⟩
  rw [hn] at hl
  rw [hn]
  have HL := Lib.hid hn.symm
  clear hn
  go_enter Tryz.func13, Tryz.ntmps13
  go_wp2
  go_loopw [3, 4] (fun vw vi wr => ∃ (k : Nat), vi = .int .i64 (k : Int) ∧ k ≤ n ∧ Hid (Below w.heap.size w wr) ∧ Hid (wr.ownsRow w.heap.size 59 5 vw k (cellsG opC (l.take k)))) (fun _ vi _ => n - (RowKit.intOf vi).toNat)
  case atStart => exact ⟨0, rfl, Nat.zero_le _, Lib.hid (Below.refl _ _), Lib.hid (World.ownsRow_nil _ _ _ _)⟩
  case round =>
    obtain ⟨k, rfl, hk, HB, HO⟩ := hrel
    by_cases hlt : k < n
    · have hk' : k < l.length := by rw [← HL.out]; exact hlt
      obtain ⟨b, o, rfl, _, hb, hc⟩ := h4.resolve_left (fun e => by rw [e] at hk'; exact absurd hk' (Nat.not_lt_zero _))
      have HQ := Lib.hid (((hc k hk').below HB.out hb).op)
      have HTk := Lib.hid (take_snocO hk')
      clear h4 hc
      generalize l[k] = r at *
      have r0 := HQ.out.c0; have r1 := HQ.out.c1; have r2 := HQ.out.c2; have r3 := HQ.out.c3; have r4 := HQ.out.c4
      obtain ⟨c, key, ⟨vk, vx, vs⟩⟩ := r
      go_wp2_with (at_builtin; refine wpList_append_own _ rfl (.tmp 11) (.tmp 16) 22 rfl w.heap.size 59 i0 (oagg OpV.zero) 5 56 under_ops hi hz0 hz1 hz2 rfl (by decide) _ _ _ rfl (HO.out.alloc _) ⟨wr.heap.size, 0, none⟩ 1 1 (opC ⟨c, key, ⟨vk, vx, vs⟩⟩) rfl rfl (cells_op _ ⟨c, key, ⟨vk, vx, vs⟩⟩ _ rfl) (one_op _) (by unfold maxLen; omega) (by omega) (by have := HB.out.size; simp at this ⊢; omega) ?_; intro v2 w3 hown' hgrow _; have HO3 := Lib.hid hown'; have HG3 := Lib.hid hgrow; clear hown' hgrow)
      go_roundw
      case rel => exact ⟨k + 1, by go_num, by omega, Lib.hid ((HB.out.alloc HB.out.size _).grown HG3.out (HB.out.alloc HB.out.size _).size fun q hq => (HO.out.lt q hq).1), by rw [HTk.out, cellsG_append, cellsG_one]; exact HO3⟩
      case measure => simp [RowKit.intOf]; omega
    · obtain rfl : k = n := by omega
      have hT2 : l.take k = l := List.take_of_length_le (by rw [← HL.out]; exact Nat.le_refl _)
      rw [hT2] at HO
      clear h4
      go_wp2
      go_ret
      exact ⟨_, rfl, HB.out, HO.out⟩
end Go.Proofs.YtbgccaconhmbaaaGreatDoor
namespace Go.Proofs.YtbgccaconhmbaaaGreatDoor
open Go.ChangeShapes Go.WideShapes Go.ChangeAt Go.RowKit Go.Deep
def oneN (a b : SeenV) : Bool := a.key == b.key && ((a.a == b.a && (a.b == b.b && a.c == b.c)) && sameV a.v b.v)
def allN : List SeenV → List SeenV → Bool
  | [], [] => true
  | a :: l, b :: m => oneN a b && allN l m
  | _, _ => false
theorem allN_len : ∀ {l m : List SeenV}, l.length ≠ m.length → allN l m = false
  | [], [], h => absurd rfl h
  | [], _ :: _, _ => rfl
  | _ :: _, [], _ => rfl
  | a :: l, b :: m, h => by
    have : l.length ≠ m.length := fun e => h (by simp [e])
    rw [allN, allN_len this, Bool.and_false]
theorem NAt.below {B : Nat} {w w' : World} {b o : Nat} {r : SeenV} (h : NAt w b o r) (hb : Below B w w') (hl : b < B) : NAt w' b o r :=
  ⟨(hb.cell (p := ⟨b, o, none⟩) hl).trans h.c0, (hb.cell (p := ⟨b, o + 1, none⟩) hl).trans h.c1, (hb.cell (p := ⟨b, o + 2, none⟩) hl).trans h.c2, (hb.cell (p := ⟨b, o + 3, none⟩) hl).trans h.c3, (hb.cell (p := ⟨b, o + 4, none⟩) hl).trans h.c4, (hb.cell (p := ⟨b, o + 5, none⟩) hl).trans h.c5, (hb.cell (p := ⟨b, o + 6, none⟩) hl).trans h.c6⟩
set_option maxRecDepth 100000 in
set_option maxHeartbeats 2000000 in
theorem one_any (a b : SeenV) (w : World) : Calls Tryz.prog 52 #[snagg a, snagg b] w fun e w' => e = .returned (.bool (oneN a b)) ∧ Below w.heap.size w w' := by
  obtain ⟨xk, ⟨x2, x3, x4⟩, xa, xb, xc⟩ := a
  obtain ⟨yk, ⟨y2, y3, y4⟩, ya, yb, yc⟩ := b
  by_cases hh : xk = yk
  · subst hh
    by_cases hh : xa = ya
    · subst hh
      by_cases hh : xb = yb
      · subst hh
        by_cases hh : xc = yc
        · subst hh
          have HV := fun w => Lib.hid (value_any ⟨x2, x3, x4⟩ ⟨y2, y3, y4⟩ w)
          have HE : Hid (oneN ⟨xk, ⟨x2, x3, x4⟩, xa, xb, xc⟩ ⟨xk, ⟨y2, y3, y4⟩, xa, xb, xc⟩ = sameV ⟨x2, x3, x4⟩ ⟨y2, y3, y4⟩) := Lib.hid (by unfold oneN; simp)
          generalize sameV ⟨x2, x3, x4⟩ ⟨y2, y3, y4⟩ = sv at *
          have HB2 := Lib.hid ((below1 w (snobj ⟨xk, ⟨x2, x3, x4⟩, xa, xb, xc⟩)).trans ((below1 (w.alloc (snobj ⟨xk, ⟨x2, x3, x4⟩, xa, xb, xc⟩)) (snobj ⟨xk, ⟨y2, y3, y4⟩, xa, xb, xc⟩)).mono (below1 _ _).size))
          go_enter Tryz.func52, Tryz.ntmps52
          go_wp2_with (go_at_call 34; refine (HV _).out.mono ?_; rintro e w3 ⟨rfl, hb⟩; have HB3 := Lib.hid (HB2.out.trans (hb.mono HB2.out.size)); clear hb)
          go_ret
          exact ⟨by rw [HE.out]; simp, HB3.out⟩
        · have HE : Hid (oneN ⟨xk, ⟨x2, x3, x4⟩, xa, xb, xc⟩ ⟨xk, ⟨y2, y3, y4⟩, xa, xb, yc⟩ = false) := Lib.hid (by unfold oneN; simp [hh])
          have n1 : (xc == yc) = false := beq_eq_false_iff_ne.2 hh
          have n2 : decide (xc = yc) = false := decide_eq_false hh
          go_enter Tryz.func52, Tryz.ntmps52
          go_wp2
          go_ret
          exact ⟨by rw [HE.out]; rfl, (below1 _ _).trans ((below1 _ _).mono (below1 _ _).size)⟩
      · have HE : Hid (oneN ⟨xk, ⟨x2, x3, x4⟩, xa, xb, xc⟩ ⟨xk, ⟨y2, y3, y4⟩, xa, yb, yc⟩ = false) := Lib.hid (by unfold oneN; simp [hh])
        have n1 : (xb == yb) = false := beq_eq_false_iff_ne.2 hh
        have n2 : decide (xb = yb) = false := decide_eq_false hh
        go_enter Tryz.func52, Tryz.ntmps52
        go_wp2
        go_ret
        exact ⟨by rw [HE.out]; rfl, (below1 _ _).trans ((below1 _ _).mono (below1 _ _).size)⟩
    · have HE : Hid (oneN ⟨xk, ⟨x2, x3, x4⟩, xa, xb, xc⟩ ⟨xk, ⟨y2, y3, y4⟩, ya, yb, yc⟩ = false) := Lib.hid (by unfold oneN; simp [hh])
      have n1 : (xa == ya) = false := beq_eq_false_iff_ne.2 hh
      have n2 : decide (xa = ya) = false := decide_eq_false hh
      go_enter Tryz.func52, Tryz.ntmps52
      go_wp2
      go_ret
      exact ⟨by rw [HE.out]; rfl, (below1 _ _).trans ((below1 _ _).mono (below1 _ _).size)⟩
  · have HE : Hid (oneN ⟨xk, ⟨x2, x3, x4⟩, xa, xb, xc⟩ ⟨yk, ⟨y2, y3, y4⟩, ya, yb, yc⟩ = false) := Lib.hid (by unfold oneN; simp [hh])
    have n1 : (xk == yk) = false := beq_eq_false_iff_ne.2 hh
    have n2 : decide (xk = yk) = false := decide_eq_false hh
    go_enter Tryz.func52, Tryz.ntmps52
    go_wp2
    go_ret
    exact ⟨by rw [HE.out]; rfl, (below1 _ _).trans ((below1 _ _).mono (below1 _ _).size)⟩
set_option maxRecDepth 100000 in
set_option maxHeartbeats 4000000 in
theorem seen_any {P Q : Nat → Prop} {w : World} {va vb : Value} {l m : List SeenV} (ha : HasN P w va l) (hb : HasN Q w vb m) :
    Calls Tryz.prog 27 #[va, vb] w fun e w' => e = .returned (.bool (allN l m)) ∧ Below w.heap.size w w' := by
  obtain ⟨ao, cap, rfl, hca, hcm, _, h4⟩ := ha
  have hlt := Nat.le_trans hca hcm
  unfold maxLen at hlt
  clear hca hcm
  obtain ⟨ao2, cap2, rfl, _, _, _, h5⟩ := hb
  by_cases hlen : l.length = m.length
  · rw [← hlen]
    obtain ⟨n, hn⟩ : ∃ n, l.length = n := ⟨_, rfl⟩
    rw [hn]
    rw [hn] at hlt
    have HL := Lib.hid hn.symm
    have HM := Lib.hid (hn.symm.trans hlen)
    clear hn hlen
    obtain ⟨R, hR⟩ : ∃ R, allN l m = R := ⟨_, rfl⟩
    rw [hR]
    have HR := Lib.hid hR
    clear hR
    go_enter Tryz.func27, Tryz.ntmps27
    go_wp2
    go_loopw [5] (fun i wr => ∃ k : Nat, k ≤ n ∧ i = .int .i64 k ∧ Hid (allN (l.drop k) (m.drop k) = R) ∧ Hid (Below w.heap.size w wr)) (fun i _ => n - (intOf i).toNat)
    case atStart => exact ⟨0, Nat.zero_le _, rfl, HR, Lib.hid (Below.refl _ _)⟩
    case round =>
      obtain ⟨k, hk, rfl, HK, HB⟩ := hrel
      by_cases hkn : k < n
      · have hkl : k < l.length := by rw [← HL.out]; exact hkn
        have hkm : k < m.length := by rw [← HM.out]; exact hkn
        obtain ⟨b, o, rfl, _, hb, hc⟩ := h4.resolve_left (fun e => by rw [e] at hkl; exact absurd hkl (Nat.not_lt_zero _))
        obtain ⟨b2, o2, rfl, _, hb2, hc2⟩ := h5.resolve_left (fun e => by rw [e] at hkm; exact absurd hkm (Nat.not_lt_zero _))
        have hK2 : (oneN l[k] m[k] && allN (l.drop (k + 1)) (m.drop (k + 1))) = R := by
          have := HK.out
          rw [List.drop_eq_getElem_cons hkl, List.drop_eq_getElem_cons hkm] at this
          exact this
        have hbw := HB.out.size
        have hbl : b < wr.heap.size := by omega
        have hbl2 : b2 < wr.heap.size := by omega
        have HA := Lib.hid (((hc k hkl).below HB.out hb).sn)
        have HA2 := Lib.hid (((hc2 k hkm).below HB.out hb2).sn)
        generalize l[k] = x at *
        generalize m[k] = y at *
        have HV := fun w => Lib.hid (one_any x y w)
        generalize oneN x y = sv at *
        obtain ⟨xk, ⟨x2, x3, x4⟩, xa, xb, xc⟩ := x
        obtain ⟨yk, ⟨y2, y3, y4⟩, ya, yb, yc⟩ := y
        have e0 := HA.out.c0; have e1 := HA.out.c1; have e2 := HA.out.c2; have e3 := HA.out.c3; have e4 := HA.out.c4; have e5 := HA.out.c5; have e6 := HA.out.c6
        have d0 := HA2.out.c0; have d1 := HA2.out.c1; have d2 := HA2.out.c2; have d3 := HA2.out.c3; have d4 := HA2.out.c4; have d5 := HA2.out.c5; have d6 := HA2.out.c6
        have HK3 := Lib.hid hK2
        clear hK2 HK HR h4 h5 hc hc2
        go_wp2
        have HA := Lib.hid (HA.out.below (Below.refl wr.heap.size wr).drew hbl)
        have HA2 := Lib.hid (HA2.out.below (Below.refl wr.heap.size wr).drew hbl2)
        have HB := Lib.hid HB.out.drew
        have hsz : wr.heap.size ≤ wr.drew.heap.size := Nat.le_refl _
        go_region_held (fun w' => w'.cell? ⟨b, o + k * 7, none⟩ = some (.string ⟨xk.toArray⟩) ∧ w'.cell? ⟨b, o + k * 7 + 1, none⟩ = some (.int .i64 x2) ∧ w'.cell? ⟨b, o + k * 7 + 2, none⟩ = some (.float .f64 x3) ∧ w'.cell? ⟨b, o + k * 7 + 3, none⟩ = some (.string ⟨x4.toArray⟩) ∧ w'.cell? ⟨b, o + k * 7 + 4, none⟩ = some (.int .i64 xa) ∧ w'.cell? ⟨b, o + k * 7 + 5, none⟩ = some (.int .i64 xb) ∧ w'.cell? ⟨b, o + k * 7 + 6, none⟩ = some (.int .i64 xc) ∧ w'.cell? ⟨b2, o2 + k * 7, none⟩ = some (.string ⟨yk.toArray⟩) ∧ w'.cell? ⟨b2, o2 + k * 7 + 1, none⟩ = some (.int .i64 y2) ∧ w'.cell? ⟨b2, o2 + k * 7 + 2, none⟩ = some (.float .f64 y3) ∧ w'.cell? ⟨b2, o2 + k * 7 + 3, none⟩ = some (.string ⟨y4.toArray⟩) ∧ w'.cell? ⟨b2, o2 + k * 7 + 4, none⟩ = some (.int .i64 ya) ∧ w'.cell? ⟨b2, o2 + k * 7 + 5, none⟩ = some (.int .i64 yb) ∧ w'.cell? ⟨b2, o2 + k * 7 + 6, none⟩ = some (.int .i64 yc)) (exact ⟨HA.out.c0, HA.out.c1, HA.out.c2, HA.out.c3, HA.out.c4, HA.out.c5, HA.out.c6, HA2.out.c0, HA2.out.c1, HA2.out.c2, HA2.out.c3, HA2.out.c4, HA2.out.c5, HA2.out.c6⟩)
          ((go_at_call 52; refine (HV _).out.mono ?_; rintro e w6 ⟨rfl, hb6⟩; have HA := Lib.hid (HA.out.below hb6 hbl); have HA2 := Lib.hid (HA2.out.below hb6 hbl2); have HB := Lib.hid (HB.out.trans (hb6.mono HB.out.size)); clear hb6))
        cases sv with
        | false =>
          have hR0 : false = R := by have := HK3.out; simpa using this
          subst hR0
          go_wp2
          go_ret
          exact ⟨rfl, HB.out⟩
        | true =>
          go_wp2
          go_roundw
          case rel => exact ⟨k + 1, by omega, by go_num, Lib.hid (by have := HK3.out; simpa using this), HB⟩
          case measure => simp [intOf]; omega
      · obtain rfl : k = n := by omega
        have hr : true = R := by
          have := HK.out
          rw [List.drop_of_length_le (by rw [← HL.out]; exact Nat.le_refl _), List.drop_of_length_le (by rw [← HM.out]; exact Nat.le_refl _)] at this
          exact this
        subst hr
        clear h4 h5 HK HR
        go_wp2
        go_ret
        exact ⟨rfl, HB.out⟩
  · rw [allN_len hlen]
    have h1 : ¬ (l.length : Int) = (m.length : Int) := by omega
    clear h4 h5 hlen hlt
    generalize l.length = a at *
    generalize m.length = b at *
    go_enter Tryz.func27, Tryz.ntmps27
    go_wp2
    go_ret
    exact ⟨rfl, Below.refl _ _⟩
theorem allN_self : ∀ l : List SeenV, allN l l = true
  | [] => rfl
  | a :: l => by
    rw [allN, allN_self l, Bool.and_true]
    unfold oneN
    rw [sameV_self]; simp
theorem info_sn : (Tryz.prog.info? 52).map (fun i => (i.zero, i.size, i.bytes)) = some (some (snagg default), 7, 72) := by kernel_rfl
theorem under_sns : Tryz.prog.underlying 32 = some (.slice 52) := by kernel_rfl
theorem one_sn (q : SeenV) : ∀ u ∈ snC q, u.oneCell' = true := by
  intro u hu
  simp [snC] at hu
  rcases hu with rfl | rfl | rfl | rfl | rfl | rfl | rfl <;> rfl
theorem cells_sn (w : World) (q : SeenV) (n : Nat) (hn : n = w.heap.size) : ∀ j u, (snC q)[j]? = some u → (w.alloc (snobj q)).cell? ((⟨n, 0, none⟩ : Addr).add j) = some u := by
  subst hn
  intro j u hu
  rw [Addr.add_lit]
  match j, hu with
  | 0, hu => obtain rfl := Option.some.inj hu; simp [World.cell?_alloc_new]
  | 1, hu => obtain rfl := Option.some.inj hu; simp [World.cell?_alloc_new]
  | 2, hu => obtain rfl := Option.some.inj hu; simp [World.cell?_alloc_new]
  | 3, hu => obtain rfl := Option.some.inj hu; simp [World.cell?_alloc_new]
  | 4, hu => obtain rfl := Option.some.inj hu; simp [World.cell?_alloc_new]
  | 5, hu => obtain rfl := Option.some.inj hu; simp [World.cell?_alloc_new]
  | 6, hu => obtain rfl := Option.some.inj hu; simp [World.cell?_alloc_new]
  | j + 7, hu => cases hu
set_option maxRecDepth 100000 in
set_option maxHeartbeats 1000000 in
theorem copySeen_any {P : Nat → Prop} {w : World} {v : Value} {l : List SeenV} (h : HasN P w v l) (hl : l.length ≤ 1000000) :
    Calls Tryz.prog 23 #[v] w fun e w' => ∃ u, e = .returned u ∧ Below w.heap.size w w' ∧ w'.ownsRow w.heap.size 52 7 u l.length (cellsG snC l) := by
  obtain ⟨i0, hi, hz0, hz1, hz2⟩ := info_parts info_sn
  obtain ⟨ao, cap, rfl, _, _, _, h4⟩ := h
  obtain ⟨n, hn⟩ : ∃ n, l.length = n := ⟨_, rfl⟩
  rw [hn] at hl
  rw [hn]
  have HL := Lib.hid hn.symm
  clear hn
  go_enter Tryz.func23, Tryz.ntmps23
  go_wp2
  go_loopw [3, 4] (fun vw vi wr => ∃ (k : Nat), vi = .int .i64 (k : Int) ∧ k ≤ n ∧ Hid (Below w.heap.size w wr) ∧ Hid (wr.ownsRow w.heap.size 52 7 vw k (cellsG snC (l.take k)))) (fun _ vi _ => n - (RowKit.intOf vi).toNat)
  case atStart => exact ⟨0, rfl, Nat.zero_le _, Lib.hid (Below.refl _ _), Lib.hid (World.ownsRow_nil _ _ _ _)⟩
  case round =>
    obtain ⟨k, rfl, hk, HB, HO⟩ := hrel
    by_cases hlt : k < n
    · have hk' : k < l.length := by rw [← HL.out]; exact hlt
      obtain ⟨b, o, rfl, _, hb, hc⟩ := h4.resolve_left (fun e => by rw [e] at hk'; exact absurd hk' (Nat.not_lt_zero _))
      have HQ := Lib.hid (((hc k hk').below HB.out hb).sn)
      have HTk := Lib.hid (take_snocN hk')
      clear h4 hc
      generalize l[k] = r at *
      have r0 := HQ.out.c0; have r1 := HQ.out.c1; have r2 := HQ.out.c2; have r3 := HQ.out.c3; have r4 := HQ.out.c4; have r5 := HQ.out.c5; have r6 := HQ.out.c6
      obtain ⟨key, ⟨vk, vx, vs⟩, ra, rb, rc⟩ := r
      go_wp2_with (at_builtin; refine wpList_append_own _ rfl (.tmp 11) (.tmp 16) 32 rfl w.heap.size 52 i0 (snagg default) 7 72 under_sns hi hz0 hz1 hz2 rfl (by decide) _ _ _ rfl (HO.out.alloc _) ⟨wr.heap.size, 0, none⟩ 1 1 (snC ⟨key, ⟨vk, vx, vs⟩, ra, rb, rc⟩) rfl rfl (cells_sn _ ⟨key, ⟨vk, vx, vs⟩, ra, rb, rc⟩ _ rfl) (one_sn _) (by unfold maxLen; omega) (by omega) (by have := HB.out.size; simp at this ⊢; omega) ?_; intro v2 w3 hown' hgrow _; have HO3 := Lib.hid hown'; have HG3 := Lib.hid hgrow; clear hown' hgrow)
      go_roundw
      case rel => exact ⟨k + 1, by go_num, by omega, Lib.hid ((HB.out.alloc HB.out.size _).grown HG3.out (HB.out.alloc HB.out.size _).size fun q hq => (HO.out.lt q hq).1), by rw [HTk.out, cellsG_append, cellsG_one]; exact HO3⟩
      case measure => simp [RowKit.intOf]; omega
    · obtain rfl : k = n := by omega
      have hT2 : l.take k = l := List.take_of_length_le (by rw [← HL.out]; exact Nat.le_refl _)
      rw [hT2] at HO
      clear h4
      go_wp2
      go_ret
      exact ⟨_, rfl, HB.out, HO.out⟩
end Go.Proofs.YtbgccaconhmbaaaGreatDoor
namespace Go.Proofs.YtbgccaconhmbaaaGreatDoor
open Go.ChangeShapes Go.WideShapes Go.ChangeAt Go.RowKit Go.Deep
def oneO (a b : OpV) : Bool := a.c == b.c && (a.key == b.key && sameV a.v b.v)
def allO : List OpV → List OpV → Bool
  | [], [] => true
  | a :: l, b :: m => oneO a b && allO l m
  | _, _ => false
theorem allO_len : ∀ {l m : List OpV}, l.length ≠ m.length → allO l m = false
  | [], [], h => absurd rfl h
  | [], _ :: _, _ => rfl
  | _ :: _, [], _ => rfl
  | a :: l, b :: m, h => by
    have : l.length ≠ m.length := fun e => h (by simp [e])
    rw [allO, allO_len this, Bool.and_false]
theorem OAt.below {B : Nat} {w w' : World} {b o : Nat} {r : OpV} (h : OAt w b o r) (hb : Below B w w') (hl : b < B) : OAt w' b o r :=
  ⟨(hb.cell (p := ⟨b, o, none⟩) hl).trans h.c0, (hb.cell (p := ⟨b, o + 1, none⟩) hl).trans h.c1, (hb.cell (p := ⟨b, o + 2, none⟩) hl).trans h.c2, (hb.cell (p := ⟨b, o + 3, none⟩) hl).trans h.c3, (hb.cell (p := ⟨b, o + 4, none⟩) hl).trans h.c4⟩
set_option maxRecDepth 100000 in
set_option maxHeartbeats 4000000 in
theorem ops_any {P Q : Nat → Prop} {w : World} {va vb : Value} {l m : List OpV} (ha : HasO P w va l) (hb : HasO Q w vb m) :
    Calls Tryz.prog 21 #[va, vb] w fun e w' => e = .returned (.bool (allO l m)) ∧ Below w.heap.size w w' := by
  obtain ⟨ao, cap, rfl, hca, hcm, _, h4⟩ := ha
  have hlt := Nat.le_trans hca hcm
  unfold maxLen at hlt
  clear hca hcm
  obtain ⟨ao2, cap2, rfl, _, _, _, h5⟩ := hb
  by_cases hlen : l.length = m.length
  · rw [← hlen]
    obtain ⟨n, hn⟩ : ∃ n, l.length = n := ⟨_, rfl⟩
    rw [hn]
    rw [hn] at hlt
    have HL := Lib.hid hn.symm
    have HM := Lib.hid (hn.symm.trans hlen)
    clear hn hlen
    obtain ⟨R, hR⟩ : ∃ R, allO l m = R := ⟨_, rfl⟩
    rw [hR]
    have HR := Lib.hid hR
    clear hR
    go_enter Tryz.func21, Tryz.ntmps21
    go_wp2
    go_loopw [5] (fun i wr => ∃ k : Nat, k ≤ n ∧ i = .int .i64 k ∧ Hid (allO (l.drop k) (m.drop k) = R) ∧ Hid (Below w.heap.size w wr)) (fun i _ => n - (intOf i).toNat)
    case atStart => exact ⟨0, Nat.zero_le _, rfl, HR, Lib.hid (Below.refl _ _)⟩
    case round =>
      obtain ⟨k, hk, rfl, HK, HB⟩ := hrel
      by_cases hkn : k < n
      · have hkl : k < l.length := by rw [← HL.out]; exact hkn
        have hkm : k < m.length := by rw [← HM.out]; exact hkn
        obtain ⟨b, o, rfl, _, hb, hc⟩ := h4.resolve_left (fun e => by rw [e] at hkl; exact absurd hkl (Nat.not_lt_zero _))
        obtain ⟨b2, o2, rfl, _, hb2, hc2⟩ := h5.resolve_left (fun e => by rw [e] at hkm; exact absurd hkm (Nat.not_lt_zero _))
        have hK2 : (oneO l[k] m[k] && allO (l.drop (k + 1)) (m.drop (k + 1))) = R := by
          have := HK.out
          rw [List.drop_eq_getElem_cons hkl, List.drop_eq_getElem_cons hkm] at this
          exact this
        have hbw := HB.out.size
        have hbl : b < wr.heap.size := by omega
        have hbl2 : b2 < wr.heap.size := by omega
        have HA := Lib.hid (((hc k hkl).below HB.out hb).op)
        have HA2 := Lib.hid (((hc2 k hkm).below HB.out hb2).op)
        generalize l[k] = x at *
        generalize m[k] = y at *
        obtain ⟨xc, xk, ⟨x2, x3, x4⟩⟩ := x
        obtain ⟨yc, yk, ⟨y2, y3, y4⟩⟩ := y
        have e0 := HA.out.c0; have e1 := HA.out.c1; have e2 := HA.out.c2; have e3 := HA.out.c3; have e4 := HA.out.c4
        have d0 := HA2.out.c0; have d1 := HA2.out.c1; have d2 := HA2.out.c2; have d3 := HA2.out.c3; have d4 := HA2.out.c4
        by_cases hk0 : xc = yc
        · subst hk0
          by_cases hk1 : xk = yk
          · subst hk1
            have HV := fun w => Lib.hid (value_any ⟨x2, x3, x4⟩ ⟨y2, y3, y4⟩ w)
            have hK3 : (sameV ⟨x2, x3, x4⟩ ⟨y2, y3, y4⟩ && allO (l.drop (k + 1)) (m.drop (k + 1))) = R := by
              have := hK2
              unfold oneO at this
              simpa using this
            clear hK2 HK HR h4 h5 hc hc2
            generalize sameV ⟨x2, x3, x4⟩ ⟨y2, y3, y4⟩ = sv at *
            have HK3 := Lib.hid hK3
            clear hK3
            go_wp2
            have HA := Lib.hid (HA.out.below (Below.refl wr.heap.size wr).drew hbl)
            have HA2 := Lib.hid (HA2.out.below (Below.refl wr.heap.size wr).drew hbl2)
            have HB := Lib.hid HB.out.drew
            have hsz : wr.heap.size ≤ wr.drew.heap.size := Nat.le_refl _
            go_region_held (fun w' => w'.cell? ⟨b, o + k * 5, none⟩ = some (.int .i64 xc) ∧ w'.cell? ⟨b, o + k * 5 + 1, none⟩ = some (.string ⟨xk.toArray⟩) ∧ w'.cell? ⟨b, o + k * 5 + 2, none⟩ = some (.int .i64 x2) ∧ w'.cell? ⟨b, o + k * 5 + 3, none⟩ = some (.float .f64 x3) ∧ w'.cell? ⟨b, o + k * 5 + 4, none⟩ = some (.string ⟨x4.toArray⟩) ∧ w'.cell? ⟨b2, o2 + k * 5, none⟩ = some (.int .i64 xc) ∧ w'.cell? ⟨b2, o2 + k * 5 + 1, none⟩ = some (.string ⟨xk.toArray⟩) ∧ w'.cell? ⟨b2, o2 + k * 5 + 2, none⟩ = some (.int .i64 y2) ∧ w'.cell? ⟨b2, o2 + k * 5 + 3, none⟩ = some (.float .f64 y3) ∧ w'.cell? ⟨b2, o2 + k * 5 + 4, none⟩ = some (.string ⟨y4.toArray⟩)) (exact ⟨HA.out.c0, HA.out.c1, HA.out.c2, HA.out.c3, HA.out.c4, HA2.out.c0, HA2.out.c1, HA2.out.c2, HA2.out.c3, HA2.out.c4⟩)
              ((go_at_call 34; refine (HV _).out.mono ?_; rintro e w6 ⟨rfl, hb6⟩; have HA := Lib.hid (HA.out.below hb6 hbl); have HA2 := Lib.hid (HA2.out.below hb6 hbl2); have HB := Lib.hid (HB.out.trans (hb6.mono HB.out.size)); clear hb6))
            cases sv with
            | false =>
              have hR0 : false = R := by have := HK3.out; simpa using this
              subst hR0
              go_wp2
              go_ret
              exact ⟨rfl, HB.out⟩
            | true =>
              go_wp2
              go_roundw
              case rel => exact ⟨k + 1, by omega, by go_num, Lib.hid (by have := HK3.out; simpa using this), HB⟩
              case measure => simp [intOf]; omega
          · have hne : (xk == yk) = false := beq_eq_false_iff_ne.2 hk1
            have hnd : decide (xk = yk) = false := decide_eq_false hk1
            have hR0 : false = R := by rw [← hK2]; unfold oneO; rw [hne]; simp
            subst hR0
            clear hK2 HK HR h4 h5 hc hc2
            go_wp2
            go_quiet (fail)
            have HB2 := Lib.hid (HB.out.trans ((below_drewN wr nq).mono HB.out.size))
            generalize wr.drewN nq = w2 at *
            go_wp2
            go_ret
            exact ⟨rfl, HB2.out⟩
        · have hne : (xc == yc) = false := beq_eq_false_iff_ne.2 hk0
          have hnd : (xc != yc) = true := by simpa using hk0
          have hR0 : false = R := by rw [← hK2]; unfold oneO; rw [hne]; simp
          subst hR0
          clear hK2 HK HR h4 h5 hc hc2
          go_wp2
          go_quiet (fail)
          have HB2 := Lib.hid (HB.out.trans ((below_drewN wr nq).mono HB.out.size))
          generalize wr.drewN nq = w2 at *
          go_wp2
          go_ret
          exact ⟨rfl, HB2.out⟩
      · obtain rfl : k = n := by omega
        have hr : true = R := by
          have := HK.out
          rw [List.drop_of_length_le (by rw [← HL.out]; exact Nat.le_refl _), List.drop_of_length_le (by rw [← HM.out]; exact Nat.le_refl _)] at this
          exact this
        subst hr
        clear h4 h5 HK HR
        go_wp2
        go_ret
        exact ⟨rfl, HB.out⟩
  · rw [allO_len hlen]
    have h1 : ¬ (l.length : Int) = (m.length : Int) := by omega
    clear h4 h5 hlen hlt
    generalize l.length = a at *
    generalize m.length = b at *
    go_enter Tryz.func21, Tryz.ntmps21
    go_wp2
    go_ret
    exact ⟨rfl, Below.refl _ _⟩
theorem allO_self : ∀ l : List OpV, allO l l = true
  | [] => rfl
  | a :: l => by
    rw [allO, allO_self l, Bool.and_true]
    unfold oneO
    rw [sameV_self]; simp
end Go.Proofs.YtbgccaconhmbaaaGreatDoor
namespace Go.Proofs.YtbgccaconhmbaaaGreatDoor
open Go.ChangeShapes Go.WideShapes Go.ChangeAt Go.RowKit Go.Deep
def oneT (a b : Nm) : Bool := a == b
def allT : List Nm → List Nm → Bool
  | [], [] => true
  | a :: l, b :: m => oneT a b && allT l m
  | _, _ => false
theorem allT_len : ∀ {l m : List Nm}, l.length ≠ m.length → allT l m = false
  | [], [], h => absurd rfl h
  | [], _ :: _, _ => rfl
  | _ :: _, [], _ => rfl
  | a :: l, b :: m, h => by
    have : l.length ≠ m.length := fun e => h (by simp [e])
    rw [allT, allT_len this, Bool.and_false]
theorem allT_self : ∀ l : List Nm, allT l l = true
  | [] => rfl
  | a :: l => by
    rw [allT, allT_self l, Bool.and_true]
    unfold oneT
    simp
set_option maxRecDepth 100000 in
set_option maxHeartbeats 4000000 in
theorem texts_any {P Q : Nat → Prop} {w : World} {va vb : Value} {l m : List Nm} (ha : HasS P w va l) (hb : HasS Q w vb m) :
    Calls Tryz.prog 18 #[va, vb] w fun e w' => e = .returned (.bool (allT l m)) ∧ Below w.heap.size w w' := by
  obtain ⟨ao, cap, rfl, hca, hcm, _, h4⟩ := ha
  have hlt := Nat.le_trans hca hcm
  unfold maxLen at hlt
  clear hca hcm
  obtain ⟨ao2, cap2, rfl, _, _, _, h5⟩ := hb
  by_cases hlen : l.length = m.length
  · rw [← hlen]
    obtain ⟨n, hn⟩ : ∃ n, l.length = n := ⟨_, rfl⟩
    rw [hn]
    rw [hn] at hlt
    have HL := Lib.hid hn.symm
    have HM := Lib.hid (hn.symm.trans hlen)
    clear hn hlen
    obtain ⟨R, hR⟩ : ∃ R, allT l m = R := ⟨_, rfl⟩
    rw [hR]
    have HR := Lib.hid hR
    clear hR
    go_enter Tryz.func18, Tryz.ntmps18
    go_wp2
    go_loopw [5] (fun i wr => ∃ k : Nat, k ≤ n ∧ i = .int .i64 k ∧ Hid (allT (l.drop k) (m.drop k) = R) ∧ Hid (Below w.heap.size w wr)) (fun i _ => n - (intOf i).toNat)
    case atStart => exact ⟨0, Nat.zero_le _, rfl, HR, Lib.hid (Below.refl _ _)⟩
    case round =>
      obtain ⟨k, hk, rfl, HK, HB⟩ := hrel
      by_cases hkn : k < n
      · have hkl : k < l.length := by rw [← HL.out]; exact hkn
        have hkm : k < m.length := by rw [← HM.out]; exact hkn
        obtain ⟨b, o, rfl, _, hb, hc⟩ := h4.resolve_left (fun e => by rw [e] at hkl; exact absurd hkl (Nat.not_lt_zero _))
        obtain ⟨b2, o2, rfl, _, hb2, hc2⟩ := h5.resolve_left (fun e => by rw [e] at hkm; exact absurd hkm (Nat.not_lt_zero _))
        have hK2 : (oneT l[k] m[k] && allT (l.drop (k + 1)) (m.drop (k + 1))) = R := by
          have := HK.out
          rw [List.drop_eq_getElem_cons hkl, List.drop_eq_getElem_cons hkm] at this
          exact this
        have hbw := HB.out.size
        have hbl : b < wr.heap.size := by omega
        have hbl2 : b2 < wr.heap.size := by omega
        have e0 := ((hc k hkl).below HB.out hb) 0 _ rfl
        have d0 := ((hc2 k hkm).below HB.out hb2) 0 _ rfl
        rw [Nat.mul_one, Nat.add_zero] at e0 d0
        generalize l[k] = x at *
        generalize m[k] = y at *
        by_cases hk0 : x = y
        · subst hk0
          have HK3 := Lib.hid (by simpa [oneT] using hK2 : allT (l.drop (k + 1)) (m.drop (k + 1)) = R)
          clear hK2 HK HR h4 h5 hc hc2
          go_wp2
          go_quiet (fail)
          have HB2 := Lib.hid (HB.out.trans ((below_drewN wr nq).mono HB.out.size))
          generalize wr.drewN nq = w2 at *
          go_wp2
          go_roundw
          case rel => exact ⟨k + 1, by omega, by go_num, HK3, HB2⟩
          case measure => simp [intOf]; omega
        · have hne : (x == y) = false := beq_eq_false_iff_ne.2 hk0
          have hnd : decide (x = y) = false := decide_eq_false hk0
          have hR0 : false = R := by rw [← hK2]; unfold oneT; rw [hne]; simp
          subst hR0
          clear hK2 HK HR h4 h5 hc hc2
          go_wp2
          go_quiet (fail)
          have HB2 := Lib.hid (HB.out.trans ((below_drewN wr nq).mono HB.out.size))
          generalize wr.drewN nq = w2 at *
          go_wp2
          go_ret
          exact ⟨rfl, HB2.out⟩
      · obtain rfl : k = n := by omega
        have hr : true = R := by
          have := HK.out
          rw [List.drop_of_length_le (by rw [← HL.out]; exact Nat.le_refl _), List.drop_of_length_le (by rw [← HM.out]; exact Nat.le_refl _)] at this
          exact this
        subst hr
        clear h4 h5 HK HR
        go_wp2
        go_ret
        exact ⟨rfl, HB.out⟩
  · rw [allT_len hlen]
    have h1 : ¬ (l.length : Int) = (m.length : Int) := by omega
    clear h4 h5 hlen hlt
    generalize l.length = a at *
    generalize m.length = b at *
    go_enter Tryz.func18, Tryz.ntmps18
    go_wp2
    go_ret
    exact ⟨rfl, Below.refl _ _⟩
end Go.Proofs.YtbgccaconhmbaaaGreatDoor
