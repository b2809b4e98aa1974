/- datum.Get and raceref3.Get, over package wire's and the document's readers in memory. Conditions: the reader's own bytes. -/
import Derived.Test.YtjkfcmadoeifgaaGreatDoorWi
import Derived.Test.YtjkfcmadoeifgaaGreatDoorPw
namespace Go.Proofs.YtjkfcmadoeifgaaGreatDoor
open Go.RowKit
/-- What is read: the value, and the reader behind it. -/
def rawV (s : Rst) : DV × Rst :=
  if (rSz 2 4 s).1 = 1 then (⟨1, (rFloat (rSz 2 4 s).2).1, []⟩, (rFloat (rSz 2 4 s).2).2)
  else if (rSz 2 4 s).1 = 2 then (⟨2, 0, (rText 64 (rSz 2 4 s).2).1⟩, (rText 64 (rSz 2 4 s).2).2)
  else (⟨(rSz 2 4 s).1, 0, []⟩, (rSz 2 4 s).2)
def getV (s : Rst) : DV × Rst := if (rawV s).2.er ≠ 0 then (DV.none, (rawV s).2) else rawV s
theorem Like.get {s x : Rst} (h : Like s x) : (getV x).1 = (getV s).1 ∧ Like (getV s).2 (getV x).2 := by
  have hr : (rawV x).1 = (rawV s).1 ∧ Like (rawV s).2 (rawV x).2 := by
    obtain ⟨h1, h2⟩ := h.size 2 (e := 4) (by decide)
    unfold rawV
    rw [h1]
    split
    · obtain ⟨h3, h4⟩ := h2.float
      exact ⟨by rw [h3], h4⟩
    · split
      · obtain ⟨h3, h4⟩ := h2.text 64
        exact ⟨by rw [h3], h4⟩
      · exact ⟨rfl, h2⟩
  obtain ⟨h1, h2⟩ := hr
  unfold getV
  rw [h2.er]
  split
  · exact ⟨rfl, h2⟩
  · exact ⟨h1, h2⟩
theorem res_one {fn : Func} {p : Tmp} (h : fn.results = #[.cell p 24]) (tmps : Array Value) {b : Nat} {v : DV} {w : World} (hp : tmps.getD p undef = .pointer (some ⟨b, 0, none⟩)) (hA : At w b v) :
    (results fn tmps).run Tryz.prog w = .ok (vagg v) w := by
  have hl := load_at hA
  simp only [Array.getD_eq_getD_getElem?] at hp
  simp only [results, h]
  simp [hp, asAddr, hl]
theorem At.num {w : World} {b : Nat} {k : Int} {y : Nat} {t : List UInt8} (h : At w b ⟨k, y, t⟩) (x : Nat) : At (w.setCell ⟨b, 1, none⟩ (.float .f64 x)) b ⟨k, x, t⟩ := by
  have n0 : (⟨b, 1, none⟩ : Addr) ≠ ⟨b, 0, none⟩ := by simp
  have n2 : (⟨b, 1, none⟩ : Addr) ≠ ⟨b, 2, none⟩ := by simp
  have e0 : (w.setCell ⟨b, 1, none⟩ (.float .f64 x)).cell? ⟨b, 0, none⟩ = some (.int .i64 k) := by rw [World.cell?_setCell_other (h := n0)]; exact h.c0
  refine ⟨World.block_lt_of_cell? _ _ e0, e0, ?_, ?_, by simp [h.f0], by simp [h.f1], by simp [h.f2]⟩
  · exact World.cell?_setCell_same w _ _ h.c1
  · rw [World.cell?_setCell_other (h := n2)]; exact h.c2
theorem At.txt {w : World} {b : Nat} {k : Int} {y : Nat} {t : List UInt8} (h : At w b ⟨k, y, t⟩) (s : List UInt8) : At (w.setCell ⟨b, 2, none⟩ (.string ⟨s.toArray⟩)) b ⟨k, y, s⟩ := by
  have n0 : (⟨b, 2, none⟩ : Addr) ≠ ⟨b, 0, none⟩ := by simp
  have n1 : (⟨b, 2, none⟩ : Addr) ≠ ⟨b, 1, none⟩ := by simp
  have e0 : (w.setCell ⟨b, 2, none⟩ (.string ⟨s.toArray⟩)).cell? ⟨b, 0, none⟩ = some (.int .i64 k) := by rw [World.cell?_setCell_other (h := n0)]; exact h.c0
  refine ⟨World.block_lt_of_cell? _ _ e0, e0, ?_, ?_, by simp [h.f0], by simp [h.f1], by simp [h.f2]⟩
  · rw [World.cell?_setCell_other (h := n1)]; exact h.c1
  · exact World.cell?_setCell_same w _ _ h.c2
/-- A reader and the two boxes of a Get, on the way. -/
structure GS (t : TypeId) (K : Nat → Prop) (w0 : World) (p : Nat) (v : Value) (w : World) (s : Rst) (c : Nat) (d : DV) : Prop where
  rd : Rd t K w p v s
  fr : Fr (fun k => k = p) w0 w
  zz : At w w0.heap.size DV.none
  bx : At w c d
  cc : w0.heap.size < c
theorem GS.step {t : TypeId} {K : Nat → Prop} {w0 w w' : World} {p : Nat} {v : Value} {s s' : Rst} {c : Nat} {d : DV} (h : GS t K w0 p v w s c d) (hp : p < w0.heap.size) (hr : Rd t K w' p v s') (hf : Fr (fun k => k = p) w w') : GS t K w0 p v w' s' c d := by
  have := h.cc
  exact ⟨hr, h.fr.same hf, h.zz.fr hf (by omega), h.bx.fr hf (by omega), h.cc⟩
theorem GS.set {t : TypeId} {K : Nat → Prop} {w0 w : World} {p : Nat} {v : Value} {s : Rst} {c : Nat} {d e : DV} (h : GS t K w0 p v w s c d) (hp : p < w0.heap.size) (hK : ∀ k, K k → k < w0.heap.size) {o : Nat} {u : Value} (hb : At (w.setCell ⟨c, o, none⟩ u) c e) : GS t K w0 p v (w.setCell ⟨c, o, none⟩ u) s c e := by
  have hc := h.cc
  have hf := fr_set1 (p := c) w o u
  exact ⟨h.rd.fr hf (by omega) (fun k hk e => by have := hK k hk; omega), h.fr.setCell (fun hh => by omega) u, h.zz.fr hf (by omega), hb, h.cc⟩
theorem GS.ends {t : TypeId} {K : Nat → Prop} {w0 w : World} {p : Nat} {v : Value} {s : Rst} {c : Nat} {d : DV} (h : GS t K w0 p v w s c d) (hp : p < w0.heap.size) (hK : ∀ k, K k → k < w0.heap.size) (e : DV) :
    Rd t K (((w.setCell ⟨w0.heap.size, 0, none⟩ (.int .i64 e.k)).setCell ⟨w0.heap.size, 1, none⟩ (.float .f64 e.x)).setCell ⟨w0.heap.size, 2, none⟩ (.string ⟨e.s.toArray⟩)) p v s ∧
      Fr (fun k => k = p) w0 (((w.setCell ⟨w0.heap.size, 0, none⟩ (.int .i64 e.k)).setCell ⟨w0.heap.size, 1, none⟩ (.float .f64 e.x)).setCell ⟨w0.heap.size, 2, none⟩ (.string ⟨e.s.toArray⟩)) := by
  have hf : Fr (fun k => k = w0.heap.size) w (((w.setCell ⟨w0.heap.size, 0, none⟩ (.int .i64 e.k)).setCell ⟨w0.heap.size, 1, none⟩ (.float .f64 e.x)).setCell ⟨w0.heap.size, 2, none⟩ (.string ⟨e.s.toArray⟩)) := (fr_set2 w 0 1 _ _).setCell (fun _ => rfl) _
  exact ⟨h.rd.fr hf (by omega) (fun k hk e => by have := hK k hk; omega), ((h.fr.setCell (fun hh => by omega) _).setCell (fun hh => by omega) _).setCell (fun hh => by omega) _⟩
theorem GS.start {t : TypeId} {K : Nat → Prop} {w0 w1 : World} {p : Nat} {v : Value} {s : Rst} (hp : p < w0.heap.size) (hr : Rd t K w1 p v s) (hf : Fr (fun k => k = p) (w0.alloc (vobj DV.none)) w1) (d : DV) : GS t K w0 p v (w1.alloc (vobj d)) s w1.heap.size d := by
  have h0 : (w0.alloc (vobj DV.none)).heap.size = w0.heap.size + 1 := by simp
  have hs := hf.size
  exact ⟨hr.fr (S := fun _ => False) ((Fr.refl _ w1).alloc _) id (fun _ _ => id), (((Fr.refl (fun k => k = p) w0).alloc (vobj DV.none)).trans hf (fun _ _ h => h)).alloc _, ((at_new w0 DV.none).fr hf (by omega)).alloc _, at_new w1 d, by omega⟩
theorem GS.late {t : TypeId} {K : Nat → Prop} {w0 w1 : World} {p : Nat} {v : Value} {s : Rst} (hp : p < w0.heap.size) (hK : ∀ k, K k → k < w0.heap.size) (hr : Rd t K w1 p v s) (hf : Fr (fun k => k = p) (w0.alloc (vobj DV.none)) w1) (e d : DV) :
    At ((((w1.setCell ⟨w0.heap.size, 0, none⟩ (.int .i64 e.k)).setCell ⟨w0.heap.size, 1, none⟩ (.float .f64 e.x)).setCell ⟨w0.heap.size, 2, none⟩ (.string ⟨e.s.toArray⟩)).alloc (vobj d)) w0.heap.size e ∧
    Rd t K ((((w1.setCell ⟨w0.heap.size, 0, none⟩ (.int .i64 e.k)).setCell ⟨w0.heap.size, 1, none⟩ (.float .f64 e.x)).setCell ⟨w0.heap.size, 2, none⟩ (.string ⟨e.s.toArray⟩)).alloc (vobj d)) p v s ∧
      Fr (fun k => k = p) w0 ((((w1.setCell ⟨w0.heap.size, 0, none⟩ (.int .i64 e.k)).setCell ⟨w0.heap.size, 1, none⟩ (.float .f64 e.x)).setCell ⟨w0.heap.size, 2, none⟩ (.string ⟨e.s.toArray⟩)).alloc (vobj d)) := by
  have h0 : (w0.alloc (vobj DV.none)).heap.size = w0.heap.size + 1 := by simp
  have hs := hf.size
  have hz := (at_new w0 DV.none).fr hf (by omega)
  have hF := ((Fr.refl (fun k => k = p) w0).alloc (vobj DV.none)).trans hf (fun _ _ h => h)
  have hset : Fr (fun k => k = w0.heap.size) w1 (((w1.setCell ⟨w0.heap.size, 0, none⟩ (.int .i64 e.k)).setCell ⟨w0.heap.size, 1, none⟩ (.float .f64 e.x)).setCell ⟨w0.heap.size, 2, none⟩ (.string ⟨e.s.toArray⟩)) := (fr_set2 w1 0 1 _ _).setCell (fun _ => rfl) _
  exact ⟨(hz.setAll e).alloc _, hr.fr (hset.alloc _) (by omega) (fun k hk e => by have := hK k hk; omega), (((hF.setCell (fun hh => by omega) _).setCell (fun hh => by omega) _).setCell (fun hh => by omega) _).alloc _⟩
set_option maxRecDepth 100000 in
theorem dget_any {K : Nat → Prop} {w : World} {p : Nat} {v : Value} {s : Rst} (h : Rd 69 K w p v s) (hK : ∀ k, K k → k < w.heap.size) :
    Calls Tryz.prog 18 #[.pointer (some ⟨p, 0, none⟩)] w fun x w' => x = .returned (vagg (getV s).1) ∧ Rd 69 K w' p v (getV s).2 ∧ Fr (fun k => k = p) w w' := by
  have hst := run_stf
  have HP := Lib.hid h.lt
  have HK := Lib.hid hK
  have HC := Lib.hid (choice_any (h.fr (S := fun _ => False) ((Fr.refl _ w).alloc (vobj ⟨0, 0, []⟩)) id (fun _ _ => id)) 2)
  unfold getV rawV
  clear h hK
  generalize rSz 2 4 s = R0 at *
  obtain ⟨n, s1⟩ := R0
  simp only at HC ⊢
  by_cases h1 : n = 1
  · subst h1
    have HN : Hid (∀ w, Rd 69 K w p v s1 → Calls Tryz.prog 47 #[.pointer (some ⟨p, 0, none⟩)] w fun x w' => x = .returned (.float .f64 (rFloat s1).1) ∧ Rd 69 K w' p v (rFloat s1).2 ∧ Fr (fun k => k = p) w w') := fun w h => float_any h
    simp only [if_true]
    generalize rFloat s1 = R1 at *
    obtain ⟨xx, s2⟩ := R1
    simp only at HN ⊢
    by_cases her : s2.er = 0
    · rw [if_neg (by simpa using her)]
      have hb : (s2.er != 0) = false := by rw [her]; rfl
      clear her
      go_enter Tryz.func18, Tryz.ntmps18
      go_wp2_with (first
        | (go_at_call 46; ((with_reducible refine HC.out.mono ?_); rintro e w1 ⟨rfl, hr, hf⟩; have HG := Lib.hid (GS.start HP.out hr hf ⟨1, 0, []⟩); have a0 := HG.out.bx.c0; have a1 := HG.out.bx.c1; have a2 := HG.out.bx.c2; have f0 := HG.out.bx.f0; have f1 := HG.out.bx.f1; have f2 := HG.out.bx.f2; have z0 := HG.out.zz.c0; have z1 := HG.out.zz.c1; have z2 := HG.out.zz.c2; have y0 := HG.out.zz.f0; have y1 := HG.out.zz.f1; have y2 := HG.out.zz.f2; have cc := HG.out.cc; have zl := HG.out.zz.lt; have bl := HG.out.bx.lt; have pl := HG.out.rd.lt; dsimp only [DV.none] at a0 a1 a2 z0 z1 z2; clear hr hf))
        | (go_at_call 47; ((with_reducible refine (HN.out _ HG.out.rd).mono ?_); rintro e w2 ⟨rfl, hr, hf⟩; have HG0 := Lib.hid (HG.out.step HP.out hr hf); have HG := Lib.hid (HG0.out.set HP.out HK.out (HG0.out.bx.num xx)); have g0 := HG0.out.bx.c0; have g1 := HG0.out.bx.c1; have g2 := HG0.out.bx.c2; have h0 := HG0.out.bx.f1; dsimp only at g0 g1 g2; have a0 := HG.out.bx.c0; have a1 := HG.out.bx.c1; have a2 := HG.out.bx.c2; have f0 := HG.out.bx.f0; have f1 := HG.out.bx.f1; have f2 := HG.out.bx.f2; have z0 := HG.out.zz.c0; have z1 := HG.out.zz.c1; have z2 := HG.out.zz.c2; have y0 := HG.out.zz.f0; have y1 := HG.out.zz.f1; have y2 := HG.out.zz.f2; have cc := HG.out.cc; have zl := HG.out.zz.lt; have bl := HG.out.bx.lt; have pl := HG.out.rd.lt; dsimp only [DV.none] at a0 a1 a2 z0 z1 z2; clear hr hf))
        | (go_at_call 49; ((with_reducible refine (fault_any HG.out.rd).mono ?_); rintro e w3 ⟨rfl, hr, hf⟩; have HG := Lib.hid (HG.out.step HP.out hr hf); have a0 := HG.out.bx.c0; have a1 := HG.out.bx.c1; have a2 := HG.out.bx.c2; have f0 := HG.out.bx.f0; have f1 := HG.out.bx.f1; have f2 := HG.out.bx.f2; have z0 := HG.out.zz.c0; have z1 := HG.out.zz.c1; have z2 := HG.out.zz.c2; have y0 := HG.out.zz.f0; have y1 := HG.out.zz.f1; have y2 := HG.out.zz.f2; have cc := HG.out.cc; have zl := HG.out.zz.lt; have bl := HG.out.bx.lt; have pl := HG.out.rd.lt; dsimp only [DV.none] at a0 a1 a2 z0 z1 z2; clear hr hf)))
      exact bodyPost_ret (res_one rfl _ rfl (HG.out.zz.setAll ⟨1, xx, []⟩)) rfl ⟨rfl, HG.out.ends HP.out HK.out ⟨1, xx, []⟩⟩
    · rw [if_pos her]
      have hb : (s2.er != 0) = true := by rw [bne_iff_ne]; exact her
      clear her
      go_enter Tryz.func18, Tryz.ntmps18
      go_wp2_with (first
        | (go_at_call 46; ((with_reducible refine HC.out.mono ?_); rintro e w1 ⟨rfl, hr, hf⟩; have HG := Lib.hid (GS.start HP.out hr hf ⟨1, 0, []⟩); have a0 := HG.out.bx.c0; have a1 := HG.out.bx.c1; have a2 := HG.out.bx.c2; have f0 := HG.out.bx.f0; have f1 := HG.out.bx.f1; have f2 := HG.out.bx.f2; have z0 := HG.out.zz.c0; have z1 := HG.out.zz.c1; have z2 := HG.out.zz.c2; have y0 := HG.out.zz.f0; have y1 := HG.out.zz.f1; have y2 := HG.out.zz.f2; have cc := HG.out.cc; have zl := HG.out.zz.lt; have bl := HG.out.bx.lt; have pl := HG.out.rd.lt; dsimp only [DV.none] at a0 a1 a2 z0 z1 z2; clear hr hf))
        | (go_at_call 47; ((with_reducible refine (HN.out _ HG.out.rd).mono ?_); rintro e w2 ⟨rfl, hr, hf⟩; have HG0 := Lib.hid (HG.out.step HP.out hr hf); have HG := Lib.hid (HG0.out.set HP.out HK.out (HG0.out.bx.num xx)); have g0 := HG0.out.bx.c0; have g1 := HG0.out.bx.c1; have g2 := HG0.out.bx.c2; have h0 := HG0.out.bx.f1; dsimp only at g0 g1 g2; have a0 := HG.out.bx.c0; have a1 := HG.out.bx.c1; have a2 := HG.out.bx.c2; have f0 := HG.out.bx.f0; have f1 := HG.out.bx.f1; have f2 := HG.out.bx.f2; have z0 := HG.out.zz.c0; have z1 := HG.out.zz.c1; have z2 := HG.out.zz.c2; have y0 := HG.out.zz.f0; have y1 := HG.out.zz.f1; have y2 := HG.out.zz.f2; have cc := HG.out.cc; have zl := HG.out.zz.lt; have bl := HG.out.bx.lt; have pl := HG.out.rd.lt; dsimp only [DV.none] at a0 a1 a2 z0 z1 z2; clear hr hf))
        | (go_at_call 49; ((with_reducible refine (fault_any HG.out.rd).mono ?_); rintro e w3 ⟨rfl, hr, hf⟩; have HG := Lib.hid (HG.out.step HP.out hr hf); have a0 := HG.out.bx.c0; have a1 := HG.out.bx.c1; have a2 := HG.out.bx.c2; have f0 := HG.out.bx.f0; have f1 := HG.out.bx.f1; have f2 := HG.out.bx.f2; have z0 := HG.out.zz.c0; have z1 := HG.out.zz.c1; have z2 := HG.out.zz.c2; have y0 := HG.out.zz.f0; have y1 := HG.out.zz.f1; have y2 := HG.out.zz.f2; have cc := HG.out.cc; have zl := HG.out.zz.lt; have bl := HG.out.bx.lt; have pl := HG.out.rd.lt; dsimp only [DV.none] at a0 a1 a2 z0 z1 z2; clear hr hf)))
      exact bodyPost_ret (res_one rfl _ rfl (HG.out.zz.setAll DV.none)) rfl ⟨rfl, HG.out.ends HP.out HK.out DV.none⟩

  rw [if_neg h1]
  have b1 : (n == 1) = false := by rw [beq_eq_false_iff_ne]; exact h1
  by_cases h2 : n = 2
  · subst h2
    have HN : Hid (∀ w, Rd 69 K w p v s1 → Calls Tryz.prog 48 #[.pointer (some ⟨p, 0, none⟩), .int .i64 64] w fun x w' => x = .returned (.string ⟨(rText 64 s1).1.toArray⟩) ∧ Rd 69 K w' p v (rText 64 s1).2 ∧ Fr (fun k => k = p) w w') := fun w h => text_any h 64
    simp only [if_true]
    generalize rText 64 s1 = R1 at *
    obtain ⟨xx, s2⟩ := R1
    simp only at HN ⊢
    clear h1 b1
    by_cases her : s2.er = 0
    · rw [if_neg (by simpa using her)]
      have hb : (s2.er != 0) = false := by rw [her]; rfl
      clear her
      go_enter Tryz.func18, Tryz.ntmps18
      go_wp2_with (first
        | (go_at_call 46; ((with_reducible refine HC.out.mono ?_); rintro e w1 ⟨rfl, hr, hf⟩; have HG := Lib.hid (GS.start HP.out hr hf ⟨2, 0, []⟩); have a0 := HG.out.bx.c0; have a1 := HG.out.bx.c1; have a2 := HG.out.bx.c2; have f0 := HG.out.bx.f0; have f1 := HG.out.bx.f1; have f2 := HG.out.bx.f2; have z0 := HG.out.zz.c0; have z1 := HG.out.zz.c1; have z2 := HG.out.zz.c2; have y0 := HG.out.zz.f0; have y1 := HG.out.zz.f1; have y2 := HG.out.zz.f2; have cc := HG.out.cc; have zl := HG.out.zz.lt; have bl := HG.out.bx.lt; have pl := HG.out.rd.lt; dsimp only [DV.none] at a0 a1 a2 z0 z1 z2; clear hr hf))
        | (go_at_call 48; ((with_reducible refine (HN.out _ HG.out.rd).mono ?_); rintro e w2 ⟨rfl, hr, hf⟩; have HG0 := Lib.hid (HG.out.step HP.out hr hf); have HG := Lib.hid (HG0.out.set HP.out HK.out (HG0.out.bx.txt xx)); have g0 := HG0.out.bx.c0; have g1 := HG0.out.bx.c1; have g2 := HG0.out.bx.c2; have h0 := HG0.out.bx.f2; dsimp only at g0 g1 g2; have a0 := HG.out.bx.c0; have a1 := HG.out.bx.c1; have a2 := HG.out.bx.c2; have f0 := HG.out.bx.f0; have f1 := HG.out.bx.f1; have f2 := HG.out.bx.f2; have z0 := HG.out.zz.c0; have z1 := HG.out.zz.c1; have z2 := HG.out.zz.c2; have y0 := HG.out.zz.f0; have y1 := HG.out.zz.f1; have y2 := HG.out.zz.f2; have cc := HG.out.cc; have zl := HG.out.zz.lt; have bl := HG.out.bx.lt; have pl := HG.out.rd.lt; dsimp only [DV.none] at a0 a1 a2 z0 z1 z2; clear hr hf))
        | (go_at_call 49; ((with_reducible refine (fault_any HG.out.rd).mono ?_); rintro e w3 ⟨rfl, hr, hf⟩; have HG := Lib.hid (HG.out.step HP.out hr hf); have a0 := HG.out.bx.c0; have a1 := HG.out.bx.c1; have a2 := HG.out.bx.c2; have f0 := HG.out.bx.f0; have f1 := HG.out.bx.f1; have f2 := HG.out.bx.f2; have z0 := HG.out.zz.c0; have z1 := HG.out.zz.c1; have z2 := HG.out.zz.c2; have y0 := HG.out.zz.f0; have y1 := HG.out.zz.f1; have y2 := HG.out.zz.f2; have cc := HG.out.cc; have zl := HG.out.zz.lt; have bl := HG.out.bx.lt; have pl := HG.out.rd.lt; dsimp only [DV.none] at a0 a1 a2 z0 z1 z2; clear hr hf)))
      exact bodyPost_ret (res_one rfl _ rfl (HG.out.zz.setAll ⟨2, 0, xx⟩)) rfl ⟨rfl, HG.out.ends HP.out HK.out ⟨2, 0, xx⟩⟩
    · rw [if_pos her]
      have hb : (s2.er != 0) = true := by rw [bne_iff_ne]; exact her
      clear her
      go_enter Tryz.func18, Tryz.ntmps18
      go_wp2_with (first
        | (go_at_call 46; ((with_reducible refine HC.out.mono ?_); rintro e w1 ⟨rfl, hr, hf⟩; have HG := Lib.hid (GS.start HP.out hr hf ⟨2, 0, []⟩); have a0 := HG.out.bx.c0; have a1 := HG.out.bx.c1; have a2 := HG.out.bx.c2; have f0 := HG.out.bx.f0; have f1 := HG.out.bx.f1; have f2 := HG.out.bx.f2; have z0 := HG.out.zz.c0; have z1 := HG.out.zz.c1; have z2 := HG.out.zz.c2; have y0 := HG.out.zz.f0; have y1 := HG.out.zz.f1; have y2 := HG.out.zz.f2; have cc := HG.out.cc; have zl := HG.out.zz.lt; have bl := HG.out.bx.lt; have pl := HG.out.rd.lt; dsimp only [DV.none] at a0 a1 a2 z0 z1 z2; clear hr hf))
        | (go_at_call 48; ((with_reducible refine (HN.out _ HG.out.rd).mono ?_); rintro e w2 ⟨rfl, hr, hf⟩; have HG0 := Lib.hid (HG.out.step HP.out hr hf); have HG := Lib.hid (HG0.out.set HP.out HK.out (HG0.out.bx.txt xx)); have g0 := HG0.out.bx.c0; have g1 := HG0.out.bx.c1; have g2 := HG0.out.bx.c2; have h0 := HG0.out.bx.f2; dsimp only at g0 g1 g2; have a0 := HG.out.bx.c0; have a1 := HG.out.bx.c1; have a2 := HG.out.bx.c2; have f0 := HG.out.bx.f0; have f1 := HG.out.bx.f1; have f2 := HG.out.bx.f2; have z0 := HG.out.zz.c0; have z1 := HG.out.zz.c1; have z2 := HG.out.zz.c2; have y0 := HG.out.zz.f0; have y1 := HG.out.zz.f1; have y2 := HG.out.zz.f2; have cc := HG.out.cc; have zl := HG.out.zz.lt; have bl := HG.out.bx.lt; have pl := HG.out.rd.lt; dsimp only [DV.none] at a0 a1 a2 z0 z1 z2; clear hr hf))
        | (go_at_call 49; ((with_reducible refine (fault_any HG.out.rd).mono ?_); rintro e w3 ⟨rfl, hr, hf⟩; have HG := Lib.hid (HG.out.step HP.out hr hf); have a0 := HG.out.bx.c0; have a1 := HG.out.bx.c1; have a2 := HG.out.bx.c2; have f0 := HG.out.bx.f0; have f1 := HG.out.bx.f1; have f2 := HG.out.bx.f2; have z0 := HG.out.zz.c0; have z1 := HG.out.zz.c1; have z2 := HG.out.zz.c2; have y0 := HG.out.zz.f0; have y1 := HG.out.zz.f1; have y2 := HG.out.zz.f2; have cc := HG.out.cc; have zl := HG.out.zz.lt; have bl := HG.out.bx.lt; have pl := HG.out.rd.lt; dsimp only [DV.none] at a0 a1 a2 z0 z1 z2; clear hr hf)))
      exact bodyPost_ret (res_one rfl _ rfl (HG.out.zz.setAll DV.none)) rfl ⟨rfl, HG.out.ends HP.out HK.out DV.none⟩

  rw [if_neg h2]
  have b2 : (n == 2) = false := by rw [beq_eq_false_iff_ne]; exact h2
  clear h1 h2
  simp only
  · skip
    by_cases her : s1.er = 0
    · rw [if_neg (by simpa using her)]
      have hb : (s1.er != 0) = false := by rw [her]; rfl
      clear her
      go_enter Tryz.func18, Tryz.ntmps18
      go_wp2_with (first
        | (go_at_call 46; ((with_reducible refine HC.out.mono ?_); rintro e w1 ⟨rfl, hr, hf⟩; have HG := Lib.hid (GS.start HP.out hr hf ⟨n, 0, []⟩); have a0 := HG.out.bx.c0; have a1 := HG.out.bx.c1; have a2 := HG.out.bx.c2; have f0 := HG.out.bx.f0; have f1 := HG.out.bx.f1; have f2 := HG.out.bx.f2; have z0 := HG.out.zz.c0; have z1 := HG.out.zz.c1; have z2 := HG.out.zz.c2; have y0 := HG.out.zz.f0; have y1 := HG.out.zz.f1; have y2 := HG.out.zz.f2; have cc := HG.out.cc; have zl := HG.out.zz.lt; have bl := HG.out.bx.lt; have pl := HG.out.rd.lt; dsimp only [DV.none] at a0 a1 a2 z0 z1 z2; clear hr hf))
        | (go_at_call 49; ((with_reducible refine (fault_any HG.out.rd).mono ?_); rintro e w3 ⟨rfl, hr, hf⟩; have HG := Lib.hid (HG.out.step HP.out hr hf); have a0 := HG.out.bx.c0; have a1 := HG.out.bx.c1; have a2 := HG.out.bx.c2; have f0 := HG.out.bx.f0; have f1 := HG.out.bx.f1; have f2 := HG.out.bx.f2; have z0 := HG.out.zz.c0; have z1 := HG.out.zz.c1; have z2 := HG.out.zz.c2; have y0 := HG.out.zz.f0; have y1 := HG.out.zz.f1; have y2 := HG.out.zz.f2; have cc := HG.out.cc; have zl := HG.out.zz.lt; have bl := HG.out.bx.lt; have pl := HG.out.rd.lt; dsimp only [DV.none] at a0 a1 a2 z0 z1 z2; clear hr hf)))
      exact bodyPost_ret (res_one rfl _ rfl (HG.out.zz.setAll ⟨n, 0, []⟩)) rfl ⟨rfl, HG.out.ends HP.out HK.out ⟨n, 0, []⟩⟩
    · rw [if_pos her]
      have hb : (s1.er != 0) = true := by rw [bne_iff_ne]; exact her
      clear her
      go_enter Tryz.func18, Tryz.ntmps18
      go_wp2_with (first
        | (go_at_call 46; ((with_reducible refine HC.out.mono ?_); rintro e w1 ⟨rfl, hr, hf⟩; have HG := Lib.hid (GS.start HP.out hr hf ⟨n, 0, []⟩); have a0 := HG.out.bx.c0; have a1 := HG.out.bx.c1; have a2 := HG.out.bx.c2; have f0 := HG.out.bx.f0; have f1 := HG.out.bx.f1; have f2 := HG.out.bx.f2; have z0 := HG.out.zz.c0; have z1 := HG.out.zz.c1; have z2 := HG.out.zz.c2; have y0 := HG.out.zz.f0; have y1 := HG.out.zz.f1; have y2 := HG.out.zz.f2; have cc := HG.out.cc; have zl := HG.out.zz.lt; have bl := HG.out.bx.lt; have pl := HG.out.rd.lt; dsimp only [DV.none] at a0 a1 a2 z0 z1 z2; clear hr hf))
        | (go_at_call 49; ((with_reducible refine (fault_any HG.out.rd).mono ?_); rintro e w3 ⟨rfl, hr, hf⟩; have HG := Lib.hid (HG.out.step HP.out hr hf); have a0 := HG.out.bx.c0; have a1 := HG.out.bx.c1; have a2 := HG.out.bx.c2; have f0 := HG.out.bx.f0; have f1 := HG.out.bx.f1; have f2 := HG.out.bx.f2; have z0 := HG.out.zz.c0; have z1 := HG.out.zz.c1; have z2 := HG.out.zz.c2; have y0 := HG.out.zz.f0; have y1 := HG.out.zz.f1; have y2 := HG.out.zz.f2; have cc := HG.out.cc; have zl := HG.out.zz.lt; have bl := HG.out.bx.lt; have pl := HG.out.rd.lt; dsimp only [DV.none] at a0 a1 a2 z0 z1 z2; clear hr hf)))
      exact bodyPost_ret (res_one rfl _ rfl (HG.out.zz.setAll DV.none)) rfl ⟨rfl, HG.out.ends HP.out HK.out DV.none⟩

set_option maxRecDepth 100000 in
theorem rdget_any {K : Nat → Prop} {w : World} {p : Nat} {v : Value} {s : Rst} (h : Rd 40 K w p v s) (hK : ∀ k, K k → k < w.heap.size) :
    Calls Tryz.prog 19 #[.pointer (some ⟨p, 0, none⟩)] w fun x w' => x = .returned (vagg (getV s).1) ∧ Rd 40 K w' p v (getV s).2 ∧ Fr (fun k => k = p) w w' := by
  have hst := run_stf
  have HP := Lib.hid h.lt
  have HK := Lib.hid hK
  have HC := Lib.hid (rchoice_any (h.fr (S := fun _ => False) ((Fr.refl _ w).alloc (vobj ⟨0, 0, []⟩)) id (fun _ _ => id)) 2)
  unfold getV rawV
  clear h hK
  generalize rSz 2 4 s = R0 at *
  obtain ⟨n, s1⟩ := R0
  simp only at HC ⊢
  by_cases h1 : n = 1
  · subst h1
    have HN : Hid (∀ w, Rd 40 K w p v s1 → Calls Tryz.prog 51 #[.pointer (some ⟨p, 0, none⟩)] w fun x w' => x = .returned (.float .f64 (rFloat s1).1) ∧ Rd 40 K w' p v (rFloat s1).2 ∧ Fr (fun k => k = p) w w') := fun w h => rfloat_any h
    simp only [if_true]
    generalize rFloat s1 = R1 at *
    obtain ⟨xx, s2⟩ := R1
    simp only at HN ⊢
    by_cases her : s2.er = 0
    · rw [if_neg (by simpa using her)]
      have hb : (s2.er != 0) = false := by rw [her]; rfl
      clear her
      go_enter Tryz.func19, Tryz.ntmps19
      go_wp2_with (first
        | (go_at_call 50; ((with_reducible refine HC.out.mono ?_); rintro e w1 ⟨rfl, hr, hf⟩; have HG := Lib.hid (GS.start HP.out hr hf ⟨1, 0, []⟩); have a0 := HG.out.bx.c0; have a1 := HG.out.bx.c1; have a2 := HG.out.bx.c2; have f0 := HG.out.bx.f0; have f1 := HG.out.bx.f1; have f2 := HG.out.bx.f2; have z0 := HG.out.zz.c0; have z1 := HG.out.zz.c1; have z2 := HG.out.zz.c2; have y0 := HG.out.zz.f0; have y1 := HG.out.zz.f1; have y2 := HG.out.zz.f2; have cc := HG.out.cc; have zl := HG.out.zz.lt; have bl := HG.out.bx.lt; have pl := HG.out.rd.lt; have e2 := HG.out.rd.c2; dsimp only [DV.none] at a0 a1 a2 z0 z1 z2; clear hr hf))
        | (go_at_call 51; ((with_reducible refine (HN.out _ HG.out.rd).mono ?_); rintro e w2 ⟨rfl, hr, hf⟩; have HG0 := Lib.hid (HG.out.step HP.out hr hf); have HG := Lib.hid (HG0.out.set HP.out HK.out (HG0.out.bx.num xx)); have g0 := HG0.out.bx.c0; have g1 := HG0.out.bx.c1; have g2 := HG0.out.bx.c2; have h0 := HG0.out.bx.f1; dsimp only at g0 g1 g2; have a0 := HG.out.bx.c0; have a1 := HG.out.bx.c1; have a2 := HG.out.bx.c2; have f0 := HG.out.bx.f0; have f1 := HG.out.bx.f1; have f2 := HG.out.bx.f2; have z0 := HG.out.zz.c0; have z1 := HG.out.zz.c1; have z2 := HG.out.zz.c2; have y0 := HG.out.zz.f0; have y1 := HG.out.zz.f1; have y2 := HG.out.zz.f2; have cc := HG.out.cc; have zl := HG.out.zz.lt; have bl := HG.out.bx.lt; have pl := HG.out.rd.lt; have e2 := HG.out.rd.c2; dsimp only [DV.none] at a0 a1 a2 z0 z1 z2; clear hr hf)))
      exact bodyPost_ret (res_one rfl _ rfl (HG.out.zz.setAll ⟨1, xx, []⟩)) rfl ⟨rfl, HG.out.ends HP.out HK.out ⟨1, xx, []⟩⟩
    · rw [if_pos her]
      have hb : (s2.er != 0) = true := by rw [bne_iff_ne]; exact her
      clear her
      go_enter Tryz.func19, Tryz.ntmps19
      go_wp2_with (first
        | (go_at_call 50; ((with_reducible refine HC.out.mono ?_); rintro e w1 ⟨rfl, hr, hf⟩; have HG := Lib.hid (GS.start HP.out hr hf ⟨1, 0, []⟩); have a0 := HG.out.bx.c0; have a1 := HG.out.bx.c1; have a2 := HG.out.bx.c2; have f0 := HG.out.bx.f0; have f1 := HG.out.bx.f1; have f2 := HG.out.bx.f2; have z0 := HG.out.zz.c0; have z1 := HG.out.zz.c1; have z2 := HG.out.zz.c2; have y0 := HG.out.zz.f0; have y1 := HG.out.zz.f1; have y2 := HG.out.zz.f2; have cc := HG.out.cc; have zl := HG.out.zz.lt; have bl := HG.out.bx.lt; have pl := HG.out.rd.lt; have e2 := HG.out.rd.c2; dsimp only [DV.none] at a0 a1 a2 z0 z1 z2; clear hr hf))
        | (go_at_call 51; ((with_reducible refine (HN.out _ HG.out.rd).mono ?_); rintro e w2 ⟨rfl, hr, hf⟩; have HG0 := Lib.hid (HG.out.step HP.out hr hf); have HG := Lib.hid (HG0.out.set HP.out HK.out (HG0.out.bx.num xx)); have g0 := HG0.out.bx.c0; have g1 := HG0.out.bx.c1; have g2 := HG0.out.bx.c2; have h0 := HG0.out.bx.f1; dsimp only at g0 g1 g2; have a0 := HG.out.bx.c0; have a1 := HG.out.bx.c1; have a2 := HG.out.bx.c2; have f0 := HG.out.bx.f0; have f1 := HG.out.bx.f1; have f2 := HG.out.bx.f2; have z0 := HG.out.zz.c0; have z1 := HG.out.zz.c1; have z2 := HG.out.zz.c2; have y0 := HG.out.zz.f0; have y1 := HG.out.zz.f1; have y2 := HG.out.zz.f2; have cc := HG.out.cc; have zl := HG.out.zz.lt; have bl := HG.out.bx.lt; have pl := HG.out.rd.lt; have e2 := HG.out.rd.c2; dsimp only [DV.none] at a0 a1 a2 z0 z1 z2; clear hr hf)))
      exact bodyPost_ret (res_one rfl _ rfl (HG.out.zz.setAll DV.none)) rfl ⟨rfl, HG.out.ends HP.out HK.out DV.none⟩

  rw [if_neg h1]
  have b1 : (n == 1) = false := by rw [beq_eq_false_iff_ne]; exact h1
  by_cases h2 : n = 2
  · subst h2
    have HN : Hid (∀ w, Rd 40 K w p v s1 → Calls Tryz.prog 52 #[.pointer (some ⟨p, 0, none⟩), .int .i64 64] w fun x w' => x = .returned (.string ⟨(rText 64 s1).1.toArray⟩) ∧ Rd 40 K w' p v (rText 64 s1).2 ∧ Fr (fun k => k = p) w w') := fun w h => rtext_any h 64
    simp only [if_true]
    generalize rText 64 s1 = R1 at *
    obtain ⟨xx, s2⟩ := R1
    simp only at HN ⊢
    clear h1 b1
    by_cases her : s2.er = 0
    · rw [if_neg (by simpa using her)]
      have hb : (s2.er != 0) = false := by rw [her]; rfl
      clear her
      go_enter Tryz.func19, Tryz.ntmps19
      go_wp2_with (first
        | (go_at_call 50; ((with_reducible refine HC.out.mono ?_); rintro e w1 ⟨rfl, hr, hf⟩; have HG := Lib.hid (GS.start HP.out hr hf ⟨2, 0, []⟩); have a0 := HG.out.bx.c0; have a1 := HG.out.bx.c1; have a2 := HG.out.bx.c2; have f0 := HG.out.bx.f0; have f1 := HG.out.bx.f1; have f2 := HG.out.bx.f2; have z0 := HG.out.zz.c0; have z1 := HG.out.zz.c1; have z2 := HG.out.zz.c2; have y0 := HG.out.zz.f0; have y1 := HG.out.zz.f1; have y2 := HG.out.zz.f2; have cc := HG.out.cc; have zl := HG.out.zz.lt; have bl := HG.out.bx.lt; have pl := HG.out.rd.lt; have e2 := HG.out.rd.c2; dsimp only [DV.none] at a0 a1 a2 z0 z1 z2; clear hr hf))
        | (go_at_call 52; ((with_reducible refine (HN.out _ HG.out.rd).mono ?_); rintro e w2 ⟨rfl, hr, hf⟩; have HG0 := Lib.hid (HG.out.step HP.out hr hf); have HG := Lib.hid (HG0.out.set HP.out HK.out (HG0.out.bx.txt xx)); have g0 := HG0.out.bx.c0; have g1 := HG0.out.bx.c1; have g2 := HG0.out.bx.c2; have h0 := HG0.out.bx.f2; dsimp only at g0 g1 g2; have a0 := HG.out.bx.c0; have a1 := HG.out.bx.c1; have a2 := HG.out.bx.c2; have f0 := HG.out.bx.f0; have f1 := HG.out.bx.f1; have f2 := HG.out.bx.f2; have z0 := HG.out.zz.c0; have z1 := HG.out.zz.c1; have z2 := HG.out.zz.c2; have y0 := HG.out.zz.f0; have y1 := HG.out.zz.f1; have y2 := HG.out.zz.f2; have cc := HG.out.cc; have zl := HG.out.zz.lt; have bl := HG.out.bx.lt; have pl := HG.out.rd.lt; have e2 := HG.out.rd.c2; dsimp only [DV.none] at a0 a1 a2 z0 z1 z2; clear hr hf)))
      exact bodyPost_ret (res_one rfl _ rfl (HG.out.zz.setAll ⟨2, 0, xx⟩)) rfl ⟨rfl, HG.out.ends HP.out HK.out ⟨2, 0, xx⟩⟩
    · rw [if_pos her]
      have hb : (s2.er != 0) = true := by rw [bne_iff_ne]; exact her
      clear her
      go_enter Tryz.func19, Tryz.ntmps19
      go_wp2_with (first
        | (go_at_call 50; ((with_reducible refine HC.out.mono ?_); rintro e w1 ⟨rfl, hr, hf⟩; have HG := Lib.hid (GS.start HP.out hr hf ⟨2, 0, []⟩); have a0 := HG.out.bx.c0; have a1 := HG.out.bx.c1; have a2 := HG.out.bx.c2; have f0 := HG.out.bx.f0; have f1 := HG.out.bx.f1; have f2 := HG.out.bx.f2; have z0 := HG.out.zz.c0; have z1 := HG.out.zz.c1; have z2 := HG.out.zz.c2; have y0 := HG.out.zz.f0; have y1 := HG.out.zz.f1; have y2 := HG.out.zz.f2; have cc := HG.out.cc; have zl := HG.out.zz.lt; have bl := HG.out.bx.lt; have pl := HG.out.rd.lt; have e2 := HG.out.rd.c2; dsimp only [DV.none] at a0 a1 a2 z0 z1 z2; clear hr hf))
        | (go_at_call 52; ((with_reducible refine (HN.out _ HG.out.rd).mono ?_); rintro e w2 ⟨rfl, hr, hf⟩; have HG0 := Lib.hid (HG.out.step HP.out hr hf); have HG := Lib.hid (HG0.out.set HP.out HK.out (HG0.out.bx.txt xx)); have g0 := HG0.out.bx.c0; have g1 := HG0.out.bx.c1; have g2 := HG0.out.bx.c2; have h0 := HG0.out.bx.f2; dsimp only at g0 g1 g2; have a0 := HG.out.bx.c0; have a1 := HG.out.bx.c1; have a2 := HG.out.bx.c2; have f0 := HG.out.bx.f0; have f1 := HG.out.bx.f1; have f2 := HG.out.bx.f2; have z0 := HG.out.zz.c0; have z1 := HG.out.zz.c1; have z2 := HG.out.zz.c2; have y0 := HG.out.zz.f0; have y1 := HG.out.zz.f1; have y2 := HG.out.zz.f2; have cc := HG.out.cc; have zl := HG.out.zz.lt; have bl := HG.out.bx.lt; have pl := HG.out.rd.lt; have e2 := HG.out.rd.c2; dsimp only [DV.none] at a0 a1 a2 z0 z1 z2; clear hr hf)))
      exact bodyPost_ret (res_one rfl _ rfl (HG.out.zz.setAll DV.none)) rfl ⟨rfl, HG.out.ends HP.out HK.out DV.none⟩

  rw [if_neg h2]
  have b2 : (n == 2) = false := by rw [beq_eq_false_iff_ne]; exact h2
  clear h1 h2
  simp only
  · skip
    by_cases her : s1.er = 0
    · rw [if_neg (by simpa using her)]
      have hb : (s1.er != 0) = false := by rw [her]; rfl
      clear her
      go_enter Tryz.func19, Tryz.ntmps19
      go_wp2_with (first
        | (go_at_call 50; ((with_reducible refine HC.out.mono ?_); rintro e w1 ⟨rfl, hr, hf⟩; have HR1 := Lib.hid hr; have HF1 := Lib.hid hf; have hz := (at_new w DV.none).fr hf (by have := HP.out; omega); have z0 := hz.c0; have z1 := hz.c1; have z2 := hz.c2; have y0 := hz.f0; have y1 := hz.f1; have y2 := hz.f2; have zl := hz.lt; have pl := hr.lt; have e2 := hr.c2; dsimp only [DV.none] at z0 z1 z2; clear hr hf hz)))
      have hE := GS.late HP.out HK.out HR1.out HF1.out ⟨n, 0, []⟩ ⟨n, 0, []⟩
      exact bodyPost_ret (res_one rfl _ rfl hE.1) rfl ⟨rfl, hE.2⟩
    · rw [if_pos her]
      have hb : (s1.er != 0) = true := by rw [bne_iff_ne]; exact her
      clear her
      go_enter Tryz.func19, Tryz.ntmps19
      go_wp2_with (first
        | (go_at_call 50; ((with_reducible refine HC.out.mono ?_); rintro e w1 ⟨rfl, hr, hf⟩; have HR1 := Lib.hid hr; have HF1 := Lib.hid hf; have hz := (at_new w DV.none).fr hf (by have := HP.out; omega); have z0 := hz.c0; have z1 := hz.c1; have z2 := hz.c2; have y0 := hz.f0; have y1 := hz.f1; have y2 := hz.f2; have zl := hz.lt; have pl := hr.lt; have e2 := hr.c2; dsimp only [DV.none] at z0 z1 z2; clear hr hf hz)))
      have hE := GS.late HP.out HK.out HR1.out HF1.out ⟨0, 0, []⟩ ⟨n, 0, []⟩
      exact bodyPost_ret (res_one rfl _ rfl hE.1) rfl ⟨rfl, hE.2⟩

end Go.Proofs.YtjkfcmadoeifgaaGreatDoor
