/- racelaw14.first. Conditions: none. -/
import Derived.Test.YtfcdajkgopcmpaaDn
namespace Go.Proofs.Ytfcdajkgopcmpaa
open Go.ChangeShapes Go.WideShapes Go.ChangeAt Go.RowKit Go.Deep
def ex1 : List RV := [⟨1, 0, 0, 4602678819172646912⟩, ⟨2, 0, 4602678819172646912, 4607182418800017408⟩]
def ex2 : List RV := [⟨1, 1, 0, 4598175219545276416⟩, ⟨3, 0, 4598175219545276416, 4602678819172646912⟩]
def ex3 : List RV := [⟨2, -1, 0, 4607182418800017408⟩]
def ex4 : List RV := [⟨1, 1, 0, 4598175219545276416⟩, ⟨2, 0, 4602678819172646912, 4607182418800017408⟩, ⟨3, 0, 4598175219545276416, 4602678819172646912⟩]
theorem ex_check : checkV ex1 = 0 := by decide +kernel
theorem ex_new : newL ex1 = ex1 := by kernel_rfl
theorem ex_learn : learnL ex1 ex2 = (ex4, 2) := by kernel_rfl
theorem ex_learn2 : learnL ex4 ex3 = (ex4, 0) := by kernel_rfl
theorem ex_none : routeL ex4 ⟨#[]⟩ = (RV.zero, false) := by kernel_rfl
theorem ex_k : routeL ex4 ⟨#[107]⟩ = (⟨1, 1, 0, 4598175219545276416⟩, true) := by kernel_rfl
theorem ex_wf : (∀ r ∈ ex1, r.wf) ∧ (∀ r ∈ ex2, r.wf) ∧ (∀ r ∈ ex3, r.wf) := by
  refine ⟨?_, ?_, ?_⟩ <;> intro r hr <;> simp [ex1, ex2, ex3] at hr
  · rcases hr with rfl | rfl <;> (unfold RV.wf; decide)
  · rcases hr with rfl | rfl <;> (unfold RV.wf; decide)
  · subst hr; unfold RV.wf; decide
abbrev robj2 (r q : RV) : Obj := .cells #[.int .i64 r.i, .int .i64 r.e, .float .f64 r.lo, .float .f64 r.hi, .int .i64 q.i, .int .i64 q.e, .float .f64 q.lo, .float .f64 q.hi] 37
theorem has_two (w : World) (r q : RV) : HasR (· = w.heap.size) (w.alloc (robj2 r q)) (.slice (some ⟨w.heap.size, 0, none⟩) 2 2) [r, q] := by
  refine ⟨_, 2, rfl, Nat.le_refl _, by decide, (fun e => by cases e), .inr ⟨w.heap.size, 0, rfl, rfl, by simp, fun i hi => ?_⟩⟩
  match i, hi with
  | 0, _ => exact ⟨by simp [World.cell?_alloc_new], by simp [World.cell?_alloc_new], by simp [World.cell?_alloc_new], by simp [World.cell?_alloc_new]⟩
  | 1, _ => exact ⟨by simp [World.cell?_alloc_new], by simp [World.cell?_alloc_new], by simp [World.cell?_alloc_new], by simp [World.cell?_alloc_new]⟩
  | i + 2, hi => exact absurd hi (by simp)
theorem has_one (w : World) (r : RV) : HasR (· = w.heap.size) (w.alloc (robj r)) (.slice (some ⟨w.heap.size, 0, none⟩) 1 1) [r] := by
  obtain ⟨x1, x2, x3, x4, x5, x6, x7⟩ := has_lit w r
  refine ⟨x1, x2, x3, x4, x5, x6, x7.imp_right fun ⟨y1, y2, y3, y4, y5, y6⟩ => ⟨y1, y2, y3, ?_, y5, y6⟩⟩
  injection x3 with e1 _ _
  rw [y3] at e1
  injection e1 with e1
  injection e1 with e1
  exact e1.symm
section
variable {w : World}
set_option maxRecDepth 100000 in
set_option maxHeartbeats 4000000 in
theorem first14_any (w : World) : Calls Try.prog 7 #[] w fun e w' => e = .returned (.bool true) ∧ Below w.heap.size w w' := by
  have hst := run_stf
  have HN := Lib.hid (dnew_yes (has_two w ⟨1, 0, 0, 4602678819172646912⟩ ⟨2, 0, 4602678819172646912, 4607182418800017408⟩) ex_wf.1 ex_check)
  simp only [show [(⟨1, 0, 0, 4602678819172646912⟩ : RV), ⟨2, 0, 4602678819172646912, 4607182418800017408⟩] = ex1 from rfl, ex_new] at HN
  have HB0 := Lib.hid (below1 w (robj2 ⟨1, 0, 0, 4602678819172646912⟩ ⟨2, 0, 4602678819172646912, 4607182418800017408⟩))
  have HL1 := fun w' C a (h : DKm C w' a ex1) => Lib.hid (dlearn_any (h.below (below1 w' (robj2 ⟨1, 1, 0, 4598175219545276416⟩ ⟨3, 0, 4598175219545276416, 4602678819172646912⟩))) (has_two w' ⟨1, 1, 0, 4598175219545276416⟩ ⟨3, 0, 4598175219545276416, 4602678819172646912⟩) (fun k e hc => by have := h.lt k hc; omega) ex_wf.2.1 (by decide))
  simp only [show [(⟨1, 1, 0, 4598175219545276416⟩ : RV), ⟨3, 0, 4598175219545276416, 4602678819172646912⟩] = ex2 from rfl, ex_learn] at HL1
  dsimp only [robj2] at HL1 HN
  have HL2 := fun w' C a (h : DKm C w' a ex4) => Lib.hid (dlearn_any (h.below (below1 w' (robj ⟨2, -1, 0, 4607182418800017408⟩))) (has_one w' ⟨2, -1, 0, 4607182418800017408⟩) (fun k e hc => by have := h.lt k hc; omega) ex_wf.2.2 (by decide))
  simp only [show [(⟨2, -1, 0, 4607182418800017408⟩ : RV)] = ex3 from rfl, ex_learn2] at HL2
  dsimp only [robj] at HL2
  have HR1 := fun w' C a (h : DKm C w' a ex4) => Lib.hid (droute_any h ⟨#[]⟩ (by decide))
  simp only [ex_none] at HR1
  have HR2 := fun w' C a (h : DKm C w' a ex4) => Lib.hid (droute_any h ⟨#[107]⟩ (by decide))
  simp only [ex_k] at HR2
  have HLS := fun w' C a (h : DKm C w' a ex4) => Lib.hid (dlist_any h)
  simp only [show ex4.length = 3 from rfl] at HLS
  go_enter Try.func7, Try.ntmps7
  go_wp2_with (first
    | (go_at_call 9; refine HN.out.mono ?_; rintro e w1 ⟨a, C1, rfl, hd, hc, hb⟩; have HD := Lib.hid hd; have HC : Hid (∀ k, C1 k → w.heap.size ≤ k) := Lib.hid (fun k hk => Nat.le_trans HB0.out.size (hc k hk)); have HB := Lib.hid (HB0.out.trans (hb.mono HB0.out.size)); clear hd hc hb)
    | (go_at_call 19; first
      | (with_reducible refine (HL1 w1 _ _ HD.out).out.mono ?_; rintro e w2 ⟨rfl, C2, hd, hw⟩; have hb := HB.out.alloc HB.out.size (robj2 ⟨1, 1, 0, 4598175219545276416⟩ ⟨3, 0, 4598175219545276416, 4602678819172646912⟩); have HB := Lib.hid (hb.trans (hw.tn.below hb.size HC.out)); have HC : Hid (∀ k, C2 k → w.heap.size ≤ k) := Lib.hid (fun k hk => by rcases hw.new k hk with h | h; exact HC.out k h; exact Nat.le_trans hb.size h.1); have HD := Lib.hid hd; clear hd hw hb)
      | (with_reducible refine (HL2 w2 _ _ HD.out).out.mono ?_; rintro e w3 ⟨rfl, C3, hd, hw⟩; have hb := HB.out.alloc HB.out.size (robj ⟨2, -1, 0, 4607182418800017408⟩); have HB := Lib.hid (hb.trans (hw.tn.below hb.size HC.out)); have HD := Lib.hid hd; clear hd hw hb))
    | (go_at_call 12; first
      | (with_reducible refine (HR1 w3 _ _ HD.out).out.mono ?_; rintro e w4 ⟨rfl, hb⟩; have HD := Lib.hid ((HD.out.below hb).below (below1 _ (robj RV.zero))); have HB := Lib.hid ((HB.out.trans (hb.mono HB.out.size)).alloc (Nat.le_trans HB.out.size hb.size) (robj RV.zero)); clear hb)
      | (with_reducible refine (HR2 _ _ _ HD.out).out.mono ?_; rintro e w5 ⟨rfl, hb⟩; have HD := Lib.hid ((HD.out.below hb).below (below1 _ (robj ⟨1, 1, 0, 4598175219545276416⟩))); have HB := Lib.hid ((HB.out.trans (hb.mono HB.out.size)).alloc (Nat.le_trans HB.out.size hb.size) (robj ⟨1, 1, 0, 4598175219545276416⟩)); clear hb))
    | (go_at_call 18; refine (HLS _ _ _ HD.out).out.mono ?_; rintro e w6 ⟨lo, lc, rfl, _, hb⟩; have HB := Lib.hid (HB.out.trans (hb.mono HB.out.size)); clear hb)
    | fail)
  go_ret
  exact ⟨rfl, HB.out⟩
end
end Go.Proofs.Ytfcdajkgopcmpaa
