/- The document's net (raceref13): Twice, Move. Conditions: no more than a million mails; bytes as a row holds them. -/
import Derived.Test.YtcgbjpmmbbldpaaMe
import Derived.StillTailTactics
namespace Go.Proofs.Ytcgbjpmmbbldpaa
open Go.ChangeShapes Go.WideShapes Go.ChangeAt Go.RowKit Go.Deep
section
variable {C D : Nat → Prop} {w : World} {a : Nat} {room : Int} {l : List MV}
theorem DA.sb {w : World} {m : MV} {ao : Option Addr} {n cap : Nat} (h : DA C w (m, .slice ao n cap)) (hn : n = m.d.length) : SB C w ao m.d.length cap m.d := by
  subst hn
  exact (own_sb h.own).mono fun k _ e => h.row k e
theorem rtwice_no (h : RN C w a room l) {i : Int} (hi : hasB l i = false) : Calls Try.prog 28 #[ptr a, .int .i64 i] w (RSent C w a room l 8) := by
  have HH := fun w h => Lib.hid (rhas_any (w := w) (a := a) (C := C) (room := room) (l := l) h i)
  simp only [hi] at HH
  have HR := Lib.hid h
  clear h hi
  go_enter Try.func28, Try.ntmps28
  go_wp2_with (go_at_call 31; refine (HH _ HR.out).out.mono ?_; rintro e w1 ⟨rfl, rfl⟩)
  go_ret
  exact ⟨rfl, C, HR.out, fun _ h => h, Way.refl _ _⟩
set_option maxRecDepth 100000 in
set_option maxHeartbeats 4000000 in
theorem rtwice_yes (h : RN C w a room l) {i : Nat} (hi : i < l.length) (hl : l.length ≤ 1000000) (hd : l[i].d.length ≤ 100000000) : Calls Try.prog 28 #[ptr a, .int .i64 i] w (RSent C w a room (if room ≤ l.length then l else l ++ [l[i]]) (if room ≤ l.length then 11 else 0)) := by
  have HH := fun w h => Lib.hid (rhas_any (w := w) (a := a) (C := C) (room := room) (l := l) h i)
  simp only [hasB_of hi] at HH
  have HR := Lib.hid h
  obtain ⟨v, L, hr⟩ := HR.out
  have hk : i < L.length := by rw [hr.len]; exact hi
  have c1 := hr.c1
  obtain ⟨ao, cap, e⟩ := own_slice hr.ml.own
  subst e
  rw [hr.len] at c1
  obtain ⟨g, rfl, hgl, hCg, hm, hda⟩ := hr.ml.at_ hk
  have he := eq_at hr.eq hk hi
  have hal := hr.alt
  have HAL := Lib.hid hal
  clear hr hal
  generalize L[i] = x at *
  obtain ⟨x, u⟩ := x
  simp only at he
  rw [← he] at hd
  rw [← he]
  have HSN : ∀ (w1 : World), RN C w1 a room l → ∀ {ao : Option Addr} {cap : Nat}, SB C w1 ao x.d.length cap x.d → Hid (Calls Try.prog 25 #[ptr a, .int .i64 x.f, .int .i64 x.t, .slice ao x.d.length cap] w1 (RSent C w1 a room (if room ≤ l.length then l else l ++ [x]) (if room ≤ l.length then 11 else 0))) := fun w1 h {ao cap} hs => Lib.hid (rsend_any h x.f x.t hs hd hl)
  generalize (if room ≤ (l.length : Int) then l else l ++ [x]) = l1 at *
  generalize (if room ≤ (l.length : Int) then (11 : Int) else 0) = r1 at *
  obtain ⟨n, hn⟩ : ∃ n, l.length = n := ⟨_, rfl⟩
  rw [hn] at c1 hi
  clear he hn hl h hk hd
  obtain ⟨uo, uc, e⟩ := own_slice hda.own
  simp only at e
  subst e
  have HSB := Lib.hid (hda.sb rfl)
  have HM := Lib.hid hm
  clear hda hm
  obtain ⟨xf, xt, xd⟩ := x
  have d0 := HM.out.c0; have d1 := HM.out.c1; have d2 := HM.out.c2
  simp only at d0 d1 d2 HSN
  go_enter Try.func28, Try.ntmps28
  go_wp2_with (first | (go_at_call 31; refine (HH _ HR.out).out.mono ?_; rintro e w1 ⟨rfl, rfl⟩) | fail)
  refine wp_region_still_tail 25 (by kernel_rfl) (by kernel_rfl) ?_
  simp only [List.take_succ_cons, List.take_zero, List.drop_succ_cons, List.drop_zero]
  iterate 25 still_step
  refine wpStill_nil ?_
  change wpList _ _ _ _ _ w.drew
  have HB := Lib.hid ((Below.refl w.heap.size w).drew)
  go_wp2_with (go_at_call 25; refine (HSN _ (HR.out.below HB.out) (HSB.out.below HB.out)).out.mono ?_; rintro e w2 ⟨rfl, C', h1, h2, h3⟩; have HN2 := Lib.hid h1; have HC2 := Lib.hid h2; have HW2 := Lib.hid h3; clear h1 h2 h3)
  go_ret
  exact ⟨rfl, C', HN2.out, HC2.out, (Way.of_below HB.out).trans HW2.out⟩
end
end Go.Proofs.Ytcgbjpmmbbldpaa
