/- Any bytes read in any way: what is left and the place are all bytes together as long as there is no fault, and a Count up to what is left is no more: racelaw2.WireLeft answers true and leaves its arguments as they were. Conditions: none. -/
import Derived.Test.YtioopibmpcbcjaaZ
import Derived.Test.YtioopibmpcbcjaaI
import Derived.Test.YtioopibmpcbcjaaR4
import Derived.Test.YtioopibmpcbcjaaR6
import Derived.Test.YtioopibmpcbcjaaR7
namespace Go.Proofs.Ytioopibmpcbcjaa
open Go.ChangeShapes Go.WideShapes Go.ChangeAt Go.RowKit
theorem rInt_bs (s : Rst) : (rInt s).2.bs = s.bs := by
  unfold rInt number; split <;> exact (look_keeps s).1
theorem stop_bs (e : Int) (q : Nat) (s : Rst) : (stopR e q s).bs = s.bs := by unfold stopR; split <;> rfl
theorem rFlag_bs (s : Rst) : (rFlag s).2.bs = s.bs := by
  unfold rFlag; repeat' split
  all_goals first | rfl | exact stop_bs _ _ _
theorem rFloat_bs (s : Rst) : (rFloat s).2.bs = s.bs := by
  unfold rFloat; repeat' split
  all_goals first | rfl | exact stop_bs _ _ _
theorem rSz_bs (m a : Int) (s : Rst) : (rSz m a s).2.bs = s.bs := by
  have h := (look_keeps s).1
  unfold rSz; repeat' split
  all_goals first | exact h | (rw [stop_bs]; exact h)
theorem rSz_range (m a : Int) (s : Rst) (hm : 0 ≤ m) : 0 ≤ (rSz m a s).1 ∧ (rSz m a s).1 ≤ m := by
  unfold rSz; repeat' split
  all_goals (constructor <;> simp only [] <;> omega)
set_option maxRecDepth 100000 in
theorem wireLeft_first (w : World) (v : Value) (xs : List UInt8) (h : HasB (fun k => k < w.heap.size) w v xs) (ao : Option Addr) (cap : Nat) (l : List It) (hI : HasI w ao l) (hm : l.length ≤ 9223372036854775807) (hwf : ∀ t ∈ l, t.wf)
    (hcase : 20000 < xs.length ∨ xs.length ≤ 20000 ∧ fewB l = false) :
    Calls Try.prog 10 #[v, .slice ao l.length cap] w fun e w' => e = .returned (.bool true) ∧ Below w.heap.size w w' := by
  obtain ⟨bo, bc, rfl, _⟩ := h
  have HB := Lib.hid (Below.refl w.heap.size w)
  have HI := Lib.hid hI
  have HWF := Lib.hid hwf
  clear hI hwf
  rcases hcase with hc | ⟨hc, hf⟩
  · have hc' : (20000 : Int) < (xs.length : Int) := by omega
    go_enter Try.func10, Try.ntmps10
    go_wp2_with (first
      | (go_at_call 11; refine (first_any _).mono ?_; rintro e w1 ⟨rfl, hb1⟩; have HB := Lib.hid (HB.out.trans (hb1.mono HB.out.size)); clear hb1)
      | go_quiet (fail))
    go_ret
    exact ⟨rfl, HB.out⟩
  · have hc' : ¬ (20000 : Int) < (xs.length : Int) := by omega
    go_enter Try.func10, Try.ntmps10
    go_wp2_with (first
      | (go_at_call 11; refine (first_any _).mono ?_; rintro e w1 ⟨rfl, hb1⟩; have HB := Lib.hid (HB.out.trans (hb1.mono HB.out.size)); clear hb1)
      | (go_at_call 12; refine (few_any ao cap l hm _ (HI.out.below HB.out) HWF.out).mono ?_; rw [hf]; rintro e w1 ⟨rfl, rfl⟩)
      | go_quiet (fail))
    go_ret
    exact ⟨rfl, HB.out⟩
set_option maxRecDepth 100000 in
theorem wireLeft_some (w : World) (v : Value) (xs : List UInt8) (h : HasB (fun k => k < w.heap.size) w v xs) (ao : Option Addr) (cap : Nat) (l : List It) (hI : HasI w ao l) (hm : l.length ≤ 9223372036854775807) (hwf : ∀ t ∈ l, t.wf)
    (hc : xs.length ≤ 20000) (hf : fewB l = true) :
    Calls Try.prog 10 #[v, .slice ao l.length cap] w fun e w' => e = .returned (.bool true) ∧ Below w.heap.size w w' := by
  have HV := Lib.hid h
  obtain ⟨bo, bc, rfl, _⟩ := h
  have HB := Lib.hid (Below.refl w.heap.size w)
  have HI := Lib.hid hI
  have HWF := Lib.hid hwf
  clear hI hwf
  have hc' : ¬ (20000 : Int) < (xs.length : Int) := by omega
  go_enter Try.func10, Try.ntmps10
  go_wp2_with (first
    | (go_at_call 11; refine (first_any _).mono ?_; rintro e w1 ⟨rfl, hb1⟩; have HB := Lib.hid (HB.out.trans (hb1.mono HB.out.size)); clear hb1)
    | (go_at_call 12; refine (few_any ao cap l hm _ (HI.out.below HB.out) HWF.out).mono ?_; rw [hf]; rintro e w1 ⟨rfl, rfl⟩)
    | (go_at_call 19; refine (newReader_any (HV.out.fr (Fr.of_below HB.out (S := fun k => w.heap.size ≤ k) (fun _ _ h => h)) (fun k hk h => by omega)) (by omega)).mono ?_; rintro e w2 ⟨r, vr, rfl, hr, h2, f2⟩; have HR := Lib.hid h2; have HP := Lib.hid (Nat.le_trans HB.out.size hr); have HB := Lib.hid (HB.out.trans (f2.below (B := w.heap.size) (fun _ h => h.elim) HB.out.size)); clear h2 f2 hr))
  go_loopw [6] (fun i wr => ∃ (k : Nat) (s : Rst), i = .int .i64 k ∧ k ≤ l.length ∧ Hid (Rd 71 (fun k => w1.heap.size ≤ k ∧ k < r) wr r vr s) ∧ Hid (s.bs = xs) ∧ Hid (Below w.heap.size w wr)) (fun i _ => l.length - (intOf i).toNat)
  case atStart => exact ⟨0, _, rfl, Nat.zero_le _, HR, rfl, HB⟩
  case round =>
    obtain ⟨k, s, rfl, hk, HR, HS, HB⟩ := hrel
    by_cases hlt : k < l.length
    · rcases HI.out with h0 | ⟨b, off, rfl, hbl, hcell⟩
      · rw [h0] at hlt; simp at hlt
      have HT : Hid (∀ w', Below w.heap.size w w' → ItAt w' b (off + k * 5) (l.getD k default)) := fun w' hb => (hcell k hlt).block (hb.block b hbl)
      generalize l.getD k default = t at HT
      clear hcell
      have hle := HR.out.le
      have hle' : s.pl ≤ xs.length := by rw [← HS.out]; exact hle
      clear hle
      by_cases he : s.er = 0
      · have b1 : (s.er == 0) = true := by rw [he]; rfl
        have b2 : (s.er != 0) = false := by rw [he]; rfl
        have hL : leftR s = xs.length - s.pl := by unfold leftR; rw [if_neg (by simp [he]), HS.out]
        have b3 : (((s.pl : Int) + ((leftR s : Nat) : Int)) != (xs.length : Int)) = false := by rw [bne_eq_false_iff_eq]; omega
        have hll : leftR s ≤ 20000 := by omega
        clear he hL
        go_wp2_with (first
          | (go_at_call 24; refine (fault_any HR.out).mono ?_; rintro e w1 ⟨rfl, h1, f1⟩; have HR := Lib.hid h1; have HB := Lib.hid (HB.out.trans (f1.below (B := w.heap.size) (fun i hi => by rw [hi]; exact HP.out) HB.out.size)); have d1 := HR.out.c1; clear h1 f1)
          | (go_at_call 33; refine (left_any HR.out).mono ?_; rintro e w1 ⟨rfl, h1, f1⟩; have HR := Lib.hid h1; have HB := Lib.hid (HB.out.trans (f1.below (B := w.heap.size) (fun i hi => by rw [hi]; exact HP.out) HB.out.size)); have i0 := (HT.out _ HB.out).c0; clear h1 f1)
          | (go_at_call 25; refine (place_any HR.out).mono ?_; rintro e w1 ⟨rfl, rfl⟩)
          | (go_at_call 26; refine (int_any HR.out).mono ?_; rintro e w1 ⟨rfl, h1, f1⟩; have HR := Lib.hid h1; have HB := Lib.hid (HB.out.trans (f1.below (B := w.heap.size) (fun i hi => by rw [hi]; exact HP.out) HB.out.size)); have HS := Lib.hid ((rInt_bs s).trans HS.out); clear h1 f1)
          | (go_at_call 27; refine (flag_any HR.out).mono ?_; rintro e w1 ⟨rfl, h1, f1⟩; have HR := Lib.hid h1; have HB := Lib.hid (HB.out.trans (f1.below (B := w.heap.size) (fun i hi => by rw [hi]; exact HP.out) HB.out.size)); have HS := Lib.hid ((rFlag_bs s).trans HS.out); clear h1 f1)
          | (go_at_call 28; refine (float_any HR.out).mono ?_; rintro e w1 ⟨rfl, h1, f1⟩; have HR := Lib.hid h1; have HB := Lib.hid (HB.out.trans (f1.below (B := w.heap.size) (fun i hi => by rw [hi]; exact HP.out) HB.out.size)); have HS := Lib.hid ((rFloat_bs s).trans HS.out); clear h1 f1)
          | (go_at_call 31; refine (count_any HR.out ((leftR s : Nat) : Int)).mono ?_; rintro e w1 ⟨rfl, h1, f1⟩; have HR := Lib.hid h1; have HB := Lib.hid (HB.out.trans (f1.below (B := w.heap.size) (fun i hi => by rw [hi]; exact HP.out) HB.out.size)); have HS := Lib.hid ((rSz_bs ((leftR s : Nat) : Int) 3 s).trans HS.out); have hn := rSz_range ((leftR s : Nat) : Int) 3 s (by omega); obtain ⟨hn0, hn1⟩ := hn; clear h1 f1)
          | go_quiet (fail))
        all_goals exact ⟨⟨k + 1, _, by simp, by omega, HR, HS, HB⟩, by simp [intOf]; omega⟩
      · have b1 : (s.er == 0) = false := by rw [beq_eq_false_iff_ne]; exact he
        have b2 : (s.er != 0) = true := by rw [bne_iff_ne]; exact he
        have hL : leftR s = 0 := by unfold leftR; rw [if_pos he]
        have b3 : (((leftR s : Nat) : Int) != 0) = false := by rw [bne_eq_false_iff_eq]; omega
        have hll : leftR s ≤ 20000 := by omega
        clear he hL
        go_wp2_with (first
          | (go_at_call 24; refine (fault_any HR.out).mono ?_; rintro e w1 ⟨rfl, h1, f1⟩; have HR := Lib.hid h1; have HB := Lib.hid (HB.out.trans (f1.below (B := w.heap.size) (fun i hi => by rw [hi]; exact HP.out) HB.out.size)); have d1 := HR.out.c1; clear h1 f1)
          | (go_at_call 33; refine (left_any HR.out).mono ?_; rintro e w1 ⟨rfl, h1, f1⟩; have HR := Lib.hid h1; have HB := Lib.hid (HB.out.trans (f1.below (B := w.heap.size) (fun i hi => by rw [hi]; exact HP.out) HB.out.size)); have i0 := (HT.out _ HB.out).c0; clear h1 f1)
          | (go_at_call 25; refine (place_any HR.out).mono ?_; rintro e w1 ⟨rfl, rfl⟩)
          | (go_at_call 26; refine (int_any HR.out).mono ?_; rintro e w1 ⟨rfl, h1, f1⟩; have HR := Lib.hid h1; have HB := Lib.hid (HB.out.trans (f1.below (B := w.heap.size) (fun i hi => by rw [hi]; exact HP.out) HB.out.size)); have HS := Lib.hid ((rInt_bs s).trans HS.out); clear h1 f1)
          | (go_at_call 27; refine (flag_any HR.out).mono ?_; rintro e w1 ⟨rfl, h1, f1⟩; have HR := Lib.hid h1; have HB := Lib.hid (HB.out.trans (f1.below (B := w.heap.size) (fun i hi => by rw [hi]; exact HP.out) HB.out.size)); have HS := Lib.hid ((rFlag_bs s).trans HS.out); clear h1 f1)
          | (go_at_call 28; refine (float_any HR.out).mono ?_; rintro e w1 ⟨rfl, h1, f1⟩; have HR := Lib.hid h1; have HB := Lib.hid (HB.out.trans (f1.below (B := w.heap.size) (fun i hi => by rw [hi]; exact HP.out) HB.out.size)); have HS := Lib.hid ((rFloat_bs s).trans HS.out); clear h1 f1)
          | (go_at_call 31; refine (count_any HR.out ((leftR s : Nat) : Int)).mono ?_; rintro e w1 ⟨rfl, h1, f1⟩; have HR := Lib.hid h1; have HB := Lib.hid (HB.out.trans (f1.below (B := w.heap.size) (fun i hi => by rw [hi]; exact HP.out) HB.out.size)); have HS := Lib.hid ((rSz_bs ((leftR s : Nat) : Int) 3 s).trans HS.out); have hn := rSz_range ((leftR s : Nat) : Int) 3 s (by omega); obtain ⟨hn0, hn1⟩ := hn; clear h1 f1)
          | go_quiet (fail))
        all_goals exact ⟨⟨k + 1, _, by simp, by omega, HR, HS, HB⟩, by simp [intOf]; omega⟩
    · obtain rfl : k = l.length := by omega
      go_wp2_with (first
        | (go_at_call 11; refine (first_any _).mono ?_; rintro e w1 ⟨rfl, hb1⟩; have HB := Lib.hid (HB.out.trans (hb1.mono HB.out.size)); clear hb1))
      go_ret
      exact ⟨rfl, HB.out⟩
theorem wireLeft_walk (w : World) (v : Value) (xs : List UInt8) (h : HasB (fun k => k < w.heap.size) w v xs) (hmx : xs.length ≤ 9223372036854775807) (ao : Option Addr) (cap : Nat) (l : List It) (hm : l.length ≤ cap) (hc : cap ≤ maxLen) (hI : HasI w ao l) (hwf : ∀ t ∈ l, t.wf) :
    Calls Try.prog 10 #[v, .slice ao l.length cap] w fun e w' => e = .returned (.bool true) ∧ Below w.heap.size w w' := by
  have hm' : l.length ≤ 9223372036854775807 := by unfold maxLen at hc; omega
  by_cases h1 : xs.length ≤ 20000
  · cases h2 : fewB l
    · exact wireLeft_first w v xs h ao cap l hI hm' hwf (.inr ⟨h1, h2⟩)
    · exact wireLeft_some w v xs h ao cap l hI hm' hwf h1 h2
  · exact wireLeft_first w v xs h ao cap l hI hm' hwf (.inl (by omega))

set_option maxRecDepth 100000 in
theorem wireLeft_lifted (os : Os) (started : os.Started) (H : Type) (enc : TypeId × Value → H) :
    ReturnsInHanded {} Try.checked os 10 .any (Rows.wireLeftSpec.pre6 enc Try.prog Try.f10 [] false) (Rows.wireLeftSpec.post enc Try.prog Try.f10 false true false false) := by
  refine returnsInHanded_of_change (C := Try.checked) own started (by kernel_rfl) Try.func10
    (ChangeSpec.witness6 (enc := enc) (C := Try.checked) false ⟨#[], #[.slice none 0 0, .slice none 0 0], []⟩ 8 (by kernel_rfl) (by kernel_rfl) (by kernel_rfl) (by kernel_rfl)) ?_
  intro W base args ds gs before hval0 hW _ _
  have hval : ∀ (j : Nat) t v, Try.f10.params[j]? = some t → args[j]? = some v → Value.okWide Try.prog W .any base t v := hval0
  have hW' := hW
  obtain ⟨p, q, hA0, hV, rfl, hfz, hnd⟩ := hW
  have hA : DataW.TrodAll enc Try.prog W 0 (fun _ => true) true Try.f10.params.toList args.toList ds p := hA0
  rw [Try.params10] at hA hval
  obtain ⟨v0, v1, d0, d1, p0, p1, rfl, rfl, rfl, h0, h1⟩ := trodAll_two hA
  obtain ⟨b0, len0, cap0, rfl⟩ := okWide_slice Try.underlying31 (hval 0 31 v0 rfl rfl)
  have k0 := h0
  obtain ⟨fuel0, g0⟩ := h0
  obtain ⟨b1, len1, cap1, rfl⟩ := okWide_slice Try.underlying22 (hval 1 22 v1 rfl rfl)
  have k1 := h1
  obtain ⟨fuel1, g1⟩ := h1
  obtain ⟨rfl, rfl⟩ := trodVars_none hV
  clear hA0 hval0
  simp only [List.append_nil] at hW'
  have hlt : ∀ x ∈ p0 ++ p1, x.block < W.heap.size := fun x hx => hW'.lt x (by simpa using hx)
  obtain ⟨xs0, r0, m0⟩ := open_has g0
  obtain ⟨ao1, cp1, xs1, e1, m1, c1, r1, u1⟩ := open_items g1
  rw [e1] at k1 hW' ⊢
  refine Calls.mono (?walk : Calls _ _ _ _ fun e w' => e = .returned (.bool true) ∧ Below W.heap.size W w') fun e W' ⟨he, hw⟩ => ?_
  case walk =>
    exact wireLeft_walk W _ xs0 r0 m0 ao1 cp1 xs1 m1 c1 r1 u1
  subst he
  exact ⟨_, rfl, post_of_below (pa := p0 ++ p1) (pv := []) hW' (fun _ _ _ => trodAll_mk1 (shut_bool Try.underlying4 _)) (fun sp hsp => trodAll_mk2 (WideElems.Trod_stays laidOut (by kernel_rfl) (of_decide_eq_true (by kernel_rfl)) k0 (fun x hx => hw.same (hlt x (by simp [hx]))) (fun x hx => hsp x (by simp [hx]))) (WideElems.Trod_stays laidOut (by kernel_rfl) (of_decide_eq_true (by kernel_rfl)) k1 (fun x hx => hw.same (hlt x (by simp [hx]))) (fun x hx => hsp x (by simp [hx])))) (fun _ _ => rfl) (by simp) hw (ok_one (by kernel_rfl) rfl (okWide_bool_mk Try.underlying4 _))⟩
/-- THE ROW. -/
theorem wireLeft_holds : Rows.WireLeftSaid :=
  OpenClaim.holds_of_wide 10 Try.f10 rfl rfl rfl rfl rfl rfl rfl ⟨rfl, rfl, rfl, rfl, rfl⟩ rfl rfl rfl rfl rfl (by kernel_rfl) Try.func10 (by kernel_rfl)
    (of_decide_eq_true (by kernel_rfl)) (by unfold Func.isWrapper; first | (rw [if_pos (by decide +kernel)]; kernel_rfl) | (rw [if_neg (by decide +kernel)]; exact ⟨rfl, rfl⟩))
    (fun os started H enc _ => wireLeft_lifted os started H enc)
#print axioms wireLeft_holds
end Go.Proofs.Ytioopibmpcbcjaa
