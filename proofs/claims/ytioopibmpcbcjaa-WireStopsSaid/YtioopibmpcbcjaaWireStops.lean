/- Behind a fault nothing is told and nothing moves, and the fault stays: racelaw2.WireStops answers true and leaves its arguments as they were. Conditions: none. -/
import Derived.Test.YtioopibmpcbcjaaZ
import Derived.Test.YtioopibmpcbcjaaX8
namespace Go.Proofs.Ytioopibmpcbcjaa
open Go.ChangeShapes Go.WideShapes Go.ChangeAt Go.RowKit
section
variable {K : Nat → Prop} {w : World} {p : Nat} {v : Value} {s : Rst}
theorem left_dead (h : Rd 71 K w p v s) (he : s.er ≠ 0) : Calls Try.prog 33 #[.pointer (some ⟨p, 0, none⟩)] w fun x w' => x = .returned (.int .i64 0) ∧ ∃ m, w' = w.drewN m := by
  have h1 := left_q h
  have e : leftR s = 0 := by unfold leftR; rw [if_pos he]
  rw [e] at h1
  exact h1
theorem rFlag_dead (he : s.er ≠ 0) : rFlag s = (false, s) := by unfold rFlag; rw [if_pos he]
theorem rFloat_dead (he : s.er ≠ 0) : rFloat s = (0, s) := by unfold rFloat; rw [if_pos he]
theorem failR_dead (he : s.er ≠ 0) (e : Int) : failR e s = s := by
  by_cases h0 : e = 0
  · subst h0; exact failR_no s
  · rw [failR_yes h0, stop_not he]
theorem endR_dead (he : s.er ≠ 0) : endR s = (s.er, s.fp) := by unfold endR; rw [if_pos he]
theorem failR_state (s : Rst) : (failR 14 s).er ≠ 0 := by
  rw [failR_yes (by decide)]
  exact stop_er (by decide) _ _
end
set_option maxRecDepth 100000 in
theorem wireStops_first (w : World) (v : Value) (xs : List UInt8) (h : HasB (fun k => k < w.heap.size) w v xs) (ao : Option Addr) (cap : Nat) (l : List It) (hI : HasI w ao l) (hm : l.length ≤ 9223372036854775807) (hwf : ∀ t ∈ l, t.wf) (ao' : Option Addr) (cap' : Nat) (l' : List It) (hI' : HasI w ao' l') (hm' : l'.length ≤ 9223372036854775807) (hwf' : ∀ t ∈ l', t.wf)
    (hcase : fewB l = false ∨ fewB l = true ∧ fewB l' = false ∨ fewB l = true ∧ fewB l' = true ∧ 20000 < xs.length) :
    Calls Try.prog 7 #[v, .slice ao l.length cap, .slice ao' l'.length cap'] w fun e w' => e = .returned (.bool true) ∧ Below w.heap.size w w' := by
  obtain ⟨bo, bc, rfl, _⟩ := h
  have HB := Lib.hid (Below.refl w.heap.size w)
  have HI := Lib.hid hI
  have HWF := Lib.hid hwf
  have HI' := Lib.hid hI'
  have HWF' := Lib.hid hwf'
  clear hI hwf hI' hwf'
  rcases hcase with hf | ⟨hf, hf'⟩ | ⟨hf, hf', hc⟩
  · go_enter Try.func7, Try.ntmps7
    go_wp2_with (first
      | (go_at_call 11; refine (first_any _).mono ?_; rintro e w1 ⟨rfl, hb1⟩; have HB := Lib.hid (HB.out.trans (hb1.mono HB.out.size)); clear hb1)
      | (go_at_call 12; ((with_reducible refine (few_any ao cap l hm _ (HI.out.below HB.out) HWF.out).mono ?_); rw [hf]; rintro e w1 ⟨rfl, rfl⟩)))
    go_ret
    exact ⟨rfl, HB.out⟩
  · go_enter Try.func7, Try.ntmps7
    go_wp2_with (first
      | (go_at_call 11; refine (first_any _).mono ?_; rintro e w1 ⟨rfl, hb1⟩; have HB := Lib.hid (HB.out.trans (hb1.mono HB.out.size)); clear hb1)
      | (go_at_call 12; ((with_reducible refine (few_any ao cap l hm _ (HI.out.below HB.out) HWF.out).mono ?_); rw [hf]; rintro e w1 ⟨rfl, rfl⟩))
      | (go_at_call 12; ((with_reducible refine (few_any ao' cap' l' hm' _ (HI'.out.below HB.out) HWF'.out).mono ?_); rw [hf']; rintro e w1 ⟨rfl, rfl⟩)))
    go_ret
    exact ⟨rfl, HB.out⟩
  · have hc' : (20000 : Int) < (xs.length : Int) := by omega
    go_enter Try.func7, Try.ntmps7
    go_wp2_with (first
      | (go_at_call 11; refine (first_any _).mono ?_; rintro e w1 ⟨rfl, hb1⟩; have HB := Lib.hid (HB.out.trans (hb1.mono HB.out.size)); clear hb1)
      | (go_at_call 12; ((with_reducible refine (few_any ao cap l hm _ (HI.out.below HB.out) HWF.out).mono ?_); rw [hf]; rintro e w1 ⟨rfl, rfl⟩))
      | (go_at_call 12; ((with_reducible refine (few_any ao' cap' l' hm' _ (HI'.out.below HB.out) HWF'.out).mono ?_); rw [hf']; rintro e w1 ⟨rfl, rfl⟩)))
    go_ret
    exact ⟨rfl, HB.out⟩
set_option maxHeartbeats 1600000 in
set_option maxRecDepth 100000 in
theorem wireStops_some (w : World) (v : Value) (xs : List UInt8) (h : HasB (fun k => k < w.heap.size) w v xs) (ao : Option Addr) (cap : Nat) (l : List It) (hI : HasI w ao l) (hm : l.length ≤ 9223372036854775807) (hwf : ∀ t ∈ l, t.wf) (ao' : Option Addr) (cap' : Nat) (l' : List It) (hI' : HasI w ao' l') (hm' : l'.length ≤ 9223372036854775807) (hwf' : ∀ t ∈ l', t.wf)
    (hf : fewB l = true) (hf' : fewB l' = true) (hc : xs.length ≤ 20000) :
    Calls Try.prog 7 #[v, .slice ao l.length cap, .slice ao' l'.length cap'] w fun e w' => e = .returned (.bool true) ∧ Below w.heap.size w w' := by
  have HV := Lib.hid h
  obtain ⟨bo, bc, rfl, _⟩ := h
  have HB := Lib.hid (Below.refl w.heap.size w)
  have HI := Lib.hid hI
  have HWF := Lib.hid hwf
  have HI' := Lib.hid hI'
  have HWF' := Lib.hid hwf'
  clear hI hwf hI' hwf'
  have hc' : ¬ (20000 : Int) < (xs.length : Int) := by omega
  have hroom : xs.length ≤ 140737488355328 := by omega
  go_enter Try.func7, Try.ntmps7
  go_wp2_with (first
    | (go_at_call 11; refine (first_any _).mono ?_; rintro e w1 ⟨rfl, hb1⟩; have HB := Lib.hid (HB.out.trans (hb1.mono HB.out.size)); clear hb1)
    | (go_at_call 12; ((with_reducible refine (few_any ao cap l hm _ (HI.out.below HB.out) HWF.out).mono ?_); rw [hf]; rintro e w1 ⟨rfl, rfl⟩))
    | (go_at_call 12; ((with_reducible refine (few_any ao' cap' l' hm' _ (HI'.out.below HB.out) HWF'.out).mono ?_); rw [hf']; rintro e w1 ⟨rfl, rfl⟩))
    | (go_at_call 19; ((with_reducible refine (newReader_any (HV.out.fr (Fr.of_below HB.out (S := fun k => w.heap.size ≤ k) (fun _ _ h => h)) (fun k hk h => by omega)) hroom).mono ?_); rintro e w3 ⟨r, vr, rfl, hr, h3, f3⟩; have HR := Lib.hid h3; have HP := Lib.hid (Nat.le_trans HB.out.size hr); have HB := Lib.hid (HB.out.trans (f3.below (B := w.heap.size) (fun _ h => h.elim) HB.out.size)); have HQ0 := Lib.hid HB.out.size; have HBA := fun o => Lib.hid (HB.out.alloc HB.out.size o); have HX : Hid (∀ o : Obj, o = .cells #[.slice bo xs.length bc, .int .i64 0, .int .i64 0, .int .i64 0] 41 (0, 0) → Two (fun k => w1.heap.size ≤ k ∧ k < r) (fun k => k < w.heap.size) (w3.alloc o) r w3.heap.size vr (.slice bo xs.length bc) ⟨xs, 0, 0, 0⟩ ⟨xs, 0, 0, 0⟩) := (fun o ho => by
        have h1 := HB.out.size
        have h2 := HP.out
        have h4 := HR.out.lt
        subst ho
        refine ⟨HR.out.fr (fr_alloc w3 _) id (fun _ _ => id), ⟨heap_alloc_new w3 _, ?_, fun k hk => by omega, Nat.zero_le _, hroom, fun e => by cases e⟩, by omega, fun k hk => by omega, fun k hk => by omega⟩
        exact (HV.out.fr (Fr.of_below HB.out (S := fun k => w.heap.size ≤ k) (fun _ _ h => h)) (fun k hk h => by omega)).fr (fr_alloc w3 _) (fun _ _ => id)); clear h3 f3 hr)))
  have hft : ∀ i, foot2 r w3.heap.size i → w.heap.size ≤ i := fun i hi => by have := HP.out; have := HQ0.out; unfold foot2 at hi; omega
  have HFT := Lib.hid hft
  clear hft HB
  go_loopw [9] (fun i wr => ∃ (k : Nat) (s x : Rst), i = .int .i64 k ∧ k ≤ l.length ∧ Hid (Two (fun k => w1.heap.size ≤ k ∧ k < r) (fun k => k < w.heap.size) wr r w3.heap.size vr (.slice bo xs.length bc) s x) ∧ Hid (Like s x) ∧ Hid (Below w.heap.size w wr)) (fun i _ => l.length - (intOf i).toNat)
  case atStart => exact ⟨0, _, _, rfl, Nat.zero_le _, HX.out _ rfl, ⟨rfl, rfl, rfl, fun _ => rfl, fun _ => rfl⟩, HBA _⟩
  case round =>
    obtain ⟨k, s, x, rfl, hk, HT, HL, HB⟩ := hrel
    by_cases hlt : k < l.length
    · rcases HI.out with h0 | ⟨b, off, rfl, hbl, hcell⟩
      · rw [h0] at hlt; simp at hlt
      obtain ⟨i0, i1, i2, i3, i4⟩ := (hcell k hlt).block (HB.out.block b hbl)
      generalize l.getD k default = t at *
      have ha := ask_any HT.out HL.out t
      unfold AskDone at ha
      have HA := Lib.hid ha
      clear hcell ha
      go_wp2_with (first
        | (go_at_call 20; refine (HA.out).mono ?_; rintro e w5 ⟨rfl, h5, f5⟩; have HT5 := Lib.hid h5; have HL5 := Lib.hid (HL.out.ask t); have HB5 := Lib.hid (HB.out.trans (f5.below HFT.out HB.out.size)); clear h5 f5))
      exact ⟨⟨k + 1, _, _, by simp, by omega, HT5, HL5, HB5⟩, by simp [intOf]; omega⟩
    · obtain rfl : k = l.length := by omega
      have HR1 := Lib.hid HT.out.a
      have hdead := failR_state s
      obtain ⟨z, hz⟩ : ∃ z, z = failR 14 s := ⟨_, rfl⟩
      rw [← hz] at hdead
      have HZ := Lib.hid hz
      have HD := Lib.hid hdead
      have z0 : (z.er == 0) = false := by rw [beq_eq_false_iff_ne]; exact hdead
      clear HT HL HR HX hz hdead HBA
      go_wp2_with (first
        | (go_at_call 30; ((with_reducible refine (fail_any HR1.out 14).mono ?_); rw [← HZ.out]; rintro e w5 ⟨rfl, h5, f5⟩; have HR2 := Lib.hid h5; have HB2 := Lib.hid (HB.out.trans (f5.below (B := w.heap.size) (fun i hi => by rw [hi]; exact HP.out) HB.out.size)); clear h5 f5))
        | (go_at_call 24; ((with_reducible refine (fault_any HR2.out).mono ?_); rintro e w6 ⟨rfl, h5, f5⟩; have HR3 := Lib.hid h5; have HB3 := Lib.hid (HB2.out.trans (f5.below (B := w.heap.size) (fun i hi => by rw [hi]; exact HP.out) HB2.out.size)); clear h5 f5))
        | (go_at_call 25; ((with_reducible refine (place_any HR3.out).mono ?_); rintro e w7 ⟨rfl, hww⟩; obtain rfl := hww.symm)))
      go_loopw [13, 14] (fun i _ wr2 => ∃ k : Nat, i = .int .i64 k ∧ k ≤ l'.length ∧ Hid (Rd 71 (fun k => w1.heap.size ≤ k ∧ k < r) wr2 r vr z) ∧ Hid (Below w.heap.size w wr2)) (fun i _ _ => l'.length - (intOf i).toNat)
      case atStart => exact ⟨0, rfl, Nat.zero_le _, HR3, HB3⟩
      case round =>
        obtain ⟨j, rfl, hj, HR, HB⟩ := hrel
        by_cases hlt : j < l'.length
        · rcases HI'.out with h0 | ⟨b, off, rfl, hbl, hcell⟩
          · rw [h0] at hlt; simp at hlt
          have HIT : Hid (∀ w', Below w.heap.size w w' → ItAt w' b (off + j * 5) (l'.getD j default)) := fun w' hb => (hcell j hlt).block (hb.block b hbl)
          obtain ⟨i0, i1, i2, i3, i4⟩ := HIT.out _ HB.out
          generalize l'.getD j default = t at *
          clear hcell i0 i2 i3 i4
          go_wp2
          go_quiet (first
            | (go_at_call 26; refine Calls.quiet_of (int_dead (HR.out.drewN _) HD.out))
            | (go_at_call 31; refine Calls.quiet_of (count_dead (HR.out.drewN _) HD.out _))
            | (go_at_call 32; refine Calls.quiet_of (choice_dead (HR.out.drewN _) HD.out _))
            | (go_at_call 29; refine Calls.quiet_of (text_dead (HR.out.drewN _) HD.out _))
            | (go_at_call 33; refine Calls.quiet_of (left_dead (HR.out.drewN _) HD.out)))
          go_wp2_with (first
            | (go_at_call 27; ((with_reducible refine (flag_any (HR.out.drewN _)).mono ?_); rw [rFlag_dead HD.out]; rintro e w8 ⟨rfl, h5, f5⟩; have HR8 := Lib.hid h5; have HB8 := Lib.hid (HB.out.trans ((((Fr.refl (fun k => k = r) _).drewN _).same f5).below (B := w.heap.size) (fun i hi => by rw [hi]; exact HP.out) HB.out.size)); clear h5 f5))
            | (go_at_call 28; ((with_reducible refine (float_any HR8.out).mono ?_); rw [rFloat_dead HD.out]; rintro e w9 ⟨rfl, h5, f5⟩; have HR9 := Lib.hid h5; have HB9 := Lib.hid (HB8.out.trans (f5.below (B := w.heap.size) (fun i hi => by rw [hi]; exact HP.out) HB8.out.size)); have i1' := (HIT.out _ HB9.out).c1; clear h5 f5))
            | (go_at_call 34; refine (bitsame_any 0 0 _).mono ?_; rintro e w10 ⟨rfl, rfl⟩)
            | (go_at_call 30; ((with_reducible refine (fail_any HR9.out _).mono ?_); rw [failR_dead HD.out]; rintro e w11 ⟨rfl, h5, f5⟩; have HR11 := Lib.hid h5; have HB11 := Lib.hid (HB9.out.trans (f5.below (B := w.heap.size) (fun i hi => by rw [hi]; exact HP.out) HB9.out.size)); clear h5 f5)))
          exact ⟨⟨j + 1, by simp, by omega, HR11, HB11⟩, by simp [intOf]; omega⟩
        · obtain rfl : j = l'.length := by omega
          have b1 : (z.er == z.er) = true := beq_self_eq_true _
          have b2 : ((z.fp : Int) == (z.fp : Int)) = true := beq_self_eq_true _
          have b3 : ((z.pl : Int) == (z.pl : Int)) = true := beq_self_eq_true _
          clear HR2 HR3 HB2 HB3
          go_wp2_with (first
            | (go_at_call 24; ((with_reducible refine (fault_any HR.out).mono ?_); rintro e w6 ⟨rfl, h5, f5⟩; have HR3 := Lib.hid h5; have HB3 := Lib.hid (HB.out.trans (f5.below (B := w.heap.size) (fun i hi => by rw [hi]; exact HP.out) HB.out.size)); clear h5 f5))
            | (go_at_call 23; ((with_reducible refine (end_any HR3.out (fun e => absurd e HD.out)).mono ?_); rw [endR_dead HD.out]; rintro e w7 ⟨rfl, h5, f5⟩; have HR4 := Lib.hid h5; have HB4 := Lib.hid (HB3.out.trans (f5.below (B := w.heap.size) (fun i hi => by rw [hi]; exact HP.out) HB3.out.size)); clear h5 f5))
            | (go_at_call 11; refine (first_any _).mono ?_; rintro e w8 ⟨rfl, hb1⟩; have HR5 := Lib.hid (HR4.out.fr (Fr.of_below hb1 (S := fun k => w7.heap.size ≤ k) (fun _ _ h => h)) (fun e => by have := HR4.out.lt; omega) (fun k hk e => by have := HR4.out.lt; omega)); have HB5 := Lib.hid (HB4.out.trans (hb1.mono HB4.out.size)); clear hb1)
            | (go_at_call 25; ((with_reducible refine (place_any HR5.out).mono ?_); rintro e w9 ⟨rfl, hww⟩; obtain rfl := hww.symm)))
          go_ret
          exact ⟨rfl, HB5.out⟩
theorem wireStops_walk (w : World) (v : Value) (xs : List UInt8) (h : HasB (fun k => k < w.heap.size) w v xs) (hmx : xs.length ≤ 9223372036854775807) (ao : Option Addr) (cap : Nat) (l : List It) (hm : l.length ≤ cap) (hc : cap ≤ maxLen) (hI : HasI w ao l) (hwf : ∀ t ∈ l, t.wf)
    (ao' : Option Addr) (cap' : Nat) (l' : List It) (hm' : l'.length ≤ cap') (hc' : cap' ≤ maxLen) (hI' : HasI w ao' l') (hwf' : ∀ t ∈ l', t.wf) :
    Calls Try.prog 7 #[v, .slice ao l.length cap, .slice ao' l'.length cap'] w fun e w' => e = .returned (.bool true) ∧ Below w.heap.size w w' := by
  have hn : l.length ≤ 9223372036854775807 := by unfold maxLen at hc; omega
  have hn' : l'.length ≤ 9223372036854775807 := by unfold maxLen at hc'; omega
  cases h1 : fewB l
  · exact wireStops_first w v xs h ao cap l hI hn hwf ao' cap' l' hI' hn' hwf' (.inl h1)
  cases h2 : fewB l'
  · exact wireStops_first w v xs h ao cap l hI hn hwf ao' cap' l' hI' hn' hwf' (.inr (.inl ⟨h1, h2⟩))
  by_cases h3 : xs.length ≤ 20000
  · exact wireStops_some w v xs h ao cap l hI hn hwf ao' cap' l' hI' hn' hwf' h1 h2 h3
  · exact wireStops_first w v xs h ao cap l hI hn hwf ao' cap' l' hI' hn' hwf' (.inr (.inr ⟨h1, h2, by omega⟩))

set_option maxRecDepth 100000 in
theorem wireStops_lifted (os : Os) (started : os.Started) (H : Type) (enc : TypeId × Value → H) :
    ReturnsInHanded {} Try.checked os 7 .any (Rows.wireStopsSpec.pre6 enc Try.prog Try.f7 [] false) (Rows.wireStopsSpec.post enc Try.prog Try.f7 false true false false) := by
  refine returnsInHanded_of_change (C := Try.checked) own started (by kernel_rfl) Try.func7
    (ChangeSpec.witness6 (enc := enc) (C := Try.checked) false ⟨#[], #[.slice none 0 0, .slice none 0 0, .slice none 0 0], []⟩ 8 (by kernel_rfl) (by kernel_rfl) (by kernel_rfl) (by kernel_rfl)) ?_
  intro W base args ds gs before hval0 hW _ _
  have hval : ∀ (j : Nat) t v, Try.f7.params[j]? = some t → args[j]? = some v → Value.okWide Try.prog W .any base t v := hval0
  have hW' := hW
  obtain ⟨p, q, hA0, hV, rfl, hfz, hnd⟩ := hW
  have hA : DataW.TrodAll enc Try.prog W 0 (fun _ => true) true Try.f7.params.toList args.toList ds p := hA0
  rw [Try.params7] at hA hval
  obtain ⟨v0, v1, v2, d0, d1, d2, p0, p1, p2, rfl, rfl, rfl, h0, h1, h2⟩ := trodAll_three hA
  obtain ⟨b0, len0, cap0, rfl⟩ := okWide_slice Try.underlying31 (hval 0 31 v0 rfl rfl)
  have k0 := h0
  obtain ⟨fuel0, g0⟩ := h0
  obtain ⟨b1, len1, cap1, rfl⟩ := okWide_slice Try.underlying22 (hval 1 22 v1 rfl rfl)
  have k1 := h1
  obtain ⟨fuel1, g1⟩ := h1
  obtain ⟨b2, len2, cap2, rfl⟩ := okWide_slice Try.underlying22 (hval 2 22 v2 rfl rfl)
  have k2 := h2
  obtain ⟨fuel2, g2⟩ := h2
  obtain ⟨rfl, rfl⟩ := trodVars_none hV
  clear hA0 hval0
  simp only [List.append_nil] at hW'
  have hlt : ∀ x ∈ p0 ++ p1 ++ p2, x.block < W.heap.size := fun x hx => hW'.lt x (by simpa using hx)
  obtain ⟨xs0, r0, m0⟩ := open_has g0
  obtain ⟨ao1, cp1, xs1, e1, m1, c1, r1, u1⟩ := open_items g1
  rw [e1] at k1 hW' ⊢
  obtain ⟨ao2, cp2, xs2, e2, m2, c2, r2, u2⟩ := open_items g2
  rw [e2] at k2 hW' ⊢
  refine Calls.mono (?walk : Calls _ _ _ _ fun e w' => e = .returned (.bool true) ∧ Below W.heap.size W w') fun e W' ⟨he, hw⟩ => ?_
  case walk =>
    exact wireStops_walk W _ xs0 r0 m0 ao1 cp1 xs1 m1 c1 r1 u1 ao2 cp2 xs2 m2 c2 r2 u2
  subst he
  exact ⟨_, rfl, post_of_below (pa := p0 ++ (p1 ++ p2)) (pv := []) hW' (fun _ _ _ => trodAll_mk1 (shut_bool Try.underlying4 _)) (fun sp hsp => trodAll_mk3 (WideElems.Trod_stays laidOut (by kernel_rfl) (of_decide_eq_true (by kernel_rfl)) k0 (fun x hx => hw.same (hlt x (by simp [hx]))) (fun x hx => hsp x (by simp [hx]))) (WideElems.Trod_stays laidOut (by kernel_rfl) (of_decide_eq_true (by kernel_rfl)) k1 (fun x hx => hw.same (hlt x (by simp [hx]))) (fun x hx => hsp x (by simp [hx]))) (WideElems.Trod_stays laidOut (by kernel_rfl) (of_decide_eq_true (by kernel_rfl)) k2 (fun x hx => hw.same (hlt x (by simp [hx]))) (fun x hx => hsp x (by simp [hx])))) (fun _ _ => rfl) (by simp) hw (ok_one (by kernel_rfl) rfl (okWide_bool_mk Try.underlying4 _))⟩
/-- THE ROW. -/
theorem wireStops_holds : Rows.WireStopsSaid :=
  OpenClaim.holds_of_wide 7 Try.f7 rfl rfl rfl rfl rfl rfl rfl ⟨rfl, rfl, rfl, rfl, rfl⟩ rfl rfl rfl rfl rfl (by kernel_rfl) Try.func7 (by kernel_rfl)
    (of_decide_eq_true (by kernel_rfl)) (by unfold Func.isWrapper; first | (rw [if_pos (by decide +kernel)]; kernel_rfl) | (rw [if_neg (by decide +kernel)]; exact ⟨rfl, rfl⟩))
    (fun os started H enc _ => wireStops_lifted os started H enc)
#print axioms wireStops_holds
end Go.Proofs.Ytioopibmpcbcjaa
