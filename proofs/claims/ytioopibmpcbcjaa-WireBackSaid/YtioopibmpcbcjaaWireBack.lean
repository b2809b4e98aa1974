/- What is written is read, in its order, to the end; what is cut off anywhere has a fault: racelaw2.WireBack answers true and leaves its arguments as they were. Conditions: none. -/
import Derived.Test.YtioopibmpcbcjaaZ
import Derived.Test.YtioopibmpcbcjaaV
namespace Go.Proofs.Ytioopibmpcbcjaa
open Go.ChangeShapes Go.WideShapes Go.ChangeAt Go.RowKit
theorem WrB.put {B : Nat} {w : World} {p : Nat} {l : List UInt8} (h : WrB B w p l) (t : It) (ht : t.wf) (hroom : l.length + 10 + t.s.length ≤ 140737488355328) :
    Calls Try.prog 14 #[.pointer (some ⟨p, 0, none⟩), .agg #[.int .i64 t.k, .int .i64 t.n, .bool t.b, .float .f64 t.x, .string ⟨t.s.toArray⟩]] w fun e w' => e = .returned (.tuple #[]) ∧ WrB B w' p (l ++ itB t) ∧ Below B w w' := by
  obtain ⟨v, hw, hp, hs, hv⟩ := h
  exact (put_any hw t ht hroom).mono fun e w' ⟨he, v', hw', hf, hm⟩ => ⟨he, WrB.of hp hs hv hw' hf hm⟩
/-- A part of a slice of bytes. -/
theorem HasB.part {K : Nat → Prop} {w : World} {b off n cap q : Nat} {l : List UInt8} (h : HasB K w (.slice (some ⟨b, off, none⟩) n cap) l) (hq : q ≤ l.length) : HasB K w (.slice (some ⟨b, off, none⟩) q cap) (l.take q) := by
  obtain ⟨ao, c, h1, h2, h3, h4, h5⟩ := h
  simp at h1
  obtain ⟨rfl, _, rfl⟩ := h1
  have hl : (l.take q).length = q := by rw [List.length_take]; omega
  refine ⟨_, cap, by rw [hl], by rw [hl]; omega, h3, (fun e => by cases e), ?_⟩
  rcases h5 with h5 | ⟨b', off', e, hB, hlt, hc⟩
  · left; rw [h5]; simp
  · simp at e
    obtain ⟨rfl, rfl⟩ := e
    exact .inr ⟨b, off, rfl, hB, hlt, fun i hi => by rw [hl] at hi; rw [getD_take hi]; exact hc i (by omega)⟩
theorem wireBack_few (w : World) (ao : Option Addr) (cap : Nat) (l : List It) (hI : HasI w ao l) (hm : l.length ≤ 9223372036854775807) (hwf : ∀ t ∈ l, t.wf) (hf : fewB l = false) (c : Int) :
    Calls Try.prog 5 #[.slice ao l.length cap, .int .i64 c] w fun e w' => e = .returned (.bool true) ∧ Below w.heap.size w w' := by
  have HB := Lib.hid (Below.refl w.heap.size w)
  have HI := Lib.hid hI
  have HWF := Lib.hid hwf
  clear hI hwf
  go_enter Try.func5, Try.ntmps5
  go_wp2_with (first
    | (go_at_call 11; refine (first_any _).mono ?_; rintro e w1 ⟨rfl, hb1⟩; have HB := Lib.hid (HB.out.trans (hb1.mono HB.out.size)); clear hb1)
    | (go_at_call 12; refine (few_any ao cap l hm _ (HI.out.below HB.out) HWF.out).mono ?_; rw [hf]; rintro e w1 ⟨rfl, rfl⟩))
  go_ret
  exact ⟨rfl, HB.out⟩
theorem own_shape2 {w : World} {base : Nat} {e : TypeId} {size : Nat} {v : Value} {n : Nat} {xs : List Value} (h : w.ownsRow base e size v n xs) (hn : 0 < n) : ∃ g cap, v = .slice (some ⟨g, 0, none⟩) n cap ∧ n ≤ cap := by
  rcases h.2 with ⟨_, h0⟩ | ⟨g, cap, cur, hv, _, _, h1, _⟩
  · omega
  · exact ⟨g, cap, hv, h1⟩
theorem end_done (F : List UInt8) : endR ⟨F, F.length, 0, 0⟩ = (0, 0) := by
  unfold endR
  simp
set_option maxRecDepth 100000 in
theorem wireBack_some (w : World) (ao : Option Addr) (cap : Nat) (l : List It) (hI : HasI w ao l) (hm : l.length ≤ 9223372036854775807) (hwf : ∀ t ∈ l, t.wf) (hf : fewB l = true) (c : Int) (hc1 : -9223372036854775808 ≤ c) (hc2 : c < 9223372036854775808) :
    Calls Try.prog 5 #[.slice ao l.length cap, .int .i64 c] w fun e w' => e = .returned (.bool true) ∧ Below w.heap.size w w' := by
  have HB := Lib.hid (Below.refl w.heap.size w)
  have HI := Lib.hid hI
  have HWF := Lib.hid hwf
  have HF := Lib.hid hf
  have hfl := few_flat hf hwf
  have HWS : Hid (∀ t ∈ l, t.wf ∧ t.s.length ≤ 20000) := fun t ht => ⟨hwf t ht, few_text hf ht⟩
  clear hI hwf
  go_enter Try.func5, Try.ntmps5
  go_wp2_with (first
    | (go_at_call 11; refine (first_any _).mono ?_; rintro e w1 ⟨rfl, hb1⟩; have HB := Lib.hid (HB.out.trans (hb1.mono HB.out.size)); clear hb1)
    | (go_at_call 12; refine (few_any ao cap l hm _ (HI.out.below HB.out) HWF.out).mono ?_; rw [hf]; rintro e w1 ⟨rfl, rfl⟩)
    | (go_at_call 13; refine (newWriterB (B := w.heap.size) _ HB.out.size).mono ?_; rintro e w1 ⟨p, rfl, hx1, hb1⟩; have HB := Lib.hid (HB.out.trans (hb1.mono HB.out.size)); have HX := Lib.hid hx1; clear hb1 hx1))
  go_loopw [6] (fun i wr => ∃ k : Nat, i = .int .i64 k ∧ k ≤ l.length ∧ Hid (WrB w.heap.size wr p (flat (l.take k))) ∧ Hid (Below w.heap.size w wr)) (fun i _ => l.length - (intOf i).toNat)
  case atStart => exact ⟨0, rfl, Nat.zero_le _, HX, HB⟩
  case round =>
    obtain ⟨k, rfl, hk, HX, HB⟩ := hrel
    by_cases hlt : k < l.length
    · rcases HI.out with h0 | ⟨b, off, rfl, hbl, hcell⟩
      · rw [h0] at hlt; simp at hlt
      obtain ⟨i0, i1, i2, i3, i4⟩ := (hcell k hlt).block (HB.out.block b hbl)
      have HFT := Lib.hid (flat_take hlt)
      have hle := flat_take_le l k
      obtain ⟨ht1, ht2⟩ := HWS.out (l.getD k default) (by rw [List.getD_eq_getElem?_getD, List.getElem?_eq_getElem hlt]; exact List.getElem_mem hlt)
      generalize l.getD k default = t at *
      generalize flat (l.take k) = A at *
      have HT := Lib.hid ht1
      clear hcell ht1
      go_wp2_with (go_at_call 14; refine (HX.out.put t HT.out (by omega)).mono ?_; rintro e w2 ⟨rfl, hx1, hb1⟩; have HX := Lib.hid hx1; have HB := Lib.hid (HB.out.trans hb1); clear hx1 hb1)
      exact ⟨⟨k + 1, by simp, by omega, by rw [HFT.out]; exact HX, HB⟩, by simp [intOf]; omega⟩
    · obtain rfl : k = l.length := by omega
      rw [List.take_length] at HX
      have hgoes := back_all l ⟨flat l, 0, 0, 0⟩ HWS.out rfl rfl (Nat.zero_le _)
      have HGO := Lib.hid hgoes
      clear hgoes
      obtain ⟨F, hF⟩ : ∃ F, F = flat l := ⟨_, rfl⟩
      rw [← hF] at HX HGO hfl
      have HFE := Lib.hid hF
      clear hF
      by_cases hF0 : F.length = 0
      · have hFt : ((F.length : Int) == 0) = true := by rw [beq_iff_eq]; omega
        clear hF0
        go_wp2_with (first
        | (go_at_call 16; refine (HX.out.bytes (by omega)).mono ?_; rintro e w1 ⟨v1, rfl, ho, hb1⟩; have HH := Lib.hid (own_has ho); obtain ⟨ao1, cap1, rfl⟩ := own_slice ho; have HB := Lib.hid (HB.out.trans (hb1.mono HB.out.size)); clear ho hb1)
        | (go_at_call 19; ((with_reducible refine (newReader_any HH.out (by omega)).mono ?_); rintro e w2 ⟨r, vr, rfl, hr, h2, f2⟩; have HR := Lib.hid h2; have HQ := Lib.hid hr; have HP := Lib.hid (Nat.le_trans HB.out.size hr); have HH := Lib.hid (HH.out.fr f2 (fun _ _ => id)); have HB := Lib.hid (HB.out.trans (f2.below (B := w.heap.size) (fun _ h => h.elim) HB.out.size)); clear h2 f2 hr))
        | (go_at_call 22; ((with_reducible refine (reads_any HR.out ao cap l hm (fun w' hf => HI.out.below (HB.out.trans (hf.below (fun i hi => by rw [hi]; exact HP.out) HB.out.size)))).mono ?_); rw [HGO.out]; rintro e w3 ⟨rfl, h3, f3⟩; have HR3 := Lib.hid h3; have HH := Lib.hid (HH.out.fr f3 (fun k hk e => by have := HQ.out; omega)); have HB := Lib.hid (HB.out.trans (f3.below (B := w.heap.size) (fun i hi => by rw [hi]; exact HP.out) HB.out.size)); clear h3 f3))
        | (go_at_call 23; refine (end_any HR3.out (fun _ => rfl)).mono ?_; rw [end_done F]; rintro e w4 ⟨rfl, h4, f4⟩; have HH := Lib.hid (HH.out.fr f4 (fun k hk e => by have := HQ.out; omega)); have HB := Lib.hid (HB.out.trans (f4.below (B := w.heap.size) (fun i hi => by rw [hi]; exact HP.out) HB.out.size)); clear h4 f4)
        | (go_at_call 11; refine (first_any _).mono ?_; rintro e w1 ⟨rfl, hb1⟩; have HB := Lib.hid (HB.out.trans (hb1.mono HB.out.size)); clear hb1))
        go_ret
        exact ⟨rfl, HB.out⟩
      · have hFn : ((F.length : Int) == 0) = false := by rw [beq_eq_false_iff_ne]; omega
        by_cases hneg : c < 0
        · have hqe : ∃ q : Nat, q < F.length ∧ (-(c + 1)).tmod (F.length : Int) = (q : Int) := by
            refine ⟨((-(c + 1)).tmod (F.length : Int)).toNat, ?_, ?_⟩ <;> rw [Int.tmod_eq_emod_of_nonneg (by omega)]
            · have := Int.emod_lt_of_pos (-(c + 1)) (show (0 : Int) < (F.length : Int) by omega); omega
            · have := Int.emod_nonneg (-(c + 1)) (show (F.length : Int) ≠ 0 by omega); omega
          obtain ⟨q, hq, hqt⟩ := hqe
          have HC5 : Hid ((goes l ⟨F.take q, 0, 0, 0⟩).2.er = 5) := by
            refine cut_all l ⟨F.take q, 0, 0, 0⟩ (F.drop q) HWS.out rfl (by simp only [List.drop_zero]; rw [List.take_append_drop]; exact HFE.out.symm) (fun e => ?_) (Nat.zero_le _)
            have := congrArg List.length e
            rw [List.length_drop] at this
            simp at this
            omega
          have htk : (F.take q).length ≤ 140737488355328 := by rw [List.length_take]; omega
          go_wp2_with (first
          | (go_at_call 16; refine (HX.out.bytes (by omega)).mono ?_; rintro e w1 ⟨v1, rfl, ho, hb1⟩; have HH := Lib.hid (own_has ho); obtain ⟨g1, cap1, rfl, hcp⟩ := own_shape2 ho (by omega); have HB := Lib.hid (HB.out.trans (hb1.mono HB.out.size)); clear ho hb1)
          | (go_at_call 19; ((with_reducible refine (newReader_any HH.out (by omega)).mono ?_); rintro e w2 ⟨r, vr, rfl, hr, h2, f2⟩; have HR := Lib.hid h2; have HQ := Lib.hid hr; have HP := Lib.hid (Nat.le_trans HB.out.size hr); have HH := Lib.hid (HH.out.fr f2 (fun _ _ => id)); have HB := Lib.hid (HB.out.trans (f2.below (B := w.heap.size) (fun _ h => h.elim) HB.out.size)); clear h2 f2 hr))
          | (go_at_call 22; ((with_reducible refine (reads_any HR.out ao cap l hm (fun w' hf => HI.out.below (HB.out.trans (hf.below (fun i hi => by rw [hi]; exact HP.out) HB.out.size)))).mono ?_); rw [HGO.out]; rintro e w3 ⟨rfl, h3, f3⟩; have HR3 := Lib.hid h3; have HH := Lib.hid (HH.out.fr f3 (fun k hk e => by have := HQ.out; omega)); have HB := Lib.hid (HB.out.trans (f3.below (B := w.heap.size) (fun i hi => by rw [hi]; exact HP.out) HB.out.size)); clear h3 f3))
          | (go_at_call 23; refine (end_any HR3.out (fun _ => rfl)).mono ?_; rw [end_done F]; rintro e w4 ⟨rfl, h4, f4⟩; have HH := Lib.hid (HH.out.fr f4 (fun k hk e => by have := HQ.out; omega)); have HB := Lib.hid (HB.out.trans (f4.below (B := w.heap.size) (fun i hi => by rw [hi]; exact HP.out) HB.out.size)); have HC := Lib.hid (HH.out.part (q := q) (by omega)); clear h4 f4)
          | (go_at_call 19; ((with_reducible refine (newReader_any HC.out (by omega)).mono ?_); rintro e w5 ⟨r2, vr2, rfl, hr, h2, f2⟩; have HR2 := Lib.hid h2; have HP2 := Lib.hid (Nat.le_trans HB.out.size hr); have HB := Lib.hid (HB.out.trans (f2.below (B := w.heap.size) (fun _ h => h.elim) HB.out.size)); clear h2 f2 hr))
          | (go_at_call 22; ((with_reducible refine (reads_any HR2.out ao cap l hm (fun w' hf => HI.out.below (HB.out.trans (hf.below (fun i hi => by rw [hi]; exact HP2.out) HB.out.size)))).mono ?_); rintro e w6 ⟨rfl, h3, f3⟩; have HR6 := Lib.hid h3; have HB := Lib.hid (HB.out.trans (f3.below (B := w.heap.size) (fun i hi => by rw [hi]; exact HP2.out) HB.out.size)); clear h3 f3))
          | (go_at_call 24; refine (fault_any HR6.out).mono ?_; rw [HC5.out]; rintro e w7 ⟨rfl, h4, f4⟩; have HB := Lib.hid (HB.out.trans (f4.below (B := w.heap.size) (fun i hi => by rw [hi]; exact HP2.out) HB.out.size)); clear h4 f4)
          | (go_at_call 11; refine (first_any _).mono ?_; rintro e w1 ⟨rfl, hb1⟩; have HB := Lib.hid (HB.out.trans (hb1.mono HB.out.size)); clear hb1))
          go_ret
          exact ⟨rfl, HB.out⟩
        · have hqe : ∃ q : Nat, q < F.length ∧ c.tmod (F.length : Int) = (q : Int) := by
            refine ⟨(c.tmod (F.length : Int)).toNat, ?_, ?_⟩ <;> rw [Int.tmod_eq_emod_of_nonneg (by omega)]
            · have := Int.emod_lt_of_pos c (show (0 : Int) < (F.length : Int) by omega); omega
            · have := Int.emod_nonneg c (show (F.length : Int) ≠ 0 by omega); omega
          obtain ⟨q, hq, hqt⟩ := hqe
          have HC5 : Hid ((goes l ⟨F.take q, 0, 0, 0⟩).2.er = 5) := by
            refine cut_all l ⟨F.take q, 0, 0, 0⟩ (F.drop q) HWS.out rfl (by simp only [List.drop_zero]; rw [List.take_append_drop]; exact HFE.out.symm) (fun e => ?_) (Nat.zero_le _)
            have := congrArg List.length e
            rw [List.length_drop] at this
            simp at this
            omega
          have htk : (F.take q).length ≤ 140737488355328 := by rw [List.length_take]; omega
          go_wp2_with (first
          | (go_at_call 16; refine (HX.out.bytes (by omega)).mono ?_; rintro e w1 ⟨v1, rfl, ho, hb1⟩; have HH := Lib.hid (own_has ho); obtain ⟨g1, cap1, rfl, hcp⟩ := own_shape2 ho (by omega); have HB := Lib.hid (HB.out.trans (hb1.mono HB.out.size)); clear ho hb1)
          | (go_at_call 19; ((with_reducible refine (newReader_any HH.out (by omega)).mono ?_); rintro e w2 ⟨r, vr, rfl, hr, h2, f2⟩; have HR := Lib.hid h2; have HQ := Lib.hid hr; have HP := Lib.hid (Nat.le_trans HB.out.size hr); have HH := Lib.hid (HH.out.fr f2 (fun _ _ => id)); have HB := Lib.hid (HB.out.trans (f2.below (B := w.heap.size) (fun _ h => h.elim) HB.out.size)); clear h2 f2 hr))
          | (go_at_call 22; ((with_reducible refine (reads_any HR.out ao cap l hm (fun w' hf => HI.out.below (HB.out.trans (hf.below (fun i hi => by rw [hi]; exact HP.out) HB.out.size)))).mono ?_); rw [HGO.out]; rintro e w3 ⟨rfl, h3, f3⟩; have HR3 := Lib.hid h3; have HH := Lib.hid (HH.out.fr f3 (fun k hk e => by have := HQ.out; omega)); have HB := Lib.hid (HB.out.trans (f3.below (B := w.heap.size) (fun i hi => by rw [hi]; exact HP.out) HB.out.size)); clear h3 f3))
          | (go_at_call 23; refine (end_any HR3.out (fun _ => rfl)).mono ?_; rw [end_done F]; rintro e w4 ⟨rfl, h4, f4⟩; have HH := Lib.hid (HH.out.fr f4 (fun k hk e => by have := HQ.out; omega)); have HB := Lib.hid (HB.out.trans (f4.below (B := w.heap.size) (fun i hi => by rw [hi]; exact HP.out) HB.out.size)); have HC := Lib.hid (HH.out.part (q := q) (by omega)); clear h4 f4)
          | (go_at_call 19; ((with_reducible refine (newReader_any HC.out (by omega)).mono ?_); rintro e w5 ⟨r2, vr2, rfl, hr, h2, f2⟩; have HR2 := Lib.hid h2; have HP2 := Lib.hid (Nat.le_trans HB.out.size hr); have HB := Lib.hid (HB.out.trans (f2.below (B := w.heap.size) (fun _ h => h.elim) HB.out.size)); clear h2 f2 hr))
          | (go_at_call 22; ((with_reducible refine (reads_any HR2.out ao cap l hm (fun w' hf => HI.out.below (HB.out.trans (hf.below (fun i hi => by rw [hi]; exact HP2.out) HB.out.size)))).mono ?_); rintro e w6 ⟨rfl, h3, f3⟩; have HR6 := Lib.hid h3; have HB := Lib.hid (HB.out.trans (f3.below (B := w.heap.size) (fun i hi => by rw [hi]; exact HP2.out) HB.out.size)); clear h3 f3))
          | (go_at_call 24; refine (fault_any HR6.out).mono ?_; rw [HC5.out]; rintro e w7 ⟨rfl, h4, f4⟩; have HB := Lib.hid (HB.out.trans (f4.below (B := w.heap.size) (fun i hi => by rw [hi]; exact HP2.out) HB.out.size)); clear h4 f4)
          | (go_at_call 11; refine (first_any _).mono ?_; rintro e w1 ⟨rfl, hb1⟩; have HB := Lib.hid (HB.out.trans (hb1.mono HB.out.size)); clear hb1))
          go_ret
          exact ⟨rfl, HB.out⟩
theorem wireBack_walk (w : World) (ao : Option Addr) (cap : Nat) (l : List It) (hm : l.length ≤ cap) (hc : cap ≤ maxLen) (hI : HasI w ao l) (hwf : ∀ t ∈ l, t.wf) (c : Int) (hc1 : -9223372036854775808 ≤ c) (hc2 : c < 9223372036854775808) :
    Calls Try.prog 5 #[.slice ao l.length cap, .int .i64 c] w fun e w' => e = .returned (.bool true) ∧ Below w.heap.size w w' := by
  have hm' : l.length ≤ 9223372036854775807 := by unfold maxLen at hc; omega
  cases h2 : fewB l
  · exact wireBack_few w ao cap l hI hm' hwf h2 c
  · exact wireBack_some w ao cap l hI hm' hwf h2 c hc1 hc2

set_option maxRecDepth 100000 in
theorem wireBack_lifted (os : Os) (started : os.Started) (H : Type) (enc : TypeId × Value → H) :
    ReturnsInHanded {} Try.checked os 5 .any (Rows.wireBackSpec.pre6 enc Try.prog Try.f5 [] false) (Rows.wireBackSpec.post enc Try.prog Try.f5 false true false false) := by
  refine returnsInHanded_of_change (C := Try.checked) own started (by kernel_rfl) Try.func5
    (ChangeSpec.witness6 (enc := enc) (C := Try.checked) false ⟨#[], #[.slice none 0 0, .int .i64 0], []⟩ 8 (by kernel_rfl) (by kernel_rfl) (by kernel_rfl) (by kernel_rfl)) ?_
  intro W base args ds gs before hval0 hW _ _
  have hval : ∀ (j : Nat) t v, Try.f5.params[j]? = some t → args[j]? = some v → Value.okWide Try.prog W .any base t v := hval0
  have hW' := hW
  obtain ⟨p, q, hA0, hV, rfl, hfz, hnd⟩ := hW
  have hA : DataW.TrodAll enc Try.prog W 0 (fun _ => true) true Try.f5.params.toList args.toList ds p := hA0
  rw [Try.params5] at hA hval
  obtain ⟨v0, v1, d0, d1, p0, p1, rfl, rfl, rfl, h0, h1⟩ := trodAll_two hA
  obtain ⟨b0, len0, cap0, rfl⟩ := okWide_slice Try.underlying22 (hval 0 22 v0 rfl rfl)
  have k0 := h0
  obtain ⟨fuel0, g0⟩ := h0
  obtain ⟨a1, rfl, rfl, rfl, wf1⟩ := open_int Try.underlying3 (hval 1 3 v1 rfl rfl) h1
  obtain ⟨rfl, rfl⟩ := trodVars_none hV
  clear hA0 hval0
  simp only [List.append_nil] at hW'
  have hlt : ∀ x ∈ p0 ++ [], x.block < W.heap.size := fun x hx => hW'.lt x (by simpa using hx)
  obtain ⟨ao0, cp0, xs0, e0, m0, c0, r0, u0⟩ := open_items g0
  rw [e0] at k0 hW' ⊢
  have hwf1 := wf1
  simp [Lit.wf, IntKind.min, IntKind.max, IntKind.signed, IntKind.bits] at hwf1
  refine Calls.mono (?walk : Calls _ _ _ _ fun e w' => e = .returned (.bool true) ∧ Below W.heap.size W w') fun e W' ⟨he, hw⟩ => ?_
  case walk =>
    exact wireBack_walk W ao0 cp0 xs0 m0 c0 r0 u0 a1 (by omega) (by omega)
  subst he
  exact ⟨_, rfl, post_of_below (pa := p0 ++ []) (pv := []) hW' (fun _ _ _ => trodAll_mk1 (shut_bool Try.underlying4 _)) (fun sp hsp => trodAll_mk2 (WideElems.Trod_stays laidOut (by kernel_rfl) (of_decide_eq_true (by kernel_rfl)) k0 (fun x hx => hw.same (hlt x (by simp [hx]))) (fun x hx => hsp x (by simp [hx]))) (shut_int Try.underlying3 wf1)) (fun _ _ => rfl) (by simp) hw (ok_one (by kernel_rfl) rfl (okWide_bool_mk Try.underlying4 _))⟩
/-- THE ROW. -/
theorem wireBack_holds : Rows.WireBackSaid :=
  OpenClaim.holds_of_wide 5 Try.f5 rfl rfl rfl rfl rfl rfl rfl ⟨rfl, rfl, rfl, rfl, rfl⟩ rfl rfl rfl rfl rfl (by kernel_rfl) Try.func5 (by kernel_rfl)
    (of_decide_eq_true (by kernel_rfl)) (by unfold Func.isWrapper; first | (rw [if_pos (by decide +kernel)]; kernel_rfl) | (rw [if_neg (by decide +kernel)]; exact ⟨rfl, rfl⟩))
    (fun os started H enc _ => wireBack_lifted os started H enc)
#print axioms wireBack_holds
end Go.Proofs.Ytioopibmpcbcjaa
