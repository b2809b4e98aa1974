/- Any bytes, read in any way: each read tells what the chapter says, and so do the place and the fault behind it; the bytes that a reader was made of may be overwritten: racelaw2.WireReads answers true and leaves its arguments as they were. Conditions: none. -/
import Derived.Test.YtioopibmpcbcjaaZ
import Derived.Test.YtioopibmpcbcjaaX8
import Derived.Test.YtioopibmpcbcjaaWireApart
namespace Go.Proofs.Ytioopibmpcbcjaa
open Go.ChangeShapes Go.WideShapes Go.ChangeAt Go.RowKit
set_option maxRecDepth 100000 in
theorem wireReads_first (w : World) (v : Value) (xs : List UInt8) (h : HasB (fun k => k < w.heap.size) w v xs) (ao : Option Addr) (cap : Nat) (l : List It) (hI : HasI w ao l) (hm : l.length ≤ 9223372036854775807) (hwf : ∀ t ∈ l, t.wf)
    (hcase : 20000 < xs.length ∨ xs.length ≤ 20000 ∧ fewB l = false) :
    Calls Try.prog 4 #[v, .slice ao l.length cap] w fun e w' => e = .returned (.bool true) ∧ Below w.heap.size w w' := by
  obtain ⟨bo, bc, rfl, _⟩ := h
  have HB := Lib.hid (Below.refl w.heap.size w)
  have HI := Lib.hid hI
  have HWF := Lib.hid hwf
  clear hI hwf
  cases hf : fewB l
  · go_enter Try.func4, Try.ntmps4
    go_wp2_with (first
      | (go_at_call 11; refine (first_any _).mono ?_; rintro e w1 ⟨rfl, hb1⟩; have HB := Lib.hid (HB.out.trans (hb1.mono HB.out.size)); clear hb1)
      | (go_at_call 12; refine (few_any ao cap l hm _ (HI.out.below HB.out) HWF.out).mono ?_; rw [hf]; rintro e w1 ⟨rfl, rfl⟩))
    go_ret
    exact ⟨rfl, HB.out⟩
  · have hc' : (20000 : Int) < (xs.length : Int) := by
      rcases hcase with hc | ⟨_, hc⟩
      · omega
      · rw [hf] at hc; cases hc
    clear hcase
    go_enter Try.func4, Try.ntmps4
    go_wp2_with (first
      | (go_at_call 11; refine (first_any _).mono ?_; rintro e w1 ⟨rfl, hb1⟩; have HB := Lib.hid (HB.out.trans (hb1.mono HB.out.size)); clear hb1)
      | (go_at_call 12; refine (few_any ao cap l hm _ (HI.out.below HB.out) HWF.out).mono ?_; rw [hf]; rintro e w1 ⟨rfl, rfl⟩))
    go_ret
    exact ⟨rfl, HB.out⟩
set_option maxHeartbeats 1600000 in
set_option maxRecDepth 100000 in
theorem wireReads_some (w : World) (v : Value) (xs : List UInt8) (h : HasB (fun k => k < w.heap.size) w v xs) (ao : Option Addr) (cap : Nat) (l : List It) (hI : HasI w ao l) (hm : l.length ≤ 9223372036854775807) (hwf : ∀ t ∈ l, t.wf)
    (hc : xs.length ≤ 20000) (hf : fewB l = true) :
    Calls Try.prog 4 #[v, .slice ao l.length cap] w fun e w' => e = .returned (.bool true) ∧ Below w.heap.size w w' := by
  have HV := Lib.hid h
  obtain ⟨bo, bc, rfl, _⟩ := h
  have HB := Lib.hid (Below.refl w.heap.size w)
  have HI := Lib.hid hI
  have HWF := Lib.hid hwf
  clear hI hwf
  have hc' : ¬ (20000 : Int) < (xs.length : Int) := by omega
  have hroom : xs.length ≤ 140737488355328 := by omega
  go_enter Try.func4, Try.ntmps4
  go_wp2_with (first
    | (go_at_call 11; refine (first_any _).mono ?_; rintro e w1 ⟨rfl, hb1⟩; have HB := Lib.hid (HB.out.trans (hb1.mono HB.out.size)); clear hb1)
    | (go_at_call 12; refine (few_any ao cap l hm _ (HI.out.below HB.out) HWF.out).mono ?_; rw [hf]; rintro e w1 ⟨rfl, rfl⟩)
    | (go_at_call 18; refine (copyBytes_any (HV.out.fr (Fr.of_below HB.out (S := fun k => w.heap.size ≤ k) (fun _ _ h => h)) (fun k hk h => by omega)) hroom).mono ?_; rintro e w2 ⟨v2, rfl, ho, f2⟩; have HS1 := Lib.hid HB.out.size; obtain ⟨ao2, cap2, rfl⟩ := own_slice ho; have HO := Lib.hid ho; have HLT := Lib.hid ho.lt; have HB := Lib.hid (HB.out.trans (f2.below (B := w.heap.size) (fun _ h => h.elim) HB.out.size)); clear ho f2)
    | (go_at_call 19; ((with_reducible refine (newReader_any (own_has HO.out) hroom).mono ?_); rintro e w3 ⟨r, vr, rfl, hr, h3, f3⟩; have HR := Lib.hid h3; have HQ := Lib.hid hr; have HP := Lib.hid (Nat.le_trans HB.out.size hr); have HO := Lib.hid (f3.own HO.out (fun _ _ => id)); have HB := Lib.hid (HB.out.trans (f3.below (B := w.heap.size) (fun _ h => h.elim) HB.out.size)); clear h3 f3 hr)))
  go_loopw [7] (fun i wr => ∃ k : Nat, i = .int .i64 k ∧ k ≤ xs.length ∧ Hid (∃ cs : List Value, cs.length = xs.length ∧ wr.ownsRow w1.heap.size 5 1 (.slice ao2 xs.length cap2) xs.length cs) ∧ Hid (Rd 71 (fun k => w2.heap.size ≤ k ∧ k < r) wr r vr ⟨xs, 0, 0, 0⟩) ∧ Hid (Below w.heap.size w wr)) (fun i _ => xs.length - (intOf i).toNat)
  case atStart => exact ⟨0, rfl, Nat.zero_le _, ⟨bys xs, by simp [bys], HO.out⟩, HR, HB⟩
  case round =>
    obtain ⟨j, rfl, hj, HC, HR, HB⟩ := hrel
    by_cases hjl : j < xs.length
    · obtain ⟨cs, hcs, hor⟩ := HC.out
      obtain ⟨g, cap3, hsl⟩ := own_shape hor (by omega)
      simp only [Value.slice.injEq] at hsl
      obtain ⟨rfl, -, rfl⟩ := hsl
      obtain ⟨hg1, hg2⟩ := HLT.out g rfl
      have hcell := hor.cellAt j (by omega)
      obtain ⟨u, hu⟩ : ∃ u, cs[j]? = some u := ⟨_, List.getElem?_eq_getElem (by omega)⟩
      rw [hu] at hcell
      clear hu
      have hfrz := hor.frozenAt j
      have HOR := Lib.hid hor
      have HCS := Lib.hid hcs
      have HRS : Hid (∀ u, Rd 71 (fun k => w2.heap.size ≤ k ∧ k < r) (wr.setCell ⟨g, j, none⟩ u) r vr ⟨xs, 0, 0, 0⟩) := fun u =>
        HR.out.fr ((Fr.refl (fun k => k = g) wr).setCell (fun _ => rfl) u) (fun e => by have := HQ.out; omega) (fun k hk e => by omega)
      have hgb : w.heap.size ≤ g := Nat.le_trans HS1.out hg1
      clear HC hor hcs
      go_wp2
      exact ⟨⟨j + 1, by simp, by omega, ⟨_, by rw [List.length_set]; exact HCS.out, (HOR.out.stored j _).1⟩, HRS.out _, HB.out.setCell hgb _⟩, by simp [intOf]; omega⟩
    · obtain rfl : j = xs.length := by omega
      have hrlt := HR.out.lt
      have HX : Hid (∀ o : Obj, o = .cells #[.slice bo xs.length bc, .int .i64 0, .int .i64 0, .int .i64 0] 41 (0, 0) → Two (fun k => w2.heap.size ≤ k ∧ k < r) (fun k => k < w.heap.size) (wr.alloc o) r wr.heap.size vr (.slice bo xs.length bc) ⟨xs, 0, 0, 0⟩ ⟨xs, 0, 0, 0⟩) := fun o ho => by
        have h1 := HB.out.size
        have h2 := HP.out
        subst ho
        refine ⟨HR.out.fr (fr_alloc wr _) id (fun _ _ => id), ⟨heap_alloc_new wr _, ?_, fun k hk => by omega, Nat.zero_le _, hroom, fun e => by cases e⟩, by omega, fun k hk => by omega, fun k hk => by omega⟩
        exact (HV.out.fr (Fr.of_below HB.out (S := fun k => w.heap.size ≤ k) (fun _ _ h => h)) (fun k hk h => by omega)).fr (fr_alloc wr _) (fun _ _ => id)
      have HST : Hid (∀ (w' : World) (s x : Rst) (q : Nat), Two (fun k => w2.heap.size ≤ k ∧ k < r) (fun k => k < w.heap.size) w' r q vr (.slice bo xs.length bc) s x → Like s x →
          Calls Try.prog 21 #[.pointer (some ⟨r, 0, none⟩), .pointer (some ⟨q, 0, none⟩)] w' fun e w'' => e = .returned (.bool true) ∧ Two (fun k => w2.heap.size ≤ k ∧ k < r) (fun k => k < w.heap.size) w'' r q vr (.slice bo xs.length bc) s x ∧ Fr (foot2 r q) w' w'') := fun w' s x q h hl => stands_any h hl
      have hq0 : w.heap.size ≤ wr.heap.size := HB.out.size
      have HQ0 := Lib.hid hq0
      obtain ⟨q, hq⟩ : ∃ q, q = wr.heap.size := ⟨_, rfl⟩
      have HBA := fun o => Lib.hid (HB.out.alloc hq0 o)
      rw [← hq] at hq0
      have hft : ∀ i, foot2 r q i → w.heap.size ≤ i := fun i hi => by have := HP.out; unfold foot2 at hi; omega
      have HFT := Lib.hid hft
      have HNA := HB
      clear HC HO HR hrlt hft HB
      go_wp2
      go_loopw [9] (fun i wr2 => ∃ (k : Nat) (s x : Rst), i = .int .i64 k ∧ k ≤ l.length ∧ Hid (Two (fun k => w2.heap.size ≤ k ∧ k < r) (fun k => k < w.heap.size) wr2 r wr.heap.size vr (.slice bo xs.length bc) s x) ∧ Hid (Like s x) ∧ Hid (Below w.heap.size w wr2)) (fun i _ => l.length - (intOf i).toNat)
      case atStart => exact ⟨0, _, _, rfl, Nat.zero_le _, HX.out _ rfl, ⟨rfl, rfl, rfl, fun _ => rfl, fun _ => rfl⟩, HBA _⟩
      case round =>
        obtain ⟨k, s, x, rfl, hk, HT, HL, HB⟩ := hrel
        subst hq
        by_cases hlt : k < l.length
        · rcases HI.out with h0 | ⟨b, off, rfl, hbl, hcell⟩
          · rw [h0] at hlt; simp at hlt
          obtain ⟨i0, i1, i2, i3, i4⟩ := (hcell k hlt).block (HB.out.block b hbl)
          generalize l.getD k default = t at *
          have ha := ask_any HT.out HL.out t
          unfold AskDone at ha
          have HA := Lib.hid ha
          clear hcell ha
          go_wp2_with (first
            | (go_at_call 20; refine (HA.out).mono ?_; rintro e w5 ⟨rfl, h5, f5⟩; have HT5 := Lib.hid h5; have HL5 := Lib.hid (HL.out.ask t); have HB5 := Lib.hid (HB.out.trans (f5.below HFT.out HB.out.size)); clear h5 f5)
            | (go_at_call 21; refine (HST.out _ _ _ _ HT5.out HL5.out).mono ?_; rintro e w6 ⟨rfl, h6, f6⟩; have HT6 := Lib.hid h6; have HB6 := Lib.hid (HB5.out.trans (f6.below HFT.out HB5.out.size)); clear h6 f6))
          exact ⟨⟨k + 1, _, _, by simp, by omega, HT6, HL5, HB6⟩, by simp [intOf]; omega⟩
        · obtain rfl : k = l.length := by omega
          go_wp2_with (first
            | (go_at_call 11; refine (first_any _).mono ?_; rintro e w5 ⟨rfl, hb1⟩; have HT5 := Lib.hid (HT.out.fr (Fr.of_below hb1 (S := fun k => wr.heap.size ≤ k) (fun _ _ h => h)) (fun e => by have := HT.out.a.lt; omega) (fun e => by have := HT.out.b.lt; omega) (fun k hk e => by have := HT.out.a.lt; omega) (fun k hk e => by have := HB.out.size; omega)); have HB5 := Lib.hid (HB.out.trans (hb1.mono HB.out.size)); clear hb1)
            | (go_at_call 21; refine (HST.out _ _ _ _ HT5.out HL.out).mono ?_; rintro e w6 ⟨rfl, h6, f6⟩; have HB6 := Lib.hid (HB5.out.trans (f6.below HFT.out HB5.out.size)); clear h6 f6))
          go_ret
          exact ⟨rfl, HB6.out⟩
theorem wireReads_walk (w : World) (v : Value) (xs : List UInt8) (h : HasB (fun k => k < w.heap.size) w v xs) (hmx : xs.length ≤ 9223372036854775807) (ao : Option Addr) (cap : Nat) (l : List It) (hm : l.length ≤ cap) (hc : cap ≤ maxLen) (hI : HasI w ao l) (hwf : ∀ t ∈ l, t.wf) :
    Calls Try.prog 4 #[v, .slice ao l.length cap] w fun e w' => e = .returned (.bool true) ∧ Below w.heap.size w w' := by
  have hm' : l.length ≤ 9223372036854775807 := by unfold maxLen at hc; omega
  by_cases h1 : xs.length ≤ 20000
  · cases h2 : fewB l
    · exact wireReads_first w v xs h ao cap l hI hm' hwf (.inr ⟨h1, h2⟩)
    · exact wireReads_some w v xs h ao cap l hI hm' hwf h1 h2
  · exact wireReads_first w v xs h ao cap l hI hm' hwf (.inl (by omega))

set_option maxRecDepth 100000 in
theorem wireReads_lifted (os : Os) (started : os.Started) (H : Type) (enc : TypeId × Value → H) :
    ReturnsInHanded {} Try.checked os 4 .any (Rows.wireReadsSpec.pre6 enc Try.prog Try.f4 [] false) (Rows.wireReadsSpec.post enc Try.prog Try.f4 false true false false) := by
  refine returnsInHanded_of_change (C := Try.checked) own started (by kernel_rfl) Try.func4
    (ChangeSpec.witness6 (enc := enc) (C := Try.checked) false ⟨#[], #[.slice none 0 0, .slice none 0 0], []⟩ 8 (by kernel_rfl) (by kernel_rfl) (by kernel_rfl) (by kernel_rfl)) ?_
  intro W base args ds gs before hval0 hW _ _
  have hval : ∀ (j : Nat) t v, Try.f4.params[j]? = some t → args[j]? = some v → Value.okWide Try.prog W .any base t v := hval0
  have hW' := hW
  obtain ⟨p, q, hA0, hV, rfl, hfz, hnd⟩ := hW
  have hA : DataW.TrodAll enc Try.prog W 0 (fun _ => true) true Try.f4.params.toList args.toList ds p := hA0
  rw [Try.params4] at hA hval
  obtain ⟨v0, v1, d0, d1, p0, p1, rfl, rfl, rfl, h0, h1⟩ := trodAll_two hA
  obtain ⟨b0, len0, cap0, rfl⟩ := okWide_slice Try.underlying31 (hval 0 31 v0 rfl rfl)
  have k0 := h0
  obtain ⟨fuel0, g0⟩ := h0
  obtain ⟨b1, len1, cap1, rfl⟩ := okWide_slice Try.underlying22 (hval 1 22 v1 rfl rfl)
  have k1 := h1
  obtain ⟨fuel1, g1⟩ := h1
  obtain ⟨rfl, rfl⟩ := trodVars_none hV
  clear hA0 hval0
  simp only [List.append_nil] at hW'
  have hlt : ∀ x ∈ p0 ++ p1, x.block < W.heap.size := fun x hx => hW'.lt x (by simpa using hx)
  obtain ⟨xs0, r0, m0⟩ := open_has g0
  obtain ⟨ao1, cp1, xs1, e1, m1, c1, r1, u1⟩ := open_items g1
  rw [e1] at k1 hW' ⊢
  refine Calls.mono (?walk : Calls _ _ _ _ fun e w' => e = .returned (.bool true) ∧ Below W.heap.size W w') fun e W' ⟨he, hw⟩ => ?_
  case walk =>
    exact wireReads_walk W _ xs0 r0 m0 ao1 cp1 xs1 m1 c1 r1 u1
  subst he
  exact ⟨_, rfl, post_of_below (pa := p0 ++ p1) (pv := []) hW' (fun _ _ _ => trodAll_mk1 (shut_bool Try.underlying4 _)) (fun sp hsp => trodAll_mk2 (WideElems.Trod_stays laidOut (by kernel_rfl) (of_decide_eq_true (by kernel_rfl)) k0 (fun x hx => hw.same (hlt x (by simp [hx]))) (fun x hx => hsp x (by simp [hx]))) (WideElems.Trod_stays laidOut (by kernel_rfl) (of_decide_eq_true (by kernel_rfl)) k1 (fun x hx => hw.same (hlt x (by simp [hx]))) (fun x hx => hsp x (by simp [hx])))) (fun _ _ => rfl) (by simp) hw (ok_one (by kernel_rfl) rfl (okWide_bool_mk Try.underlying4 _))⟩
/-- THE ROW. -/
theorem wireReads_holds : Rows.WireReadsSaid :=
  OpenClaim.holds_of_wide 4 Try.f4 rfl rfl rfl rfl rfl rfl rfl ⟨rfl, rfl, rfl, rfl, rfl⟩ rfl rfl rfl rfl rfl (by kernel_rfl) Try.func4 (by kernel_rfl)
    (of_decide_eq_true (by kernel_rfl)) (by unfold Func.isWrapper; first | (rw [if_pos (by decide +kernel)]; kernel_rfl) | (rw [if_neg (by decide +kernel)]; exact ⟨rfl, rfl⟩))
    (fun os started H enc _ => wireReads_lifted os started H enc)
#print axioms wireReads_holds
end Go.Proofs.Ytioopibmpcbcjaa
