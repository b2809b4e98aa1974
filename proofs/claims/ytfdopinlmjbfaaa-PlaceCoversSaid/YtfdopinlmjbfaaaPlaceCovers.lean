/- Any list of ranges: whether it is a cover, and which range has a place, as the document says: racelaw4.PlaceCovers answers true and leaves its arguments as they were. Conditions: none. -/
import Derived.Test.YtfdopinlmjbfaaaCp
import Derived.Test.YtfdopinlmjbfaaaOw
import Derived.Test.YtfdopinlmjbfaaaSm
import Derived.Test.YtfdopinlmjbfaaaFi
import Derived.Deep.RegionHeld
namespace Go.Proofs.Ytfdopinlmjbfaaa
open Go.ChangeShapes Go.WideShapes Go.ChangeAt Go.RowKit
theorem covers_many (w : World) (ao : Option Addr) (n cap x : Nat) (h : 200 < n) :
    Calls Try.prog 6 #[.slice ao n cap, .float .f64 x] w fun e w' => e = .returned (.bool true) ∧ Below w.heap.size w w' := by
  have hgt : (200 : Int) < (n : Int) := by omega
  clear h
  go_enter Try.func6, Try.ntmps6
  go_wp2_with (go_at_call 12; ((with_reducible refine (first_any _).mono ?_); rintro e w' ⟨rfl, rfl⟩))
  go_ret
  exact ⟨rfl, Below.refl _ _⟩
set_option maxRecDepth 100000 in
set_option maxHeartbeats 8000000 in
theorem covers_some (w : World) (ao : Option Addr) (cap x : Nat) (l : List RV) (hw : ∀ r ∈ l, r.wf) (h : l.length ≤ 200) (hl : HasR (fun k => k < w.heap.size) w (.slice ao l.length cap) l) :
    Calls Try.prog 6 #[.slice ao l.length cap, .float .f64 x] w fun e w' => e = .returned (.bool true) ∧ Below w.heap.size w w' := by
  have hst := run_stf
  obtain ⟨i0, hi, hz0, hz1, hz2⟩ : ∃ i0, Try.prog.info? 34 = some i0 ∧ i0.zero = some (.agg #[.int .i64 0, .int .i64 0, .float .f64 0, .float .f64 0]) ∧ i0.size = 4 ∧ i0.bytes = 32 := by
    obtain ⟨i0, h1, h2⟩ := Option.map_eq_some_iff.1 info34
    simp only [Prod.mk.injEq] at h2
    exact ⟨i0, h1, h2.1, h2.2.1, h2.2.2⟩
  have hao : ao = none → l.length = 0 ∧ cap = 0 := by
    obtain ⟨ao', cap', e, _, _, h3, _⟩ := hl
    simp at e
    obtain ⟨rfl, rfl⟩ := e
    intro h
    exact ⟨by rw [(h3 h).2]; rfl, (h3 h).1⟩
  have hgt : ¬ (200 : Int) < (l.length : Int) := by omega
  have hm : l.length ≤ 1000000 := by omega
  have hq1 : 0 + l.length ≤ maxLen := by unfold maxLen; omega
  have hq2 : (0 + l.length) * 32 ≤ 140737488355328 := by omega
  have HNL := Lib.hid (cellsR_length l)
  have HAO := Lib.hid hao
  have HQ1 := Lib.hid hq1
  have HQ2 := Lib.hid hq2
  clear hao hq1 hq2
  have HL0 := Lib.hid hl
  have HL := Lib.hid (hl.below (below1 w (.cells #[] 34)))
  have H29 := fun W v (h : HasR (fun k => w.heap.size ≤ k) W v l) => Lib.hid (find_any x h hm)
  have H30 := fun W (h : HasR (fun k => k < w.heap.size) W (.slice ao l.length cap) l) => Lib.hid (rfind_any x h hm)
  have H31 := fun W v (h : HasR (fun k => w.heap.size ≤ k) W v l) => Lib.hid (check_any h hw)
  have H32 := fun W (h : HasR (fun k => k < w.heap.size) W (.slice ao l.length cap) l) => Lib.hid (rcheck_any h hw)
  have H33 := fun W v (h : HasR (fun k => w.heap.size ≤ k) W v l) (h' : HasR (fun k => k < w.heap.size) W (.slice ao l.length cap) l) => Lib.hid (ranges_same h h' hm)
  generalize findV l x = R at *
  generalize checkV l = c at *
  obtain ⟨⟨ri, re, rl, rh⟩, f⟩ := R
  simp only at H29 H30
  have H28 := fun w => Lib.hid (range_same ⟨ri, re, rl, rh⟩ w)
  have e1 : (c == c) = true := beq_self_eq_true _
  have e2 : (f == f) = true := beq_self_eq_true _
  clear hw h hl hm
  go_enter Try.func6, Try.ntmps6
  go_wp2_with (first
    | (go_at_call 12; ((with_reducible refine (first_any _).mono ?_); rintro e w' ⟨rfl, rfl⟩))
    | (at_builtin; refine wpList_append_row rfl _ _ 41 rfl w.heap.size 34 i0 _ 4 32 Try.underlying41 hi hz0 hz1 hz2 rfl (by decide) _ 0 [] rfl (World.ownsRow_made w #[] 0 (Nat.le_refl _) (Nat.zero_le _) (by simp)) ao l.length cap (cellsR l) rfl ?qa ?qb ?qc ?qd ?qe ?qf ?qg ?qh))
  case qa => exact HAO.out
  case qb => exact HNL.out
  case qc => exact HL.out.news
  case qd => exact cellsR_one l
  case qe => exact HQ1.out
  case qf => exact HQ2.out
  case qg => simp
  intro v5 w2 hown hgrow
  have hb := ((Below.refl _ w).alloc (Nat.le_refl _) (.cells #[] 34)).grown hgrow (by simp) (by intro k hk; simp [Value.ownBlock] at hk; omega)
  have HO := Lib.hid (own_ranges (by simpa using hown))
  have HL := Lib.hid (HL0.out.below hb)
  have HW := Lib.hid hb
  clear hb hown hgrow
  go_wp2_with (first
    | (go_at_call 12; ((with_reducible refine (first_any _).mono ?_); rintro e w' ⟨rfl, rfl⟩))
    | (go_at_call 29; ((with_reducible refine (H29 _ _ HO.out).out.mono ?_); rintro e w3 ⟨rfl, hb⟩; have hh := HW.out.trans (hb.mono HW.out.size); have HW := Lib.hid (hh.alloc hh.size (robj ⟨ri, re, rl, rh⟩)); have HL := Lib.hid ((HL.out.below hb).below (below1 w3 (robj ⟨ri, re, rl, rh⟩))); have HO := Lib.hid ((HO.out.below hb).below (below1 w3 (robj ⟨ri, re, rl, rh⟩))); have HP := Lib.hid (at_new w3 ⟨ri, re, rl, rh⟩); clear hb hh))
    | (go_at_call 30; ((with_reducible refine (H30 _ HL.out).out.mono ?_); rintro e w4 ⟨rfl, hb⟩; have hh := HW.out.trans (hb.mono HW.out.size); have HW := Lib.hid (hh.alloc hh.size (robj ⟨ri, re, rl, rh⟩)); have HL := Lib.hid ((HL.out.below hb).below (below1 w4 (robj ⟨ri, re, rl, rh⟩))); have HO := Lib.hid ((HO.out.below hb).below (below1 w4 (robj ⟨ri, re, rl, rh⟩))); have HP := Lib.hid ((HP.out.below hb HP.out.lt).alloc (robj ⟨ri, re, rl, rh⟩)); have HQ := Lib.hid (at_new w4 ⟨ri, re, rl, rh⟩); clear hb hh))
    | (go_at_call 31; with_reducible refine (H31 _ _ HO.out).out.mono ?_; rintro e w6 ⟨rfl, hb⟩; have HW := Lib.hid (HW.out.trans (hb.mono HW.out.size)); have HL := Lib.hid (HL.out.below hb); have HO := Lib.hid (HO.out.below hb); have HP := Lib.hid (HP.out.below hb HP.out.lt); have HQ := Lib.hid (HQ.out.below hb HQ.out.lt); have p0 := HP.out.c0; have p1 := HP.out.c1; have p2 := HP.out.c2; have p3 := HP.out.c3; have q0 := HQ.out.c0; have q1 := HQ.out.c1; have q2 := HQ.out.c2; have q3 := HQ.out.c3; clear hb)
    | (go_at_call 32; with_reducible refine (H32 _ HL.out).out.mono ?_; rintro e w6 ⟨rfl, hb⟩; have HW := Lib.hid (HW.out.trans (hb.mono HW.out.size)); have HL := Lib.hid (HL.out.below hb); have HO := Lib.hid (HO.out.below hb); have HP := Lib.hid (HP.out.below hb HP.out.lt); have HQ := Lib.hid (HQ.out.below hb HQ.out.lt); have p0 := HP.out.c0; have p1 := HP.out.c1; have p2 := HP.out.c2; have p3 := HP.out.c3; have q0 := HQ.out.c0; have q1 := HQ.out.c1; have q2 := HQ.out.c2; have q3 := HQ.out.c3; clear hb)
    | (go_at_call 28; with_reducible refine (H28 _).out.mono ?_; rintro e w6 ⟨rfl, hb⟩; have HW := Lib.hid (HW.out.trans (hb.mono HW.out.size)); have HL := Lib.hid (HL.out.below hb); have HO := Lib.hid (HO.out.below hb); have HP := Lib.hid (HP.out.below hb HP.out.lt); have HQ := Lib.hid (HQ.out.below hb HQ.out.lt); have p0 := HP.out.c0; have p1 := HP.out.c1; have p2 := HP.out.c2; have p3 := HP.out.c3; have q0 := HQ.out.c0; have q1 := HQ.out.c1; have q2 := HQ.out.c2; have q3 := HQ.out.c3; clear hb)
    | (go_at_call 33; with_reducible refine (H33 _ _ HO.out HL.out).out.mono ?_; rintro e w6 ⟨rfl, hb⟩; have HW := Lib.hid (HW.out.trans (hb.mono HW.out.size)); have HL := Lib.hid (HL.out.below hb); have HO := Lib.hid (HO.out.below hb); have HP := Lib.hid (HP.out.below hb HP.out.lt); have HQ := Lib.hid (HQ.out.below hb HQ.out.lt); have p0 := HP.out.c0; have p1 := HP.out.c1; have p2 := HP.out.c2; have p3 := HP.out.c3; have q0 := HQ.out.c0; have q1 := HQ.out.c1; have q2 := HQ.out.c2; have q3 := HQ.out.c3; clear hb))
  go_ret
  exact ⟨rfl, HW.out⟩
theorem placeCovers_walk (W : World) (v : Value) (l : List RV) (r : HasR (fun k => k < W.heap.size) W v l ∧ (∀ r ∈ l, r.wf) ∧ l.length ≤ maxLen) (x : Nat) (_ : x < 18446744073709551616) :
    Calls Try.prog 6 #[v, .float .f64 x] W fun e w' => e = .returned (.bool true) ∧ Below W.heap.size W w' := by
  obtain ⟨hr, hw, _⟩ := r
  have hr0 := hr
  obtain ⟨ao, cap, rfl, _⟩ := hr
  rcases Nat.lt_or_ge 200 l.length with h | h
  · exact covers_many W ao l.length cap x h
  · exact covers_some W ao cap x l hw h hr0

set_option maxRecDepth 100000 in
theorem placeCovers_lifted (os : Os) (started : os.Started) (H : Type) (enc : TypeId × Value → H) :
    ReturnsInHanded {} Try.checked os 6 .any (Rows.placeCoversSpec.pre6 enc Try.prog Try.f6 [] false) (Rows.placeCoversSpec.post enc Try.prog Try.f6 false true false false) := by
  refine returnsInHanded_of_change (C := Try.checked) own started (by kernel_rfl) Try.func6
    (ChangeSpec.witness6 (enc := enc) (C := Try.checked) false ⟨#[], #[.slice none 0 0, .float .f64 0], []⟩ 8 (by kernel_rfl) (by kernel_rfl) (by kernel_rfl) (by kernel_rfl)) ?_
  intro W base args ds gs before hval0 hW _ _
  have hval : ∀ (j : Nat) t v, Try.f6.params[j]? = some t → args[j]? = some v → Value.okWide Try.prog W .any base t v := hval0
  have hW' := hW
  obtain ⟨p, q, hA0, hV, rfl, hfz, hnd⟩ := hW
  have hA : DataW.TrodAll enc Try.prog W 0 (fun _ => true) true Try.f6.params.toList args.toList ds p := hA0
  rw [Try.params6] at hA hval
  obtain ⟨v0, v1, d0, d1, p0, p1, rfl, rfl, rfl, h0, h1⟩ := trodAll_two hA
  obtain ⟨b0, len0, cap0, rfl⟩ := okWide_slice Try.underlying41 (hval 0 41 v0 rfl rfl)
  have k0 := h0
  obtain ⟨fuel0, g0⟩ := h0
  obtain ⟨a1, rfl, rfl, rfl, wf1⟩ := open_float Try.underlying23 (hval 1 23 v1 rfl rfl) h1
  obtain ⟨rfl, rfl⟩ := trodVars_none hV
  clear hA0 hval0
  simp only [List.append_nil] at hW'
  have hlt : ∀ x ∈ p0 ++ [], x.block < W.heap.size := fun x hx => hW'.lt x (by simpa using hx)
  obtain ⟨xs0, r0⟩ := open_ranges g0
  have hwf1 := wf1
  simp [Lit.wf] at hwf1
  refine Calls.mono (?walk : Calls _ _ _ _ fun e w' => e = .returned (.bool true) ∧ Below W.heap.size W w') fun e W' ⟨he, hw⟩ => ?_
  case walk =>
    exact placeCovers_walk W _ xs0 r0 a1 (by omega)
  subst he
  exact ⟨_, rfl, post_of_below (pa := p0 ++ []) (pv := []) hW' (fun _ _ _ => trodAll_mk1 (shut_bool Try.underlying4 _)) (fun sp hsp => trodAll_mk2 (WideElems.Trod_stays laidOut (by kernel_rfl) (of_decide_eq_true (by kernel_rfl)) k0 (fun x hx => hw.same (hlt x (by first | (simp [hx]; done) | exact nomatch hx))) (fun x hx => hsp x (by first | (simp [hx]; done) | exact nomatch hx))) (shut_float Try.underlying23 wf1)) (fun _ _ => rfl) (by simp) hw (ok_one (by kernel_rfl) rfl (okWide_bool_mk Try.underlying4 _))⟩
/-- THE ROW. -/
theorem placeCovers_holds : Rows.PlaceCoversSaid :=
  OpenClaim.holds_of_wide 6 Try.f6 rfl rfl rfl rfl rfl rfl rfl ⟨rfl, rfl, rfl, rfl, rfl⟩ rfl rfl rfl rfl rfl (by kernel_rfl) Try.func6 (by kernel_rfl)
    (of_decide_eq_true (by kernel_rfl)) (by unfold Func.isWrapper; first | (rw [if_pos (by decide +kernel)]; kernel_rfl) | (rw [if_neg (by decide +kernel)]; exact ⟨rfl, rfl⟩))
    (fun os started H enc _ => placeCovers_lifted os started H enc)
#print axioms placeCovers_holds
end Go.Proofs.Ytfdopinlmjbfaaa
