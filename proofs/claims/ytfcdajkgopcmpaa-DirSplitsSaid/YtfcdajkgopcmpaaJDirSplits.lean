/- racelaw14.DirSplits answers true, whatever came in: told of splits by both halves in whatever order, each key is routed to the range in which its place lies; as long as the parent's half alone was told, a moved key is routed nowhere. Conditions: none. -/
import Derived.Test.YtfcdajkgopcmpaaJDx
import Derived.Test.YtfcdajkgopcmpaaJZ
import Derived.ChangeArms
namespace Go.Proofs.Ytfcdajkgopcmpaa
open Go.ChangeShapes Go.WideShapes Go.ChangeAt Go.RowKit
section
variable {H : Type} {enc : TypeId × Value → H} {P : Program} {w : World} {base : Nat} {spare : Nat → Bool} {held : Bool}
theorem trodAll_five {t0 t1 t2 t3 t4 : TypeId} {args : Array Value} {ds : List (DataW H)} {ps : List MemPlace} (h : DataW.TrodAll enc P w base spare held [t0, t1, t2, t3, t4] args.toList ds ps) :
    ∃ v0 v1 v2 v3 v4 d0 d1 d2 d3 d4 p0 p1 p2 p3 p4, args = #[v0, v1, v2, v3, v4] ∧ ds = [d0, d1, d2, d3, d4] ∧ ps = p0 ++ p1 ++ p2 ++ p3 ++ p4 ∧ DataW.Trod enc P w base spare held t0 v0 d0 p0 ∧ DataW.Trod enc P w base spare held t1 v1 d1 p1 ∧ DataW.Trod enc P w base spare held t2 v2 d2 p2 ∧ DataW.Trod enc P w base spare held t3 v3 d3 p3 ∧ DataW.Trod enc P w base spare held t4 v4 d4 p4 := by
  obtain ⟨v0, vs, d0, ds', p0, q, hargs, rfl, rfl, hd, hrest⟩ := trodAll_cons h
  obtain ⟨v1, v2, v3, v4, d1, d2, d3, d4, p1, p2, p3, p4, e1, rfl, rfl, g1, g2, g3, g4⟩ := trodAll_four (args := vs.toArray) (by simpa using hrest)
  have e2 : vs = [v1, v2, v3, v4] := by simpa using congrArg Array.toList e1
  subst e2
  exact ⟨v0, v1, v2, v3, v4, d0, d1, d2, d3, d4, p0, p1, p2, p3, p4, by cases args; simp_all, rfl, by simp, hd, g1, g2, g3, g4⟩
theorem trodAll_mk5 {t0 t1 t2 t3 t4 : TypeId} {v0 v1 v2 v3 v4 : Value} {d0 d1 d2 d3 d4 : DataW H} {p0 p1 p2 p3 p4 : List MemPlace} (h0 : DataW.Trod enc P w base spare held t0 v0 d0 p0) (h1 : DataW.Trod enc P w base spare held t1 v1 d1 p1) (h2 : DataW.Trod enc P w base spare held t2 v2 d2 p2) (h3 : DataW.Trod enc P w base spare held t3 v3 d3 p3) (h4 : DataW.Trod enc P w base spare held t4 v4 d4 p4) :
    DataW.TrodAll enc P w base spare held [t0, t1, t2, t3, t4] [v0, v1, v2, v3, v4] [d0, d1, d2, d3, d4] (p0 ++ (p1 ++ (p2 ++ (p3 ++ p4)))) := ⟨_, _, h0, trodAll_mk4 h1 h2 h3 h4, rfl⟩
end
theorem open_boolx {H : Type} {enc : TypeId × Value → H} {w : World} {base : Nat} {held : Bool} {fuel : Nat} {v : Value} {x : DataW H × List MemPlace} (h : DataW.trod enc Try.prog w base (fun _ => true) held fuel 57 [v] = some x) :
    ∃ ao cap l, v = .slice ao l.length cap ∧ XB bv false w.heap.size w ao l.length cap l := by
  refine open_xb bv _ 57 4 (by kernel_rfl) (by kernel_rfl) (fun n v y hy => ?_) h
  obtain ⟨b, h1, _⟩ := DataW.trod_bool Try.underlying4 hy
  exact ⟨b, by simpa [bv] using h1⟩
set_option maxRecDepth 100000 in
theorem splits_bad (w : World) (a : Int) (h : a < 1 ∨ 12 < a) (u p b : Value) (ko : Option Addr) (kn kcap : Nat) (ks : List Str) (hk : KS w.heap.size w ko kn kcap ks) :
    Calls Try.prog 4 #[.int .i64 a, u, p, b, .slice ko kn kcap] w fun e w' => e = .returned (.bool true) ∧ Below w.heap.size w w' := by
  have HF := fun w => Lib.hid (first14_any w)
  have HE := fun w => Lib.hid (reven_bad a h w)
  have HKK := Lib.hid hk
  have HFW := fun (w' : World) (hb : Below w.heap.size w w') => Lib.hid (few14_any (HKK.out.below hb) none 0 0)
  clear h hk
  go_enter Try.func4, Try.ntmps4
  go_wp2_with (first
    | (go_at_call 7; first
      | (refine (HF w1).out.mono ?_; rintro e w9 ⟨rfl, hb⟩; have HB9 := Lib.hid (HB1.out.trans (hb.mono HB1.out.size)); clear hb)
      | (refine (HF _).out.mono ?_; rintro e w1 ⟨rfl, hb⟩; have HB1 := Lib.hid hb; clear hb))
    | (go_at_call 8; refine (HFW w1 HB1.out).out.mono ?_; rintro e w2 ⟨b9, rfl, hb, rfl⟩; clear hb)
    | (go_at_call 21; refine (HE _).out.mono ?_; rintro e w2 ⟨rfl, rfl⟩)
    | fail)
  all_goals go_ret
  all_goals exact ⟨rfl, HB9.out⟩
theorem dirSplits_walk (w : World) (a : Int) (_h1 : -9223372036854775808 ≤ a) (_h2 : a ≤ 9223372036854775807) (tad : Option Addr) (tcap : Nat) (t : List I64) (ht : XB iv ⟨0, by decide⟩ w.heap.size w tad t.length tcap t)
    (po : Option Addr) (pcap : Nat) (ps : List F64) (hp : XB fv ⟨0, by decide⟩ w.heap.size w po ps.length pcap ps) (uo : Option Addr) (ucap : Nat) (us : List Bool) (hu : XB bv false w.heap.size w uo us.length ucap us)
    (ko : Option Addr) (kcap : Nat) (ks : List Str) (hk : KS w.heap.size w ko ks.length kcap ks) :
    Calls Try.prog 4 #[.int .i64 a, .slice tad t.length tcap, .slice po ps.length pcap, .slice uo us.length ucap, .slice ko ks.length kcap] w fun e w' => e = .returned (.bool true) ∧ Below w.heap.size w w' := by
  by_cases h : a < 1 ∨ 12 < a
  · exact splits_bad w a h _ _ _ ko _ kcap ks hk
  · obtain ⟨n, rfl⟩ : ∃ n : Nat, a = (n : Int) := ⟨a.toNat, by omega⟩
    exact splits_ok w n (by omega) (by omega) tad _ tcap t ht po _ pcap ps hp uo _ ucap us hu ko _ kcap ks hk

set_option maxRecDepth 100000 in
theorem dirSplits_lifted (os : Os) (started : os.Started) (H : Type) (enc : TypeId × Value → H) :
    ReturnsInHanded {} Try.checked os 4 .any (Rows.dirSplitsSpec.pre6 enc Try.prog Try.f4 [] false) (Rows.dirSplitsSpec.post enc Try.prog Try.f4 false true false false) := by
  refine returnsInHanded_of_change (C := Try.checked) own started (by kernel_rfl) Try.func4
    (ChangeSpec.witness6 (enc := enc) (C := Try.checked) false ⟨#[], #[.int .i64 0, .slice none 0 0, .slice none 0 0, .slice none 0 0, .slice none 0 0], []⟩ 8 (by kernel_rfl) (by kernel_rfl) (by kernel_rfl) (by kernel_rfl)) ?_
  intro W base args ds gs before hval0 hW _ _
  have hval : ∀ (j : Nat) t v, Try.f4.params[j]? = some t → args[j]? = some v → Value.okWide Try.prog W .any base t v := hval0
  have hW' := hW
  obtain ⟨p, q, hA0, hV, rfl, hfz, hnd⟩ := hW
  have hA : DataW.TrodAll enc Try.prog W 0 (fun _ => true) true Try.f4.params.toList args.toList ds p := hA0
  rw [Try.params4] at hA hval
  obtain ⟨v0, v1, v2, v3, v4, d0, d1, d2, d3, d4, p0, p1, p2, p3, p4, rfl, rfl, rfl, h0, h1, h2, h3, h4⟩ := trodAll_five hA
  obtain ⟨a0, rfl, rfl, rfl, wf0⟩ := open_int Try.underlying3 (hval 0 3 v0 rfl rfl) h0
  obtain ⟨b1, len1, cap1, rfl⟩ := okWide_slice Try.underlying55 (hval 1 55 v1 rfl rfl)
  have k1 := h1
  obtain ⟨fuel1, g1⟩ := h1
  obtain ⟨b2, len2, cap2, rfl⟩ := okWide_slice Try.underlying56 (hval 2 56 v2 rfl rfl)
  have k2 := h2
  obtain ⟨fuel2, g2⟩ := h2
  obtain ⟨b3, len3, cap3, rfl⟩ := okWide_slice Try.underlying57 (hval 3 57 v3 rfl rfl)
  have k3 := h3
  obtain ⟨fuel3, g3⟩ := h3
  obtain ⟨b4, len4, cap4, rfl⟩ := okWide_slice Try.underlying24 (hval 4 24 v4 rfl rfl)
  have k4 := h4
  obtain ⟨fuel4, g4⟩ := h4
  obtain ⟨rfl, rfl⟩ := trodVars_none hV
  clear hA0 hval0
  simp only [List.append_nil] at hW'
  have hlt : ∀ x ∈ [] ++ p1 ++ p2 ++ p3 ++ p4, x.block < W.heap.size := fun x hx => hW'.lt x (by simpa using hx)
  have hwf0 := wf0
  simp [Lit.wf, IntKind.min, IntKind.max, IntKind.signed, IntKind.bits] at hwf0
  obtain ⟨ao1, c1, xs1, hv1, r1⟩ := open_ints g1
  obtain ⟨ao2, c2, xs2, hv2, r2⟩ := open_floats g2
  obtain ⟨ao3, c3, xs3, hv3, r3⟩ := open_boolx g3
  obtain ⟨ao4, c4, xs4, hv4, r4⟩ := open_strings g4
  refine Calls.mono (?walk : Calls _ _ _ _ fun e w' => e = .returned (.bool true) ∧ Below W.heap.size W w') fun e W' ⟨he, hw⟩ => ?_
  case walk =>
    rw [hv1]
    rw [hv2]
    rw [hv3]
    rw [hv4]
    exact dirSplits_walk W a0 (by omega) (by omega) ao1 c1 xs1 r1 ao2 c2 xs2 r2 ao3 c3 xs3 r3 ao4 c4 xs4 r4
  subst he
  exact ⟨_, rfl, post_of_below (pa := [] ++ (p1 ++ (p2 ++ (p3 ++ p4)))) (pv := []) hW' (fun _ _ _ => trodAll_mk1 (shut_bool Try.underlying4 _)) (fun sp hsp => trodAll_mk5 (shut_int Try.underlying3 wf0) (WideElems.Trod_stays laidOut (by kernel_rfl) (of_decide_eq_true (by kernel_rfl)) k1 (fun x hx => hw.same (hlt x (by first | (simp [hx]; done) | exact nomatch hx))) (fun x hx => hsp x (by first | (simp [hx]; done) | exact nomatch hx))) (WideElems.Trod_stays laidOut (by kernel_rfl) (of_decide_eq_true (by kernel_rfl)) k2 (fun x hx => hw.same (hlt x (by first | (simp [hx]; done) | exact nomatch hx))) (fun x hx => hsp x (by first | (simp [hx]; done) | exact nomatch hx))) (WideElems.Trod_stays laidOut (by kernel_rfl) (of_decide_eq_true (by kernel_rfl)) k3 (fun x hx => hw.same (hlt x (by first | (simp [hx]; done) | exact nomatch hx))) (fun x hx => hsp x (by first | (simp [hx]; done) | exact nomatch hx))) (WideElems.Trod_stays laidOut (by kernel_rfl) (of_decide_eq_true (by kernel_rfl)) k4 (fun x hx => hw.same (hlt x (by first | (simp [hx]; done) | exact nomatch hx))) (fun x hx => hsp x (by first | (simp [hx]; done) | exact nomatch hx)))) (fun _ _ => rfl) (by simp) hw (ok_one (by kernel_rfl) rfl (okWide_bool_mk Try.underlying4 _))⟩
/-- THE ROW. -/
theorem dirSplits_holds : Rows.DirSplitsSaid :=
  OpenClaim.holds_of_wide 4 Try.f4 rfl rfl rfl rfl rfl rfl rfl ⟨rfl, rfl, rfl, rfl, rfl⟩ rfl rfl rfl rfl rfl (by kernel_rfl) Try.func4 (by kernel_rfl)
    (of_decide_eq_true (by kernel_rfl)) (by unfold Func.isWrapper; first | (rw [if_pos (by decide +kernel)]; kernel_rfl) | (rw [if_neg (by decide +kernel)]; exact ⟨rfl, rfl⟩))
    (fun os started H enc _ => dirSplits_lifted os started H enc)
#print axioms dirSplits_holds
end Go.Proofs.Ytfcdajkgopcmpaa
