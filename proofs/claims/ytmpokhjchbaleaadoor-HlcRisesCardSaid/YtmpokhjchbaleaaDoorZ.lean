/- What each row's own condition gives the walks (the listed table, the two errors), the start that fits; stamps, ints, operations that came in. Conditions: none of its own. -/
import Derived.Test.YtmpokhjchbaleaaDoorRows
import Derived.Test.YtmpokhjchbaleaaDoorTie
import Derived.Test.YtmpokhjchbaleaaDoorCards
import Derived.Test.YtmpokhjchbaleaaDoorD
import Derived.ProofKit
import Derived.LaidMore
import Derived.OpenShut
import Derived.Stop.Joined
import Derived.WalkLawsBesides
import Derived.Below
import Derived.ChangeSame
import Derived.Lib.SmallJoins
import Derived.Carry
import Derived.Deep.Slices
import Derived.Deep.SlicePairs
namespace Go.Proofs.YtmpokhjchbaleaaDoor
open Go.ChangeShapes Go.WideShapes Go.ChangeAt Go.RowKit Go.Deep

section
variable {H : Type} {enc : TypeId × Value → H} {P : Program}
theorem post_of_below {f : Func} {s : ChangeSpec} {apart fresh handsOn again : Bool} {W W' : World} {args : Array Value} {v : Value} {ds gs : List (DataW H)} {before pa pv : List MemPlace}
    (hW : DataW.Whole enc P f.params.toList s.vars apart W args.toList ds gs before)
    (hres : ∀ (b : Nat) (sp : Nat → Bool) (hd : Bool), DataW.TrodAll enc P W' b sp hd f.resultTypes.toList (v.resultList f.resultTypes.size) (s.fn H (ds ++ gs)).results [])
    (hargs : ∀ sp : Nat → Bool, (∀ p ∈ before, sp p.block = true) → DataW.TrodAll enc P W' 0 sp true f.params.toList args.toList (s.fn H (ds ++ gs)).args pa)
    (hvars : ∀ sp : Nat → Bool, (∀ p ∈ before, sp p.block = true) → DataW.TrodVars enc P W' sp s.vars (s.fn H (ds ++ gs)).vars pv)
    (hps : before = pa ++ pv) (hb : Below W.heap.size W W')
    (hok : ∀ (j : Nat) (t : TypeId) (r : Value), f.resultTypes[j]? = some t → (v.resultList f.resultTypes.size)[j]? = some r → Value.okWide P W' .any 0 t r) :
    s.post enc P f apart fresh handsOn again W args v W' := by
  have hlt : ∀ p ∈ before, p.block < W.heap.size := fun p hp => hW.lt p hp
  have hold : ∀ p ∈ before, (fun b => decide (b < W.heap.size)) p.block = true := fun p hp => by simpa using hlt p hp
  refine ⟨ds, gs, before, [], pa, pv, hW, hres _ _ _, hargs _ hold, hvars _ hold, World.keptBut_mono (fun p hp => ⟨hp, ?_⟩) (hb.frame (· ∈ before)), fun _ => ?_⟩
  · rw [hps, List.mem_append] at hp
    exact Or.inr hp
  · obtain ⟨_, _, _, _, _, hz, hn⟩ := hW
    refine ⟨hok, _, _, ([] ++ pa) ++ pv, ⟨[] ++ pa, pv, trodAll_append (hargs _ (fun _ _ => rfl)) (hres _ _ _), hvars _ (fun _ _ => rfl), rfl, ?_, ?_⟩, ?_⟩
    · intro b off hp
      have hin : MemPlace.cell b off ∈ before := by rw [hps]; simpa using hp
      rw [hb.frozen (hlt _ hin)]
      exact hz b off hin
    · intro ha
      have := hn ha
      rw [hps] at this
      simpa using this
    · intro p hp _
      rw [hps]
      simpa using hp
end
theorem own : ownKnob Tryd.prog.godebug = none := by kernel_rfl
theorem laidOutP : laidOutB Tryd.prog = true := by kernel_rfl
theorem bytes_self (s : ByteArray) : (⟨s.data.toList.toArray⟩ : ByteArray) = s := by cases s; simp
theorem gPow : Tryd.prog.globalNamed "internal/strconv.uint64pow10" = some 1 := by kernel_rfl
theorem gSyn : Tryd.prog.globalNamed "strconv.ErrSyntax" = some 2 := by kernel_rfl
theorem gRan : Tryd.prog.globalNamed "strconv.ErrRange" = some 3 := by kernel_rfl
theorem gDe64 : Tryd.prog.globalNamed "math/bits.deBruijn64tab" = some 5 := by kernel_rfl
theorem tPow : (Tryd.prog.globals[1]?).map (·.type) = some 91 := by kernel_rfl
theorem tSyn : (Tryd.prog.globals[2]?).map (·.type) = some 69 := by kernel_rfl
theorem tRan : (Tryd.prog.globals[3]?).map (·.type) = some 69 := by kernel_rfl
theorem under69 : ∃ ms, Tryd.prog.underlying 69 = some (.interface ms) := ⟨_, Tryd.underlying69⟩
theorem iface_of_trod {H : Type} {enc : TypeId × Value → H} {w : World} {sp : Nat → Bool} {held : Bool} {f : Nat} {cs : List Value} {x : DataW H × List MemPlace} (h : DataW.trod enc Tryd.prog w 0 sp held f 69 cs = some x) : ∃ v, cs = [v] ∧ (v = .nilIface ∨ ∃ te pe, v = .iface te pe) := by
  obtain ⟨ms, hu⟩ := under69
  cases f with
  | zero => cases h
  | succ f =>
    unfold DataW.trod at h
    rw [hu] at h
    match cs, h with
    | [], h => simp at h
    | [v], h => cases v <;> first | exact ⟨_, rfl, .inl rfl⟩ | exact ⟨_, rfl, .inr ⟨_, _, rfl⟩⟩ | (simp at h)
    | _ :: _ :: _, h => simp at h
theorem cell_of_iface {W : World} {n : String} {g : Nat} {cs : Array Value} (hg : Tryd.prog.globalNamed n = some g) (hv : W.var? Tryd.prog n = some cs) (h : ∃ v, cs.toList = [v] ∧ (v = .nilIface ∨ ∃ te pe, v = .iface te pe)) :
    ∃ ev, W.cell? ⟨g, 0, none⟩ = some ev ∧ (ev = .nilIface ∨ ∃ te pe, ev = .iface te pe) := by
  obtain ⟨v, hc, hk⟩ := h
  refine ⟨v, ?_, hk⟩
  rw [World.var?_cell hg hv 0, ← Array.getElem?_toList, hc]
  rfl


abbrev laid3 : List (String × DataW Unit) := [("math/bits.deBruijn32tab", Rows.laid_math_bits_deBruijn32tab), ("math/bits.deBruijn64tab", Rows.laid_math_bits_deBruijn64tab), ("internal/strconv.uint64pow10", Rows.laid_internal_strconv_uint64pow10)]
abbrev laid5 : List (String × DataW Unit) := [("math/bits.deBruijn32tab", Rows.laid_math_bits_deBruijn32tab), ("math/bits.deBruijn64tab", Rows.laid_math_bits_deBruijn64tab), ("internal/strconv.uint64pow10", Rows.laid_internal_strconv_uint64pow10), ("strconv.ErrRange", Rows.laid_strconv_ErrRange), ("strconv.ErrSyntax", Rows.laid_strconv_ErrSyntax)]
/-- The door's own heap meets the condition. -/
theorem door_met3 (os : Os) (args : Array Value) : laidMetH Tryd.prog laid3 ((World.doorLaid Tryd.prog 400 os).forCall (fun _ _ => 0) ⟨#[], args, []⟩).memory :=
  laidMetH_of_parts3 (fuel := 8) (laidMet_of_run' 8 (by kernel_rfl) (by kernel_rfl)) (by kernel_rfl) (by kernel_rfl)
theorem door_met5 (os : Os) (args : Array Value) : laidMetH Tryd.prog laid5 ((World.doorLaid Tryd.prog 400 os).forCall (fun _ _ => 0) ⟨#[], args, []⟩).memory :=
  laidMetH_of_parts3 (fuel := 8) (laidMet_of_run' 8 (by kernel_rfl) (by kernel_rfl)) (by kernel_rfl) (by kernel_rfl)
theorem laidPow_eq : (Rows.laid_internal_strconv_uint64pow10 : DataW Unit) = Lib.tabData .u64 Lib.pow10Tab := by kernel_rfl
theorem size_of_var {W : World} {n : String} {g : Nat} {cs : Array Value} (hg : Tryd.prog.globalNamed n = some g) (hv : W.var? Tryd.prog n = some cs) : g + 1 ≤ W.heap.size := by
  unfold World.var? at hv
  rw [hg] at hv
  simp only [Option.bind_some] at hv
  rcases Nat.lt_or_ge g W.heap.size with h' | h'
  · exact h'
  · rw [Array.getElem?_eq_none h'] at hv; simp at hv
theorem pow_of_var {W : World} {cs : Array Value} (hv : W.var? Tryd.prog "internal/strconv.uint64pow10" = some cs) (c2 : (Lib.pow10Tab.map fun z => Value.int .u64 z) = cs.toList) (hs : 6 ≤ W.heap.size) : Pow W := by
  refine ⟨fun w' hb => ?_, hs⟩
  have e : w'.var? Tryd.prog "internal/strconv.uint64pow10" = W.var? Tryd.prog "internal/strconv.uint64pow10" := by
    unfold World.var?
    rw [gPow]
    simp only [Option.bind_some]
    rw [hb.block 1 (by decide)]
  unfold Lib.TabIs
  rw [e, hv, c2]
/-- WHAT THE CONDITION GIVES THE WALKS. -/
theorem pow_of_laid {W : World} (h : laidMetH Tryd.prog laid3 W) : Pow W := by
  rw [MakeChecks.laidMetH_plain _ _ _ (by kernel_rfl)] at h
  obtain ⟨ps, ⟨g0, t0, cs0, f0, p0, q0, hg0, ht0, hv0, hd0, ⟨g1, t1, cs1, f1, p1, q1, hg1, ht1, hv1, hd1, ⟨g2, t2, cs2, f2, p2, q2, hg2, ht2, hv2, hd2, _, _⟩, _⟩, _⟩, _, _⟩ := h
  obtain rfl := Option.some.inj (gDe64.symm.trans hg1)
  obtain rfl := Option.some.inj (gPow.symm.trans hg2)
  obtain rfl := Option.some.inj (tPow.symm.trans ht2)
  rw [laidPow_eq] at hd2
  have c2 := Lib.cells_of_tab Tryd.underlying91 Tryd.underlying76 (by kernel_rfl) (by kernel_rfl) hd2
  exact pow_of_var hv2 c2.symm (size_of_var gDe64 hv1)
/-- The table, and the two errors. -/
structure Tabs (w : World) : Prop where
  pow : Pow w
  syn : ∃ ev, w.cell? ⟨2, 0, none⟩ = some ev ∧ (ev = .nilIface ∨ ∃ te pe, ev = .iface te pe)
  ran : ∃ ev, w.cell? ⟨3, 0, none⟩ = some ev ∧ (ev = .nilIface ∨ ∃ te pe, ev = .iface te pe)
theorem Tabs.on {w w' : World} (h : Tabs w) (hb : Below 6 w w') : Tabs w' :=
  ⟨h.pow.on hb, let ⟨ev, h1, h2⟩ := h.syn; ⟨ev, (hb.cell (p := ⟨2, 0, none⟩) (by decide)).trans h1, h2⟩, let ⟨ev, h1, h2⟩ := h.ran; ⟨ev, (hb.cell (p := ⟨3, 0, none⟩) (by decide)).trans h1, h2⟩⟩
theorem Tabs.below {w w' : World} (h : Tabs w) (hb : Below w.heap.size w w') : Tabs w' := h.on (hb.mono h.pow.size)
theorem tabs_of_laid {W : World} (h : laidMetH Tryd.prog laid5 W) : Tabs W := by
  rw [MakeChecks.laidMetH_plain _ _ _ (by kernel_rfl)] at h
  obtain ⟨ps, ⟨g0, t0, cs0, f0, p0, q0, hg0, ht0, hv0, hd0, ⟨g1, t1, cs1, f1, p1, q1, hg1, ht1, hv1, hd1, ⟨g2, t2, cs2, f2, p2, q2, hg2, ht2, hv2, hd2, ⟨g3, t3, cs3, f3, p3, q3, hg3, ht3, hv3, hd3, ⟨g4, t4, cs4, f4, p4, q4, hg4, ht4, hv4, hd4, _, _⟩, _⟩, _⟩, _⟩, _⟩, _, _⟩ := h
  obtain rfl := Option.some.inj (gDe64.symm.trans hg1)
  obtain rfl := Option.some.inj (gPow.symm.trans hg2)
  obtain rfl := Option.some.inj (gRan.symm.trans hg3)
  obtain rfl := Option.some.inj (gSyn.symm.trans hg4)
  obtain rfl := Option.some.inj (tPow.symm.trans ht2)
  obtain rfl := Option.some.inj (tRan.symm.trans ht3)
  obtain rfl := Option.some.inj (tSyn.symm.trans ht4)
  rw [laidPow_eq] at hd2
  have c2 := Lib.cells_of_tab Tryd.underlying91 Tryd.underlying76 (by kernel_rfl) (by kernel_rfl) hd2
  exact ⟨pow_of_var hv2 c2.symm (size_of_var gDe64 hv1), cell_of_iface gSyn hv4 (iface_of_trod hd4), cell_of_iface gRan hv3 (iface_of_trod hd3)⟩
section
variable {H : Type} {enc : TypeId × Value → H} {w : World} {base : Nat} {spare : Nat → Bool} {held : Bool}
set_option maxRecDepth 100000 in
/-- A stamp that came in. -/
theorem open_stamp {r : Reach} {b0 : Nat} {v : Value} {d : DataW H} {p : List MemPlace} (hv : Value.okWide Tryd.prog w r b0 23 v) (h : DataW.Trod enc Tryd.prog w base spare held 23 v d p) :
    ∃ s : St, v = sagg s ∧ p = [] ∧ s.wf := by
  obtain ⟨v0, v1, v2, y0, y1, y2, n, rfl, rfl, rfl, h0, h1, h2⟩ := Joins.open_agg3 Tryd.underlying23 (by kernel_rfl) (by kernel_rfl) hv h
  obtain ⟨k0, e0, rfl, wf0⟩ := DataW.trod_int Tryd.underlying3 h0
  obtain ⟨k1, e1, rfl, wf1⟩ := DataW.trod_int Tryd.underlying3 h1
  obtain ⟨k2, e2, rfl, wf2⟩ := DataW.trod_int Tryd.underlying3 h2
  simp at e0 e1 e2
  subst e0 e1 e2
  simp [Lit.wf, IntKind.min, IntKind.max, IntKind.signed, IntKind.bits] at wf0 wf1 wf2
  exact ⟨⟨k0, k1, k2⟩, rfl, rfl, ⟨by simp only; omega, by simp only; omega⟩, ⟨by simp only; omega, by simp only; omega⟩, by simp only; omega, by simp only; omega⟩
end
section
variable {H : Type} {enc : TypeId × Value → H} {P : Program} {w : World} {base : Nat} {spare : Nat → Bool} {held : Bool}
theorem trodAll_five {t t1 t2 t3 t4 : TypeId} {args : Array Value} {ds : List (DataW H)} {ps : List MemPlace} (h : DataW.TrodAll enc P w base spare held [t, t1, t2, t3, t4] args.toList ds ps) :
    ∃ v v1 v2 v3 v4 d d1 d2 d3 d4 p p1 p2 p3 p4, args = #[v, v1, v2, v3, v4] ∧ ds = [d, d1, d2, d3, d4] ∧ ps = p ++ p1 ++ p2 ++ p3 ++ p4 ∧ DataW.Trod enc P w base spare held t v d p ∧ DataW.Trod enc P w base spare held t1 v1 d1 p1 ∧ DataW.Trod enc P w base spare held t2 v2 d2 p2 ∧ DataW.Trod enc P w base spare held t3 v3 d3 p3 ∧ DataW.Trod enc P w base spare held t4 v4 d4 p4 := by
  obtain ⟨v, vs, d, ds', p, q, hargs, rfl, rfl, hd, h⟩ := trodAll_cons h
  obtain ⟨v1, vs1, d1, ds1, p1, q1, rfl, rfl, rfl, hd1, h⟩ := trodAll_cons h
  obtain ⟨v2, vs2, d2, ds2, p2, q2, rfl, rfl, rfl, hd2, h⟩ := trodAll_cons h
  obtain ⟨v3, vs3, d3, ds3, p3, q3, rfl, rfl, rfl, hd3, h⟩ := trodAll_cons h
  obtain ⟨v4, vs4, d4, ds4, p4, q4, rfl, rfl, rfl, hd4, h⟩ := trodAll_cons h
  obtain ⟨rfl, rfl, rfl⟩ := trodAll_nil h
  exact ⟨v, v1, v2, v3, v4, d, d1, d2, d3, d4, p, p1, p2, p3, p4, by cases args; simp_all, rfl, by simp, hd, hd1, hd2, hd3, hd4⟩
theorem trodAll_six {t t1 t2 t3 t4 t5 : TypeId} {args : Array Value} {ds : List (DataW H)} {ps : List MemPlace} (h : DataW.TrodAll enc P w base spare held [t, t1, t2, t3, t4, t5] args.toList ds ps) :
    ∃ v v1 v2 v3 v4 v5 d d1 d2 d3 d4 d5 p p1 p2 p3 p4 p5, args = #[v, v1, v2, v3, v4, v5] ∧ ds = [d, d1, d2, d3, d4, d5] ∧ ps = p ++ p1 ++ p2 ++ p3 ++ p4 ++ p5 ∧ DataW.Trod enc P w base spare held t v d p ∧ DataW.Trod enc P w base spare held t1 v1 d1 p1 ∧ DataW.Trod enc P w base spare held t2 v2 d2 p2 ∧ DataW.Trod enc P w base spare held t3 v3 d3 p3 ∧ DataW.Trod enc P w base spare held t4 v4 d4 p4 ∧ DataW.Trod enc P w base spare held t5 v5 d5 p5 := by
  obtain ⟨v, vs, d, ds', p, q, hargs, rfl, rfl, hd, h⟩ := trodAll_cons h
  obtain ⟨v1, vs1, d1, ds1, p1, q1, rfl, rfl, rfl, hd1, h⟩ := trodAll_cons h
  obtain ⟨v2, vs2, d2, ds2, p2, q2, rfl, rfl, rfl, hd2, h⟩ := trodAll_cons h
  obtain ⟨v3, vs3, d3, ds3, p3, q3, rfl, rfl, rfl, hd3, h⟩ := trodAll_cons h
  obtain ⟨v4, vs4, d4, ds4, p4, q4, rfl, rfl, rfl, hd4, h⟩ := trodAll_cons h
  obtain ⟨v5, vs5, d5, ds5, p5, q5, rfl, rfl, rfl, hd5, h⟩ := trodAll_cons h
  obtain ⟨rfl, rfl, rfl⟩ := trodAll_nil h
  exact ⟨v, v1, v2, v3, v4, v5, d, d1, d2, d3, d4, d5, p, p1, p2, p3, p4, p5, by cases args; simp_all, rfl, by simp, hd, hd1, hd2, hd3, hd4, hd5⟩
theorem trodAll_mk5 {t t1 t2 t3 t4 : TypeId} {v v1 v2 v3 v4 : Value} {d d1 d2 d3 d4 : DataW H} {p p1 p2 p3 p4 : List MemPlace} (h : DataW.Trod enc P w base spare held t v d p) (h1 : DataW.Trod enc P w base spare held t1 v1 d1 p1)
    (h2 : DataW.Trod enc P w base spare held t2 v2 d2 p2) (h3 : DataW.Trod enc P w base spare held t3 v3 d3 p3) (h4 : DataW.Trod enc P w base spare held t4 v4 d4 p4) : DataW.TrodAll enc P w base spare held [t, t1, t2, t3, t4] [v, v1, v2, v3, v4] [d, d1, d2, d3, d4] (p ++ (p1 ++ (p2 ++ (p3 ++ p4)))) := ⟨p, _, h, trodAll_mk4 h1 h2 h3 h4, rfl⟩
theorem trodAll_mk6 {t t1 t2 t3 t4 t5 : TypeId} {v v1 v2 v3 v4 v5 : Value} {d d1 d2 d3 d4 d5 : DataW H} {p p1 p2 p3 p4 p5 : List MemPlace} (h : DataW.Trod enc P w base spare held t v d p) (h1 : DataW.Trod enc P w base spare held t1 v1 d1 p1)
    (h2 : DataW.Trod enc P w base spare held t2 v2 d2 p2) (h3 : DataW.Trod enc P w base spare held t3 v3 d3 p3) (h4 : DataW.Trod enc P w base spare held t4 v4 d4 p4) (h5 : DataW.Trod enc P w base spare held t5 v5 d5 p5) : DataW.TrodAll enc P w base spare held [t, t1, t2, t3, t4, t5] [v, v1, v2, v3, v4, v5] [d, d1, d2, d3, d4, d5] (p ++ (p1 ++ (p2 ++ (p3 ++ (p4 ++ p5))))) := ⟨p, _, h, trodAll_mk5 h1 h2 h3 h4 h5, rfl⟩
end
/-- What is done to a clock. -/
structure Do where
  kind : Int
  n : Int
  s : St
instance : Inhabited Do := ⟨⟨0, 0, St.zero⟩⟩
structure Do.wf (p : Do) : Prop where
  n : -9223372036854775808 ≤ p.n ∧ p.n < 9223372036854775808
  s : p.s.wf
/-- An operation's cells. -/
structure OAt (w : World) (b o : Nat) (p : Do) : Prop where
  c0 : w.cell? ⟨b, o, none⟩ = some (.int .i64 p.kind)
  c1 : w.cell? ⟨b, o + 1, none⟩ = some (.int .i64 p.n)
  c2 : w.cell? ⟨b, o + 2, none⟩ = some (.int .i64 p.s.w)
  c3 : w.cell? ⟨b, o + 2 + 1, none⟩ = some (.int .i64 p.s.l)
  c4 : w.cell? ⟨b, o + 2 + 2, none⟩ = some (.int .i64 p.s.n)
/-- A slice of operations that came in. -/
structure SO (B : Nat) (w : World) (ao : Option Addr) (n cap : Nat) (l : List Do) : Prop where
  len : n = l.length
  le : n ≤ cap
  max : cap ≤ maxLen
  wf : ∀ p ∈ l, p.wf
  cells : n = 0 ∨ ∃ b off, ao = some ⟨b, off, none⟩ ∧ b < B ∧ ∀ i (h : i < l.length), OAt w b (off + i * 5) l[i]
theorem SO.below {B : Nat} {w w' : World} {ao : Option Addr} {n cap : Nat} {l : List Do} (h : SO B w ao n cap l) (hb : Below B w w') : SO B w' ao n cap l := by
  refine ⟨h.len, h.le, h.max, h.wf, ?_⟩
  rcases h.cells with h0 | ⟨b, off, rfl, hB, hc⟩
  · exact .inl h0
  · exact .inr ⟨b, off, rfl, hB, fun i hi => ⟨(hb.cell (p := ⟨b, off + i * 5, none⟩) hB).trans (hc i hi).c0, (hb.cell (p := ⟨b, off + i * 5 + 1, none⟩) hB).trans (hc i hi).c1, (hb.cell (p := ⟨b, off + i * 5 + 2, none⟩) hB).trans (hc i hi).c2, (hb.cell (p := ⟨b, off + i * 5 + 2 + 1, none⟩) hB).trans (hc i hi).c3, (hb.cell (p := ⟨b, off + i * 5 + 2 + 2, none⟩) hB).trans (hc i hi).c4⟩⟩
theorem SO.lt {B : Nat} {w : World} {ao : Option Addr} {n cap : Nat} {l : List Do} (h : SO B w ao n cap l) : n ≤ 9223372036854775807 := by have := h.le; have := h.max; unfold maxLen at this; omega
theorem SO.at_ {B : Nat} {w : World} {ao : Option Addr} {n cap : Nat} {l : List Do} (h : SO B w ao n cap l) {i : Nat} (hi : i < l.length) : ∃ b off, ao = some ⟨b, off, none⟩ ∧ b < B ∧ OAt w b (off + i * 5) l[i] ∧ l[i].wf := by
  have hn := h.len
  rcases h.cells with h0 | ⟨b, off, rfl, hB, hc⟩
  · omega
  · exact ⟨b, off, rfl, hB, hc i hi, h.wf _ (List.getElem_mem _)⟩
section
variable {H : Type} {enc : TypeId × Value → H} {w : World} {base : Nat} {held : Bool}
set_option maxRecDepth 100000 in
theorem op_cells {n : Nat} {b o : Nat} {cs : List Value} {y : DataW H × List MemPlace} (h1 : w.cells? base ⟨b, o, none⟩ 5 = some cs) (h : DataW.trod enc Tryd.prog w base (fun _ => true) held n 44 cs = some y) :
    ∃ p : Do, p.wf ∧ OAt w b o p := by
  obtain ⟨_, hlen, hcell⟩ := World.cells?_some h1
  obtain ⟨xs, k, hk, hxy, _, hxl, hf⟩ := DataW.trod_struct Tryd.underlying44 h
  match xs, hxl, cs, hlen with
  | [y0, y1, y2], _, [v0, v1, v2, v3, v4], _ =>
    have g0 := hf 0 _ rfl
    have g1 := hf 1 _ rfl
    have g2 := hf 2 _ rfl
    have q0 : Tryd.prog.cellsOf 3 = 1 := by kernel_rfl
    have q1 : Tryd.prog.cellsOf 23 = 3 := by kernel_rfl
    simp [q0, q1] at g0 g1 g2
    obtain ⟨xs2, k2, hk2, hxy2, _, hxl2, hf2⟩ := DataW.trod_struct Tryd.underlying23 g2
    match xs2, hxl2 with
    | [z0, z1, z2], _ =>
      have r0 := hf2 0 _ rfl
      have r1 := hf2 1 _ rfl
      have r2 := hf2 2 _ rfl
      simp [q0] at r0 r1 r2
      have e0 := hcell 0 (by omega)
      have e1 := hcell 1 (by omega)
      have e2 := hcell 2 (by omega)
      have e3 := hcell 3 (by omega)
      have e4 := hcell 4 (by omega)
      rw [add_plain] at e0 e1 e2 e3 e4
      obtain ⟨k0, f0, rfl, wf0⟩ := DataW.trod_int Tryd.underlying3 g0
      obtain ⟨k1, f1, rfl, wf1⟩ := DataW.trod_int Tryd.underlying3 g1
      obtain ⟨k2, f2, rfl, wf2⟩ := DataW.trod_int Tryd.underlying3 r0
      obtain ⟨k3, f3, rfl, wf3⟩ := DataW.trod_int Tryd.underlying3 r1
      obtain ⟨k4, f4, rfl, wf4⟩ := DataW.trod_int Tryd.underlying3 r2
      simp at f0 f1 f2 f3 f4
      subst f0 f1 f2 f3 f4
      simp [Lit.wf, IntKind.min, IntKind.max, IntKind.signed, IntKind.bits] at wf0 wf1 wf2 wf3 wf4
      exact ⟨⟨k0, k1, ⟨k2, k3, k4⟩⟩, ⟨⟨by simp only; omega, by simp only; omega⟩, ⟨by simp only; omega, by simp only; omega⟩, ⟨by simp only; omega, by simp only; omega⟩, ⟨by simp only; omega, by simp only; omega⟩⟩, by simpa using e0, by simpa using e1, by simpa using e2, by simpa [Nat.add_assoc] using e3, by simpa [Nat.add_assoc] using e4⟩
set_option maxRecDepth 100000 in
theorem open_so {fuel : Nat} {v : Value} {x : DataW H × List MemPlace} (h : DataW.trod enc Tryd.prog w base (fun _ => true) held fuel 36 [v] = some x) :
    ∃ ao cap l, v = .slice ao l.length cap ∧ SO w.heap.size w ao l.length cap l := by
  rcases open_slice Tryd.underlying36 h with ⟨h0, _⟩ | ⟨a, len, cap, m, n, D, Pl, h0, hb, hl, hm, hmm, rfl, hx⟩
  · exact ⟨none, 0, [], by simpa using h0, rfl, Nat.le_refl _, by decide, fun _ h => (nomatch h), .inl rfl⟩
  simp only [if_true] at hmm
  subst hmm
  have q : Tryd.prog.cellsOf 44 = 5 := by kernel_rfl
  rw [q] at hx
  obtain ⟨b, o, spot⟩ := a
  by_cases h1 : len = 0
  · subst h1
    exact ⟨some ⟨b, o, spot⟩, m, [], by simpa using h0, rfl, Nat.zero_le _, hm, fun _ h => (nomatch h), .inl rfl⟩
  have hspot : spot = none := by
    obtain ⟨cs, h2, _⟩ := hx 0 (by omega)
    obtain ⟨_, hlen, hcell⟩ := World.cells?_some h2
    have := hcell 0 (by omega)
    match cs, hlen with
    | v0 :: _, _ => simpa [Addr.add] using World.cell?_spot (show w.cell? _ = some v0 from this)
  subst hspot
  obtain ⟨R, hR⟩ := choose_lt (α := Do) (n := m) (p := fun i r => r.wf ∧ OAt w b (o + i * 5) r) (fun i hi => by
    obtain ⟨cs, h2, h3⟩ := hx i hi
    rw [add_plain] at h2
    exact op_cells h2 h3)
  have hlen : ((List.range len).map R).length = len := by simp
  refine ⟨some ⟨b, o, none⟩, m, (List.range len).map R, by simpa using h0, rfl, by rw [hlen]; exact hl, hm, ?_, .inr ⟨b, o, rfl, ?_, fun i hi => ?_⟩⟩
  · intro r hr
    obtain ⟨i, hi, rfl⟩ := List.mem_map.1 hr
    exact (hR i (by have := List.mem_range.1 hi; omega)).1
  · exact World.block_lt_of_cell? _ _ (hR 0 (by omega)).2.c0
  · have hi' : i < len := by simpa using hi
    rw [List.getElem_map, List.getElem_range]
    exact (hR i (by omega)).2
end
end Go.Proofs.YtmpokhjchbaleaaDoor
