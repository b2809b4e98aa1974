/- What each row's own condition gives the walks (the listed tables), and the start that fits. Conditions: none of its own. -/
import Derived.Test.YtbgccaconhmbaaaGreatDoorRows
import Derived.Test.YtbgccaconhmbaaaGreatDoorTie
import Derived.Test.YtbgccaconhmbaaaGreatDoorJPa
import Derived.ProofKit
import Derived.LaidMore
import Derived.OpenShut
import Derived.Stop.Joined
import Derived.WalkLawsBesides
import Derived.Below
import Derived.ChangeSame
namespace Go.Proofs.YtbgccaconhmbaaaGreatDoor
open Go.ChangeShapes Go.WideShapes Go.ChangeAt Go.RowKit

section
variable {H : Type} {enc : TypeId × Value → H} {P : Program}
theorem post_of_below {f : Func} {s : ChangeSpec} {apart fresh handsOn again : Bool} {W W' : World} {args : Array Value} {v : Value} {ds gs : List (DataW H)} {before pa pv : List MemPlace}
    (hW : DataW.Whole enc P f.params.toList s.vars apart W args.toList ds gs before)
    (hres : ∀ (b : Nat) (sp : Nat → Bool) (hd : Bool), DataW.TrodAll enc P W' b sp hd f.resultTypes.toList (v.resultList f.resultTypes.size) (s.fn H (ds ++ gs)).results [])
    (hargs : ∀ sp : Nat → Bool, (∀ p ∈ before, sp p.block = true) → DataW.TrodAll enc P W' 0 sp true f.params.toList args.toList (s.fn H (ds ++ gs)).args pa)
    (hvars : ∀ sp : Nat → Bool, (∀ p ∈ before, sp p.block = true) → DataW.TrodVars enc P W' sp s.vars (s.fn H (ds ++ gs)).vars pv)
    (hps : before = pa ++ pv) (hb : Below W.heap.size W W')
    (hok : ∀ (j : Nat) (t : TypeId) (r : Value), f.resultTypes[j]? = some t → (v.resultList f.resultTypes.size)[j]? = some r → Value.okWide P W' .any 0 t r) :
    s.post enc P f apart fresh handsOn again W args v W' := by
  have hlt : ∀ p ∈ before, p.block < W.heap.size := fun p hp => hW.lt p hp
  have hold : ∀ p ∈ before, (fun b => decide (b < W.heap.size)) p.block = true := fun p hp => by simpa using hlt p hp
  refine ⟨ds, gs, before, [], pa, pv, hW, hres _ _ _, hargs _ hold, hvars _ hold, World.keptBut_mono (fun p hp => ⟨hp, ?_⟩) (hb.frame (· ∈ before)), fun _ => ?_⟩
  · rw [hps, List.mem_append] at hp
    exact Or.inr hp
  · obtain ⟨_, _, _, _, _, hz, hn⟩ := hW
    refine ⟨hok, _, _, ([] ++ pa) ++ pv, ⟨[] ++ pa, pv, trodAll_append (hargs _ (fun _ _ => rfl)) (hres _ _ _), hvars _ (fun _ _ => rfl), rfl, ?_, ?_⟩, ?_⟩
    · intro b off hp
      have hin : MemPlace.cell b off ∈ before := by rw [hps]; simpa using hp
      rw [hb.frozen (hlt _ hin)]
      exact hz b off hin
    · intro ha
      have := hn ha
      rw [hps] at this
      simpa using this
    · intro p hp _
      rw [hps]
      simpa using hp
end
theorem own : ownKnob Tryz.prog.godebug = none := by kernel_rfl
theorem gDe32 : Tryz.prog.globalNamed "math/bits.deBruijn32tab" = some 7 := by kernel_rfl
theorem gDe64 : Tryz.prog.globalNamed "math/bits.deBruijn64tab" = some 5 := by kernel_rfl
theorem gPow : Tryz.prog.globalNamed "internal/strconv.uint64pow10" = some 6 := by kernel_rfl
theorem gStp : Tryz.prog.globalNamed "headrace/prog.steps" = some 0 := by kernel_rfl
theorem tDe64 : (Tryz.prog.globals[5]?).map (·.type) = some 214 := by kernel_rfl
theorem tPow : (Tryz.prog.globals[6]?).map (·.type) = some 223 := by kernel_rfl
theorem tStp : (Tryz.prog.globals[0]?).map (·.type) = some 107 := by kernel_rfl

def stepD (H : Type) (n : Nat) : DataW H := match n with
  | 0 => .agg [.lit (.string []), .lit (.int .i64 0), .lit (.int .i64 0), .lit (.int .i64 0)]
  | n + 1 => .agg [.lit (.string (wordC (n + 1))), .lit (.int .i64 (nmsC ((n + 1 : Nat) : Int))), .lit (.int .i64 (popC ((n + 1 : Nat) : Int) : Nat)), .lit (.int .i64 (pushC ((n + 1 : Nat) : Int) : Nat))]
theorem laidStp_eq : (Rows.laid_headrace_prog_steps : DataW Unit) = .agg ((List.range 16).map (stepD Unit)) := by kernel_rfl
section
variable {enc : TypeId × Value → Unit} {w : World} {base : Nat} {spare : Nat → Bool} {held : Bool}
set_option maxRecDepth 100000 in
theorem step_cells {m : Nat} {cs : List Value} {a : List UInt8} {b c d : Int} {p : List MemPlace} (h : DataW.trod enc Tryz.prog w base spare held m 65 cs = some (.agg [.lit (.string a), .lit (.int .i64 b), .lit (.int .i64 c), .lit (.int .i64 d)], p)) :
    cs = [.string ⟨a.toArray⟩, .int .i64 b, .int .i64 c, .int .i64 d] := by
  obtain ⟨xs, k, rfl, hxy, hlen, hxl, hf⟩ := DataW.trod_struct Tryz.underlying65 h
  have q : Tryz.prog.cellsOf 65 = 4 := by kernel_rfl
  rw [q] at hlen
  match xs, hxl, cs, hlen with
  | [y0, y1, y2, y3], _, [v0, v1, v2, v3], _ =>
    have g0 := hf 0 _ rfl
    have g1 := hf 1 _ rfl
    have g2 := hf 2 _ rfl
    have g3 := hf 3 _ rfl
    have q0 : Tryz.prog.cellsOf 3 = 1 := by kernel_rfl
    have q1 : Tryz.prog.cellsOf 9 = 1 := by kernel_rfl
    simp [q0, q1] at g0 g1 g2 g3
    obtain ⟨s0, f0, rfl, _⟩ := DataW.trod_string Tryz.underlying9 g0
    obtain ⟨k1, f1, rfl, _⟩ := DataW.trod_int Tryz.underlying3 g1
    obtain ⟨k2, f2, rfl, _⟩ := DataW.trod_int Tryz.underlying3 g2
    obtain ⟨k3, f3, rfl, _⟩ := DataW.trod_int Tryz.underlying3 g3
    simp at f0 f1 f2 f3 hxy
    obtain ⟨⟨e0, e1, e2, e3⟩, _⟩ := hxy
    subst f0 f1 f2 f3 e1 e2 e3
    rw [e0]
set_option maxRecDepth 100000 in
theorem steps_cells {m : Nat} {cs : List Value} {p : List MemPlace} (h : DataW.trod enc Tryz.prog w base spare held m 107 cs = some (Rows.laid_headrace_prog_steps, p)) :
    (∀ n, 1 ≤ n → n < 16 → cs[n * 4]? = some (.string ⟨(wordC n).toArray⟩) ∧ cs[n * 4 + 1]? = some (.int .i64 (nmsC n)) ∧ cs[n * 4 + 2]? = some (.int .i64 (popC n : Nat)) ∧ cs[n * 4 + 3]? = some (.int .i64 (pushC n : Nat))) ∧
      cs[0]? = some (.string ⟨#[]⟩) ∧ cs[1]? = some (.int .i64 0) ∧ cs[2]? = some (.int .i64 0) ∧ cs[3]? = some (.int .i64 0) := by
  obtain ⟨xs, k, rfl, hxy, hlen, hxl, hf⟩ := DataW.trod_array Tryz.underlying107 h
  have q : Tryz.prog.cellsOf 65 = 4 := by kernel_rfl
  rw [q] at hf
  rw [laidStp_eq] at hxy
  injection hxy with hxy _
  injection hxy with hxy
  have key : ∀ n, n < 16 → ∃ y p, y = stepD Unit n ∧ DataW.trod enc Tryz.prog w base spare held k 65 ((cs.drop (n * 4)).take 4) = some (y, p) := fun n hn => by
    have h1 := hf n hn
    have h2 := congrArg (fun l : List (DataW Unit) => l[n]?) hxy
    simp only [List.getElem?_map] at h2
    rw [List.getElem?_range hn, Option.map_some] at h2
    cases hx : xs[n]? with
    | none => rw [hx] at h2; cases h2
    | some z =>
      rw [hx] at h1 h2
      obtain ⟨y, p⟩ := z
      exact ⟨y, p, (Option.some.inj h2).symm, h1⟩
  have cut : ∀ n j a, ((cs.drop (n * 4)).take 4) = a → j < 4 → cs[n * 4 + j]? = a[j]? := fun n j a e hj => by
    rw [← e, List.getElem?_take, if_pos hj, List.getElem?_drop]
  refine ⟨fun n h1 h2 => ?_, ?_⟩
  · obtain ⟨y, p, rfl, hy⟩ := key n h2
    match n, h1 with
    | n + 1, _ =>
      have e := step_cells hy
      exact ⟨cut _ 0 _ e (by omega), cut _ 1 _ e (by omega), cut _ 2 _ e (by omega), cut _ 3 _ e (by omega)⟩
  · obtain ⟨y, p, rfl, hy⟩ := key 0 (by omega)
    have e := step_cells hy
    exact ⟨cut 0 0 _ e (by omega), cut 0 1 _ e (by omega), cut 0 2 _ e (by omega), cut 0 3 _ e (by omega)⟩
end

abbrev laid9 : List (String × DataW Unit) := [("math/bits.deBruijn32tab", Rows.laid_math_bits_deBruijn32tab), ("math/bits.deBruijn64tab", Rows.laid_math_bits_deBruijn64tab), ("internal/strconv.uint64pow10", Rows.laid_internal_strconv_uint64pow10), ("unicode/utf8.acceptRanges", Rows.laid_unicode_utf8_acceptRanges), ("headrace/prog.steps", Rows.laid_headrace_prog_steps), ("unicode/utf8.first", Rows.laid_unicode_utf8_first)]

/-- The door's own heap, with the library's pinned table laid in it, meets the condition. -/
theorem door_met (os : Os) (args : Array Value) : laidMetH Tryz.prog laid9 (({ World.doorLaid Tryz.prog 400 os with heap := (World.doorLaid Tryz.prog 400 os).heap.setIfInBounds 3 (.cells (Pinned.utf8FirstZ.map fun x : Nat => Value.int .u8 (x : Int)).toArray 209) } : World).forCall (fun _ _ => 0) ⟨#[], args, []⟩).memory :=
  laidMetH_of_parts3 (fuel := 8) (laidMet_of_run' 8 (by kernel_rfl) (by kernel_rfl)) (by kernel_rfl) (by kernel_rfl)

theorem laid64_eq : (Rows.laid_math_bits_deBruijn64tab : DataW Unit) = Lib.tabData .u8 (Lib.deBruijn64tab.map fun x : Nat => (x : Int)) := by kernel_rfl
theorem laidPow_eq : (Rows.laid_internal_strconv_uint64pow10 : DataW Unit) = Lib.tabData .u64 Lib.pow10Tab := by kernel_rfl

/-- WHAT THE CONDITION GIVES THE WALKS. -/
theorem tabs_of_laid {W : World} (h : laidMetH Tryz.prog laid9 W) : Tabs W ∧ Stp W := by
  rw [MakeChecks.laidMetH_plain _ _ _ (by kernel_rfl)] at h
  obtain ⟨ps, ⟨g0, t0, cs0, f0, p0, q0, hg0, ht0, hv0, hd0, ⟨g1, t1, cs1, f1, p1, q1, hg1, ht1, hv1, hd1, ⟨g2, t2, cs2, f2, p2, q2, hg2, ht2, hv2, hd2, ⟨g3, t3, cs3, f3, p3, q3, hg3, ht3, hv3, hd3, ⟨g4, t4, cs4, f4, p4, q4, hg4, ht4, hv4, hd4, ⟨g5, t5, cs5, f5, p5, q5, hg5, ht5, hv5, hd5, _, _⟩, _⟩, _⟩, _⟩, _⟩, _⟩, _, _⟩ := h
  obtain rfl := Option.some.inj (gDe64.symm.trans hg1)
  obtain rfl := Option.some.inj (gPow.symm.trans hg2)
  obtain rfl := Option.some.inj (gStp.symm.trans hg4)
  obtain rfl := Option.some.inj (tDe64.symm.trans ht1)
  obtain rfl := Option.some.inj (tPow.symm.trans ht2)
  obtain rfl := Option.some.inj (tStp.symm.trans ht4)
  rw [laid64_eq] at hd1
  rw [laidPow_eq] at hd2
  have c1 := Lib.cells_of_tab Tryz.underlying214 Tryz.underlying5 (by kernel_rfl) (by kernel_rfl) hd1
  have c2 := Lib.cells_of_tab Tryz.underlying223 Tryz.underlying143 (by kernel_rfl) (by kernel_rfl) hd2
  refine ⟨⟨?_, fun j hj => ?_⟩, ?_⟩
  · unfold Lib.TabIs
    rw [hv2, ← c2]
  · have := World.var?_cell hg1 hv1 j
    rw [this]
    have e : cs1 = (Lib.deBruijn64tab.map fun x : Nat => Value.int .u8 (x : Int)).toArray := by
      have := congrArg List.toArray c1
      rw [List.map_map] at this
      simpa [Function.comp_def] using this
    rw [e]
    simp [List.getD, hj]
  · obtain ⟨hc, z0, z1, z2, z3⟩ := steps_cells hd4
    have hcell : ∀ i v, cs4.toList[i]? = some v → W.cell? ⟨0, i, none⟩ = some v := fun i v hv => by
      rw [World.var?_cell hg4 hv4 i, ← Array.getElem?_toList]
      exact hv
    have hlt : 0 < W.heap.size := World.block_lt_of_cell? _ _ (hcell 0 _ z0)
    exact ⟨hlt, fun n h1 h2 => hcell _ _ (hc n h1 h2).1, fun n h1 h2 => hcell _ _ (hc n h1 h2).2.1, fun n h1 h2 => hcell _ _ (hc n h1 h2).2.2.1, fun n h1 h2 => hcell _ _ (hc n h1 h2).2.2.2, hcell _ _ z0, hcell _ _ z1, hcell _ _ z2, hcell _ _ z3⟩
end Go.Proofs.YtbgccaconhmbaaaGreatDoor
