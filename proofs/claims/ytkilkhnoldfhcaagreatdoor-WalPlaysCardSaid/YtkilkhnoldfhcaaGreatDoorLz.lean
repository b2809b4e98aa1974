/- What each row's own condition gives the walks (the listed table, the two errors), and the start that fits. Conditions: none of its own. -/
import Derived.Test.YtkilkhnoldfhcaaGreatDoorRows
import Derived.Test.YtkilkhnoldfhcaaGreatDoorTie
import Derived.Test.YtkilkhnoldfhcaaGreatDoorLm
import Derived.ProofKit
import Derived.LaidMore
import Derived.OpenShut
import Derived.Stop.Joined
import Derived.WalkLawsBesides
import Derived.Below
import Derived.ChangeSame
namespace Go.Proofs.YtkilkhnoldfhcaaGreatDoor
open Go.ChangeShapes Go.WideShapes Go.ChangeAt Go.RowKit

theorem gPow : Tryz.prog.globalNamed "internal/strconv.uint64pow10" = some 0 := by kernel_rfl
theorem gSyn : Tryz.prog.globalNamed "strconv.ErrSyntax" = some 4 := by kernel_rfl
theorem gRan : Tryz.prog.globalNamed "strconv.ErrRange" = some 5 := by kernel_rfl

theorem tPow : (Tryz.prog.globals[0]?).map (·.type) = some 185 := by kernel_rfl
theorem tSyn : (Tryz.prog.globals[4]?).map (·.type) = some 138 := by kernel_rfl
theorem tRan : (Tryz.prog.globals[5]?).map (·.type) = some 138 := by kernel_rfl
theorem under138 : ∃ ms, Tryz.prog.underlying 138 = some (.interface ms) := ⟨_, Tryz.underlying138⟩
theorem iface_of_trod {H : Type} {enc : TypeId × Value → H} {w : World} {sp : Nat → Bool} {held : Bool} {f : Nat} {cs : List Value} {x : DataW H × List MemPlace} (h : DataW.trod enc Tryz.prog w 0 sp held f 138 cs = some x) : ∃ v, cs = [v] ∧ (v = .nilIface ∨ ∃ te pe, v = .iface te pe) := by
  obtain ⟨ms, hu⟩ := under138
  cases f with
  | zero => cases h
  | succ f =>
    unfold DataW.trod at h
    rw [hu] at h
    match cs, h with
    | [], h => simp at h
    | [v], h => cases v <;> first | exact ⟨_, rfl, .inl rfl⟩ | exact ⟨_, rfl, .inr ⟨_, _, rfl⟩⟩ | (simp at h)
    | _ :: _ :: _, h => simp at h
theorem cell_of_iface {W : World} {n : String} {g : Nat} {cs : Array Value} (hg : Tryz.prog.globalNamed n = some g) (hv : W.var? Tryz.prog n = some cs) (h : ∃ v, cs.toList = [v] ∧ (v = .nilIface ∨ ∃ te pe, v = .iface te pe)) :
    ∃ ev, W.cell? ⟨g, 0, none⟩ = some ev ∧ (ev = .nilIface ∨ ∃ te pe, ev = .iface te pe) := by
  obtain ⟨v, hc, hk⟩ := h
  refine ⟨v, ?_, hk⟩
  rw [World.var?_cell hg hv 0, ← Array.getElem?_toList, hc]
  rfl

abbrev laid7 : List (String × DataW Unit) := [("math/bits.deBruijn32tab", Rows.laid_math_bits_deBruijn32tab), ("math/bits.deBruijn64tab", Rows.laid_math_bits_deBruijn64tab), ("internal/strconv.uint64pow10", Rows.laid_internal_strconv_uint64pow10), ("strconv.ErrRange", Rows.laid_strconv_ErrRange), ("strconv.ErrSyntax", Rows.laid_strconv_ErrSyntax)]

/-- The door's own heap meets the condition. -/
theorem door_met (os : Os) (args : Array Value) : laidMetH Tryz.prog laid7 ((World.doorLaid Tryz.prog 400 os).forCall (fun _ _ => 0) ⟨#[], args, []⟩).memory :=
  laidMetH_of_parts3 (fuel := 8) (laidMet_of_run' 8 (by kernel_rfl) (by kernel_rfl)) (by kernel_rfl) (by kernel_rfl)

theorem laidPow_eq : (Rows.laid_internal_strconv_uint64pow10 : DataW Unit) = Lib.tabData .u64 Lib.pow10Tab := by kernel_rfl

/-- WHAT THE CONDITION GIVES THE WALKS. -/
theorem tabs_of_laid {W : World} (h : laidMetH Tryz.prog laid7 W) : Tabs W := by
  rw [MakeChecks.laidMetH_plain _ _ _ (by kernel_rfl)] at h
  obtain ⟨ps, ⟨g0, t0, cs0, f0, p0, q0, hg0, ht0, hv0, hd0, ⟨g1, t1, cs1, f1, p1, q1, hg1, ht1, hv1, hd1, ⟨g2, t2, cs2, f2, p2, q2, hg2, ht2, hv2, hd2, ⟨g3, t3, cs3, f3, p3, q3, hg3, ht3, hv3, hd3, ⟨g4, t4, cs4, f4, p4, q4, hg4, ht4, hv4, hd4, _, _⟩, _⟩, _⟩, _⟩, _⟩, _, _⟩ := h
  obtain rfl := Option.some.inj (gPow.symm.trans hg2)
  obtain rfl := Option.some.inj (gRan.symm.trans hg3)
  obtain rfl := Option.some.inj (gSyn.symm.trans hg4)
  obtain rfl := Option.some.inj (tPow.symm.trans ht2)
  obtain rfl := Option.some.inj (tRan.symm.trans ht3)
  obtain rfl := Option.some.inj (tSyn.symm.trans ht4)
  rw [laidPow_eq] at hd2
  have c2 := Lib.cells_of_tab Tryz.underlying185 Tryz.underlying153 (by kernel_rfl) (by kernel_rfl) hd2
  refine ⟨fun w' hb => ?_, cell_of_iface gSyn hv4 (iface_of_trod hd4), cell_of_iface gRan hv3 (iface_of_trod hd3)⟩
  have e : w'.var? Tryz.prog "internal/strconv.uint64pow10" = W.var? Tryz.prog "internal/strconv.uint64pow10" := by
    unfold World.var?
    rw [gPow]
    simp only [Option.bind_some]
    rw [hb.block 0 (by decide)]
  unfold Lib.TabIs
  rw [e, hv2, ← c2]
end Go.Proofs.YtkilkhnoldfhcaaGreatDoor
