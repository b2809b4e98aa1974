/-
  No cell of these rows narrows 'for every input' (looked for: loops, veiled, ifaces, maps, wideKeys, modest, calm, conditions, laid).
  DERIVED. THE GIVEN ROWS OF THIS SEAT. 8 by the template 'for every input the law returns true; each argument reads behind the call as it read before'; 0 by the template 'total and deterministic' (their statements: YtioopibmpcbcjaaTotals.lean).
  GIVEN WITH THE SEED: the statements are not yours to turn. If you find one false, say at which input.
  Laid BY PROGRAM, IN A SANDBOX (cutbox-rows.mjs): the forced cells as the released guide's own fill.sh prints them over the translation 954304d49359dd33… (all of the seat's roots in one cut). By AI agents, Wed Nov 11 2026. No macro, syntax, notation, axiom, sorry.
-/
import Derived.Test.YtioopibmpcbcjaaChecked
import GoSem.Claim
import GoSem.ClaimJoined
import GoSem.ClaimMapViews
import Derived.JoinedTies
import Derived.KernelRfl
namespace Go.Proofs.Ytioopibmpcbcjaa
/- THE CELL 'sum', in the pinned program and in every row, IS THE sha256 OF THE DUMP (.gsa) THAT YtioopibmpcbcjaaProg.lean LOADS. Nothing in Lean hashes anything: it is a label: what it is worth is what the hold of that sum in a sandbox is worth. -/
noncomputable def Try.pinned : Pinned := { name := "ytioopibmpcbcjaa", sum := "954304d49359dd33b3166ba9bdccdcadc993d09f67ffc93f3f22d6db4bf7b5ea", checked := Try.checked }
namespace Rows
def none {H : Type} : Left H := { results := [], args := [] }

/-- 'racelaw2.WireWrites': WHATEVER THE INPUT: true; the input reads as it did. -/
def wireWritesSpec : ChangeSpec := { name := "wireWrites", fn := fun _ => fun
  | [d] => { results := [.lit (.bool true)], args := [d] }
  | _ => none }
def wireWritesRow : OpenClaim := { program := "ytioopibmpcbcjaa", sum := "954304d49359dd33b3166ba9bdccdcadc993d09f67ffc93f3f22d6db4bf7b5ea", func := "headrace/racelaw2.WireWrites", spec := "wireWrites", inPlace := ["math.Float64frombits", "math.Float64bits"], apart := false }
def WireWritesSaid : Prop := wireWritesRow.holds Try.pinned (OpenSpec.ofChange wireWritesSpec)

/-- ITS FALSE NEIGHBOUR: 'it returns false'. Refute it at one input. -/
def wireWritesWrong : ChangeSpec := { name := "wireWrites", fn := fun _ => fun
  | [d] => { results := [.lit (.bool false)], args := [d] }
  | _ => none }
def WireWritesWrongFalsely : Prop := wireWritesRow.holds Try.pinned (OpenSpec.ofChange wireWritesWrong)

/-- 'racelaw2.WireReads': WHATEVER THE INPUT: true; the input reads as it did. -/
def wireReadsSpec : ChangeSpec := { name := "wireReads", fn := fun _ => fun
  | [d1, d2] => { results := [.lit (.bool true)], args := [d1, d2] }
  | _ => none }
def wireReadsRow : OpenClaim := { program := "ytioopibmpcbcjaa", sum := "954304d49359dd33b3166ba9bdccdcadc993d09f67ffc93f3f22d6db4bf7b5ea", func := "headrace/racelaw2.WireReads", spec := "wireReads", inPlace := ["math.Float64frombits", "math.Float64bits"], apart := false }
def WireReadsSaid : Prop := wireReadsRow.holds Try.pinned (OpenSpec.ofChange wireReadsSpec)

/-- ITS FALSE NEIGHBOUR: 'it returns false'. Refute it at one input. -/
def wireReadsWrong : ChangeSpec := { name := "wireReads", fn := fun _ => fun
  | [d1, d2] => { results := [.lit (.bool false)], args := [d1, d2] }
  | _ => none }
def WireReadsWrongFalsely : Prop := wireReadsRow.holds Try.pinned (OpenSpec.ofChange wireReadsWrong)

/-- 'racelaw2.WireBack': WHATEVER THE INPUT: true; the input reads as it did. -/
def wireBackSpec : ChangeSpec := { name := "wireBack", fn := fun _ => fun
  | [d1, d2] => { results := [.lit (.bool true)], args := [d1, d2] }
  | _ => none }
def wireBackRow : OpenClaim := { program := "ytioopibmpcbcjaa", sum := "954304d49359dd33b3166ba9bdccdcadc993d09f67ffc93f3f22d6db4bf7b5ea", func := "headrace/racelaw2.WireBack", spec := "wireBack", inPlace := ["math.Float64frombits", "math.Float64bits"], apart := false }
def WireBackSaid : Prop := wireBackRow.holds Try.pinned (OpenSpec.ofChange wireBackSpec)

/-- ITS FALSE NEIGHBOUR: 'it returns false'. Refute it at one input. -/
def wireBackWrong : ChangeSpec := { name := "wireBack", fn := fun _ => fun
  | [d1, d2] => { results := [.lit (.bool false)], args := [d1, d2] }
  | _ => none }
def WireBackWrongFalsely : Prop := wireBackRow.holds Try.pinned (OpenSpec.ofChange wireBackWrong)

/-- 'racelaw2.WireOne': WHATEVER THE INPUT: true; the input reads as it did. -/
def wireOneSpec : ChangeSpec := { name := "wireOne", fn := fun _ => fun
  | [d1, d2] => { results := [.lit (.bool true)], args := [d1, d2] }
  | _ => none }
def wireOneRow : OpenClaim := { program := "ytioopibmpcbcjaa", sum := "954304d49359dd33b3166ba9bdccdcadc993d09f67ffc93f3f22d6db4bf7b5ea", func := "headrace/racelaw2.WireOne", spec := "wireOne", inPlace := ["math.Float64frombits", "math.Float64bits"], apart := false }
def WireOneSaid : Prop := wireOneRow.holds Try.pinned (OpenSpec.ofChange wireOneSpec)

/-- ITS FALSE NEIGHBOUR: 'it returns false'. Refute it at one input. -/
def wireOneWrong : ChangeSpec := { name := "wireOne", fn := fun _ => fun
  | [d1, d2] => { results := [.lit (.bool false)], args := [d1, d2] }
  | _ => none }
def WireOneWrongFalsely : Prop := wireOneRow.holds Try.pinned (OpenSpec.ofChange wireOneWrong)

/-- 'racelaw2.WireStops': WHATEVER THE INPUT: true; the input reads as it did. -/
def wireStopsSpec : ChangeSpec := { name := "wireStops", fn := fun _ => fun
  | [d1, d2, d3] => { results := [.lit (.bool true)], args := [d1, d2, d3] }
  | _ => none }
def wireStopsRow : OpenClaim := { program := "ytioopibmpcbcjaa", sum := "954304d49359dd33b3166ba9bdccdcadc993d09f67ffc93f3f22d6db4bf7b5ea", func := "headrace/racelaw2.WireStops", spec := "wireStops", inPlace := ["math.Float64frombits", "math.Float64bits"], apart := false }
def WireStopsSaid : Prop := wireStopsRow.holds Try.pinned (OpenSpec.ofChange wireStopsSpec)

/-- ITS FALSE NEIGHBOUR: 'it returns false'. Refute it at one input. -/
def wireStopsWrong : ChangeSpec := { name := "wireStops", fn := fun _ => fun
  | [d1, d2, d3] => { results := [.lit (.bool false)], args := [d1, d2, d3] }
  | _ => none }
def WireStopsWrongFalsely : Prop := wireStopsRow.holds Try.pinned (OpenSpec.ofChange wireStopsWrong)

/-- 'racelaw2.WireSizes': WHATEVER THE INPUT: true; the input reads as it did. -/
def wireSizesSpec : ChangeSpec := { name := "wireSizes", fn := fun _ => fun
  | [d1, d2, d3] => { results := [.lit (.bool true)], args := [d1, d2, d3] }
  | _ => none }
def wireSizesRow : OpenClaim := { program := "ytioopibmpcbcjaa", sum := "954304d49359dd33b3166ba9bdccdcadc993d09f67ffc93f3f22d6db4bf7b5ea", func := "headrace/racelaw2.WireSizes", spec := "wireSizes", inPlace := ["math.Float64frombits", "math.Float64bits"], apart := false }
def WireSizesSaid : Prop := wireSizesRow.holds Try.pinned (OpenSpec.ofChange wireSizesSpec)

/-- ITS FALSE NEIGHBOUR: 'it returns false'. Refute it at one input. -/
def wireSizesWrong : ChangeSpec := { name := "wireSizes", fn := fun _ => fun
  | [d1, d2, d3] => { results := [.lit (.bool false)], args := [d1, d2, d3] }
  | _ => none }
def WireSizesWrongFalsely : Prop := wireSizesRow.holds Try.pinned (OpenSpec.ofChange wireSizesWrong)

/-- 'racelaw2.WireApart': WHATEVER THE INPUT: true; the input reads as it did. -/
def wireApartSpec : ChangeSpec := { name := "wireApart", fn := fun _ => fun
  | [d1, d2] => { results := [.lit (.bool true)], args := [d1, d2] }
  | _ => none }
def wireApartRow : OpenClaim := { program := "ytioopibmpcbcjaa", sum := "954304d49359dd33b3166ba9bdccdcadc993d09f67ffc93f3f22d6db4bf7b5ea", func := "headrace/racelaw2.WireApart", spec := "wireApart", inPlace := ["math.Float64frombits", "math.Float64bits"], apart := false }
def WireApartSaid : Prop := wireApartRow.holds Try.pinned (OpenSpec.ofChange wireApartSpec)

/-- ITS FALSE NEIGHBOUR: 'it returns false'. Refute it at one input. -/
def wireApartWrong : ChangeSpec := { name := "wireApart", fn := fun _ => fun
  | [d1, d2] => { results := [.lit (.bool false)], args := [d1, d2] }
  | _ => none }
def WireApartWrongFalsely : Prop := wireApartRow.holds Try.pinned (OpenSpec.ofChange wireApartWrong)

/-- 'racelaw2.WireLeft': WHATEVER THE INPUT: true; the input reads as it did. -/
def wireLeftSpec : ChangeSpec := { name := "wireLeft", fn := fun _ => fun
  | [d1, d2] => { results := [.lit (.bool true)], args := [d1, d2] }
  | _ => none }
def wireLeftRow : OpenClaim := { program := "ytioopibmpcbcjaa", sum := "954304d49359dd33b3166ba9bdccdcadc993d09f67ffc93f3f22d6db4bf7b5ea", func := "headrace/racelaw2.WireLeft", spec := "wireLeft", inPlace := ["math.Float64frombits", "math.Float64bits"], apart := false }
def WireLeftSaid : Prop := wireLeftRow.holds Try.pinned (OpenSpec.ofChange wireLeftSpec)

/-- ITS FALSE NEIGHBOUR: 'it returns false'. Refute it at one input. -/
def wireLeftWrong : ChangeSpec := { name := "wireLeft", fn := fun _ => fun
  | [d1, d2] => { results := [.lit (.bool false)], args := [d1, d2] }
  | _ => none }
def WireLeftWrongFalsely : Prop := wireLeftRow.holds Try.pinned (OpenSpec.ofChange wireLeftWrong)

/- THE SECOND FORM. 'bulk': how many values and letters a reading holds, each counted each time it is reached (what is shared counts as often as it is met; a slice's spare places count too). A statement '..UptoSaid' is the law's where the arguments, and the package variables that the reading takes, are together of bulk at most 1048576: NARROWER than '..Said'. Prove '..Said' where nothing that the law and all that it calls make is longer than what came in: it says more and counts as full. Else prove '..UptoSaid'. A law counts once. -/
mutual
def uptoBulk {H : Type} : DataW H → Nat
  | .lit (.string bytes) => bytes.length + 1
  | .lit _ => 1
  | .nil => 1
  | .ptr d => uptoBulk d + 1
  | .slice elems spare => uptoBulkAll elems + uptoBulkAll spare + 1
  | .agg parts => uptoBulkAll parts + 1
  | .iface _ d => uptoBulk d + 1
  | .map entries => uptoBulkEntries entries + 1
  | .held _ => 1
def uptoBulkAll {H : Type} : List (DataW H) → Nat
  | [] => 0
  | d :: r => uptoBulk d + uptoBulkAll r
def uptoBulkEntries {H : Type} : List (Lit × DataW H) → Nat
  | [] => 0
  | x :: r => uptoBulkEntry x + uptoBulkEntries r
def uptoBulkEntry {H : Type} : Lit × DataW H → Nat
  | (.string bytes, d) => bytes.length + uptoBulk d + 1
  | (_, d) => uptoBulk d + 1
 end
def uptoSmall : (H : Type) → List (DataW H) → Bool := fun _ ds => decide (uptoBulkAll ds ≤ 1048576)
def OpenSpec.upto (s : _root_.Go.ChangeSpec) : _root_.Go.OpenSpec := { _root_.Go.OpenSpec.ofChange s with cond := some uptoSmall }

/-- 'racelaw2.WireWrites', WHERE WHAT IT READS IS OF BULK AT MOST 1048576: true; the input reads as it did. -/
def wireWritesUptoRow : OpenClaim := { program := "ytioopibmpcbcjaa", sum := "954304d49359dd33b3166ba9bdccdcadc993d09f67ffc93f3f22d6db4bf7b5ea", func := "headrace/racelaw2.WireWrites", spec := "wireWrites", inPlace := ["math.Float64frombits", "math.Float64bits"], apart := false, narrowed := true }
def WireWritesUptoSaid : Prop := wireWritesUptoRow.holds Try.pinned (OpenSpec.upto wireWritesSpec)

/-- 'racelaw2.WireReads', WHERE WHAT IT READS IS OF BULK AT MOST 1048576: true; the input reads as it did. -/
def wireReadsUptoRow : OpenClaim := { program := "ytioopibmpcbcjaa", sum := "954304d49359dd33b3166ba9bdccdcadc993d09f67ffc93f3f22d6db4bf7b5ea", func := "headrace/racelaw2.WireReads", spec := "wireReads", inPlace := ["math.Float64frombits", "math.Float64bits"], apart := false, narrowed := true }
def WireReadsUptoSaid : Prop := wireReadsUptoRow.holds Try.pinned (OpenSpec.upto wireReadsSpec)

/-- 'racelaw2.WireBack', WHERE WHAT IT READS IS OF BULK AT MOST 1048576: true; the input reads as it did. -/
def wireBackUptoRow : OpenClaim := { program := "ytioopibmpcbcjaa", sum := "954304d49359dd33b3166ba9bdccdcadc993d09f67ffc93f3f22d6db4bf7b5ea", func := "headrace/racelaw2.WireBack", spec := "wireBack", inPlace := ["math.Float64frombits", "math.Float64bits"], apart := false, narrowed := true }
def WireBackUptoSaid : Prop := wireBackUptoRow.holds Try.pinned (OpenSpec.upto wireBackSpec)

/-- 'racelaw2.WireOne', WHERE WHAT IT READS IS OF BULK AT MOST 1048576: true; the input reads as it did. -/
def wireOneUptoRow : OpenClaim := { program := "ytioopibmpcbcjaa", sum := "954304d49359dd33b3166ba9bdccdcadc993d09f67ffc93f3f22d6db4bf7b5ea", func := "headrace/racelaw2.WireOne", spec := "wireOne", inPlace := ["math.Float64frombits", "math.Float64bits"], apart := false, narrowed := true }
def WireOneUptoSaid : Prop := wireOneUptoRow.holds Try.pinned (OpenSpec.upto wireOneSpec)

/-- 'racelaw2.WireStops', WHERE WHAT IT READS IS OF BULK AT MOST 1048576: true; the input reads as it did. -/
def wireStopsUptoRow : OpenClaim := { program := "ytioopibmpcbcjaa", sum := "954304d49359dd33b3166ba9bdccdcadc993d09f67ffc93f3f22d6db4bf7b5ea", func := "headrace/racelaw2.WireStops", spec := "wireStops", inPlace := ["math.Float64frombits", "math.Float64bits"], apart := false, narrowed := true }
def WireStopsUptoSaid : Prop := wireStopsUptoRow.holds Try.pinned (OpenSpec.upto wireStopsSpec)

/-- 'racelaw2.WireSizes', WHERE WHAT IT READS IS OF BULK AT MOST 1048576: true; the input reads as it did. -/
def wireSizesUptoRow : OpenClaim := { program := "ytioopibmpcbcjaa", sum := "954304d49359dd33b3166ba9bdccdcadc993d09f67ffc93f3f22d6db4bf7b5ea", func := "headrace/racelaw2.WireSizes", spec := "wireSizes", inPlace := ["math.Float64frombits", "math.Float64bits"], apart := false, narrowed := true }
def WireSizesUptoSaid : Prop := wireSizesUptoRow.holds Try.pinned (OpenSpec.upto wireSizesSpec)

/-- 'racelaw2.WireApart', WHERE WHAT IT READS IS OF BULK AT MOST 1048576: true; the input reads as it did. -/
def wireApartUptoRow : OpenClaim := { program := "ytioopibmpcbcjaa", sum := "954304d49359dd33b3166ba9bdccdcadc993d09f67ffc93f3f22d6db4bf7b5ea", func := "headrace/racelaw2.WireApart", spec := "wireApart", inPlace := ["math.Float64frombits", "math.Float64bits"], apart := false, narrowed := true }
def WireApartUptoSaid : Prop := wireApartUptoRow.holds Try.pinned (OpenSpec.upto wireApartSpec)

/-- 'racelaw2.WireLeft', WHERE WHAT IT READS IS OF BULK AT MOST 1048576: true; the input reads as it did. -/
def wireLeftUptoRow : OpenClaim := { program := "ytioopibmpcbcjaa", sum := "954304d49359dd33b3166ba9bdccdcadc993d09f67ffc93f3f22d6db4bf7b5ea", func := "headrace/racelaw2.WireLeft", spec := "wireLeft", inPlace := ["math.Float64frombits", "math.Float64bits"], apart := false, narrowed := true }
def WireLeftUptoSaid : Prop := wireLeftUptoRow.holds Try.pinned (OpenSpec.upto wireLeftSpec)

end Rows
end Go.Proofs.Ytioopibmpcbcjaa
