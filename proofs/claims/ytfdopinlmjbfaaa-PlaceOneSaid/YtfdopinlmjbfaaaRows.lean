/-
  No cell of these rows narrows 'for every input' (looked for: loops, veiled, ifaces, maps, wideKeys, modest, calm, conditions, laid).
  DERIVED. THE GIVEN ROWS OF THIS SEAT. 9 by the template 'for every input the law returns true; each argument reads behind the call as it read before'; 0 by the template 'total and deterministic' (their statements: YtfdopinlmjbfaaaTotals.lean).
  GIVEN WITH THE SEED: the statements are not yours to turn. If you find one false, say at which input.
  Laid BY PROGRAM, IN A SANDBOX (cutbox-rows.mjs): the forced cells as the released guide's own fill.sh prints them over the translation c54dd62a4c5474f4… (all of the seat's roots in one cut). By AI agents, Wed Nov 11 2026. No macro, syntax, notation, axiom, sorry.
-/
import Derived.Test.YtfdopinlmjbfaaaChecked
import GoSem.Claim
import GoSem.ClaimJoined
import GoSem.ClaimMapViews
import Derived.JoinedTies
import Derived.KernelRfl
namespace Go.Proofs.Ytfdopinlmjbfaaa
/- THE CELL 'sum', in the pinned program and in every row, IS THE sha256 OF THE DUMP (.gsa) THAT YtfdopinlmjbfaaaProg.lean LOADS. Nothing in Lean hashes anything: it is a label: what it is worth is what the hold of that sum in a sandbox is worth. -/
noncomputable def Try.pinned : Pinned := { name := "ytfdopinlmjbfaaa", sum := "c54dd62a4c5474f470bfa74650973db340775b5b680f681ed55e284b015c112c", checked := Try.checked }
namespace Rows
def none {H : Type} : Left H := { results := [], args := [] }

/-- 'racelaw4.PlaceHashes': WHATEVER THE INPUT: true; the input reads as it did. -/
def placeHashesSpec : ChangeSpec := { name := "placeHashes", fn := fun _ => fun
  | [d] => { results := [.lit (.bool true)], args := [d] }
  | _ => none }
def placeHashesRow : OpenClaim := { program := "ytfdopinlmjbfaaa", sum := "c54dd62a4c5474f470bfa74650973db340775b5b680f681ed55e284b015c112c", func := "headrace/racelaw4.PlaceHashes", spec := "placeHashes", inPlace := ["math.Float64bits", "math.Float64frombits"], unfollowed := true, recurses := true, apart := false }
def PlaceHashesSaid : Prop := placeHashesRow.holds Try.pinned (OpenSpec.ofChange placeHashesSpec)

/-- ITS FALSE NEIGHBOUR: 'it returns false'. Refute it at one input. -/
def placeHashesWrong : ChangeSpec := { name := "placeHashes", fn := fun _ => fun
  | [d] => { results := [.lit (.bool false)], args := [d] }
  | _ => none }
def PlaceHashesWrongFalsely : Prop := placeHashesRow.holds Try.pinned (OpenSpec.ofChange placeHashesWrong)

/-- 'racelaw4.PlacePoints': WHATEVER THE INPUT: true; the input reads as it did. -/
def placePointsSpec : ChangeSpec := { name := "placePoints", fn := fun _ => fun
  | [d1, d2] => { results := [.lit (.bool true)], args := [d1, d2] }
  | _ => none }
def placePointsRow : OpenClaim := { program := "ytfdopinlmjbfaaa", sum := "c54dd62a4c5474f470bfa74650973db340775b5b680f681ed55e284b015c112c", func := "headrace/racelaw4.PlacePoints", spec := "placePoints", inPlace := ["math.Float64bits", "math.Float64frombits"], unfollowed := true, recurses := true, apart := false }
def PlacePointsSaid : Prop := placePointsRow.holds Try.pinned (OpenSpec.ofChange placePointsSpec)

/-- ITS FALSE NEIGHBOUR: 'it returns false'. Refute it at one input. -/
def placePointsWrong : ChangeSpec := { name := "placePoints", fn := fun _ => fun
  | [d1, d2] => { results := [.lit (.bool false)], args := [d1, d2] }
  | _ => none }
def PlacePointsWrongFalsely : Prop := placePointsRow.holds Try.pinned (OpenSpec.ofChange placePointsWrong)

/-- 'racelaw4.PlaceRanges': WHATEVER THE INPUT: true; the input reads as it did. -/
def placeRangesSpec : ChangeSpec := { name := "placeRanges", fn := fun _ => fun
  | [d1, d2, d3] => { results := [.lit (.bool true)], args := [d1, d2, d3] }
  | _ => none }
def placeRangesRow : OpenClaim := { program := "ytfdopinlmjbfaaa", sum := "c54dd62a4c5474f470bfa74650973db340775b5b680f681ed55e284b015c112c", func := "headrace/racelaw4.PlaceRanges", spec := "placeRanges", inPlace := ["math.Float64bits", "math.Float64frombits"], unfollowed := true, recurses := true, apart := false }
def PlaceRangesSaid : Prop := placeRangesRow.holds Try.pinned (OpenSpec.ofChange placeRangesSpec)

/-- ITS FALSE NEIGHBOUR: 'it returns false'. Refute it at one input. -/
def placeRangesWrong : ChangeSpec := { name := "placeRanges", fn := fun _ => fun
  | [d1, d2, d3] => { results := [.lit (.bool false)], args := [d1, d2, d3] }
  | _ => none }
def PlaceRangesWrongFalsely : Prop := placeRangesRow.holds Try.pinned (OpenSpec.ofChange placeRangesWrong)

/-- 'racelaw4.PlaceCovers': WHATEVER THE INPUT: true; the input reads as it did. -/
def placeCoversSpec : ChangeSpec := { name := "placeCovers", fn := fun _ => fun
  | [d1, d2] => { results := [.lit (.bool true)], args := [d1, d2] }
  | _ => none }
def placeCoversRow : OpenClaim := { program := "ytfdopinlmjbfaaa", sum := "c54dd62a4c5474f470bfa74650973db340775b5b680f681ed55e284b015c112c", func := "headrace/racelaw4.PlaceCovers", spec := "placeCovers", inPlace := ["math.Float64bits", "math.Float64frombits"], unfollowed := true, recurses := true, apart := false }
def PlaceCoversSaid : Prop := placeCoversRow.holds Try.pinned (OpenSpec.ofChange placeCoversSpec)

/-- ITS FALSE NEIGHBOUR: 'it returns false'. Refute it at one input. -/
def placeCoversWrong : ChangeSpec := { name := "placeCovers", fn := fun _ => fun
  | [d1, d2] => { results := [.lit (.bool false)], args := [d1, d2] }
  | _ => none }
def PlaceCoversWrongFalsely : Prop := placeCoversRow.holds Try.pinned (OpenSpec.ofChange placeCoversWrong)

/-- 'racelaw4.PlaceEven': WHATEVER THE INPUT: true; the input reads as it did. -/
def placeEvenSpec : ChangeSpec := { name := "placeEven", fn := fun _ => fun
  | [d] => { results := [.lit (.bool true)], args := [d] }
  | _ => none }
def placeEvenRow : OpenClaim := { program := "ytfdopinlmjbfaaa", sum := "c54dd62a4c5474f470bfa74650973db340775b5b680f681ed55e284b015c112c", func := "headrace/racelaw4.PlaceEven", spec := "placeEven", inPlace := ["math.Float64bits", "math.Float64frombits"], unfollowed := true, recurses := true, apart := false }
def PlaceEvenSaid : Prop := placeEvenRow.holds Try.pinned (OpenSpec.ofChange placeEvenSpec)

/-- ITS FALSE NEIGHBOUR: 'it returns false'. Refute it at one input. -/
def placeEvenWrong : ChangeSpec := { name := "placeEven", fn := fun _ => fun
  | [d] => { results := [.lit (.bool false)], args := [d] }
  | _ => none }
def PlaceEvenWrongFalsely : Prop := placeEvenRow.holds Try.pinned (OpenSpec.ofChange placeEvenWrong)

/-- 'racelaw4.PlaceOne': WHATEVER THE INPUT: true; the input reads as it did. -/
def placeOneSpec : ChangeSpec := { name := "placeOne", fn := fun _ => fun
  | [d1, d2, d3, d4] => { results := [.lit (.bool true)], args := [d1, d2, d3, d4] }
  | _ => none }
def placeOneRow : OpenClaim := { program := "ytfdopinlmjbfaaa", sum := "c54dd62a4c5474f470bfa74650973db340775b5b680f681ed55e284b015c112c", func := "headrace/racelaw4.PlaceOne", spec := "placeOne", inPlace := ["math.Float64bits", "math.Float64frombits"], unfollowed := true, recurses := true, apart := false }
def PlaceOneSaid : Prop := placeOneRow.holds Try.pinned (OpenSpec.ofChange placeOneSpec)

/-- ITS FALSE NEIGHBOUR: 'it returns false'. Refute it at one input. -/
def placeOneWrong : ChangeSpec := { name := "placeOne", fn := fun _ => fun
  | [d1, d2, d3, d4] => { results := [.lit (.bool false)], args := [d1, d2, d3, d4] }
  | _ => none }
def PlaceOneWrongFalsely : Prop := placeOneRow.holds Try.pinned (OpenSpec.ofChange placeOneWrong)

/-- 'racelaw4.PlaceNarrows': WHATEVER THE INPUT: true; the input reads as it did. -/
def placeNarrowsSpec : ChangeSpec := { name := "placeNarrows", fn := fun _ => fun
  | [d1, d2, d3] => { results := [.lit (.bool true)], args := [d1, d2, d3] }
  | _ => none }
def placeNarrowsRow : OpenClaim := { program := "ytfdopinlmjbfaaa", sum := "c54dd62a4c5474f470bfa74650973db340775b5b680f681ed55e284b015c112c", func := "headrace/racelaw4.PlaceNarrows", spec := "placeNarrows", inPlace := ["math.Float64bits", "math.Float64frombits"], unfollowed := true, recurses := true, apart := false }
def PlaceNarrowsSaid : Prop := placeNarrowsRow.holds Try.pinned (OpenSpec.ofChange placeNarrowsSpec)

/-- ITS FALSE NEIGHBOUR: 'it returns false'. Refute it at one input. -/
def placeNarrowsWrong : ChangeSpec := { name := "placeNarrows", fn := fun _ => fun
  | [d1, d2, d3] => { results := [.lit (.bool false)], args := [d1, d2, d3] }
  | _ => none }
def PlaceNarrowsWrongFalsely : Prop := placeNarrowsRow.holds Try.pinned (OpenSpec.ofChange placeNarrowsWrong)

/-- 'racelaw4.PlaceHalves': WHATEVER THE INPUT: true; the input reads as it did. -/
def placeHalvesSpec : ChangeSpec := { name := "placeHalves", fn := fun _ => fun
  | [d1, d2, d3, d4] => { results := [.lit (.bool true)], args := [d1, d2, d3, d4] }
  | _ => none }
def placeHalvesRow : OpenClaim := { program := "ytfdopinlmjbfaaa", sum := "c54dd62a4c5474f470bfa74650973db340775b5b680f681ed55e284b015c112c", func := "headrace/racelaw4.PlaceHalves", spec := "placeHalves", inPlace := ["math.Float64bits", "math.Float64frombits"], unfollowed := true, recurses := true, apart := false }
def PlaceHalvesSaid : Prop := placeHalvesRow.holds Try.pinned (OpenSpec.ofChange placeHalvesSpec)

/-- ITS FALSE NEIGHBOUR: 'it returns false'. Refute it at one input. -/
def placeHalvesWrong : ChangeSpec := { name := "placeHalves", fn := fun _ => fun
  | [d1, d2, d3, d4] => { results := [.lit (.bool false)], args := [d1, d2, d3, d4] }
  | _ => none }
def PlaceHalvesWrongFalsely : Prop := placeHalvesRow.holds Try.pinned (OpenSpec.ofChange placeHalvesWrong)

/-- 'racelaw4.PlaceTurns': WHATEVER THE INPUT: true; the input reads as it did. -/
def placeTurnsSpec : ChangeSpec := { name := "placeTurns", fn := fun _ => fun
  | [d1, d2, d3] => { results := [.lit (.bool true)], args := [d1, d2, d3] }
  | _ => none }
def placeTurnsRow : OpenClaim := { program := "ytfdopinlmjbfaaa", sum := "c54dd62a4c5474f470bfa74650973db340775b5b680f681ed55e284b015c112c", func := "headrace/racelaw4.PlaceTurns", spec := "placeTurns", inPlace := ["math.Float64bits", "math.Float64frombits"], unfollowed := true, recurses := true, apart := false }
def PlaceTurnsSaid : Prop := placeTurnsRow.holds Try.pinned (OpenSpec.ofChange placeTurnsSpec)

/-- ITS FALSE NEIGHBOUR: 'it returns false'. Refute it at one input. -/
def placeTurnsWrong : ChangeSpec := { name := "placeTurns", fn := fun _ => fun
  | [d1, d2, d3] => { results := [.lit (.bool false)], args := [d1, d2, d3] }
  | _ => none }
def PlaceTurnsWrongFalsely : Prop := placeTurnsRow.holds Try.pinned (OpenSpec.ofChange placeTurnsWrong)

/- THE SECOND FORM. 'bulk': how many values and letters a reading holds, each counted each time it is reached (what is shared counts as often as it is met; a slice's spare places count too). A statement '..UptoSaid' is the law's where the arguments, and the package variables that the reading takes, are together of bulk at most 1048576: NARROWER than '..Said'. Prove '..Said' where nothing that the law and all that it calls make is longer than what came in: it says more and counts as full. Else prove '..UptoSaid'. A law counts once. -/
mutual
def uptoBulk {H : Type} : DataW H → Nat
  | .lit (.string bytes) => bytes.length + 1
  | .lit _ => 1
  | .nil => 1
  | .ptr d => uptoBulk d + 1
  | .slice elems spare => uptoBulkAll elems + uptoBulkAll spare + 1
  | .agg parts => uptoBulkAll parts + 1
  | .iface _ d => uptoBulk d + 1
  | .map entries => uptoBulkEntries entries + 1
  | .held _ => 1
def uptoBulkAll {H : Type} : List (DataW H) → Nat
  | [] => 0
  | d :: r => uptoBulk d + uptoBulkAll r
def uptoBulkEntries {H : Type} : List (Lit × DataW H) → Nat
  | [] => 0
  | x :: r => uptoBulkEntry x + uptoBulkEntries r
def uptoBulkEntry {H : Type} : Lit × DataW H → Nat
  | (.string bytes, d) => bytes.length + uptoBulk d + 1
  | (_, d) => uptoBulk d + 1
 end
def uptoSmall : (H : Type) → List (DataW H) → Bool := fun _ ds => decide (uptoBulkAll ds ≤ 1048576)
def OpenSpec.upto (s : _root_.Go.ChangeSpec) : _root_.Go.OpenSpec := { _root_.Go.OpenSpec.ofChange s with cond := some uptoSmall }

/-- 'racelaw4.PlaceHashes', WHERE WHAT IT READS IS OF BULK AT MOST 1048576: true; the input reads as it did. -/
def placeHashesUptoRow : OpenClaim := { program := "ytfdopinlmjbfaaa", sum := "c54dd62a4c5474f470bfa74650973db340775b5b680f681ed55e284b015c112c", func := "headrace/racelaw4.PlaceHashes", spec := "placeHashes", inPlace := ["math.Float64bits", "math.Float64frombits"], unfollowed := true, recurses := true, apart := false, narrowed := true }
def PlaceHashesUptoSaid : Prop := placeHashesUptoRow.holds Try.pinned (OpenSpec.upto placeHashesSpec)

/-- 'racelaw4.PlacePoints', WHERE WHAT IT READS IS OF BULK AT MOST 1048576: true; the input reads as it did. -/
def placePointsUptoRow : OpenClaim := { program := "ytfdopinlmjbfaaa", sum := "c54dd62a4c5474f470bfa74650973db340775b5b680f681ed55e284b015c112c", func := "headrace/racelaw4.PlacePoints", spec := "placePoints", inPlace := ["math.Float64bits", "math.Float64frombits"], unfollowed := true, recurses := true, apart := false, narrowed := true }
def PlacePointsUptoSaid : Prop := placePointsUptoRow.holds Try.pinned (OpenSpec.upto placePointsSpec)

/-- 'racelaw4.PlaceRanges', WHERE WHAT IT READS IS OF BULK AT MOST 1048576: true; the input reads as it did. -/
def placeRangesUptoRow : OpenClaim := { program := "ytfdopinlmjbfaaa", sum := "c54dd62a4c5474f470bfa74650973db340775b5b680f681ed55e284b015c112c", func := "headrace/racelaw4.PlaceRanges", spec := "placeRanges", inPlace := ["math.Float64bits", "math.Float64frombits"], unfollowed := true, recurses := true, apart := false, narrowed := true }
def PlaceRangesUptoSaid : Prop := placeRangesUptoRow.holds Try.pinned (OpenSpec.upto placeRangesSpec)

/-- 'racelaw4.PlaceCovers', WHERE WHAT IT READS IS OF BULK AT MOST 1048576: true; the input reads as it did. -/
def placeCoversUptoRow : OpenClaim := { program := "ytfdopinlmjbfaaa", sum := "c54dd62a4c5474f470bfa74650973db340775b5b680f681ed55e284b015c112c", func := "headrace/racelaw4.PlaceCovers", spec := "placeCovers", inPlace := ["math.Float64bits", "math.Float64frombits"], unfollowed := true, recurses := true, apart := false, narrowed := true }
def PlaceCoversUptoSaid : Prop := placeCoversUptoRow.holds Try.pinned (OpenSpec.upto placeCoversSpec)

/-- 'racelaw4.PlaceEven', WHERE WHAT IT READS IS OF BULK AT MOST 1048576: true; the input reads as it did. -/
def placeEvenUptoRow : OpenClaim := { program := "ytfdopinlmjbfaaa", sum := "c54dd62a4c5474f470bfa74650973db340775b5b680f681ed55e284b015c112c", func := "headrace/racelaw4.PlaceEven", spec := "placeEven", inPlace := ["math.Float64bits", "math.Float64frombits"], unfollowed := true, recurses := true, apart := false, narrowed := true }
def PlaceEvenUptoSaid : Prop := placeEvenUptoRow.holds Try.pinned (OpenSpec.upto placeEvenSpec)

/-- 'racelaw4.PlaceOne', WHERE WHAT IT READS IS OF BULK AT MOST 1048576: true; the input reads as it did. -/
def placeOneUptoRow : OpenClaim := { program := "ytfdopinlmjbfaaa", sum := "c54dd62a4c5474f470bfa74650973db340775b5b680f681ed55e284b015c112c", func := "headrace/racelaw4.PlaceOne", spec := "placeOne", inPlace := ["math.Float64bits", "math.Float64frombits"], unfollowed := true, recurses := true, apart := false, narrowed := true }
def PlaceOneUptoSaid : Prop := placeOneUptoRow.holds Try.pinned (OpenSpec.upto placeOneSpec)

/-- 'racelaw4.PlaceNarrows', WHERE WHAT IT READS IS OF BULK AT MOST 1048576: true; the input reads as it did. -/
def placeNarrowsUptoRow : OpenClaim := { program := "ytfdopinlmjbfaaa", sum := "c54dd62a4c5474f470bfa74650973db340775b5b680f681ed55e284b015c112c", func := "headrace/racelaw4.PlaceNarrows", spec := "placeNarrows", inPlace := ["math.Float64bits", "math.Float64frombits"], unfollowed := true, recurses := true, apart := false, narrowed := true }
def PlaceNarrowsUptoSaid : Prop := placeNarrowsUptoRow.holds Try.pinned (OpenSpec.upto placeNarrowsSpec)

/-- 'racelaw4.PlaceHalves', WHERE WHAT IT READS IS OF BULK AT MOST 1048576: true; the input reads as it did. -/
def placeHalvesUptoRow : OpenClaim := { program := "ytfdopinlmjbfaaa", sum := "c54dd62a4c5474f470bfa74650973db340775b5b680f681ed55e284b015c112c", func := "headrace/racelaw4.PlaceHalves", spec := "placeHalves", inPlace := ["math.Float64bits", "math.Float64frombits"], unfollowed := true, recurses := true, apart := false, narrowed := true }
def PlaceHalvesUptoSaid : Prop := placeHalvesUptoRow.holds Try.pinned (OpenSpec.upto placeHalvesSpec)

/-- 'racelaw4.PlaceTurns', WHERE WHAT IT READS IS OF BULK AT MOST 1048576: true; the input reads as it did. -/
def placeTurnsUptoRow : OpenClaim := { program := "ytfdopinlmjbfaaa", sum := "c54dd62a4c5474f470bfa74650973db340775b5b680f681ed55e284b015c112c", func := "headrace/racelaw4.PlaceTurns", spec := "placeTurns", inPlace := ["math.Float64bits", "math.Float64frombits"], unfollowed := true, recurses := true, apart := false, narrowed := true }
def PlaceTurnsUptoSaid : Prop := placeTurnsUptoRow.holds Try.pinned (OpenSpec.upto placeTurnsSpec)

end Rows
end Go.Proofs.Ytfdopinlmjbfaaa
