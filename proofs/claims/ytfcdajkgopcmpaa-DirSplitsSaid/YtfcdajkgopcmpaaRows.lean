/-
  No cell of these rows narrows 'for every input' (looked for: loops, veiled, ifaces, maps, wideKeys, modest, calm, conditions, laid).
  DERIVED. THE GIVEN ROWS OF THIS SEAT. 4 by the template 'for every input the law returns true; each argument reads behind the call as it read before'; 0 by the template 'total and deterministic' (their statements: YtfcdajkgopcmpaaTotals.lean).
  GIVEN WITH THE SEED: the statements are not yours to turn. If you find one false, say at which input.
  Laid BY PROGRAM, IN A SANDBOX (cutbox-rows.mjs): the forced cells as the released guide's own fill.sh prints them over the translation 1309b5a7b0a6a68b… (all of the seat's roots in one cut). By AI agents, Wed Nov 11 2026. No macro, syntax, notation, axiom, sorry.
-/
import Derived.Test.YtfcdajkgopcmpaaChecked
import GoSem.Claim
import GoSem.ClaimJoined
import GoSem.ClaimMapViews
import Derived.JoinedTies
import Derived.KernelRfl
namespace Go.Proofs.Ytfcdajkgopcmpaa
/- THE CELL 'sum', in the pinned program and in every row, IS THE sha256 OF THE DUMP (.gsa) THAT YtfcdajkgopcmpaaProg.lean LOADS. Nothing in Lean hashes anything: it is a label: what it is worth is what the hold of that sum in a sandbox is worth. -/
noncomputable def Try.pinned : Pinned := { name := "ytfcdajkgopcmpaa", sum := "1309b5a7b0a6a68b6db03918255bbe71bb5c1d29804444c1750602841dec3d69", checked := Try.checked }
namespace Rows
def none {H : Type} : Left H := { results := [], args := [] }

/-- 'racelaw14.DirPlays': WHATEVER THE INPUT: true; the input reads as it did. -/
def dirPlaysSpec : ChangeSpec := { name := "dirPlays", fn := fun _ => fun
  | [d1, d2, d3] => { results := [.lit (.bool true)], args := [d1, d2, d3] }
  | _ => none }
def dirPlaysRow : OpenClaim := { program := "ytfcdajkgopcmpaa", sum := "1309b5a7b0a6a68b6db03918255bbe71bb5c1d29804444c1750602841dec3d69", func := "headrace/racelaw14.DirPlays", spec := "dirPlays", inPlace := ["math.Float64bits", "math.Float64frombits"], unfollowed := true, recurses := true, apart := false }
def DirPlaysSaid : Prop := dirPlaysRow.holds Try.pinned (OpenSpec.ofChange dirPlaysSpec)

/-- ITS FALSE NEIGHBOUR: 'it returns false'. Refute it at one input. -/
def dirPlaysWrong : ChangeSpec := { name := "dirPlays", fn := fun _ => fun
  | [d1, d2, d3] => { results := [.lit (.bool false)], args := [d1, d2, d3] }
  | _ => none }
def DirPlaysWrongFalsely : Prop := dirPlaysRow.holds Try.pinned (OpenSpec.ofChange dirPlaysWrong)

/-- 'racelaw14.DirSplits': WHATEVER THE INPUT: true; the input reads as it did. -/
def dirSplitsSpec : ChangeSpec := { name := "dirSplits", fn := fun _ => fun
  | [d1, d2, d3, d4, d5] => { results := [.lit (.bool true)], args := [d1, d2, d3, d4, d5] }
  | _ => none }
def dirSplitsRow : OpenClaim := { program := "ytfcdajkgopcmpaa", sum := "1309b5a7b0a6a68b6db03918255bbe71bb5c1d29804444c1750602841dec3d69", func := "headrace/racelaw14.DirSplits", spec := "dirSplits", inPlace := ["math.Float64bits", "math.Float64frombits"], unfollowed := true, recurses := true, apart := false }
def DirSplitsSaid : Prop := dirSplitsRow.holds Try.pinned (OpenSpec.ofChange dirSplitsSpec)

/-- ITS FALSE NEIGHBOUR: 'it returns false'. Refute it at one input. -/
def dirSplitsWrong : ChangeSpec := { name := "dirSplits", fn := fun _ => fun
  | [d1, d2, d3, d4, d5] => { results := [.lit (.bool false)], args := [d1, d2, d3, d4, d5] }
  | _ => none }
def DirSplitsWrongFalsely : Prop := dirSplitsRow.holds Try.pinned (OpenSpec.ofChange dirSplitsWrong)

/-- 'racelaw14.DirGroups': WHATEVER THE INPUT: true; the input reads as it did. -/
def dirGroupsSpec : ChangeSpec := { name := "dirGroups", fn := fun _ => fun
  | [d1, d2, d3] => { results := [.lit (.bool true)], args := [d1, d2, d3] }
  | _ => none }
def dirGroupsRow : OpenClaim := { program := "ytfcdajkgopcmpaa", sum := "1309b5a7b0a6a68b6db03918255bbe71bb5c1d29804444c1750602841dec3d69", func := "headrace/racelaw14.DirGroups", spec := "dirGroups", inPlace := ["math.Float64bits", "math.Float64frombits"], unfollowed := true, recurses := true, apart := false }
def DirGroupsSaid : Prop := dirGroupsRow.holds Try.pinned (OpenSpec.ofChange dirGroupsSpec)

/-- ITS FALSE NEIGHBOUR: 'it returns false'. Refute it at one input. -/
def dirGroupsWrong : ChangeSpec := { name := "dirGroups", fn := fun _ => fun
  | [d1, d2, d3] => { results := [.lit (.bool false)], args := [d1, d2, d3] }
  | _ => none }
def DirGroupsWrongFalsely : Prop := dirGroupsRow.holds Try.pinned (OpenSpec.ofChange dirGroupsWrong)

/-- 'racelaw14.DirAgain': WHATEVER THE INPUT: true; the input reads as it did. -/
def dirAgainSpec : ChangeSpec := { name := "dirAgain", fn := fun _ => fun
  | [d1, d2] => { results := [.lit (.bool true)], args := [d1, d2] }
  | _ => none }
def dirAgainRow : OpenClaim := { program := "ytfcdajkgopcmpaa", sum := "1309b5a7b0a6a68b6db03918255bbe71bb5c1d29804444c1750602841dec3d69", func := "headrace/racelaw14.DirAgain", spec := "dirAgain", inPlace := ["math.Float64bits", "math.Float64frombits"], unfollowed := true, recurses := true, apart := false }
def DirAgainSaid : Prop := dirAgainRow.holds Try.pinned (OpenSpec.ofChange dirAgainSpec)

/-- ITS FALSE NEIGHBOUR: 'it returns false'. Refute it at one input. -/
def dirAgainWrong : ChangeSpec := { name := "dirAgain", fn := fun _ => fun
  | [d1, d2] => { results := [.lit (.bool false)], args := [d1, d2] }
  | _ => none }
def DirAgainWrongFalsely : Prop := dirAgainRow.holds Try.pinned (OpenSpec.ofChange dirAgainWrong)

/- THE SECOND FORM. 'bulk': how many values and letters a reading holds, each counted each time it is reached (what is shared counts as often as it is met; a slice's spare places count too). A statement '..UptoSaid' is the law's where the arguments, and the package variables that the reading takes, are together of bulk at most 1048576: NARROWER than '..Said'. Prove '..Said' where nothing that the law and all that it calls make is longer than what came in: it says more and counts as full. Else prove '..UptoSaid'. A law counts once. -/
mutual
def uptoBulk {H : Type} : DataW H → Nat
  | .lit (.string bytes) => bytes.length + 1
  | .lit _ => 1
  | .nil => 1
  | .ptr d => uptoBulk d + 1
  | .slice elems spare => uptoBulkAll elems + uptoBulkAll spare + 1
  | .agg parts => uptoBulkAll parts + 1
  | .iface _ d => uptoBulk d + 1
  | .map entries => uptoBulkEntries entries + 1
  | .held _ => 1
def uptoBulkAll {H : Type} : List (DataW H) → Nat
  | [] => 0
  | d :: r => uptoBulk d + uptoBulkAll r
def uptoBulkEntries {H : Type} : List (Lit × DataW H) → Nat
  | [] => 0
  | x :: r => uptoBulkEntry x + uptoBulkEntries r
def uptoBulkEntry {H : Type} : Lit × DataW H → Nat
  | (.string bytes, d) => bytes.length + uptoBulk d + 1
  | (_, d) => uptoBulk d + 1
 end
def uptoSmall : (H : Type) → List (DataW H) → Bool := fun _ ds => decide (uptoBulkAll ds ≤ 1048576)
def OpenSpec.upto (s : _root_.Go.ChangeSpec) : _root_.Go.OpenSpec := { _root_.Go.OpenSpec.ofChange s with cond := some uptoSmall }

/-- 'racelaw14.DirPlays', WHERE WHAT IT READS IS OF BULK AT MOST 1048576: true; the input reads as it did. -/
def dirPlaysUptoRow : OpenClaim := { program := "ytfcdajkgopcmpaa", sum := "1309b5a7b0a6a68b6db03918255bbe71bb5c1d29804444c1750602841dec3d69", func := "headrace/racelaw14.DirPlays", spec := "dirPlays", inPlace := ["math.Float64bits", "math.Float64frombits"], unfollowed := true, recurses := true, apart := false, narrowed := true }
def DirPlaysUptoSaid : Prop := dirPlaysUptoRow.holds Try.pinned (OpenSpec.upto dirPlaysSpec)

/-- 'racelaw14.DirSplits', WHERE WHAT IT READS IS OF BULK AT MOST 1048576: true; the input reads as it did. -/
def dirSplitsUptoRow : OpenClaim := { program := "ytfcdajkgopcmpaa", sum := "1309b5a7b0a6a68b6db03918255bbe71bb5c1d29804444c1750602841dec3d69", func := "headrace/racelaw14.DirSplits", spec := "dirSplits", inPlace := ["math.Float64bits", "math.Float64frombits"], unfollowed := true, recurses := true, apart := false, narrowed := true }
def DirSplitsUptoSaid : Prop := dirSplitsUptoRow.holds Try.pinned (OpenSpec.upto dirSplitsSpec)

/-- 'racelaw14.DirGroups', WHERE WHAT IT READS IS OF BULK AT MOST 1048576: true; the input reads as it did. -/
def dirGroupsUptoRow : OpenClaim := { program := "ytfcdajkgopcmpaa", sum := "1309b5a7b0a6a68b6db03918255bbe71bb5c1d29804444c1750602841dec3d69", func := "headrace/racelaw14.DirGroups", spec := "dirGroups", inPlace := ["math.Float64bits", "math.Float64frombits"], unfollowed := true, recurses := true, apart := false, narrowed := true }
def DirGroupsUptoSaid : Prop := dirGroupsUptoRow.holds Try.pinned (OpenSpec.upto dirGroupsSpec)

/-- 'racelaw14.DirAgain', WHERE WHAT IT READS IS OF BULK AT MOST 1048576: true; the input reads as it did. -/
def dirAgainUptoRow : OpenClaim := { program := "ytfcdajkgopcmpaa", sum := "1309b5a7b0a6a68b6db03918255bbe71bb5c1d29804444c1750602841dec3d69", func := "headrace/racelaw14.DirAgain", spec := "dirAgain", inPlace := ["math.Float64bits", "math.Float64frombits"], unfollowed := true, recurses := true, apart := false, narrowed := true }
def DirAgainUptoSaid : Prop := dirAgainUptoRow.holds Try.pinned (OpenSpec.upto dirAgainSpec)

end Rows
end Go.Proofs.Ytfcdajkgopcmpaa
