/-
  NARROWER THAN 'FOR EVERY INPUT', by the rows' own cells (each row's printed sentence says how): HlcStamps: laid · HlcTexts: laid · HlcPlays: laid · HlcRises: laid · HlcNext: laid · HlcPeeks: laid · HlcOrders: laid.
  DERIVED. THE GIVEN ROWS OF THIS SEAT. 7 by the template 'for every input the law returns true; each argument reads behind the call as it read before'; 0 by the template 'total and deterministic' (their statements: YtmpokhjchbaleaaDoorTotals.lean).
  GIVEN WITH THE SEED: the statements are not yours to turn. If you find one false, say at which input.
  Laid BY PROGRAM, IN A SANDBOX (cutbox-rows.mjs): the forced cells as the released guide's own fill.sh prints them over the translation 57c9a066453f09c3… (all of the seat's roots in one cut). By AI agents, Wed Nov 11 2026. No macro, syntax, notation, axiom, sorry.
-/
import Derived.Test.YtmpokhjchbaleaaDoorChecked
import GoSem.Claim
import GoSem.ClaimJoined
import GoSem.ClaimMapViews
import Derived.JoinedTies
import Derived.KernelRfl
namespace Go.Proofs.YtmpokhjchbaleaaDoor
/- THE CELL 'sum', in the pinned program and in every row, IS THE sha256 OF THE DUMP (.gsa) THAT YtmpokhjchbaleaaDoorProg.lean LOADS. Nothing in Lean hashes anything: it is a label: what it is worth is what the hold of that sum in a sandbox is worth. -/
noncomputable def Tryd.pinned : Pinned := { name := "ytmpokhjchbaleaadoor", sum := "57c9a066453f09c30672c16f9b2a06b8da02a030852b47f6d6db0e5af32cdba6", checked := Tryd.checked }
namespace Rows
def none {H : Type} : Left H := { results := [], args := [] }

/- WHAT THE LISTED PACKAGE-LEVEL VARIABLES READ AS WHEN THE CALL BEGINS. Each datum BY PROGRAM (the guide's laid-datum.mjs) off the statement by which the dump's own 'gosem.cut.vars' lays the variable. In a bare row this is a premise. The card (YtmpokhjchbaleaaDoorCards.lean) ties it to the program's text. -/
def laid_math_bits_deBruijn32tab {H : Type} : DataW H := .agg [.lit (.int .u8 0), .lit (.int .u8 1), .lit (.int .u8 28), .lit (.int .u8 2), .lit (.int .u8 29), .lit (.int .u8 14), .lit (.int .u8 24), .lit (.int .u8 3), .lit (.int .u8 30), .lit (.int .u8 22), .lit (.int .u8 20), .lit (.int .u8 15), .lit (.int .u8 25), .lit (.int .u8 17), .lit (.int .u8 4), .lit (.int .u8 8), .lit (.int .u8 31), .lit (.int .u8 27), .lit (.int .u8 13), .lit (.int .u8 23), .lit (.int .u8 21), .lit (.int .u8 19), .lit (.int .u8 16), .lit (.int .u8 7), .lit (.int .u8 26), .lit (.int .u8 12), .lit (.int .u8 18), .lit (.int .u8 6), .lit (.int .u8 11), .lit (.int .u8 5), .lit (.int .u8 10), .lit (.int .u8 9)]
def laid_math_bits_deBruijn64tab {H : Type} : DataW H := .agg [.lit (.int .u8 0), .lit (.int .u8 1), .lit (.int .u8 56), .lit (.int .u8 2), .lit (.int .u8 57), .lit (.int .u8 49), .lit (.int .u8 28), .lit (.int .u8 3), .lit (.int .u8 61), .lit (.int .u8 58), .lit (.int .u8 42), .lit (.int .u8 50), .lit (.int .u8 38), .lit (.int .u8 29), .lit (.int .u8 17), .lit (.int .u8 4), .lit (.int .u8 62), .lit (.int .u8 47), .lit (.int .u8 59), .lit (.int .u8 36), .lit (.int .u8 45), .lit (.int .u8 43), .lit (.int .u8 51), .lit (.int .u8 22), .lit (.int .u8 53), .lit (.int .u8 39), .lit (.int .u8 33), .lit (.int .u8 30), .lit (.int .u8 24), .lit (.int .u8 18), .lit (.int .u8 12), .lit (.int .u8 5), .lit (.int .u8 63), .lit (.int .u8 55), .lit (.int .u8 48), .lit (.int .u8 27), .lit (.int .u8 60), .lit (.int .u8 41), .lit (.int .u8 37), .lit (.int .u8 16), .lit (.int .u8 46), .lit (.int .u8 35), .lit (.int .u8 44), .lit (.int .u8 21), .lit (.int .u8 52), .lit (.int .u8 32), .lit (.int .u8 23), .lit (.int .u8 11), .lit (.int .u8 54), .lit (.int .u8 26), .lit (.int .u8 40), .lit (.int .u8 15), .lit (.int .u8 34), .lit (.int .u8 20), .lit (.int .u8 31), .lit (.int .u8 10), .lit (.int .u8 25), .lit (.int .u8 14), .lit (.int .u8 19), .lit (.int .u8 9), .lit (.int .u8 13), .lit (.int .u8 8), .lit (.int .u8 7), .lit (.int .u8 6)]
def laid_internal_strconv_uint64pow10 {H : Type} : DataW H := .agg [.lit (.int .u64 1), .lit (.int .u64 10), .lit (.int .u64 100), .lit (.int .u64 1000), .lit (.int .u64 10000), .lit (.int .u64 100000), .lit (.int .u64 1000000), .lit (.int .u64 10000000), .lit (.int .u64 100000000), .lit (.int .u64 1000000000), .lit (.int .u64 10000000000), .lit (.int .u64 100000000000), .lit (.int .u64 1000000000000), .lit (.int .u64 10000000000000), .lit (.int .u64 100000000000000), .lit (.int .u64 1000000000000000), .lit (.int .u64 10000000000000000), .lit (.int .u64 100000000000000000), .lit (.int .u64 1000000000000000000), .lit (.int .u64 10000000000000000000)]
def laid_strconv_ErrRange {H : Type} : DataW H := .iface "*errors.errorString" (.ptr (.agg [.lit (.string [118, 97, 108, 117, 101, 32, 111, 117, 116, 32, 111, 102, 32, 114, 97, 110, 103, 101])]))
def laid_strconv_ErrSyntax {H : Type} : DataW H := .iface "*errors.errorString" (.ptr (.agg [.lit (.string [105, 110, 118, 97, 108, 105, 100, 32, 115, 121, 110, 116, 97, 120])]))

/-- 'racelaw8.HlcStamps': WHATEVER THE INPUT: true; the input reads as it did. -/
def hlcStampsSpec : ChangeSpec := { name := "hlcStamps", fn := fun _ => fun
  | [d1, d2] => { results := [.lit (.bool true)], args := [d1, d2] }
  | _ => none }
def hlcStampsRow : OpenClaim := { program := "ytmpokhjchbaleaadoor", sum := "57c9a066453f09c30672c16f9b2a06b8da02a030852b47f6d6db0e5af32cdba6", func := "headrace/racelaw8.HlcStamps", spec := "hlcStamps", named := ["internal/strconv.uint64pow10", "math/bits.deBruijn32tab", "math/bits.deBruijn64tab"], apart := false, laid := [("math/bits.deBruijn32tab", laid_math_bits_deBruijn32tab), ("math/bits.deBruijn64tab", laid_math_bits_deBruijn64tab), ("internal/strconv.uint64pow10", laid_internal_strconv_uint64pow10)] }
def HlcStampsSaid : Prop := hlcStampsRow.holds Tryd.pinned (OpenSpec.ofChange hlcStampsSpec)

/-- ITS FALSE NEIGHBOUR: 'it returns false'. Refute it at one input. -/
def hlcStampsWrong : ChangeSpec := { name := "hlcStamps", fn := fun _ => fun
  | [d1, d2] => { results := [.lit (.bool false)], args := [d1, d2] }
  | _ => none }
def HlcStampsWrongFalsely : Prop := hlcStampsRow.holds Tryd.pinned (OpenSpec.ofChange hlcStampsWrong)

/-- 'racelaw8.HlcTexts': WHATEVER THE INPUT: true; the input reads as it did. -/
def hlcTextsSpec : ChangeSpec := { name := "hlcTexts", fn := fun _ => fun
  | [d] => { results := [.lit (.bool true)], args := [d] }
  | _ => none }
def hlcTextsRow : OpenClaim := { program := "ytmpokhjchbaleaadoor", sum := "57c9a066453f09c30672c16f9b2a06b8da02a030852b47f6d6db0e5af32cdba6", func := "headrace/racelaw8.HlcTexts", spec := "hlcTexts", inPlace := ["internal/bytealg.IndexByteString", "internal/bytealg.IndexString"], named := ["internal/strconv.uint64pow10", "math/bits.deBruijn32tab", "math/bits.deBruijn64tab", "internal/bytealg.MaxLen", "strconv.ErrSyntax", "strconv.ErrRange"], apart := false, laid := [("math/bits.deBruijn32tab", laid_math_bits_deBruijn32tab), ("math/bits.deBruijn64tab", laid_math_bits_deBruijn64tab), ("internal/strconv.uint64pow10", laid_internal_strconv_uint64pow10), ("strconv.ErrRange", laid_strconv_ErrRange), ("strconv.ErrSyntax", laid_strconv_ErrSyntax)] }
def HlcTextsSaid : Prop := hlcTextsRow.holds Tryd.pinned (OpenSpec.ofChange hlcTextsSpec)

/-- ITS FALSE NEIGHBOUR: 'it returns false'. Refute it at one input. -/
def hlcTextsWrong : ChangeSpec := { name := "hlcTexts", fn := fun _ => fun
  | [d] => { results := [.lit (.bool false)], args := [d] }
  | _ => none }
def HlcTextsWrongFalsely : Prop := hlcTextsRow.holds Tryd.pinned (OpenSpec.ofChange hlcTextsWrong)

/-- 'racelaw8.HlcPlays': WHATEVER THE INPUT: true; the input reads as it did. -/
def hlcPlaysSpec : ChangeSpec := { name := "hlcPlays", fn := fun _ => fun
  | [d1, d2, d3] => { results := [.lit (.bool true)], args := [d1, d2, d3] }
  | _ => none }
def hlcPlaysRow : OpenClaim := { program := "ytmpokhjchbaleaadoor", sum := "57c9a066453f09c30672c16f9b2a06b8da02a030852b47f6d6db0e5af32cdba6", func := "headrace/racelaw8.HlcPlays", spec := "hlcPlays", named := ["internal/strconv.uint64pow10", "math/bits.deBruijn32tab", "math/bits.deBruijn64tab"], apart := false, laid := [("math/bits.deBruijn32tab", laid_math_bits_deBruijn32tab), ("math/bits.deBruijn64tab", laid_math_bits_deBruijn64tab), ("internal/strconv.uint64pow10", laid_internal_strconv_uint64pow10)] }
def HlcPlaysSaid : Prop := hlcPlaysRow.holds Tryd.pinned (OpenSpec.ofChange hlcPlaysSpec)

/-- ITS FALSE NEIGHBOUR: 'it returns false'. Refute it at one input. -/
def hlcPlaysWrong : ChangeSpec := { name := "hlcPlays", fn := fun _ => fun
  | [d1, d2, d3] => { results := [.lit (.bool false)], args := [d1, d2, d3] }
  | _ => none }
def HlcPlaysWrongFalsely : Prop := hlcPlaysRow.holds Tryd.pinned (OpenSpec.ofChange hlcPlaysWrong)

/-- 'racelaw8.HlcRises': WHATEVER THE INPUT: true; the input reads as it did. -/
def hlcRisesSpec : ChangeSpec := { name := "hlcRises", fn := fun _ => fun
  | [d1, d2, d3, d4, d5, d6] => { results := [.lit (.bool true)], args := [d1, d2, d3, d4, d5, d6] }
  | _ => none }
def hlcRisesRow : OpenClaim := { program := "ytmpokhjchbaleaadoor", sum := "57c9a066453f09c30672c16f9b2a06b8da02a030852b47f6d6db0e5af32cdba6", func := "headrace/racelaw8.HlcRises", spec := "hlcRises", named := ["internal/strconv.uint64pow10", "math/bits.deBruijn32tab", "math/bits.deBruijn64tab"], apart := false, laid := [("math/bits.deBruijn32tab", laid_math_bits_deBruijn32tab), ("math/bits.deBruijn64tab", laid_math_bits_deBruijn64tab), ("internal/strconv.uint64pow10", laid_internal_strconv_uint64pow10)] }
def HlcRisesSaid : Prop := hlcRisesRow.holds Tryd.pinned (OpenSpec.ofChange hlcRisesSpec)

/-- ITS FALSE NEIGHBOUR: 'it returns false'. Refute it at one input. -/
def hlcRisesWrong : ChangeSpec := { name := "hlcRises", fn := fun _ => fun
  | [d1, d2, d3, d4, d5, d6] => { results := [.lit (.bool false)], args := [d1, d2, d3, d4, d5, d6] }
  | _ => none }
def HlcRisesWrongFalsely : Prop := hlcRisesRow.holds Tryd.pinned (OpenSpec.ofChange hlcRisesWrong)

/-- 'racelaw8.HlcNext': WHATEVER THE INPUT: true; the input reads as it did. -/
def hlcNextSpec : ChangeSpec := { name := "hlcNext", fn := fun _ => fun
  | [d1, d2] => { results := [.lit (.bool true)], args := [d1, d2] }
  | _ => none }
def hlcNextRow : OpenClaim := { program := "ytmpokhjchbaleaadoor", sum := "57c9a066453f09c30672c16f9b2a06b8da02a030852b47f6d6db0e5af32cdba6", func := "headrace/racelaw8.HlcNext", spec := "hlcNext", inPlace := ["internal/bytealg.IndexByteString", "internal/bytealg.IndexString"], named := ["internal/strconv.uint64pow10", "math/bits.deBruijn32tab", "math/bits.deBruijn64tab", "internal/bytealg.MaxLen", "strconv.ErrSyntax", "strconv.ErrRange"], apart := false, laid := [("math/bits.deBruijn32tab", laid_math_bits_deBruijn32tab), ("math/bits.deBruijn64tab", laid_math_bits_deBruijn64tab), ("internal/strconv.uint64pow10", laid_internal_strconv_uint64pow10), ("strconv.ErrRange", laid_strconv_ErrRange), ("strconv.ErrSyntax", laid_strconv_ErrSyntax)] }
def HlcNextSaid : Prop := hlcNextRow.holds Tryd.pinned (OpenSpec.ofChange hlcNextSpec)

/-- ITS FALSE NEIGHBOUR: 'it returns false'. Refute it at one input. -/
def hlcNextWrong : ChangeSpec := { name := "hlcNext", fn := fun _ => fun
  | [d1, d2] => { results := [.lit (.bool false)], args := [d1, d2] }
  | _ => none }
def HlcNextWrongFalsely : Prop := hlcNextRow.holds Tryd.pinned (OpenSpec.ofChange hlcNextWrong)

/-- 'racelaw8.HlcPeeks': WHATEVER THE INPUT: true; the input reads as it did. -/
def hlcPeeksSpec : ChangeSpec := { name := "hlcPeeks", fn := fun _ => fun
  | [d1, d2, d3, d4, d5] => { results := [.lit (.bool true)], args := [d1, d2, d3, d4, d5] }
  | _ => none }
def hlcPeeksRow : OpenClaim := { program := "ytmpokhjchbaleaadoor", sum := "57c9a066453f09c30672c16f9b2a06b8da02a030852b47f6d6db0e5af32cdba6", func := "headrace/racelaw8.HlcPeeks", spec := "hlcPeeks", named := ["internal/strconv.uint64pow10", "math/bits.deBruijn32tab", "math/bits.deBruijn64tab"], apart := false, laid := [("math/bits.deBruijn32tab", laid_math_bits_deBruijn32tab), ("math/bits.deBruijn64tab", laid_math_bits_deBruijn64tab), ("internal/strconv.uint64pow10", laid_internal_strconv_uint64pow10)] }
def HlcPeeksSaid : Prop := hlcPeeksRow.holds Tryd.pinned (OpenSpec.ofChange hlcPeeksSpec)

/-- ITS FALSE NEIGHBOUR: 'it returns false'. Refute it at one input. -/
def hlcPeeksWrong : ChangeSpec := { name := "hlcPeeks", fn := fun _ => fun
  | [d1, d2, d3, d4, d5] => { results := [.lit (.bool false)], args := [d1, d2, d3, d4, d5] }
  | _ => none }
def HlcPeeksWrongFalsely : Prop := hlcPeeksRow.holds Tryd.pinned (OpenSpec.ofChange hlcPeeksWrong)

/-- 'racelaw8.HlcOrders': WHATEVER THE INPUT: true; the input reads as it did. -/
def hlcOrdersSpec : ChangeSpec := { name := "hlcOrders", fn := fun _ => fun
  | [d1, d2, d3] => { results := [.lit (.bool true)], args := [d1, d2, d3] }
  | _ => none }
def hlcOrdersRow : OpenClaim := { program := "ytmpokhjchbaleaadoor", sum := "57c9a066453f09c30672c16f9b2a06b8da02a030852b47f6d6db0e5af32cdba6", func := "headrace/racelaw8.HlcOrders", spec := "hlcOrders", named := ["internal/strconv.uint64pow10", "math/bits.deBruijn32tab", "math/bits.deBruijn64tab"], apart := false, laid := [("math/bits.deBruijn32tab", laid_math_bits_deBruijn32tab), ("math/bits.deBruijn64tab", laid_math_bits_deBruijn64tab), ("internal/strconv.uint64pow10", laid_internal_strconv_uint64pow10)] }
def HlcOrdersSaid : Prop := hlcOrdersRow.holds Tryd.pinned (OpenSpec.ofChange hlcOrdersSpec)

/-- ITS FALSE NEIGHBOUR: 'it returns false'. Refute it at one input. -/
def hlcOrdersWrong : ChangeSpec := { name := "hlcOrders", fn := fun _ => fun
  | [d1, d2, d3] => { results := [.lit (.bool false)], args := [d1, d2, d3] }
  | _ => none }
def HlcOrdersWrongFalsely : Prop := hlcOrdersRow.holds Tryd.pinned (OpenSpec.ofChange hlcOrdersWrong)

/- THE SECOND FORM. 'bulk': how many values and letters a reading holds, each counted each time it is reached (what is shared counts as often as it is met; a slice's spare places count too). A statement '..UptoSaid' is the law's where the arguments, and the package variables that the reading takes, are together of bulk at most 1048576: NARROWER than '..Said'. Prove '..Said' where nothing that the law and all that it calls make is longer than what came in: it says more and counts as full. Else prove '..UptoSaid'. A law counts once. -/
mutual
def uptoBulk {H : Type} : DataW H → Nat
  | .lit (.string bytes) => bytes.length + 1
  | .lit _ => 1
  | .nil => 1
  | .ptr d => uptoBulk d + 1
  | .slice elems spare => uptoBulkAll elems + uptoBulkAll spare + 1
  | .agg parts => uptoBulkAll parts + 1
  | .iface _ d => uptoBulk d + 1
  | .map entries => uptoBulkEntries entries + 1
  | .held _ => 1
def uptoBulkAll {H : Type} : List (DataW H) → Nat
  | [] => 0
  | d :: r => uptoBulk d + uptoBulkAll r
def uptoBulkEntries {H : Type} : List (Lit × DataW H) → Nat
  | [] => 0
  | x :: r => uptoBulkEntry x + uptoBulkEntries r
def uptoBulkEntry {H : Type} : Lit × DataW H → Nat
  | (.string bytes, d) => bytes.length + uptoBulk d + 1
  | (_, d) => uptoBulk d + 1
 end
def uptoSmall : (H : Type) → List (DataW H) → Bool := fun _ ds => decide (uptoBulkAll ds ≤ 1048576)
def OpenSpec.upto (s : _root_.Go.ChangeSpec) : _root_.Go.OpenSpec := { _root_.Go.OpenSpec.ofChange s with cond := some uptoSmall }

/-- 'racelaw8.HlcStamps', WHERE WHAT IT READS IS OF BULK AT MOST 1048576: true; the input reads as it did. -/
def hlcStampsUptoRow : OpenClaim := { program := "ytmpokhjchbaleaadoor", sum := "57c9a066453f09c30672c16f9b2a06b8da02a030852b47f6d6db0e5af32cdba6", func := "headrace/racelaw8.HlcStamps", spec := "hlcStamps", named := ["internal/strconv.uint64pow10", "math/bits.deBruijn32tab", "math/bits.deBruijn64tab"], apart := false, laid := [("math/bits.deBruijn32tab", laid_math_bits_deBruijn32tab), ("math/bits.deBruijn64tab", laid_math_bits_deBruijn64tab), ("internal/strconv.uint64pow10", laid_internal_strconv_uint64pow10)], narrowed := true }
def HlcStampsUptoSaid : Prop := hlcStampsUptoRow.holds Tryd.pinned (OpenSpec.upto hlcStampsSpec)

/-- 'racelaw8.HlcTexts', WHERE WHAT IT READS IS OF BULK AT MOST 1048576: true; the input reads as it did. -/
def hlcTextsUptoRow : OpenClaim := { program := "ytmpokhjchbaleaadoor", sum := "57c9a066453f09c30672c16f9b2a06b8da02a030852b47f6d6db0e5af32cdba6", func := "headrace/racelaw8.HlcTexts", spec := "hlcTexts", inPlace := ["internal/bytealg.IndexByteString", "internal/bytealg.IndexString"], named := ["internal/strconv.uint64pow10", "math/bits.deBruijn32tab", "math/bits.deBruijn64tab", "internal/bytealg.MaxLen", "strconv.ErrSyntax", "strconv.ErrRange"], apart := false, laid := [("math/bits.deBruijn32tab", laid_math_bits_deBruijn32tab), ("math/bits.deBruijn64tab", laid_math_bits_deBruijn64tab), ("internal/strconv.uint64pow10", laid_internal_strconv_uint64pow10), ("strconv.ErrRange", laid_strconv_ErrRange), ("strconv.ErrSyntax", laid_strconv_ErrSyntax)], narrowed := true }
def HlcTextsUptoSaid : Prop := hlcTextsUptoRow.holds Tryd.pinned (OpenSpec.upto hlcTextsSpec)

/-- 'racelaw8.HlcPlays', WHERE WHAT IT READS IS OF BULK AT MOST 1048576: true; the input reads as it did. -/
def hlcPlaysUptoRow : OpenClaim := { program := "ytmpokhjchbaleaadoor", sum := "57c9a066453f09c30672c16f9b2a06b8da02a030852b47f6d6db0e5af32cdba6", func := "headrace/racelaw8.HlcPlays", spec := "hlcPlays", named := ["internal/strconv.uint64pow10", "math/bits.deBruijn32tab", "math/bits.deBruijn64tab"], apart := false, laid := [("math/bits.deBruijn32tab", laid_math_bits_deBruijn32tab), ("math/bits.deBruijn64tab", laid_math_bits_deBruijn64tab), ("internal/strconv.uint64pow10", laid_internal_strconv_uint64pow10)], narrowed := true }
def HlcPlaysUptoSaid : Prop := hlcPlaysUptoRow.holds Tryd.pinned (OpenSpec.upto hlcPlaysSpec)

/-- 'racelaw8.HlcRises', WHERE WHAT IT READS IS OF BULK AT MOST 1048576: true; the input reads as it did. -/
def hlcRisesUptoRow : OpenClaim := { program := "ytmpokhjchbaleaadoor", sum := "57c9a066453f09c30672c16f9b2a06b8da02a030852b47f6d6db0e5af32cdba6", func := "headrace/racelaw8.HlcRises", spec := "hlcRises", named := ["internal/strconv.uint64pow10", "math/bits.deBruijn32tab", "math/bits.deBruijn64tab"], apart := false, laid := [("math/bits.deBruijn32tab", laid_math_bits_deBruijn32tab), ("math/bits.deBruijn64tab", laid_math_bits_deBruijn64tab), ("internal/strconv.uint64pow10", laid_internal_strconv_uint64pow10)], narrowed := true }
def HlcRisesUptoSaid : Prop := hlcRisesUptoRow.holds Tryd.pinned (OpenSpec.upto hlcRisesSpec)

/-- 'racelaw8.HlcNext', WHERE WHAT IT READS IS OF BULK AT MOST 1048576: true; the input reads as it did. -/
def hlcNextUptoRow : OpenClaim := { program := "ytmpokhjchbaleaadoor", sum := "57c9a066453f09c30672c16f9b2a06b8da02a030852b47f6d6db0e5af32cdba6", func := "headrace/racelaw8.HlcNext", spec := "hlcNext", inPlace := ["internal/bytealg.IndexByteString", "internal/bytealg.IndexString"], named := ["internal/strconv.uint64pow10", "math/bits.deBruijn32tab", "math/bits.deBruijn64tab", "internal/bytealg.MaxLen", "strconv.ErrSyntax", "strconv.ErrRange"], apart := false, laid := [("math/bits.deBruijn32tab", laid_math_bits_deBruijn32tab), ("math/bits.deBruijn64tab", laid_math_bits_deBruijn64tab), ("internal/strconv.uint64pow10", laid_internal_strconv_uint64pow10), ("strconv.ErrRange", laid_strconv_ErrRange), ("strconv.ErrSyntax", laid_strconv_ErrSyntax)], narrowed := true }
def HlcNextUptoSaid : Prop := hlcNextUptoRow.holds Tryd.pinned (OpenSpec.upto hlcNextSpec)

/-- 'racelaw8.HlcPeeks', WHERE WHAT IT READS IS OF BULK AT MOST 1048576: true; the input reads as it did. -/
def hlcPeeksUptoRow : OpenClaim := { program := "ytmpokhjchbaleaadoor", sum := "57c9a066453f09c30672c16f9b2a06b8da02a030852b47f6d6db0e5af32cdba6", func := "headrace/racelaw8.HlcPeeks", spec := "hlcPeeks", named := ["internal/strconv.uint64pow10", "math/bits.deBruijn32tab", "math/bits.deBruijn64tab"], apart := false, laid := [("math/bits.deBruijn32tab", laid_math_bits_deBruijn32tab), ("math/bits.deBruijn64tab", laid_math_bits_deBruijn64tab), ("internal/strconv.uint64pow10", laid_internal_strconv_uint64pow10)], narrowed := true }
def HlcPeeksUptoSaid : Prop := hlcPeeksUptoRow.holds Tryd.pinned (OpenSpec.upto hlcPeeksSpec)

/-- 'racelaw8.HlcOrders', WHERE WHAT IT READS IS OF BULK AT MOST 1048576: true; the input reads as it did. -/
def hlcOrdersUptoRow : OpenClaim := { program := "ytmpokhjchbaleaadoor", sum := "57c9a066453f09c30672c16f9b2a06b8da02a030852b47f6d6db0e5af32cdba6", func := "headrace/racelaw8.HlcOrders", spec := "hlcOrders", named := ["internal/strconv.uint64pow10", "math/bits.deBruijn32tab", "math/bits.deBruijn64tab"], apart := false, laid := [("math/bits.deBruijn32tab", laid_math_bits_deBruijn32tab), ("math/bits.deBruijn64tab", laid_math_bits_deBruijn64tab), ("internal/strconv.uint64pow10", laid_internal_strconv_uint64pow10)], narrowed := true }
def HlcOrdersUptoSaid : Prop := hlcOrdersUptoRow.holds Tryd.pinned (OpenSpec.upto hlcOrdersSpec)

end Rows
end Go.Proofs.YtmpokhjchbaleaaDoor
