/-
  NARROWER THAN 'FOR EVERY INPUT', by the rows' own cells (each row's printed sentence says how): JtreeRight: loops, laid · JtreeShows: loops, laid · JtreeSames: loops, laid · JtreeWalks: loops, laid · JtreeApart: loops, laid · JtreeParts: loops, laid · JtreeHigh: laid.
  DERIVED. THE GIVEN ROWS OF THIS SEAT. 7 by the template 'for every input the law returns true; each argument reads behind the call as it read before'; 0 by the template 'total and deterministic' (their statements: YtiejpenffpjmeaaDoorTotals.lean).
  GIVEN WITH THE SEED: the statements are not yours to turn. If you find one false, say at which input.
  Laid BY PROGRAM, IN A SANDBOX (cutbox-rows.mjs): the forced cells as the released guide's own fill.sh prints them over the translation 8ba26e06cffa1182… (all of the seat's roots in one cut). By AI agents, Wed Nov 11 2026. No macro, syntax, notation, axiom, sorry.
-/
import Derived.Test.YtiejpenffpjmeaaDoorChecked
import GoSem.Claim
import GoSem.ClaimJoined
import GoSem.ClaimMapViews
import Derived.JoinedTies
import Derived.KernelRfl
namespace Go.Proofs.YtiejpenffpjmeaaDoor
/- THE CELL 'sum', in the pinned program and in every row, IS THE sha256 OF THE DUMP (.gsa) THAT YtiejpenffpjmeaaDoorProg.lean LOADS. Nothing in Lean hashes anything: it is a label: what it is worth is what the hold of that sum in a sandbox is worth. -/
noncomputable def Tryd.pinned : Pinned := { name := "ytiejpenffpjmeaadoor", sum := "8ba26e06cffa11824513477141b3c84bdba01d6d50f224605877da4ae4143db1", checked := Tryd.checked }
namespace Rows
def none {H : Type} : Left H := { results := [], args := [] }

/- WHAT THE LISTED PACKAGE-LEVEL VARIABLES READ AS WHEN THE CALL BEGINS. Each datum BY PROGRAM (the guide's laid-datum.mjs) off the statement by which the dump's own 'gosem.cut.vars' lays the variable. In a bare row this is a premise. The card (YtiejpenffpjmeaaDoorCards.lean) ties it to the program's text. -/
def laid_math_bits_deBruijn32tab {H : Type} : DataW H := .agg [.lit (.int .u8 0), .lit (.int .u8 1), .lit (.int .u8 28), .lit (.int .u8 2), .lit (.int .u8 29), .lit (.int .u8 14), .lit (.int .u8 24), .lit (.int .u8 3), .lit (.int .u8 30), .lit (.int .u8 22), .lit (.int .u8 20), .lit (.int .u8 15), .lit (.int .u8 25), .lit (.int .u8 17), .lit (.int .u8 4), .lit (.int .u8 8), .lit (.int .u8 31), .lit (.int .u8 27), .lit (.int .u8 13), .lit (.int .u8 23), .lit (.int .u8 21), .lit (.int .u8 19), .lit (.int .u8 16), .lit (.int .u8 7), .lit (.int .u8 26), .lit (.int .u8 12), .lit (.int .u8 18), .lit (.int .u8 6), .lit (.int .u8 11), .lit (.int .u8 5), .lit (.int .u8 10), .lit (.int .u8 9)]
def laid_math_bits_deBruijn64tab {H : Type} : DataW H := .agg [.lit (.int .u8 0), .lit (.int .u8 1), .lit (.int .u8 56), .lit (.int .u8 2), .lit (.int .u8 57), .lit (.int .u8 49), .lit (.int .u8 28), .lit (.int .u8 3), .lit (.int .u8 61), .lit (.int .u8 58), .lit (.int .u8 42), .lit (.int .u8 50), .lit (.int .u8 38), .lit (.int .u8 29), .lit (.int .u8 17), .lit (.int .u8 4), .lit (.int .u8 62), .lit (.int .u8 47), .lit (.int .u8 59), .lit (.int .u8 36), .lit (.int .u8 45), .lit (.int .u8 43), .lit (.int .u8 51), .lit (.int .u8 22), .lit (.int .u8 53), .lit (.int .u8 39), .lit (.int .u8 33), .lit (.int .u8 30), .lit (.int .u8 24), .lit (.int .u8 18), .lit (.int .u8 12), .lit (.int .u8 5), .lit (.int .u8 63), .lit (.int .u8 55), .lit (.int .u8 48), .lit (.int .u8 27), .lit (.int .u8 60), .lit (.int .u8 41), .lit (.int .u8 37), .lit (.int .u8 16), .lit (.int .u8 46), .lit (.int .u8 35), .lit (.int .u8 44), .lit (.int .u8 21), .lit (.int .u8 52), .lit (.int .u8 32), .lit (.int .u8 23), .lit (.int .u8 11), .lit (.int .u8 54), .lit (.int .u8 26), .lit (.int .u8 40), .lit (.int .u8 15), .lit (.int .u8 34), .lit (.int .u8 20), .lit (.int .u8 31), .lit (.int .u8 10), .lit (.int .u8 25), .lit (.int .u8 14), .lit (.int .u8 19), .lit (.int .u8 9), .lit (.int .u8 13), .lit (.int .u8 8), .lit (.int .u8 7), .lit (.int .u8 6)]
def laid_internal_strconv_uint64pow10 {H : Type} : DataW H := .agg [.lit (.int .u64 1), .lit (.int .u64 10), .lit (.int .u64 100), .lit (.int .u64 1000), .lit (.int .u64 10000), .lit (.int .u64 100000), .lit (.int .u64 1000000), .lit (.int .u64 10000000), .lit (.int .u64 100000000), .lit (.int .u64 1000000000), .lit (.int .u64 10000000000), .lit (.int .u64 100000000000), .lit (.int .u64 1000000000000), .lit (.int .u64 10000000000000), .lit (.int .u64 100000000000000), .lit (.int .u64 1000000000000000), .lit (.int .u64 10000000000000000), .lit (.int .u64 100000000000000000), .lit (.int .u64 1000000000000000000), .lit (.int .u64 10000000000000000000)]

/-- 'gumshoelaw03.JtreeRight': WHATEVER THE INPUT: true; the input reads as it did. -/
def jtreeRightSpec : ChangeSpec := { name := "jtreeRight", fn := fun _ => fun
  | [d] => { results := [.lit (.bool true)], args := [d] }
  | _ => none }
def jtreeRightRow : OpenClaim := { program := "ytiejpenffpjmeaadoor", sum := "8ba26e06cffa11824513477141b3c84bdba01d6d50f224605877da4ae4143db1", func := "gumshoe/gumshoelaw03.JtreeRight", spec := "jtreeRight", unfollowed := true, recurses := true, named := ["internal/strconv.uint64pow10", "math/bits.deBruijn32tab", "math/bits.deBruijn64tab"], loops := true, apart := false, laid := [("math/bits.deBruijn32tab", laid_math_bits_deBruijn32tab), ("math/bits.deBruijn64tab", laid_math_bits_deBruijn64tab), ("internal/strconv.uint64pow10", laid_internal_strconv_uint64pow10)] }
def JtreeRightSaid : Prop := jtreeRightRow.holds Tryd.pinned (OpenSpec.ofChange jtreeRightSpec)

/-- ITS FALSE NEIGHBOUR: 'it returns false'. Refute it at one input. -/
def jtreeRightWrong : ChangeSpec := { name := "jtreeRight", fn := fun _ => fun
  | [d] => { results := [.lit (.bool false)], args := [d] }
  | _ => none }
def JtreeRightWrongFalsely : Prop := jtreeRightRow.holds Tryd.pinned (OpenSpec.ofChange jtreeRightWrong)

/-- 'gumshoelaw03.JtreeShows': WHATEVER THE INPUT: true; the input reads as it did. -/
def jtreeShowsSpec : ChangeSpec := { name := "jtreeShows", fn := fun _ => fun
  | [d] => { results := [.lit (.bool true)], args := [d] }
  | _ => none }
def jtreeShowsRow : OpenClaim := { program := "ytiejpenffpjmeaadoor", sum := "8ba26e06cffa11824513477141b3c84bdba01d6d50f224605877da4ae4143db1", func := "gumshoe/gumshoelaw03.JtreeShows", spec := "jtreeShows", unfollowed := true, recurses := true, named := ["internal/strconv.uint64pow10", "math/bits.deBruijn32tab", "math/bits.deBruijn64tab"], loops := true, apart := false, laid := [("math/bits.deBruijn32tab", laid_math_bits_deBruijn32tab), ("math/bits.deBruijn64tab", laid_math_bits_deBruijn64tab), ("internal/strconv.uint64pow10", laid_internal_strconv_uint64pow10)] }
def JtreeShowsSaid : Prop := jtreeShowsRow.holds Tryd.pinned (OpenSpec.ofChange jtreeShowsSpec)

/-- ITS FALSE NEIGHBOUR: 'it returns false'. Refute it at one input. -/
def jtreeShowsWrong : ChangeSpec := { name := "jtreeShows", fn := fun _ => fun
  | [d] => { results := [.lit (.bool false)], args := [d] }
  | _ => none }
def JtreeShowsWrongFalsely : Prop := jtreeShowsRow.holds Tryd.pinned (OpenSpec.ofChange jtreeShowsWrong)

/-- 'gumshoelaw03.JtreeSames': WHATEVER THE INPUT: true; the input reads as it did. -/
def jtreeSamesSpec : ChangeSpec := { name := "jtreeSames", fn := fun _ => fun
  | [d1, d2] => { results := [.lit (.bool true)], args := [d1, d2] }
  | _ => none }
def jtreeSamesRow : OpenClaim := { program := "ytiejpenffpjmeaadoor", sum := "8ba26e06cffa11824513477141b3c84bdba01d6d50f224605877da4ae4143db1", func := "gumshoe/gumshoelaw03.JtreeSames", spec := "jtreeSames", unfollowed := true, recurses := true, named := ["internal/strconv.uint64pow10", "math/bits.deBruijn32tab", "math/bits.deBruijn64tab"], loops := true, apart := false, laid := [("math/bits.deBruijn32tab", laid_math_bits_deBruijn32tab), ("math/bits.deBruijn64tab", laid_math_bits_deBruijn64tab), ("internal/strconv.uint64pow10", laid_internal_strconv_uint64pow10)] }
def JtreeSamesSaid : Prop := jtreeSamesRow.holds Tryd.pinned (OpenSpec.ofChange jtreeSamesSpec)

/-- ITS FALSE NEIGHBOUR: 'it returns false'. Refute it at one input. -/
def jtreeSamesWrong : ChangeSpec := { name := "jtreeSames", fn := fun _ => fun
  | [d1, d2] => { results := [.lit (.bool false)], args := [d1, d2] }
  | _ => none }
def JtreeSamesWrongFalsely : Prop := jtreeSamesRow.holds Tryd.pinned (OpenSpec.ofChange jtreeSamesWrong)

/-- 'gumshoelaw03.JtreeWalks': WHATEVER THE INPUT: true; the input reads as it did. -/
def jtreeWalksSpec : ChangeSpec := { name := "jtreeWalks", fn := fun _ => fun
  | [d1, d2] => { results := [.lit (.bool true)], args := [d1, d2] }
  | _ => none }
def jtreeWalksRow : OpenClaim := { program := "ytiejpenffpjmeaadoor", sum := "8ba26e06cffa11824513477141b3c84bdba01d6d50f224605877da4ae4143db1", func := "gumshoe/gumshoelaw03.JtreeWalks", spec := "jtreeWalks", unfollowed := true, recurses := true, named := ["internal/strconv.uint64pow10", "math/bits.deBruijn32tab", "math/bits.deBruijn64tab"], loops := true, apart := false, laid := [("math/bits.deBruijn32tab", laid_math_bits_deBruijn32tab), ("math/bits.deBruijn64tab", laid_math_bits_deBruijn64tab), ("internal/strconv.uint64pow10", laid_internal_strconv_uint64pow10)] }
def JtreeWalksSaid : Prop := jtreeWalksRow.holds Tryd.pinned (OpenSpec.ofChange jtreeWalksSpec)

/-- ITS FALSE NEIGHBOUR: 'it returns false'. Refute it at one input. -/
def jtreeWalksWrong : ChangeSpec := { name := "jtreeWalks", fn := fun _ => fun
  | [d1, d2] => { results := [.lit (.bool false)], args := [d1, d2] }
  | _ => none }
def JtreeWalksWrongFalsely : Prop := jtreeWalksRow.holds Tryd.pinned (OpenSpec.ofChange jtreeWalksWrong)

/-- 'gumshoelaw03.JtreeApart': WHATEVER THE INPUT: true; the input reads as it did. -/
def jtreeApartSpec : ChangeSpec := { name := "jtreeApart", fn := fun _ => fun
  | [d1, d2] => { results := [.lit (.bool true)], args := [d1, d2] }
  | _ => none }
def jtreeApartRow : OpenClaim := { program := "ytiejpenffpjmeaadoor", sum := "8ba26e06cffa11824513477141b3c84bdba01d6d50f224605877da4ae4143db1", func := "gumshoe/gumshoelaw03.JtreeApart", spec := "jtreeApart", unfollowed := true, recurses := true, named := ["internal/strconv.uint64pow10", "math/bits.deBruijn32tab", "math/bits.deBruijn64tab"], loops := true, apart := false, laid := [("math/bits.deBruijn32tab", laid_math_bits_deBruijn32tab), ("math/bits.deBruijn64tab", laid_math_bits_deBruijn64tab), ("internal/strconv.uint64pow10", laid_internal_strconv_uint64pow10)] }
def JtreeApartSaid : Prop := jtreeApartRow.holds Tryd.pinned (OpenSpec.ofChange jtreeApartSpec)

/-- ITS FALSE NEIGHBOUR: 'it returns false'. Refute it at one input. -/
def jtreeApartWrong : ChangeSpec := { name := "jtreeApart", fn := fun _ => fun
  | [d1, d2] => { results := [.lit (.bool false)], args := [d1, d2] }
  | _ => none }
def JtreeApartWrongFalsely : Prop := jtreeApartRow.holds Tryd.pinned (OpenSpec.ofChange jtreeApartWrong)

/-- 'gumshoelaw03.JtreeParts': WHATEVER THE INPUT: true; the input reads as it did. -/
def jtreePartsSpec : ChangeSpec := { name := "jtreeParts", fn := fun _ => fun
  | [d] => { results := [.lit (.bool true)], args := [d] }
  | _ => none }
def jtreePartsRow : OpenClaim := { program := "ytiejpenffpjmeaadoor", sum := "8ba26e06cffa11824513477141b3c84bdba01d6d50f224605877da4ae4143db1", func := "gumshoe/gumshoelaw03.JtreeParts", spec := "jtreeParts", unfollowed := true, recurses := true, named := ["internal/strconv.uint64pow10", "math/bits.deBruijn32tab", "math/bits.deBruijn64tab"], loops := true, apart := false, laid := [("math/bits.deBruijn32tab", laid_math_bits_deBruijn32tab), ("math/bits.deBruijn64tab", laid_math_bits_deBruijn64tab), ("internal/strconv.uint64pow10", laid_internal_strconv_uint64pow10)] }
def JtreePartsSaid : Prop := jtreePartsRow.holds Tryd.pinned (OpenSpec.ofChange jtreePartsSpec)

/-- ITS FALSE NEIGHBOUR: 'it returns false'. Refute it at one input. -/
def jtreePartsWrong : ChangeSpec := { name := "jtreeParts", fn := fun _ => fun
  | [d] => { results := [.lit (.bool false)], args := [d] }
  | _ => none }
def JtreePartsWrongFalsely : Prop := jtreePartsRow.holds Tryd.pinned (OpenSpec.ofChange jtreePartsWrong)

/-- 'gumshoelaw03.JtreeHigh': WHATEVER THE INPUT: true; the input reads as it did. -/
def jtreeHighSpec : ChangeSpec := { name := "jtreeHigh", fn := fun _ => fun
  | [d] => { results := [.lit (.bool true)], args := [d] }
  | _ => none }
def jtreeHighRow : OpenClaim := { program := "ytiejpenffpjmeaadoor", sum := "8ba26e06cffa11824513477141b3c84bdba01d6d50f224605877da4ae4143db1", func := "gumshoe/gumshoelaw03.JtreeHigh", spec := "jtreeHigh", unfollowed := true, recurses := true, named := ["internal/strconv.uint64pow10", "math/bits.deBruijn32tab", "math/bits.deBruijn64tab"], apart := false, laid := [("math/bits.deBruijn32tab", laid_math_bits_deBruijn32tab), ("math/bits.deBruijn64tab", laid_math_bits_deBruijn64tab), ("internal/strconv.uint64pow10", laid_internal_strconv_uint64pow10)] }
def JtreeHighSaid : Prop := jtreeHighRow.holds Tryd.pinned (OpenSpec.ofChange jtreeHighSpec)

/-- ITS FALSE NEIGHBOUR: 'it returns false'. Refute it at one input. -/
def jtreeHighWrong : ChangeSpec := { name := "jtreeHigh", fn := fun _ => fun
  | [d] => { results := [.lit (.bool false)], args := [d] }
  | _ => none }
def JtreeHighWrongFalsely : Prop := jtreeHighRow.holds Tryd.pinned (OpenSpec.ofChange jtreeHighWrong)

/- THE SECOND FORM. 'bulk': how many values and letters a reading holds, each counted each time it is reached (what is shared counts as often as it is met; a slice's spare places count too). A statement '..UptoSaid' is the law's where the arguments, and the package variables that the reading takes, are together of bulk at most 1048576: NARROWER than '..Said'. Prove '..Said' where nothing that the law and all that it calls make is longer than what came in: it says more and counts as full. Else prove '..UptoSaid'. A law counts once. -/
mutual
def uptoBulk {H : Type} : DataW H → Nat
  | .lit (.string bytes) => bytes.length + 1
  | .lit _ => 1
  | .nil => 1
  | .ptr d => uptoBulk d + 1
  | .slice elems spare => uptoBulkAll elems + uptoBulkAll spare + 1
  | .agg parts => uptoBulkAll parts + 1
  | .iface _ d => uptoBulk d + 1
  | .map entries => uptoBulkEntries entries + 1
  | .held _ => 1
def uptoBulkAll {H : Type} : List (DataW H) → Nat
  | [] => 0
  | d :: r => uptoBulk d + uptoBulkAll r
def uptoBulkEntries {H : Type} : List (Lit × DataW H) → Nat
  | [] => 0
  | x :: r => uptoBulkEntry x + uptoBulkEntries r
def uptoBulkEntry {H : Type} : Lit × DataW H → Nat
  | (.string bytes, d) => bytes.length + uptoBulk d + 1
  | (_, d) => uptoBulk d + 1
 end
def uptoSmall : (H : Type) → List (DataW H) → Bool := fun _ ds => decide (uptoBulkAll ds ≤ 1048576)
def OpenSpec.upto (s : _root_.Go.ChangeSpec) : _root_.Go.OpenSpec := { _root_.Go.OpenSpec.ofChange s with cond := some uptoSmall }

/-- 'gumshoelaw03.JtreeRight', WHERE WHAT IT READS IS OF BULK AT MOST 1048576: true; the input reads as it did. -/
def jtreeRightUptoRow : OpenClaim := { program := "ytiejpenffpjmeaadoor", sum := "8ba26e06cffa11824513477141b3c84bdba01d6d50f224605877da4ae4143db1", func := "gumshoe/gumshoelaw03.JtreeRight", spec := "jtreeRight", unfollowed := true, recurses := true, named := ["internal/strconv.uint64pow10", "math/bits.deBruijn32tab", "math/bits.deBruijn64tab"], loops := true, apart := false, laid := [("math/bits.deBruijn32tab", laid_math_bits_deBruijn32tab), ("math/bits.deBruijn64tab", laid_math_bits_deBruijn64tab), ("internal/strconv.uint64pow10", laid_internal_strconv_uint64pow10)], narrowed := true }
def JtreeRightUptoSaid : Prop := jtreeRightUptoRow.holds Tryd.pinned (OpenSpec.upto jtreeRightSpec)

/-- 'gumshoelaw03.JtreeShows', WHERE WHAT IT READS IS OF BULK AT MOST 1048576: true; the input reads as it did. -/
def jtreeShowsUptoRow : OpenClaim := { program := "ytiejpenffpjmeaadoor", sum := "8ba26e06cffa11824513477141b3c84bdba01d6d50f224605877da4ae4143db1", func := "gumshoe/gumshoelaw03.JtreeShows", spec := "jtreeShows", unfollowed := true, recurses := true, named := ["internal/strconv.uint64pow10", "math/bits.deBruijn32tab", "math/bits.deBruijn64tab"], loops := true, apart := false, laid := [("math/bits.deBruijn32tab", laid_math_bits_deBruijn32tab), ("math/bits.deBruijn64tab", laid_math_bits_deBruijn64tab), ("internal/strconv.uint64pow10", laid_internal_strconv_uint64pow10)], narrowed := true }
def JtreeShowsUptoSaid : Prop := jtreeShowsUptoRow.holds Tryd.pinned (OpenSpec.upto jtreeShowsSpec)

/-- 'gumshoelaw03.JtreeSames', WHERE WHAT IT READS IS OF BULK AT MOST 1048576: true; the input reads as it did. -/
def jtreeSamesUptoRow : OpenClaim := { program := "ytiejpenffpjmeaadoor", sum := "8ba26e06cffa11824513477141b3c84bdba01d6d50f224605877da4ae4143db1", func := "gumshoe/gumshoelaw03.JtreeSames", spec := "jtreeSames", unfollowed := true, recurses := true, named := ["internal/strconv.uint64pow10", "math/bits.deBruijn32tab", "math/bits.deBruijn64tab"], loops := true, apart := false, laid := [("math/bits.deBruijn32tab", laid_math_bits_deBruijn32tab), ("math/bits.deBruijn64tab", laid_math_bits_deBruijn64tab), ("internal/strconv.uint64pow10", laid_internal_strconv_uint64pow10)], narrowed := true }
def JtreeSamesUptoSaid : Prop := jtreeSamesUptoRow.holds Tryd.pinned (OpenSpec.upto jtreeSamesSpec)

/-- 'gumshoelaw03.JtreeWalks', WHERE WHAT IT READS IS OF BULK AT MOST 1048576: true; the input reads as it did. -/
def jtreeWalksUptoRow : OpenClaim := { program := "ytiejpenffpjmeaadoor", sum := "8ba26e06cffa11824513477141b3c84bdba01d6d50f224605877da4ae4143db1", func := "gumshoe/gumshoelaw03.JtreeWalks", spec := "jtreeWalks", unfollowed := true, recurses := true, named := ["internal/strconv.uint64pow10", "math/bits.deBruijn32tab", "math/bits.deBruijn64tab"], loops := true, apart := false, laid := [("math/bits.deBruijn32tab", laid_math_bits_deBruijn32tab), ("math/bits.deBruijn64tab", laid_math_bits_deBruijn64tab), ("internal/strconv.uint64pow10", laid_internal_strconv_uint64pow10)], narrowed := true }
def JtreeWalksUptoSaid : Prop := jtreeWalksUptoRow.holds Tryd.pinned (OpenSpec.upto jtreeWalksSpec)

/-- 'gumshoelaw03.JtreeApart', WHERE WHAT IT READS IS OF BULK AT MOST 1048576: true; the input reads as it did. -/
def jtreeApartUptoRow : OpenClaim := { program := "ytiejpenffpjmeaadoor", sum := "8ba26e06cffa11824513477141b3c84bdba01d6d50f224605877da4ae4143db1", func := "gumshoe/gumshoelaw03.JtreeApart", spec := "jtreeApart", unfollowed := true, recurses := true, named := ["internal/strconv.uint64pow10", "math/bits.deBruijn32tab", "math/bits.deBruijn64tab"], loops := true, apart := false, laid := [("math/bits.deBruijn32tab", laid_math_bits_deBruijn32tab), ("math/bits.deBruijn64tab", laid_math_bits_deBruijn64tab), ("internal/strconv.uint64pow10", laid_internal_strconv_uint64pow10)], narrowed := true }
def JtreeApartUptoSaid : Prop := jtreeApartUptoRow.holds Tryd.pinned (OpenSpec.upto jtreeApartSpec)

/-- 'gumshoelaw03.JtreeParts', WHERE WHAT IT READS IS OF BULK AT MOST 1048576: true; the input reads as it did. -/
def jtreePartsUptoRow : OpenClaim := { program := "ytiejpenffpjmeaadoor", sum := "8ba26e06cffa11824513477141b3c84bdba01d6d50f224605877da4ae4143db1", func := "gumshoe/gumshoelaw03.JtreeParts", spec := "jtreeParts", unfollowed := true, recurses := true, named := ["internal/strconv.uint64pow10", "math/bits.deBruijn32tab", "math/bits.deBruijn64tab"], loops := true, apart := false, laid := [("math/bits.deBruijn32tab", laid_math_bits_deBruijn32tab), ("math/bits.deBruijn64tab", laid_math_bits_deBruijn64tab), ("internal/strconv.uint64pow10", laid_internal_strconv_uint64pow10)], narrowed := true }
def JtreePartsUptoSaid : Prop := jtreePartsUptoRow.holds Tryd.pinned (OpenSpec.upto jtreePartsSpec)

/-- 'gumshoelaw03.JtreeHigh', WHERE WHAT IT READS IS OF BULK AT MOST 1048576: true; the input reads as it did. -/
def jtreeHighUptoRow : OpenClaim := { program := "ytiejpenffpjmeaadoor", sum := "8ba26e06cffa11824513477141b3c84bdba01d6d50f224605877da4ae4143db1", func := "gumshoe/gumshoelaw03.JtreeHigh", spec := "jtreeHigh", unfollowed := true, recurses := true, named := ["internal/strconv.uint64pow10", "math/bits.deBruijn32tab", "math/bits.deBruijn64tab"], apart := false, laid := [("math/bits.deBruijn32tab", laid_math_bits_deBruijn32tab), ("math/bits.deBruijn64tab", laid_math_bits_deBruijn64tab), ("internal/strconv.uint64pow10", laid_internal_strconv_uint64pow10)], narrowed := true }
def JtreeHighUptoSaid : Prop := jtreeHighUptoRow.holds Tryd.pinned (OpenSpec.upto jtreeHighSpec)

end Rows
end Go.Proofs.YtiejpenffpjmeaaDoor
