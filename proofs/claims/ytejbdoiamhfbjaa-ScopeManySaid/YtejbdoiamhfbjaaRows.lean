/-
  NARROWER THAN 'FOR EVERY INPUT', by the rows' own cells (each row's printed sentence says how): ScopeResolves: loops · ScopeSame: loops · ScopeNames: loops · ScopeLines: loops · ScopeRanges: loops · ScopeMarks: loops.
  DERIVED. THE GIVEN ROWS OF THIS SEAT. 8 by the template 'for every input the law returns true; each argument reads behind the call as it read before'; 0 by the template 'total and deterministic' (their statements: YtejbdoiamhfbjaaTotals.lean).
  GIVEN WITH THE SEED: the statements are not yours to turn. If you find one false, say at which input.
  Laid BY PROGRAM, IN A SANDBOX (cutbox-rows.mjs): the forced cells as the released guide's own fill.sh prints them over the translation b7c026387a115e50… (all of the seat's roots in one cut). By AI agents, Wed Nov 11 2026. No macro, syntax, notation, axiom, sorry.
-/
import Derived.Test.YtejbdoiamhfbjaaChecked
import GoSem.Claim
import GoSem.ClaimJoined
import GoSem.ClaimMapViews
import Derived.JoinedTies
import Derived.KernelRfl
namespace Go.Proofs.Ytejbdoiamhfbjaa
/- THE CELL 'sum', in the pinned program and in every row, IS THE sha256 OF THE DUMP (.gsa) THAT YtejbdoiamhfbjaaProg.lean LOADS. Nothing in Lean hashes anything: it is a label: what it is worth is what the hold of that sum in a sandbox is worth. -/
noncomputable def Try.pinned : Pinned := { name := "ytejbdoiamhfbjaa", sum := "b7c026387a115e504abe9985acca566e3bfd8c0cb8ff056cc1e106e3407cb37b", checked := Try.checked }
namespace Rows
def none {H : Type} : Left H := { results := [], args := [] }

/-- 'gumshoelaw05.ScopeResolves': WHATEVER THE INPUT: true; the input reads as it did. -/
def scopeResolvesSpec : ChangeSpec := { name := "scopeResolves", fn := fun _ => fun
  | [d] => { results := [.lit (.bool true)], args := [d] }
  | _ => none }
def scopeResolvesRow : OpenClaim := { program := "ytejbdoiamhfbjaa", sum := "b7c026387a115e504abe9985acca566e3bfd8c0cb8ff056cc1e106e3407cb37b", func := "gumshoe/gumshoelaw05.ScopeResolves", spec := "scopeResolves", unfollowed := true, recurses := true, loops := true, apart := false }
def ScopeResolvesSaid : Prop := scopeResolvesRow.holds Try.pinned (OpenSpec.ofChange scopeResolvesSpec)

/-- ITS FALSE NEIGHBOUR: 'it returns false'. Refute it at one input. -/
def scopeResolvesWrong : ChangeSpec := { name := "scopeResolves", fn := fun _ => fun
  | [d] => { results := [.lit (.bool false)], args := [d] }
  | _ => none }
def ScopeResolvesWrongFalsely : Prop := scopeResolvesRow.holds Try.pinned (OpenSpec.ofChange scopeResolvesWrong)

/-- 'gumshoelaw05.ScopeTexts': WHATEVER THE INPUT: true; the input reads as it did. -/
def scopeTextsSpec : ChangeSpec := { name := "scopeTexts", fn := fun _ => fun
  | [d] => { results := [.lit (.bool true)], args := [d] }
  | _ => none }
def scopeTextsRow : OpenClaim := { program := "ytejbdoiamhfbjaa", sum := "b7c026387a115e504abe9985acca566e3bfd8c0cb8ff056cc1e106e3407cb37b", func := "gumshoe/gumshoelaw05.ScopeTexts", spec := "scopeTexts", unfollowed := true, recurses := true, apart := false }
def ScopeTextsSaid : Prop := scopeTextsRow.holds Try.pinned (OpenSpec.ofChange scopeTextsSpec)

/-- ITS FALSE NEIGHBOUR: 'it returns false'. Refute it at one input. -/
def scopeTextsWrong : ChangeSpec := { name := "scopeTexts", fn := fun _ => fun
  | [d] => { results := [.lit (.bool false)], args := [d] }
  | _ => none }
def ScopeTextsWrongFalsely : Prop := scopeTextsRow.holds Try.pinned (OpenSpec.ofChange scopeTextsWrong)

/-- 'gumshoelaw05.ScopeSame': WHATEVER THE INPUT: true; the input reads as it did. -/
def scopeSameSpec : ChangeSpec := { name := "scopeSame", fn := fun _ => fun
  | [d] => { results := [.lit (.bool true)], args := [d] }
  | _ => none }
def scopeSameRow : OpenClaim := { program := "ytejbdoiamhfbjaa", sum := "b7c026387a115e504abe9985acca566e3bfd8c0cb8ff056cc1e106e3407cb37b", func := "gumshoe/gumshoelaw05.ScopeSame", spec := "scopeSame", unfollowed := true, recurses := true, loops := true, apart := false }
def ScopeSameSaid : Prop := scopeSameRow.holds Try.pinned (OpenSpec.ofChange scopeSameSpec)

/-- ITS FALSE NEIGHBOUR: 'it returns false'. Refute it at one input. -/
def scopeSameWrong : ChangeSpec := { name := "scopeSame", fn := fun _ => fun
  | [d] => { results := [.lit (.bool false)], args := [d] }
  | _ => none }
def ScopeSameWrongFalsely : Prop := scopeSameRow.holds Try.pinned (OpenSpec.ofChange scopeSameWrong)

/-- 'gumshoelaw05.ScopeNames': WHATEVER THE INPUT: true; the input reads as it did. -/
def scopeNamesSpec : ChangeSpec := { name := "scopeNames", fn := fun _ => fun
  | [d] => { results := [.lit (.bool true)], args := [d] }
  | _ => none }
def scopeNamesRow : OpenClaim := { program := "ytejbdoiamhfbjaa", sum := "b7c026387a115e504abe9985acca566e3bfd8c0cb8ff056cc1e106e3407cb37b", func := "gumshoe/gumshoelaw05.ScopeNames", spec := "scopeNames", unfollowed := true, recurses := true, loops := true, apart := false }
def ScopeNamesSaid : Prop := scopeNamesRow.holds Try.pinned (OpenSpec.ofChange scopeNamesSpec)

/-- ITS FALSE NEIGHBOUR: 'it returns false'. Refute it at one input. -/
def scopeNamesWrong : ChangeSpec := { name := "scopeNames", fn := fun _ => fun
  | [d] => { results := [.lit (.bool false)], args := [d] }
  | _ => none }
def ScopeNamesWrongFalsely : Prop := scopeNamesRow.holds Try.pinned (OpenSpec.ofChange scopeNamesWrong)

/-- 'gumshoelaw05.ScopeLines': WHATEVER THE INPUT: true; the input reads as it did. -/
def scopeLinesSpec : ChangeSpec := { name := "scopeLines", fn := fun _ => fun
  | [d1, d2] => { results := [.lit (.bool true)], args := [d1, d2] }
  | _ => none }
def scopeLinesRow : OpenClaim := { program := "ytejbdoiamhfbjaa", sum := "b7c026387a115e504abe9985acca566e3bfd8c0cb8ff056cc1e106e3407cb37b", func := "gumshoe/gumshoelaw05.ScopeLines", spec := "scopeLines", unfollowed := true, recurses := true, loops := true, apart := false }
def ScopeLinesSaid : Prop := scopeLinesRow.holds Try.pinned (OpenSpec.ofChange scopeLinesSpec)

/-- ITS FALSE NEIGHBOUR: 'it returns false'. Refute it at one input. -/
def scopeLinesWrong : ChangeSpec := { name := "scopeLines", fn := fun _ => fun
  | [d1, d2] => { results := [.lit (.bool false)], args := [d1, d2] }
  | _ => none }
def ScopeLinesWrongFalsely : Prop := scopeLinesRow.holds Try.pinned (OpenSpec.ofChange scopeLinesWrong)

/-- 'gumshoelaw05.ScopeRanges': WHATEVER THE INPUT: true; the input reads as it did. -/
def scopeRangesSpec : ChangeSpec := { name := "scopeRanges", fn := fun _ => fun
  | [d] => { results := [.lit (.bool true)], args := [d] }
  | _ => none }
def scopeRangesRow : OpenClaim := { program := "ytejbdoiamhfbjaa", sum := "b7c026387a115e504abe9985acca566e3bfd8c0cb8ff056cc1e106e3407cb37b", func := "gumshoe/gumshoelaw05.ScopeRanges", spec := "scopeRanges", unfollowed := true, recurses := true, loops := true, apart := false }
def ScopeRangesSaid : Prop := scopeRangesRow.holds Try.pinned (OpenSpec.ofChange scopeRangesSpec)

/-- ITS FALSE NEIGHBOUR: 'it returns false'. Refute it at one input. -/
def scopeRangesWrong : ChangeSpec := { name := "scopeRanges", fn := fun _ => fun
  | [d] => { results := [.lit (.bool false)], args := [d] }
  | _ => none }
def ScopeRangesWrongFalsely : Prop := scopeRangesRow.holds Try.pinned (OpenSpec.ofChange scopeRangesWrong)

/-- 'gumshoelaw05.ScopeMany': WHATEVER THE INPUT: true; the input reads as it did. -/
def scopeManySpec : ChangeSpec := { name := "scopeMany", fn := fun _ => fun
  | [d1, d2] => { results := [.lit (.bool true)], args := [d1, d2] }
  | _ => none }
def scopeManyRow : OpenClaim := { program := "ytejbdoiamhfbjaa", sum := "b7c026387a115e504abe9985acca566e3bfd8c0cb8ff056cc1e106e3407cb37b", func := "gumshoe/gumshoelaw05.ScopeMany", spec := "scopeMany", unfollowed := true, recurses := true, apart := false }
def ScopeManySaid : Prop := scopeManyRow.holds Try.pinned (OpenSpec.ofChange scopeManySpec)

/-- ITS FALSE NEIGHBOUR: 'it returns false'. Refute it at one input. -/
def scopeManyWrong : ChangeSpec := { name := "scopeMany", fn := fun _ => fun
  | [d1, d2] => { results := [.lit (.bool false)], args := [d1, d2] }
  | _ => none }
def ScopeManyWrongFalsely : Prop := scopeManyRow.holds Try.pinned (OpenSpec.ofChange scopeManyWrong)

/-- 'gumshoelaw05.ScopeMarks': WHATEVER THE INPUT: true; the input reads as it did. -/
def scopeMarksSpec : ChangeSpec := { name := "scopeMarks", fn := fun _ => fun
  | [d] => { results := [.lit (.bool true)], args := [d] }
  | _ => none }
def scopeMarksRow : OpenClaim := { program := "ytejbdoiamhfbjaa", sum := "b7c026387a115e504abe9985acca566e3bfd8c0cb8ff056cc1e106e3407cb37b", func := "gumshoe/gumshoelaw05.ScopeMarks", spec := "scopeMarks", unfollowed := true, recurses := true, loops := true, apart := false }
def ScopeMarksSaid : Prop := scopeMarksRow.holds Try.pinned (OpenSpec.ofChange scopeMarksSpec)

/-- ITS FALSE NEIGHBOUR: 'it returns false'. Refute it at one input. -/
def scopeMarksWrong : ChangeSpec := { name := "scopeMarks", fn := fun _ => fun
  | [d] => { results := [.lit (.bool false)], args := [d] }
  | _ => none }
def ScopeMarksWrongFalsely : Prop := scopeMarksRow.holds Try.pinned (OpenSpec.ofChange scopeMarksWrong)

/- THE SECOND FORM. 'bulk': how many values and letters a reading holds, each counted each time it is reached (what is shared counts as often as it is met; a slice's spare places count too). A statement '..UptoSaid' is the law's where the arguments, and the package variables that the reading takes, are together of bulk at most 1048576: NARROWER than '..Said'. Prove '..Said' where nothing that the law and all that it calls make is longer than what came in: it says more and counts as full. Else prove '..UptoSaid'. A law counts once. -/
mutual
def uptoBulk {H : Type} : DataW H → Nat
  | .lit (.string bytes) => bytes.length + 1
  | .lit _ => 1
  | .nil => 1
  | .ptr d => uptoBulk d + 1
  | .slice elems spare => uptoBulkAll elems + uptoBulkAll spare + 1
  | .agg parts => uptoBulkAll parts + 1
  | .iface _ d => uptoBulk d + 1
  | .map entries => uptoBulkEntries entries + 1
  | .held _ => 1
def uptoBulkAll {H : Type} : List (DataW H) → Nat
  | [] => 0
  | d :: r => uptoBulk d + uptoBulkAll r
def uptoBulkEntries {H : Type} : List (Lit × DataW H) → Nat
  | [] => 0
  | x :: r => uptoBulkEntry x + uptoBulkEntries r
def uptoBulkEntry {H : Type} : Lit × DataW H → Nat
  | (.string bytes, d) => bytes.length + uptoBulk d + 1
  | (_, d) => uptoBulk d + 1
 end
def uptoSmall : (H : Type) → List (DataW H) → Bool := fun _ ds => decide (uptoBulkAll ds ≤ 1048576)
def OpenSpec.upto (s : _root_.Go.ChangeSpec) : _root_.Go.OpenSpec := { _root_.Go.OpenSpec.ofChange s with cond := some uptoSmall }

/-- 'gumshoelaw05.ScopeResolves', WHERE WHAT IT READS IS OF BULK AT MOST 1048576: true; the input reads as it did. -/
def scopeResolvesUptoRow : OpenClaim := { program := "ytejbdoiamhfbjaa", sum := "b7c026387a115e504abe9985acca566e3bfd8c0cb8ff056cc1e106e3407cb37b", func := "gumshoe/gumshoelaw05.ScopeResolves", spec := "scopeResolves", unfollowed := true, recurses := true, loops := true, apart := false, narrowed := true }
def ScopeResolvesUptoSaid : Prop := scopeResolvesUptoRow.holds Try.pinned (OpenSpec.upto scopeResolvesSpec)

/-- 'gumshoelaw05.ScopeTexts', WHERE WHAT IT READS IS OF BULK AT MOST 1048576: true; the input reads as it did. -/
def scopeTextsUptoRow : OpenClaim := { program := "ytejbdoiamhfbjaa", sum := "b7c026387a115e504abe9985acca566e3bfd8c0cb8ff056cc1e106e3407cb37b", func := "gumshoe/gumshoelaw05.ScopeTexts", spec := "scopeTexts", unfollowed := true, recurses := true, apart := false, narrowed := true }
def ScopeTextsUptoSaid : Prop := scopeTextsUptoRow.holds Try.pinned (OpenSpec.upto scopeTextsSpec)

/-- 'gumshoelaw05.ScopeSame', WHERE WHAT IT READS IS OF BULK AT MOST 1048576: true; the input reads as it did. -/
def scopeSameUptoRow : OpenClaim := { program := "ytejbdoiamhfbjaa", sum := "b7c026387a115e504abe9985acca566e3bfd8c0cb8ff056cc1e106e3407cb37b", func := "gumshoe/gumshoelaw05.ScopeSame", spec := "scopeSame", unfollowed := true, recurses := true, loops := true, apart := false, narrowed := true }
def ScopeSameUptoSaid : Prop := scopeSameUptoRow.holds Try.pinned (OpenSpec.upto scopeSameSpec)

/-- 'gumshoelaw05.ScopeNames', WHERE WHAT IT READS IS OF BULK AT MOST 1048576: true; the input reads as it did. -/
def scopeNamesUptoRow : OpenClaim := { program := "ytejbdoiamhfbjaa", sum := "b7c026387a115e504abe9985acca566e3bfd8c0cb8ff056cc1e106e3407cb37b", func := "gumshoe/gumshoelaw05.ScopeNames", spec := "scopeNames", unfollowed := true, recurses := true, loops := true, apart := false, narrowed := true }
def ScopeNamesUptoSaid : Prop := scopeNamesUptoRow.holds Try.pinned (OpenSpec.upto scopeNamesSpec)

/-- 'gumshoelaw05.ScopeLines', WHERE WHAT IT READS IS OF BULK AT MOST 1048576: true; the input reads as it did. -/
def scopeLinesUptoRow : OpenClaim := { program := "ytejbdoiamhfbjaa", sum := "b7c026387a115e504abe9985acca566e3bfd8c0cb8ff056cc1e106e3407cb37b", func := "gumshoe/gumshoelaw05.ScopeLines", spec := "scopeLines", unfollowed := true, recurses := true, loops := true, apart := false, narrowed := true }
def ScopeLinesUptoSaid : Prop := scopeLinesUptoRow.holds Try.pinned (OpenSpec.upto scopeLinesSpec)

/-- 'gumshoelaw05.ScopeRanges', WHERE WHAT IT READS IS OF BULK AT MOST 1048576: true; the input reads as it did. -/
def scopeRangesUptoRow : OpenClaim := { program := "ytejbdoiamhfbjaa", sum := "b7c026387a115e504abe9985acca566e3bfd8c0cb8ff056cc1e106e3407cb37b", func := "gumshoe/gumshoelaw05.ScopeRanges", spec := "scopeRanges", unfollowed := true, recurses := true, loops := true, apart := false, narrowed := true }
def ScopeRangesUptoSaid : Prop := scopeRangesUptoRow.holds Try.pinned (OpenSpec.upto scopeRangesSpec)

/-- 'gumshoelaw05.ScopeMany', WHERE WHAT IT READS IS OF BULK AT MOST 1048576: true; the input reads as it did. -/
def scopeManyUptoRow : OpenClaim := { program := "ytejbdoiamhfbjaa", sum := "b7c026387a115e504abe9985acca566e3bfd8c0cb8ff056cc1e106e3407cb37b", func := "gumshoe/gumshoelaw05.ScopeMany", spec := "scopeMany", unfollowed := true, recurses := true, apart := false, narrowed := true }
def ScopeManyUptoSaid : Prop := scopeManyUptoRow.holds Try.pinned (OpenSpec.upto scopeManySpec)

/-- 'gumshoelaw05.ScopeMarks', WHERE WHAT IT READS IS OF BULK AT MOST 1048576: true; the input reads as it did. -/
def scopeMarksUptoRow : OpenClaim := { program := "ytejbdoiamhfbjaa", sum := "b7c026387a115e504abe9985acca566e3bfd8c0cb8ff056cc1e106e3407cb37b", func := "gumshoe/gumshoelaw05.ScopeMarks", spec := "scopeMarks", unfollowed := true, recurses := true, loops := true, apart := false, narrowed := true }
def ScopeMarksUptoSaid : Prop := scopeMarksUptoRow.holds Try.pinned (OpenSpec.upto scopeMarksSpec)

end Rows
end Go.Proofs.Ytejbdoiamhfbjaa
