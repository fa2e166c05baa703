/-
  NARROWER THAN 'FOR EVERY INPUT', by the rows' own cells (each row's printed sentence says how): RulesAll: loops · RulesVars: loops · RulesNames: loops · RulesRanges: loops · RulesMore: loops · RulesKinds: loops.
  DERIVED. THE GIVEN ROWS OF THIS SEAT. 6 by the template 'for every input the law returns true; each argument reads behind the call as it read before'; 0 by the template 'total and deterministic' (their statements: YtikbfoichhkeaaaGreatTotals.lean).
  GIVEN WITH THE SEED: the statements are not yours to turn. If you find one false, say at which input.
  Laid BY PROGRAM, IN A SANDBOX (cutbox-rows.mjs): the forced cells as the released guide's own fill.sh prints them over the translation 51575a836b940ca7… (all of the seat's roots in one cut). By AI agents, Wed Nov 11 2026. No macro, syntax, notation, axiom, sorry.
-/
import Derived.Test.YtikbfoichhkeaaaGreatChecked
import GoSem.Claim
import GoSem.ClaimJoined
import GoSem.ClaimMapViews
import Derived.JoinedTies
import Derived.KernelRfl
namespace Go.Proofs.YtikbfoichhkeaaaGreat
/- THE CELL 'sum', in the pinned program and in every row, IS THE sha256 OF THE DUMP (.gsa) THAT YtikbfoichhkeaaaGreatProg.lean LOADS. Nothing in Lean hashes anything: it is a label: what it is worth is what the hold of that sum in a sandbox is worth. -/
noncomputable def Tryz.pinned : Pinned := { name := "ytikbfoichhkeaaagreat", sum := "51575a836b940ca7516faba9120624ceb59341ed1fa244a0893ae7dda1c8c58a", checked := Tryz.checked }
namespace Rows
def none {H : Type} : Left H := { results := [], args := [] }

/-- 'gumshoelaw12.RulesAll': WHATEVER THE INPUT: true; the input reads as it did. -/
def rulesAllSpec : ChangeSpec := { name := "rulesAll", fn := fun _ => fun
  | [d] => { results := [.lit (.bool true)], args := [d] }
  | _ => none }
def rulesAllRow : OpenClaim := { program := "ytikbfoichhkeaaagreat", sum := "51575a836b940ca7516faba9120624ceb59341ed1fa244a0893ae7dda1c8c58a", func := "gumshoe/gumshoelaw12.RulesAll", spec := "rulesAll", unfollowed := true, recurses := true, loops := true, apart := false }
def RulesAllSaid : Prop := rulesAllRow.holds Tryz.pinned (OpenSpec.ofChange rulesAllSpec)

/-- ITS FALSE NEIGHBOUR: 'it returns false'. Refute it at one input. -/
def rulesAllWrong : ChangeSpec := { name := "rulesAll", fn := fun _ => fun
  | [d] => { results := [.lit (.bool false)], args := [d] }
  | _ => none }
def RulesAllWrongFalsely : Prop := rulesAllRow.holds Tryz.pinned (OpenSpec.ofChange rulesAllWrong)

/-- 'gumshoelaw12.RulesVars': WHATEVER THE INPUT: true; the input reads as it did. -/
def rulesVarsSpec : ChangeSpec := { name := "rulesVars", fn := fun _ => fun
  | [d1, d2] => { results := [.lit (.bool true)], args := [d1, d2] }
  | _ => none }
def rulesVarsRow : OpenClaim := { program := "ytikbfoichhkeaaagreat", sum := "51575a836b940ca7516faba9120624ceb59341ed1fa244a0893ae7dda1c8c58a", func := "gumshoe/gumshoelaw12.RulesVars", spec := "rulesVars", unfollowed := true, recurses := true, loops := true, apart := false }
def RulesVarsSaid : Prop := rulesVarsRow.holds Tryz.pinned (OpenSpec.ofChange rulesVarsSpec)

/-- ITS FALSE NEIGHBOUR: 'it returns false'. Refute it at one input. -/
def rulesVarsWrong : ChangeSpec := { name := "rulesVars", fn := fun _ => fun
  | [d1, d2] => { results := [.lit (.bool false)], args := [d1, d2] }
  | _ => none }
def RulesVarsWrongFalsely : Prop := rulesVarsRow.holds Tryz.pinned (OpenSpec.ofChange rulesVarsWrong)

/-- 'gumshoelaw12.RulesNames': WHATEVER THE INPUT: true; the input reads as it did. -/
def rulesNamesSpec : ChangeSpec := { name := "rulesNames", fn := fun _ => fun
  | [d1, d2] => { results := [.lit (.bool true)], args := [d1, d2] }
  | _ => none }
def rulesNamesRow : OpenClaim := { program := "ytikbfoichhkeaaagreat", sum := "51575a836b940ca7516faba9120624ceb59341ed1fa244a0893ae7dda1c8c58a", func := "gumshoe/gumshoelaw12.RulesNames", spec := "rulesNames", unfollowed := true, recurses := true, loops := true, apart := false }
def RulesNamesSaid : Prop := rulesNamesRow.holds Tryz.pinned (OpenSpec.ofChange rulesNamesSpec)

/-- ITS FALSE NEIGHBOUR: 'it returns false'. Refute it at one input. -/
def rulesNamesWrong : ChangeSpec := { name := "rulesNames", fn := fun _ => fun
  | [d1, d2] => { results := [.lit (.bool false)], args := [d1, d2] }
  | _ => none }
def RulesNamesWrongFalsely : Prop := rulesNamesRow.holds Tryz.pinned (OpenSpec.ofChange rulesNamesWrong)

/-- 'gumshoelaw12.RulesRanges': WHATEVER THE INPUT: true; the input reads as it did. -/
def rulesRangesSpec : ChangeSpec := { name := "rulesRanges", fn := fun _ => fun
  | [d] => { results := [.lit (.bool true)], args := [d] }
  | _ => none }
def rulesRangesRow : OpenClaim := { program := "ytikbfoichhkeaaagreat", sum := "51575a836b940ca7516faba9120624ceb59341ed1fa244a0893ae7dda1c8c58a", func := "gumshoe/gumshoelaw12.RulesRanges", spec := "rulesRanges", unfollowed := true, recurses := true, loops := true, apart := false }
def RulesRangesSaid : Prop := rulesRangesRow.holds Tryz.pinned (OpenSpec.ofChange rulesRangesSpec)

/-- ITS FALSE NEIGHBOUR: 'it returns false'. Refute it at one input. -/
def rulesRangesWrong : ChangeSpec := { name := "rulesRanges", fn := fun _ => fun
  | [d] => { results := [.lit (.bool false)], args := [d] }
  | _ => none }
def RulesRangesWrongFalsely : Prop := rulesRangesRow.holds Tryz.pinned (OpenSpec.ofChange rulesRangesWrong)

/-- 'gumshoelaw12.RulesMore': WHATEVER THE INPUT: true; the input reads as it did. -/
def rulesMoreSpec : ChangeSpec := { name := "rulesMore", fn := fun _ => fun
  | [d] => { results := [.lit (.bool true)], args := [d] }
  | _ => none }
def rulesMoreRow : OpenClaim := { program := "ytikbfoichhkeaaagreat", sum := "51575a836b940ca7516faba9120624ceb59341ed1fa244a0893ae7dda1c8c58a", func := "gumshoe/gumshoelaw12.RulesMore", spec := "rulesMore", unfollowed := true, recurses := true, loops := true, apart := false }
def RulesMoreSaid : Prop := rulesMoreRow.holds Tryz.pinned (OpenSpec.ofChange rulesMoreSpec)

/-- ITS FALSE NEIGHBOUR: 'it returns false'. Refute it at one input. -/
def rulesMoreWrong : ChangeSpec := { name := "rulesMore", fn := fun _ => fun
  | [d] => { results := [.lit (.bool false)], args := [d] }
  | _ => none }
def RulesMoreWrongFalsely : Prop := rulesMoreRow.holds Tryz.pinned (OpenSpec.ofChange rulesMoreWrong)

/-- 'gumshoelaw12.RulesKinds': WHATEVER THE INPUT: true; the input reads as it did. -/
def rulesKindsSpec : ChangeSpec := { name := "rulesKinds", fn := fun _ => fun
  | [d] => { results := [.lit (.bool true)], args := [d] }
  | _ => none }
def rulesKindsRow : OpenClaim := { program := "ytikbfoichhkeaaagreat", sum := "51575a836b940ca7516faba9120624ceb59341ed1fa244a0893ae7dda1c8c58a", func := "gumshoe/gumshoelaw12.RulesKinds", spec := "rulesKinds", unfollowed := true, recurses := true, loops := true, apart := false }
def RulesKindsSaid : Prop := rulesKindsRow.holds Tryz.pinned (OpenSpec.ofChange rulesKindsSpec)

/-- ITS FALSE NEIGHBOUR: 'it returns false'. Refute it at one input. -/
def rulesKindsWrong : ChangeSpec := { name := "rulesKinds", fn := fun _ => fun
  | [d] => { results := [.lit (.bool false)], args := [d] }
  | _ => none }
def RulesKindsWrongFalsely : Prop := rulesKindsRow.holds Tryz.pinned (OpenSpec.ofChange rulesKindsWrong)

/- THE SECOND FORM. 'bulk': how many values and letters a reading holds, each counted each time it is reached (what is shared counts as often as it is met; a slice's spare places count too). A statement '..UptoSaid' is the law's where the arguments, and the package variables that the reading takes, are together of bulk at most 1048576: NARROWER than '..Said'. Prove '..Said' where nothing that the law and all that it calls make is longer than what came in: it says more and counts as full. Else prove '..UptoSaid'. A law counts once. -/
mutual
def uptoBulk {H : Type} : DataW H → Nat
  | .lit (.string bytes) => bytes.length + 1
  | .lit _ => 1
  | .nil => 1
  | .ptr d => uptoBulk d + 1
  | .slice elems spare => uptoBulkAll elems + uptoBulkAll spare + 1
  | .agg parts => uptoBulkAll parts + 1
  | .iface _ d => uptoBulk d + 1
  | .map entries => uptoBulkEntries entries + 1
  | .held _ => 1
def uptoBulkAll {H : Type} : List (DataW H) → Nat
  | [] => 0
  | d :: r => uptoBulk d + uptoBulkAll r
def uptoBulkEntries {H : Type} : List (Lit × DataW H) → Nat
  | [] => 0
  | x :: r => uptoBulkEntry x + uptoBulkEntries r
def uptoBulkEntry {H : Type} : Lit × DataW H → Nat
  | (.string bytes, d) => bytes.length + uptoBulk d + 1
  | (_, d) => uptoBulk d + 1
 end
def uptoSmall : (H : Type) → List (DataW H) → Bool := fun _ ds => decide (uptoBulkAll ds ≤ 1048576)
def OpenSpec.upto (s : _root_.Go.ChangeSpec) : _root_.Go.OpenSpec := { _root_.Go.OpenSpec.ofChange s with cond := some uptoSmall }

/-- 'gumshoelaw12.RulesAll', WHERE WHAT IT READS IS OF BULK AT MOST 1048576: true; the input reads as it did. -/
def rulesAllUptoRow : OpenClaim := { program := "ytikbfoichhkeaaagreat", sum := "51575a836b940ca7516faba9120624ceb59341ed1fa244a0893ae7dda1c8c58a", func := "gumshoe/gumshoelaw12.RulesAll", spec := "rulesAll", unfollowed := true, recurses := true, loops := true, apart := false, narrowed := true }
def RulesAllUptoSaid : Prop := rulesAllUptoRow.holds Tryz.pinned (OpenSpec.upto rulesAllSpec)

/-- 'gumshoelaw12.RulesVars', WHERE WHAT IT READS IS OF BULK AT MOST 1048576: true; the input reads as it did. -/
def rulesVarsUptoRow : OpenClaim := { program := "ytikbfoichhkeaaagreat", sum := "51575a836b940ca7516faba9120624ceb59341ed1fa244a0893ae7dda1c8c58a", func := "gumshoe/gumshoelaw12.RulesVars", spec := "rulesVars", unfollowed := true, recurses := true, loops := true, apart := false, narrowed := true }
def RulesVarsUptoSaid : Prop := rulesVarsUptoRow.holds Tryz.pinned (OpenSpec.upto rulesVarsSpec)

/-- 'gumshoelaw12.RulesNames', WHERE WHAT IT READS IS OF BULK AT MOST 1048576: true; the input reads as it did. -/
def rulesNamesUptoRow : OpenClaim := { program := "ytikbfoichhkeaaagreat", sum := "51575a836b940ca7516faba9120624ceb59341ed1fa244a0893ae7dda1c8c58a", func := "gumshoe/gumshoelaw12.RulesNames", spec := "rulesNames", unfollowed := true, recurses := true, loops := true, apart := false, narrowed := true }
def RulesNamesUptoSaid : Prop := rulesNamesUptoRow.holds Tryz.pinned (OpenSpec.upto rulesNamesSpec)

/-- 'gumshoelaw12.RulesRanges', WHERE WHAT IT READS IS OF BULK AT MOST 1048576: true; the input reads as it did. -/
def rulesRangesUptoRow : OpenClaim := { program := "ytikbfoichhkeaaagreat", sum := "51575a836b940ca7516faba9120624ceb59341ed1fa244a0893ae7dda1c8c58a", func := "gumshoe/gumshoelaw12.RulesRanges", spec := "rulesRanges", unfollowed := true, recurses := true, loops := true, apart := false, narrowed := true }
def RulesRangesUptoSaid : Prop := rulesRangesUptoRow.holds Tryz.pinned (OpenSpec.upto rulesRangesSpec)

/-- 'gumshoelaw12.RulesMore', WHERE WHAT IT READS IS OF BULK AT MOST 1048576: true; the input reads as it did. -/
def rulesMoreUptoRow : OpenClaim := { program := "ytikbfoichhkeaaagreat", sum := "51575a836b940ca7516faba9120624ceb59341ed1fa244a0893ae7dda1c8c58a", func := "gumshoe/gumshoelaw12.RulesMore", spec := "rulesMore", unfollowed := true, recurses := true, loops := true, apart := false, narrowed := true }
def RulesMoreUptoSaid : Prop := rulesMoreUptoRow.holds Tryz.pinned (OpenSpec.upto rulesMoreSpec)

/-- 'gumshoelaw12.RulesKinds', WHERE WHAT IT READS IS OF BULK AT MOST 1048576: true; the input reads as it did. -/
def rulesKindsUptoRow : OpenClaim := { program := "ytikbfoichhkeaaagreat", sum := "51575a836b940ca7516faba9120624ceb59341ed1fa244a0893ae7dda1c8c58a", func := "gumshoe/gumshoelaw12.RulesKinds", spec := "rulesKinds", unfollowed := true, recurses := true, loops := true, apart := false, narrowed := true }
def RulesKindsUptoSaid : Prop := rulesKindsUptoRow.holds Tryz.pinned (OpenSpec.upto rulesKindsSpec)

end Rows
end Go.Proofs.YtikbfoichhkeaaaGreat
