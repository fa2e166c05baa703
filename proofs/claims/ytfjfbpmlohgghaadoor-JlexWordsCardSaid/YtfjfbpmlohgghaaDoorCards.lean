/-
  DERIVED. GIVEN WITH THE SEED: THE CARDS: each row of YtfjfbpmlohgghaaDoorRows.lean that lists a variable, with what it lists TIED to the program's text (the seventh form; the later family's looks); each row that meets fmt, with fmt's text TOLD by the authors' own Lean function (tested against real Go, not proved from fmt's source: count such statements apart). THE CARD IS WHAT COUNTS. Prove the row's statement (the work); the ties are given (YtfjfbpmlohgghaaDoorTie.lean); close each card by the builder's one call (the guide's Derived/Test/ToyasCard.lean, 'card_holds'). Laid BY PROGRAM, IN A SANDBOX (cutbox-door.mjs). By AI agents, Wed Nov 11 2026. No macro, syntax, notation, axiom, sorry.
-/
import Derived.Test.YtfjfbpmlohgghaaDoorRows
import GoSem.ClaimSeven
namespace Go.Proofs.YtfjfbpmlohgghaaDoor
namespace Rows

/-- THE TIED CARD OF 'gumshoelaw02.JlexWords'. -/
def jlexWordsCard : Claim7 := { stood := { row := jlexWordsRow, standIns := [], harness := (true, "5e3dadb85102c49f5663372dae5355567fe7cee3bc47cb618afb4fad0e402a6f"), looks := true }, kinds := [], alts := [], laidByText := true, laidKinds := [.data, .data, .data, .sentinel, .sentinel], laidTests := true, laidLooks := .later }
def JlexWordsCardSaid : Prop := Claim7.holds Tryd.pinned (.plain (OpenSpec.ofChange jlexWordsSpec)) jlexWordsCard

/-- THE TIED CARD OF 'gumshoelaw02.JlexQuotes'. -/
def jlexQuotesCard : Claim7 := { stood := { row := jlexQuotesRow, standIns := [], harness := (true, "5e3dadb85102c49f5663372dae5355567fe7cee3bc47cb618afb4fad0e402a6f"), looks := true }, kinds := [], alts := [], laidByText := true, laidKinds := [.data, .data, .data, .sentinel, .sentinel], laidTests := true, laidLooks := .later }
def JlexQuotesCardSaid : Prop := Claim7.holds Tryd.pinned (.plain (OpenSpec.ofChange jlexQuotesSpec)) jlexQuotesCard

/-- THE TIED CARD OF 'gumshoelaw02.JlexBlanks'. -/
def jlexBlanksCard : Claim7 := { stood := { row := jlexBlanksRow, standIns := [], harness := (true, "5e3dadb85102c49f5663372dae5355567fe7cee3bc47cb618afb4fad0e402a6f"), looks := true }, kinds := [], alts := [], laidByText := true, laidKinds := [.data, .data, .data, .sentinel, .sentinel], laidTests := true, laidLooks := .later }
def JlexBlanksCardSaid : Prop := Claim7.holds Tryd.pinned (.plain (OpenSpec.ofChange jlexBlanksSpec)) jlexBlanksCard

/-- THE TIED CARD OF 'gumshoelaw02.JlexLines'. -/
def jlexLinesCard : Claim7 := { stood := { row := jlexLinesRow, standIns := [], harness := (true, "5e3dadb85102c49f5663372dae5355567fe7cee3bc47cb618afb4fad0e402a6f"), looks := true }, kinds := [], alts := [], laidByText := true, laidKinds := [.data, .data, .data, .sentinel, .sentinel], laidTests := true, laidLooks := .later }
def JlexLinesCardSaid : Prop := Claim7.holds Tryd.pinned (.plain (OpenSpec.ofChange jlexLinesSpec)) jlexLinesCard

/-- THE TIED CARD OF 'gumshoelaw02.JlexLong'. -/
def jlexLongCard : Claim7 := { stood := { row := jlexLongRow, standIns := [], harness := (true, "5e3dadb85102c49f5663372dae5355567fe7cee3bc47cb618afb4fad0e402a6f"), looks := true }, kinds := [], alts := [], laidByText := true, laidKinds := [.data, .data, .data, .sentinel, .sentinel], laidTests := true, laidLooks := .later }
def JlexLongCardSaid : Prop := Claim7.holds Tryd.pinned (.plain (OpenSpec.ofChange jlexLongSpec)) jlexLongCard

/-- THE TIED CARD OF 'gumshoelaw02.JlexOne'. -/
def jlexOneCard : Claim7 := { stood := { row := jlexOneRow, standIns := [], harness := (true, "5e3dadb85102c49f5663372dae5355567fe7cee3bc47cb618afb4fad0e402a6f"), looks := true }, kinds := [], alts := [], laidByText := true, laidKinds := [.data, .data, .data, .sentinel, .sentinel], laidTests := true, laidLooks := .later }
def JlexOneCardSaid : Prop := Claim7.holds Tryd.pinned (.plain (OpenSpec.ofChange jlexOneSpec)) jlexOneCard

/-- THE TIED CARD OF 'gumshoelaw02.JlexJoins'. -/
def jlexJoinsCard : Claim7 := { stood := { row := jlexJoinsRow, standIns := [], harness := (true, "5e3dadb85102c49f5663372dae5355567fe7cee3bc47cb618afb4fad0e402a6f"), looks := true }, kinds := [], alts := [], laidByText := true, laidKinds := [.data, .data, .data, .sentinel, .sentinel], laidTests := true, laidLooks := .later }
def JlexJoinsCardSaid : Prop := Claim7.holds Tryd.pinned (.plain (OpenSpec.ofChange jlexJoinsSpec)) jlexJoinsCard

/-- THE SECOND FORM's CARD OF 'gumshoelaw02.JlexWords'. -/
def jlexWordsUptoCard : Claim7 := { stood := { row := jlexWordsUptoRow, standIns := [], harness := (true, "5e3dadb85102c49f5663372dae5355567fe7cee3bc47cb618afb4fad0e402a6f"), looks := true }, kinds := [], alts := [], laidByText := true, laidKinds := [.data, .data, .data, .sentinel, .sentinel], laidTests := true, laidLooks := .later }
def JlexWordsUptoCardSaid : Prop := Claim7.holds Tryd.pinned (.plain (OpenSpec.upto jlexWordsSpec)) jlexWordsUptoCard

/-- THE SECOND FORM's CARD OF 'gumshoelaw02.JlexQuotes'. -/
def jlexQuotesUptoCard : Claim7 := { stood := { row := jlexQuotesUptoRow, standIns := [], harness := (true, "5e3dadb85102c49f5663372dae5355567fe7cee3bc47cb618afb4fad0e402a6f"), looks := true }, kinds := [], alts := [], laidByText := true, laidKinds := [.data, .data, .data, .sentinel, .sentinel], laidTests := true, laidLooks := .later }
def JlexQuotesUptoCardSaid : Prop := Claim7.holds Tryd.pinned (.plain (OpenSpec.upto jlexQuotesSpec)) jlexQuotesUptoCard

/-- THE SECOND FORM's CARD OF 'gumshoelaw02.JlexBlanks'. -/
def jlexBlanksUptoCard : Claim7 := { stood := { row := jlexBlanksUptoRow, standIns := [], harness := (true, "5e3dadb85102c49f5663372dae5355567fe7cee3bc47cb618afb4fad0e402a6f"), looks := true }, kinds := [], alts := [], laidByText := true, laidKinds := [.data, .data, .data, .sentinel, .sentinel], laidTests := true, laidLooks := .later }
def JlexBlanksUptoCardSaid : Prop := Claim7.holds Tryd.pinned (.plain (OpenSpec.upto jlexBlanksSpec)) jlexBlanksUptoCard

/-- THE SECOND FORM's CARD OF 'gumshoelaw02.JlexLines'. -/
def jlexLinesUptoCard : Claim7 := { stood := { row := jlexLinesUptoRow, standIns := [], harness := (true, "5e3dadb85102c49f5663372dae5355567fe7cee3bc47cb618afb4fad0e402a6f"), looks := true }, kinds := [], alts := [], laidByText := true, laidKinds := [.data, .data, .data, .sentinel, .sentinel], laidTests := true, laidLooks := .later }
def JlexLinesUptoCardSaid : Prop := Claim7.holds Tryd.pinned (.plain (OpenSpec.upto jlexLinesSpec)) jlexLinesUptoCard

/-- THE SECOND FORM's CARD OF 'gumshoelaw02.JlexLong'. -/
def jlexLongUptoCard : Claim7 := { stood := { row := jlexLongUptoRow, standIns := [], harness := (true, "5e3dadb85102c49f5663372dae5355567fe7cee3bc47cb618afb4fad0e402a6f"), looks := true }, kinds := [], alts := [], laidByText := true, laidKinds := [.data, .data, .data, .sentinel, .sentinel], laidTests := true, laidLooks := .later }
def JlexLongUptoCardSaid : Prop := Claim7.holds Tryd.pinned (.plain (OpenSpec.upto jlexLongSpec)) jlexLongUptoCard

/-- THE SECOND FORM's CARD OF 'gumshoelaw02.JlexOne'. -/
def jlexOneUptoCard : Claim7 := { stood := { row := jlexOneUptoRow, standIns := [], harness := (true, "5e3dadb85102c49f5663372dae5355567fe7cee3bc47cb618afb4fad0e402a6f"), looks := true }, kinds := [], alts := [], laidByText := true, laidKinds := [.data, .data, .data, .sentinel, .sentinel], laidTests := true, laidLooks := .later }
def JlexOneUptoCardSaid : Prop := Claim7.holds Tryd.pinned (.plain (OpenSpec.upto jlexOneSpec)) jlexOneUptoCard

/-- THE SECOND FORM's CARD OF 'gumshoelaw02.JlexJoins'. -/
def jlexJoinsUptoCard : Claim7 := { stood := { row := jlexJoinsUptoRow, standIns := [], harness := (true, "5e3dadb85102c49f5663372dae5355567fe7cee3bc47cb618afb4fad0e402a6f"), looks := true }, kinds := [], alts := [], laidByText := true, laidKinds := [.data, .data, .data, .sentinel, .sentinel], laidTests := true, laidLooks := .later }
def JlexJoinsUptoCardSaid : Prop := Claim7.holds Tryd.pinned (.plain (OpenSpec.upto jlexJoinsSpec)) jlexJoinsUptoCard
end Rows
end Go.Proofs.YtfjfbpmlohgghaaDoor
