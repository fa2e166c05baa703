/-
  DERIVED. GIVEN WITH THE SEED: THE CARDS: each row of YtiejpenffpjmeaaDoorRows.lean that lists a variable, with what it lists TIED to the program's text (the seventh form; the later family's looks); each row that meets fmt, with fmt's text TOLD by the authors' own Lean function (tested against real Go, not proved from fmt's source: count such statements apart). THE CARD IS WHAT COUNTS. Prove the row's statement (the work); the ties are given (YtiejpenffpjmeaaDoorTie.lean); close each card by the builder's one call (the guide's Derived/Test/ToyasCard.lean, 'card_holds'). Laid BY PROGRAM, IN A SANDBOX (cutbox-door.mjs). By AI agents, Wed Nov 11 2026. No macro, syntax, notation, axiom, sorry.
-/
import Derived.Test.YtiejpenffpjmeaaDoorRows
import GoSem.ClaimSeven
namespace Go.Proofs.YtiejpenffpjmeaaDoor
namespace Rows

/-- THE TIED CARD OF 'gumshoelaw03.JtreeRight'. -/
def jtreeRightCard : Claim7 := { stood := { row := jtreeRightRow, standIns := [], harness := (true, "d1fe34370c73bc625d90cc1f4779454084f1b599d8b95d4bc4b6f20122a3a5a1"), looks := false }, kinds := [], alts := [], laidByText := true, laidKinds := [.data, .data, .data], laidTests := true, laidLooks := .later }
def JtreeRightCardSaid : Prop := Claim7.holds Tryd.pinned (.plain (OpenSpec.ofChange jtreeRightSpec)) jtreeRightCard

/-- THE TIED CARD OF 'gumshoelaw03.JtreeShows'. -/
def jtreeShowsCard : Claim7 := { stood := { row := jtreeShowsRow, standIns := [], harness := (true, "d1fe34370c73bc625d90cc1f4779454084f1b599d8b95d4bc4b6f20122a3a5a1"), looks := false }, kinds := [], alts := [], laidByText := true, laidKinds := [.data, .data, .data], laidTests := true, laidLooks := .later }
def JtreeShowsCardSaid : Prop := Claim7.holds Tryd.pinned (.plain (OpenSpec.ofChange jtreeShowsSpec)) jtreeShowsCard

/-- THE TIED CARD OF 'gumshoelaw03.JtreeSames'. -/
def jtreeSamesCard : Claim7 := { stood := { row := jtreeSamesRow, standIns := [], harness := (true, "d1fe34370c73bc625d90cc1f4779454084f1b599d8b95d4bc4b6f20122a3a5a1"), looks := false }, kinds := [], alts := [], laidByText := true, laidKinds := [.data, .data, .data], laidTests := true, laidLooks := .later }
def JtreeSamesCardSaid : Prop := Claim7.holds Tryd.pinned (.plain (OpenSpec.ofChange jtreeSamesSpec)) jtreeSamesCard

/-- THE TIED CARD OF 'gumshoelaw03.JtreeWalks'. -/
def jtreeWalksCard : Claim7 := { stood := { row := jtreeWalksRow, standIns := [], harness := (true, "d1fe34370c73bc625d90cc1f4779454084f1b599d8b95d4bc4b6f20122a3a5a1"), looks := false }, kinds := [], alts := [], laidByText := true, laidKinds := [.data, .data, .data], laidTests := true, laidLooks := .later }
def JtreeWalksCardSaid : Prop := Claim7.holds Tryd.pinned (.plain (OpenSpec.ofChange jtreeWalksSpec)) jtreeWalksCard

/-- THE TIED CARD OF 'gumshoelaw03.JtreeApart'. -/
def jtreeApartCard : Claim7 := { stood := { row := jtreeApartRow, standIns := [], harness := (true, "d1fe34370c73bc625d90cc1f4779454084f1b599d8b95d4bc4b6f20122a3a5a1"), looks := false }, kinds := [], alts := [], laidByText := true, laidKinds := [.data, .data, .data], laidTests := true, laidLooks := .later }
def JtreeApartCardSaid : Prop := Claim7.holds Tryd.pinned (.plain (OpenSpec.ofChange jtreeApartSpec)) jtreeApartCard

/-- THE TIED CARD OF 'gumshoelaw03.JtreeParts'. -/
def jtreePartsCard : Claim7 := { stood := { row := jtreePartsRow, standIns := [], harness := (true, "d1fe34370c73bc625d90cc1f4779454084f1b599d8b95d4bc4b6f20122a3a5a1"), looks := false }, kinds := [], alts := [], laidByText := true, laidKinds := [.data, .data, .data], laidTests := true, laidLooks := .later }
def JtreePartsCardSaid : Prop := Claim7.holds Tryd.pinned (.plain (OpenSpec.ofChange jtreePartsSpec)) jtreePartsCard

/-- THE TIED CARD OF 'gumshoelaw03.JtreeHigh'. -/
def jtreeHighCard : Claim7 := { stood := { row := jtreeHighRow, standIns := [], harness := (true, "d1fe34370c73bc625d90cc1f4779454084f1b599d8b95d4bc4b6f20122a3a5a1"), looks := false }, kinds := [], alts := [], laidByText := true, laidKinds := [.data, .data, .data], laidTests := true, laidLooks := .later }
def JtreeHighCardSaid : Prop := Claim7.holds Tryd.pinned (.plain (OpenSpec.ofChange jtreeHighSpec)) jtreeHighCard

/-- THE SECOND FORM's CARD OF 'gumshoelaw03.JtreeRight'. -/
def jtreeRightUptoCard : Claim7 := { stood := { row := jtreeRightUptoRow, standIns := [], harness := (true, "d1fe34370c73bc625d90cc1f4779454084f1b599d8b95d4bc4b6f20122a3a5a1"), looks := false }, kinds := [], alts := [], laidByText := true, laidKinds := [.data, .data, .data], laidTests := true, laidLooks := .later }
def JtreeRightUptoCardSaid : Prop := Claim7.holds Tryd.pinned (.plain (OpenSpec.upto jtreeRightSpec)) jtreeRightUptoCard

/-- THE SECOND FORM's CARD OF 'gumshoelaw03.JtreeShows'. -/
def jtreeShowsUptoCard : Claim7 := { stood := { row := jtreeShowsUptoRow, standIns := [], harness := (true, "d1fe34370c73bc625d90cc1f4779454084f1b599d8b95d4bc4b6f20122a3a5a1"), looks := false }, kinds := [], alts := [], laidByText := true, laidKinds := [.data, .data, .data], laidTests := true, laidLooks := .later }
def JtreeShowsUptoCardSaid : Prop := Claim7.holds Tryd.pinned (.plain (OpenSpec.upto jtreeShowsSpec)) jtreeShowsUptoCard

/-- THE SECOND FORM's CARD OF 'gumshoelaw03.JtreeSames'. -/
def jtreeSamesUptoCard : Claim7 := { stood := { row := jtreeSamesUptoRow, standIns := [], harness := (true, "d1fe34370c73bc625d90cc1f4779454084f1b599d8b95d4bc4b6f20122a3a5a1"), looks := false }, kinds := [], alts := [], laidByText := true, laidKinds := [.data, .data, .data], laidTests := true, laidLooks := .later }
def JtreeSamesUptoCardSaid : Prop := Claim7.holds Tryd.pinned (.plain (OpenSpec.upto jtreeSamesSpec)) jtreeSamesUptoCard

/-- THE SECOND FORM's CARD OF 'gumshoelaw03.JtreeWalks'. -/
def jtreeWalksUptoCard : Claim7 := { stood := { row := jtreeWalksUptoRow, standIns := [], harness := (true, "d1fe34370c73bc625d90cc1f4779454084f1b599d8b95d4bc4b6f20122a3a5a1"), looks := false }, kinds := [], alts := [], laidByText := true, laidKinds := [.data, .data, .data], laidTests := true, laidLooks := .later }
def JtreeWalksUptoCardSaid : Prop := Claim7.holds Tryd.pinned (.plain (OpenSpec.upto jtreeWalksSpec)) jtreeWalksUptoCard

/-- THE SECOND FORM's CARD OF 'gumshoelaw03.JtreeApart'. -/
def jtreeApartUptoCard : Claim7 := { stood := { row := jtreeApartUptoRow, standIns := [], harness := (true, "d1fe34370c73bc625d90cc1f4779454084f1b599d8b95d4bc4b6f20122a3a5a1"), looks := false }, kinds := [], alts := [], laidByText := true, laidKinds := [.data, .data, .data], laidTests := true, laidLooks := .later }
def JtreeApartUptoCardSaid : Prop := Claim7.holds Tryd.pinned (.plain (OpenSpec.upto jtreeApartSpec)) jtreeApartUptoCard

/-- THE SECOND FORM's CARD OF 'gumshoelaw03.JtreeParts'. -/
def jtreePartsUptoCard : Claim7 := { stood := { row := jtreePartsUptoRow, standIns := [], harness := (true, "d1fe34370c73bc625d90cc1f4779454084f1b599d8b95d4bc4b6f20122a3a5a1"), looks := false }, kinds := [], alts := [], laidByText := true, laidKinds := [.data, .data, .data], laidTests := true, laidLooks := .later }
def JtreePartsUptoCardSaid : Prop := Claim7.holds Tryd.pinned (.plain (OpenSpec.upto jtreePartsSpec)) jtreePartsUptoCard

/-- THE SECOND FORM's CARD OF 'gumshoelaw03.JtreeHigh'. -/
def jtreeHighUptoCard : Claim7 := { stood := { row := jtreeHighUptoRow, standIns := [], harness := (true, "d1fe34370c73bc625d90cc1f4779454084f1b599d8b95d4bc4b6f20122a3a5a1"), looks := false }, kinds := [], alts := [], laidByText := true, laidKinds := [.data, .data, .data], laidTests := true, laidLooks := .later }
def JtreeHighUptoCardSaid : Prop := Claim7.holds Tryd.pinned (.plain (OpenSpec.upto jtreeHighSpec)) jtreeHighUptoCard
end Rows
end Go.Proofs.YtiejpenffpjmeaaDoor
