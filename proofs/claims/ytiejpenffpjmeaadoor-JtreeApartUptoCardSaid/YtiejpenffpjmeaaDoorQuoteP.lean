/- A text in quotes. No program. -/
import Derived.Test.YtiejpenffpjmeaaDoorPlain
namespace Go.Proofs.YtiejpenffpjmeaaDoor

def hexD (k : Nat) : UInt8 := hexDigitsL.getD k 0
/-- A byte within quotes. -/
def quoteB (c : UInt8) : Bs :=
  if c.toNat = 10 then [92, 110] else if c.toNat = 9 then [92, 116] else if c.toNat = 34 ∨ c.toNat = 92 then [92, c] else if plainB c then [c] else [92, 120, hexD (c.toNat / 16), hexD (c.toNat % 16)]
def quoteL (l : Bs) : Bs := 34 :: (l.flatMap quoteB ++ [34])

end Go.Proofs.YtiejpenffpjmeaaDoor
