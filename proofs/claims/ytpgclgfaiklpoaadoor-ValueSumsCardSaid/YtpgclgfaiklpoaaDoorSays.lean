/- What a sign makes of two values, as a function. -/
import Derived.Test.YtpgclgfaiklpoaaDoorMake2
namespace Go.Proofs.YtpgclgfaiklpoaaDoor
open Go.RowKit Go.Proofs

/-- What a sign makes of two values, whatever its length; none of what is no sign. -/
def makeJ (s : Bs) (a b : J) : Option J :=
  if s = [43] then some (if a.isText || b.isText then .text (a.key ++ b.key) else .num (wrap64 (a.nr + b.nr)))
  else if s = [45] then some (.num (wrap64 (a.nr - b.nr)))
  else if s = [42] then some (.num (wrap64 (a.nr * b.nr)))
  else if s = [60] then some (.bool (decide (ordJ a b < 0)))
  else if s = [60, 61] then some (.bool (decide (ordJ a b ≤ 0)))
  else if s = [61, 61, 61] then some (.bool (sameJ a b))
  else if s = [33, 61, 61] then some (.bool (!sameJ a b))
  else none
/-- A value, or an error. -/
def okV (r : J) : Value := if 65536 < r.s.size then .tuple #[J.undef.v, .int .i64 61] else .tuple #[r.v, .int .i64 0]
def twoV (s : Bs) (a b : J) : Value := match makeJ s a b with
  | none => .tuple #[J.undef.v, .int .i64 60]
  | some r => okV r

end Go.Proofs.YtpgclgfaiklpoaaDoor
