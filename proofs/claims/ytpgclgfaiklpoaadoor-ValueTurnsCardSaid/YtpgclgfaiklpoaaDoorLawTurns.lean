/- The law ValueTurns' walk. -/
import Derived.Test.YtpgclgfaiklpoaaDoorTurnsF
import Derived.Test.YtpgclgfaiklpoaaDoorTurnsT
namespace Go.Proofs.YtpgclgfaiklpoaaDoor
open Go.RowKit Go.Proofs

theorem turns_walk (k n : Int) (s : ByteArray) (w : World) (hE : Env w) (hn : I64 n) (hs : s.size ≤ 281474976710656) : Calls Tryd.prog 10 #[.agg #[.int .i64 k, .int .i64 n, .string s]] w fun e w' => e = .returned (.bool true) ∧ Below w.heap.size w w' := by
  cases hr : rightB k n s with
  | false => exact turns_not k n s w hE hr
  | true =>
    obtain ⟨a, ha, va⟩ := rightB_iff k n s hn hs hr
    cases ht : a.truthy with
    | false => exact turns_yesF k n s w hE a ha va hr ht
    | true => exact turns_yesT k n s w hE a ha va hr ht
end Go.Proofs.YtpgclgfaiklpoaaDoor
