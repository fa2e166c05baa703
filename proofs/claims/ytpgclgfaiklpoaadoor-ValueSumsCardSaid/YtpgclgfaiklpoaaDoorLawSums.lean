/- The law ValueSums' walk. -/
import Derived.Test.YtpgclgfaiklpoaaDoorSumsB
namespace Go.Proofs.YtpgclgfaiklpoaaDoor
open Go.RowKit Go.Proofs

theorem sums_walk (k n : Int) (s : ByteArray) (k' n' : Int) (s' : ByteArray) (w : World) (hE : Env w) (hn : I64 n) (hs : s.size ≤ 281474976710656) (hn' : I64 n') (hs' : s'.size ≤ 281474976710656) : Calls Tryd.prog 6 #[.agg #[.int .i64 k, .int .i64 n, .string s], .agg #[.int .i64 k', .int .i64 n', .string s']] w fun e w' => e = .returned (.bool true) ∧ Below w.heap.size w w' := by
  cases hr : rightB k n s with
  | false => exact sums_notA k n s k' n' s' w hE hr
  | true =>
    cases hr' : rightB k' n' s' with
    | false => exact sums_notB k n s k' n' s' w hE hr hr'
    | true =>
      obtain ⟨a, ha, va⟩ := rightB_iff k n s hn hs hr
      obtain ⟨b, hb, vb⟩ := rightB_iff k' n' s' hn' hs' hr'
      cases hk : (k == 4) with
      | true => exact sums_textA k n s k' n' s' w hE hr hr' hk
      | false =>
        cases hk' : (k' == 4) with
        | true => exact sums_textB k n s k' n' s' w hE hr hr' hk hk'
        | false => exact sums_yes k n s k' n' s' w hE a b ha hb va vb hr hr' hk hk'
end Go.Proofs.YtpgclgfaiklpoaaDoor
