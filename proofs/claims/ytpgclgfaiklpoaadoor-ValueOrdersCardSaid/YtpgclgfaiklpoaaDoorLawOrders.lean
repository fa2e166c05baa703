/- The law ValueOrders' walk. -/
import Derived.Test.YtpgclgfaiklpoaaDoorOrders1
import Derived.Test.YtpgclgfaiklpoaaDoorOrders2
import Derived.Test.YtpgclgfaiklpoaaDoorOrders3
namespace Go.Proofs.YtpgclgfaiklpoaaDoor
open Go.RowKit Go.Proofs

theorem orders_walk (k n : Int) (s : ByteArray) (k' n' : Int) (s' : ByteArray) (w : World) (hE : Env w) (hn : I64 n) (hs : s.size ≤ 281474976710656) (hn' : I64 n') (hs' : s'.size ≤ 281474976710656) : Calls Tryd.prog 7 #[.agg #[.int .i64 k, .int .i64 n, .string s], .agg #[.int .i64 k', .int .i64 n', .string s']] w fun e w' => e = .returned (.bool true) ∧ Below w.heap.size w w' := by
  cases hr : rightB k n s with
  | false => exact orders_notA k n s k' n' s' w hE hr
  | true =>
    cases hr' : rightB k' n' s' with
    | false => exact orders_notB k n s k' n' s' w hE hr hr'
    | true =>
      obtain ⟨a, ha, va⟩ := rightB_iff k n s hn hs hr
      obtain ⟨b, hb, vb⟩ := rightB_iff k' n' s' hn' hs' hr'
      obtain ⟨h1, h2⟩ := ordJ_anti a b
      rcases h2 with h2 | h2 | h2
      · exact orders_y1 k n s k' n' s' w hE a b ha hb va vb hr hr' h2 (by rw [h1, h2])
      · exact orders_y2 k n s k' n' s' w hE a b ha hb va vb hr hr' h2 (by rw [h1, h2])
      · exact orders_y3 k n s k' n' s' w hE a b ha hb va vb hr hr' h2 (by rw [h1, h2])
end Go.Proofs.YtpgclgfaiklpoaaDoor
