/- The law BitsNone: a nil queue has nothing; of no sets the union is empty: its walk. No condition but that the number is an int64. -/
import Derived.Test.YtpfmncdodcbamaaShown
namespace Go.Proofs.Ytpfmncdodcbamaa
open Go.RowKit Go.Proofs

set_option maxHeartbeats 1000000 in
theorem none_walk (x : Int) (w : World) : Calls Try.prog 8 #[.int .i64 x] w fun e w' => e = .returned (.bool true) ∧ Below w.heap.size w w' := by
  have HS := Lib.hid (shown_any w)
  go_enter Try.func8, Try.ntmps8
  go_wp2_with fail
  go_at_call 10
  refine (HS.out).mono ?_
  rintro e w1 ⟨rfl, hb1⟩
  have HU := Lib.hid (union_any none 0 0 [] w1 Mat.nil_)
  have HB1 := Lib.hid hb1
  clear hb1
  go_wp2_with fail
  go_at_call 26
  refine (pop_nil w1).mono ?_
  rintro e w1' ⟨rfl, rfl⟩
  go_wp2_with fail
  go_at_call 19
  refine (HU.out).mono ?_
  rintro e w2 ⟨hu, hb2⟩
  obtain ⟨A2, n2, c2, r, rfl, hi2, huni⟩ := hu.yes rfl
  obtain rfl : r = [] := huni.unique ⟨rfl, by simp⟩
  obtain rfl : n2 = 0 := hi2.1.symm
  have HB2 := Lib.hid (HB1.out.trans (hb2.mono HB1.out.size))
  clear hu huni hb2 hi2
  go_wp2_with (first | (go_at_call 27; refine (push_nil x _).mono ?_; rintro e w3 ⟨rfl, rfl⟩) | (go_at_call 28; refine (len_nil _).mono ?_; rintro e w3 ⟨rfl, rfl⟩))
  go_ret
  exact ⟨rfl, HB2.out⟩
end Go.Proofs.Ytpfmncdodcbamaa
