/- The law GraphReached. -/
import Derived.Test.YtfiockconbaniaaGrSome
import Derived.Test.YtfiockconbaniaaGrCallees
namespace Go.Proofs.Ytfiockconbaniaa
set_option linter.unusedSimpArgs false
set_option linter.unusedVariables false
open Go.RowKit Go.Proofs

set_option maxRecDepth 100000 in
set_option maxHeartbeats 4000000 in
theorem reached_law (A : Option Addr) (n c : Nat) (l : List Ed) (m : Int) (w : World) (hl : Edges9 w (.slice A n c) l) :
    Calls Try.prog 4 #[.slice A n c, .int .i64 m] w fun e w' => e = .returned (.bool true) ∧ Below w.heap.size w w' := by
  obtain ⟨-, hnc, hcm, -⟩ := SlAt.get hl
  obtain ⟨k, hk⟩ : ∃ k, min n 100 = k := ⟨_, rfl⟩
  have hkn : k ≤ n := by omega
  have hk1 : k ≤ 100 := by omega
  have hF : ∀ W : World, Calls Try.prog 15 #[.slice A n c] W fun e w' => e = .returned (.slice A k c) ∧ W = w' := fun W => by
    rw [← hk]
    exact some_any A n c W hnc hcm
  obtain ⟨l', hl'⟩ : ∃ x, l.take k = x := ⟨_, rfl⟩
  have hr : Edges9 w (.slice A k c) l' := hl' ▸ SlAt.take hl hkn
  have HF := Lib.hid hF
  have HR := Lib.hid hr
  clear hF hr hl hk hl' hkn hnc hcm
  go_enter Try.func4, Try.ntmps4
  go_wp2_with fail
  go_at_call 7
  (with_reducible refine (shown_any w).mono ?_)
  rintro e w1 ⟨rfl, hb1⟩
  have B1 := Lib.hid hb1
  clear hb1
  go_wp2_with fail
  go_at_call 15
  (with_reducible refine (HF.out w1).mono ?_)
  rintro e w' ⟨rfl, rfl⟩
  go_wp2_with fail
  go_at_call 14
  (with_reducible refine (reached_any A k c l' w1 (HR.out.below EdP.keeps B1.out) (by omega)).mono ?_)
  rintro e w2 ⟨v2, rfl, s2, ho2, hr2⟩
  obtain ⟨A2, c2, rfl⟩ := ho2.at_.form
  have O2 := Lib.hid ho2
  have B2 := Lib.hid (B1.out.trans (ho2.below.mono B1.out.size))
  clear ho2
  go_wp2_with fail
  go_at_call 15
  (with_reducible refine (HF.out w2).mono ?_)
  rintro e w' ⟨rfl, rfl⟩
  go_wp2_with fail
  go_at_call 16
  (with_reducible refine (rreached_any A k c l' w2 (HR.out.below EdP.keeps B2.out) (by omega)).mono ?_)
  rintro e w3 ⟨v3, rfl, s3, ho3, hr3⟩
  obtain rfl : s2 = s3 := hr2.eq hr3
  clear hr3
  obtain ⟨A3, c3, rfl⟩ := ho3.at_.form
  have O3 := Lib.hid ho3
  have B3 := Lib.hid (B2.out.trans (ho3.below.mono B2.out.size))
  clear ho3
  go_wp2_with fail
  go_at_call 13
  (with_reducible refine (same_true A2 A3 _ c2 _ c3 _ w3 (O2.out.later O3.out.below) O3.out.at_).mono ?_)
  rintro e w4 ⟨rfl, hb4⟩
  have B4 := Lib.hid (B3.out.trans (hb4.mono B3.out.size))
  clear hb4
  go_wp2_with fail
  go_at_call 15
  (with_reducible refine (HF.out w4).mono ?_)
  rintro e w' ⟨rfl, rfl⟩
  go_wp2_with fail
  go_at_call 17
  (with_reducible refine (callers_any A k c l' m w4 (HR.out.below EdP.keeps B4.out) (by omega)).mono ?_)
  rintro e w5 ⟨v5, rfl, ho5⟩
  obtain ⟨A5, c5, rfl⟩ := ho5.at_.form
  have O5 := Lib.hid ho5
  have B5 := Lib.hid (B4.out.trans (ho5.below.mono B4.out.size))
  clear ho5
  go_wp2_with fail
  go_at_call 15
  (with_reducible refine (HF.out w5).mono ?_)
  rintro e w' ⟨rfl, rfl⟩
  go_wp2_with fail
  go_at_call 18
  (with_reducible refine (rcallers_any A k c l' m w5 (HR.out.below EdP.keeps B5.out) (by omega)).mono ?_)
  rintro e w6 ⟨v6, rfl, ho6⟩
  obtain ⟨A6, c6, rfl⟩ := ho6.at_.form
  have O6 := Lib.hid ho6
  have B6 := Lib.hid (B5.out.trans (ho6.below.mono B5.out.size))
  clear ho6
  go_wp2_with fail
  go_at_call 13
  (with_reducible refine (same_true A5 A6 _ c5 _ c6 _ w6 (O5.out.later O6.out.below) O6.out.at_).mono ?_)
  rintro e w7 ⟨rfl, hb7⟩
  have B7 := Lib.hid (B6.out.trans (hb7.mono B6.out.size))
  clear hb7
  go_wp2
  go_ret
  exact ⟨rfl, B7.out⟩
end Go.Proofs.Ytfiockconbaniaa
