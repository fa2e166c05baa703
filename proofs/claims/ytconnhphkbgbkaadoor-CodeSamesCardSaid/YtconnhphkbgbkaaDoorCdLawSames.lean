/- The law CodeSames's walk. -/
import Derived.Test.YtconnhphkbgbkaaDoorCdHead
import Derived.Test.YtconnhphkbgbkaaDoorCdRSame
namespace Go.Proofs.YtconnhphkbgbkaaDoor
open Go.RowKit Go.Proofs

set_option maxRecDepth 100000 in
set_option maxHeartbeats 4000000 in
theorem sames_any (v0 v1 : Value) (a b : List Proc) (w : World) (h0 : CodeAt w v0 a) (h1 : CodeAt w v1 b) (hE : Env w) :
    Calls Tryd.prog 4 #[v0, v1] w fun e w' => e = .returned (.bool true) ∧ Below w.heap.size w w' := by
  obtain ⟨A, ca, rfl⟩ := SlAt.form h0
  obtain ⟨B, cb, rfl⟩ := SlAt.form h1
  have HS := Lib.hid (shown_any w hE)
  have HA := Lib.hid (fun w' (hb : Below w.heap.size w w') => h0.below hb)
  have HB := Lib.hid (fun w' (hb : Below w.heap.size w w') => h1.below hb)
  clear h0 h1 hE
  go_enter Tryd.func4, Tryd.ntmps4
  go_wp2_with fail
  go_at_call 9
  refine HS.out.mono ?_
  rintro e w1 ⟨rfl, hb1⟩
  have HSm := Lib.hid (small_any _ a w1 (HA.out w1 hb1))
  have B1 := Lib.hid hb1
  clear hb1 HS
  obtain ⟨sa, hsa⟩ : ∃ q, smallC a = q := ⟨_, rfl⟩
  rw [hsa] at HSm
  clear hsa
  cases sa with
  | false =>
    go_wp2_with (go_at_call 10; refine HSm.out.mono ?_; rintro e w2 ⟨rfl, hb2⟩)
    go_ret
    exact ⟨rfl, B1.out.trans (hb2.mono B1.out.size)⟩
  | true =>
  go_wp2_with fail
  go_at_call 10
  refine HSm.out.mono ?_
  rintro e w2 ⟨rfl, hb2⟩
  have hB2 := B1.out.trans (hb2.mono B1.out.size)
  have HSb := Lib.hid (small_any _ b w2 (HB.out w2 hB2))
  have B2 := Lib.hid hB2
  clear hb2 hB2 HSm
  obtain ⟨sb, hsb⟩ : ∃ q, smallC b = q := ⟨_, rfl⟩
  rw [hsb] at HSb
  clear hsb
  cases sb with
  | false =>
    go_wp2_with (go_at_call 10; refine HSb.out.mono ?_; rintro e w3 ⟨rfl, hb3⟩)
    go_ret
    exact ⟨rfl, B2.out.trans (hb3.mono B2.out.size)⟩
  | true =>
  go_wp2_with fail
  go_at_call 10
  refine HSb.out.mono ?_
  rintro e w3 ⟨rfl, hb3⟩
  have hB3 := B2.out.trans (hb3.mono B2.out.size)
  have HSa := Lib.hid (same_any _ _ a b w3 (HA.out w3 hB3) (HB.out w3 hB3))
  have B3 := Lib.hid hB3
  clear hb3 hB3 HSb
  obtain ⟨q, hq⟩ : ∃ q, decide (a = b) = q := ⟨_, rfl⟩
  rw [hq] at HSa
  go_wp2_with fail
  go_at_call 13
  refine HSa.out.mono ?_
  rintro e w4 ⟨rfl, hb4⟩
  have hB4 := B3.out.trans (hb4.mono B3.out.size)
  have HR := Lib.hid (rsame_any _ _ a b w4 (HA.out w4 hB4) (HB.out w4 hB4))
  rw [hq] at HR
  have B4 := Lib.hid hB4
  clear hb4 hB4 hq HSa
  go_wp2_with fail
  go_at_call 14
  refine HR.out.mono ?_
  rintro e w5 ⟨rfl, hb5⟩
  have hB5 := B4.out.trans (hb5.mono B4.out.size)
  have HSb := Lib.hid (same_any _ _ a a w5 (HA.out w5 hB5) (HA.out w5 hB5))
  rw [decide_eq_true (rfl : a = a)] at HSb
  have B5 := Lib.hid hB5
  clear hb5 hB5 HR
  cases q
  all_goals
    go_wp2_with (go_at_call 13; refine HSb.out.mono ?_; rintro e w6 ⟨rfl, hb6⟩)
    go_ret
    exact ⟨rfl, B5.out.trans (hb6.mono B5.out.size)⟩
end Go.Proofs.YtconnhphkbgbkaaDoor
