/- The law CodeRight's walk. -/
import Derived.Test.YtconnhphkbgbkaaDoorCdHead
import Derived.Test.YtconnhphkbgbkaaDoorCdRight
import Derived.Test.YtconnhphkbgbkaaDoorCdRef7
namespace Go.Proofs.YtconnhphkbgbkaaDoor
open Go.RowKit Go.Proofs

set_option maxRecDepth 100000 in
set_option maxHeartbeats 4000000 in
theorem right_law (v0 : Value) (a : List Proc) (w : World) (h0 : CodeAt w v0 a) (hE : Env w) :
    Calls Tryd.prog 3 #[v0] w fun e w' => e = .returned (.bool true) ∧ Below w.heap.size w w' := by
  obtain ⟨A, ca, rfl⟩ := SlAt.form h0
  have HS := Lib.hid (shown_any w hE)
  have HA := Lib.hid (fun w' (hb : Below w.heap.size w w') => h0.below hb)
  clear h0 hE
  go_enter Tryd.func3, Tryd.ntmps3
  go_wp2_with fail
  go_at_call 9
  refine HS.out.mono ?_
  rintro e w1 ⟨rfl, hb1⟩
  have HSm := Lib.hid (small_any _ a w1 (HA.out w1 hb1))
  have B1 := Lib.hid hb1
  clear hb1 HS
  obtain ⟨sa, hsa⟩ : ∃ q, smallC a = q := ⟨_, rfl⟩
  rw [hsa] at HSm
  cases sa with
  | false =>
    clear hsa
    go_wp2_with (go_at_call 10; refine HSm.out.mono ?_; rintro e w2 ⟨rfl, hb2⟩)
    go_ret
    exact ⟨rfl, B1.out.trans (hb2.mono B1.out.size)⟩
  | true =>
  have hlen : a.length ≤ 1000 := by
    unfold smallC at hsa
    rw [Bool.and_eq_true, decide_eq_true_eq] at hsa
    omega
  have HLen := Lib.hid hlen
  clear hsa hlen
  go_wp2_with fail
  go_at_call 10
  refine HSm.out.mono ?_
  rintro e w2 ⟨rfl, hb2⟩
  have hB2 := B1.out.trans (hb2.mono B1.out.size)
  have HSa := Lib.hid (right_any _ a w2 (HA.out w2 hB2))
  have B2 := Lib.hid hB2
  clear hb2 hB2 HSm
  obtain ⟨q, hq⟩ : ∃ q, rightC a = q := ⟨_, rfl⟩
  rw [hq] at HSa
  go_wp2_with fail
  go_at_call 11
  refine HSa.out.mono ?_
  rintro e w3 ⟨rfl, hb3⟩
  have hB3 := B2.out.trans (hb3.mono B2.out.size)
  have HR := Lib.hid (refright_any _ a w3 (HA.out w3 hB3) HLen.out)
  rw [refOk_all, hq] at HR
  have B3 := Lib.hid hB3
  clear hb3 hB3 hq HSa
  cases q
  all_goals
    go_wp2_with (go_at_call 12; refine HR.out.mono ?_; rintro e w4 ⟨rfl, hb4⟩)
    go_ret
    exact ⟨rfl, B3.out.trans (hb4.mono B3.out.size)⟩
end Go.Proofs.YtconnhphkbgbkaaDoor
