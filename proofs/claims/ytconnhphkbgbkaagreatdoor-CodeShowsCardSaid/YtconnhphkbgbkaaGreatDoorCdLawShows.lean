/- The law CodeShows' walk. -/
import Derived.Test.YtconnhphkbgbkaaGreatDoorCdHead
import Derived.Test.YtconnhphkbgbkaaGreatDoorCdMarksW
import Derived.Test.YtconnhphkbgbkaaGreatDoorCdRMarks
import Derived.Test.YtconnhphkbgbkaaGreatDoorCdRShow
import Derived.Test.YtconnhphkbgbkaaGreatDoorCdSame1
namespace Go.Proofs.YtconnhphkbgbkaaGreatDoor
set_option linter.unusedSimpArgs false
open Go.RowKit Go.Proofs

theorem showV_form (l : List Proc) : ∃ S E, showV l = .tuple #[.string S, .int .i64 E] := ⟨_, _, rfl⟩
set_option maxRecDepth 100000 in
set_option maxHeartbeats 4000000 in
theorem shows_law (v0 : Value) (a : List Proc) (w : World) (h0 : CodeAt w v0 a) (hE : Env w) :
    Calls Tryz.prog 3 #[v0] w fun e w' => e = .returned (.bool true) ∧ Below w.heap.size w w' := by
  obtain ⟨A, ca, rfl⟩ := SlAt.form h0
  have HS := Lib.hid (shown_any w hE)
  have HA := Lib.hid (fun w' (hb : Below w.heap.size w w') => h0.below hb)
  have HE := Lib.hid (fun w' (hb : Below w.heap.size w w') => hE.kept hb)
  clear h0 hE
  go_enter Tryz.func3, Tryz.ntmps3
  go_wp2_with fail
  go_at_call 4
  refine HS.out.mono ?_
  rintro e w1 ⟨rfl, hb1⟩
  have HSm := Lib.hid (small_any _ a w1 (HA.out w1 hb1))
  have B1 := Lib.hid hb1
  clear hb1 HS
  obtain ⟨sa, hsa⟩ : ∃ q, smallC a = q := ⟨_, rfl⟩
  rw [hsa] at HSm
  cases sa with
  | false =>
    clear hsa
    go_wp2_with (go_at_call 5; refine HSm.out.mono ?_; rintro e w2 ⟨rfl, hb2⟩)
    go_ret
    exact ⟨rfl, B1.out.trans (hb2.mono B1.out.size)⟩
  | true =>
  have HSz := Lib.hid hsa
  have HMs := Lib.hid (marks_small hsa)
  clear hsa
  obtain ⟨S, E, hV⟩ := showV_form a
  have hSS : (S.toList == S.toList) = true := by simp
  have hEE : (E == E) = true := by simp
  have HV := Lib.hid hV
  clear hV
  go_wp2_with fail
  go_at_call 5
  refine HSm.out.mono ?_
  rintro e w2 ⟨rfl, hb2⟩
  have hB2 := B1.out.trans (hb2.mono B1.out.size)
  have hW := show_any _ a w2 (HA.out w2 hB2) (HE.out w2 hB2) HSz.out
  rw [HV.out] at hW
  have HW := Lib.hid hW
  have B2 := Lib.hid hB2
  clear hb2 hB2 HSm hW
  go_wp2_with fail
  go_at_call 6
  refine HW.out.mono ?_
  rintro e w3 ⟨rfl, hb3⟩
  have hB3 := B2.out.trans (hb3.mono B2.out.size)
  have hW := rshow_any _ a w3 (HA.out w3 hB3) HSz.out
  rw [HV.out] at hW
  have HR := Lib.hid hW
  have B3 := Lib.hid hB3
  clear hb3 hB3 HW hW
  go_wp2_with fail
  go_at_call 7
  refine HR.out.mono ?_
  rintro e w4 ⟨rfl, hb4⟩
  have hB4 := B3.out.trans (hb4.mono B3.out.size)
  have HM := Lib.hid (marks_any _ a w4 (HA.out w4 hB4) (by have := HMs.out; omega))
  have B4 := Lib.hid hB4
  clear hb4 hB4 HR
  go_wp2_with fail
  go_at_call 9
  refine HM.out.mono ?_
  rintro e w5 ⟨⟨v5, rfl, ho5⟩, hb5⟩
  obtain ⟨A5, k5, rfl, -, -⟩ := ho5.form
  have hB5 := B4.out.trans (hb5.mono B4.out.size)
  have HM2 := Lib.hid (rmarks_any _ a w5 (HA.out w5 hB5) (by have := HMs.out; omega))
  have B5 := Lib.hid hB5
  have H5 := Lib.hid (OwnI.at_ ho5)
  clear hb5 hB5 HM ho5
  go_wp2_with fail
  go_at_call 10
  refine HM2.out.mono ?_
  rintro e w6 ⟨⟨v6, rfl, ho6⟩, hb6⟩
  obtain ⟨A6, k6, rfl, -, -⟩ := ho6.form
  have HSa := Lib.hid (sameInts_any _ _ (marksC a) (marksC a) w6 (SlAt.below IntP.keeps H5.out hb6) (OwnI.at_ ho6))
  rw [decide_eq_true rfl] at HSa
  have B6 := Lib.hid (B5.out.trans (hb6.mono B5.out.size))
  clear hb6 HM2 ho6
  go_wp2_with (go_at_call 8; refine HSa.out.mono ?_; rintro e w7 ⟨rfl, hb7⟩)
  go_ret
  exact ⟨rfl, B6.out.trans (hb7.mono B6.out.size)⟩
end Go.Proofs.YtconnhphkbgbkaaGreatDoor
