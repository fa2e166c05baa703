/- The law CodeApart's walk. -/
import Derived.Test.YtconnhphkbgbkaaDoorCdHead
import Derived.Test.YtconnhphkbgbkaaDoorCdSame2
import Derived.Test.YtconnhphkbgbkaaDoorCdRead
namespace Go.Proofs.YtconnhphkbgbkaaDoor
open Go.RowKit Go.Proofs

theorem show_right {l : List Proc} (h : rightC l = true) : showV l = .tuple #[.string (bs (codeT l)), .int .i64 0] := by unfold showV; rw [h]; rfl
theorem show_wrong {l : List Proc} (h : rightC l = false) : showV l = .tuple #[.string ⟨#[]⟩, .int .i64 90] := by unfold showV; rw [h]; rfl
theorem text_eq (a b : List Proc) : ((bs (codeT a)).toList == (bs (codeT b)).toList) = decide (a = b) := by
  rw [Lib.toList_data, Lib.toList_data, bs_list, bs_list]
  by_cases h : a = b
  · subst h
    simp
  · rw [decide_eq_false h, beq_eq_false_iff_ne]
    exact fun e => h (codeT_inj e)
set_option maxRecDepth 100000 in
set_option maxHeartbeats 4000000 in
theorem apart_any (v0 v1 : Value) (a b : List Proc) (w : World) (h0 : CodeAt w v0 a) (h1 : CodeAt w v1 b) (hE : Env w) :
    Calls Tryd.prog 5 #[v0, v1] w fun e w' => e = .returned (.bool true) ∧ Below w.heap.size w w' := by
  obtain ⟨A, ca, rfl⟩ := SlAt.form h0
  obtain ⟨B, cb, rfl⟩ := SlAt.form h1
  have HS := Lib.hid (shown_any w hE)
  have HA := Lib.hid (fun w' (hb : Below w.heap.size w w') => h0.below hb)
  have HB := Lib.hid (fun w' (hb : Below w.heap.size w w') => h1.below hb)
  have HE := Lib.hid (fun w' (hb : Below w.heap.size w w') => hE.kept hb)
  clear h0 h1 hE
  go_enter Tryd.func5, Tryd.ntmps5
  go_wp2_with fail
  go_at_call 9
  refine HS.out.mono ?_
  rintro e w1 ⟨rfl, hb1⟩
  have HSm := Lib.hid (small_any _ a w1 (HA.out w1 hb1))
  have B1 := Lib.hid hb1
  clear hb1 HS
  obtain ⟨sa, hsa⟩ : ∃ q, smallC a = q := ⟨_, rfl⟩
  rw [hsa] at HSm
  cases sa with
  | false =>
    go_wp2_with (go_at_call 10; refine HSm.out.mono ?_; rintro e w2 ⟨rfl, hb2⟩)
    go_ret
    exact ⟨rfl, B1.out.trans (hb2.mono B1.out.size)⟩
  | true =>
  go_wp2_with fail
  go_at_call 10
  refine HSm.out.mono ?_
  rintro e w2 ⟨rfl, hb2⟩
  have hB2 := B1.out.trans (hb2.mono B1.out.size)
  have HSb := Lib.hid (small_any _ b w2 (HB.out w2 hB2))
  have B2 := Lib.hid hB2
  clear hb2 hB2 HSm
  obtain ⟨sb, hsb⟩ : ∃ q, smallC b = q := ⟨_, rfl⟩
  rw [hsb] at HSb
  cases sb with
  | false =>
    go_wp2_with (go_at_call 10; refine HSb.out.mono ?_; rintro e w3 ⟨rfl, hb3⟩)
    go_ret
    exact ⟨rfl, B2.out.trans (hb3.mono B2.out.size)⟩
  | true =>
  have HSh := Lib.hid (And.intro hsa hsb)
  clear hsa hsb
  go_wp2_with fail
  go_at_call 10
  refine HSb.out.mono ?_
  rintro e w3 ⟨rfl, hb3⟩
  have hB3 := B2.out.trans (hb3.mono B2.out.size)
  have HW := Lib.hid (show_any _ a w3 (HA.out w3 hB3) (HE.out w3 hB3) HSh.out.1)
  have B3 := Lib.hid hB3
  clear hb3 hB3 HSb
  obtain ⟨ra, hra⟩ : ∃ q, rightC a = q := ⟨_, rfl⟩
  cases ra with
  | false =>
    rw [show_wrong hra] at HW
    clear hra
    go_wp2_with fail
    go_at_call 15
    refine HW.out.mono ?_
    rintro e w4 ⟨rfl, hb4⟩
    have hB4 := B3.out.trans (hb4.mono B3.out.size)
    have HW2 := Lib.hid (show_any _ b w4 (HB.out w4 hB4) (HE.out w4 hB4) HSh.out.2)
    have B4 := Lib.hid hB4
    clear hb4 hB4 HW
    obtain ⟨rb, hrb⟩ : ∃ q, rightC b = q := ⟨_, rfl⟩
    cases rb with
    | false =>
      rw [show_wrong hrb] at HW2
      clear hrb
      go_wp2_with (go_at_call 15; refine HW2.out.mono ?_; rintro e w5 ⟨rfl, hb5⟩)
      go_ret
      exact ⟨rfl, B4.out.trans (hb5.mono B4.out.size)⟩
    | true =>
      rw [show_right hrb] at HW2
      clear hrb
      go_wp2_with (go_at_call 15; refine HW2.out.mono ?_; rintro e w5 ⟨rfl, hb5⟩)
      go_ret
      exact ⟨rfl, B4.out.trans (hb5.mono B4.out.size)⟩
  | true =>
    rw [show_right hra] at HW
    clear hra
    go_wp2_with fail
    go_at_call 15
    refine HW.out.mono ?_
    rintro e w4 ⟨rfl, hb4⟩
    have hB4 := B3.out.trans (hb4.mono B3.out.size)
    have HW2 := Lib.hid (show_any _ b w4 (HB.out w4 hB4) (HE.out w4 hB4) HSh.out.2)
    have B4 := Lib.hid hB4
    clear hb4 hB4 HW
    obtain ⟨rb, hrb⟩ : ∃ q, rightC b = q := ⟨_, rfl⟩
    cases rb with
    | false =>
      rw [show_wrong hrb] at HW2
      clear hrb
      go_wp2_with (go_at_call 15; refine HW2.out.mono ?_; rintro e w5 ⟨rfl, hb5⟩)
      go_ret
      exact ⟨rfl, B4.out.trans (hb5.mono B4.out.size)⟩
    | true =>
      rw [show_right hrb] at HW2
      clear hrb
      go_wp2_with fail
      go_at_call 15
      refine HW2.out.mono ?_
      rintro e w5 ⟨rfl, hb5⟩
      have hB5 := B4.out.trans (hb5.mono B4.out.size)
      have HSa := Lib.hid (same_any _ _ a b w5 (HA.out w5 hB5) (HB.out w5 hB5))
      have B5 := Lib.hid hB5
      have hte := text_eq a b
      clear hb5 hB5 HW2
      obtain ⟨q, hq⟩ : ∃ q, decide (a = b) = q := ⟨_, rfl⟩
      rw [hq] at HSa hte
      clear hq
      cases q
      all_goals
        go_wp2_with (go_at_call 13; refine HSa.out.mono ?_; rintro e w6 ⟨rfl, hb6⟩)
        go_ret
        exact ⟨rfl, B5.out.trans (hb6.mono B5.out.size)⟩
end Go.Proofs.YtconnhphkbgbkaaDoor
