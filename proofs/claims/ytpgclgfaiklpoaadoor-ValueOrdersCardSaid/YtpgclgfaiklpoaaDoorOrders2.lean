/- The law ValueOrders' walk, way 2. -/
import Derived.Test.YtpgclgfaiklpoaaDoorOrdersA
import Derived.Deep.RegionWith
namespace Go.Proofs.YtpgclgfaiklpoaaDoor
open Go.RowKit Go.Proofs

set_option maxRecDepth 100000 in
set_option maxHeartbeats 8000000 in
theorem orders_y2 (k n : Int) (s : ByteArray) (k' n' : Int) (s' : ByteArray) (w : World) (hE : Env w) (a b : J) (ha : a.ok) (hb' : b.ok) (va : .agg #[.int .i64 k, .int .i64 n, .string s] = a.v) (vb : .agg #[.int .i64 k', .int .i64 n', .string s'] = b.v) (hr : rightB k n s = true) (hr' : rightB k' n' s' = true) (ho : ordJ a b = 0) (ho' : ordJ b a = -(0)) : Calls Tryd.prog 7 #[.agg #[.int .i64 k, .int .i64 n, .string s], .agg #[.int .i64 k', .int .i64 n', .string s']] w fun e w' => e = .returned (.bool true) ∧ Below w.heap.size w w' := by
  have HE := Lib.hid (fun (w' : World) (hb : Below w.heap.size w w') => hE.kept hb)
  have BC := Lib.hid (two_box w (boxO k n s) (boxO k' n' s'))
  have I1 := Lib.hid (box_is w k n s)
  have I2 := Lib.hid (boxIs_new (w.alloc (boxO k n s)) k' n' s')
  have hb := below_box (w.alloc (boxO k n s)) (boxO k' n' s')
  replace I1 := Lib.hid (I1.out.below hb)
  clear hb
  have e2 : (w.alloc (boxO k n s)).heap.size = w.heap.size + 1 := by simp
  rw [e2] at I2
  clear e2
  have HH := Lib.hid (fun w hE => shown_any w hE)
  have R1 := Lib.hid (fun w => right_any k n s w)
  have R2 := Lib.hid (fun w => right_any k' n' s' w)
  have T1 := Lib.hid (fun w hE => two_any ⟨#[60, 61]⟩ a b ha hb' w hE (by decide))
  have T2 := Lib.hid (fun w hE => two_any ⟨#[60, 61]⟩ b a hb' ha w hE (by decide))
  have T3 := Lib.hid (fun w hE => two_any ⟨#[60]⟩ a b ha hb' w hE (by decide))
  have T4 := Lib.hid (fun w hE => two_any ⟨#[60]⟩ b a hb' ha w hE (by decide))
  have C1 := Lib.hid (fun w => truthy_any (J.bool true) w)
  have C2 := Lib.hid (fun w => truthy_any (J.bool false) w)
  rw [hr] at R1
  rw [hr'] at R2
  rw [two_leq, ho, ← va, ← vb] at T1
  rw [two_leq, ho', ← va, ← vb] at T2
  rw [two_lss, ho, ← va, ← vb] at T3
  rw [two_lss, ho', ← va, ← vb] at T4
  simp only [J.v, J.truthy] at C1 C2
  clear hE hr hr' va vb ha hb' ho ho'
  have e1 : (J.bool (decide ((0 : Int) ≤ 0))).v = .agg #[.int .i64 2, .int .i64 1, .string ⟨#[]⟩] := rfl
  have e2 : (J.bool (decide ((-(0) : Int) ≤ 0))).v = .agg #[.int .i64 2, .int .i64 1, .string ⟨#[]⟩] := rfl
  have e3 : (J.bool (decide ((0 : Int) < 0))).v = .agg #[.int .i64 2, .int .i64 0, .string ⟨#[]⟩] := rfl
  have e4 : (J.bool (decide ((-(0) : Int) < 0))).v = .agg #[.int .i64 2, .int .i64 0, .string ⟨#[]⟩] := rfl
  rw [e1] at T1
  rw [e2] at T2
  rw [e3] at T3
  rw [e4] at T4
  clear e1 e2 e3 e4
  go_enter Tryd.func7, Tryd.ntmps7
  obtain ⟨c00, c01, c02⟩ := I1.out
  obtain ⟨c10, c11, c12⟩ := I2.out
  go_wp2_with fail
  go_at_call 11
  refine (HH.out _ (HE.out _ BC.out)).mono ?_
  rintro e w1 ⟨rfl, hb⟩
  replace BC := stepE BC.out hb
  replace I1 := Lib.hid (I1.out.below hb)
  replace I2 := Lib.hid (I2.out.below hb)
  clear hb
  clear c00 c01 c02 c10 c11 c12
  obtain ⟨c00, c01, c02⟩ := I1.out
  obtain ⟨c10, c11, c12⟩ := I2.out
  go_wp2_with fail
  go_at_call 13
  refine (R1.out _).mono ?_
  rintro e w2 ⟨rfl, hb⟩
  replace BC := stepE BC.out hb
  replace I1 := Lib.hid (I1.out.below hb)
  replace I2 := Lib.hid (I2.out.below hb)
  clear hb
  clear c00 c01 c02 c10 c11 c12
  obtain ⟨c00, c01, c02⟩ := I1.out
  obtain ⟨c10, c11, c12⟩ := I2.out
  go_wp2_with fail
  go_at_call 13
  refine (R2.out _).mono ?_
  rintro e w3 ⟨rfl, hb⟩
  replace BC := stepE BC.out hb
  replace I1 := Lib.hid (I1.out.below hb)
  replace I2 := Lib.hid (I2.out.below hb)
  clear hb
  clear c00 c01 c02 c10 c11 c12
  obtain ⟨c00, c01, c02⟩ := I1.out
  obtain ⟨c10, c11, c12⟩ := I2.out
  go_wp2_with fail
  go_at_call 24
  refine (T1.out _ (HE.out _ BC.out)).mono ?_
  rintro e w4 ⟨rfl, hb⟩
  replace BC := stepE BC.out hb
  replace I1 := Lib.hid (I1.out.below hb)
  replace I2 := Lib.hid (I2.out.below hb)
  clear hb
  have hb := below_box w4 (boxO 2 1 ⟨#[]⟩)
  replace I1 := Lib.hid (I1.out.below hb)
  replace I2 := Lib.hid (I2.out.below hb)
  have I3 := Lib.hid (boxIs_new w4 2 1 ⟨#[]⟩)
  replace BC := stepE BC.out hb
  clear hb
  clear c00 c01 c02 c10 c11 c12
  obtain ⟨c00, c01, c02⟩ := I1.out
  obtain ⟨c10, c11, c12⟩ := I2.out
  obtain ⟨c20, c21, c22⟩ := I3.out
  go_wp2_with fail
  go_at_call 24
  refine (T2.out _ (HE.out _ BC.out)).mono ?_
  rintro e w5 ⟨rfl, hb⟩
  replace BC := stepE BC.out hb
  replace I1 := Lib.hid (I1.out.below hb)
  replace I2 := Lib.hid (I2.out.below hb)
  replace I3 := Lib.hid (I3.out.below hb)
  clear hb
  have hb := below_box w5 (boxO 2 1 ⟨#[]⟩)
  replace I1 := Lib.hid (I1.out.below hb)
  replace I2 := Lib.hid (I2.out.below hb)
  replace I3 := Lib.hid (I3.out.below hb)
  have I4 := Lib.hid (boxIs_new w5 2 1 ⟨#[]⟩)
  replace BC := stepE BC.out hb
  clear hb
  clear c00 c01 c02 c10 c11 c12 c20 c21 c22
  obtain ⟨c00, c01, c02⟩ := I1.out
  obtain ⟨c10, c11, c12⟩ := I2.out
  obtain ⟨c20, c21, c22⟩ := I3.out
  obtain ⟨c30, c31, c32⟩ := I4.out
  go_wp2_with fail
  go_at_call 24
  refine (T3.out _ (HE.out _ BC.out)).mono ?_
  rintro e w6 ⟨rfl, hb⟩
  replace BC := stepE BC.out hb
  replace I1 := Lib.hid (I1.out.below hb)
  replace I2 := Lib.hid (I2.out.below hb)
  replace I3 := Lib.hid (I3.out.below hb)
  replace I4 := Lib.hid (I4.out.below hb)
  clear hb
  have hb := below_box w6 (boxO 2 0 ⟨#[]⟩)
  replace I1 := Lib.hid (I1.out.below hb)
  replace I2 := Lib.hid (I2.out.below hb)
  replace I3 := Lib.hid (I3.out.below hb)
  replace I4 := Lib.hid (I4.out.below hb)
  have I5 := Lib.hid (boxIs_new w6 2 0 ⟨#[]⟩)
  replace BC := stepE BC.out hb
  clear hb
  clear c00 c01 c02 c10 c11 c12 c20 c21 c22 c30 c31 c32
  obtain ⟨c00, c01, c02⟩ := I1.out
  obtain ⟨c10, c11, c12⟩ := I2.out
  obtain ⟨c20, c21, c22⟩ := I3.out
  obtain ⟨c30, c31, c32⟩ := I4.out
  obtain ⟨c40, c41, c42⟩ := I5.out
  go_wp2_with fail
  go_at_call 24
  refine (T4.out _ (HE.out _ BC.out)).mono ?_
  rintro e w7 ⟨rfl, hb⟩
  replace BC := stepE BC.out hb
  replace I1 := Lib.hid (I1.out.below hb)
  replace I2 := Lib.hid (I2.out.below hb)
  replace I3 := Lib.hid (I3.out.below hb)
  replace I4 := Lib.hid (I4.out.below hb)
  replace I5 := Lib.hid (I5.out.below hb)
  clear hb
  have hb := below_box w7 (boxO 2 0 ⟨#[]⟩)
  replace I1 := Lib.hid (I1.out.below hb)
  replace I2 := Lib.hid (I2.out.below hb)
  replace I3 := Lib.hid (I3.out.below hb)
  replace I4 := Lib.hid (I4.out.below hb)
  replace I5 := Lib.hid (I5.out.below hb)
  have I6 := Lib.hid (boxIs_new w7 2 0 ⟨#[]⟩)
  replace BC := stepE BC.out hb
  clear hb
  clear c00 c01 c02 c10 c11 c12 c20 c21 c22 c30 c31 c32 c40 c41 c42
  obtain ⟨c00, c01, c02⟩ := I1.out
  obtain ⟨c10, c11, c12⟩ := I2.out
  obtain ⟨c20, c21, c22⟩ := I3.out
  obtain ⟨c30, c31, c32⟩ := I4.out
  obtain ⟨c40, c41, c42⟩ := I5.out
  obtain ⟨c50, c51, c52⟩ := I6.out
  go_wp2_with fail
  replace BC := Lib.hid BC.out.drew
  replace I1 := Lib.hid I1.out.drew
  replace I2 := Lib.hid I2.out.drew
  replace I3 := Lib.hid I3.out.drew
  replace I4 := Lib.hid I4.out.drew
  replace I5 := Lib.hid I5.out.drew
  replace I6 := Lib.hid I6.out.drew
  go_region_with (first | (go_at_call 18; (with_reducible refine (C1.out _).mono ?_); rintro e wx ⟨rfl, hb⟩; replace BC := stepE BC.out hb; replace I3 := Lib.hid (I3.out.below hb); replace I4 := Lib.hid (I4.out.below hb); replace I5 := Lib.hid (I5.out.below hb); replace I6 := Lib.hid (I6.out.below hb); clear hb; obtain ⟨x30, x31, x32⟩ := I3.out; obtain ⟨x40, x41, x42⟩ := I4.out; obtain ⟨x50, x51, x52⟩ := I5.out; obtain ⟨x60, x61, x62⟩ := I6.out) | (go_at_call 18; (with_reducible refine (C2.out _).mono ?_); rintro e wx ⟨rfl, hb⟩; replace BC := stepE BC.out hb; replace I3 := Lib.hid (I3.out.below hb); replace I4 := Lib.hid (I4.out.below hb); replace I5 := Lib.hid (I5.out.below hb); replace I6 := Lib.hid (I6.out.below hb); clear hb; obtain ⟨x30, x31, x32⟩ := I3.out; obtain ⟨x40, x41, x42⟩ := I4.out; obtain ⟨x50, x51, x52⟩ := I5.out; obtain ⟨x60, x61, x62⟩ := I6.out))
  all_goals
    go_wp2
    go_ret
    exact ⟨rfl, BC.out⟩
end Go.Proofs.YtpgclgfaiklpoaaDoor
