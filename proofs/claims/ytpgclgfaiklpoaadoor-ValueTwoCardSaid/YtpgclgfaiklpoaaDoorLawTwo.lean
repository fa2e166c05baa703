/- The law ValueTwo' walk. -/
import Derived.Test.YtpgclgfaiklpoaaDoorLawOne
import Derived.Test.YtpgclgfaiklpoaaDoorRTwo
namespace Go.Proofs.YtpgclgfaiklpoaaDoor
open Go.RowKit Go.Proofs

theorem twoV_shape (q : Bs) (a b : J) : ∃ x y z e, twoV q a b = .tuple #[.agg #[.int .i64 x, .int .i64 y, .string z], .int .i64 e] := by
  unfold twoV
  split
  · exact ⟨_, _, _, _, rfl⟩
  · unfold okV
    split
    · exact ⟨_, _, _, _, rfl⟩
    · rw [J.v_eq]
      exact ⟨_, _, _, _, rfl⟩
set_option maxRecDepth 100000 in
set_option maxHeartbeats 4000000 in
theorem two_notA (q : ByteArray) (k n : Int) (s : ByteArray) (k' n' : Int) (s' : ByteArray) (w : World) (hE : Env w) (hr : rightB k n s = false) : Calls Tryd.prog 4 #[.string q, .agg #[.int .i64 k, .int .i64 n, .string s], .agg #[.int .i64 k', .int .i64 n', .string s']] w fun e w' => e = .returned (.bool true) ∧ Below w.heap.size w w' := by
  have HE := Lib.hid (fun (w' : World) (hb : Below w.heap.size w w') => hE.kept hb)
  have BC := Lib.hid (two_box w (boxO k n s) (boxO k' n' s'))
  have I1 := Lib.hid (box_is w k n s)
  have I2 := Lib.hid (boxIs_new (w.alloc (boxO k n s)) k' n' s')
  have hb := below_box (w.alloc (boxO k n s)) (boxO k' n' s')
  replace I1 := Lib.hid (I1.out.below hb)
  clear hb
  have e2 : (w.alloc (boxO k n s)).heap.size = w.heap.size + 1 := by simp
  rw [e2] at I2
  clear e2
  have HH := Lib.hid (fun w hE => shown_any w hE)
  have R1 := Lib.hid (fun w => rright_any k n s w)
  have R2 := Lib.hid (fun w => rright_any k' n' s' w)
  rw [hr] at R1
  clear hE hr
  generalize rightB k' n' s' = rb at R2
  go_enter Tryd.func4, Tryd.ntmps4
  obtain ⟨c00, c01, c02⟩ := I1.out
  obtain ⟨c10, c11, c12⟩ := I2.out
  go_wp2_with fail
  go_at_call 11
  refine (HH.out _ (HE.out _ BC.out)).mono ?_
  rintro e w1 ⟨rfl, hb⟩
  replace BC := stepE BC.out hb
  replace I1 := Lib.hid (I1.out.below hb)
  replace I2 := Lib.hid (I2.out.below hb)
  clear hb
  clear c00 c01 c02 c10 c11 c12
  obtain ⟨c00, c01, c02⟩ := I1.out
  obtain ⟨c10, c11, c12⟩ := I2.out
  go_wp2_with fail
  go_at_call 12
  refine (R1.out _).mono ?_
  rintro e w2 ⟨rfl, hb⟩
  replace BC := stepE BC.out hb
  replace I1 := Lib.hid (I1.out.below hb)
  replace I2 := Lib.hid (I2.out.below hb)
  clear hb
  clear c00 c01 c02 c10 c11 c12
  obtain ⟨c00, c01, c02⟩ := I1.out
  obtain ⟨c10, c11, c12⟩ := I2.out
  go_wp2_with fail
  go_at_call 12
  refine (R2.out _).mono ?_
  rintro e w3 ⟨rfl, hb⟩
  replace BC := stepE BC.out hb
  replace I1 := Lib.hid (I1.out.below hb)
  replace I2 := Lib.hid (I2.out.below hb)
  clear hb
  clear c00 c01 c02 c10 c11 c12
  obtain ⟨c00, c01, c02⟩ := I1.out
  obtain ⟨c10, c11, c12⟩ := I2.out
  go_wp2
  go_ret
  exact ⟨rfl, BC.out⟩
set_option maxRecDepth 100000 in
set_option maxHeartbeats 4000000 in
theorem two_notB (q : ByteArray) (k n : Int) (s : ByteArray) (k' n' : Int) (s' : ByteArray) (w : World) (hE : Env w) (hr : rightB k n s = true) (hr' : rightB k' n' s' = false) : Calls Tryd.prog 4 #[.string q, .agg #[.int .i64 k, .int .i64 n, .string s], .agg #[.int .i64 k', .int .i64 n', .string s']] w fun e w' => e = .returned (.bool true) ∧ Below w.heap.size w w' := by
  have HE := Lib.hid (fun (w' : World) (hb : Below w.heap.size w w') => hE.kept hb)
  have BC := Lib.hid (two_box w (boxO k n s) (boxO k' n' s'))
  have I1 := Lib.hid (box_is w k n s)
  have I2 := Lib.hid (boxIs_new (w.alloc (boxO k n s)) k' n' s')
  have hb := below_box (w.alloc (boxO k n s)) (boxO k' n' s')
  replace I1 := Lib.hid (I1.out.below hb)
  clear hb
  have e2 : (w.alloc (boxO k n s)).heap.size = w.heap.size + 1 := by simp
  rw [e2] at I2
  clear e2
  have HH := Lib.hid (fun w hE => shown_any w hE)
  have R1 := Lib.hid (fun w => rright_any k n s w)
  have R2 := Lib.hid (fun w => rright_any k' n' s' w)
  rw [hr] at R1
  rw [hr'] at R2
  clear hE hr hr'
  go_enter Tryd.func4, Tryd.ntmps4
  obtain ⟨c00, c01, c02⟩ := I1.out
  obtain ⟨c10, c11, c12⟩ := I2.out
  go_wp2_with fail
  go_at_call 11
  refine (HH.out _ (HE.out _ BC.out)).mono ?_
  rintro e w1 ⟨rfl, hb⟩
  replace BC := stepE BC.out hb
  replace I1 := Lib.hid (I1.out.below hb)
  replace I2 := Lib.hid (I2.out.below hb)
  clear hb
  clear c00 c01 c02 c10 c11 c12
  obtain ⟨c00, c01, c02⟩ := I1.out
  obtain ⟨c10, c11, c12⟩ := I2.out
  go_wp2_with fail
  go_at_call 12
  refine (R1.out _).mono ?_
  rintro e w2 ⟨rfl, hb⟩
  replace BC := stepE BC.out hb
  replace I1 := Lib.hid (I1.out.below hb)
  replace I2 := Lib.hid (I2.out.below hb)
  clear hb
  clear c00 c01 c02 c10 c11 c12
  obtain ⟨c00, c01, c02⟩ := I1.out
  obtain ⟨c10, c11, c12⟩ := I2.out
  go_wp2_with fail
  go_at_call 12
  refine (R2.out _).mono ?_
  rintro e w3 ⟨rfl, hb⟩
  replace BC := stepE BC.out hb
  replace I1 := Lib.hid (I1.out.below hb)
  replace I2 := Lib.hid (I2.out.below hb)
  clear hb
  clear c00 c01 c02 c10 c11 c12
  obtain ⟨c00, c01, c02⟩ := I1.out
  obtain ⟨c10, c11, c12⟩ := I2.out
  go_wp2
  go_ret
  exact ⟨rfl, BC.out⟩
set_option maxRecDepth 100000 in
set_option maxHeartbeats 4000000 in
theorem two_yes (q : ByteArray) (hq : q.size ≤ 281474976710656) (k n : Int) (s : ByteArray) (k' n' : Int) (s' : ByteArray) (w : World) (hE : Env w) (a b : J) (ha : a.ok) (hb' : b.ok) (va : .agg #[.int .i64 k, .int .i64 n, .string s] = a.v) (vb : .agg #[.int .i64 k', .int .i64 n', .string s'] = b.v) (hr : rightB k n s = true) (hr' : rightB k' n' s' = true) : Calls Tryd.prog 4 #[.string q, .agg #[.int .i64 k, .int .i64 n, .string s], .agg #[.int .i64 k', .int .i64 n', .string s']] w fun e w' => e = .returned (.bool true) ∧ Below w.heap.size w w' := by
  have HE := Lib.hid (fun (w' : World) (hb : Below w.heap.size w w') => hE.kept hb)
  have BC := Lib.hid (two_box w (boxO k n s) (boxO k' n' s'))
  have I1 := Lib.hid (box_is w k n s)
  have I2 := Lib.hid (boxIs_new (w.alloc (boxO k n s)) k' n' s')
  have hb := below_box (w.alloc (boxO k n s)) (boxO k' n' s')
  replace I1 := Lib.hid (I1.out.below hb)
  clear hb
  have e2 : (w.alloc (boxO k n s)).heap.size = w.heap.size + 1 := by simp
  rw [e2] at I2
  clear e2
  have HH := Lib.hid (fun w hE => shown_any w hE)
  have R1 := Lib.hid (fun w => rright_any k n s w)
  have R2 := Lib.hid (fun w => rright_any k' n' s' w)
  have T1 := Lib.hid (fun w hE => two_any q a b ha hb' w hE hq)
  have T2 := Lib.hid (fun w => rtwo_any q a b ha hb' w)
  rw [hr] at R1
  rw [hr'] at R2
  obtain ⟨x, y, z, er, ht⟩ := twoV_shape q.data.toList a b
  rw [ht, ← va, ← vb] at T1 T2
  clear hE hr hr' va vb ha hb' ht hq
  go_enter Tryd.func4, Tryd.ntmps4
  obtain ⟨c00, c01, c02⟩ := I1.out
  obtain ⟨c10, c11, c12⟩ := I2.out
  go_wp2_with fail
  go_at_call 11
  refine (HH.out _ (HE.out _ BC.out)).mono ?_
  rintro e w1 ⟨rfl, hb⟩
  replace BC := stepE BC.out hb
  replace I1 := Lib.hid (I1.out.below hb)
  replace I2 := Lib.hid (I2.out.below hb)
  clear hb
  clear c00 c01 c02 c10 c11 c12
  obtain ⟨c00, c01, c02⟩ := I1.out
  obtain ⟨c10, c11, c12⟩ := I2.out
  go_wp2_with fail
  go_at_call 12
  refine (R1.out _).mono ?_
  rintro e w2 ⟨rfl, hb⟩
  replace BC := stepE BC.out hb
  replace I1 := Lib.hid (I1.out.below hb)
  replace I2 := Lib.hid (I2.out.below hb)
  clear hb
  clear c00 c01 c02 c10 c11 c12
  obtain ⟨c00, c01, c02⟩ := I1.out
  obtain ⟨c10, c11, c12⟩ := I2.out
  go_wp2_with fail
  go_at_call 12
  refine (R2.out _).mono ?_
  rintro e w3 ⟨rfl, hb⟩
  replace BC := stepE BC.out hb
  replace I1 := Lib.hid (I1.out.below hb)
  replace I2 := Lib.hid (I2.out.below hb)
  clear hb
  clear c00 c01 c02 c10 c11 c12
  obtain ⟨c00, c01, c02⟩ := I1.out
  obtain ⟨c10, c11, c12⟩ := I2.out
  go_wp2_with fail
  go_at_call 24
  refine (T1.out _ (HE.out _ BC.out)).mono ?_
  rintro e w4 ⟨rfl, hb⟩
  replace BC := stepE BC.out hb
  replace I1 := Lib.hid (I1.out.below hb)
  replace I2 := Lib.hid (I2.out.below hb)
  clear hb
  have hb := below_box w4 (boxO x y z)
  replace I1 := Lib.hid (I1.out.below hb)
  replace I2 := Lib.hid (I2.out.below hb)
  have I3 := Lib.hid (boxIs_new w4 x y z)
  replace BC := stepE BC.out hb
  clear hb
  clear c00 c01 c02 c10 c11 c12
  obtain ⟨c00, c01, c02⟩ := I1.out
  obtain ⟨c10, c11, c12⟩ := I2.out
  obtain ⟨c20, c21, c22⟩ := I3.out
  go_wp2_with fail
  go_at_call 25
  refine (T2.out _).mono ?_
  rintro e w5 ⟨rfl, hb⟩
  replace BC := stepE BC.out hb
  replace I1 := Lib.hid (I1.out.below hb)
  replace I2 := Lib.hid (I2.out.below hb)
  replace I3 := Lib.hid (I3.out.below hb)
  clear hb
  have hb := below_box w5 (boxO x y z)
  replace I1 := Lib.hid (I1.out.below hb)
  replace I2 := Lib.hid (I2.out.below hb)
  replace I3 := Lib.hid (I3.out.below hb)
  have I4 := Lib.hid (boxIs_new w5 x y z)
  replace BC := stepE BC.out hb
  clear hb
  clear c00 c01 c02 c10 c11 c12 c20 c21 c22
  obtain ⟨c00, c01, c02⟩ := I1.out
  obtain ⟨c10, c11, c12⟩ := I2.out
  obtain ⟨c20, c21, c22⟩ := I3.out
  obtain ⟨c30, c31, c32⟩ := I4.out
  go_wp2
  go_ret
  exact ⟨rfl, BC.out⟩
theorem two_walk (q : ByteArray) (hq : q.size ≤ 281474976710656) (k n : Int) (s : ByteArray) (k' n' : Int) (s' : ByteArray) (w : World) (hE : Env w) (hn : I64 n) (hs : s.size ≤ 281474976710656) (hn' : I64 n') (hs' : s'.size ≤ 281474976710656) : Calls Tryd.prog 4 #[.string q, .agg #[.int .i64 k, .int .i64 n, .string s], .agg #[.int .i64 k', .int .i64 n', .string s']] w fun e w' => e = .returned (.bool true) ∧ Below w.heap.size w w' := by
  cases hr : rightB k n s with
  | false => exact two_notA q k n s k' n' s' w hE hr
  | true =>
    cases hr' : rightB k' n' s' with
    | false => exact two_notB q k n s k' n' s' w hE hr hr'
    | true =>
      obtain ⟨a, ha, va⟩ := rightB_iff k n s hn hs hr
      obtain ⟨b, hb, vb⟩ := rightB_iff k' n' s' hn' hs' hr'
      exact two_yes q hq k n s k' n' s' w hE a b ha hb va vb hr hr'
end Go.Proofs.YtpgclgfaiklpoaaDoor
