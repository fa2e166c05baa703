/- The law ValueSums' walk: where it says nothing. -/
import Derived.Test.YtpgclgfaiklpoaaDoorLawOne
namespace Go.Proofs.YtpgclgfaiklpoaaDoor
open Go.RowKit Go.Proofs

set_option maxRecDepth 100000 in
set_option maxHeartbeats 4000000 in
theorem sums_notA (k n : Int) (s : ByteArray) (k' n' : Int) (s' : ByteArray) (w : World) (hE : Env w) (hr : rightB k n s = false) : Calls Tryd.prog 6 #[.agg #[.int .i64 k, .int .i64 n, .string s], .agg #[.int .i64 k', .int .i64 n', .string s']] w fun e w' => e = .returned (.bool true) ∧ Below w.heap.size w w' := by
  have HE := Lib.hid (fun (w' : World) (hb : Below w.heap.size w w') => hE.kept hb)
  have BC := Lib.hid (two_box w (boxO k n s) (boxO k' n' s'))
  have I1 := Lib.hid (box_is w k n s)
  have I2 := Lib.hid (boxIs_new (w.alloc (boxO k n s)) k' n' s')
  have hb := below_box (w.alloc (boxO k n s)) (boxO k' n' s')
  replace I1 := Lib.hid (I1.out.below hb)
  clear hb
  have e2 : (w.alloc (boxO k n s)).heap.size = w.heap.size + 1 := by simp
  rw [e2] at I2
  clear e2
  have HH := Lib.hid (fun w hE => shown_any w hE)
  have R1 := Lib.hid (fun w => right_any k n s w)
  rw [hr] at R1
  clear hE hr
  go_enter Tryd.func6, Tryd.ntmps6
  obtain ⟨c00, c01, c02⟩ := I1.out
  obtain ⟨c10, c11, c12⟩ := I2.out
  go_wp2_with fail
  go_at_call 11
  refine (HH.out _ (HE.out _ BC.out)).mono ?_
  rintro e w1 ⟨rfl, hb⟩
  replace BC := stepE BC.out hb
  replace I1 := Lib.hid (I1.out.below hb)
  replace I2 := Lib.hid (I2.out.below hb)
  clear hb
  clear c00 c01 c02 c10 c11 c12
  obtain ⟨c00, c01, c02⟩ := I1.out
  obtain ⟨c10, c11, c12⟩ := I2.out
  go_wp2_with fail
  go_at_call 13
  refine (R1.out _).mono ?_
  rintro e w2 ⟨rfl, hb⟩
  replace BC := stepE BC.out hb
  replace I1 := Lib.hid (I1.out.below hb)
  replace I2 := Lib.hid (I2.out.below hb)
  clear hb
  clear c00 c01 c02 c10 c11 c12
  obtain ⟨c00, c01, c02⟩ := I1.out
  obtain ⟨c10, c11, c12⟩ := I2.out
  go_wp2
  go_ret
  exact ⟨rfl, BC.out⟩
set_option maxRecDepth 100000 in
set_option maxHeartbeats 4000000 in
theorem sums_notB (k n : Int) (s : ByteArray) (k' n' : Int) (s' : ByteArray) (w : World) (hE : Env w) (hr : rightB k n s = true) (hr' : rightB k' n' s' = false) : Calls Tryd.prog 6 #[.agg #[.int .i64 k, .int .i64 n, .string s], .agg #[.int .i64 k', .int .i64 n', .string s']] w fun e w' => e = .returned (.bool true) ∧ Below w.heap.size w w' := by
  have HE := Lib.hid (fun (w' : World) (hb : Below w.heap.size w w') => hE.kept hb)
  have BC := Lib.hid (two_box w (boxO k n s) (boxO k' n' s'))
  have I1 := Lib.hid (box_is w k n s)
  have I2 := Lib.hid (boxIs_new (w.alloc (boxO k n s)) k' n' s')
  have hb := below_box (w.alloc (boxO k n s)) (boxO k' n' s')
  replace I1 := Lib.hid (I1.out.below hb)
  clear hb
  have e2 : (w.alloc (boxO k n s)).heap.size = w.heap.size + 1 := by simp
  rw [e2] at I2
  clear e2
  have HH := Lib.hid (fun w hE => shown_any w hE)
  have R1 := Lib.hid (fun w => right_any k n s w)
  have R2 := Lib.hid (fun w => right_any k' n' s' w)
  rw [hr] at R1
  rw [hr'] at R2
  clear hE hr hr'
  go_enter Tryd.func6, Tryd.ntmps6
  obtain ⟨c00, c01, c02⟩ := I1.out
  obtain ⟨c10, c11, c12⟩ := I2.out
  go_wp2_with fail
  go_at_call 11
  refine (HH.out _ (HE.out _ BC.out)).mono ?_
  rintro e w1 ⟨rfl, hb⟩
  replace BC := stepE BC.out hb
  replace I1 := Lib.hid (I1.out.below hb)
  replace I2 := Lib.hid (I2.out.below hb)
  clear hb
  clear c00 c01 c02 c10 c11 c12
  obtain ⟨c00, c01, c02⟩ := I1.out
  obtain ⟨c10, c11, c12⟩ := I2.out
  go_wp2_with fail
  go_at_call 13
  refine (R1.out _).mono ?_
  rintro e w2 ⟨rfl, hb⟩
  replace BC := stepE BC.out hb
  replace I1 := Lib.hid (I1.out.below hb)
  replace I2 := Lib.hid (I2.out.below hb)
  clear hb
  clear c00 c01 c02 c10 c11 c12
  obtain ⟨c00, c01, c02⟩ := I1.out
  obtain ⟨c10, c11, c12⟩ := I2.out
  go_wp2_with fail
  go_at_call 13
  refine (R2.out _).mono ?_
  rintro e w3 ⟨rfl, hb⟩
  replace BC := stepE BC.out hb
  replace I1 := Lib.hid (I1.out.below hb)
  replace I2 := Lib.hid (I2.out.below hb)
  clear hb
  clear c00 c01 c02 c10 c11 c12
  obtain ⟨c00, c01, c02⟩ := I1.out
  obtain ⟨c10, c11, c12⟩ := I2.out
  go_wp2
  go_ret
  exact ⟨rfl, BC.out⟩
theorem text_of {k n : Int} {s : ByteArray} {a : J} (h : Value.agg #[.int .i64 k, .int .i64 n, .string s] = a.v) : (k == 4) = a.isText := by
  rw [J.v_eq] at h
  simp at h
  rw [h.1]
  rcases a with _ | _ | (_ | _) | n | s | n <;> rfl
theorem okV_num (x : Int) : okV (.num x) = .tuple #[.agg #[.int .i64 3, .int .i64 x, .string ⟨#[]⟩], .int .i64 0] := rfl
set_option maxRecDepth 100000 in
set_option maxHeartbeats 4000000 in
theorem sums_textA (k n : Int) (s : ByteArray) (k' n' : Int) (s' : ByteArray) (w : World) (hE : Env w) (hr : rightB k n s = true) (hr' : rightB k' n' s' = true) (hk : (k == 4) = true) : Calls Tryd.prog 6 #[.agg #[.int .i64 k, .int .i64 n, .string s], .agg #[.int .i64 k', .int .i64 n', .string s']] w fun e w' => e = .returned (.bool true) ∧ Below w.heap.size w w' := by
  have HE := Lib.hid (fun (w' : World) (hb : Below w.heap.size w w') => hE.kept hb)
  have BC := Lib.hid (two_box w (boxO k n s) (boxO k' n' s'))
  have I1 := Lib.hid (box_is w k n s)
  have I2 := Lib.hid (boxIs_new (w.alloc (boxO k n s)) k' n' s')
  have hb := below_box (w.alloc (boxO k n s)) (boxO k' n' s')
  replace I1 := Lib.hid (I1.out.below hb)
  clear hb
  have e2 : (w.alloc (boxO k n s)).heap.size = w.heap.size + 1 := by simp
  rw [e2] at I2
  clear e2
  have HH := Lib.hid (fun w hE => shown_any w hE)
  have R1 := Lib.hid (fun w => right_any k n s w)
  have R2 := Lib.hid (fun w => right_any k' n' s' w)
  rw [hr] at R1
  rw [hr'] at R2
  clear hE hr hr'
  go_enter Tryd.func6, Tryd.ntmps6
  obtain ⟨c00, c01, c02⟩ := I1.out
  obtain ⟨c10, c11, c12⟩ := I2.out
  go_wp2_with fail
  go_at_call 11
  refine (HH.out _ (HE.out _ BC.out)).mono ?_
  rintro e w1 ⟨rfl, hb⟩
  replace BC := stepE BC.out hb
  replace I1 := Lib.hid (I1.out.below hb)
  replace I2 := Lib.hid (I2.out.below hb)
  clear hb
  clear c00 c01 c02 c10 c11 c12
  obtain ⟨c00, c01, c02⟩ := I1.out
  obtain ⟨c10, c11, c12⟩ := I2.out
  go_wp2_with fail
  go_at_call 13
  refine (R1.out _).mono ?_
  rintro e w2 ⟨rfl, hb⟩
  replace BC := stepE BC.out hb
  replace I1 := Lib.hid (I1.out.below hb)
  replace I2 := Lib.hid (I2.out.below hb)
  clear hb
  clear c00 c01 c02 c10 c11 c12
  obtain ⟨c00, c01, c02⟩ := I1.out
  obtain ⟨c10, c11, c12⟩ := I2.out
  go_wp2_with fail
  go_at_call 13
  refine (R2.out _).mono ?_
  rintro e w3 ⟨rfl, hb⟩
  replace BC := stepE BC.out hb
  replace I1 := Lib.hid (I1.out.below hb)
  replace I2 := Lib.hid (I2.out.below hb)
  clear hb
  clear c00 c01 c02 c10 c11 c12
  obtain ⟨c00, c01, c02⟩ := I1.out
  obtain ⟨c10, c11, c12⟩ := I2.out
  go_wp2
  go_ret
  exact ⟨rfl, BC.out⟩
set_option maxRecDepth 100000 in
set_option maxHeartbeats 4000000 in
theorem sums_textB (k n : Int) (s : ByteArray) (k' n' : Int) (s' : ByteArray) (w : World) (hE : Env w) (hr : rightB k n s = true) (hr' : rightB k' n' s' = true) (hk : (k == 4) = false) (hk' : (k' == 4) = true) : Calls Tryd.prog 6 #[.agg #[.int .i64 k, .int .i64 n, .string s], .agg #[.int .i64 k', .int .i64 n', .string s']] w fun e w' => e = .returned (.bool true) ∧ Below w.heap.size w w' := by
  have HE := Lib.hid (fun (w' : World) (hb : Below w.heap.size w w') => hE.kept hb)
  have BC := Lib.hid (two_box w (boxO k n s) (boxO k' n' s'))
  have I1 := Lib.hid (box_is w k n s)
  have I2 := Lib.hid (boxIs_new (w.alloc (boxO k n s)) k' n' s')
  have hb := below_box (w.alloc (boxO k n s)) (boxO k' n' s')
  replace I1 := Lib.hid (I1.out.below hb)
  clear hb
  have e2 : (w.alloc (boxO k n s)).heap.size = w.heap.size + 1 := by simp
  rw [e2] at I2
  clear e2
  have HH := Lib.hid (fun w hE => shown_any w hE)
  have R1 := Lib.hid (fun w => right_any k n s w)
  have R2 := Lib.hid (fun w => right_any k' n' s' w)
  rw [hr] at R1
  rw [hr'] at R2
  clear hE hr hr'
  go_enter Tryd.func6, Tryd.ntmps6
  obtain ⟨c00, c01, c02⟩ := I1.out
  obtain ⟨c10, c11, c12⟩ := I2.out
  go_wp2_with fail
  go_at_call 11
  refine (HH.out _ (HE.out _ BC.out)).mono ?_
  rintro e w1 ⟨rfl, hb⟩
  replace BC := stepE BC.out hb
  replace I1 := Lib.hid (I1.out.below hb)
  replace I2 := Lib.hid (I2.out.below hb)
  clear hb
  clear c00 c01 c02 c10 c11 c12
  obtain ⟨c00, c01, c02⟩ := I1.out
  obtain ⟨c10, c11, c12⟩ := I2.out
  go_wp2_with fail
  go_at_call 13
  refine (R1.out _).mono ?_
  rintro e w2 ⟨rfl, hb⟩
  replace BC := stepE BC.out hb
  replace I1 := Lib.hid (I1.out.below hb)
  replace I2 := Lib.hid (I2.out.below hb)
  clear hb
  clear c00 c01 c02 c10 c11 c12
  obtain ⟨c00, c01, c02⟩ := I1.out
  obtain ⟨c10, c11, c12⟩ := I2.out
  go_wp2_with fail
  go_at_call 13
  refine (R2.out _).mono ?_
  rintro e w3 ⟨rfl, hb⟩
  replace BC := stepE BC.out hb
  replace I1 := Lib.hid (I1.out.below hb)
  replace I2 := Lib.hid (I2.out.below hb)
  clear hb
  clear c00 c01 c02 c10 c11 c12
  obtain ⟨c00, c01, c02⟩ := I1.out
  obtain ⟨c10, c11, c12⟩ := I2.out
  go_wp2
  go_ret
  exact ⟨rfl, BC.out⟩
end Go.Proofs.YtpgclgfaiklpoaaDoor
