/- The law ValueSame' walk. -/
import Derived.Test.YtpgclgfaiklpoaaDoorLawOne
import Derived.Test.YtpgclgfaiklpoaaDoorRTwo
namespace Go.Proofs.YtpgclgfaiklpoaaDoor
open Go.RowKit Go.Proofs

set_option maxRecDepth 100000 in
set_option maxHeartbeats 4000000 in
theorem same_notA (k n : Int) (s : ByteArray) (k' n' : Int) (s' : ByteArray) (w : World) (hE : Env w) (hr : rightB k n s = false) : Calls Tryd.prog 8 #[.agg #[.int .i64 k, .int .i64 n, .string s], .agg #[.int .i64 k', .int .i64 n', .string s']] w fun e w' => e = .returned (.bool true) ∧ Below w.heap.size w w' := by
  have HE := Lib.hid (fun (w' : World) (hb : Below w.heap.size w w') => hE.kept hb)
  have BC := Lib.hid (two_box w (boxO k n s) (boxO k' n' s'))
  have I1 := Lib.hid (box_is w k n s)
  have I2 := Lib.hid (boxIs_new (w.alloc (boxO k n s)) k' n' s')
  have hb := below_box (w.alloc (boxO k n s)) (boxO k' n' s')
  replace I1 := Lib.hid (I1.out.below hb)
  clear hb
  have e2 : (w.alloc (boxO k n s)).heap.size = w.heap.size + 1 := by simp
  rw [e2] at I2
  clear e2
  have HH := Lib.hid (fun w hE => shown_any w hE)
  have R1 := Lib.hid (fun w => right_any k n s w)
  rw [hr] at R1
  clear hE hr
  go_enter Tryd.func8, Tryd.ntmps8
  obtain ⟨c00, c01, c02⟩ := I1.out
  obtain ⟨c10, c11, c12⟩ := I2.out
  go_wp2_with fail
  go_at_call 11
  refine (HH.out _ (HE.out _ BC.out)).mono ?_
  rintro e w1 ⟨rfl, hb⟩
  replace BC := stepE BC.out hb
  replace I1 := Lib.hid (I1.out.below hb)
  replace I2 := Lib.hid (I2.out.below hb)
  clear hb
  clear c00 c01 c02 c10 c11 c12
  obtain ⟨c00, c01, c02⟩ := I1.out
  obtain ⟨c10, c11, c12⟩ := I2.out
  go_wp2_with fail
  go_at_call 13
  refine (R1.out _).mono ?_
  rintro e w2 ⟨rfl, hb⟩
  replace BC := stepE BC.out hb
  replace I1 := Lib.hid (I1.out.below hb)
  replace I2 := Lib.hid (I2.out.below hb)
  clear hb
  clear c00 c01 c02 c10 c11 c12
  obtain ⟨c00, c01, c02⟩ := I1.out
  obtain ⟨c10, c11, c12⟩ := I2.out
  go_wp2
  go_ret
  exact ⟨rfl, BC.out⟩
set_option maxRecDepth 100000 in
set_option maxHeartbeats 4000000 in
theorem same_notB (k n : Int) (s : ByteArray) (k' n' : Int) (s' : ByteArray) (w : World) (hE : Env w) (hr : rightB k n s = true) (hr' : rightB k' n' s' = false) : Calls Tryd.prog 8 #[.agg #[.int .i64 k, .int .i64 n, .string s], .agg #[.int .i64 k', .int .i64 n', .string s']] w fun e w' => e = .returned (.bool true) ∧ Below w.heap.size w w' := by
  have HE := Lib.hid (fun (w' : World) (hb : Below w.heap.size w w') => hE.kept hb)
  have BC := Lib.hid (two_box w (boxO k n s) (boxO k' n' s'))
  have I1 := Lib.hid (box_is w k n s)
  have I2 := Lib.hid (boxIs_new (w.alloc (boxO k n s)) k' n' s')
  have hb := below_box (w.alloc (boxO k n s)) (boxO k' n' s')
  replace I1 := Lib.hid (I1.out.below hb)
  clear hb
  have e2 : (w.alloc (boxO k n s)).heap.size = w.heap.size + 1 := by simp
  rw [e2] at I2
  clear e2
  have HH := Lib.hid (fun w hE => shown_any w hE)
  have R1 := Lib.hid (fun w => right_any k n s w)
  have R2 := Lib.hid (fun w => right_any k' n' s' w)
  rw [hr] at R1
  rw [hr'] at R2
  clear hE hr hr'
  go_enter Tryd.func8, Tryd.ntmps8
  obtain ⟨c00, c01, c02⟩ := I1.out
  obtain ⟨c10, c11, c12⟩ := I2.out
  go_wp2_with fail
  go_at_call 11
  refine (HH.out _ (HE.out _ BC.out)).mono ?_
  rintro e w1 ⟨rfl, hb⟩
  replace BC := stepE BC.out hb
  replace I1 := Lib.hid (I1.out.below hb)
  replace I2 := Lib.hid (I2.out.below hb)
  clear hb
  clear c00 c01 c02 c10 c11 c12
  obtain ⟨c00, c01, c02⟩ := I1.out
  obtain ⟨c10, c11, c12⟩ := I2.out
  go_wp2_with fail
  go_at_call 13
  refine (R1.out _).mono ?_
  rintro e w2 ⟨rfl, hb⟩
  replace BC := stepE BC.out hb
  replace I1 := Lib.hid (I1.out.below hb)
  replace I2 := Lib.hid (I2.out.below hb)
  clear hb
  clear c00 c01 c02 c10 c11 c12
  obtain ⟨c00, c01, c02⟩ := I1.out
  obtain ⟨c10, c11, c12⟩ := I2.out
  go_wp2_with fail
  go_at_call 13
  refine (R2.out _).mono ?_
  rintro e w3 ⟨rfl, hb⟩
  replace BC := stepE BC.out hb
  replace I1 := Lib.hid (I1.out.below hb)
  replace I2 := Lib.hid (I2.out.below hb)
  clear hb
  clear c00 c01 c02 c10 c11 c12
  obtain ⟨c00, c01, c02⟩ := I1.out
  obtain ⟨c10, c11, c12⟩ := I2.out
  go_wp2
  go_ret
  exact ⟨rfl, BC.out⟩
theorem same_self (k n : Int) (s : ByteArray) : sameP k n s k n s = true := by simp [sameP]
theorem two_same (a b : J) : twoV [61, 61, 61] a b = .tuple #[(J.bool (sameJ a b)).v, .int .i64 0] := by
  show okV _ = _
  cases sameJ a b <;> rfl
theorem two_unlike (a b : J) : twoV [33, 61, 61] a b = .tuple #[(J.bool (!sameJ a b)).v, .int .i64 0] := by
  show okV _ = _
  cases sameJ a b <;> rfl
theorem parts_of {k n : Int} {s : ByteArray} {a : J} (h : Value.agg #[.int .i64 k, .int .i64 n, .string s] = a.v) : a.k = k ∧ a.n = n ∧ a.s = s := by
  rw [J.v_eq] at h
  simp at h
  exact ⟨h.1.symm, h.2.1.symm, h.2.2.symm⟩
set_option maxRecDepth 100000 in
set_option maxHeartbeats 4000000 in
theorem same_y1 (k n : Int) (s s' : ByteArray) (w : World) (hE : Env w) (a b : J) (ha : a.ok) (hb' : b.ok) (va : .agg #[.int .i64 k, .int .i64 n, .string s] = a.v) (vb : .agg #[.int .i64 k, .int .i64 n, .string s'] = b.v) (hr : rightB k n s = true) (hr' : rightB k n s' = true) (e : s.toList = s'.toList) (hs : sameJ a b = true) : Calls Tryd.prog 8 #[.agg #[.int .i64 k, .int .i64 n, .string s], .agg #[.int .i64 k, .int .i64 n, .string s']] w fun e w' => e = .returned (.bool true) ∧ Below w.heap.size w w' := by
  have HE := Lib.hid (fun (w' : World) (hb : Below w.heap.size w w') => hE.kept hb)
  have BC := Lib.hid (two_box w (boxO k n s) (boxO k n s'))
  have I1 := Lib.hid (box_is w k n s)
  have I2 := Lib.hid (boxIs_new (w.alloc (boxO k n s)) k n s')
  have hb := below_box (w.alloc (boxO k n s)) (boxO k n s')
  replace I1 := Lib.hid (I1.out.below hb)
  clear hb
  have e2 : (w.alloc (boxO k n s)).heap.size = w.heap.size + 1 := by simp
  rw [e2] at I2
  clear e2
  have HH := Lib.hid (fun w hE => shown_any w hE)
  have R1 := Lib.hid (fun w => right_any k n s w)
  have R2 := Lib.hid (fun w => right_any k n s' w)
  have T1 := Lib.hid (fun w hE => two_any ⟨#[61, 61, 61]⟩ a b ha hb' w hE (by decide))
  have T2 := Lib.hid (fun w hE => two_any ⟨#[33, 61, 61]⟩ a b ha hb' w hE (by decide))
  have T3 := Lib.hid (fun w hE => two_any ⟨#[61, 61, 61]⟩ a a ha ha w hE (by decide))
  have C1 := Lib.hid (fun w => truthy_any (J.bool true) w)
  have C2 := Lib.hid (fun w => truthy_any (J.bool false) w)
  have D1 := Lib.hid (fun w => not_any (J.bool true) w)
  rw [hr] at R1
  rw [hr'] at R2
  have hss : sameJ a a = true := by
    obtain ⟨e1, e2, e3⟩ := parts_of va
    unfold sameJ
    rw [e1, e2, e3, same_self]
  rw [two_same, hs, ← va, ← vb] at T1
  rw [two_unlike, hs, ← va, ← vb] at T2
  rw [two_same, hss, ← va] at T3
  simp only [J.v, J.truthy, Bool.not_true] at T1 T2 T3 C1 C2 D1
  clear hE hr hr' va vb ha hb' hss hs
  go_enter Tryd.func8, Tryd.ntmps8
  obtain ⟨c00, c01, c02⟩ := I1.out
  obtain ⟨c10, c11, c12⟩ := I2.out
  go_wp2_with fail
  go_at_call 11
  refine (HH.out _ (HE.out _ BC.out)).mono ?_
  rintro e w1 ⟨rfl, hb⟩
  replace BC := stepE BC.out hb
  replace I1 := Lib.hid (I1.out.below hb)
  replace I2 := Lib.hid (I2.out.below hb)
  clear hb
  clear c00 c01 c02 c10 c11 c12
  obtain ⟨c00, c01, c02⟩ := I1.out
  obtain ⟨c10, c11, c12⟩ := I2.out
  go_wp2_with fail
  go_at_call 13
  refine (R1.out _).mono ?_
  rintro e w2 ⟨rfl, hb⟩
  replace BC := stepE BC.out hb
  replace I1 := Lib.hid (I1.out.below hb)
  replace I2 := Lib.hid (I2.out.below hb)
  clear hb
  clear c00 c01 c02 c10 c11 c12
  obtain ⟨c00, c01, c02⟩ := I1.out
  obtain ⟨c10, c11, c12⟩ := I2.out
  go_wp2_with fail
  go_at_call 13
  refine (R2.out _).mono ?_
  rintro e w3 ⟨rfl, hb⟩
  replace BC := stepE BC.out hb
  replace I1 := Lib.hid (I1.out.below hb)
  replace I2 := Lib.hid (I2.out.below hb)
  clear hb
  clear c00 c01 c02 c10 c11 c12
  obtain ⟨c00, c01, c02⟩ := I1.out
  obtain ⟨c10, c11, c12⟩ := I2.out
  go_wp2_with fail
  go_at_call 24
  refine (T1.out _ (HE.out _ BC.out)).mono ?_
  rintro e w4 ⟨rfl, hb⟩
  replace BC := stepE BC.out hb
  replace I1 := Lib.hid (I1.out.below hb)
  replace I2 := Lib.hid (I2.out.below hb)
  clear hb
  have hb := below_box w4 (boxO 2 1 ⟨#[]⟩)
  replace I1 := Lib.hid (I1.out.below hb)
  replace I2 := Lib.hid (I2.out.below hb)
  have I3 := Lib.hid (boxIs_new w4 2 1 ⟨#[]⟩)
  replace BC := stepE BC.out hb
  clear hb
  clear c00 c01 c02 c10 c11 c12
  obtain ⟨c00, c01, c02⟩ := I1.out
  obtain ⟨c10, c11, c12⟩ := I2.out
  obtain ⟨c20, c21, c22⟩ := I3.out
  go_wp2_with fail
  go_at_call 24
  refine (T2.out _ (HE.out _ BC.out)).mono ?_
  rintro e w5 ⟨rfl, hb⟩
  replace BC := stepE BC.out hb
  replace I1 := Lib.hid (I1.out.below hb)
  replace I2 := Lib.hid (I2.out.below hb)
  replace I3 := Lib.hid (I3.out.below hb)
  clear hb
  have hb := below_box w5 (boxO 2 0 ⟨#[]⟩)
  replace I1 := Lib.hid (I1.out.below hb)
  replace I2 := Lib.hid (I2.out.below hb)
  replace I3 := Lib.hid (I3.out.below hb)
  have I4 := Lib.hid (boxIs_new w5 2 0 ⟨#[]⟩)
  replace BC := stepE BC.out hb
  clear hb
  clear c00 c01 c02 c10 c11 c12 c20 c21 c22
  obtain ⟨c00, c01, c02⟩ := I1.out
  obtain ⟨c10, c11, c12⟩ := I2.out
  obtain ⟨c20, c21, c22⟩ := I3.out
  obtain ⟨c30, c31, c32⟩ := I4.out
  go_wp2_with fail
  go_at_call 24
  refine (T3.out _ (HE.out _ BC.out)).mono ?_
  rintro e w6 ⟨rfl, hb⟩
  replace BC := stepE BC.out hb
  replace I1 := Lib.hid (I1.out.below hb)
  replace I2 := Lib.hid (I2.out.below hb)
  replace I3 := Lib.hid (I3.out.below hb)
  replace I4 := Lib.hid (I4.out.below hb)
  clear hb
  have hb := below_box w6 (boxO 2 1 ⟨#[]⟩)
  replace I1 := Lib.hid (I1.out.below hb)
  replace I2 := Lib.hid (I2.out.below hb)
  replace I3 := Lib.hid (I3.out.below hb)
  replace I4 := Lib.hid (I4.out.below hb)
  have I5 := Lib.hid (boxIs_new w6 2 1 ⟨#[]⟩)
  replace BC := stepE BC.out hb
  clear hb
  clear c00 c01 c02 c10 c11 c12 c20 c21 c22 c30 c31 c32
  obtain ⟨c00, c01, c02⟩ := I1.out
  obtain ⟨c10, c11, c12⟩ := I2.out
  obtain ⟨c20, c21, c22⟩ := I3.out
  obtain ⟨c30, c31, c32⟩ := I4.out
  obtain ⟨c40, c41, c42⟩ := I5.out
  go_wp2_with fail
  replace BC := Lib.hid BC.out.drew
  replace I1 := Lib.hid I1.out.drew
  replace I2 := Lib.hid I2.out.drew
  replace I3 := Lib.hid I3.out.drew
  replace I4 := Lib.hid I4.out.drew
  replace I5 := Lib.hid I5.out.drew
  go_region_held3 (fun w' => (w'.cell? ⟨w.heap.size, 0, none⟩ = some (.int .i64 k) ∧ w'.cell? ⟨w.heap.size, 1, none⟩ = some (.int .i64 n) ∧ w'.cell? ⟨w.heap.size, 2, none⟩ = some (.string s)) ∧ (w'.cell? ⟨(w.heap.size + 1), 0, none⟩ = some (.int .i64 k) ∧ w'.cell? ⟨(w.heap.size + 1), 1, none⟩ = some (.int .i64 n) ∧ w'.cell? ⟨(w.heap.size + 1), 2, none⟩ = some (.string s')) ∧ (w'.cell? ⟨w4.heap.size, 0, none⟩ = some (.int .i64 2) ∧ w'.cell? ⟨w4.heap.size, 1, none⟩ = some (.int .i64 1) ∧ w'.cell? ⟨w4.heap.size, 2, none⟩ = some (.string ⟨#[]⟩)) ∧ (w'.cell? ⟨w5.heap.size, 0, none⟩ = some (.int .i64 2) ∧ w'.cell? ⟨w5.heap.size, 1, none⟩ = some (.int .i64 0) ∧ w'.cell? ⟨w5.heap.size, 2, none⟩ = some (.string ⟨#[]⟩)) ∧ (w'.cell? ⟨w6.heap.size, 0, none⟩ = some (.int .i64 2) ∧ w'.cell? ⟨w6.heap.size, 1, none⟩ = some (.int .i64 1) ∧ w'.cell? ⟨w6.heap.size, 2, none⟩ = some (.string ⟨#[]⟩)))
    (first | go_keep | exact ⟨I1.out, I2.out, I3.out, I4.out, I5.out⟩)
    (first
      | (go_at_call 18; (with_reducible refine (C1.out _).mono ?_); rintro e wx ⟨rfl, hb⟩; replace BC := stepE BC.out hb; replace I1 := Lib.hid (I1.out.below hb); replace I2 := Lib.hid (I2.out.below hb); replace I3 := Lib.hid (I3.out.below hb); replace I4 := Lib.hid (I4.out.below hb); replace I5 := Lib.hid (I5.out.below hb); clear hb)
      | (go_at_call 18; (with_reducible refine (C2.out _).mono ?_); rintro e wx ⟨rfl, hb⟩; replace BC := stepE BC.out hb; replace I1 := Lib.hid (I1.out.below hb); replace I2 := Lib.hid (I2.out.below hb); replace I3 := Lib.hid (I3.out.below hb); replace I4 := Lib.hid (I4.out.below hb); replace I5 := Lib.hid (I5.out.below hb); clear hb)
      | (go_at_call 22; (with_reducible refine (D1.out _).mono ?_); rintro e wx ⟨rfl, hb⟩; replace BC := stepE BC.out hb; replace I1 := Lib.hid (I1.out.below hb); replace I2 := Lib.hid (I2.out.below hb); replace I3 := Lib.hid (I3.out.below hb); replace I4 := Lib.hid (I4.out.below hb); replace I5 := Lib.hid (I5.out.below hb); clear hb))
  go_wp2
  go_ret
  exact ⟨rfl, BC.out⟩
set_option maxRecDepth 100000 in
set_option maxHeartbeats 4000000 in
theorem same_y2 (k n : Int) (s s' : ByteArray) (w : World) (hE : Env w) (a b : J) (ha : a.ok) (hb' : b.ok) (va : .agg #[.int .i64 k, .int .i64 n, .string s] = a.v) (vb : .agg #[.int .i64 k, .int .i64 n, .string s'] = b.v) (hr : rightB k n s = true) (hr' : rightB k n s' = true) (e : ¬ s.toList = s'.toList) (hs : sameJ a b = false) : Calls Tryd.prog 8 #[.agg #[.int .i64 k, .int .i64 n, .string s], .agg #[.int .i64 k, .int .i64 n, .string s']] w fun e w' => e = .returned (.bool true) ∧ Below w.heap.size w w' := by
  have HE := Lib.hid (fun (w' : World) (hb : Below w.heap.size w w') => hE.kept hb)
  have BC := Lib.hid (two_box w (boxO k n s) (boxO k n s'))
  have I1 := Lib.hid (box_is w k n s)
  have I2 := Lib.hid (boxIs_new (w.alloc (boxO k n s)) k n s')
  have hb := below_box (w.alloc (boxO k n s)) (boxO k n s')
  replace I1 := Lib.hid (I1.out.below hb)
  clear hb
  have e2 : (w.alloc (boxO k n s)).heap.size = w.heap.size + 1 := by simp
  rw [e2] at I2
  clear e2
  have HH := Lib.hid (fun w hE => shown_any w hE)
  have R1 := Lib.hid (fun w => right_any k n s w)
  have R2 := Lib.hid (fun w => right_any k n s' w)
  have T1 := Lib.hid (fun w hE => two_any ⟨#[61, 61, 61]⟩ a b ha hb' w hE (by decide))
  have T2 := Lib.hid (fun w hE => two_any ⟨#[33, 61, 61]⟩ a b ha hb' w hE (by decide))
  have T3 := Lib.hid (fun w hE => two_any ⟨#[61, 61, 61]⟩ a a ha ha w hE (by decide))
  have C1 := Lib.hid (fun w => truthy_any (J.bool true) w)
  have C2 := Lib.hid (fun w => truthy_any (J.bool false) w)
  have D1 := Lib.hid (fun w => not_any (J.bool false) w)
  rw [hr] at R1
  rw [hr'] at R2
  have hss : sameJ a a = true := by
    obtain ⟨e1, e2, e3⟩ := parts_of va
    unfold sameJ
    rw [e1, e2, e3, same_self]
  rw [two_same, hs, ← va, ← vb] at T1
  rw [two_unlike, hs, ← va, ← vb] at T2
  rw [two_same, hss, ← va] at T3
  simp only [J.v, J.truthy, Bool.not_false] at T1 T2 T3 C1 C2 D1
  clear hE hr hr' va vb ha hb' hss hs
  go_enter Tryd.func8, Tryd.ntmps8
  obtain ⟨c00, c01, c02⟩ := I1.out
  obtain ⟨c10, c11, c12⟩ := I2.out
  go_wp2_with fail
  go_at_call 11
  refine (HH.out _ (HE.out _ BC.out)).mono ?_
  rintro e w1 ⟨rfl, hb⟩
  replace BC := stepE BC.out hb
  replace I1 := Lib.hid (I1.out.below hb)
  replace I2 := Lib.hid (I2.out.below hb)
  clear hb
  clear c00 c01 c02 c10 c11 c12
  obtain ⟨c00, c01, c02⟩ := I1.out
  obtain ⟨c10, c11, c12⟩ := I2.out
  go_wp2_with fail
  go_at_call 13
  refine (R1.out _).mono ?_
  rintro e w2 ⟨rfl, hb⟩
  replace BC := stepE BC.out hb
  replace I1 := Lib.hid (I1.out.below hb)
  replace I2 := Lib.hid (I2.out.below hb)
  clear hb
  clear c00 c01 c02 c10 c11 c12
  obtain ⟨c00, c01, c02⟩ := I1.out
  obtain ⟨c10, c11, c12⟩ := I2.out
  go_wp2_with fail
  go_at_call 13
  refine (R2.out _).mono ?_
  rintro e w3 ⟨rfl, hb⟩
  replace BC := stepE BC.out hb
  replace I1 := Lib.hid (I1.out.below hb)
  replace I2 := Lib.hid (I2.out.below hb)
  clear hb
  clear c00 c01 c02 c10 c11 c12
  obtain ⟨c00, c01, c02⟩ := I1.out
  obtain ⟨c10, c11, c12⟩ := I2.out
  go_wp2_with fail
  go_at_call 24
  refine (T1.out _ (HE.out _ BC.out)).mono ?_
  rintro e w4 ⟨rfl, hb⟩
  replace BC := stepE BC.out hb
  replace I1 := Lib.hid (I1.out.below hb)
  replace I2 := Lib.hid (I2.out.below hb)
  clear hb
  have hb := below_box w4 (boxO 2 0 ⟨#[]⟩)
  replace I1 := Lib.hid (I1.out.below hb)
  replace I2 := Lib.hid (I2.out.below hb)
  have I3 := Lib.hid (boxIs_new w4 2 0 ⟨#[]⟩)
  replace BC := stepE BC.out hb
  clear hb
  clear c00 c01 c02 c10 c11 c12
  obtain ⟨c00, c01, c02⟩ := I1.out
  obtain ⟨c10, c11, c12⟩ := I2.out
  obtain ⟨c20, c21, c22⟩ := I3.out
  go_wp2_with fail
  go_at_call 24
  refine (T2.out _ (HE.out _ BC.out)).mono ?_
  rintro e w5 ⟨rfl, hb⟩
  replace BC := stepE BC.out hb
  replace I1 := Lib.hid (I1.out.below hb)
  replace I2 := Lib.hid (I2.out.below hb)
  replace I3 := Lib.hid (I3.out.below hb)
  clear hb
  have hb := below_box w5 (boxO 2 1 ⟨#[]⟩)
  replace I1 := Lib.hid (I1.out.below hb)
  replace I2 := Lib.hid (I2.out.below hb)
  replace I3 := Lib.hid (I3.out.below hb)
  have I4 := Lib.hid (boxIs_new w5 2 1 ⟨#[]⟩)
  replace BC := stepE BC.out hb
  clear hb
  clear c00 c01 c02 c10 c11 c12 c20 c21 c22
  obtain ⟨c00, c01, c02⟩ := I1.out
  obtain ⟨c10, c11, c12⟩ := I2.out
  obtain ⟨c20, c21, c22⟩ := I3.out
  obtain ⟨c30, c31, c32⟩ := I4.out
  go_wp2_with fail
  go_at_call 24
  refine (T3.out _ (HE.out _ BC.out)).mono ?_
  rintro e w6 ⟨rfl, hb⟩
  replace BC := stepE BC.out hb
  replace I1 := Lib.hid (I1.out.below hb)
  replace I2 := Lib.hid (I2.out.below hb)
  replace I3 := Lib.hid (I3.out.below hb)
  replace I4 := Lib.hid (I4.out.below hb)
  clear hb
  have hb := below_box w6 (boxO 2 1 ⟨#[]⟩)
  replace I1 := Lib.hid (I1.out.below hb)
  replace I2 := Lib.hid (I2.out.below hb)
  replace I3 := Lib.hid (I3.out.below hb)
  replace I4 := Lib.hid (I4.out.below hb)
  have I5 := Lib.hid (boxIs_new w6 2 1 ⟨#[]⟩)
  replace BC := stepE BC.out hb
  clear hb
  clear c00 c01 c02 c10 c11 c12 c20 c21 c22 c30 c31 c32
  obtain ⟨c00, c01, c02⟩ := I1.out
  obtain ⟨c10, c11, c12⟩ := I2.out
  obtain ⟨c20, c21, c22⟩ := I3.out
  obtain ⟨c30, c31, c32⟩ := I4.out
  obtain ⟨c40, c41, c42⟩ := I5.out
  go_wp2_with fail
  replace BC := Lib.hid BC.out.drew
  replace I1 := Lib.hid I1.out.drew
  replace I2 := Lib.hid I2.out.drew
  replace I3 := Lib.hid I3.out.drew
  replace I4 := Lib.hid I4.out.drew
  replace I5 := Lib.hid I5.out.drew
  go_region_held3 (fun w' => (w'.cell? ⟨w.heap.size, 0, none⟩ = some (.int .i64 k) ∧ w'.cell? ⟨w.heap.size, 1, none⟩ = some (.int .i64 n) ∧ w'.cell? ⟨w.heap.size, 2, none⟩ = some (.string s)) ∧ (w'.cell? ⟨(w.heap.size + 1), 0, none⟩ = some (.int .i64 k) ∧ w'.cell? ⟨(w.heap.size + 1), 1, none⟩ = some (.int .i64 n) ∧ w'.cell? ⟨(w.heap.size + 1), 2, none⟩ = some (.string s')) ∧ (w'.cell? ⟨w4.heap.size, 0, none⟩ = some (.int .i64 2) ∧ w'.cell? ⟨w4.heap.size, 1, none⟩ = some (.int .i64 0) ∧ w'.cell? ⟨w4.heap.size, 2, none⟩ = some (.string ⟨#[]⟩)) ∧ (w'.cell? ⟨w5.heap.size, 0, none⟩ = some (.int .i64 2) ∧ w'.cell? ⟨w5.heap.size, 1, none⟩ = some (.int .i64 1) ∧ w'.cell? ⟨w5.heap.size, 2, none⟩ = some (.string ⟨#[]⟩)) ∧ (w'.cell? ⟨w6.heap.size, 0, none⟩ = some (.int .i64 2) ∧ w'.cell? ⟨w6.heap.size, 1, none⟩ = some (.int .i64 1) ∧ w'.cell? ⟨w6.heap.size, 2, none⟩ = some (.string ⟨#[]⟩)))
    (first | go_keep | exact ⟨I1.out, I2.out, I3.out, I4.out, I5.out⟩)
    (first
      | (go_at_call 18; (with_reducible refine (C1.out _).mono ?_); rintro e wx ⟨rfl, hb⟩; replace BC := stepE BC.out hb; replace I1 := Lib.hid (I1.out.below hb); replace I2 := Lib.hid (I2.out.below hb); replace I3 := Lib.hid (I3.out.below hb); replace I4 := Lib.hid (I4.out.below hb); replace I5 := Lib.hid (I5.out.below hb); clear hb)
      | (go_at_call 18; (with_reducible refine (C2.out _).mono ?_); rintro e wx ⟨rfl, hb⟩; replace BC := stepE BC.out hb; replace I1 := Lib.hid (I1.out.below hb); replace I2 := Lib.hid (I2.out.below hb); replace I3 := Lib.hid (I3.out.below hb); replace I4 := Lib.hid (I4.out.below hb); replace I5 := Lib.hid (I5.out.below hb); clear hb)
      | (go_at_call 22; (with_reducible refine (D1.out _).mono ?_); rintro e wx ⟨rfl, hb⟩; replace BC := stepE BC.out hb; replace I1 := Lib.hid (I1.out.below hb); replace I2 := Lib.hid (I2.out.below hb); replace I3 := Lib.hid (I3.out.below hb); replace I4 := Lib.hid (I4.out.below hb); replace I5 := Lib.hid (I5.out.below hb); clear hb))
  go_wp2
  go_ret
  exact ⟨rfl, BC.out⟩
set_option maxRecDepth 100000 in
set_option maxHeartbeats 4000000 in
theorem same_y3 (k n n' : Int) (s s' : ByteArray) (w : World) (hE : Env w) (a b : J) (ha : a.ok) (hb' : b.ok) (va : .agg #[.int .i64 k, .int .i64 n, .string s] = a.v) (vb : .agg #[.int .i64 k, .int .i64 n', .string s'] = b.v) (hr : rightB k n s = true) (hr' : rightB k n' s' = true) (e : ¬ n = n') (hs : sameJ a b = false) : Calls Tryd.prog 8 #[.agg #[.int .i64 k, .int .i64 n, .string s], .agg #[.int .i64 k, .int .i64 n', .string s']] w fun e w' => e = .returned (.bool true) ∧ Below w.heap.size w w' := by
  have HE := Lib.hid (fun (w' : World) (hb : Below w.heap.size w w') => hE.kept hb)
  have BC := Lib.hid (two_box w (boxO k n s) (boxO k n' s'))
  have I1 := Lib.hid (box_is w k n s)
  have I2 := Lib.hid (boxIs_new (w.alloc (boxO k n s)) k n' s')
  have hb := below_box (w.alloc (boxO k n s)) (boxO k n' s')
  replace I1 := Lib.hid (I1.out.below hb)
  clear hb
  have e2 : (w.alloc (boxO k n s)).heap.size = w.heap.size + 1 := by simp
  rw [e2] at I2
  clear e2
  have HH := Lib.hid (fun w hE => shown_any w hE)
  have R1 := Lib.hid (fun w => right_any k n s w)
  have R2 := Lib.hid (fun w => right_any k n' s' w)
  have T1 := Lib.hid (fun w hE => two_any ⟨#[61, 61, 61]⟩ a b ha hb' w hE (by decide))
  have T2 := Lib.hid (fun w hE => two_any ⟨#[33, 61, 61]⟩ a b ha hb' w hE (by decide))
  have T3 := Lib.hid (fun w hE => two_any ⟨#[61, 61, 61]⟩ a a ha ha w hE (by decide))
  have C1 := Lib.hid (fun w => truthy_any (J.bool true) w)
  have C2 := Lib.hid (fun w => truthy_any (J.bool false) w)
  have D1 := Lib.hid (fun w => not_any (J.bool false) w)
  rw [hr] at R1
  rw [hr'] at R2
  have hss : sameJ a a = true := by
    obtain ⟨e1, e2, e3⟩ := parts_of va
    unfold sameJ
    rw [e1, e2, e3, same_self]
  rw [two_same, hs, ← va, ← vb] at T1
  rw [two_unlike, hs, ← va, ← vb] at T2
  rw [two_same, hss, ← va] at T3
  simp only [J.v, J.truthy, Bool.not_false] at T1 T2 T3 C1 C2 D1
  clear hE hr hr' va vb ha hb' hss hs
  go_enter Tryd.func8, Tryd.ntmps8
  obtain ⟨c00, c01, c02⟩ := I1.out
  obtain ⟨c10, c11, c12⟩ := I2.out
  go_wp2_with fail
  go_at_call 11
  refine (HH.out _ (HE.out _ BC.out)).mono ?_
  rintro e w1 ⟨rfl, hb⟩
  replace BC := stepE BC.out hb
  replace I1 := Lib.hid (I1.out.below hb)
  replace I2 := Lib.hid (I2.out.below hb)
  clear hb
  clear c00 c01 c02 c10 c11 c12
  obtain ⟨c00, c01, c02⟩ := I1.out
  obtain ⟨c10, c11, c12⟩ := I2.out
  go_wp2_with fail
  go_at_call 13
  refine (R1.out _).mono ?_
  rintro e w2 ⟨rfl, hb⟩
  replace BC := stepE BC.out hb
  replace I1 := Lib.hid (I1.out.below hb)
  replace I2 := Lib.hid (I2.out.below hb)
  clear hb
  clear c00 c01 c02 c10 c11 c12
  obtain ⟨c00, c01, c02⟩ := I1.out
  obtain ⟨c10, c11, c12⟩ := I2.out
  go_wp2_with fail
  go_at_call 13
  refine (R2.out _).mono ?_
  rintro e w3 ⟨rfl, hb⟩
  replace BC := stepE BC.out hb
  replace I1 := Lib.hid (I1.out.below hb)
  replace I2 := Lib.hid (I2.out.below hb)
  clear hb
  clear c00 c01 c02 c10 c11 c12
  obtain ⟨c00, c01, c02⟩ := I1.out
  obtain ⟨c10, c11, c12⟩ := I2.out
  go_wp2_with fail
  go_at_call 24
  refine (T1.out _ (HE.out _ BC.out)).mono ?_
  rintro e w4 ⟨rfl, hb⟩
  replace BC := stepE BC.out hb
  replace I1 := Lib.hid (I1.out.below hb)
  replace I2 := Lib.hid (I2.out.below hb)
  clear hb
  have hb := below_box w4 (boxO 2 0 ⟨#[]⟩)
  replace I1 := Lib.hid (I1.out.below hb)
  replace I2 := Lib.hid (I2.out.below hb)
  have I3 := Lib.hid (boxIs_new w4 2 0 ⟨#[]⟩)
  replace BC := stepE BC.out hb
  clear hb
  clear c00 c01 c02 c10 c11 c12
  obtain ⟨c00, c01, c02⟩ := I1.out
  obtain ⟨c10, c11, c12⟩ := I2.out
  obtain ⟨c20, c21, c22⟩ := I3.out
  go_wp2_with fail
  go_at_call 24
  refine (T2.out _ (HE.out _ BC.out)).mono ?_
  rintro e w5 ⟨rfl, hb⟩
  replace BC := stepE BC.out hb
  replace I1 := Lib.hid (I1.out.below hb)
  replace I2 := Lib.hid (I2.out.below hb)
  replace I3 := Lib.hid (I3.out.below hb)
  clear hb
  have hb := below_box w5 (boxO 2 1 ⟨#[]⟩)
  replace I1 := Lib.hid (I1.out.below hb)
  replace I2 := Lib.hid (I2.out.below hb)
  replace I3 := Lib.hid (I3.out.below hb)
  have I4 := Lib.hid (boxIs_new w5 2 1 ⟨#[]⟩)
  replace BC := stepE BC.out hb
  clear hb
  clear c00 c01 c02 c10 c11 c12 c20 c21 c22
  obtain ⟨c00, c01, c02⟩ := I1.out
  obtain ⟨c10, c11, c12⟩ := I2.out
  obtain ⟨c20, c21, c22⟩ := I3.out
  obtain ⟨c30, c31, c32⟩ := I4.out
  go_wp2_with fail
  go_at_call 24
  refine (T3.out _ (HE.out _ BC.out)).mono ?_
  rintro e w6 ⟨rfl, hb⟩
  replace BC := stepE BC.out hb
  replace I1 := Lib.hid (I1.out.below hb)
  replace I2 := Lib.hid (I2.out.below hb)
  replace I3 := Lib.hid (I3.out.below hb)
  replace I4 := Lib.hid (I4.out.below hb)
  clear hb
  have hb := below_box w6 (boxO 2 1 ⟨#[]⟩)
  replace I1 := Lib.hid (I1.out.below hb)
  replace I2 := Lib.hid (I2.out.below hb)
  replace I3 := Lib.hid (I3.out.below hb)
  replace I4 := Lib.hid (I4.out.below hb)
  have I5 := Lib.hid (boxIs_new w6 2 1 ⟨#[]⟩)
  replace BC := stepE BC.out hb
  clear hb
  clear c00 c01 c02 c10 c11 c12 c20 c21 c22 c30 c31 c32
  obtain ⟨c00, c01, c02⟩ := I1.out
  obtain ⟨c10, c11, c12⟩ := I2.out
  obtain ⟨c20, c21, c22⟩ := I3.out
  obtain ⟨c30, c31, c32⟩ := I4.out
  obtain ⟨c40, c41, c42⟩ := I5.out
  go_wp2_with fail
  replace BC := Lib.hid BC.out.drew
  replace I1 := Lib.hid I1.out.drew
  replace I2 := Lib.hid I2.out.drew
  replace I3 := Lib.hid I3.out.drew
  replace I4 := Lib.hid I4.out.drew
  replace I5 := Lib.hid I5.out.drew
  go_region_held3 (fun w' => (w'.cell? ⟨w.heap.size, 0, none⟩ = some (.int .i64 k) ∧ w'.cell? ⟨w.heap.size, 1, none⟩ = some (.int .i64 n) ∧ w'.cell? ⟨w.heap.size, 2, none⟩ = some (.string s)) ∧ (w'.cell? ⟨(w.heap.size + 1), 0, none⟩ = some (.int .i64 k) ∧ w'.cell? ⟨(w.heap.size + 1), 1, none⟩ = some (.int .i64 n') ∧ w'.cell? ⟨(w.heap.size + 1), 2, none⟩ = some (.string s')) ∧ (w'.cell? ⟨w4.heap.size, 0, none⟩ = some (.int .i64 2) ∧ w'.cell? ⟨w4.heap.size, 1, none⟩ = some (.int .i64 0) ∧ w'.cell? ⟨w4.heap.size, 2, none⟩ = some (.string ⟨#[]⟩)) ∧ (w'.cell? ⟨w5.heap.size, 0, none⟩ = some (.int .i64 2) ∧ w'.cell? ⟨w5.heap.size, 1, none⟩ = some (.int .i64 1) ∧ w'.cell? ⟨w5.heap.size, 2, none⟩ = some (.string ⟨#[]⟩)) ∧ (w'.cell? ⟨w6.heap.size, 0, none⟩ = some (.int .i64 2) ∧ w'.cell? ⟨w6.heap.size, 1, none⟩ = some (.int .i64 1) ∧ w'.cell? ⟨w6.heap.size, 2, none⟩ = some (.string ⟨#[]⟩)))
    (first | go_keep | exact ⟨I1.out, I2.out, I3.out, I4.out, I5.out⟩)
    (first
      | (go_at_call 18; (with_reducible refine (C1.out _).mono ?_); rintro e wx ⟨rfl, hb⟩; replace BC := stepE BC.out hb; replace I1 := Lib.hid (I1.out.below hb); replace I2 := Lib.hid (I2.out.below hb); replace I3 := Lib.hid (I3.out.below hb); replace I4 := Lib.hid (I4.out.below hb); replace I5 := Lib.hid (I5.out.below hb); clear hb)
      | (go_at_call 18; (with_reducible refine (C2.out _).mono ?_); rintro e wx ⟨rfl, hb⟩; replace BC := stepE BC.out hb; replace I1 := Lib.hid (I1.out.below hb); replace I2 := Lib.hid (I2.out.below hb); replace I3 := Lib.hid (I3.out.below hb); replace I4 := Lib.hid (I4.out.below hb); replace I5 := Lib.hid (I5.out.below hb); clear hb)
      | (go_at_call 22; (with_reducible refine (D1.out _).mono ?_); rintro e wx ⟨rfl, hb⟩; replace BC := stepE BC.out hb; replace I1 := Lib.hid (I1.out.below hb); replace I2 := Lib.hid (I2.out.below hb); replace I3 := Lib.hid (I3.out.below hb); replace I4 := Lib.hid (I4.out.below hb); replace I5 := Lib.hid (I5.out.below hb); clear hb))
  go_wp2
  go_ret
  exact ⟨rfl, BC.out⟩
set_option maxRecDepth 100000 in
set_option maxHeartbeats 4000000 in
theorem same_y4 (k n k' n' : Int) (s s' : ByteArray) (w : World) (hE : Env w) (a b : J) (ha : a.ok) (hb' : b.ok) (va : .agg #[.int .i64 k, .int .i64 n, .string s] = a.v) (vb : .agg #[.int .i64 k', .int .i64 n', .string s'] = b.v) (hr : rightB k n s = true) (hr' : rightB k' n' s' = true) (e : ¬ k = k') (hs : sameJ a b = false) : Calls Tryd.prog 8 #[.agg #[.int .i64 k, .int .i64 n, .string s], .agg #[.int .i64 k', .int .i64 n', .string s']] w fun e w' => e = .returned (.bool true) ∧ Below w.heap.size w w' := by
  have HE := Lib.hid (fun (w' : World) (hb : Below w.heap.size w w') => hE.kept hb)
  have BC := Lib.hid (two_box w (boxO k n s) (boxO k' n' s'))
  have I1 := Lib.hid (box_is w k n s)
  have I2 := Lib.hid (boxIs_new (w.alloc (boxO k n s)) k' n' s')
  have hb := below_box (w.alloc (boxO k n s)) (boxO k' n' s')
  replace I1 := Lib.hid (I1.out.below hb)
  clear hb
  have e2 : (w.alloc (boxO k n s)).heap.size = w.heap.size + 1 := by simp
  rw [e2] at I2
  clear e2
  have HH := Lib.hid (fun w hE => shown_any w hE)
  have R1 := Lib.hid (fun w => right_any k n s w)
  have R2 := Lib.hid (fun w => right_any k' n' s' w)
  have T1 := Lib.hid (fun w hE => two_any ⟨#[61, 61, 61]⟩ a b ha hb' w hE (by decide))
  have T2 := Lib.hid (fun w hE => two_any ⟨#[33, 61, 61]⟩ a b ha hb' w hE (by decide))
  have T3 := Lib.hid (fun w hE => two_any ⟨#[61, 61, 61]⟩ a a ha ha w hE (by decide))
  have C1 := Lib.hid (fun w => truthy_any (J.bool true) w)
  have C2 := Lib.hid (fun w => truthy_any (J.bool false) w)
  have D1 := Lib.hid (fun w => not_any (J.bool false) w)
  rw [hr] at R1
  rw [hr'] at R2
  have hss : sameJ a a = true := by
    obtain ⟨e1, e2, e3⟩ := parts_of va
    unfold sameJ
    rw [e1, e2, e3, same_self]
  rw [two_same, hs, ← va, ← vb] at T1
  rw [two_unlike, hs, ← va, ← vb] at T2
  rw [two_same, hss, ← va] at T3
  simp only [J.v, J.truthy, Bool.not_false] at T1 T2 T3 C1 C2 D1
  clear hE hr hr' va vb ha hb' hss hs
  go_enter Tryd.func8, Tryd.ntmps8
  obtain ⟨c00, c01, c02⟩ := I1.out
  obtain ⟨c10, c11, c12⟩ := I2.out
  go_wp2_with fail
  go_at_call 11
  refine (HH.out _ (HE.out _ BC.out)).mono ?_
  rintro e w1 ⟨rfl, hb⟩
  replace BC := stepE BC.out hb
  replace I1 := Lib.hid (I1.out.below hb)
  replace I2 := Lib.hid (I2.out.below hb)
  clear hb
  clear c00 c01 c02 c10 c11 c12
  obtain ⟨c00, c01, c02⟩ := I1.out
  obtain ⟨c10, c11, c12⟩ := I2.out
  go_wp2_with fail
  go_at_call 13
  refine (R1.out _).mono ?_
  rintro e w2 ⟨rfl, hb⟩
  replace BC := stepE BC.out hb
  replace I1 := Lib.hid (I1.out.below hb)
  replace I2 := Lib.hid (I2.out.below hb)
  clear hb
  clear c00 c01 c02 c10 c11 c12
  obtain ⟨c00, c01, c02⟩ := I1.out
  obtain ⟨c10, c11, c12⟩ := I2.out
  go_wp2_with fail
  go_at_call 13
  refine (R2.out _).mono ?_
  rintro e w3 ⟨rfl, hb⟩
  replace BC := stepE BC.out hb
  replace I1 := Lib.hid (I1.out.below hb)
  replace I2 := Lib.hid (I2.out.below hb)
  clear hb
  clear c00 c01 c02 c10 c11 c12
  obtain ⟨c00, c01, c02⟩ := I1.out
  obtain ⟨c10, c11, c12⟩ := I2.out
  go_wp2_with fail
  go_at_call 24
  refine (T1.out _ (HE.out _ BC.out)).mono ?_
  rintro e w4 ⟨rfl, hb⟩
  replace BC := stepE BC.out hb
  replace I1 := Lib.hid (I1.out.below hb)
  replace I2 := Lib.hid (I2.out.below hb)
  clear hb
  have hb := below_box w4 (boxO 2 0 ⟨#[]⟩)
  replace I1 := Lib.hid (I1.out.below hb)
  replace I2 := Lib.hid (I2.out.below hb)
  have I3 := Lib.hid (boxIs_new w4 2 0 ⟨#[]⟩)
  replace BC := stepE BC.out hb
  clear hb
  clear c00 c01 c02 c10 c11 c12
  obtain ⟨c00, c01, c02⟩ := I1.out
  obtain ⟨c10, c11, c12⟩ := I2.out
  obtain ⟨c20, c21, c22⟩ := I3.out
  go_wp2_with fail
  go_at_call 24
  refine (T2.out _ (HE.out _ BC.out)).mono ?_
  rintro e w5 ⟨rfl, hb⟩
  replace BC := stepE BC.out hb
  replace I1 := Lib.hid (I1.out.below hb)
  replace I2 := Lib.hid (I2.out.below hb)
  replace I3 := Lib.hid (I3.out.below hb)
  clear hb
  have hb := below_box w5 (boxO 2 1 ⟨#[]⟩)
  replace I1 := Lib.hid (I1.out.below hb)
  replace I2 := Lib.hid (I2.out.below hb)
  replace I3 := Lib.hid (I3.out.below hb)
  have I4 := Lib.hid (boxIs_new w5 2 1 ⟨#[]⟩)
  replace BC := stepE BC.out hb
  clear hb
  clear c00 c01 c02 c10 c11 c12 c20 c21 c22
  obtain ⟨c00, c01, c02⟩ := I1.out
  obtain ⟨c10, c11, c12⟩ := I2.out
  obtain ⟨c20, c21, c22⟩ := I3.out
  obtain ⟨c30, c31, c32⟩ := I4.out
  go_wp2_with fail
  go_at_call 24
  refine (T3.out _ (HE.out _ BC.out)).mono ?_
  rintro e w6 ⟨rfl, hb⟩
  replace BC := stepE BC.out hb
  replace I1 := Lib.hid (I1.out.below hb)
  replace I2 := Lib.hid (I2.out.below hb)
  replace I3 := Lib.hid (I3.out.below hb)
  replace I4 := Lib.hid (I4.out.below hb)
  clear hb
  have hb := below_box w6 (boxO 2 1 ⟨#[]⟩)
  replace I1 := Lib.hid (I1.out.below hb)
  replace I2 := Lib.hid (I2.out.below hb)
  replace I3 := Lib.hid (I3.out.below hb)
  replace I4 := Lib.hid (I4.out.below hb)
  have I5 := Lib.hid (boxIs_new w6 2 1 ⟨#[]⟩)
  replace BC := stepE BC.out hb
  clear hb
  clear c00 c01 c02 c10 c11 c12 c20 c21 c22 c30 c31 c32
  obtain ⟨c00, c01, c02⟩ := I1.out
  obtain ⟨c10, c11, c12⟩ := I2.out
  obtain ⟨c20, c21, c22⟩ := I3.out
  obtain ⟨c30, c31, c32⟩ := I4.out
  obtain ⟨c40, c41, c42⟩ := I5.out
  go_wp2_with fail
  replace BC := Lib.hid BC.out.drew
  replace I1 := Lib.hid I1.out.drew
  replace I2 := Lib.hid I2.out.drew
  replace I3 := Lib.hid I3.out.drew
  replace I4 := Lib.hid I4.out.drew
  replace I5 := Lib.hid I5.out.drew
  go_region_held3 (fun w' => (w'.cell? ⟨w.heap.size, 0, none⟩ = some (.int .i64 k) ∧ w'.cell? ⟨w.heap.size, 1, none⟩ = some (.int .i64 n) ∧ w'.cell? ⟨w.heap.size, 2, none⟩ = some (.string s)) ∧ (w'.cell? ⟨(w.heap.size + 1), 0, none⟩ = some (.int .i64 k') ∧ w'.cell? ⟨(w.heap.size + 1), 1, none⟩ = some (.int .i64 n') ∧ w'.cell? ⟨(w.heap.size + 1), 2, none⟩ = some (.string s')) ∧ (w'.cell? ⟨w4.heap.size, 0, none⟩ = some (.int .i64 2) ∧ w'.cell? ⟨w4.heap.size, 1, none⟩ = some (.int .i64 0) ∧ w'.cell? ⟨w4.heap.size, 2, none⟩ = some (.string ⟨#[]⟩)) ∧ (w'.cell? ⟨w5.heap.size, 0, none⟩ = some (.int .i64 2) ∧ w'.cell? ⟨w5.heap.size, 1, none⟩ = some (.int .i64 1) ∧ w'.cell? ⟨w5.heap.size, 2, none⟩ = some (.string ⟨#[]⟩)) ∧ (w'.cell? ⟨w6.heap.size, 0, none⟩ = some (.int .i64 2) ∧ w'.cell? ⟨w6.heap.size, 1, none⟩ = some (.int .i64 1) ∧ w'.cell? ⟨w6.heap.size, 2, none⟩ = some (.string ⟨#[]⟩)))
    (first | go_keep | exact ⟨I1.out, I2.out, I3.out, I4.out, I5.out⟩)
    (first
      | (go_at_call 18; (with_reducible refine (C1.out _).mono ?_); rintro e wx ⟨rfl, hb⟩; replace BC := stepE BC.out hb; replace I1 := Lib.hid (I1.out.below hb); replace I2 := Lib.hid (I2.out.below hb); replace I3 := Lib.hid (I3.out.below hb); replace I4 := Lib.hid (I4.out.below hb); replace I5 := Lib.hid (I5.out.below hb); clear hb)
      | (go_at_call 18; (with_reducible refine (C2.out _).mono ?_); rintro e wx ⟨rfl, hb⟩; replace BC := stepE BC.out hb; replace I1 := Lib.hid (I1.out.below hb); replace I2 := Lib.hid (I2.out.below hb); replace I3 := Lib.hid (I3.out.below hb); replace I4 := Lib.hid (I4.out.below hb); replace I5 := Lib.hid (I5.out.below hb); clear hb)
      | (go_at_call 22; (with_reducible refine (D1.out _).mono ?_); rintro e wx ⟨rfl, hb⟩; replace BC := stepE BC.out hb; replace I1 := Lib.hid (I1.out.below hb); replace I2 := Lib.hid (I2.out.below hb); replace I3 := Lib.hid (I3.out.below hb); replace I4 := Lib.hid (I4.out.below hb); replace I5 := Lib.hid (I5.out.below hb); clear hb))
  go_wp2
  go_ret
  exact ⟨rfl, BC.out⟩
theorem same_walk (k n : Int) (s : ByteArray) (k' n' : Int) (s' : ByteArray) (w : World) (hE : Env w) (hn : I64 n) (hs : s.size ≤ 281474976710656) (hn' : I64 n') (hs' : s'.size ≤ 281474976710656) : Calls Tryd.prog 8 #[.agg #[.int .i64 k, .int .i64 n, .string s], .agg #[.int .i64 k', .int .i64 n', .string s']] w fun e w' => e = .returned (.bool true) ∧ Below w.heap.size w w' := by
  cases hr : rightB k n s with
  | false => exact same_notA k n s k' n' s' w hE hr
  | true =>
    cases hr' : rightB k' n' s' with
    | false => exact same_notB k n s k' n' s' w hE hr hr'
    | true =>
      obtain ⟨a, ha, va⟩ := rightB_iff k n s hn hs hr
      obtain ⟨b, hb, vb⟩ := rightB_iff k' n' s' hn' hs' hr'
      obtain ⟨p1, p2, p3⟩ := parts_of va
      obtain ⟨q1, q2, q3⟩ := parts_of vb
      have hsj : sameJ a b = sameP k n s k' n' s' := by unfold sameJ; rw [p1, p2, p3, q1, q2, q3]
      rcases sameP_cases k n s k' n' s' with ⟨rfl, rfl, e, es⟩ | ⟨rfl, rfl, e, es⟩ | ⟨rfl, e, es⟩ | ⟨e, es⟩
      · exact same_y1 k n s s' w hE a b ha hb va vb hr hr' e (hsj.trans es)
      · exact same_y2 k n s s' w hE a b ha hb va vb hr hr' e (hsj.trans es)
      · exact same_y3 k n n' s s' w hE a b ha hb va vb hr hr' e (hsj.trans es)
      · exact same_y4 k n k' n' s s' w hE a b ha hb va vb hr hr' e (hsj.trans es)
end Go.Proofs.YtpgclgfaiklpoaaDoor
