/- The law ValueSums' walk: sums. -/
import Derived.Test.YtpgclgfaiklpoaaDoorSumsA
namespace Go.Proofs.YtpgclgfaiklpoaaDoor
open Go.RowKit Go.Proofs

theorem sv1 (a b : J) (ta : a.isText = false) (tb : b.isText = false) : twoV [43] a b = okV (.num (wrap64 (a.nr + b.nr))) := by simp [twoV, makeJ, ta, tb]
theorem sv2 (a b : J) (ta : a.isText = false) (tb : b.isText = false) : twoV [43] b a = okV (.num (wrap64 (a.nr + b.nr))) := by rw [sv1 b a tb ta, Int.add_comm]
theorem wrap_back {x y : Int} (h : I64 x) : wrap64 (wrap64 (x + y) - y) = x := by
  obtain ⟨x1, x2⟩ := h
  unfold wrap64
  omega
theorem sv3 (x : Int) (b : J) (h : I64 x) : twoV [45] (.num (wrap64 (x + b.nr))) b = okV (.num x) := by
  have e : twoV [45] (.num (wrap64 (x + b.nr))) b = okV (.num (wrap64 (wrap64 (x + b.nr) - b.nr))) := rfl
  rw [e, wrap_back h]
theorem sv4 (a b : J) : twoV [42] a b = okV (.num (wrap64 (a.nr * b.nr))) := rfl
theorem sv5 (a b : J) : twoV [42] b a = okV (.num (wrap64 (a.nr * b.nr))) := by rw [sv4 b a, Int.mul_comm]
set_option maxRecDepth 100000 in
set_option maxHeartbeats 8000000 in
theorem sums_yes (k n : Int) (s : ByteArray) (k' n' : Int) (s' : ByteArray) (w : World) (hE : Env w) (a b : J) (ha : a.ok) (hb' : b.ok) (va : .agg #[.int .i64 k, .int .i64 n, .string s] = a.v) (vb : .agg #[.int .i64 k', .int .i64 n', .string s'] = b.v) (hr : rightB k n s = true) (hr' : rightB k' n' s' = true) (hk : (k == 4) = false) (hk' : (k' == 4) = false) : Calls Tryd.prog 6 #[.agg #[.int .i64 k, .int .i64 n, .string s], .agg #[.int .i64 k', .int .i64 n', .string s']] w fun e w' => e = .returned (.bool true) ∧ Below w.heap.size w w' := by
  have HE := Lib.hid (fun (w' : World) (hb : Below w.heap.size w w') => hE.kept hb)
  have BC := Lib.hid (two_box w (boxO k n s) (boxO k' n' s'))
  have I1 := Lib.hid (box_is w k n s)
  have I2 := Lib.hid (boxIs_new (w.alloc (boxO k n s)) k' n' s')
  have hb := below_box (w.alloc (boxO k n s)) (boxO k' n' s')
  replace I1 := Lib.hid (I1.out.below hb)
  clear hb
  have e2 : (w.alloc (boxO k n s)).heap.size = w.heap.size + 1 := by simp
  rw [e2] at I2
  clear e2
  have HH := Lib.hid (fun w hE => shown_any w hE)
  have ta : a.isText = false := (text_of va).symm.trans hk
  have tb : b.isText = false := (text_of vb).symm.trans hk'
  have xi := a.nr_i64 ha
  have R1 := Lib.hid (fun w => right_any k n s w)
  have R2 := Lib.hid (fun w => right_any k' n' s' w)
  have T1 := Lib.hid (fun w hE => two_any ⟨#[43]⟩ a b ha hb' w hE (by decide))
  have T2 := Lib.hid (fun w hE => two_any ⟨#[43]⟩ b a hb' ha w hE (by decide))
  have T3 := Lib.hid (fun w hE => two_any ⟨#[45]⟩ (.num (wrap64 (a.nr + b.nr))) b (wrap_i64 _) hb' w hE (by decide))
  have T4 := Lib.hid (fun w hE => two_any ⟨#[42]⟩ a b ha hb' w hE (by decide))
  have T5 := Lib.hid (fun w hE => two_any ⟨#[42]⟩ b a hb' ha w hE (by decide))
  have N1 := Lib.hid (fun w hE => num_any (.num a.nr) xi w hE)
  have N2 := Lib.hid (fun w hE => num_any a ha w hE)
  have R3 := Lib.hid (fun w => right_j (.num (wrap64 (a.nr + b.nr))) w)
  have v1 := sv1 a b ta tb
  have v2 := sv2 a b ta tb
  have v3 := sv3 a.nr b xi
  have v4 := sv4 a b
  have v5 := sv5 a b
  rw [hr] at R1
  rw [hr'] at R2
  rw [v1, okV_num, ← va, ← vb] at T1
  rw [v2, okV_num, ← va, ← vb] at T2
  rw [v3, okV_num, ← vb] at T3
  rw [v4, okV_num, ← va, ← vb] at T4
  rw [v5, okV_num, ← va, ← vb] at T5
  rw [← va] at N2
  rw [show (J.num a.nr).nr = a.nr from rfl] at N1
  simp only [J.v] at T3 N1 R3
  generalize wrap64 (a.nr + b.nr) = p at T1 T2 T3 R3
  generalize wrap64 (a.nr * b.nr) = m at T4 T5
  generalize a.nr = x at T3 N1 N2
  clear hE hr hr' va vb ha hb' ta tb xi v1 v2 v3 v4 v5
  go_enter Tryd.func6, Tryd.ntmps6
  obtain ⟨c00, c01, c02⟩ := I1.out
  obtain ⟨c10, c11, c12⟩ := I2.out
  go_wp2_with fail
  go_at_call 11
  refine (HH.out _ (HE.out _ BC.out)).mono ?_
  rintro e w1 ⟨rfl, hb⟩
  replace BC := stepE BC.out hb
  replace I1 := Lib.hid (I1.out.below hb)
  replace I2 := Lib.hid (I2.out.below hb)
  clear hb
  clear c00 c01 c02 c10 c11 c12
  obtain ⟨c00, c01, c02⟩ := I1.out
  obtain ⟨c10, c11, c12⟩ := I2.out
  go_wp2_with fail
  go_at_call 13
  refine (R1.out _).mono ?_
  rintro e w2 ⟨rfl, hb⟩
  replace BC := stepE BC.out hb
  replace I1 := Lib.hid (I1.out.below hb)
  replace I2 := Lib.hid (I2.out.below hb)
  clear hb
  clear c00 c01 c02 c10 c11 c12
  obtain ⟨c00, c01, c02⟩ := I1.out
  obtain ⟨c10, c11, c12⟩ := I2.out
  go_wp2_with fail
  go_at_call 13
  refine (R2.out _).mono ?_
  rintro e w3 ⟨rfl, hb⟩
  replace BC := stepE BC.out hb
  replace I1 := Lib.hid (I1.out.below hb)
  replace I2 := Lib.hid (I2.out.below hb)
  clear hb
  clear c00 c01 c02 c10 c11 c12
  obtain ⟨c00, c01, c02⟩ := I1.out
  obtain ⟨c10, c11, c12⟩ := I2.out
  go_wp2_with fail
  go_at_call 24
  refine (T1.out _ (HE.out _ BC.out)).mono ?_
  rintro e w4 ⟨rfl, hb⟩
  replace BC := stepE BC.out hb
  replace I1 := Lib.hid (I1.out.below hb)
  replace I2 := Lib.hid (I2.out.below hb)
  clear hb
  have hb := below_box w4 (boxO 3 p ⟨#[]⟩)
  replace I1 := Lib.hid (I1.out.below hb)
  replace I2 := Lib.hid (I2.out.below hb)
  have I3 := Lib.hid (boxIs_new w4 3 p ⟨#[]⟩)
  replace BC := stepE BC.out hb
  clear hb
  clear c00 c01 c02 c10 c11 c12
  obtain ⟨c00, c01, c02⟩ := I1.out
  obtain ⟨c10, c11, c12⟩ := I2.out
  go_wp2_with fail
  go_at_call 24
  refine (T2.out _ (HE.out _ BC.out)).mono ?_
  rintro e w5 ⟨rfl, hb⟩
  replace BC := stepE BC.out hb
  replace I1 := Lib.hid (I1.out.below hb)
  replace I2 := Lib.hid (I2.out.below hb)
  replace I3 := Lib.hid (I3.out.below hb)
  clear hb
  have hb := below_box w5 (boxO 3 p ⟨#[]⟩)
  replace I1 := Lib.hid (I1.out.below hb)
  replace I2 := Lib.hid (I2.out.below hb)
  replace I3 := Lib.hid (I3.out.below hb)
  have I4 := Lib.hid (boxIs_new w5 3 p ⟨#[]⟩)
  replace BC := stepE BC.out hb
  clear hb
  clear c00 c01 c02 c10 c11 c12
  obtain ⟨c00, c01, c02⟩ := I3.out
  obtain ⟨c10, c11, c12⟩ := I2.out
  go_wp2_with fail
  go_at_call 24
  refine (T3.out _ (HE.out _ BC.out)).mono ?_
  rintro e w6 ⟨rfl, hb⟩
  replace BC := stepE BC.out hb
  replace I1 := Lib.hid (I1.out.below hb)
  replace I2 := Lib.hid (I2.out.below hb)
  replace I3 := Lib.hid (I3.out.below hb)
  replace I4 := Lib.hid (I4.out.below hb)
  clear hb
  have hb := below_box w6 (boxO 3 x ⟨#[]⟩)
  replace I1 := Lib.hid (I1.out.below hb)
  replace I2 := Lib.hid (I2.out.below hb)
  replace I3 := Lib.hid (I3.out.below hb)
  replace I4 := Lib.hid (I4.out.below hb)
  have I5 := Lib.hid (boxIs_new w6 3 x ⟨#[]⟩)
  replace BC := stepE BC.out hb
  clear hb
  clear c00 c01 c02 c10 c11 c12
  obtain ⟨c00, c01, c02⟩ := I1.out
  obtain ⟨c10, c11, c12⟩ := I2.out
  go_wp2_with fail
  go_at_call 24
  refine (T4.out _ (HE.out _ BC.out)).mono ?_
  rintro e w7 ⟨rfl, hb⟩
  replace BC := stepE BC.out hb
  replace I1 := Lib.hid (I1.out.below hb)
  replace I2 := Lib.hid (I2.out.below hb)
  replace I3 := Lib.hid (I3.out.below hb)
  replace I4 := Lib.hid (I4.out.below hb)
  replace I5 := Lib.hid (I5.out.below hb)
  clear hb
  have hb := below_box w7 (boxO 3 m ⟨#[]⟩)
  replace I1 := Lib.hid (I1.out.below hb)
  replace I2 := Lib.hid (I2.out.below hb)
  replace I3 := Lib.hid (I3.out.below hb)
  replace I4 := Lib.hid (I4.out.below hb)
  replace I5 := Lib.hid (I5.out.below hb)
  have I6 := Lib.hid (boxIs_new w7 3 m ⟨#[]⟩)
  replace BC := stepE BC.out hb
  clear hb
  clear c00 c01 c02 c10 c11 c12
  obtain ⟨c00, c01, c02⟩ := I1.out
  obtain ⟨c10, c11, c12⟩ := I2.out
  go_wp2_with fail
  go_at_call 24
  refine (T5.out _ (HE.out _ BC.out)).mono ?_
  rintro e w8 ⟨rfl, hb⟩
  replace BC := stepE BC.out hb
  replace I1 := Lib.hid (I1.out.below hb)
  replace I2 := Lib.hid (I2.out.below hb)
  replace I3 := Lib.hid (I3.out.below hb)
  replace I4 := Lib.hid (I4.out.below hb)
  replace I5 := Lib.hid (I5.out.below hb)
  replace I6 := Lib.hid (I6.out.below hb)
  clear hb
  have hb := below_box w8 (boxO 3 m ⟨#[]⟩)
  replace I1 := Lib.hid (I1.out.below hb)
  replace I2 := Lib.hid (I2.out.below hb)
  replace I3 := Lib.hid (I3.out.below hb)
  replace I4 := Lib.hid (I4.out.below hb)
  replace I5 := Lib.hid (I5.out.below hb)
  replace I6 := Lib.hid (I6.out.below hb)
  have I7 := Lib.hid (boxIs_new w8 3 m ⟨#[]⟩)
  replace BC := stepE BC.out hb
  clear hb
  clear c00 c01 c02 c10 c11 c12
  go_wp2_with fail
  replace BC := Lib.hid BC.out.drew
  replace I1 := Lib.hid I1.out.drew
  replace I2 := Lib.hid I2.out.drew
  replace I3 := Lib.hid I3.out.drew
  replace I4 := Lib.hid I4.out.drew
  replace I5 := Lib.hid I5.out.drew
  replace I6 := Lib.hid I6.out.drew
  replace I7 := Lib.hid I7.out.drew
  obtain ⟨d00, d01, d02⟩ := I1.out
  obtain ⟨d10, d11, d12⟩ := I3.out
  obtain ⟨d20, d21, d22⟩ := I4.out
  obtain ⟨d30, d31, d32⟩ := I5.out
  obtain ⟨d40, d41, d42⟩ := I6.out
  obtain ⟨d50, d51, d52⟩ := I7.out
  go_region_held3 (fun w' => (w'.cell? ⟨w.heap.size, 0, none⟩ = some (.int .i64 k) ∧ w'.cell? ⟨w.heap.size, 1, none⟩ = some (.int .i64 n) ∧ w'.cell? ⟨w.heap.size, 2, none⟩ = some (.string s)) ∧ (w'.cell? ⟨w4.heap.size, 0, none⟩ = some (.int .i64 3) ∧ w'.cell? ⟨w4.heap.size, 1, none⟩ = some (.int .i64 p) ∧ w'.cell? ⟨w4.heap.size, 2, none⟩ = some (.string ⟨#[]⟩)) ∧ (w'.cell? ⟨w5.heap.size, 0, none⟩ = some (.int .i64 3) ∧ w'.cell? ⟨w5.heap.size, 1, none⟩ = some (.int .i64 p) ∧ w'.cell? ⟨w5.heap.size, 2, none⟩ = some (.string ⟨#[]⟩)) ∧ (w'.cell? ⟨w6.heap.size, 0, none⟩ = some (.int .i64 3) ∧ w'.cell? ⟨w6.heap.size, 1, none⟩ = some (.int .i64 x) ∧ w'.cell? ⟨w6.heap.size, 2, none⟩ = some (.string ⟨#[]⟩)) ∧ (w'.cell? ⟨w7.heap.size, 0, none⟩ = some (.int .i64 3) ∧ w'.cell? ⟨w7.heap.size, 1, none⟩ = some (.int .i64 m) ∧ w'.cell? ⟨w7.heap.size, 2, none⟩ = some (.string ⟨#[]⟩)) ∧ (w'.cell? ⟨w8.heap.size, 0, none⟩ = some (.int .i64 3) ∧ w'.cell? ⟨w8.heap.size, 1, none⟩ = some (.int .i64 m) ∧ w'.cell? ⟨w8.heap.size, 2, none⟩ = some (.string ⟨#[]⟩)))
    (first | go_keep | exact ⟨I1.out, I3.out, I4.out, I5.out, I6.out, I7.out⟩)
    (first
      | (go_at_call 16; (with_reducible refine (N1.out _ (HE.out _ BC.out)).mono ?_); rintro e wx ⟨rfl, hb⟩; replace BC := stepE BC.out hb; replace I1 := Lib.hid (I1.out.below hb); replace I2 := Lib.hid (I2.out.below hb); replace I3 := Lib.hid (I3.out.below hb); replace I4 := Lib.hid (I4.out.below hb); replace I5 := Lib.hid (I5.out.below hb); replace I6 := Lib.hid (I6.out.below hb); replace I7 := Lib.hid (I7.out.below hb); clear hb)
      | (go_at_call 16; (with_reducible refine (N2.out _ (HE.out _ BC.out)).mono ?_); rintro e wx ⟨rfl, hb⟩; replace BC := stepE BC.out hb; replace I1 := Lib.hid (I1.out.below hb); replace I2 := Lib.hid (I2.out.below hb); replace I3 := Lib.hid (I3.out.below hb); replace I4 := Lib.hid (I4.out.below hb); replace I5 := Lib.hid (I5.out.below hb); replace I6 := Lib.hid (I6.out.below hb); replace I7 := Lib.hid (I7.out.below hb); clear hb)
      | (go_at_call 13; (with_reducible refine (R3.out _).mono ?_); rintro e wx ⟨rfl, hb⟩; replace BC := stepE BC.out hb; replace I1 := Lib.hid (I1.out.below hb); replace I2 := Lib.hid (I2.out.below hb); replace I3 := Lib.hid (I3.out.below hb); replace I4 := Lib.hid (I4.out.below hb); replace I5 := Lib.hid (I5.out.below hb); replace I6 := Lib.hid (I6.out.below hb); replace I7 := Lib.hid (I7.out.below hb); clear hb))
  go_wp2
  go_ret
  exact ⟨rfl, BC.out⟩
end Go.Proofs.YtpgclgfaiklpoaaDoor
