/- The law ValueOrders' walk: where it says nothing; how two stand. -/
import Derived.Test.YtpgclgfaiklpoaaDoorLawOne
import Derived.Test.YtpgclgfaiklpoaaDoorRCmp
namespace Go.Proofs.YtpgclgfaiklpoaaDoor
open Go.RowKit Go.Proofs

set_option maxRecDepth 100000 in
set_option maxHeartbeats 4000000 in
theorem orders_notA (k n : Int) (s : ByteArray) (k' n' : Int) (s' : ByteArray) (w : World) (hE : Env w) (hr : rightB k n s = false) : Calls Tryd.prog 7 #[.agg #[.int .i64 k, .int .i64 n, .string s], .agg #[.int .i64 k', .int .i64 n', .string s']] w fun e w' => e = .returned (.bool true) ∧ Below w.heap.size w w' := by
  have HE := Lib.hid (fun (w' : World) (hb : Below w.heap.size w w') => hE.kept hb)
  have BC := Lib.hid (two_box w (boxO k n s) (boxO k' n' s'))
  have I1 := Lib.hid (box_is w k n s)
  have I2 := Lib.hid (boxIs_new (w.alloc (boxO k n s)) k' n' s')
  have hb := below_box (w.alloc (boxO k n s)) (boxO k' n' s')
  replace I1 := Lib.hid (I1.out.below hb)
  clear hb
  have e2 : (w.alloc (boxO k n s)).heap.size = w.heap.size + 1 := by simp
  rw [e2] at I2
  clear e2
  have HH := Lib.hid (fun w hE => shown_any w hE)
  have R1 := Lib.hid (fun w => right_any k n s w)
  rw [hr] at R1
  clear hE hr
  go_enter Tryd.func7, Tryd.ntmps7
  obtain ⟨c00, c01, c02⟩ := I1.out
  obtain ⟨c10, c11, c12⟩ := I2.out
  go_wp2_with fail
  go_at_call 11
  refine (HH.out _ (HE.out _ BC.out)).mono ?_
  rintro e w1 ⟨rfl, hb⟩
  replace BC := stepE BC.out hb
  replace I1 := Lib.hid (I1.out.below hb)
  replace I2 := Lib.hid (I2.out.below hb)
  clear hb
  clear c00 c01 c02 c10 c11 c12
  obtain ⟨c00, c01, c02⟩ := I1.out
  obtain ⟨c10, c11, c12⟩ := I2.out
  go_wp2_with fail
  go_at_call 13
  refine (R1.out _).mono ?_
  rintro e w2 ⟨rfl, hb⟩
  replace BC := stepE BC.out hb
  replace I1 := Lib.hid (I1.out.below hb)
  replace I2 := Lib.hid (I2.out.below hb)
  clear hb
  clear c00 c01 c02 c10 c11 c12
  obtain ⟨c00, c01, c02⟩ := I1.out
  obtain ⟨c10, c11, c12⟩ := I2.out
  go_wp2
  go_ret
  exact ⟨rfl, BC.out⟩
set_option maxRecDepth 100000 in
set_option maxHeartbeats 4000000 in
theorem orders_notB (k n : Int) (s : ByteArray) (k' n' : Int) (s' : ByteArray) (w : World) (hE : Env w) (hr : rightB k n s = true) (hr' : rightB k' n' s' = false) : Calls Tryd.prog 7 #[.agg #[.int .i64 k, .int .i64 n, .string s], .agg #[.int .i64 k', .int .i64 n', .string s']] w fun e w' => e = .returned (.bool true) ∧ Below w.heap.size w w' := by
  have HE := Lib.hid (fun (w' : World) (hb : Below w.heap.size w w') => hE.kept hb)
  have BC := Lib.hid (two_box w (boxO k n s) (boxO k' n' s'))
  have I1 := Lib.hid (box_is w k n s)
  have I2 := Lib.hid (boxIs_new (w.alloc (boxO k n s)) k' n' s')
  have hb := below_box (w.alloc (boxO k n s)) (boxO k' n' s')
  replace I1 := Lib.hid (I1.out.below hb)
  clear hb
  have e2 : (w.alloc (boxO k n s)).heap.size = w.heap.size + 1 := by simp
  rw [e2] at I2
  clear e2
  have HH := Lib.hid (fun w hE => shown_any w hE)
  have R1 := Lib.hid (fun w => right_any k n s w)
  have R2 := Lib.hid (fun w => right_any k' n' s' w)
  rw [hr] at R1
  rw [hr'] at R2
  clear hE hr hr'
  go_enter Tryd.func7, Tryd.ntmps7
  obtain ⟨c00, c01, c02⟩ := I1.out
  obtain ⟨c10, c11, c12⟩ := I2.out
  go_wp2_with fail
  go_at_call 11
  refine (HH.out _ (HE.out _ BC.out)).mono ?_
  rintro e w1 ⟨rfl, hb⟩
  replace BC := stepE BC.out hb
  replace I1 := Lib.hid (I1.out.below hb)
  replace I2 := Lib.hid (I2.out.below hb)
  clear hb
  clear c00 c01 c02 c10 c11 c12
  obtain ⟨c00, c01, c02⟩ := I1.out
  obtain ⟨c10, c11, c12⟩ := I2.out
  go_wp2_with fail
  go_at_call 13
  refine (R1.out _).mono ?_
  rintro e w2 ⟨rfl, hb⟩
  replace BC := stepE BC.out hb
  replace I1 := Lib.hid (I1.out.below hb)
  replace I2 := Lib.hid (I2.out.below hb)
  clear hb
  clear c00 c01 c02 c10 c11 c12
  obtain ⟨c00, c01, c02⟩ := I1.out
  obtain ⟨c10, c11, c12⟩ := I2.out
  go_wp2_with fail
  go_at_call 13
  refine (R2.out _).mono ?_
  rintro e w3 ⟨rfl, hb⟩
  replace BC := stepE BC.out hb
  replace I1 := Lib.hid (I1.out.below hb)
  replace I2 := Lib.hid (I2.out.below hb)
  clear hb
  clear c00 c01 c02 c10 c11 c12
  obtain ⟨c00, c01, c02⟩ := I1.out
  obtain ⟨c10, c11, c12⟩ := I2.out
  go_wp2
  go_ret
  exact ⟨rfl, BC.out⟩
theorem less_total : ∀ (l m : List UInt8), (Op.bytesLess l m = true → Op.bytesLess m l = false ∧ l ≠ m) ∧ (Op.bytesLess l m = false → l ≠ m → Op.bytesLess m l = true)
  | [], [] => by simp [Op.bytesLess]
  | [], _ :: _ => by simp [Op.bytesLess]
  | _ :: _, [] => by simp [Op.bytesLess]
  | a :: x, b :: y => by
    have ih := less_total x y
    by_cases h1 : a = b
    · subst h1
      simp [Op.bytesLess]
      exact ih
    · have h2 : ¬ b = a := fun h => h1 h.symm
      have h1' : (a == b) = false := by simpa using h1
      have h2' : (b == a) = false := by simpa using h2
      simp only [Op.bytesLess, h1', h2', Bool.false_and, Bool.or_false, decide_eq_true_eq, decide_eq_false_iff_not]
      have ht : a < b ∨ b < a := by
        rcases Nat.lt_or_ge a.toNat b.toNat with h | h
        · exact .inl (UInt8.lt_iff_toNat_lt.2 h)
        · refine .inr (UInt8.lt_iff_toNat_lt.2 ?_)
          have : a.toNat ≠ b.toNat := fun e => h1 (UInt8.toNat_inj.1 e)
          omega
      refine ⟨fun h => ⟨fun h' => ?_, fun e => h1 (List.cons.inj e).1⟩, fun h _ => ?_⟩
      · rw [UInt8.lt_iff_toNat_lt] at h h'
        omega
      · rcases ht with h' | h'
        · exact absurd h' h
        · exact h'
theorem ordS_anti (s t : ByteArray) : ordS t s = -ordS s t ∧ (ordS s t = -1 ∨ ordS s t = 0 ∨ ordS s t = 1) := by
  have h := less_total s.toList t.toList
  by_cases h0 : s.toList = t.toList
  · rw [ordS_eq h0, ordS_eq h0.symm]
    exact ⟨rfl, .inr (.inl rfl)⟩
  · cases h1 : Op.bytesLess s.toList t.toList with
    | true =>
      rw [ordS_less h1, ordS_more (h.1 h1).1 (fun e => h0 e.symm)]
      exact ⟨rfl, .inl rfl⟩
    | false =>
      rw [ordS_more h1 h0, ordS_less (h.2 h1 h0)]
      exact ⟨rfl, .inr (.inr rfl)⟩
theorem cmpI_anti (a b : Int) : cmpI b a = -cmpI a b ∧ (cmpI a b = -1 ∨ cmpI a b = 0 ∨ cmpI a b = 1) := by
  unfold cmpI
  (repeat' split) <;> first | omega | (exact ⟨rfl, .inl rfl⟩) | (exact ⟨rfl, .inr (.inl rfl)⟩) | (exact ⟨rfl, .inr (.inr rfl)⟩)
theorem ordJ_anti (a b : J) : ordJ b a = -ordJ a b ∧ (ordJ a b = -1 ∨ ordJ a b = 0 ∨ ordJ a b = 1) := by
  rcases a with _ | _ | _ | _ | s | _ <;> rcases b with _ | _ | _ | _ | t | _ <;> first | exact ordS_anti _ _ | exact cmpI_anti _ _
theorem two_lss (a b : J) : twoV [60] a b = .tuple #[(J.bool (decide (ordJ a b < 0))).v, .int .i64 0] := by
  show okV _ = _
  cases decide (ordJ a b < 0) <;> rfl
theorem two_leq (a b : J) : twoV [60, 61] a b = .tuple #[(J.bool (decide (ordJ a b ≤ 0))).v, .int .i64 0] := by
  show okV _ = _
  cases decide (ordJ a b ≤ 0) <;> rfl
end Go.Proofs.YtpgclgfaiklpoaaDoor
