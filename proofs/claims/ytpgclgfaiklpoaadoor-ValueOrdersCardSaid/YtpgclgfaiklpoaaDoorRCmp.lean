/- gumshoeref06.less: how two values stand. -/
import Derived.Test.YtpgclgfaiklpoaaDoorMake
namespace Go.Proofs.YtpgclgfaiklpoaaDoor
open Go.RowKit Go.Proofs

theorem less_self : ∀ l : List UInt8, Op.bytesLess l l = false
  | [] => rfl
  | a :: x => by
    have h := less_self x
    simp [Op.bytesLess, h]
theorem ordS_eq {s t : ByteArray} (h : s.toList = t.toList) : ordS s t = 0 := by
  unfold ordS
  rw [h, less_self]
  simp
theorem ordS_less {s t : ByteArray} (h : Op.bytesLess s.toList t.toList = true) : ordS s t = -1 := by
  unfold ordS
  rw [if_pos h]
theorem ordS_more {s t : ByteArray} (h : Op.bytesLess s.toList t.toList = false) (h2 : ¬ s.toList = t.toList) : ordS s t = 1 := by
  unfold ordS
  rw [if_neg (by simp [h]), if_neg (by simpa using h2)]

set_option maxRecDepth 100000 in
set_option maxHeartbeats 4000000 in
theorem rorder_text (s t : ByteArray) (w : World) : Calls Tryd.prog 36 #[(J.text s).v, (J.text t).v] w fun e w' => e = .returned (.int .i64 (ordS s t)) ∧ Below w.heap.size w w' := by
  have HB := Lib.hid (fun (o p : Obj) => two_box w o p)
  simp only [J.v]
  by_cases h1 : s.toList = t.toList
  · rw [ordS_eq h1]
    have e1 : (s.toList == t.toList) = true := by simp [h1]
    clear h1
    go_enter Tryd.func36, Tryd.ntmps36
    go_wp2
    go_ret
    exact ⟨rfl, HB.out _ _⟩
  · have e1 : (s.toList == t.toList) = false := by simp [h1]
    cases h2 : Op.bytesLess s.toList t.toList with
    | true =>
      rw [ordS_less h2]
      clear h1
      go_enter Tryd.func36, Tryd.ntmps36
      go_wp2
      go_ret
      exact ⟨rfl, HB.out _ _⟩
    | false =>
      rw [ordS_more h2 h1]
      clear h1
      go_enter Tryd.func36, Tryd.ntmps36
      go_wp2
      go_ret
      exact ⟨rfl, HB.out _ _⟩

set_option maxRecDepth 100000 in
set_option maxHeartbeats 4000000 in
theorem rorder_num (a b : J) (ha : a.ok) (hb : b.ok) (w : World) (hno : (a.isText && b.isText) = false) : Calls Tryd.prog 36 #[a.v, b.v] w fun e w' => e = .returned (.int .i64 (cmpI a.nr b.nr)) ∧ Below w.heap.size w w' := by
  obtain ⟨k, n, s, hv, hk⟩ := a.shape2
  obtain ⟨k', n', s', hv', hk'⟩ := b.shape2
  have HA := Lib.hid (fun w => rnum_any a ha w)
  have HA' := Lib.hid (fun w => rnum_any b hb w)
  have HB := Lib.hid (two_box w (.cells #[.int .i64 k, .int .i64 n, .string s] 23) (.cells #[.int .i64 k', .int .i64 n', .string s'] 23))
  have HS := Lib.hid (six_mk w k n s k' n' s')
  rw [hv] at HA ⊢
  rw [hv'] at HA' ⊢
  rw [← hk, ← hk'] at hno
  generalize a.nr = x at HA ⊢
  generalize b.nr = y at HA' ⊢
  clear hv hv' ha hb hk hk'
  have hte : (k == 4) = true ∧ (k' == 4) = false ∨ (k == 4) = false := by
    revert hno
    cases (k == 4) <;> cases (k' == 4) <;> simp
  clear hno
  rcases hte with ⟨e1, e2⟩ | e1
  all_goals
    go_enter Tryd.func36, Tryd.ntmps36
    go_wp2_with fail
    go_at_call 17
    refine (HA.out _).mono ?_
    rintro e w1 ⟨rfl, hb1⟩
    have HS1 := Lib.hid (HS.out.below hb1)
    have HB1 := Lib.hid (HB.out.trans (hb1.mono HB.out.size))
    obtain ⟨⟨a0, a1, a2⟩, ⟨b0, b1, b2⟩⟩ := HS1.out
    clear hb1
    go_wp2_with fail
    go_at_call 17
    refine (HA'.out _).mono ?_
    rintro e w2 ⟨rfl, hb2⟩
    have HB2 := Lib.hid (HB1.out.trans (hb2.mono HB1.out.size))
    clear hb2
    go_wp2
    all_goals
      go_ret
      exact ⟨ret_i (by unfold cmpI; (repeat' split) <;> simp_all <;> omega), HB2.out⟩
theorem rorder_any (a b : J) (ha : a.ok) (hb : b.ok) (w : World) : Calls Tryd.prog 36 #[a.v, b.v] w fun e w' => e = .returned (.int .i64 (ordJ a b)) ∧ Below w.heap.size w w' := by
  cases h : a.isText && b.isText with
  | true =>
    rcases a with _ | _ | _ | _ | s | _ <;> simp [J.isText] at h
    rcases b with _ | _ | _ | _ | t | _ <;> simp at h
    exact rorder_text s t w
  | false =>
    have e : ordJ a b = cmpI a.nr b.nr := by
      rcases a with _ | _ | _ | _ | s | _ <;> rcases b with _ | _ | _ | _ | t | _ <;> first | rfl | simp [J.isText] at h
    rw [e]
    exact rorder_num a b ha hb w h
end Go.Proofs.YtpgclgfaiklpoaaDoor
