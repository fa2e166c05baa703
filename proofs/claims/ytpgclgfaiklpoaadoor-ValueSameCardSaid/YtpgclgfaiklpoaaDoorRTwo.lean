/- gumshoeref06.Two: what a sign makes of two values. -/
import Derived.Test.YtpgclgfaiklpoaaDoorRCmp
import Derived.Test.YtpgclgfaiklpoaaDoorSays
import Derived.Test.YtpgclgfaiklpoaaDoorSignsL
namespace Go.Proofs.YtpgclgfaiklpoaaDoor
open Go.RowKit Go.Proofs

set_option maxRecDepth 100000 in
set_option maxHeartbeats 4000000 in
theorem rtwo_none (s : ByteArray) (a b : J) (w : World) (h1 : (s.toList == [43]) = false) (h2 : (s.toList == [45]) = false) (h3 : (s.toList == [42]) = false) (h4 : (s.toList == [60]) = false) (h5 : (s.toList == [60, 61]) = false) (h6 : (s.toList == [61, 61, 61]) = false) (h7 : (s.toList == [33, 61, 61]) = false) : Calls Tryd.prog 25 #[.string s, a.v, b.v] w fun e w' => e = .returned (.tuple #[J.undef.v, .int .i64 60]) ∧ Below w.heap.size w w' := by
  rw [J.v_eq a, J.v_eq b]
  generalize a.k = k
  generalize a.n = n
  generalize a.s = t
  generalize b.k = k'
  generalize b.n = n'
  generalize b.s = t'
  have HB := Lib.hid (three_box w (boxO k n t) (boxO k' n' t') (boxO 0 0 ⟨#[]⟩))
  simp only [J.v]
  go_enter Tryd.func25, Tryd.ntmps25
  go_wp2
  exact bodyPost_ret (v := .tuple #[.agg #[.int .i64 0, .int .i64 0, .string ⟨#[]⟩], .int .i64 60]) (by simp [results, Tryd.results25, go_sem]) rfl ⟨rfl, HB.out⟩
set_option maxRecDepth 100000 in
set_option maxHeartbeats 4000000 in
theorem rsum_num (a b : J) (ha : a.ok) (hb : b.ok) (w : World) (hno : (a.isText || b.isText) = false) : Calls Tryd.prog 25 #[.string ⟨#[43]⟩, a.v, b.v] w fun e w' => e = .returned (okV (J.num (wrap64 (a.nr + b.nr)))) ∧ Below w.heap.size w w' := by
  obtain ⟨k, n, s, hv, hk⟩ := a.shape2
  obtain ⟨k', n', s', hv', hk'⟩ := b.shape2
  have HA := Lib.hid (fun w => rnum_any a ha w)
  have HA' := Lib.hid (fun w => rnum_any b hb w)
  have HB := Lib.hid (three_box w (boxO k n s) (boxO k' n' s') zeroO).drew
  have HR := Lib.hid (res_mk w (boxO k n s) (boxO k' n' s'))
  have HS := Lib.hid (six_mk3 w k n s k' n' s')
  rw [hv] at HA ⊢
  rw [hv'] at HA' ⊢
  rw [← hk, ← hk'] at hno
  obtain ⟨e1, e2⟩ := Bool.or_eq_false_iff.1 hno
  clear hno
  rw [show okV (J.num (wrap64 (a.nr + b.nr))) = .tuple #[.agg #[.int .i64 3, .int .i64 (wrap64 (a.nr + b.nr)), .string ⟨#[]⟩], .int .i64 0] from rfl]
  generalize a.nr = x at HA ⊢
  generalize b.nr = y at HA' ⊢
  obtain ⟨z, hw⟩ : ∃ z, IntKind.i64.wrap (x + y) = z := ⟨_, rfl⟩
  rw [← IntWalk.i64_left, hw]
  clear hv hv' ha hb hk hk'
  have n1 : ¬ w.heap.size = w.heap.size + 1 + 1 := by omega
  have n2 : ¬ w.heap.size + 1 + 1 = w.heap.size := by omega
  go_enter Tryd.func25, Tryd.ntmps25
  go_wp2_with fail
  obtain ⟨⟨a0, a1, a2⟩, ⟨b0, b1, b2⟩⟩ := HS.out
  go_region_held3 (fun w' => (w'.cell? ⟨w.heap.size, 0, none⟩ = some (.int .i64 k) ∧ w'.cell? ⟨w.heap.size, 1, none⟩ = some (.int .i64 n) ∧ w'.cell? ⟨w.heap.size, 2, none⟩ = some (.string s)) ∧ (w'.cell? ⟨w.heap.size + 1, 0, none⟩ = some (.int .i64 k') ∧ w'.cell? ⟨w.heap.size + 1, 1, none⟩ = some (.int .i64 n') ∧ w'.cell? ⟨w.heap.size + 1, 2, none⟩ = some (.string s')))
    (first | go_keep | exact HS2.out | exact HS1.out)
    (first
      | (go_at_call 17; refine (HA.out _).mono ?_; rintro e w1 ⟨rfl, hb1⟩; obtain ⟨HB1, HS1, HR1⟩ := stepD HB.out HS.out HR.out hb1; clear hb1 HA)
      | (go_at_call 17; refine (HA'.out _).mono ?_; rintro e w2 ⟨rfl, hb2⟩; obtain ⟨HB2, HS2, HR2⟩ := stepD HB1.out HS1.out HR1.out hb2; clear hb2 HA'; obtain ⟨⟨x0, x1, x2⟩, ⟨y0, y1, y2⟩⟩ := HS2.out; obtain ⟨⟨r0, r1, r2⟩, ⟨f0, f1, f2⟩⟩ := HR2.out))
  go_wp2
  exact bodyPost_ret (v := .tuple #[.agg #[.int .i64 3, .int .i64 z, .string ⟨#[]⟩], .int .i64 0]) (by simp [results, Tryd.results25, go_sem, r0, r1, r2]) rfl ⟨rfl, set3 HB2.out _ (by omega) _ _ _⟩
set_option maxRecDepth 100000 in
set_option maxHeartbeats 4000000 in
theorem rsub_any (a b : J) (ha : a.ok) (hb : b.ok) (w : World) : Calls Tryd.prog 25 #[.string ⟨#[45]⟩, a.v, b.v] w fun e w' => e = .returned (okV (J.num (wrap64 (a.nr - b.nr)))) ∧ Below w.heap.size w w' := by
  obtain ⟨k, n, s, hv, hk⟩ := a.shape2
  obtain ⟨k', n', s', hv', hk'⟩ := b.shape2
  have HA := Lib.hid (fun w => rnum_any a ha w)
  have HA' := Lib.hid (fun w => rnum_any b hb w)
  have HB := Lib.hid (three_box w (boxO k n s) (boxO k' n' s') zeroO).drew
  have HR := Lib.hid (res_mk w (boxO k n s) (boxO k' n' s'))
  have HS := Lib.hid (six_mk3 w k n s k' n' s')
  rw [hv] at HA ⊢
  rw [hv'] at HA' ⊢
  rw [show okV (J.num (wrap64 (a.nr - b.nr))) = .tuple #[.agg #[.int .i64 3, .int .i64 (wrap64 (a.nr - b.nr)), .string ⟨#[]⟩], .int .i64 0] from rfl]
  generalize a.nr = x at HA ⊢
  generalize b.nr = y at HA' ⊢
  obtain ⟨z, hw⟩ : ∃ z, IntKind.i64.wrap (x - y) = z := ⟨_, rfl⟩
  rw [← IntWalk.i64_left, hw]
  clear hv hv' ha hb hk hk'
  have n1 : ¬ w.heap.size = w.heap.size + 1 + 1 := by omega
  have n2 : ¬ w.heap.size + 1 + 1 = w.heap.size := by omega
  go_enter Tryd.func25, Tryd.ntmps25
  go_wp2_with fail
  obtain ⟨⟨a0, a1, a2⟩, ⟨b0, b1, b2⟩⟩ := HS.out
  go_region_held3 (fun w' => (w'.cell? ⟨w.heap.size, 0, none⟩ = some (.int .i64 k) ∧ w'.cell? ⟨w.heap.size, 1, none⟩ = some (.int .i64 n) ∧ w'.cell? ⟨w.heap.size, 2, none⟩ = some (.string s)) ∧ (w'.cell? ⟨w.heap.size + 1, 0, none⟩ = some (.int .i64 k') ∧ w'.cell? ⟨w.heap.size + 1, 1, none⟩ = some (.int .i64 n') ∧ w'.cell? ⟨w.heap.size + 1, 2, none⟩ = some (.string s')))
    (first | go_keep | exact HS2.out | exact HS1.out)
    (first
      | (go_at_call 17; refine (HA.out _).mono ?_; rintro e w1 ⟨rfl, hb1⟩; obtain ⟨HB1, HS1, HR1⟩ := stepD HB.out HS.out HR.out hb1; clear hb1 HA)
      | (go_at_call 17; refine (HA'.out _).mono ?_; rintro e w2 ⟨rfl, hb2⟩; obtain ⟨HB2, HS2, HR2⟩ := stepD HB1.out HS1.out HR1.out hb2; clear hb2 HA'; obtain ⟨⟨x0, x1, x2⟩, ⟨y0, y1, y2⟩⟩ := HS2.out; obtain ⟨⟨r0, r1, r2⟩, ⟨f0, f1, f2⟩⟩ := HR2.out))
  go_wp2
  exact bodyPost_ret (v := .tuple #[.agg #[.int .i64 3, .int .i64 z, .string ⟨#[]⟩], .int .i64 0]) (by simp [results, Tryd.results25, go_sem, r0, r1, r2]) rfl ⟨rfl, set3 HB2.out _ (by omega) _ _ _⟩
set_option maxRecDepth 100000 in
set_option maxHeartbeats 4000000 in
theorem rmul_any (a b : J) (ha : a.ok) (hb : b.ok) (w : World) : Calls Tryd.prog 25 #[.string ⟨#[42]⟩, a.v, b.v] w fun e w' => e = .returned (okV (J.num (wrap64 (a.nr * b.nr)))) ∧ Below w.heap.size w w' := by
  obtain ⟨k, n, s, hv, hk⟩ := a.shape2
  obtain ⟨k', n', s', hv', hk'⟩ := b.shape2
  have HA := Lib.hid (fun w => rnum_any a ha w)
  have HA' := Lib.hid (fun w => rnum_any b hb w)
  have HB := Lib.hid (three_box w (boxO k n s) (boxO k' n' s') zeroO).drew
  have HR := Lib.hid (res_mk w (boxO k n s) (boxO k' n' s'))
  have HS := Lib.hid (six_mk3 w k n s k' n' s')
  rw [hv] at HA ⊢
  rw [hv'] at HA' ⊢
  rw [show okV (J.num (wrap64 (a.nr * b.nr))) = .tuple #[.agg #[.int .i64 3, .int .i64 (wrap64 (a.nr * b.nr)), .string ⟨#[]⟩], .int .i64 0] from rfl]
  generalize a.nr = x at HA ⊢
  generalize b.nr = y at HA' ⊢
  obtain ⟨z, hw⟩ : ∃ z, IntKind.i64.wrap (x * y) = z := ⟨_, rfl⟩
  rw [← IntWalk.i64_left, hw]
  clear hv hv' ha hb hk hk'
  have n1 : ¬ w.heap.size = w.heap.size + 1 + 1 := by omega
  have n2 : ¬ w.heap.size + 1 + 1 = w.heap.size := by omega
  go_enter Tryd.func25, Tryd.ntmps25
  go_wp2_with fail
  obtain ⟨⟨a0, a1, a2⟩, ⟨b0, b1, b2⟩⟩ := HS.out
  go_region_held3 (fun w' => (w'.cell? ⟨w.heap.size, 0, none⟩ = some (.int .i64 k) ∧ w'.cell? ⟨w.heap.size, 1, none⟩ = some (.int .i64 n) ∧ w'.cell? ⟨w.heap.size, 2, none⟩ = some (.string s)) ∧ (w'.cell? ⟨w.heap.size + 1, 0, none⟩ = some (.int .i64 k') ∧ w'.cell? ⟨w.heap.size + 1, 1, none⟩ = some (.int .i64 n') ∧ w'.cell? ⟨w.heap.size + 1, 2, none⟩ = some (.string s')))
    (first | go_keep | exact HS2.out | exact HS1.out)
    (first
      | (go_at_call 17; refine (HA.out _).mono ?_; rintro e w1 ⟨rfl, hb1⟩; obtain ⟨HB1, HS1, HR1⟩ := stepD HB.out HS.out HR.out hb1; clear hb1 HA)
      | (go_at_call 17; refine (HA'.out _).mono ?_; rintro e w2 ⟨rfl, hb2⟩; obtain ⟨HB2, HS2, HR2⟩ := stepD HB1.out HS1.out HR1.out hb2; clear hb2 HA'; obtain ⟨⟨x0, x1, x2⟩, ⟨y0, y1, y2⟩⟩ := HS2.out; obtain ⟨⟨r0, r1, r2⟩, ⟨f0, f1, f2⟩⟩ := HR2.out))
  go_wp2
  exact bodyPost_ret (v := .tuple #[.agg #[.int .i64 3, .int .i64 z, .string ⟨#[]⟩], .int .i64 0]) (by simp [results, Tryd.results25, go_sem, r0, r1, r2]) rfl ⟨rfl, set3 HB2.out _ (by omega) _ _ _⟩
set_option maxRecDepth 100000 in
set_option maxHeartbeats 4000000 in
theorem rsum_text (a b : J) (ha : a.ok) (hb : b.ok) (w : World) (hyes : (a.isText || b.isText) = true) : Calls Tryd.prog 25 #[.string ⟨#[43]⟩, a.v, b.v] w fun e w' => e = .returned (okV (J.text (a.key ++ b.key))) ∧ Below w.heap.size w w' := by
  obtain ⟨k, n, s, hv, hk⟩ := a.shape2
  obtain ⟨k', n', s', hv', hk'⟩ := b.shape2
  have hsum : ¬ 9223372036854775807 < a.key.size + b.key.size := by
    have := a.key_size ha
    have := b.key_size hb
    omega
  have HA := Lib.hid (fun w => rkey_any a ha w)
  have HA' := Lib.hid (fun w => rkey_any b hb w)
  have HB := Lib.hid (three_box w (boxO k n s) (boxO k' n' s') zeroO).drew
  have HR := Lib.hid (res_mk w (boxO k n s) (boxO k' n' s'))
  have HS := Lib.hid (six_mk3 w k n s k' n' s')
  rw [hv] at HA ⊢
  rw [hv'] at HA' ⊢
  rw [← hk, ← hk'] at hyes
  generalize a.key = x at HA hsum ⊢
  generalize b.key = y at HA' hsum ⊢
  obtain ⟨z, hzz⟩ : ∃ z, x ++ y = z := ⟨_, rfl⟩
  rw [hzz]
  clear hv hv' ha hb hk hk'
  have n1 : ¬ w.heap.size = w.heap.size + 1 + 1 := by omega
  have n2 : ¬ w.heap.size + 1 + 1 = w.heap.size := by omega
  have hte : (k == 4) = true ∨ (k == 4) = false ∧ (k' == 4) = true := by
    revert hyes
    cases (k == 4) <;> cases (k' == 4) <;> simp
  clear hyes
  by_cases hz : 65536 < z.size
  case' pos => rw [show okV (J.text z) = .tuple #[.agg #[.int .i64 0, .int .i64 0, .string ⟨#[]⟩], .int .i64 61] from if_pos hz]
  case' neg => rw [show okV (J.text z) = .tuple #[.agg #[.int .i64 4, .int .i64 0, .string z], .int .i64 0] from if_neg hz]
  all_goals
    rcases hte with e1 | ⟨e1, e2⟩
    all_goals
      go_enter Tryd.func25, Tryd.ntmps25
      go_wp2_with fail
      obtain ⟨⟨a0, a1, a2⟩, ⟨b0, b1, b2⟩⟩ := HS.out
      go_region_held3 (fun w' => (w'.cell? ⟨w.heap.size, 0, none⟩ = some (.int .i64 k) ∧ w'.cell? ⟨w.heap.size, 1, none⟩ = some (.int .i64 n) ∧ w'.cell? ⟨w.heap.size, 2, none⟩ = some (.string s)) ∧ (w'.cell? ⟨w.heap.size + 1, 0, none⟩ = some (.int .i64 k') ∧ w'.cell? ⟨w.heap.size + 1, 1, none⟩ = some (.int .i64 n') ∧ w'.cell? ⟨w.heap.size + 1, 2, none⟩ = some (.string s')))
        (first | go_keep | exact HS2.out | exact HS1.out)
        (first
          | (go_at_call 15; refine (HA.out _).mono ?_; rintro e w1 ⟨rfl, hb1⟩; obtain ⟨HB1, HS1, HR1⟩ := stepD HB.out HS.out HR.out hb1; clear hb1 HA)
          | (go_at_call 15; refine (HA'.out _).mono ?_; rintro e w2 ⟨rfl, hb2⟩; obtain ⟨HB2, HS2, HR2⟩ := stepD HB1.out HS1.out HR1.out hb2; clear hb2 HA'; obtain ⟨⟨x0, x1, x2⟩, ⟨y0, y1, y2⟩⟩ := HS2.out; obtain ⟨⟨r0, r1, r2⟩, ⟨f0, f1, f2⟩⟩ := HR2.out))
      go_wp2
      first
        | exact bodyPost_ret (v := .tuple #[.agg #[.int .i64 0, .int .i64 0, .string ⟨#[]⟩], .int .i64 61]) (by simp [results, Tryd.results25, go_sem, r0, r1, r2]) rfl ⟨rfl, set3 HB2.out _ (by omega) _ _ _⟩
        | exact bodyPost_ret (v := .tuple #[.agg #[.int .i64 4, .int .i64 0, .string z], .int .i64 0]) (by simp [results, Tryd.results25, go_sem, r0, r1, r2]) rfl ⟨rfl, set3 HB2.out _ (by omega) _ _ _⟩
set_option maxRecDepth 100000 in
set_option maxHeartbeats 4000000 in
theorem rlt_any (a b : J) (ha : a.ok) (hb : b.ok) (w : World) : Calls Tryd.prog 25 #[.string ⟨#[60]⟩, a.v, b.v] w fun e w' => e = .returned (okV (J.bool (decide (ordJ a b < 0)))) ∧ Below w.heap.size w w' := by
  obtain ⟨k, n, s, hv⟩ := a.shape
  obtain ⟨k', n', s', hv'⟩ := b.shape
  have HA := Lib.hid (fun w => rorder_any a b ha hb w)
  have HM := Lib.hid (fun w => rbool_any (decide (ordJ a b < 0)) w)
  have HB := Lib.hid (three_box w (boxO k n s) (boxO k' n' s') zeroO)
  have HR := Lib.hid (res_mk w (boxO k n s) (boxO k' n' s'))
  have HS := Lib.hid (six_mk3 w k n s k' n' s')
  rw [hv, hv'] at HA ⊢
  generalize ordJ a b = x at HA HM ⊢
  clear hv hv' ha hb
  cases hx : decide (x < 0)
  case' true => rw [show okV (J.bool true) = .tuple #[.agg #[.int .i64 2, .int .i64 1, .string ⟨#[]⟩], .int .i64 0] from rfl]
  case' false => rw [show okV (J.bool false) = .tuple #[.agg #[.int .i64 2, .int .i64 0, .string ⟨#[]⟩], .int .i64 0] from rfl]
  all_goals
    rw [hx] at HM
    simp only [J.v] at HM
    go_enter Tryd.func25, Tryd.ntmps25
    go_wp2_with fail
    go_at_call 36
    refine (HA.out _).mono ?_
    rintro e w1 ⟨rfl, hb1⟩
    obtain ⟨HB1, HS1, HR1⟩ := stepD HB.out HS.out HR.out hb1
    clear hb1
    go_wp2_with fail
    go_at_call 34
    refine (HM.out _).mono ?_
    rintro e w2 ⟨rfl, hb2⟩
    obtain ⟨HB2, HS2, HR2⟩ := stepD HB1.out HS1.out HR1.out hb2
    clear hb2
    obtain ⟨⟨r0, r1, r2⟩, ⟨f0, f1, f2⟩⟩ := HR2.out
    go_wp2
  · exact bodyPost_ret (v := .tuple #[.agg #[.int .i64 2, .int .i64 0, .string ⟨#[]⟩], .int .i64 0]) (by simp [results, Tryd.results25, go_sem, r0, r1, r2]) rfl ⟨rfl, set3 HB2.out _ (by omega) _ _ _⟩
  · exact bodyPost_ret (v := .tuple #[.agg #[.int .i64 2, .int .i64 1, .string ⟨#[]⟩], .int .i64 0]) (by simp [results, Tryd.results25, go_sem, r0, r1, r2]) rfl ⟨rfl, set3 HB2.out _ (by omega) _ _ _⟩
set_option maxRecDepth 100000 in
set_option maxHeartbeats 4000000 in
theorem rle_any (a b : J) (ha : a.ok) (hb : b.ok) (w : World) : Calls Tryd.prog 25 #[.string ⟨#[60, 61]⟩, a.v, b.v] w fun e w' => e = .returned (okV (J.bool (decide (ordJ a b ≤ 0)))) ∧ Below w.heap.size w w' := by
  obtain ⟨k, n, s, hv⟩ := a.shape
  obtain ⟨k', n', s', hv'⟩ := b.shape
  have HA := Lib.hid (fun w => rorder_any a b ha hb w)
  have HM := Lib.hid (fun w => rbool_any (decide (ordJ a b ≤ 0)) w)
  have HB := Lib.hid (three_box w (boxO k n s) (boxO k' n' s') zeroO)
  have HR := Lib.hid (res_mk w (boxO k n s) (boxO k' n' s'))
  have HS := Lib.hid (six_mk3 w k n s k' n' s')
  rw [hv, hv'] at HA ⊢
  generalize ordJ a b = x at HA HM ⊢
  clear hv hv' ha hb
  cases hx : decide (x ≤ 0)
  case' true => rw [show okV (J.bool true) = .tuple #[.agg #[.int .i64 2, .int .i64 1, .string ⟨#[]⟩], .int .i64 0] from rfl]
  case' false => rw [show okV (J.bool false) = .tuple #[.agg #[.int .i64 2, .int .i64 0, .string ⟨#[]⟩], .int .i64 0] from rfl]
  all_goals
    rw [hx] at HM
    simp only [J.v] at HM
    go_enter Tryd.func25, Tryd.ntmps25
    go_wp2_with fail
    go_at_call 36
    refine (HA.out _).mono ?_
    rintro e w1 ⟨rfl, hb1⟩
    obtain ⟨HB1, HS1, HR1⟩ := stepD HB.out HS.out HR.out hb1
    clear hb1
    go_wp2_with fail
    go_at_call 34
    refine (HM.out _).mono ?_
    rintro e w2 ⟨rfl, hb2⟩
    obtain ⟨HB2, HS2, HR2⟩ := stepD HB1.out HS1.out HR1.out hb2
    clear hb2
    obtain ⟨⟨r0, r1, r2⟩, ⟨f0, f1, f2⟩⟩ := HR2.out
    go_wp2
  · exact bodyPost_ret (v := .tuple #[.agg #[.int .i64 2, .int .i64 0, .string ⟨#[]⟩], .int .i64 0]) (by simp [results, Tryd.results25, go_sem, r0, r1, r2]) rfl ⟨rfl, set3 HB2.out _ (by omega) _ _ _⟩
  · exact bodyPost_ret (v := .tuple #[.agg #[.int .i64 2, .int .i64 1, .string ⟨#[]⟩], .int .i64 0]) (by simp [results, Tryd.results25, go_sem, r0, r1, r2]) rfl ⟨rfl, set3 HB2.out _ (by omega) _ _ _⟩
set_option maxRecDepth 100000 in
set_option maxHeartbeats 4000000 in
theorem req_any (a b : J) (w : World) : Calls Tryd.prog 25 #[.string ⟨#[61, 61, 61]⟩, a.v, b.v] w fun e w' => e = .returned (okV (J.bool (sameJ a b))) ∧ Below w.heap.size w w' := by
  rw [J.v_eq a, J.v_eq b]
  unfold sameJ
  generalize a.k = k
  generalize a.n = n
  generalize a.s = s
  generalize b.k = k'
  generalize b.n = n'
  generalize b.s = s'
  rcases sameP_cases k n s k' n' s' with ⟨rfl, rfl, e, es⟩ | ⟨rfl, rfl, e, es⟩ | ⟨rfl, e, es⟩ | ⟨e, es⟩
  · rw [es]
    have HM := Lib.hid (fun w => rbool_any (true) w)
    have HB := Lib.hid (three_box w (boxO k n s) (boxO k n s') zeroO)
    have HR := Lib.hid (res_mk w (boxO k n s) (boxO k n s'))
    rw [show okV (J.bool (true)) = .tuple #[.agg #[.int .i64 2, .int .i64 1, .string ⟨#[]⟩], .int .i64 0] from rfl]
    simp only [J.v] at HM
    clear es
    go_enter Tryd.func25, Tryd.ntmps25
    go_wp2_with fail
    go_at_call 34
    refine (HM.out _).mono ?_
    rintro e w2 ⟨rfl, hb2⟩
    have HB2 := Lib.hid (HB.out.trans (hb2.mono HB.out.size))
    obtain ⟨⟨r0, r1, r2⟩, ⟨f0, f1, f2⟩⟩ := HR.out.below hb2
    clear hb2
    go_wp2
    exact bodyPost_ret (v := .tuple #[.agg #[.int .i64 2, .int .i64 1, .string ⟨#[]⟩], .int .i64 0]) (by simp [results, Tryd.results25, go_sem, r0, r1, r2]) rfl ⟨rfl, set3 HB2.out _ (by omega) _ _ _⟩
  · rw [es]
    have HM := Lib.hid (fun w => rbool_any (false) w)
    have HB := Lib.hid (three_box w (boxO k n s) (boxO k n s') zeroO)
    have HR := Lib.hid (res_mk w (boxO k n s) (boxO k n s'))
    rw [show okV (J.bool (false)) = .tuple #[.agg #[.int .i64 2, .int .i64 0, .string ⟨#[]⟩], .int .i64 0] from rfl]
    simp only [J.v] at HM
    clear es
    go_enter Tryd.func25, Tryd.ntmps25
    go_wp2_with fail
    go_at_call 34
    refine (HM.out _).mono ?_
    rintro e w2 ⟨rfl, hb2⟩
    have HB2 := Lib.hid (HB.out.trans (hb2.mono HB.out.size))
    obtain ⟨⟨r0, r1, r2⟩, ⟨f0, f1, f2⟩⟩ := HR.out.below hb2
    clear hb2
    go_wp2
    exact bodyPost_ret (v := .tuple #[.agg #[.int .i64 2, .int .i64 0, .string ⟨#[]⟩], .int .i64 0]) (by simp [results, Tryd.results25, go_sem, r0, r1, r2]) rfl ⟨rfl, set3 HB2.out _ (by omega) _ _ _⟩
  · rw [es]
    have HM := Lib.hid (fun w => rbool_any (false) w)
    have HB := Lib.hid (three_box w (boxO k n s) (boxO k n' s') zeroO)
    have HR := Lib.hid (res_mk w (boxO k n s) (boxO k n' s'))
    rw [show okV (J.bool (false)) = .tuple #[.agg #[.int .i64 2, .int .i64 0, .string ⟨#[]⟩], .int .i64 0] from rfl]
    simp only [J.v] at HM
    clear es
    go_enter Tryd.func25, Tryd.ntmps25
    go_wp2_with fail
    go_at_call 34
    refine (HM.out _).mono ?_
    rintro e w2 ⟨rfl, hb2⟩
    have HB2 := Lib.hid (HB.out.trans (hb2.mono HB.out.size))
    obtain ⟨⟨r0, r1, r2⟩, ⟨f0, f1, f2⟩⟩ := HR.out.below hb2
    clear hb2
    go_wp2
    exact bodyPost_ret (v := .tuple #[.agg #[.int .i64 2, .int .i64 0, .string ⟨#[]⟩], .int .i64 0]) (by simp [results, Tryd.results25, go_sem, r0, r1, r2]) rfl ⟨rfl, set3 HB2.out _ (by omega) _ _ _⟩
  · rw [es]
    have HM := Lib.hid (fun w => rbool_any (false) w)
    have HB := Lib.hid (three_box w (boxO k n s) (boxO k' n' s') zeroO)
    have HR := Lib.hid (res_mk w (boxO k n s) (boxO k' n' s'))
    rw [show okV (J.bool (false)) = .tuple #[.agg #[.int .i64 2, .int .i64 0, .string ⟨#[]⟩], .int .i64 0] from rfl]
    simp only [J.v] at HM
    clear es
    go_enter Tryd.func25, Tryd.ntmps25
    go_wp2_with fail
    go_at_call 34
    refine (HM.out _).mono ?_
    rintro e w2 ⟨rfl, hb2⟩
    have HB2 := Lib.hid (HB.out.trans (hb2.mono HB.out.size))
    obtain ⟨⟨r0, r1, r2⟩, ⟨f0, f1, f2⟩⟩ := HR.out.below hb2
    clear hb2
    go_wp2
    exact bodyPost_ret (v := .tuple #[.agg #[.int .i64 2, .int .i64 0, .string ⟨#[]⟩], .int .i64 0]) (by simp [results, Tryd.results25, go_sem, r0, r1, r2]) rfl ⟨rfl, set3 HB2.out _ (by omega) _ _ _⟩
set_option maxRecDepth 100000 in
set_option maxHeartbeats 4000000 in
theorem rne_any (a b : J) (w : World) : Calls Tryd.prog 25 #[.string ⟨#[33, 61, 61]⟩, a.v, b.v] w fun e w' => e = .returned (okV (J.bool (!sameJ a b))) ∧ Below w.heap.size w w' := by
  rw [J.v_eq a, J.v_eq b]
  unfold sameJ
  generalize a.k = k
  generalize a.n = n
  generalize a.s = s
  generalize b.k = k'
  generalize b.n = n'
  generalize b.s = s'
  rcases sameP_cases k n s k' n' s' with ⟨rfl, rfl, e, es⟩ | ⟨rfl, rfl, e, es⟩ | ⟨rfl, e, es⟩ | ⟨e, es⟩
  · rw [es]
    have HM := Lib.hid (fun w => rbool_any (!true) w)
    have HB := Lib.hid (three_box w (boxO k n s) (boxO k n s') zeroO)
    have HR := Lib.hid (res_mk w (boxO k n s) (boxO k n s'))
    rw [show okV (J.bool (!true)) = .tuple #[.agg #[.int .i64 2, .int .i64 0, .string ⟨#[]⟩], .int .i64 0] from rfl]
    simp only [J.v, Bool.not_true] at HM
    clear es
    go_enter Tryd.func25, Tryd.ntmps25
    go_wp2_with fail
    go_at_call 34
    refine (HM.out _).mono ?_
    rintro e w2 ⟨rfl, hb2⟩
    have HB2 := Lib.hid (HB.out.trans (hb2.mono HB.out.size))
    obtain ⟨⟨r0, r1, r2⟩, ⟨f0, f1, f2⟩⟩ := HR.out.below hb2
    clear hb2
    go_wp2
    exact bodyPost_ret (v := .tuple #[.agg #[.int .i64 2, .int .i64 0, .string ⟨#[]⟩], .int .i64 0]) (by simp [results, Tryd.results25, go_sem, r0, r1, r2]) rfl ⟨rfl, set3 HB2.out _ (by omega) _ _ _⟩
  · rw [es]
    have HM := Lib.hid (fun w => rbool_any (!false) w)
    have HB := Lib.hid (three_box w (boxO k n s) (boxO k n s') zeroO)
    have HR := Lib.hid (res_mk w (boxO k n s) (boxO k n s'))
    rw [show okV (J.bool (!false)) = .tuple #[.agg #[.int .i64 2, .int .i64 1, .string ⟨#[]⟩], .int .i64 0] from rfl]
    simp only [J.v, Bool.not_false] at HM
    clear es
    go_enter Tryd.func25, Tryd.ntmps25
    go_wp2_with fail
    go_at_call 34
    refine (HM.out _).mono ?_
    rintro e w2 ⟨rfl, hb2⟩
    have HB2 := Lib.hid (HB.out.trans (hb2.mono HB.out.size))
    obtain ⟨⟨r0, r1, r2⟩, ⟨f0, f1, f2⟩⟩ := HR.out.below hb2
    clear hb2
    go_wp2
    exact bodyPost_ret (v := .tuple #[.agg #[.int .i64 2, .int .i64 1, .string ⟨#[]⟩], .int .i64 0]) (by simp [results, Tryd.results25, go_sem, r0, r1, r2]) rfl ⟨rfl, set3 HB2.out _ (by omega) _ _ _⟩
  · rw [es]
    have HM := Lib.hid (fun w => rbool_any (!false) w)
    have HB := Lib.hid (three_box w (boxO k n s) (boxO k n' s') zeroO)
    have HR := Lib.hid (res_mk w (boxO k n s) (boxO k n' s'))
    rw [show okV (J.bool (!false)) = .tuple #[.agg #[.int .i64 2, .int .i64 1, .string ⟨#[]⟩], .int .i64 0] from rfl]
    simp only [J.v, Bool.not_false] at HM
    clear es
    go_enter Tryd.func25, Tryd.ntmps25
    go_wp2_with fail
    go_at_call 34
    refine (HM.out _).mono ?_
    rintro e w2 ⟨rfl, hb2⟩
    have HB2 := Lib.hid (HB.out.trans (hb2.mono HB.out.size))
    obtain ⟨⟨r0, r1, r2⟩, ⟨f0, f1, f2⟩⟩ := HR.out.below hb2
    clear hb2
    go_wp2
    exact bodyPost_ret (v := .tuple #[.agg #[.int .i64 2, .int .i64 1, .string ⟨#[]⟩], .int .i64 0]) (by simp [results, Tryd.results25, go_sem, r0, r1, r2]) rfl ⟨rfl, set3 HB2.out _ (by omega) _ _ _⟩
  · rw [es]
    have HM := Lib.hid (fun w => rbool_any (!false) w)
    have HB := Lib.hid (three_box w (boxO k n s) (boxO k' n' s') zeroO)
    have HR := Lib.hid (res_mk w (boxO k n s) (boxO k' n' s'))
    rw [show okV (J.bool (!false)) = .tuple #[.agg #[.int .i64 2, .int .i64 1, .string ⟨#[]⟩], .int .i64 0] from rfl]
    simp only [J.v, Bool.not_false] at HM
    clear es
    go_enter Tryd.func25, Tryd.ntmps25
    go_wp2_with fail
    go_at_call 34
    refine (HM.out _).mono ?_
    rintro e w2 ⟨rfl, hb2⟩
    have HB2 := Lib.hid (HB.out.trans (hb2.mono HB.out.size))
    obtain ⟨⟨r0, r1, r2⟩, ⟨f0, f1, f2⟩⟩ := HR.out.below hb2
    clear hb2
    go_wp2
    exact bodyPost_ret (v := .tuple #[.agg #[.int .i64 2, .int .i64 1, .string ⟨#[]⟩], .int .i64 0]) (by simp [results, Tryd.results25, go_sem, r0, r1, r2]) rfl ⟨rfl, set3 HB2.out _ (by omega) _ _ _⟩
theorem rtwo_any (s : ByteArray) (a b : J) (ha : a.ok) (hb : b.ok) (w : World) : Calls Tryd.prog 25 #[.string s, a.v, b.v] w fun e w' => e = .returned (twoV s.data.toList a b) ∧ Below w.heap.size w w' := by
  have of : ∀ l : Bs, s.data.toList = l → s = ⟨l.toArray⟩ := fun l h => by subst h; rfl
  rcases sign_cases s.data.toList with h | h | h | h | h | h | h | h
  · unfold twoV
    rw [make_none _ _ _ h]
    simp [isSign, signsL] at h
    obtain ⟨h1, h2, h3, h4, h5, h6, h7⟩ := h
    refine rtwo_none s a b w ?_ ?_ ?_ ?_ ?_ ?_ ?_
    all_goals (rw [ByteArray.toList_eq, beq_eq_false_iff_ne])
    · exact fun e => h1 e.symm
    · exact fun e => h2 e.symm
    · exact fun e => h3 e.symm
    · exact fun e => h4 e.symm
    · exact fun e => h5 e.symm
    · exact fun e => h6 e.symm
    · exact fun e => h7 e.symm
  · rw [of _ h]
    cases ht : a.isText || b.isText with
    | true =>
      have e : twoV [43] a b = okV (.text (a.key ++ b.key)) := by simp [twoV, makeJ, ht]
      exact (rsum_text a b ha hb w ht).mono fun e' w' hh => ⟨by rw [hh.1]; exact congrArg _ e.symm, hh.2⟩
    | false =>
      have e : twoV [43] a b = okV (.num (wrap64 (a.nr + b.nr))) := by simp [twoV, makeJ, ht]
      exact (rsum_num a b ha hb w ht).mono fun e' w' hh => ⟨by rw [hh.1]; exact congrArg _ e.symm, hh.2⟩
  · rw [of _ h]
    exact rsub_any a b ha hb w
  · rw [of _ h]
    exact rmul_any a b ha hb w
  · rw [of _ h]
    exact rlt_any a b ha hb w
  · rw [of _ h]
    exact rle_any a b ha hb w
  · rw [of _ h]
    exact req_any a b w
  · rw [of _ h]
    exact rne_any a b w
end Go.Proofs.YtpgclgfaiklpoaaDoor
