/- value.Two: what a sign makes of two values. -/
import Derived.Test.YtpgclgfaiklpoaaDoorSigns
import Derived.Test.YtpgclgfaiklpoaaDoorSays
namespace Go.Proofs.YtpgclgfaiklpoaaDoor
open Go.RowKit Go.Proofs

theorem set3a {w W : World} (h : Below w.heap.size w W) (b : Nat) (hb : w.heap.size ≤ b) (x y z : Value) (o : Obj) : Below w.heap.size w ((((W.setCell ⟨b, 0, none⟩ x).setCell ⟨b, 1, none⟩ y).setCell ⟨b, 2, none⟩ z).alloc o) :=
  (set3 h b hb x y z).alloc (set3 h b hb x y z).size o
set_option maxRecDepth 100000 in
set_option maxHeartbeats 4000000 in
theorem two_none (s : ByteArray) (a b : J) (w : World) (hs : s.size ≤ 281474976710656) (hn : isSign s.data.toList = false) : Calls Tryd.prog 24 #[.string s, a.v, b.v] w fun e w' => e = .returned (.tuple #[J.undef.v, .int .i64 60]) ∧ Below w.heap.size w w' := by
  rw [J.v_eq a, J.v_eq b]
  generalize a.k = k
  generalize a.n = n
  generalize a.s = t
  generalize b.k = k'
  generalize b.n = n'
  generalize b.s = t'
  have HB := Lib.hid (three_box w (boxO k n t) (boxO k' n' t') zeroO)
  have HR := Lib.hid (res_mk w (boxO k n t) (boxO k' n' t'))
  have HL := Lib.hid (fun (w' : World) (mb : Nat) (h : SM w' mb signsL) => look_none h s (by unfold maxLen; omega) hn)
  simp only [J.v]
  clear hs hn
  go_enter Tryd.func24, Tryd.ntmps24
  go_wp2_with fail
  go_at_call 35
  refine (makings_any _).mono ?_
  rintro e w1 ⟨mb, rfl, hM, hmb, hb1⟩
  obtain ⟨lv, hlk⟩ := HL.out _ _ hM
  have HB1 := Lib.hid (HB.out.trans (hb1.mono HB.out.size))
  obtain ⟨⟨r0, r1, r2⟩, ⟨f0, f1, f2⟩⟩ := HR.out.below hb1
  clear hb1 hM hmb
  go_wp2
  exact bodyPost_ret (v := .tuple #[.agg #[.int .i64 0, .int .i64 0, .string ⟨#[]⟩], .int .i64 60]) (by simp [results, Tryd.results24, go_sem, r0, r1, r2]) rfl ⟨rfl, set3 HB1.out _ (by omega) _ _ _⟩
set_option maxRecDepth 100000 in
set_option maxHeartbeats 4000000 in
theorem two_38 (a b r : J) (w : World) (hE : Env w) (hC : ∀ w, Env w → Calls Tryd.prog 38 #[a.v, b.v] w fun e w' => e = .returned r.v ∧ Below w.heap.size w w') : Calls Tryd.prog 24 #[.string ⟨#[43]⟩, a.v, b.v] w fun e w' => e = .returned (okV r) ∧ Below w.heap.size w w' := by
  have HC := Lib.hid hC
  rw [J.v_eq a, J.v_eq b, J.v_eq r] at HC
  rw [J.v_eq a, J.v_eq b]
  unfold okV
  rw [J.v_eq r]
  generalize a.k = k at HC ⊢
  generalize a.n = n at HC ⊢
  generalize a.s = t at HC ⊢
  generalize b.k = k' at HC ⊢
  generalize b.n = n' at HC ⊢
  generalize b.s = t' at HC ⊢
  generalize r.k = x at HC ⊢
  generalize r.n = y at HC ⊢
  generalize r.s = z at HC ⊢
  have HE := Lib.hid (fun (w' : World) (hb : Below w.heap.size w w') => hE.kept hb)
  have HB := Lib.hid (three_box w (boxO k n t) (boxO k' n' t') zeroO)
  have HS := Lib.hid (six_mk3 w k n t k' n' t')
  have HR := Lib.hid (res_mk w (boxO k n t) (boxO k' n' t'))
  have HL := Lib.hid (fun (w' : World) (mb : Nat) (h : SM w' mb signsL) => look_sign h ⟨#[43]⟩ 38 (by unfold maxLen; decide) (by decide))
  simp only [J.v]
  clear hE hC
  have n1 : ¬ w.heap.size = w.heap.size + 1 + 1 := by omega
  have n2 : ¬ w.heap.size + 1 + 1 = w.heap.size := by omega
  by_cases hz : 65536 < z.size
  all_goals
    first | rw [if_pos hz] | rw [if_neg hz]
    go_enter Tryd.func24, Tryd.ntmps24
    go_wp2_with fail
    go_at_call 35
    refine (makings_any _).mono ?_
    rintro e w1 ⟨mb, rfl, hM, hmb, hb1⟩
    have hlk := HL.out _ _ hM
    obtain ⟨HB1, HS1, HR1⟩ := stepD HB.out HS.out HR.out hb1
    clear hb1 hM hmb
    obtain ⟨⟨x0, x1, x2⟩, ⟨y0, y1, y2⟩⟩ := HS1.out
    go_wp2_with fail
    go_at_call 38
    refine (HC.out _ (HE.out _ HB1.out)).mono ?_
    rintro e w2 ⟨rfl, hb2⟩
    obtain ⟨HB2, HS2, HR2⟩ := stepD HB1.out HS1.out HR1.out hb2
    have hz1 := World.block_lt_of_cell? _ _ HR2.out.1.1
    simp only [] at hz1
    have n3 : ¬ w.heap.size + 1 + 1 = w2.heap.size := by omega
    have n4 : ¬ w2.heap.size = w.heap.size + 1 + 1 := by omega
    clear hb2
    obtain ⟨⟨q0, q1, q2⟩, ⟨g0, g1, g2⟩⟩ := HR2.out
    obtain ⟨⟨r0, r1, r2⟩, ⟨f0, f1, f2⟩⟩ := HR2.out.below (below_box w2 (boxO x y z))
    go_wp2
  · exact bodyPost_ret (v := .tuple #[.agg #[.int .i64 0, .int .i64 0, .string ⟨#[]⟩], .int .i64 61]) (by simp [results, Tryd.results24, go_sem, q0, q1, q2, hz1]) rfl ⟨rfl, set3a HB2.out (w.heap.size + 1 + 1) (by omega) _ _ _ _⟩
  · exact bodyPost_ret (v := .tuple #[.agg #[.int .i64 x, .int .i64 y, .string z], .int .i64 0]) (by simp [results, Tryd.results24, go_sem, q0, q1, q2, hz1]) rfl ⟨rfl, set3a HB2.out (w.heap.size + 1 + 1) (by omega) _ _ _ _⟩
set_option maxRecDepth 100000 in
set_option maxHeartbeats 4000000 in
theorem two_39 (a b r : J) (w : World) (hE : Env w) (hC : ∀ w, Env w → Calls Tryd.prog 39 #[a.v, b.v] w fun e w' => e = .returned r.v ∧ Below w.heap.size w w') : Calls Tryd.prog 24 #[.string ⟨#[45]⟩, a.v, b.v] w fun e w' => e = .returned (okV r) ∧ Below w.heap.size w w' := by
  have HC := Lib.hid hC
  rw [J.v_eq a, J.v_eq b, J.v_eq r] at HC
  rw [J.v_eq a, J.v_eq b]
  unfold okV
  rw [J.v_eq r]
  generalize a.k = k at HC ⊢
  generalize a.n = n at HC ⊢
  generalize a.s = t at HC ⊢
  generalize b.k = k' at HC ⊢
  generalize b.n = n' at HC ⊢
  generalize b.s = t' at HC ⊢
  generalize r.k = x at HC ⊢
  generalize r.n = y at HC ⊢
  generalize r.s = z at HC ⊢
  have HE := Lib.hid (fun (w' : World) (hb : Below w.heap.size w w') => hE.kept hb)
  have HB := Lib.hid (three_box w (boxO k n t) (boxO k' n' t') zeroO)
  have HS := Lib.hid (six_mk3 w k n t k' n' t')
  have HR := Lib.hid (res_mk w (boxO k n t) (boxO k' n' t'))
  have HL := Lib.hid (fun (w' : World) (mb : Nat) (h : SM w' mb signsL) => look_sign h ⟨#[45]⟩ 39 (by unfold maxLen; decide) (by decide))
  simp only [J.v]
  clear hE hC
  have n1 : ¬ w.heap.size = w.heap.size + 1 + 1 := by omega
  have n2 : ¬ w.heap.size + 1 + 1 = w.heap.size := by omega
  by_cases hz : 65536 < z.size
  all_goals
    first | rw [if_pos hz] | rw [if_neg hz]
    go_enter Tryd.func24, Tryd.ntmps24
    go_wp2_with fail
    go_at_call 35
    refine (makings_any _).mono ?_
    rintro e w1 ⟨mb, rfl, hM, hmb, hb1⟩
    have hlk := HL.out _ _ hM
    obtain ⟨HB1, HS1, HR1⟩ := stepD HB.out HS.out HR.out hb1
    clear hb1 hM hmb
    obtain ⟨⟨x0, x1, x2⟩, ⟨y0, y1, y2⟩⟩ := HS1.out
    go_wp2_with fail
    go_at_call 39
    refine (HC.out _ (HE.out _ HB1.out)).mono ?_
    rintro e w2 ⟨rfl, hb2⟩
    obtain ⟨HB2, HS2, HR2⟩ := stepD HB1.out HS1.out HR1.out hb2
    have hz1 := World.block_lt_of_cell? _ _ HR2.out.1.1
    simp only [] at hz1
    have n3 : ¬ w.heap.size + 1 + 1 = w2.heap.size := by omega
    have n4 : ¬ w2.heap.size = w.heap.size + 1 + 1 := by omega
    clear hb2
    obtain ⟨⟨q0, q1, q2⟩, ⟨g0, g1, g2⟩⟩ := HR2.out
    obtain ⟨⟨r0, r1, r2⟩, ⟨f0, f1, f2⟩⟩ := HR2.out.below (below_box w2 (boxO x y z))
    go_wp2
  · exact bodyPost_ret (v := .tuple #[.agg #[.int .i64 0, .int .i64 0, .string ⟨#[]⟩], .int .i64 61]) (by simp [results, Tryd.results24, go_sem, q0, q1, q2, hz1]) rfl ⟨rfl, set3a HB2.out (w.heap.size + 1 + 1) (by omega) _ _ _ _⟩
  · exact bodyPost_ret (v := .tuple #[.agg #[.int .i64 x, .int .i64 y, .string z], .int .i64 0]) (by simp [results, Tryd.results24, go_sem, q0, q1, q2, hz1]) rfl ⟨rfl, set3a HB2.out (w.heap.size + 1 + 1) (by omega) _ _ _ _⟩
set_option maxRecDepth 100000 in
set_option maxHeartbeats 4000000 in
theorem two_40 (a b r : J) (w : World) (hE : Env w) (hC : ∀ w, Env w → Calls Tryd.prog 40 #[a.v, b.v] w fun e w' => e = .returned r.v ∧ Below w.heap.size w w') : Calls Tryd.prog 24 #[.string ⟨#[42]⟩, a.v, b.v] w fun e w' => e = .returned (okV r) ∧ Below w.heap.size w w' := by
  have HC := Lib.hid hC
  rw [J.v_eq a, J.v_eq b, J.v_eq r] at HC
  rw [J.v_eq a, J.v_eq b]
  unfold okV
  rw [J.v_eq r]
  generalize a.k = k at HC ⊢
  generalize a.n = n at HC ⊢
  generalize a.s = t at HC ⊢
  generalize b.k = k' at HC ⊢
  generalize b.n = n' at HC ⊢
  generalize b.s = t' at HC ⊢
  generalize r.k = x at HC ⊢
  generalize r.n = y at HC ⊢
  generalize r.s = z at HC ⊢
  have HE := Lib.hid (fun (w' : World) (hb : Below w.heap.size w w') => hE.kept hb)
  have HB := Lib.hid (three_box w (boxO k n t) (boxO k' n' t') zeroO)
  have HS := Lib.hid (six_mk3 w k n t k' n' t')
  have HR := Lib.hid (res_mk w (boxO k n t) (boxO k' n' t'))
  have HL := Lib.hid (fun (w' : World) (mb : Nat) (h : SM w' mb signsL) => look_sign h ⟨#[42]⟩ 40 (by unfold maxLen; decide) (by decide))
  simp only [J.v]
  clear hE hC
  have n1 : ¬ w.heap.size = w.heap.size + 1 + 1 := by omega
  have n2 : ¬ w.heap.size + 1 + 1 = w.heap.size := by omega
  by_cases hz : 65536 < z.size
  all_goals
    first | rw [if_pos hz] | rw [if_neg hz]
    go_enter Tryd.func24, Tryd.ntmps24
    go_wp2_with fail
    go_at_call 35
    refine (makings_any _).mono ?_
    rintro e w1 ⟨mb, rfl, hM, hmb, hb1⟩
    have hlk := HL.out _ _ hM
    obtain ⟨HB1, HS1, HR1⟩ := stepD HB.out HS.out HR.out hb1
    clear hb1 hM hmb
    obtain ⟨⟨x0, x1, x2⟩, ⟨y0, y1, y2⟩⟩ := HS1.out
    go_wp2_with fail
    go_at_call 40
    refine (HC.out _ (HE.out _ HB1.out)).mono ?_
    rintro e w2 ⟨rfl, hb2⟩
    obtain ⟨HB2, HS2, HR2⟩ := stepD HB1.out HS1.out HR1.out hb2
    have hz1 := World.block_lt_of_cell? _ _ HR2.out.1.1
    simp only [] at hz1
    have n3 : ¬ w.heap.size + 1 + 1 = w2.heap.size := by omega
    have n4 : ¬ w2.heap.size = w.heap.size + 1 + 1 := by omega
    clear hb2
    obtain ⟨⟨q0, q1, q2⟩, ⟨g0, g1, g2⟩⟩ := HR2.out
    obtain ⟨⟨r0, r1, r2⟩, ⟨f0, f1, f2⟩⟩ := HR2.out.below (below_box w2 (boxO x y z))
    go_wp2
  · exact bodyPost_ret (v := .tuple #[.agg #[.int .i64 0, .int .i64 0, .string ⟨#[]⟩], .int .i64 61]) (by simp [results, Tryd.results24, go_sem, q0, q1, q2, hz1]) rfl ⟨rfl, set3a HB2.out (w.heap.size + 1 + 1) (by omega) _ _ _ _⟩
  · exact bodyPost_ret (v := .tuple #[.agg #[.int .i64 x, .int .i64 y, .string z], .int .i64 0]) (by simp [results, Tryd.results24, go_sem, q0, q1, q2, hz1]) rfl ⟨rfl, set3a HB2.out (w.heap.size + 1 + 1) (by omega) _ _ _ _⟩
set_option maxRecDepth 100000 in
set_option maxHeartbeats 4000000 in
theorem two_41 (a b r : J) (w : World) (hE : Env w) (hC : ∀ w, Env w → Calls Tryd.prog 41 #[a.v, b.v] w fun e w' => e = .returned r.v ∧ Below w.heap.size w w') : Calls Tryd.prog 24 #[.string ⟨#[60]⟩, a.v, b.v] w fun e w' => e = .returned (okV r) ∧ Below w.heap.size w w' := by
  have HC := Lib.hid hC
  rw [J.v_eq a, J.v_eq b, J.v_eq r] at HC
  rw [J.v_eq a, J.v_eq b]
  unfold okV
  rw [J.v_eq r]
  generalize a.k = k at HC ⊢
  generalize a.n = n at HC ⊢
  generalize a.s = t at HC ⊢
  generalize b.k = k' at HC ⊢
  generalize b.n = n' at HC ⊢
  generalize b.s = t' at HC ⊢
  generalize r.k = x at HC ⊢
  generalize r.n = y at HC ⊢
  generalize r.s = z at HC ⊢
  have HE := Lib.hid (fun (w' : World) (hb : Below w.heap.size w w') => hE.kept hb)
  have HB := Lib.hid (three_box w (boxO k n t) (boxO k' n' t') zeroO)
  have HS := Lib.hid (six_mk3 w k n t k' n' t')
  have HR := Lib.hid (res_mk w (boxO k n t) (boxO k' n' t'))
  have HL := Lib.hid (fun (w' : World) (mb : Nat) (h : SM w' mb signsL) => look_sign h ⟨#[60]⟩ 41 (by unfold maxLen; decide) (by decide))
  simp only [J.v]
  clear hE hC
  have n1 : ¬ w.heap.size = w.heap.size + 1 + 1 := by omega
  have n2 : ¬ w.heap.size + 1 + 1 = w.heap.size := by omega
  by_cases hz : 65536 < z.size
  all_goals
    first | rw [if_pos hz] | rw [if_neg hz]
    go_enter Tryd.func24, Tryd.ntmps24
    go_wp2_with fail
    go_at_call 35
    refine (makings_any _).mono ?_
    rintro e w1 ⟨mb, rfl, hM, hmb, hb1⟩
    have hlk := HL.out _ _ hM
    obtain ⟨HB1, HS1, HR1⟩ := stepD HB.out HS.out HR.out hb1
    clear hb1 hM hmb
    obtain ⟨⟨x0, x1, x2⟩, ⟨y0, y1, y2⟩⟩ := HS1.out
    go_wp2_with fail
    go_at_call 41
    refine (HC.out _ (HE.out _ HB1.out)).mono ?_
    rintro e w2 ⟨rfl, hb2⟩
    obtain ⟨HB2, HS2, HR2⟩ := stepD HB1.out HS1.out HR1.out hb2
    have hz1 := World.block_lt_of_cell? _ _ HR2.out.1.1
    simp only [] at hz1
    have n3 : ¬ w.heap.size + 1 + 1 = w2.heap.size := by omega
    have n4 : ¬ w2.heap.size = w.heap.size + 1 + 1 := by omega
    clear hb2
    obtain ⟨⟨q0, q1, q2⟩, ⟨g0, g1, g2⟩⟩ := HR2.out
    obtain ⟨⟨r0, r1, r2⟩, ⟨f0, f1, f2⟩⟩ := HR2.out.below (below_box w2 (boxO x y z))
    go_wp2
  · exact bodyPost_ret (v := .tuple #[.agg #[.int .i64 0, .int .i64 0, .string ⟨#[]⟩], .int .i64 61]) (by simp [results, Tryd.results24, go_sem, q0, q1, q2, hz1]) rfl ⟨rfl, set3a HB2.out (w.heap.size + 1 + 1) (by omega) _ _ _ _⟩
  · exact bodyPost_ret (v := .tuple #[.agg #[.int .i64 x, .int .i64 y, .string z], .int .i64 0]) (by simp [results, Tryd.results24, go_sem, q0, q1, q2, hz1]) rfl ⟨rfl, set3a HB2.out (w.heap.size + 1 + 1) (by omega) _ _ _ _⟩
set_option maxRecDepth 100000 in
set_option maxHeartbeats 4000000 in
theorem two_43 (a b r : J) (w : World) (hE : Env w) (hC : ∀ w, Env w → Calls Tryd.prog 43 #[a.v, b.v] w fun e w' => e = .returned r.v ∧ Below w.heap.size w w') : Calls Tryd.prog 24 #[.string ⟨#[60, 61]⟩, a.v, b.v] w fun e w' => e = .returned (okV r) ∧ Below w.heap.size w w' := by
  have HC := Lib.hid hC
  rw [J.v_eq a, J.v_eq b, J.v_eq r] at HC
  rw [J.v_eq a, J.v_eq b]
  unfold okV
  rw [J.v_eq r]
  generalize a.k = k at HC ⊢
  generalize a.n = n at HC ⊢
  generalize a.s = t at HC ⊢
  generalize b.k = k' at HC ⊢
  generalize b.n = n' at HC ⊢
  generalize b.s = t' at HC ⊢
  generalize r.k = x at HC ⊢
  generalize r.n = y at HC ⊢
  generalize r.s = z at HC ⊢
  have HE := Lib.hid (fun (w' : World) (hb : Below w.heap.size w w') => hE.kept hb)
  have HB := Lib.hid (three_box w (boxO k n t) (boxO k' n' t') zeroO)
  have HS := Lib.hid (six_mk3 w k n t k' n' t')
  have HR := Lib.hid (res_mk w (boxO k n t) (boxO k' n' t'))
  have HL := Lib.hid (fun (w' : World) (mb : Nat) (h : SM w' mb signsL) => look_sign h ⟨#[60, 61]⟩ 43 (by unfold maxLen; decide) (by decide))
  simp only [J.v]
  clear hE hC
  have n1 : ¬ w.heap.size = w.heap.size + 1 + 1 := by omega
  have n2 : ¬ w.heap.size + 1 + 1 = w.heap.size := by omega
  by_cases hz : 65536 < z.size
  all_goals
    first | rw [if_pos hz] | rw [if_neg hz]
    go_enter Tryd.func24, Tryd.ntmps24
    go_wp2_with fail
    go_at_call 35
    refine (makings_any _).mono ?_
    rintro e w1 ⟨mb, rfl, hM, hmb, hb1⟩
    have hlk := HL.out _ _ hM
    obtain ⟨HB1, HS1, HR1⟩ := stepD HB.out HS.out HR.out hb1
    clear hb1 hM hmb
    obtain ⟨⟨x0, x1, x2⟩, ⟨y0, y1, y2⟩⟩ := HS1.out
    go_wp2_with fail
    go_at_call 43
    refine (HC.out _ (HE.out _ HB1.out)).mono ?_
    rintro e w2 ⟨rfl, hb2⟩
    obtain ⟨HB2, HS2, HR2⟩ := stepD HB1.out HS1.out HR1.out hb2
    have hz1 := World.block_lt_of_cell? _ _ HR2.out.1.1
    simp only [] at hz1
    have n3 : ¬ w.heap.size + 1 + 1 = w2.heap.size := by omega
    have n4 : ¬ w2.heap.size = w.heap.size + 1 + 1 := by omega
    clear hb2
    obtain ⟨⟨q0, q1, q2⟩, ⟨g0, g1, g2⟩⟩ := HR2.out
    obtain ⟨⟨r0, r1, r2⟩, ⟨f0, f1, f2⟩⟩ := HR2.out.below (below_box w2 (boxO x y z))
    go_wp2
  · exact bodyPost_ret (v := .tuple #[.agg #[.int .i64 0, .int .i64 0, .string ⟨#[]⟩], .int .i64 61]) (by simp [results, Tryd.results24, go_sem, q0, q1, q2, hz1]) rfl ⟨rfl, set3a HB2.out (w.heap.size + 1 + 1) (by omega) _ _ _ _⟩
  · exact bodyPost_ret (v := .tuple #[.agg #[.int .i64 x, .int .i64 y, .string z], .int .i64 0]) (by simp [results, Tryd.results24, go_sem, q0, q1, q2, hz1]) rfl ⟨rfl, set3a HB2.out (w.heap.size + 1 + 1) (by omega) _ _ _ _⟩
set_option maxRecDepth 100000 in
set_option maxHeartbeats 4000000 in
theorem two_44 (a b r : J) (w : World) (hE : Env w) (hC : ∀ w, Env w → Calls Tryd.prog 44 #[a.v, b.v] w fun e w' => e = .returned r.v ∧ Below w.heap.size w w') : Calls Tryd.prog 24 #[.string ⟨#[61, 61, 61]⟩, a.v, b.v] w fun e w' => e = .returned (okV r) ∧ Below w.heap.size w w' := by
  have HC := Lib.hid hC
  rw [J.v_eq a, J.v_eq b, J.v_eq r] at HC
  rw [J.v_eq a, J.v_eq b]
  unfold okV
  rw [J.v_eq r]
  generalize a.k = k at HC ⊢
  generalize a.n = n at HC ⊢
  generalize a.s = t at HC ⊢
  generalize b.k = k' at HC ⊢
  generalize b.n = n' at HC ⊢
  generalize b.s = t' at HC ⊢
  generalize r.k = x at HC ⊢
  generalize r.n = y at HC ⊢
  generalize r.s = z at HC ⊢
  have HE := Lib.hid (fun (w' : World) (hb : Below w.heap.size w w') => hE.kept hb)
  have HB := Lib.hid (three_box w (boxO k n t) (boxO k' n' t') zeroO)
  have HS := Lib.hid (six_mk3 w k n t k' n' t')
  have HR := Lib.hid (res_mk w (boxO k n t) (boxO k' n' t'))
  have HL := Lib.hid (fun (w' : World) (mb : Nat) (h : SM w' mb signsL) => look_sign h ⟨#[61, 61, 61]⟩ 44 (by unfold maxLen; decide) (by decide))
  simp only [J.v]
  clear hE hC
  have n1 : ¬ w.heap.size = w.heap.size + 1 + 1 := by omega
  have n2 : ¬ w.heap.size + 1 + 1 = w.heap.size := by omega
  by_cases hz : 65536 < z.size
  all_goals
    first | rw [if_pos hz] | rw [if_neg hz]
    go_enter Tryd.func24, Tryd.ntmps24
    go_wp2_with fail
    go_at_call 35
    refine (makings_any _).mono ?_
    rintro e w1 ⟨mb, rfl, hM, hmb, hb1⟩
    have hlk := HL.out _ _ hM
    obtain ⟨HB1, HS1, HR1⟩ := stepD HB.out HS.out HR.out hb1
    clear hb1 hM hmb
    obtain ⟨⟨x0, x1, x2⟩, ⟨y0, y1, y2⟩⟩ := HS1.out
    go_wp2_with fail
    go_at_call 44
    refine (HC.out _ (HE.out _ HB1.out)).mono ?_
    rintro e w2 ⟨rfl, hb2⟩
    obtain ⟨HB2, HS2, HR2⟩ := stepD HB1.out HS1.out HR1.out hb2
    have hz1 := World.block_lt_of_cell? _ _ HR2.out.1.1
    simp only [] at hz1
    have n3 : ¬ w.heap.size + 1 + 1 = w2.heap.size := by omega
    have n4 : ¬ w2.heap.size = w.heap.size + 1 + 1 := by omega
    clear hb2
    obtain ⟨⟨q0, q1, q2⟩, ⟨g0, g1, g2⟩⟩ := HR2.out
    obtain ⟨⟨r0, r1, r2⟩, ⟨f0, f1, f2⟩⟩ := HR2.out.below (below_box w2 (boxO x y z))
    go_wp2
  · exact bodyPost_ret (v := .tuple #[.agg #[.int .i64 0, .int .i64 0, .string ⟨#[]⟩], .int .i64 61]) (by simp [results, Tryd.results24, go_sem, q0, q1, q2, hz1]) rfl ⟨rfl, set3a HB2.out (w.heap.size + 1 + 1) (by omega) _ _ _ _⟩
  · exact bodyPost_ret (v := .tuple #[.agg #[.int .i64 x, .int .i64 y, .string z], .int .i64 0]) (by simp [results, Tryd.results24, go_sem, q0, q1, q2, hz1]) rfl ⟨rfl, set3a HB2.out (w.heap.size + 1 + 1) (by omega) _ _ _ _⟩
set_option maxRecDepth 100000 in
set_option maxHeartbeats 4000000 in
theorem two_45 (a b r : J) (w : World) (hE : Env w) (hC : ∀ w, Env w → Calls Tryd.prog 45 #[a.v, b.v] w fun e w' => e = .returned r.v ∧ Below w.heap.size w w') : Calls Tryd.prog 24 #[.string ⟨#[33, 61, 61]⟩, a.v, b.v] w fun e w' => e = .returned (okV r) ∧ Below w.heap.size w w' := by
  have HC := Lib.hid hC
  rw [J.v_eq a, J.v_eq b, J.v_eq r] at HC
  rw [J.v_eq a, J.v_eq b]
  unfold okV
  rw [J.v_eq r]
  generalize a.k = k at HC ⊢
  generalize a.n = n at HC ⊢
  generalize a.s = t at HC ⊢
  generalize b.k = k' at HC ⊢
  generalize b.n = n' at HC ⊢
  generalize b.s = t' at HC ⊢
  generalize r.k = x at HC ⊢
  generalize r.n = y at HC ⊢
  generalize r.s = z at HC ⊢
  have HE := Lib.hid (fun (w' : World) (hb : Below w.heap.size w w') => hE.kept hb)
  have HB := Lib.hid (three_box w (boxO k n t) (boxO k' n' t') zeroO)
  have HS := Lib.hid (six_mk3 w k n t k' n' t')
  have HR := Lib.hid (res_mk w (boxO k n t) (boxO k' n' t'))
  have HL := Lib.hid (fun (w' : World) (mb : Nat) (h : SM w' mb signsL) => look_sign h ⟨#[33, 61, 61]⟩ 45 (by unfold maxLen; decide) (by decide))
  simp only [J.v]
  clear hE hC
  have n1 : ¬ w.heap.size = w.heap.size + 1 + 1 := by omega
  have n2 : ¬ w.heap.size + 1 + 1 = w.heap.size := by omega
  by_cases hz : 65536 < z.size
  all_goals
    first | rw [if_pos hz] | rw [if_neg hz]
    go_enter Tryd.func24, Tryd.ntmps24
    go_wp2_with fail
    go_at_call 35
    refine (makings_any _).mono ?_
    rintro e w1 ⟨mb, rfl, hM, hmb, hb1⟩
    have hlk := HL.out _ _ hM
    obtain ⟨HB1, HS1, HR1⟩ := stepD HB.out HS.out HR.out hb1
    clear hb1 hM hmb
    obtain ⟨⟨x0, x1, x2⟩, ⟨y0, y1, y2⟩⟩ := HS1.out
    go_wp2_with fail
    go_at_call 45
    refine (HC.out _ (HE.out _ HB1.out)).mono ?_
    rintro e w2 ⟨rfl, hb2⟩
    obtain ⟨HB2, HS2, HR2⟩ := stepD HB1.out HS1.out HR1.out hb2
    have hz1 := World.block_lt_of_cell? _ _ HR2.out.1.1
    simp only [] at hz1
    have n3 : ¬ w.heap.size + 1 + 1 = w2.heap.size := by omega
    have n4 : ¬ w2.heap.size = w.heap.size + 1 + 1 := by omega
    clear hb2
    obtain ⟨⟨q0, q1, q2⟩, ⟨g0, g1, g2⟩⟩ := HR2.out
    obtain ⟨⟨r0, r1, r2⟩, ⟨f0, f1, f2⟩⟩ := HR2.out.below (below_box w2 (boxO x y z))
    go_wp2
  · exact bodyPost_ret (v := .tuple #[.agg #[.int .i64 0, .int .i64 0, .string ⟨#[]⟩], .int .i64 61]) (by simp [results, Tryd.results24, go_sem, q0, q1, q2, hz1]) rfl ⟨rfl, set3a HB2.out (w.heap.size + 1 + 1) (by omega) _ _ _ _⟩
  · exact bodyPost_ret (v := .tuple #[.agg #[.int .i64 x, .int .i64 y, .string z], .int .i64 0]) (by simp [results, Tryd.results24, go_sem, q0, q1, q2, hz1]) rfl ⟨rfl, set3a HB2.out (w.heap.size + 1 + 1) (by omega) _ _ _ _⟩
end Go.Proofs.YtpgclgfaiklpoaaDoor
