/- What each sign makes of two values: the program's makings. -/
import Derived.Test.YtpgclgfaiklpoaaDoorCmp
import Derived.IntWalk
namespace Go.Proofs.YtpgclgfaiklpoaaDoor
open Go.RowKit Go.Proofs

theorem order_any (a b : J) (ha : a.ok) (hb : b.ok) (w : World) (hE : Env w) : Calls Tryd.prog 42 #[a.v, b.v] w fun e w' => e = .returned (.int .i64 (ordJ a b)) ∧ Below w.heap.size w w' := by
  cases h : a.isText && b.isText with
  | true =>
    rcases a with _ | _ | _ | _ | s | _ <;> simp [J.isText] at h
    rcases b with _ | _ | _ | _ | t | _ <;> simp at h
    exact order_text s t w
  | false =>
    have e : ordJ a b = cmpI a.nr b.nr := by
      rcases a with _ | _ | _ | _ | s | _ <;> rcases b with _ | _ | _ | _ | t | _ <;> first | rfl | simp [J.isText] at h
    rw [e]
    exact order_num a b ha hb w hE h
/-- The three blocks that a making begins with. -/
abbrev zeroO : Obj := .cells #[.int .i64 0, .int .i64 0, .string ⟨#[]⟩] 23
abbrev boxO (k n : Int) (s : ByteArray) : Obj := .cells #[.int .i64 k, .int .i64 n, .string s] 23
theorem three_box (w : World) (o p q : Obj) : Below w.heap.size w (((w.alloc o).alloc p).alloc q) := (two_box w o p).alloc (by simp; omega) q
theorem three_lt (w : World) (o p q : Obj) : w.heap.size + 1 + 1 < (((w.alloc o).alloc p).alloc q).heap.size := by simp
theorem six_mk3 (w : World) (k n : Int) (s : ByteArray) (k' n' : Int) (s' : ByteArray) :
    Six w.heap.size k n s k' n' s' (((w.alloc (boxO k n s)).alloc (boxO k' n' s')).alloc zeroO) :=
  (six_mk w k n s k' n' s').below (below_box _ _)
/-- The result's cell, not written yet. -/
def Res (B : Nat) (W : World) : Prop :=
  (W.cell? ⟨B, 0, none⟩ = some (.int .i64 0) ∧ W.cell? ⟨B, 1, none⟩ = some (.int .i64 0) ∧ W.cell? ⟨B, 2, none⟩ = some (.string ⟨#[]⟩)) ∧
  (W.frozen? ⟨B, 0, none⟩ = false ∧ W.frozen? ⟨B, 1, none⟩ = false ∧ W.frozen? ⟨B, 2, none⟩ = false)
theorem Res.below {B : Nat} {W W' : World} (h : Res B W) (hb : Below W.heap.size W W') : Res B W' := by
  obtain ⟨⟨a0, a1, a2⟩, ⟨b0, b1, b2⟩⟩ := h
  have l0 := World.block_lt_of_cell? _ _ a0
  exact ⟨⟨(hb.cell (p := ⟨B, 0, none⟩) l0).trans a0, (hb.cell (p := ⟨B, 1, none⟩) l0).trans a1, (hb.cell (p := ⟨B, 2, none⟩) l0).trans a2⟩,
    ⟨(hb.frozen (p := ⟨B, 0, none⟩) l0).trans b0, (hb.frozen (p := ⟨B, 1, none⟩) l0).trans b1, (hb.frozen (p := ⟨B, 2, none⟩) l0).trans b2⟩⟩
theorem res_mk (w : World) (o p : Obj) : Res (w.heap.size + 1 + 1) (((w.alloc o).alloc p).alloc zeroO) := by
  have e : w.heap.size + 1 + 1 = ((w.alloc o).alloc p).heap.size := by simp
  rw [e]
  exact ⟨⟨World.cell?_alloc_new _ _ _ 0, World.cell?_alloc_new _ _ _ 1, World.cell?_alloc_new _ _ _ 2⟩, ⟨World.frozen?_alloc_new _ _ _ 0, World.frozen?_alloc_new _ _ _ 1, World.frozen?_alloc_new _ _ _ 2⟩⟩
/-- Behind a call. -/
theorem stepD {w W w1 : World} {k n : Int} {s : ByteArray} {k' n' : Int} {s' : ByteArray} (hB : Below w.heap.size w W) (hS : Six w.heap.size k n s k' n' s' W) (hR : Res (w.heap.size + 1 + 1) W) (hb : Below W.heap.size W w1) :
    Hid (Below w.heap.size w w1) ∧ Hid (Six w.heap.size k n s k' n' s' w1) ∧ Hid (Res (w.heap.size + 1 + 1) w1) :=
  ⟨Lib.hid (hB.trans (hb.mono hB.size)), Lib.hid (hS.below hb), Lib.hid (hR.below hb)⟩
set_option maxRecDepth 100000 in
set_option maxHeartbeats 4000000 in
theorem sum_num (a b : J) (ha : a.ok) (hb : b.ok) (w : World) (hE : Env w) (hno : (a.isText || b.isText) = false) : Calls Tryd.prog 38 #[a.v, b.v] w fun e w' => e = .returned (J.num (wrap64 (a.nr + b.nr))).v ∧ Below w.heap.size w w' := by
  obtain ⟨k, n, s, hv, hk⟩ := a.shape2
  obtain ⟨k', n', s', hv', hk'⟩ := b.shape2
  have HE := Lib.hid (fun (w' : World) (hb : Below w.heap.size w w') => hE.kept hb)
  have HA := Lib.hid (fun w hE => num_any a ha w hE)
  have HA' := Lib.hid (fun w hE => num_any b hb w hE)
  have HM := Lib.hid (fun w => number_any (wrap64 (a.nr + b.nr)) w)
  have HB := Lib.hid (three_box w (boxO k n s) (boxO k' n' s') zeroO).drew
  have HR := Lib.hid (res_mk w (boxO k n s) (boxO k' n' s'))
  have HS := Lib.hid (six_mk3 w k n s k' n' s')
  rw [hv] at HA ⊢
  rw [hv'] at HA' ⊢
  rw [← hk, ← hk'] at hno
  obtain ⟨e1, e2⟩ := Bool.or_eq_false_iff.1 hno
  clear hno
  simp only [J.v] at HM ⊢
  generalize a.nr = x at HA HM ⊢
  generalize b.nr = y at HA' HM ⊢
  obtain ⟨z, hw⟩ : ∃ z, IntKind.i64.wrap (x + y) = z := ⟨_, rfl⟩
  rw [← IntWalk.i64_left, hw] at HM ⊢
  clear hv hv' ha hb hE hk hk'
  have n1 : ¬ w.heap.size = w.heap.size + 1 + 1 := by omega
  have n2 : ¬ w.heap.size + 1 + 1 = w.heap.size := by omega
  go_enter Tryd.func38, Tryd.ntmps38
  go_wp2_with fail
  obtain ⟨⟨a0, a1, a2⟩, ⟨b0, b1, b2⟩⟩ := HS.out
  have HD1 := Lib.hid (HA.out _ (HE.out _ HB.out))
  go_region_held3 (fun w' => (w'.cell? ⟨w.heap.size, 0, none⟩ = some (.int .i64 k) ∧ w'.cell? ⟨w.heap.size, 1, none⟩ = some (.int .i64 n) ∧ w'.cell? ⟨w.heap.size, 2, none⟩ = some (.string s)) ∧ (w'.cell? ⟨w.heap.size + 1, 0, none⟩ = some (.int .i64 k') ∧ w'.cell? ⟨w.heap.size + 1, 1, none⟩ = some (.int .i64 n') ∧ w'.cell? ⟨w.heap.size + 1, 2, none⟩ = some (.string s')))
    (first | go_keep | exact HS3.out | exact HS2.out | exact HS1.out)
    (first
      | (go_at_call 16; refine (HD1.out).mono ?_; rintro e w1 ⟨rfl, hb1⟩; obtain ⟨HB1, HS1, HR1⟩ := stepD HB.out HS.out HR.out hb1; clear hb1 HD1; have HD2 := Lib.hid (HA'.out _ (HE.out _ HB1.out)))
      | (go_at_call 16; refine (HD2.out).mono ?_; rintro e w2 ⟨rfl, hb2⟩; obtain ⟨HB2, HS2, HR2⟩ := stepD HB1.out HS1.out HR1.out hb2; clear hb2 HD2)
      | (go_at_call 32; refine (HM.out _).mono ?_; rintro e w3 ⟨rfl, hb3⟩; obtain ⟨HB3, HS3, HR3⟩ := stepD HB2.out HS2.out HR2.out hb3; clear hb3; obtain ⟨⟨x0, x1, x2⟩, ⟨y0, y1, y2⟩⟩ := HS3.out; obtain ⟨⟨r0, r1, r2⟩, ⟨f0, f1, f2⟩⟩ := HR3.out))
  go_wp2
  exact bodyPost_ret (v := .agg #[.int .i64 3, .int .i64 z, .string ⟨#[]⟩]) (by simp [results, Tryd.results38, go_sem, r0, r1, r2]) rfl ⟨rfl, set3 HB3.out _ (by omega) _ _ _⟩
set_option maxRecDepth 100000 in
set_option maxHeartbeats 4000000 in
theorem sub_any (a b : J) (ha : a.ok) (hb : b.ok) (w : World) (hE : Env w) : Calls Tryd.prog 39 #[a.v, b.v] w fun e w' => e = .returned (J.num (wrap64 (a.nr - b.nr))).v ∧ Below w.heap.size w w' := by
  obtain ⟨k, n, s, hv, hk⟩ := a.shape2
  obtain ⟨k', n', s', hv', hk'⟩ := b.shape2
  have HE := Lib.hid (fun (w' : World) (hb : Below w.heap.size w w') => hE.kept hb)
  have HA := Lib.hid (fun w hE => num_any a ha w hE)
  have HA' := Lib.hid (fun w hE => num_any b hb w hE)
  have HM := Lib.hid (fun w => number_any (wrap64 (a.nr - b.nr)) w)
  have HB := Lib.hid (three_box w (boxO k n s) (boxO k' n' s') zeroO).drew
  have HR := Lib.hid (res_mk w (boxO k n s) (boxO k' n' s'))
  have HS := Lib.hid (six_mk3 w k n s k' n' s')
  rw [hv] at HA ⊢
  rw [hv'] at HA' ⊢
  simp only [J.v] at HM ⊢
  generalize a.nr = x at HA HM ⊢
  generalize b.nr = y at HA' HM ⊢
  obtain ⟨z, hw⟩ : ∃ z, IntKind.i64.wrap (x - y) = z := ⟨_, rfl⟩
  rw [← IntWalk.i64_left, hw] at HM ⊢
  clear hv hv' ha hb hE hk hk'
  have n1 : ¬ w.heap.size = w.heap.size + 1 + 1 := by omega
  have n2 : ¬ w.heap.size + 1 + 1 = w.heap.size := by omega
  go_enter Tryd.func39, Tryd.ntmps39
  go_wp2_with fail
  obtain ⟨⟨a0, a1, a2⟩, ⟨b0, b1, b2⟩⟩ := HS.out
  have HD1 := Lib.hid (HA.out _ (HE.out _ HB.out))
  go_region_held3 (fun w' => (w'.cell? ⟨w.heap.size, 0, none⟩ = some (.int .i64 k) ∧ w'.cell? ⟨w.heap.size, 1, none⟩ = some (.int .i64 n) ∧ w'.cell? ⟨w.heap.size, 2, none⟩ = some (.string s)) ∧ (w'.cell? ⟨w.heap.size + 1, 0, none⟩ = some (.int .i64 k') ∧ w'.cell? ⟨w.heap.size + 1, 1, none⟩ = some (.int .i64 n') ∧ w'.cell? ⟨w.heap.size + 1, 2, none⟩ = some (.string s')))
    (first | go_keep | exact HS3.out | exact HS2.out | exact HS1.out)
    (first
      | (go_at_call 16; refine (HD1.out).mono ?_; rintro e w1 ⟨rfl, hb1⟩; obtain ⟨HB1, HS1, HR1⟩ := stepD HB.out HS.out HR.out hb1; clear hb1 HD1; have HD2 := Lib.hid (HA'.out _ (HE.out _ HB1.out)))
      | (go_at_call 16; refine (HD2.out).mono ?_; rintro e w2 ⟨rfl, hb2⟩; obtain ⟨HB2, HS2, HR2⟩ := stepD HB1.out HS1.out HR1.out hb2; clear hb2 HD2)
      | (go_at_call 32; refine (HM.out _).mono ?_; rintro e w3 ⟨rfl, hb3⟩; obtain ⟨HB3, HS3, HR3⟩ := stepD HB2.out HS2.out HR2.out hb3; clear hb3; obtain ⟨⟨x0, x1, x2⟩, ⟨y0, y1, y2⟩⟩ := HS3.out; obtain ⟨⟨r0, r1, r2⟩, ⟨f0, f1, f2⟩⟩ := HR3.out))
  go_wp2
  exact bodyPost_ret (v := .agg #[.int .i64 3, .int .i64 z, .string ⟨#[]⟩]) (by simp [results, Tryd.results39, go_sem, r0, r1, r2]) rfl ⟨rfl, set3 HB3.out _ (by omega) _ _ _⟩
set_option maxRecDepth 100000 in
set_option maxHeartbeats 4000000 in
theorem mul_any (a b : J) (ha : a.ok) (hb : b.ok) (w : World) (hE : Env w) : Calls Tryd.prog 40 #[a.v, b.v] w fun e w' => e = .returned (J.num (wrap64 (a.nr * b.nr))).v ∧ Below w.heap.size w w' := by
  obtain ⟨k, n, s, hv, hk⟩ := a.shape2
  obtain ⟨k', n', s', hv', hk'⟩ := b.shape2
  have HE := Lib.hid (fun (w' : World) (hb : Below w.heap.size w w') => hE.kept hb)
  have HA := Lib.hid (fun w hE => num_any a ha w hE)
  have HA' := Lib.hid (fun w hE => num_any b hb w hE)
  have HM := Lib.hid (fun w => number_any (wrap64 (a.nr * b.nr)) w)
  have HB := Lib.hid (three_box w (boxO k n s) (boxO k' n' s') zeroO).drew
  have HR := Lib.hid (res_mk w (boxO k n s) (boxO k' n' s'))
  have HS := Lib.hid (six_mk3 w k n s k' n' s')
  rw [hv] at HA ⊢
  rw [hv'] at HA' ⊢
  simp only [J.v] at HM ⊢
  generalize a.nr = x at HA HM ⊢
  generalize b.nr = y at HA' HM ⊢
  obtain ⟨z, hw⟩ : ∃ z, IntKind.i64.wrap (x * y) = z := ⟨_, rfl⟩
  rw [← IntWalk.i64_left, hw] at HM ⊢
  clear hv hv' ha hb hE hk hk'
  have n1 : ¬ w.heap.size = w.heap.size + 1 + 1 := by omega
  have n2 : ¬ w.heap.size + 1 + 1 = w.heap.size := by omega
  go_enter Tryd.func40, Tryd.ntmps40
  go_wp2_with fail
  obtain ⟨⟨a0, a1, a2⟩, ⟨b0, b1, b2⟩⟩ := HS.out
  have HD1 := Lib.hid (HA.out _ (HE.out _ HB.out))
  go_region_held3 (fun w' => (w'.cell? ⟨w.heap.size, 0, none⟩ = some (.int .i64 k) ∧ w'.cell? ⟨w.heap.size, 1, none⟩ = some (.int .i64 n) ∧ w'.cell? ⟨w.heap.size, 2, none⟩ = some (.string s)) ∧ (w'.cell? ⟨w.heap.size + 1, 0, none⟩ = some (.int .i64 k') ∧ w'.cell? ⟨w.heap.size + 1, 1, none⟩ = some (.int .i64 n') ∧ w'.cell? ⟨w.heap.size + 1, 2, none⟩ = some (.string s')))
    (first | go_keep | exact HS3.out | exact HS2.out | exact HS1.out)
    (first
      | (go_at_call 16; refine (HD1.out).mono ?_; rintro e w1 ⟨rfl, hb1⟩; obtain ⟨HB1, HS1, HR1⟩ := stepD HB.out HS.out HR.out hb1; clear hb1 HD1; have HD2 := Lib.hid (HA'.out _ (HE.out _ HB1.out)))
      | (go_at_call 16; refine (HD2.out).mono ?_; rintro e w2 ⟨rfl, hb2⟩; obtain ⟨HB2, HS2, HR2⟩ := stepD HB1.out HS1.out HR1.out hb2; clear hb2 HD2)
      | (go_at_call 32; refine (HM.out _).mono ?_; rintro e w3 ⟨rfl, hb3⟩; obtain ⟨HB3, HS3, HR3⟩ := stepD HB2.out HS2.out HR2.out hb3; clear hb3; obtain ⟨⟨x0, x1, x2⟩, ⟨y0, y1, y2⟩⟩ := HS3.out; obtain ⟨⟨r0, r1, r2⟩, ⟨f0, f1, f2⟩⟩ := HR3.out))
  go_wp2
  exact bodyPost_ret (v := .agg #[.int .i64 3, .int .i64 z, .string ⟨#[]⟩]) (by simp [results, Tryd.results40, go_sem, r0, r1, r2]) rfl ⟨rfl, set3 HB3.out _ (by omega) _ _ _⟩
end Go.Proofs.YtpgclgfaiklpoaaDoor
