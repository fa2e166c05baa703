/- Neg, Not. -/
import Derived.Test.YtpgclgfaiklpoaaDoorAlone2
namespace Go.Proofs.YtpgclgfaiklpoaaDoor
open Go.RowKit Go.Proofs

theorem J.shape (j : J) : ∃ k n s, j.v = .agg #[.int .i64 k, .int .i64 n, .string s] := by
  rcases j with _ | _ | (_ | _) | n | s | n
  all_goals exact ⟨_, _, _, rfl⟩

theorem set3 {w W : World} {B : Nat} (h : Below B w W) (b : Nat) (hb : B ≤ b) (x y z : Value) : Below B w (((W.setCell ⟨b, 0, none⟩ x).setCell ⟨b, 1, none⟩ y).setCell ⟨b, 2, none⟩ z) :=
  ((h.setCell hb _).setCell hb _).setCell hb _
theorem two_box (w : World) (o p : Obj) : Below w.heap.size w ((w.alloc o).alloc p) := (below_box w o).alloc (by simp) p
theorem two_lt (w : World) (o p : Obj) : w.heap.size + 1 < ((w.alloc o).alloc p).heap.size := by simp
/-- Behind a call: what the box and the result's cell are. -/
theorem stepC {w W w1 : World} (hB : Below w.heap.size w W) (hz : w.heap.size + 1 < W.heap.size) (hb : Below W.heap.size W w1) :
    (∀ b o, b < W.heap.size → w1.cell? ⟨b, o, none⟩ = W.cell? ⟨b, o, none⟩) ∧ (∀ b o, b < W.heap.size → w1.frozen? ⟨b, o, none⟩ = W.frozen? ⟨b, o, none⟩) ∧ Hid (Below w.heap.size w w1) ∧ w.heap.size + 1 < w1.heap.size :=
  ⟨(bcell hb).1, (bcell hb).2, Lib.hid (hB.trans (hb.mono hB.size)), by have := hb.size; omega⟩

set_option maxRecDepth 100000 in
set_option maxHeartbeats 2000000 in
theorem neg_any (j : J) (hj : j.ok) (w : World) (hE : Env w) : Calls Tryd.prog 20 #[j.v] w fun e w' => e = .returned (J.num (wrap64 (-j.nr))).v ∧ Below w.heap.size w w' := by
  obtain ⟨k, n, s, hv⟩ := j.shape
  have HN := Lib.hid (fun w hE => num_any j hj w hE)
  have HE := Lib.hid (fun (w' : World) (hb : Below w.heap.size w w') => hE.kept hb)
  have HM := Lib.hid (fun w => number_any (wrap64 (-j.nr)) w)
  have HB := Lib.hid (fun (o p : Obj) => two_box w o p)
  have HZ := Lib.hid (fun (o p : Obj) => two_lt w o p)
  rw [hv] at HN ⊢
  simp only [J.v] at HM ⊢
  generalize j.nr = m at HN HM ⊢
  clear hE hj hv
  go_enter Tryd.func20, Tryd.ntmps20
  go_wp2_with fail
  go_at_call 16
  refine (HN.out _ (HE.out _ (HB.out _ _))).mono ?_
  rintro e w1 ⟨rfl, hb⟩
  obtain ⟨hc, hf, hB1, hz⟩ := stepC (HB.out _ _) (HZ.out _ _) hb
  clear hb
  go_wp2_with fail
  go_at_call 32
  refine (HM.out _).mono ?_
  rintro e w2 ⟨rfl, hb⟩
  obtain ⟨hc2, hf2, hB2, hz2⟩ := stepC hB1.out hz hb
  clear hb
  go_wp2
  exact bodyPost_ret (v := .agg #[.int .i64 3, .int .i64 (wrap64 (-m)), .string ⟨#[]⟩]) (by simp [results, Tryd.results20, go_sem, hc, hc2, hz]) rfl ⟨rfl, set3 hB2.out _ (by omega) _ _ _⟩
set_option maxRecDepth 100000 in
set_option maxHeartbeats 2000000 in
theorem rneg_any (j : J) (hj : j.ok) (w : World) : Calls Tryd.prog 21 #[j.v] w fun e w' => e = .returned (J.num (wrap64 (-j.nr))).v ∧ Below w.heap.size w w' := by
  obtain ⟨k, n, s, hv⟩ := j.shape
  have HN := Lib.hid (fun w => rnum_any j hj w)
  have HB := Lib.hid (fun (o p : Obj) => two_box w o p)
  have HZ := Lib.hid (fun (o p : Obj) => two_lt w o p)
  rw [hv] at HN ⊢
  simp only [J.v] at ⊢
  generalize j.nr = m at HN ⊢
  clear hj hv
  go_enter Tryd.func21, Tryd.ntmps21
  go_wp2_with fail
  go_at_call 17
  refine (HN.out _).mono ?_
  rintro e w1 ⟨rfl, hb⟩
  obtain ⟨hc, hf, hB1, hz⟩ := stepC (HB.out _ _) (HZ.out _ _) hb
  clear hb
  go_wp2
  exact bodyPost_ret (v := .agg #[.int .i64 3, .int .i64 (wrap64 (-m)), .string ⟨#[]⟩]) (by simp [results, Tryd.results21, go_sem, hc]) rfl ⟨rfl, set3 hB1.out _ (by omega) _ _ _⟩
set_option maxRecDepth 100000 in
set_option maxHeartbeats 2000000 in
theorem not_any (j : J) (w : World) : Calls Tryd.prog 22 #[j.v] w fun e w' => e = .returned (J.bool (!j.truthy)).v ∧ Below w.heap.size w w' := by
  obtain ⟨k, n, s, hv⟩ := j.shape
  have HN := Lib.hid (fun w => truthy_any j w)
  have HM := Lib.hid (fun w => truth_any (!j.truthy) w)
  have HB := Lib.hid (fun (o p : Obj) => two_box w o p)
  have HZ := Lib.hid (fun (o p : Obj) => two_lt w o p)
  rw [hv] at HN ⊢
  generalize j.truthy = m at HN HM ⊢
  clear hv
  cases m
  all_goals
    simp only [J.v, Bool.not_true, Bool.not_false] at HM ⊢
    go_enter Tryd.func22, Tryd.ntmps22
    go_wp2_with fail
    go_at_call 18
    refine (HN.out _).mono ?_
    rintro e w1 ⟨rfl, hb⟩
    obtain ⟨hc, hf, hB1, hz⟩ := stepC (HB.out _ _) (HZ.out _ _) hb
    clear hb
    go_wp2_with fail
    go_at_call 28
    refine (HM.out _).mono ?_
    rintro e w2 ⟨rfl, hb⟩
    obtain ⟨hc2, hf2, hB2, hz2⟩ := stepC hB1.out hz hb
    clear hb
    go_wp2
  · exact bodyPost_ret (v := .agg #[.int .i64 2, .int .i64 1, .string ⟨#[]⟩]) (by simp [results, Tryd.results22, go_sem, hc, hc2, hz]) rfl ⟨rfl, set3 hB2.out _ (by omega) _ _ _⟩
  · exact bodyPost_ret (v := .agg #[.int .i64 2, .int .i64 0, .string ⟨#[]⟩]) (by simp [results, Tryd.results22, go_sem, hc, hc2, hz]) rfl ⟨rfl, set3 hB2.out _ (by omega) _ _ _⟩
set_option maxRecDepth 100000 in
set_option maxHeartbeats 2000000 in
theorem rnot_any (j : J) (w : World) : Calls Tryd.prog 23 #[j.v] w fun e w' => e = .returned (J.bool (!j.truthy)).v ∧ Below w.heap.size w w' := by
  obtain ⟨k, n, s, hv⟩ := j.shape
  have HN := Lib.hid (fun w => rtruthy_any j w)
  have HM := Lib.hid (fun w => rbool_any (!j.truthy) w)
  have HB := Lib.hid (fun (o p : Obj) => two_box w o p)
  have HZ := Lib.hid (fun (o p : Obj) => two_lt w o p)
  rw [hv] at HN ⊢
  generalize j.truthy = m at HN HM ⊢
  clear hv
  cases m
  all_goals
    simp only [J.v, Bool.not_true, Bool.not_false] at HM ⊢
    go_enter Tryd.func23, Tryd.ntmps23
    go_wp2_with fail
    go_at_call 19
    refine (HN.out _).mono ?_
    rintro e w1 ⟨rfl, hb⟩
    obtain ⟨hc, hf, hB1, hz⟩ := stepC (HB.out _ _) (HZ.out _ _) hb
    clear hb
    go_wp2_with fail
    go_at_call 34
    refine (HM.out _).mono ?_
    rintro e w2 ⟨rfl, hb⟩
    obtain ⟨hc2, hf2, hB2, hz2⟩ := stepC hB1.out hz hb
    clear hb
    go_wp2
  · exact bodyPost_ret (v := .agg #[.int .i64 2, .int .i64 1, .string ⟨#[]⟩]) (by simp [results, Tryd.results23, go_sem, hc, hc2, hz]) rfl ⟨rfl, set3 hB2.out _ (by omega) _ _ _⟩
  · exact bodyPost_ret (v := .agg #[.int .i64 2, .int .i64 0, .string ⟨#[]⟩]) (by simp [results, Tryd.results23, go_sem, hc, hc2, hz]) rfl ⟨rfl, set3 hB2.out _ (by omega) _ _ _⟩
end Go.Proofs.YtpgclgfaiklpoaaDoor
