/- code.Same: instructions, procs, codes. -/
import Derived.Test.YtconnhphkbgbkaaGreatDoorCdEqInts
namespace Go.Proofs.YtconnhphkbgbkaaGreatDoor
open Go.RowKit Go.Proofs

theorem ins_ext {x y : Ins} : x = y ↔ x.op = y.op ∧ x.d = y.d ∧ x.a = y.a ∧ x.b = y.b ∧ x.c = y.c ∧ x.s = y.s ∧ x.n = y.n ∧ x.l = y.l := by
  constructor
  · rintro rfl
    exact ⟨rfl, rfl, rfl, rfl, rfl, rfl, rfl, rfl⟩
  · rintro ⟨h1, h2, h3, h4, h5, h6, h7, h8⟩
    cases x
    cases y
    simp_all
theorem str_eq {s t : ByteArray} : (s.toList == t.toList) = decide (s = t) := by
  by_cases h : s = t
  · subst h
    simp
  · rw [decide_eq_false h, beq_eq_false_iff_ne]
    intro e
    apply h
    rw [Lib.toList_data, Lib.toList_data] at e
    rw [← bs_of s, ← bs_of t, e]

set_option maxRecDepth 100000 in
set_option maxHeartbeats 4000000 in
theorem sameIns_any (vx vy : Value) (x y : Ins) (w : World) (hx : InsAt w vx x) (hy : InsAt w vy y) :
    Calls Tryz.prog 51 #[vx, vy] w fun e w' => e = .returned (.bool (decide (x = y))) ∧ Below w.heap.size w w' := by
  obtain ⟨u, rfl, hu, -⟩ := hx
  obtain ⟨v, rfl, hv, -⟩ := hy
  unfold insV
  have hb2 : Below w.heap.size w ((w.alloc (.cells #[.int .i64 x.op, .int .i64 x.d, .int .i64 x.a, .int .i64 x.b, .int .i64 x.c, .string x.s, .int .i64 x.n, u] 33)).alloc (.cells #[.int .i64 y.op, .int .i64 y.d, .int .i64 y.a, .int .i64 y.b, .int .i64 y.c, .string y.s, .int .i64 y.n, v] 33)) :=
    ((Below.refl _ w).alloc (Nat.le_refl _) _).alloc (by simp) _
  have HE := Lib.hid (eqInts_any u v x.l y.l _ (hu.below IntP.keeps hb2) (hv.below IntP.keeps hb2))
  have HB := Lib.hid hb2
  clear hu hv hb2
  by_cases h : x.op = y.op
  case neg =>
    have e : (x.op == y.op) = false := by simpa using h
    have HF := Lib.hid (show decide (x = y) = false from decide_eq_false fun h2 => h (by rw [h2]))
    clear h HE
    go_enter Tryz.func51, Tryz.ntmps51
    go_wp2
    go_ret
    exact ⟨by rw [HF.out]; rfl, HB.out⟩
  have e_op : (x.op == y.op) = true := by simpa using h
  have H_op := Lib.hid h
  clear h
  by_cases h : x.d = y.d
  case neg =>
    have e : (x.d == y.d) = false := by simpa using h
    have HF := Lib.hid (show decide (x = y) = false from decide_eq_false fun h2 => h (by rw [h2]))
    clear h HE
    go_enter Tryz.func51, Tryz.ntmps51
    go_wp2
    go_ret
    exact ⟨by rw [HF.out]; rfl, HB.out⟩
  have e_d : (x.d == y.d) = true := by simpa using h
  have H_d := Lib.hid h
  clear h
  by_cases h : x.a = y.a
  case neg =>
    have e : (x.a == y.a) = false := by simpa using h
    have HF := Lib.hid (show decide (x = y) = false from decide_eq_false fun h2 => h (by rw [h2]))
    clear h HE
    go_enter Tryz.func51, Tryz.ntmps51
    go_wp2
    go_ret
    exact ⟨by rw [HF.out]; rfl, HB.out⟩
  have e_a : (x.a == y.a) = true := by simpa using h
  have H_a := Lib.hid h
  clear h
  by_cases h : x.b = y.b
  case neg =>
    have e : (x.b == y.b) = false := by simpa using h
    have HF := Lib.hid (show decide (x = y) = false from decide_eq_false fun h2 => h (by rw [h2]))
    clear h HE
    go_enter Tryz.func51, Tryz.ntmps51
    go_wp2
    go_ret
    exact ⟨by rw [HF.out]; rfl, HB.out⟩
  have e_b : (x.b == y.b) = true := by simpa using h
  have H_b := Lib.hid h
  clear h
  by_cases h : x.c = y.c
  case neg =>
    have e : (x.c == y.c) = false := by simpa using h
    have HF := Lib.hid (show decide (x = y) = false from decide_eq_false fun h2 => h (by rw [h2]))
    clear h HE
    go_enter Tryz.func51, Tryz.ntmps51
    go_wp2
    go_ret
    exact ⟨by rw [HF.out]; rfl, HB.out⟩
  have e_c : (x.c == y.c) = true := by simpa using h
  have H_c := Lib.hid h
  clear h
  by_cases h : x.s = y.s
  case neg =>
    have e : (x.s.toList == y.s.toList) = false := by rw [str_eq]; exact decide_eq_false h
    have HF := Lib.hid (show decide (x = y) = false from decide_eq_false fun h2 => h (by rw [h2]))
    clear h HE
    go_enter Tryz.func51, Tryz.ntmps51
    go_wp2
    go_ret
    exact ⟨by rw [HF.out]; rfl, HB.out⟩
  have e_s : (x.s.toList == y.s.toList) = true := by rw [str_eq]; exact decide_eq_true h
  have H_s := Lib.hid h
  clear h
  by_cases h : x.n = y.n
  case neg =>
    have e : (x.n == y.n) = false := by simpa using h
    have HF := Lib.hid (show decide (x = y) = false from decide_eq_false fun h2 => h (by rw [h2]))
    clear h HE
    go_enter Tryz.func51, Tryz.ntmps51
    go_wp2
    go_ret
    exact ⟨by rw [HF.out]; rfl, HB.out⟩
  have e_n : (x.n == y.n) = true := by simpa using h
  have H_n := Lib.hid h
  clear h
  have HF := Lib.hid (show decide (x.l = y.l) = decide (x = y) by
    rw [decide_eq_decide, ins_ext]
    exact ⟨fun h => ⟨H_op.out, H_d.out, H_a.out, H_b.out, H_c.out, H_s.out, H_n.out, h⟩, fun h => h.2.2.2.2.2.2.2⟩)
  go_enter Tryz.func51, Tryz.ntmps51
  go_wp2_with (go_at_call 67; refine HE.out.mono ?_; rintro e w1 ⟨rfl, hb1⟩)
  go_ret
  exact ⟨by rw [← HF.out]; rfl, HB.out.trans (hb1.mono HB.out.size)⟩
end Go.Proofs.YtconnhphkbgbkaaGreatDoor
