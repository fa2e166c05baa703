/- gumshoeref09.Same: the document's own answer. -/
import Derived.Test.YtconnhphkbgbkaaDoorCdSame2
import Derived.Test.YtconnhphkbgbkaaDoorCdDem
import Derived.StillTailTactics
import Derived.Deep.RegionHeld3
namespace Go.Proofs.YtconnhphkbgbkaaDoor
open Go.RowKit Go.Proofs

theorem cells8_of {W : World} {B : Nat} {x : Ins} {u : Value} {T : TypeId} (h : W.heap[B]? = some (.cells #[.int .i64 x.op, .int .i64 x.d, .int .i64 x.a, .int .i64 x.b, .int .i64 x.c, .string x.s, .int .i64 x.n, u] T (0, 0))) : Cells8 W B x u :=
  ⟨cell_of_row W B 0 _ _ _ h, cell_of_row W B 1 _ _ _ h, cell_of_row W B 2 _ _ _ h, cell_of_row W B 3 _ _ _ h, cell_of_row W B 4 _ _ _ h, cell_of_row W B 5 _ _ _ h, cell_of_row W B 6 _ _ _ h, cell_of_row W B 7 _ _ _ h, fun j => frozen_of_row W B j _ _ h⟩
set_option maxRecDepth 100000 in
set_option maxHeartbeats 4000000 in
theorem rsameIns_any (vx vy : Value) (x y : Ins) (w : World) (hx : InsAt w vx x) (hy : InsAt w vy y) :
    Calls Tryd.prog 26 #[vx, vy] w fun e w' => e = .returned (.bool (decide (x = y))) ∧ Below w.heap.size w w' := by
  obtain ⟨u, rfl, hu, -⟩ := hx
  obtain ⟨v, rfl, hv, -⟩ := hy
  obtain ⟨A, ca, rfl⟩ := SlAt.form hu
  obtain ⟨B, cb, rfl⟩ := SlAt.form hv
  obtain ⟨-, hca, hcm, -⟩ := SlAt.get hu
  obtain ⟨-, hcb, hcm', -⟩ := SlAt.get hv
  have hm1 : ca ≤ 9223372036854775807 := hcm
  have hm2 : cb ≤ 9223372036854775807 := hcm'
  unfold insV
  have hb2 := two_box w (.cells #[.int .i64 x.op, .int .i64 x.d, .int .i64 x.a, .int .i64 x.b, .int .i64 x.c, .string x.s, .int .i64 x.n, .slice A x.l.length ca] 37) (.cells #[.int .i64 y.op, .int .i64 y.d, .int .i64 y.a, .int .i64 y.b, .int .i64 y.c, .string y.s, .int .i64 y.n, .slice B y.l.length cb] 37)
  have hx1 := ((below_box (w.alloc (.cells #[.int .i64 x.op, .int .i64 x.d, .int .i64 x.a, .int .i64 x.b, .int .i64 x.c, .string x.s, .int .i64 x.n, .slice A x.l.length ca] 37)) (.cells #[.int .i64 y.op, .int .i64 y.d, .int .i64 y.a, .int .i64 y.b, .int .i64 y.c, .string y.s, .int .i64 y.n, .slice B y.l.length cb] 37)).block w.heap.size (by simp)).trans (heap_alloc_new w (.cells #[.int .i64 x.op, .int .i64 x.d, .int .i64 x.a, .int .i64 x.b, .int .i64 x.c, .string x.s, .int .i64 x.n, .slice A x.l.length ca] 37))
  have hy1 := heap_alloc_new (w.alloc (.cells #[.int .i64 x.op, .int .i64 x.d, .int .i64 x.a, .int .i64 x.b, .int .i64 x.c, .string x.s, .int .i64 x.n, .slice A x.l.length ca] 37)) (.cells #[.int .i64 y.op, .int .i64 y.d, .int .i64 y.a, .int .i64 y.b, .int .i64 y.c, .string y.s, .int .i64 y.n, .slice B y.l.length cb] 37)
  rw [World.size_alloc] at hy1
  have HB := Lib.hid (And.intro hb2 (And.intro hx1 hy1))
  have HU := Lib.hid (And.intro hu hv)
  clear hu hv hcm hcm' hb2 hx1 hy1
  by_cases hl : x.l.length = y.l.length
  case neg =>
    have hq : ((x.l.length : Int) != y.l.length) = true := by simp; omega
    have HF := Lib.hid (show decide (x = y) = false from decide_eq_false fun h => hl (by rw [h]))
    clear hl
    go_enter Tryd.func26, Tryd.ntmps26
    go_wp2
    go_ret
    exact ⟨by rw [HF.out]; rfl, HB.out.1⟩
  have hq : ((x.l.length : Int) != y.l.length) = false := by simp [hl]
  have HL := Lib.hid hl
  clear hl
  go_enter Tryd.func26, Tryd.ntmps26
  go_wp2
  go_loopw [5] (fun i wr => ∃ k : Nat, k ≤ x.l.length ∧ i = .int .i64 k ∧ (∀ j, j < k → x.l[j]? = y.l[j]?) ∧ Below ((w.alloc (.cells #[.int .i64 x.op, .int .i64 x.d, .int .i64 x.a, .int .i64 x.b, .int .i64 x.c, .string x.s, .int .i64 x.n, .slice A x.l.length ca] 37)).alloc (.cells #[.int .i64 y.op, .int .i64 y.d, .int .i64 y.a, .int .i64 y.b, .int .i64 y.c, .string y.s, .int .i64 y.n, .slice B y.l.length cb] 37)).heap.size ((w.alloc (.cells #[.int .i64 x.op, .int .i64 x.d, .int .i64 x.a, .int .i64 x.b, .int .i64 x.c, .string x.s, .int .i64 x.n, .slice A x.l.length ca] 37)).alloc (.cells #[.int .i64 y.op, .int .i64 y.d, .int .i64 y.a, .int .i64 y.b, .int .i64 y.c, .string y.s, .int .i64 y.n, .slice B y.l.length cb] 37)) wr) (fun i _ => x.l.length - (intOf i).toNat)
  case atStart => exact ⟨0, Nat.zero_le _, rfl, fun j hj => absurd hj (by omega), Below.refl _ _⟩
  case round =>
    obtain ⟨k, hk, rfl, hall, hB⟩ := hrel
    have HO := Lib.hid (And.intro hall (And.intro hB (HB.out.1.trans (hB.mono HB.out.1.size))))
    obtain ⟨a0, a1, a2, a3, a4, a5, a6, a7, -⟩ := cells8_of ((hB.block _ (heap_lt HB.out.2.1)).trans HB.out.2.1)
    obtain ⟨b0, b1, b2, b3, b4, b5, b6, b7, -⟩ := cells8_of ((hB.block _ (heap_lt HB.out.2.2)).trans HB.out.2.2)
    clear hall hB
    by_cases hlt : k < x.l.length
    · obtain ⟨g, off, z, rfl, hg, hz, -, hc⟩ := int_get HU.out.1 k hlt
      obtain ⟨g', off', z', rfl, hg', hz', -, hc'⟩ := int_get HU.out.2 k (by rw [← HL.out]; exact hlt)
      rw [← HO.out.2.2.cell (p := ⟨g, off + k, none⟩) hg] at hc
      rw [← HO.out.2.2.cell (p := ⟨g', off' + k, none⟩) hg'] at hc'
      have g1 : (k : Int) < x.l.length := by omega
      have g2 : (k : Int) < y.l.length := by have := HL.out; omega
      have HX := Lib.hid (And.intro hz hz')
      clear hz hz'
      by_cases hxy : z = z'
      · subst hxy
        have hne : (z != z) = false := by simp
        have HN := Lib.hid (next_all HO.out.1 (HX.out.1.trans HX.out.2.symm))
        go_wp2_with fail
        go_quiet (fail)
        go_wp2
        go_roundw
        case rel => exact ⟨k + 1, by omega, by go_num, HN.out, HO.out.2.1.trans ((below_drewN9 wr _).mono HO.out.2.1.size)⟩
        case measure => simp [intOf]; omega
      · have hne : (z != z') = true := by simpa using hxy
        have HF := Lib.hid (show decide (x = y) = false from decide_eq_false fun h => hxy (by
          rw [h] at HX
          exact Option.some.inj (HX.out.1.symm.trans HX.out.2)))
        clear hxy
        go_wp2_with fail
        go_quiet (fail)
        go_wp2
        go_ret
        exact ⟨by rw [HF.out]; rfl, HO.out.2.2.trans ((below_drewN9 wr _).mono HO.out.2.2.size)⟩
    · have g1 : ¬ (k : Int) < x.l.length := by omega
      have HLL := Lib.hid (list_next HL.out HO.out.1 (by omega))
      by_cases h : x.op = y.op
      case neg =>
        have e : (x.op == y.op) = false := by simpa using h
        have HF := Lib.hid (show decide (x = y) = false from decide_eq_false fun h2 => h (by rw [h2]))
        clear h
        go_wp2
        go_ret
        exact ⟨by rw [HF.out]; rfl, HO.out.2.2⟩
      have e_op : (x.op == y.op) = true := by simpa using h
      have H_op := Lib.hid h
      clear h
      by_cases h : x.d = y.d
      case neg =>
        have e : (x.d == y.d) = false := by simpa using h
        have HF := Lib.hid (show decide (x = y) = false from decide_eq_false fun h2 => h (by rw [h2]))
        clear h
        go_wp2
        go_ret
        exact ⟨by rw [HF.out]; rfl, HO.out.2.2⟩
      have e_d : (x.d == y.d) = true := by simpa using h
      have H_d := Lib.hid h
      clear h
      by_cases h : x.a = y.a
      case neg =>
        have e : (x.a == y.a) = false := by simpa using h
        have HF := Lib.hid (show decide (x = y) = false from decide_eq_false fun h2 => h (by rw [h2]))
        clear h
        go_wp2
        go_ret
        exact ⟨by rw [HF.out]; rfl, HO.out.2.2⟩
      have e_a : (x.a == y.a) = true := by simpa using h
      have H_a := Lib.hid h
      clear h
      by_cases h : x.b = y.b
      case neg =>
        have e : (x.b == y.b) = false := by simpa using h
        have HF := Lib.hid (show decide (x = y) = false from decide_eq_false fun h2 => h (by rw [h2]))
        clear h
        go_wp2
        go_ret
        exact ⟨by rw [HF.out]; rfl, HO.out.2.2⟩
      have e_b : (x.b == y.b) = true := by simpa using h
      have H_b := Lib.hid h
      clear h
      by_cases h : x.c = y.c
      case neg =>
        have e : (x.c == y.c) = false := by simpa using h
        have HF := Lib.hid (show decide (x = y) = false from decide_eq_false fun h2 => h (by rw [h2]))
        clear h
        go_wp2
        go_ret
        exact ⟨by rw [HF.out]; rfl, HO.out.2.2⟩
      have e_c : (x.c == y.c) = true := by simpa using h
      have H_c := Lib.hid h
      clear h
      by_cases h : x.s = y.s
      case neg =>
        have e : (x.s.toList == y.s.toList) = false := by rw [str_eq]; exact decide_eq_false h
        have HF := Lib.hid (show decide (x = y) = false from decide_eq_false fun h2 => h (by rw [h2]))
        clear h
        go_wp2
        go_ret
        exact ⟨by rw [HF.out]; rfl, HO.out.2.2⟩
      have e_s : (x.s.toList == y.s.toList) = true := by rw [str_eq]; exact decide_eq_true h
      have H_s := Lib.hid h
      clear h
      by_cases h : x.n = y.n
      case neg =>
        have e : (x.n == y.n) = false := by simpa using h
        have HF := Lib.hid (show decide (x = y) = false from decide_eq_false fun h2 => h (by rw [h2]))
        clear h
        go_wp2
        go_ret
        exact ⟨by rw [HF.out]; rfl, HO.out.2.2⟩
      have e_n : (x.n == y.n) = true := by simpa using h
      have H_n := Lib.hid h
      clear h
      have HF := Lib.hid (show decide (x = y) = true by
        rw [decide_eq_true_iff, ins_ext]
        exact ⟨H_op.out, H_d.out, H_a.out, H_b.out, H_c.out, H_s.out, H_n.out, HLL.out⟩)
      go_wp2
      go_ret
      exact ⟨by rw [HF.out]; rfl, HO.out.2.2⟩

set_option maxRecDepth 100000 in
set_option maxHeartbeats 4000000 in
theorem rsame_any (va vb : Value) (a b : List Proc) (w : World) (ha : CodeAt w va a) (hb : CodeAt w vb b) :
    Calls Tryd.prog 14 #[va, vb] w fun e w' => e = .returned (.bool (decide (a = b))) ∧ Below w.heap.size w w' := by
  have HS := Lib.hid (fun vx vy x y w => rsameIns_any vx vy x y w)
  obtain ⟨A, ca, rfl⟩ := SlAt.form ha
  obtain ⟨B, cb, rfl⟩ := SlAt.form hb
  obtain ⟨-, hca, hcm, -⟩ := SlAt.get ha
  obtain ⟨-, hcb, hcm', -⟩ := SlAt.get hb
  have hm1 : ca ≤ 9223372036854775807 := hcm
  have hm2 : cb ≤ 9223372036854775807 := hcm'
  have HA := Lib.hid ha
  have HB := Lib.hid hb
  clear ha hb hcm hcm'
  by_cases hl : a.length = b.length
  case neg =>
    have hq : ((a.length : Int) != b.length) = true := by simp; omega
    have HF := Lib.hid (show decide (a = b) = false from decide_eq_false fun h => hl (by rw [h]))
    clear hl
    go_enter Tryd.func14, Tryd.ntmps14
    go_wp2
    go_ret
    exact ⟨by rw [HF.out]; rfl, Below.refl _ _⟩
  have hq : ((a.length : Int) != b.length) = false := by simp [hl]
  have HL := Lib.hid hl
  clear hl
  go_enter Tryd.func14, Tryd.ntmps14
  go_wp2
  go_loopw [5] (fun i wr => ∃ k : Nat, k ≤ a.length ∧ i = .int .i64 k ∧ (∀ j, j < k → a[j]? = b[j]?) ∧ Below w.heap.size w wr) (fun i _ => a.length - (intOf i).toNat)
  case atStart => exact ⟨0, Nat.zero_le _, rfl, fun j hj => absurd hj (by omega), Below.refl _ _⟩
  case round =>
    obtain ⟨k, hk, rfl, hall, hB⟩ := hrel
    have HO := Lib.hid (And.intro hall hB)
    clear hall hB
    by_cases hlt : k < a.length
    · obtain ⟨g, off, p, A', cx, rfl, hg, hp, hsp, -, c0, c1⟩ := CodeAt.get HA.out k hlt
      obtain ⟨g', off', q, B', cy, rfl, hg', hq', hsq, -, d0, d1⟩ := CodeAt.get HB.out k (by rw [← HL.out]; exact hlt)
      have HC := Lib.hid (And.intro c1 d1)
      rw [← HO.out.2.cell (p := ⟨g, off + k * 2, none⟩) hg] at c0
      rw [← HO.out.2.cell (p := ⟨g, off + k * 2 + 1, none⟩) hg] at c1
      rw [← HO.out.2.cell (p := ⟨g', off' + k * 2, none⟩) hg'] at d0
      rw [← HO.out.2.cell (p := ⟨g', off' + k * 2 + 1, none⟩) hg'] at d1
      obtain ⟨-, hpa, hpm, -⟩ := SlAt.get hsp
      obtain ⟨-, hqa, hqm, -⟩ := SlAt.get hsq
      have hpm1 : cx ≤ 9223372036854775807 := hpm
      have hqm1 : cy ≤ 9223372036854775807 := hqm
      have g1 : (k : Int) < a.length := by omega
      have g2 : (k : Int) < b.length := by have := HL.out; omega
      have HX := Lib.hid (And.intro hp hq')
      have HSl := Lib.hid (And.intro hsp hsq)
      clear hp hq' hsp hsq hpm hqm
      have HNE := Lib.hid (show p ≠ q → decide (a = b) = false from fun h => decide_eq_false fun h2 => h (by
        rw [h2] at HX
        exact Option.some.inj (HX.out.1.symm.trans HX.out.2)))
      by_cases hr : p.regs = q.regs
      case neg =>
        have e : (p.regs != q.regs) = true := by simpa using hr
        have HF := Lib.hid (HNE.out fun h => hr (by rw [h]))
        clear hr
        go_wp2_with fail
        go_quiet (fail)
        go_wp2
        go_ret
        exact ⟨by rw [HF.out]; rfl, HO.out.2.trans ((below_drewN9 wr _).mono HO.out.2.size)⟩
      have e : (p.regs != q.regs) = false := by simpa using hr
      have HR := Lib.hid hr
      clear hr
      by_cases hn : p.ins.length = q.ins.length
      case neg =>
        have e2 : ((p.ins.length : Int) != q.ins.length) = true := by simp; omega
        have HF := Lib.hid (HNE.out fun h => hn (by rw [h]))
        clear hn
        go_wp2_with fail
        go_quiet (fail)
        go_wp2
        go_ret
        exact ⟨by rw [HF.out]; rfl, HO.out.2.trans ((below_drewN9 wr _).mono HO.out.2.size)⟩
      have e2 : ((p.ins.length : Int) != q.ins.length) = false := by simp [hn]
      have HN := Lib.hid hn
      clear hn
      go_wp2_with fail
      go_quiet (fail)
      go_wp2
      go_loopw [6] (fun i wr => ∃ j : Nat, j ≤ p.ins.length ∧ i = .int .i64 j ∧ (∀ i, i < j → p.ins[i]? = q.ins[i]?) ∧ Below w.heap.size w wr) (fun i _ => p.ins.length - (intOf i).toNat)
      case atStart => exact ⟨0, Nat.zero_le _, rfl, fun j hj => absurd hj (by omega), HO.out.2.trans ((below_drewN9 _ _).mono HO.out.2.size)⟩
      case round =>
        obtain ⟨j, hj, rfl, hall, hB⟩ := hrel
        have HOq := Lib.hid (And.intro hall hB)
        clear hall hB c0 c1 d0 d1
        have c1 := (HOq.out.2.cell (p := ⟨g, off + k * 2 + 1, none⟩) hg).trans HC.out.1
        have d1 := (HOq.out.2.cell (p := ⟨g', off' + k * 2 + 1, none⟩) hg').trans HC.out.2
        by_cases hlj : j < p.ins.length
        · obtain ⟨gi, oi, x, A2, c2, rfl, hgi, hx, hxl, hxf, f0, f1, f2, f3, f4, f5, f6, f7⟩ := ins_get HSl.out.1 j hlj
          obtain ⟨gj, oj, y, B2, c3, rfl, hgj, hy, hyl, hyf, h0, h1, h2, h3, h4, h5, h6, h7⟩ := ins_get HSl.out.2 j (by rw [← HN.out]; exact hlj)
          rw [← HOq.out.2.cell (p := ⟨gi, oi + j * 8, none⟩) hgi] at f0
          rw [← HOq.out.2.cell (p := ⟨gj, oj + j * 8, none⟩) hgj] at h0
          rw [← HOq.out.2.cell (p := ⟨gi, oi + j * 8 + 1, none⟩) hgi] at f1
          rw [← HOq.out.2.cell (p := ⟨gj, oj + j * 8 + 1, none⟩) hgj] at h1
          rw [← HOq.out.2.cell (p := ⟨gi, oi + j * 8 + 2, none⟩) hgi] at f2
          rw [← HOq.out.2.cell (p := ⟨gj, oj + j * 8 + 2, none⟩) hgj] at h2
          rw [← HOq.out.2.cell (p := ⟨gi, oi + j * 8 + 3, none⟩) hgi] at f3
          rw [← HOq.out.2.cell (p := ⟨gj, oj + j * 8 + 3, none⟩) hgj] at h3
          rw [← HOq.out.2.cell (p := ⟨gi, oi + j * 8 + 4, none⟩) hgi] at f4
          rw [← HOq.out.2.cell (p := ⟨gj, oj + j * 8 + 4, none⟩) hgj] at h4
          rw [← HOq.out.2.cell (p := ⟨gi, oi + j * 8 + 5, none⟩) hgi] at f5
          rw [← HOq.out.2.cell (p := ⟨gj, oj + j * 8 + 5, none⟩) hgj] at h5
          rw [← HOq.out.2.cell (p := ⟨gi, oi + j * 8 + 6, none⟩) hgi] at f6
          rw [← HOq.out.2.cell (p := ⟨gj, oj + j * 8 + 6, none⟩) hgj] at h6
          rw [← HOq.out.2.cell (p := ⟨gi, oi + j * 8 + 7, none⟩) hgi] at f7
          rw [← HOq.out.2.cell (p := ⟨gj, oj + j * 8 + 7, none⟩) hgj] at h7
          have g3 : (j : Int) < p.ins.length := by omega
          have g4 : (j : Int) < q.ins.length := by have := HN.out; omega
          have HC2 := Lib.hid (fun w' (hb : Below w.heap.size w w') => HS.out (.agg #[.int .i64 x.op, .int .i64 x.d, .int .i64 x.a, .int .i64 x.b, .int .i64 x.c, .string x.s, .int .i64 x.n, .slice A2 x.l.length c2]) (.agg #[.int .i64 y.op, .int .i64 y.d, .int .i64 y.a, .int .i64 y.b, .int .i64 y.c, .string y.s, .int .i64 y.n, .slice B2 y.l.length c3]) x y w' (InsAt.below ⟨_, rfl, hxl, hxf⟩ hb) (InsAt.below ⟨_, rfl, hyl, hyf⟩ hb))
          have HXY := Lib.hid (And.intro hx hy)
          clear hx hy hxl hxf hyl hyf
          have hdr := HOq.out.2.trans ((below_drewN9 wr 1).mono HOq.out.2.size)
          have HC3 := Lib.hid (HC2.out _ hdr)
          have HDr := Lib.hid hdr
          clear hdr
          obtain ⟨t, ht⟩ : ∃ t, decide (x = y) = t := ⟨_, rfl⟩
          rw [ht] at HC3
          have HT := Lib.hid ht
          clear ht
          cases t with
          | true =>
            have HNx := Lib.hid (next_all HOq.out.1 (HXY.out.1.trans (by rw [of_decide_eq_true HT.out]; exact HXY.out.2.symm)))
            go_wp2_with fail
            go_still_tail 16, (by kernel_rfl)
            change wpList _ _ _ _ _ wr.drew
            go_wp2_with (go_at_call 26; refine HC3.out.mono ?_; rintro e w1 ⟨rfl, hb1⟩; have HB1 := Lib.hid (HDr.out.trans (hb1.mono HDr.out.size)); clear hb1)
            go_wp2
            go_roundw
            case rel => exact ⟨j + 1, by omega, by go_num, HNx.out, HB1.out⟩
            case measure => simp [intOf]; omega
          | false =>
            have HF := Lib.hid (HNE.out fun h => of_decide_eq_false HT.out (by
              rw [h] at HXY
              exact Option.some.inj (HXY.out.1.symm.trans HXY.out.2)))
            go_wp2_with fail
            go_still_tail 16, (by kernel_rfl)
            change wpList _ _ _ _ _ wr.drew
            go_wp2_with (go_at_call 26; refine HC3.out.mono ?_; rintro e w1 ⟨rfl, hb1⟩; have HB1 := Lib.hid (HDr.out.trans (hb1.mono HDr.out.size)); clear hb1)
            go_wp2
            go_ret
            exact ⟨by rw [HF.out]; rfl, HB1.out⟩
        · have g3 : ¬ (j : Int) < p.ins.length := by omega
          have HPQ := Lib.hid (show p = q by rw [proc_ext]; exact ⟨HR.out, list_next HN.out HOq.out.1 (by omega)⟩)
          have HNx := Lib.hid (next_all HO.out.1 (HX.out.1.trans (by rw [HPQ.out]; exact HX.out.2.symm)))
          go_wp2
          go_roundw
          case rel => exact ⟨k + 1, by omega, by go_num, HNx.out, HOq.out.2⟩
          case measure => simp [intOf]; omega
    · have g1 : ¬ (k : Int) < a.length := by omega
      have HF := Lib.hid (show decide (a = b) = true from decide_eq_true (list_next HL.out HO.out.1 (by omega)))
      go_wp2
      go_ret
      exact ⟨by rw [HF.out]; rfl, HO.out.2⟩
end Go.Proofs.YtconnhphkbgbkaaDoor
