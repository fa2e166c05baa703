/- code.Same: rows of instructions, procs, codes. -/
import Derived.Test.YtconnhphkbgbkaaDoorCdSame
namespace Go.Proofs.YtconnhphkbgbkaaDoor
open Go.RowKit Go.Proofs

set_option maxRecDepth 100000 in
set_option maxHeartbeats 4000000 in
theorem eqIns_any (va vb : Value) (a b : List Ins) (w : World) (ha : SlAt 8 InsP w va a) (hb : SlAt 8 InsP w vb b) :
    Calls Tryd.prog 57 #[va, vb, .func (.func 50) #[] #[]] w fun e w' => e = .returned (.bool (decide (a = b))) ∧ Below w.heap.size w w' := by
  have HS := Lib.hid (fun vx vy x y w => sameIns_any vx vy x y w)
  obtain ⟨A, cap, rfl⟩ := SlAt.form ha
  obtain ⟨B, cap', rfl⟩ := SlAt.form hb
  obtain ⟨-, hca, hcm, -⟩ := SlAt.get ha
  obtain ⟨-, hcb, hcm', -⟩ := SlAt.get hb
  have hm1 : cap ≤ 9223372036854775807 := hcm
  have hm2 : cap' ≤ 9223372036854775807 := hcm'
  have HA := Lib.hid ha
  have HB := Lib.hid hb
  clear ha hb hcm hcm'
  by_cases hl : a.length = b.length
  · have hq : ((a.length : Int) != b.length) = false := by simp [hl]
    have HL := Lib.hid hl
    clear hl
    go_enter Tryd.func57, Tryd.ntmps57
    go_wp2
    go_loopw [17] (fun i wr => ∃ k : Nat, k ≤ a.length ∧ i = .int .i64 k ∧ (∀ j, j < k → a[j]? = b[j]?) ∧ Below w.heap.size w wr) (fun i _ => a.length - (intOf i).toNat)
    case atStart => exact ⟨0, Nat.zero_le _, rfl, fun j hj => absurd hj (by omega), Below.refl _ _⟩
    case round =>
      obtain ⟨k, hk, rfl, hall, hB⟩ := hrel
      have HAll := Lib.hid hall
      clear hall
      by_cases hlt : k < a.length
      · obtain ⟨g, off, x, A', cx, rfl, hg, hx, hxl, hxi, hc0, hc1, hc2, hc3, hc4, hc5, hc6, hc7⟩ := ins_get HA.out k hlt
        obtain ⟨g', off', y, B', cy, rfl, hg', hy, hyl, hyi, hd0, hd1, hd2, hd3, hd4, hd5, hd6, hd7⟩ := ins_get HB.out k (by rw [← HL.out]; exact hlt)
        have hax := Lib.hid (show InsAt w (.agg #[.int .i64 x.op, .int .i64 x.d, .int .i64 x.a, .int .i64 x.b, .int .i64 x.c, .string x.s, .int .i64 x.n, .slice A' x.l.length cx]) x from ⟨_, rfl, hxl, hxi⟩)
        have hay := Lib.hid (show InsAt w (.agg #[.int .i64 y.op, .int .i64 y.d, .int .i64 y.a, .int .i64 y.b, .int .i64 y.c, .string y.s, .int .i64 y.n, .slice B' y.l.length cy]) y from ⟨_, rfl, hyl, hyi⟩)
        clear hxl hxi hyl hyi
        rw [← hB.cell (p := ⟨g, off + k * 8, none⟩) hg] at hc0
        have hd0 : ∀ o, (wr.alloc o).cell? ⟨g', off' + k * 8, none⟩ = _ := fun o => ((hB.alloc hB.size o).cell (p := ⟨g', off' + k * 8, none⟩) hg').trans hd0
        rw [← hB.cell (p := ⟨g, off + k * 8 + 1, none⟩) hg] at hc1
        have hd1 : ∀ o, (wr.alloc o).cell? ⟨g', off' + k * 8 + 1, none⟩ = _ := fun o => ((hB.alloc hB.size o).cell (p := ⟨g', off' + k * 8 + 1, none⟩) hg').trans hd1
        rw [← hB.cell (p := ⟨g, off + k * 8 + 2, none⟩) hg] at hc2
        have hd2 : ∀ o, (wr.alloc o).cell? ⟨g', off' + k * 8 + 2, none⟩ = _ := fun o => ((hB.alloc hB.size o).cell (p := ⟨g', off' + k * 8 + 2, none⟩) hg').trans hd2
        rw [← hB.cell (p := ⟨g, off + k * 8 + 3, none⟩) hg] at hc3
        have hd3 : ∀ o, (wr.alloc o).cell? ⟨g', off' + k * 8 + 3, none⟩ = _ := fun o => ((hB.alloc hB.size o).cell (p := ⟨g', off' + k * 8 + 3, none⟩) hg').trans hd3
        rw [← hB.cell (p := ⟨g, off + k * 8 + 4, none⟩) hg] at hc4
        have hd4 : ∀ o, (wr.alloc o).cell? ⟨g', off' + k * 8 + 4, none⟩ = _ := fun o => ((hB.alloc hB.size o).cell (p := ⟨g', off' + k * 8 + 4, none⟩) hg').trans hd4
        rw [← hB.cell (p := ⟨g, off + k * 8 + 5, none⟩) hg] at hc5
        have hd5 : ∀ o, (wr.alloc o).cell? ⟨g', off' + k * 8 + 5, none⟩ = _ := fun o => ((hB.alloc hB.size o).cell (p := ⟨g', off' + k * 8 + 5, none⟩) hg').trans hd5
        rw [← hB.cell (p := ⟨g, off + k * 8 + 6, none⟩) hg] at hc6
        have hd6 : ∀ o, (wr.alloc o).cell? ⟨g', off' + k * 8 + 6, none⟩ = _ := fun o => ((hB.alloc hB.size o).cell (p := ⟨g', off' + k * 8 + 6, none⟩) hg').trans hd6
        rw [← hB.cell (p := ⟨g, off + k * 8 + 7, none⟩) hg] at hc7
        have hd7 : ∀ o, (wr.alloc o).cell? ⟨g', off' + k * 8 + 7, none⟩ = _ := fun o => ((hB.alloc hB.size o).cell (p := ⟨g', off' + k * 8 + 7, none⟩) hg').trans hd7
        have hb2 : Below w.heap.size w ((wr.alloc (.cells #[.int .i64 x.op, .int .i64 x.d, .int .i64 x.a, .int .i64 x.b, .int .i64 x.c, .string x.s, .int .i64 x.n, .slice A' x.l.length cx] 37)).alloc (.cells #[.int .i64 y.op, .int .i64 y.d, .int .i64 y.a, .int .i64 y.b, .int .i64 y.c, .string y.s, .int .i64 y.n, .slice B' y.l.length cy] 37)) := (hB.alloc hB.size _).alloc (by have := hB.size; simp; omega) _
        have g1 : (k : Int) < a.length := by omega
        have g2 : (k : Int) < b.length := by have := HL.out; omega
        have HX := Lib.hid (And.intro hx hy)
        have HC := Lib.hid (HS.out _ _ x y _ (hax.out.below hb2) (hay.out.below hb2))
        have HB2 := Lib.hid hb2
        clear hx hy hb2
        by_cases hxy : x = y
        · rw [decide_eq_true hxy] at HC
          have HXY := Lib.hid hxy
          clear hxy
          go_wp2_with (go_at_call 50; refine HC.out.mono ?_; rintro e w1 ⟨rfl, hb1⟩)
          go_roundw
          case rel => exact ⟨k + 1, by omega, by go_num, next_all HAll.out (HX.out.1.trans (by rw [HXY.out]; exact HX.out.2.symm)), HB2.out.trans (hb1.mono HB2.out.size)⟩
          case measure => simp [intOf]; omega
        · rw [decide_eq_false hxy] at HC
          have HF := Lib.hid (show decide (a = b) = false by
            rw [decide_eq_false_iff_not]
            rintro rfl
            exact hxy (Option.some.inj (HX.out.1.symm.trans HX.out.2)))
          clear hxy
          go_wp2_with (go_at_call 50; refine HC.out.mono ?_; rintro e w1 ⟨rfl, hb1⟩)
          go_ret
          exact ⟨by rw [HF.out]; rfl, HB2.out.trans (hb1.mono HB2.out.size)⟩
      · have g1 : ¬ (k : Int) < a.length := by omega
        have HF := Lib.hid (show decide (a = b) = true by
          rw [decide_eq_true_iff]
          exact list_next HL.out HAll.out (by omega))
        go_wp2
        go_ret
        exact ⟨by rw [HF.out]; rfl, hB⟩
  · have hq : ((a.length : Int) != b.length) = true := by simp; omega
    have HF := Lib.hid (show decide (a = b) = false by
      rw [decide_eq_false_iff_not]
      rintro rfl
      exact hl rfl)
    clear hl
    go_enter Tryd.func57, Tryd.ntmps57
    go_wp2
    go_ret
    exact ⟨by rw [HF.out]; rfl, Below.refl _ _⟩

theorem proc_ext {x y : Proc} : x = y ↔ x.regs = y.regs ∧ x.ins = y.ins := by
  constructor
  · rintro rfl
    exact ⟨rfl, rfl⟩
  · rintro ⟨h1, h2⟩
    cases x
    cases y
    simp_all
set_option maxRecDepth 100000 in
set_option maxHeartbeats 4000000 in
theorem sameProc_any (vx vy : Value) (x y : Proc) (w : World) (hx : ProcAt w vx x) (hy : ProcAt w vy y) :
    Calls Tryd.prog 25 #[vx, vy] w fun e w' => e = .returned (.bool (decide (x = y))) ∧ Below w.heap.size w w' := by
  obtain ⟨u, rfl, hu, -⟩ := hx
  obtain ⟨v, rfl, hv, -⟩ := hy
  unfold procV
  have hb2 : Below w.heap.size w ((w.alloc (.cells #[.int .i64 x.regs, u] 35)).alloc (.cells #[.int .i64 y.regs, v] 35)) := ((Below.refl _ w).alloc (Nat.le_refl _) _).alloc (by simp) _
  have HE := Lib.hid (eqIns_any u v x.ins y.ins _ (hu.below InsP.keeps hb2) (hv.below InsP.keeps hb2))
  have HB := Lib.hid hb2
  clear hu hv hb2
  by_cases h : x.regs = y.regs
  case neg =>
    have e : (x.regs == y.regs) = false := by simpa using h
    have HF := Lib.hid (show decide (x = y) = false from decide_eq_false fun h2 => h (by rw [h2]))
    clear h HE
    go_enter Tryd.func25, Tryd.ntmps25
    go_wp2
    go_ret
    exact ⟨by rw [HF.out]; rfl, HB.out⟩
  have e : (x.regs == y.regs) = true := by simpa using h
  have HF := Lib.hid (show decide (x.ins = y.ins) = decide (x = y) by
    rw [decide_eq_decide, proc_ext]
    exact ⟨fun h2 => ⟨h, h2⟩, fun h => h.2⟩)
  clear h
  go_enter Tryd.func25, Tryd.ntmps25
  go_wp2_with (go_at_call 57; refine HE.out.mono ?_; rintro e w1 ⟨rfl, hb1⟩)
  go_ret
  exact ⟨by rw [← HF.out]; rfl, HB.out.trans (hb1.mono HB.out.size)⟩

set_option maxRecDepth 100000 in
set_option maxHeartbeats 4000000 in
theorem eqProcs_any (va vb : Value) (a b : List Proc) (w : World) (ha : SlAt 2 ProcP w va a) (hb : SlAt 2 ProcP w vb b) :
    Calls Tryd.prog 24 #[va, vb, .func (.func 25) #[] #[]] w fun e w' => e = .returned (.bool (decide (a = b))) ∧ Below w.heap.size w w' := by
  have HS := Lib.hid (fun vx vy x y w => sameProc_any vx vy x y w)
  obtain ⟨A, cap, rfl⟩ := SlAt.form ha
  obtain ⟨B, cap', rfl⟩ := SlAt.form hb
  obtain ⟨-, hca, hcm, -⟩ := SlAt.get ha
  obtain ⟨-, hcb, hcm', -⟩ := SlAt.get hb
  have hm1 : cap ≤ 9223372036854775807 := hcm
  have hm2 : cap' ≤ 9223372036854775807 := hcm'
  have HA := Lib.hid ha
  have HB := Lib.hid hb
  clear ha hb hcm hcm'
  by_cases hl : a.length = b.length
  · have hq : ((a.length : Int) != b.length) = false := by simp [hl]
    have HL := Lib.hid hl
    clear hl
    go_enter Tryd.func24, Tryd.ntmps24
    go_wp2
    go_loopw [17] (fun i wr => ∃ k : Nat, k ≤ a.length ∧ i = .int .i64 k ∧ (∀ j, j < k → a[j]? = b[j]?) ∧ Below w.heap.size w wr) (fun i _ => a.length - (intOf i).toNat)
    case atStart => exact ⟨0, Nat.zero_le _, rfl, fun j hj => absurd hj (by omega), Below.refl _ _⟩
    case round =>
      obtain ⟨k, hk, rfl, hall, hB⟩ := hrel
      have HAll := Lib.hid hall
      clear hall
      by_cases hlt : k < a.length
      · obtain ⟨g, off, x, A', cx, rfl, hg, hx, hxl, hxi, hc0, hc1⟩ := CodeAt.get HA.out k hlt
        obtain ⟨g', off', y, B', cy, rfl, hg', hy, hyl, hyi, hd0, hd1⟩ := CodeAt.get HB.out k (by rw [← HL.out]; exact hlt)
        have hax := Lib.hid (show ProcAt w (.agg #[.int .i64 x.regs, .slice A' x.ins.length cx]) x from ⟨_, rfl, hxl, hxi⟩)
        have hay := Lib.hid (show ProcAt w (.agg #[.int .i64 y.regs, .slice B' y.ins.length cy]) y from ⟨_, rfl, hyl, hyi⟩)
        clear hxl hxi hyl hyi
        rw [← hB.cell (p := ⟨g, off + k * 2, none⟩) hg] at hc0
        have hd0 : ∀ o, (wr.alloc o).cell? ⟨g', off' + k * 2, none⟩ = _ := fun o => ((hB.alloc hB.size o).cell (p := ⟨g', off' + k * 2, none⟩) hg').trans hd0
        rw [← hB.cell (p := ⟨g, off + k * 2 + 1, none⟩) hg] at hc1
        have hd1 : ∀ o, (wr.alloc o).cell? ⟨g', off' + k * 2 + 1, none⟩ = _ := fun o => ((hB.alloc hB.size o).cell (p := ⟨g', off' + k * 2 + 1, none⟩) hg').trans hd1
        have hb2 : Below w.heap.size w ((wr.alloc (.cells #[.int .i64 x.regs, .slice A' x.ins.length cx] 35)).alloc (.cells #[.int .i64 y.regs, .slice B' y.ins.length cy] 35)) := (hB.alloc hB.size _).alloc (by have := hB.size; simp; omega) _
        have g1 : (k : Int) < a.length := by omega
        have g2 : (k : Int) < b.length := by have := HL.out; omega
        have HX := Lib.hid (And.intro hx hy)
        have HC := Lib.hid (HS.out _ _ x y _ (hax.out.below hb2) (hay.out.below hb2))
        have HB2 := Lib.hid hb2
        clear hx hy hb2
        by_cases hxy : x = y
        · rw [decide_eq_true hxy] at HC
          have HXY := Lib.hid hxy
          clear hxy
          go_wp2_with (go_at_call 25; refine HC.out.mono ?_; rintro e w1 ⟨rfl, hb1⟩)
          go_roundw
          case rel => exact ⟨k + 1, by omega, by go_num, next_all HAll.out (HX.out.1.trans (by rw [HXY.out]; exact HX.out.2.symm)), HB2.out.trans (hb1.mono HB2.out.size)⟩
          case measure => simp [intOf]; omega
        · rw [decide_eq_false hxy] at HC
          have HF := Lib.hid (show decide (a = b) = false by
            rw [decide_eq_false_iff_not]
            rintro rfl
            exact hxy (Option.some.inj (HX.out.1.symm.trans HX.out.2)))
          clear hxy
          go_wp2_with (go_at_call 25; refine HC.out.mono ?_; rintro e w1 ⟨rfl, hb1⟩)
          go_ret
          exact ⟨by rw [HF.out]; rfl, HB2.out.trans (hb1.mono HB2.out.size)⟩
      · have g1 : ¬ (k : Int) < a.length := by omega
        have HF := Lib.hid (show decide (a = b) = true by
          rw [decide_eq_true_iff]
          exact list_next HL.out HAll.out (by omega))
        go_wp2
        go_ret
        exact ⟨by rw [HF.out]; rfl, hB⟩
  · have hq : ((a.length : Int) != b.length) = true := by simp; omega
    have HF := Lib.hid (show decide (a = b) = false by
      rw [decide_eq_false_iff_not]
      rintro rfl
      exact hl rfl)
    clear hl
    go_enter Tryd.func24, Tryd.ntmps24
    go_wp2
    go_ret
    exact ⟨by rw [HF.out]; rfl, Below.refl _ _⟩

set_option maxHeartbeats 4000000 in
theorem same_any (va vb : Value) (a b : List Proc) (w : World) (ha : CodeAt w va a) (hb : CodeAt w vb b) :
    Calls Tryd.prog 13 #[va, vb] w fun e w' => e = .returned (.bool (decide (a = b))) ∧ Below w.heap.size w w' := by
  have HE := Lib.hid (eqProcs_any va vb a b w ha hb)
  clear ha hb
  go_enter Tryd.func13, Tryd.ntmps13
  go_wp2_with (go_at_call 24; refine HE.out.mono ?_; rintro e w1 ⟨rfl, hb1⟩)
  go_ret
  exact ⟨rfl, hb1⟩
end Go.Proofs.YtconnhphkbgbkaaDoor
