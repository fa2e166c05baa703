/- What the law of numbers goes by. No program. The law ScopeRanges: its walk. The law ScopeRanges: whatever the input, the call returns true and leaves what was there as it was. -/
import Derived.BigQuiet
import Derived.Test.YtejbdoiamhfbjaaPm51
set_option linter.unusedSimpArgs false
set_option linter.unusedVariables false
namespace Go.Proofs.Ytejbdoiamhfbjaa

/-- One part's numbers. -/
def ok1 (F : List Fn) (t : Tr) : Prop := (t.op = 1 ∨ t.op = 30 ∨ t.op = 35 ∨ t.op = 38 → ∃ (j i : Nat) (f : Fn), t.n = 1000 * (j : Int) + (i : Int) ∧ F[j]? = some f ∧ f.vars[i]? = some t.s) ∧
  (isFun t.op = true → ∃ (j : Nat) (f : Fn), t.n = j ∧ 1 ≤ j ∧ F[j]? = some f ∧ f.name = t.s)
mutual
theorem okT_flat (F : List Fn) : ∀ (t : Tr), okT F t → ∀ y ∈ t.flat, ok1 F y
  | .mk op s n i l, h, y, hy => by
    rw [Tr.flat] at hy
    rcases List.mem_cons.1 hy with rfl | hy
    · exact ⟨h.1, h.2.1⟩
    · exact okL_flat F l h.2.2 y hy
theorem okL_flat (F : List Fn) : ∀ (l : List Tr), okL F l → ∀ y ∈ flats l, ok1 F y
  | [], _, y, hy => by rw [flats] at hy; cases hy
  | t :: r, h, y, hy => by
    rw [flats] at hy
    rcases List.mem_append.1 hy with hy | hy
    · exact okT_flat F t h.1 y hy
    · exact okL_flat F r h.2 y hy
end
theorem split_n {n : Int} {j i : Nat} (h : n = 1000 * (j : Int) + (i : Int)) (hi : i < 1000) : Int.tdiv n 1000 = j ∧ Int.tmod n 1000 = i ∧ 0 ≤ n := by
  have h0 : 0 ≤ n := by omega
  rw [Int.tdiv_eq_ediv_of_nonneg h0, Int.tmod_eq_emod_of_nonneg h0]
  omega
end Go.Proofs.Ytejbdoiamhfbjaa

namespace Go.Proofs.Ytejbdoiamhfbjaa
open Go.RowKit Go.Proofs

set_option maxRecDepth 100000 in
set_option maxHeartbeats 1600000 in
theorem ranges_any (t : Tr) (v : Value) (w : World) (ht : At w w.heap.size t v) : Calls Try.prog 8 #[v] w fun e w' => e = .returned (.bool true) ∧ Below w.heap.size w w' := by
  obtain ⟨A, c, rfl, -, -⟩ := (TreeAt.of_at ht).form
  have hat : ∀ w', Below w.heap.size w w' → At w' w'.heap.size t (.agg #[.int .i64 t.op, .string (bs t.s), .int .i64 t.n, .slice A t.l.length c, .int .i64 t.line]) := fun w' hb => At.keep t ht hb.size fun p hp => hb.cell hp
  have HAt := Lib.hid hat
  clear hat ht
  go_enter Try.func8, Try.ntmps8
  have hal := below_alloc9 w (.cells #[.int .i64 t.op, .string (bs t.s), .int .i64 t.n, .slice A t.l.length c, .int .i64 t.line] 24)
  have hbx := heap_alloc_new w (.cells #[.int .i64 t.op, .string (bs t.s), .int .i64 t.n, .slice A t.l.length c, .int .i64 t.line] 24)
  obtain ⟨N, eN⟩ : ∃ N, w.heap.size = N := ⟨_, rfl⟩
  have H0 := Lib.hid (And.intro hal hbx)
  clear hal hbx
  go_wp2_with fail
  go_at_call 11
  refine (shown_any _).mono ?_
  rintro e w1 ⟨rfl, hb1⟩
  have hbx1 := (hb1.block w.heap.size (by simp)).trans H0.out.2
  have hw1 : Below w.heap.size w w1 := H0.out.1.trans (hb1.mono (by simp))
  rw [eN] at hbx1
  have x0 := cell_of_row w1 _ 0 _ _ _ hbx1
  have x1 := cell_of_row w1 _ 1 _ _ _ hbx1
  have x2 := cell_of_row w1 _ 2 _ _ _ hbx1
  have x3 := cell_of_row w1 _ 3 _ _ _ hbx1
  have x4 := cell_of_row w1 _ 4 _ _ _ hbx1
  simp at x0 x1 x2 x3 x4
  have H1 := Lib.hid (And.intro hw1 hbx1)
  clear hb1 hbx1 hw1 H0
  go_wp2_with fail
  go_at_call 12
  refine (small_any t _ w1 (HAt.out w1 H1.out.1)).mono ?_
  rintro e w2 ⟨rfl, hb2⟩
  have hbx2 := (hb2.block N (heap_lt H1.out.2)).trans H1.out.2
  have hw2 : Below w.heap.size w w2 := H1.out.1.trans (hb2.mono H1.out.1.size)
  have y0 := cell_of_row w2 _ 0 _ _ _ hbx2
  have y1 := cell_of_row w2 _ 1 _ _ _ hbx2
  have y2 := cell_of_row w2 _ 2 _ _ _ hbx2
  have y3 := cell_of_row w2 _ 3 _ _ _ hbx2
  have y4 := cell_of_row w2 _ 4 _ _ _ hbx2
  simp at y0 y1 y2 y3 y4
  have H2 := Lib.hid (And.intro hw2 hbx2)
  clear hb2 hbx2 hw2 x0 x1 x2 x3 x4 H1
  by_cases hz : t.size ≤ 1500
  case neg =>
    rw [if_neg hz]
    go_wp2
    go_ret
    exact ⟨rfl, H2.out.1⟩
  rw [if_pos hz]
  go_wp2_with fail
  go_at_call 13
  refine (scres_any t _ w2 (fun k => k < w2.heap.size) (TreeAt.of_at (HAt.out w2 H2.out.1)) (fun _ h => h) (by omega)).mono ?_
  rintro e w3 ⟨hb3, hq⟩
  have hw3 : Below w.heap.size w w3 := H2.out.1.trans (hb3.mono H2.out.1.size)
  by_cases hr : rightP t = true
  case neg =>
    rw [if_neg hr] at hq
    subst hq
    have HE := Lib.hid (And.intro hw3 hr)
    clear hw3 hb3 y0 y1 y2 y3 y4 hr
    unfold noTree
    go_wp2
    go_ret
    exact ⟨rfl, HE.out.1.alloc HE.out.1.size _⟩
  rw [if_pos hr] at hq
  cases hrs : resolveT t with
  | error p9 =>
    obtain ⟨line, er⟩ := p9
    rw [hrs] at hq
    simp only at hq
    subst hq
    have ee : (er != 0) = true := by
      have := resolve_err hrs
      simp [this]
    have HE := Lib.hid (And.intro hw3 hr)
    clear hw3 hb3 y0 y1 y2 y3 y4 hr hrs
    unfold noTree
    go_wp2
    go_ret
    exact ⟨rfl, HE.out.1.alloc HE.out.1.size _⟩
  | ok p9 =>
  obtain ⟨fs, q⟩ := p9
  rw [hrs] at hq
  obtain ⟨fv, qv, rfl, hF, hT⟩ := hq
  obtain ⟨Af, cf, rfl, hfc, hfm⟩ := hF.form
  obtain ⟨Aq, cq, rfl, hrq, hfq⟩ := hT.form
  have hq9 : At w3 w3.heap.size q (.agg #[.int .i64 q.op, .string (bs q.s), .int .i64 q.n, .slice Aq q.l.length cq, .int .i64 q.line]) := by
    obtain ⟨x, rfl, hx, hL⟩ := hT
    rw [← hx]
    exact hL.at_ x (fun k hk => hk.2)
  have hal4 := below_alloc9 w3 (.cells #[.int .i64 q.op, .string (bs q.s), .int .i64 q.n, .slice Aq q.l.length cq, .int .i64 q.line] 24)
  have hbx4 := heap_alloc_new w3 (.cells #[.int .i64 q.op, .string (bs q.s), .int .i64 q.n, .slice Aq q.l.length cq, .int .i64 q.line] 24)
  obtain ⟨w4, e4⟩ : ∃ w4, w3.alloc (.cells #[.int .i64 q.op, .string (bs q.s), .int .i64 q.n, .slice Aq q.l.length cq, .int .i64 q.line] 24) = w4 := ⟨_, rfl⟩
  rw [e4] at hal4 hbx4

  have hqs := resolve_size hrs
  have hcall := fun (w' : World) (hb : Below w3.heap.size w3 w') => flat_any w3 w3.heap.size q _ w' hq9 hb hb.size (by omega)
  have hF4 := hF.below hal4
  obtain ⟨-, hok, m, hm, hI⟩ := resolve_told hrs
  have hin : ∀ (i : Nat) (f : Fn), fs[i]? = some f → f.around < i ∧ f.params ≤ f.vars.length ∧ f.vars.length ≤ 200 ∧ (0 < i → 0 ≤ f.around ∧ 4 ≤ f.mark ∧ ∀ g, fs[i - 1]? = some g → g.mark < f.mark) := fun i f hf => by
    obtain ⟨h1, h2, h3, -, h5⟩ := hI.2 i f hf
    exact ⟨h1, h2, h3, h5⟩
  have hfl : ∀ y ∈ q.flat, ok1 fs y := okT_flat fs q hok
  have HL := Lib.hid hcall
  have H4 := Lib.hid (And.intro hw3 (And.intro hal4 (And.intro hF4 (And.intro hin (And.intro hfl (And.intro hqs (And.intro hbx4 e4)))))))
  have hMl : w3.heap.size < w4.heap.size := heap_lt hbx4

  have hfs : fs.length ≤ 9223372036854775807 := by unfold maxLen at hfm; omega
  have zz : t.size ≤ 1500 := hz
  clear hcall hw3 hal4 hF hF4 hm hT hrq hq9 hb3 y0 y1 y2 y3 y4 HAt H2 hok hin hfl hI hqs hbx4 e4 hfc hfm hfq hrs hz hr
  go_upto_region 8 with fail
  rw [H4.out.2.2.2.2.2.2.2]
  go_wp2_with fail
  go_loopw [8] (fun i wr => ∃ (k : Nat), k ≤ fs.length ∧ i = .int .i64 k ∧ Below w4.heap.size w4 wr) (fun i _ => fs.length - (intOf i).toNat)
  case atStart => exact ⟨0, Nat.zero_le _, rfl, Below.refl _ _⟩
  case round =>
    obtain ⟨k, hk, rfl, hb⟩ := hrel
    by_cases hlt : k < fs.length
    · obtain ⟨f9, hf9⟩ : ∃ f, fs[k]? = some f := ⟨_, List.getElem?_eq_getElem hlt⟩
      have g1 : (k : Int) < fs.length := by omega
      obtain ⟨gf, cf', As, cs, ev, m0, -, m2, m3, m4, -⟩ := (H4.out.2.2.1.below hb).get hf9
      injection ev with ea eb ec
      subst ea ec
      obtain ⟨i1, i2, i3, i4⟩ := H4.out.2.2.2.1 k f9 hf9
      have q1 : decide ((k : Int) ≤ f9.around) = false := decide_eq_false (by omega)
      have q5 : decide (f9.vars.length < f9.params) = false := decide_eq_false (by omega)
      by_cases h0 : 0 < k
      · obtain ⟨j, hj⟩ : ∃ j, k = j + 1 := ⟨k - 1, by omega⟩
        obtain ⟨p9, hp9⟩ : ∃ f, fs[j]? = some f := ⟨_, List.getElem?_eq_getElem (by omega)⟩
        obtain ⟨gf', cf'', As', cs', ev', -, -, -, -, n4, -⟩ := (H4.out.2.2.1.below hb).get hp9
        injection ev' with ea' eb' ec'
        injection ea' with ea'
        injection ea' with ea'
        subst ea' ec'
        obtain ⟨j1, j2, j3⟩ := i4 h0
        have j3 := j3 p9 (by rw [hj]; exact hp9)
        have g2 : (j : Int) < fs.length := by omega
        have q2 : decide (f9.around < 0) = false := decide_eq_false (by omega)
        have q3 : decide (f9.mark < 4) = false := decide_eq_false (by omega)
        have q4 : decide (f9.mark ≤ p9.mark) = false := decide_eq_false (by omega)
        have HN := Lib.hid hb
        have u1 : IntKind.i64.wrap ((k : Int) - 1) = (j : Int) := by rw [IntWalk.i64_in _ (by omega)]; omega
        clear hb hf9 hp9 i4 j3 i1 i2 i3 j1 j2 hMl hj
        go_wp2_with fail
        go_quiet (fail)
        go_wp2
        go_roundw
        case rel => exact ⟨k + 1, by omega, by go_num, below_drewN HN.out nq⟩
        case measure => simp [intOf]; omega
      · have g3 : decide (0 < k) = false := decide_eq_false h0
        have HN := Lib.hid hb
        clear hb hf9 i4 i1 i2 i3 hMl h0
        go_wp2_with fail
        go_quiet (fail)
        go_wp2
        go_roundw
        case rel => exact ⟨k + 1, by omega, by go_num, below_drewN HN.out nq⟩
        case measure => simp [intOf]; omega
    · have g1 : ¬ (k : Int) < fs.length := by omega
      have hbxr := (hb.block w3.heap.size hMl).trans H4.out.2.2.2.2.2.2.1
      have hbr : Below w3.heap.size w3 wr := H4.out.2.1.trans (hb.mono H4.out.2.1.size)
      have hFr := H4.out.2.2.1.below hb
      have x0 := cell_of_row wr _ 0 _ _ _ hbxr
      have x1 := cell_of_row wr _ 1 _ _ _ hbxr
      have x2 := cell_of_row wr _ 2 _ _ _ hbxr
      have x3 := cell_of_row wr _ 3 _ _ _ hbxr
      have x4 := cell_of_row wr _ 4 _ _ _ hbxr
      simp at x0 x1 x2 x3 x4
      have HR := Lib.hid (And.intro hbr (And.intro hFr hk))
      clear hb hbxr hbr hFr hk hlt
      go_wp2_with fail
      go_at_call 24
      refine (HL.out wr HR.out.1).mono ?_
      rintro e w5 ⟨lv, ps, rfl, hps, hpa, hrow, hb5⟩
      have hlp : ps.length = q.size := by
        have := congrArg List.length hps
        rw [flat_len, List.length_map] at this
        exact this
      have hqp := size_pos q
      obtain ⟨g, cp, rfl, hg5, hcl⟩ := own_cells hrow (by omega)
      have hcl' : ∀ (k : Nat) (p : Tr × Value) (j : Nat) (u : Value), ps[k]? = some p → (five p)[j]? = some u → w5.cell? ⟨g, k * 5 + j, none⟩ = some u := fun k p j u hp hu => by
        have h9 := hcl (k * 5 + j) u ?_
        · rw [add_mid] at h9
          exact h9
        · rw [five_get ps k j (by
            have := (List.getElem?_eq_some_iff.1 hu).1
            simpa [five] using this), hp]
          exact hu
      have hgl : g < w5.heap.size := (hrow.lt g rfl).2
      have hsl : ∀ p ∈ ps, ∃ A n c, p.2 = .slice A n c := fun p hp => by
        obtain ⟨ua, e, hrow', -⟩ := (At_iff _ _ _ _).1 (hpa p hp)
        obtain ⟨A', c', e', -, -⟩ := row_at hrow'
        have e9 : p.2 = ua := by simpa [nodeV] using e
        exact ⟨_, _, _, e9.trans e'⟩
      have hF5 := HR.out.2.1.below hb5
      have hw5 : Below w.heap.size w w5 := (H4.out.1.trans (HR.out.1.mono H4.out.1.size)).trans (hb5.mono (by have := H4.out.1.size; have := HR.out.1.size; omega))
      have hlp5 : ps.length ≤ 1500 := by rw [hlp, H4.out.2.2.2.2.2.1]; exact zz
      have HIn := Lib.hid H4.out.2.2.2.1
      have H5 := Lib.hid (And.intro hps (And.intro hcl' (And.intro hF5 (And.intro hw5 (And.intro H4.out.2.2.2.2.1 hsl)))))
      clear hps hpa hrow hb5 hcl hsl hcl' hF5 hw5 x0 x1 x2 x3 x4 hqp hg5 HL H4 HR hlp zz hMl g1
      go_wp2
      go_loopw [10] (fun i wr => ∃ (k : Nat), k ≤ ps.length ∧ i = .int .i64 k ∧ Below w5.heap.size w5 wr) (fun i _ => ps.length - (intOf i).toNat)
      case atStart => exact ⟨0, Nat.zero_le _, rfl, Below.refl _ _⟩
      case round =>
        obtain ⟨k, hk, rfl, hb⟩ := hrel
        by_cases hlt : k < ps.length
        · obtain ⟨p, hp⟩ : ∃ p, ps[k]? = some p := ⟨_, List.getElem?_eq_getElem hlt⟩
          obtain ⟨y, u⟩ := p
          have hy : q.flat[k]? = some y := by rw [← H5.out.1, List.getElem?_map, hp]; rfl
          have hok := H5.out.2.2.2.2.1 y (List.mem_of_getElem? hy)
          have g1 : (k : Int) < ps.length := by omega
          have d0 := (hb.cell (p := ⟨g, k * 5 + 0, none⟩) hgl).trans (H5.out.2.1 k _ 0 _ hp rfl)
          have d1 := (hb.cell (p := ⟨g, k * 5 + 1, none⟩) hgl).trans (H5.out.2.1 k _ 1 _ hp rfl)
          have d2 := (hb.cell (p := ⟨g, k * 5 + 2, none⟩) hgl).trans (H5.out.2.1 k _ 2 _ hp rfl)
          have d3 := (hb.cell (p := ⟨g, k * 5 + 3, none⟩) hgl).trans (H5.out.2.1 k _ 3 _ hp rfl)
          have d4 := (hb.cell (p := ⟨g, k * 5 + 4, none⟩) hgl).trans (H5.out.2.1 k _ 4 _ hp rfl)
          simp only [Nat.add_zero] at d0 d1 d2 d3 d4
          obtain ⟨Au, nu, cu, eu⟩ := H5.out.2.2.2.2.2 _ (List.mem_of_getElem? hp)
          obtain rfl : u = .slice Au nu cu := eu
          obtain ⟨yo, eo⟩ : ∃ x, y.op = x := ⟨_, rfl⟩
          obtain ⟨ys, es⟩ : ∃ x, y.s = x := ⟨_, rfl⟩
          obtain ⟨yn, en⟩ : ∃ x, y.n = x := ⟨_, rfl⟩
          obtain ⟨yl, el⟩ : ∃ x, y.line = x := ⟨_, rfl⟩
          unfold ok1 at hok
          rw [eo, es, en] at hok
          rw [eo] at d0
          rw [es] at d1
          rw [en] at d2
          rw [el] at d4
          clear eo es en el hp hy
          obtain ⟨W6, e6⟩ : ∃ W, wr.alloc (.cells #[.int .i64 yo, .string (bs ys), .int .i64 yn, .slice Au nu cu, .int .i64 yl] 24) = W := ⟨_, rfl⟩
          have hbx6 := heap_alloc_new wr (.cells #[.int .i64 yo, .string (bs ys), .int .i64 yn, .slice Au nu cu, .int .i64 yl] 24)
          have hal6 := below_alloc9 wr (.cells #[.int .i64 yo, .string (bs ys), .int .i64 yn, .slice Au nu cu, .int .i64 yl] 24)
          rw [e6] at hbx6 hal6
          have x0 := cell_of_row W6 _ 0 _ _ _ hbx6
          have x1 := cell_of_row W6 _ 1 _ _ _ hbx6
          have x2 := cell_of_row W6 _ 2 _ _ _ hbx6
          have x3 := cell_of_row W6 _ 3 _ _ _ hbx6
          have x4 := cell_of_row W6 _ 4 _ _ _ hbx6
          simp at x0 x1 x2 x3 x4
          have hb6 : Below w5.heap.size w5 W6 := hb.trans (hal6.mono hb.size)
          have hF6 := H5.out.2.2.1.below hb6
          have HN := Lib.hid (And.intro hb6 (And.intro e6 hF6))
          clear hb hbx6 hal6 hb6 hF6 e6
          go_upto_region 17 with fail
          rw [HN.out.2.1]
          clear d0 d1 d2 d3 d4
          by_cases ho : yo = 1 ∨ yo = 30 ∨ yo = 35 ∨ yo = 38
          · obtain ⟨j, i, f9, hn, hfj, hvi⟩ := hok.1 ho
            obtain ⟨gf, cf', As, cs, ev, -, -, -, m3, -, hnm⟩ := HN.out.2.2.get hfj
            injection ev with ea eb ec
            subst ea ec
            obtain ⟨b9, rfl, hs9⟩ := hnm i ys hvi
            have hil := (List.getElem?_eq_some_iff.1 hvi).1
            have hjl := (List.getElem?_eq_some_iff.1 hfj).1
            have hv200 := (HIn.out j f9 hfj).2.2.1
            obtain ⟨e1, e2, e3⟩ := split_n hn (by omega)
            have q0 : decide (yn < 0) = false := decide_eq_false (by omega)
            have q1 : decide (fs.length ≤ j) = false := decide_eq_false (by omega)
            have q2 : decide (f9.vars.length ≤ i) = false := decide_eq_false (by omega)
            have g2 : (j : Int) < fs.length := by omega
            have g3 : (i : Int) < f9.vars.length := by omega
            have hcs : (yo == 1) = true ∨ ((yo == 1) = false ∧ (yo == 30) = true) ∨ ((yo == 1) = false ∧ (yo == 30) = false ∧ (yo == 35) = true) ∨ ((yo == 1) = false ∧ (yo == 30) = false ∧ (yo == 35) = false ∧ (yo == 38) = true) := by
              simp only [beq_iff_eq, beq_eq_false_iff_ne]
              omega
            clear ho hok hn hfj hvi hnm hil hjl e3
            rcases hcs with a1 | ⟨a1, a2⟩ | ⟨a1, a2, a3⟩ | ⟨a1, a2, a3, a4⟩
            all_goals
              go_wp2_with fail
              go_quiet (fail)
              go_wp2
              go_roundw
              case rel => exact ⟨k + 1, by omega, by go_num, below_drewN HN.out.1 nq⟩
              case measure => simp [intOf]; omega
          · by_cases hf : isFun yo = true
            · obtain ⟨j, f9, hn, hj1, hfj, hnm⟩ := hok.2 hf
              obtain ⟨gf, cf', As, cs, ev, -, m1, -, -, -, -⟩ := HN.out.2.2.get hfj
              injection ev with ea eb ec
              subst ea ec
              rw [hnm] at m1
              have hjl := (List.getElem?_eq_some_iff.1 hfj).1
              rw [hn] at x2
              have q0 : decide ((j : Int) < 1) = false := decide_eq_false (by omega)
              have q1 : decide (fs.length ≤ j) = false := decide_eq_false (by omega)
              have g2 : (j : Int) < fs.length := by omega
              have a1 : (yo == 1) = false := by rw [beq_eq_false_iff_ne]; omega
              have a2 : (yo == 30) = false := by rw [beq_eq_false_iff_ne]; omega
              have a3 : (yo == 35) = false := by rw [beq_eq_false_iff_ne]; omega
              have a4 : (yo == 38) = false := by rw [beq_eq_false_iff_ne]; omega
              have hcs : (yo == 10) = true ∨ ((yo == 10) = false ∧ (yo == 41) = true) := by
                unfold isFun at hf
                simp only [Bool.or_eq_true, beq_iff_eq] at hf
                simp only [beq_iff_eq, beq_eq_false_iff_ne]
                omega
              clear ho hf hok hn hfj hnm hjl hj1
              rcases hcs with a5 | ⟨a5, a6⟩
              all_goals
                go_wp2_with fail
                go_quiet (fail)
                go_wp2
                go_roundw
                case rel => exact ⟨k + 1, by omega, by go_num, below_drewN HN.out.1 nq⟩
                case measure => simp [intOf]; omega
            · have a1 : (yo == 1) = false := by rw [beq_eq_false_iff_ne]; omega
              have a2 : (yo == 30) = false := by rw [beq_eq_false_iff_ne]; omega
              have a3 : (yo == 35) = false := by rw [beq_eq_false_iff_ne]; omega
              have a4 : (yo == 38) = false := by rw [beq_eq_false_iff_ne]; omega
              have a5 : (yo == 10) = false := by rw [beq_eq_false_iff_ne]; unfold isFun at hf; simp at hf; omega
              have a6 : (yo == 41) = false := by rw [beq_eq_false_iff_ne]; unfold isFun at hf; simp at hf; omega
              clear ho hf hok
              go_wp2
              go_roundw
              case rel => exact ⟨k + 1, by omega, by go_num, HN.out.1⟩
              case measure => simp [intOf]; omega
        · have g1 : ¬ (k : Int) < ps.length := by omega
          have HN := Lib.hid hb
          clear hb
          go_wp2
          go_ret
          refine ⟨rfl, ?_⟩
          rw [← eN]
          exact H5.out.2.2.2.1.trans (HN.out.mono H5.out.2.2.2.1.size)
end Go.Proofs.Ytejbdoiamhfbjaa

namespace Go.Proofs.Ytejbdoiamhfbjaa.scopeRanges
open Go.ChangeShapes Go.WideShapes Go.ChangeAt Go.RowKit
open Go.ChangeMaps (open_string shut_string)

set_option maxRecDepth 100000 in
theorem lifted (os : Os) (started : os.Started) (H : Type) (enc : TypeId × Value → H) :
    ReturnsInHanded {} Try.checked os 8 .any (Rows.scopeRangesSpec.pre6 enc Try.prog Try.f8 Rows.scopeRangesRow.domain false) (Rows.scopeRangesSpec.post enc Try.prog Try.f8 false true false false) := by
  refine returnsInHanded_of_change (C := Try.checked) ownK started (by kernel_rfl) Try.func8
    (ChangeSpec.witness6 (enc := enc) (C := Try.checked) false ⟨#[], #[.agg #[.int .i64 0, .string ByteArray.empty, .int .i64 0, .slice none 0 0, .int .i64 0]], []⟩ 8 (by kernel_rfl) (by kernel_rfl) (by kernel_rfl) (by kernel_rfl)) ?_
  intro W base args ds gs before hval0 hW hcnd _
  have hval : ∀ (j : Nat) t v, Try.f8.params[j]? = some t → args[j]? = some v → Value.okWide Try.prog W .any base t v := hval0
  have hW' := hW
  obtain ⟨p, q, hA0, hV, rfl, hfz, hnd⟩ := hW
  have hA : DataW.TrodAll enc Try.prog W 0 (fun _ => true) true Try.f8.params.toList args.toList ds p := hA0
  rw [Try.params8] at hA hval
  obtain ⟨v0, vs0, d0, ds0, p0, q0, hargs, rfl, rfl, h0, r0⟩ := trodAll_cons hA
  obtain ⟨rfl, rfl, rfl⟩ := trodAll_nil r0
  obtain rfl : args = #[v0] := by cases args; simp_all
  obtain ⟨rfl, rfl⟩ := trodVars_none hV
  obtain ⟨a0, w0⟩ := open_node (hval 0 24 v0 rfl rfl) h0
  clear hA0 hval0
  simp only [List.append_nil] at hW'
  refine (ranges_any a0 v0 W w0).mono fun e W' ⟨he, bel⟩ => ?_
  subst he
  exact ⟨_, rfl, _, _, _, [], _, [], hW', trodAll_mk1 (shut_bool Try.underlying4 _), (trodAll_cons_mk (Below.trod laidOut (by kernel_rfl) (of_decide_eq_true (by kernel_rfl)) h0 bel (node_lt h0)) trodAll_mk0), rfl, bel.frame _, fun h => by cases h⟩

theorem over : Rows.scopeRangesRow.holds Try.pinned (OpenSpec.ofChange Rows.scopeRangesSpec) :=
  OpenClaim.holds_of_wide 8 Try.f8 rfl rfl rfl rfl rfl rfl rfl ⟨rfl, rfl, rfl, rfl, rfl⟩ rfl rfl rfl rfl rfl (by kernel_rfl) Try.func8 (by kernel_rfl)
    (of_decide_eq_true (by kernel_rfl)) (by unfold Func.isWrapper; first | (rw [if_pos (by decide +kernel)]; kernel_rfl) | (rw [if_neg (by decide +kernel)]; exact ⟨rfl, rfl⟩))
    (fun os started H enc _ => lifted os started H enc)

theorem proved : Rows.ScopeRangesSaid := over
#print axioms proved
end Go.Proofs.Ytejbdoiamhfbjaa.scopeRanges
