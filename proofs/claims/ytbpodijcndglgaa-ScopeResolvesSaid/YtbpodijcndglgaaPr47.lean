/- The document's tree: a tree that stands in a function. -/
import Derived.Deep.RegionLaw
import Derived.Deep.RegionHeldLaw
import Derived.Deep.DeepCutAuto
import Derived.Deep.CutBlock
import Derived.Test.YtbpodijcndglgaaPr46
set_option linter.unusedSimpArgs false
set_option linter.unusedVariables false
set_option maxRecDepth 100000
set_option maxHeartbeats 40000000
namespace Go.Proofs.Ytbpodijcndglgaa
section
open Go.RowKit Go.Proofs
theorem wtree_bad (W : World) (R B : Nat) (S : Nat → Prop) (ws : WS) (er l : Int) (fv v : Value) (hW : WkAt W R B ws er l fv) (hne : er ≠ 0) (t : Tr) (hT : TreeAt W S t v) (hS : ∀ k, S k → k < B) (hBR : B ≤ R) (loop : Bool) (a : Int) :
  Calls Try.prog 22 #[.pointer (some ⟨R, 0, none⟩), v, .int .i64 a, .bool loop] W (TreeR W R B S fv (.error (l, er))) := by
 obtain ⟨A, c, rfl, hrt, hfine⟩ := hT.form
 have hbx := heap_alloc_new W (.cells #[.int .i64 t.op, .string (bs t.s), .int .i64 t.n, .slice A t.l.length c, .int .i64 t.line] 24)
 have hal := (below_alloc9 W (.cells #[.int .i64 t.op, .string (bs t.s), .int .i64 t.n, .slice A t.l.length c, .int .i64 t.line] 24)).alloc (by simp) (.cells #[.int .i64 0, .string ⟨#[]⟩, .int .i64 0, .slice none 0 0, .int .i64 0] 24)
 have hbr := heap_alloc_new (W.alloc (.cells #[.int .i64 t.op, .string (bs t.s), .int .i64 t.n, .slice A t.l.length c, .int .i64 t.line] 24)) (.cells #[.int .i64 0, .string ⟨#[]⟩, .int .i64 0, .slice none 0 0, .int .i64 0] 24)
 have hbx2 := ((below_alloc9 (W.alloc (.cells #[.int .i64 t.op, .string (bs t.s), .int .i64 t.n, .slice A t.l.length c, .int .i64 t.line] 24)) (.cells #[.int .i64 0, .string ⟨#[]⟩, .int .i64 0, .slice none 0 0, .int .i64 0] 24)).block W.heap.size (by simp)).trans hbx
 rw [World.size_alloc] at hbr
 obtain ⟨W2, e2⟩ : ∃ x, (W.alloc (.cells #[.int .i64 t.op, .string (bs t.s), .int .i64 t.n, .slice A t.l.length c, .int .i64 t.line] 24)).alloc (.cells #[.int .i64 0, .string ⟨#[]⟩, .int .i64 0, .slice none 0 0, .int .i64 0] 24) = x := ⟨_, rfl⟩
 have z2 : W2.heap.size = W.heap.size + 2 := by rw [← e2]; simp
 rw [e2] at hal hbr hbx2
 obtain ⟨N, eN⟩ : ∃ N, W.heap.size = N := ⟨_, rfl⟩
 have hR := hW.lt
 have hW2 := hW.below hal
 rw [eN] at z2 hbx2 hbr hR hal
 obtain ⟨x0, x1, x2, x3, x4⟩ := (box_facts hbx2).1
 obtain ⟨⟨r0, r1, r2, r3, r4⟩, ⟨s0, s1, s2, s3, s4⟩⟩ := box_facts hbr
 have c2' := (four_facts hW2.head).1.2.2.1
 have HW := Lib.hid (And.intro hW2 (And.intro hbx2 (And.intro hbr (And.intro hal (And.intro e2 hT)))))
 clear hW2 hbx2 hbr hal hbx e2 hrt hfine hW hT
 go_enter Try.func22, Try.ntmps22
 go_upto_region 1 with fail
 rw [HW.out.2.2.2.2.1]
 go_wp2
 have hp5 := put5_only W2 (N + 1) (.int .i64 t.op) (.string (bs t.s)) (.int .i64 t.n) (.slice A t.l.length c) (.int .i64 t.line)
 refine ret_node (W := W2) (b := N + 1) 8 rfl rfl rfl HW.out.2.2.1 ⟨_, t, ws, er, l, fv, rfl, ?_, ?_, ?_, ?_, ?_⟩
 ·refine HW.out.2.2.2.2.2.keep (fun k hk => ⟨.inl hk, fun e => by have := (HW.out.1.apart e).1; have := hS k hk; omega⟩) (fun k hk => ?_)
  have := hS k hk
  exact (hp5.block k (by omega) (by omega)).trans (HW.out.2.2.2.1.block k (by omega))
 ·exact ⟨(hp5.block R HW.out.1.lt (by omega)).trans HW.out.1.head, HW.out.1.funs.only hp5 (fun k hk cs => node_apart ⟨_, hk ▸ HW.out.2.2.1⟩ cs)⟩
 ·exact fun k hk => .inl hk
 ·exact ⟨hp5.os.trans HW.out.2.2.2.1.os, hp5.tape.trans HW.out.2.2.2.1.tape, hp5.output.trans HW.out.2.2.2.1.output, by have := hp5.size; omega, fun k hk hn => (hp5.block k (by omega) (by omega)).trans (HW.out.2.2.2.1.block k (by omega))⟩
 ·exact ⟨hne, rfl, rfl⟩
theorem wtree_ok (t : Tr) (hfun : isFun t.op = true → FunOk t) (IH : ∀ u, u.size < t.size → TreeOk u) : TreeOk t := by
  intro W R B S ws fv v a loop hW hT hS hBR hI h0 h5 ha0 ha hkn hm hg hz
  obtain ⟨A, c, rfl, hrt, hfine⟩ := hT.form
  obtain ⟨A1, c1, e1, hc1, hc2⟩ := hrt.slice
  injection e1 with e2 e3 e4
  subst e2 e4
  have hc3 : c ≤ 9223372036854775807 := hc2
  have hbx := heap_alloc_new W (.cells #[.int .i64 t.op, .string (bs t.s), .int .i64 t.n, .slice A t.l.length c, .int .i64 t.line] 24)
  have hal := (below_alloc9 W (.cells #[.int .i64 t.op, .string (bs t.s), .int .i64 t.n, .slice A t.l.length c, .int .i64 t.line] 24)).alloc (by simp) (.cells #[.int .i64 0, .string ⟨#[]⟩, .int .i64 0, .slice none 0 0, .int .i64 0] 24)
  have hbr := heap_alloc_new (W.alloc (.cells #[.int .i64 t.op, .string (bs t.s), .int .i64 t.n, .slice A t.l.length c, .int .i64 t.line] 24)) (.cells #[.int .i64 0, .string ⟨#[]⟩, .int .i64 0, .slice none 0 0, .int .i64 0] 24)
  have hbx2 := ((below_alloc9 (W.alloc (.cells #[.int .i64 t.op, .string (bs t.s), .int .i64 t.n, .slice A t.l.length c, .int .i64 t.line] 24)) (.cells #[.int .i64 0, .string ⟨#[]⟩, .int .i64 0, .slice none 0 0, .int .i64 0] 24)).block W.heap.size (by simp)).trans hbx
  rw [World.size_alloc] at hbr
  obtain ⟨W2, e2⟩ : ∃ x, (W.alloc (.cells #[.int .i64 t.op, .string (bs t.s), .int .i64 t.n, .slice A t.l.length c, .int .i64 t.line] 24)).alloc (.cells #[.int .i64 0, .string ⟨#[]⟩, .int .i64 0, .slice none 0 0, .int .i64 0] 24) = x := ⟨_, rfl⟩
  have z2 : W2.heap.size = W.heap.size + 2 := by rw [← e2]; simp
  rw [e2] at hal hbr hbx2
  obtain ⟨N, eN⟩ : ∃ N, W.heap.size = N := ⟨_, rfl⟩
  have hR := hW.lt
  rw [eN] at z2 hbx2 hbr hR
  have hW2 := hW.below hal
  have hR2 : R < W2.heap.size := by omega
  have hN2 : N < W2.heap.size := by omega
  obtain ⟨x0, x1, x2, x3, x4⟩ := (box_facts hbx2).1
  have c2' := (four_facts hW2.head).1.2.2.1
  have HW := Lib.hid (And.intro hW2 (And.intro hbx2 (And.intro hbr (And.intro hal e2))))
  clear hW2 hbx2 hbr hal hbx e2
  have HH := Lib.hid (And.intro hW (And.intro hT (And.intro hrt (And.intro hfine (And.intro hS (And.intro hI (And.intro hkn (And.intro hg (And.intro hfun IH)))))))))
  clear hW hT hrt hfine hS hI hc2 hkn hg hfun IH
  go_enter Try.func22, Try.ntmps22
  go_upto_region 1 with fail
  rw [HW.out.2.2.2.2]
  go_wp2_with fail
  go_at_call 31
  refine (isFun_any t.op _ _ _ _ W2).mono ?_
  rintro e W3 ⟨rfl, hb3⟩
  have hW3 := HW.out.1.below hb3
  have hbx3 := (hb3.block N hN2).trans HW.out.2.1
  have hbr3 := (hb3.block (N + 1) (by omega)).trans HW.out.2.2.1
  have hon3 : Only (fun k => k = R) W W3 := (Only.of_below HW.out.2.2.2.1).trans' (Only.of_below hb3)
  have z3 := hb3.size
  clear x0 x1 x2 x3 x4 c2'
  obtain ⟨x0, x1, x2, x3, x4⟩ := (box_facts hbx3).1
  have H3 := Lib.hid (And.intro hW3 (And.intro hbx3 (And.intro hbr3 hon3)))
  clear hW3 hbx3 hbr3 hb3 hon3
  cases hfn : isFun t.op with
  | true =>
    have hF0 := HH.out.2.2.2.2.2.2.2.2.1 hfn W3 R B S ws fv _ a H3.out.1 (HH.out.2.1.keep (fun _ h => h) (fun k hk => H3.out.2.2.2.block k (by have := HH.out.2.2.2.2.1 k hk; omega) (by have := HH.out.2.2.2.2.1 k hk; omega))) HH.out.2.2.2.2.1 hBR HH.out.2.2.2.2.2.1 h0 h5 ha0 ha hm HH.out.2.2.2.2.2.2.2.1 hz
    rw [← resT_fun_loop t hfn a loop ws] at hF0
    have HF := Lib.hid hF0
    clear hF0
    go_wp2_with fail
    go_at_call 32
    refine HF.out.mono ?_
    rintro e W4 ⟨v4, t4, ws4, er4, l4, fv4, rfl, hT4, hW4, hn4, ho4, hout4⟩
    obtain ⟨A4, c4, rfl, -, -⟩ := hT4.form
    have hkp1 : ¬ (N + 1 = R ∨ fv.ownBlock = some (N + 1)) := fun e => e.elim (fun e => by omega) (fv_node H3.out.1 ⟨_, H3.out.2.2.1⟩)
    have hbr4 := (ho4.block (N + 1) (by omega) (hkp1)).trans H3.out.2.2.1
    obtain ⟨⟨r0, r1, r2, r3, r4⟩, ⟨s0, s1, s2, s3, s4⟩⟩ := box_facts hbr4
    have H4 := Lib.hid (And.intro hT4 (And.intro hW4 (And.intro hn4 (And.intro ho4 (And.intro hout4 hbr4)))))
    clear hT4 hW4 hn4 ho4 hout4 hbr4 x0 x1 x2 x3 x4
    go_wp2
    have hp5 := put5_only W4 (N + 1) (.int .i64 t4.op) (.string (bs t4.s)) (.int .i64 t4.n) (.slice A4 t4.l.length c4) (.int .i64 t4.line)
    refine ret_node (W := W4) (b := N + 1) 8 rfl rfl rfl H4.out.2.2.2.2.2 ⟨_, t4, ws4, er4, l4, fv4, rfl, ?_, ?_, ?_, ?_, H4.out.2.2.2.2.1⟩
    · refine H4.out.1.keep (fun k hk => ⟨hk.1.imp id (fun h => ⟨by have := h.1; omega, by have := hp5.size; have := h.2; omega⟩), hk.2⟩) (fun k hk => hp5.block k ?_ ?_)
      · rcases hk.1 with h | h
        · have := HH.out.2.2.2.2.1 k h; have := H4.out.2.2.2.1.size; omega
        · exact h.2
      · rcases hk.1 with h | h
        · have := HH.out.2.2.2.2.1 k h; omega
        · have := h.1; omega
    · exact ⟨(hp5.block R H4.out.2.1.lt (by omega)).trans H4.out.2.1.head, H4.out.2.1.funs.only hp5 (fun k hk cs => node_apart ⟨_, hk ▸ H4.out.2.2.2.2.2⟩ cs)⟩
    · exact fun k hk => (H4.out.2.2.1 k hk).imp id (fun e => by omega)
    · exact ⟨hp5.os.trans (H4.out.2.2.2.1.os.trans H3.out.2.2.2.os), hp5.tape.trans (H4.out.2.2.2.1.tape.trans H3.out.2.2.2.tape), hp5.output.trans (H4.out.2.2.2.1.output.trans H3.out.2.2.2.output), by have := hp5.size; have := H4.out.2.2.2.1.size; omega, fun k hk hn => (hp5.block k (by have := H4.out.2.2.2.1.size; omega) (by omega)).trans ((H4.out.2.2.2.1.block k (by omega) hn).trans (H3.out.2.2.2.block k hk (fun e => hn (.inl e))))⟩
  | false =>
    have hN3 : N < W3.heap.size := by omega
    have hR3 : R < W3.heap.size := by omega
    have hb4 := heap_alloc_new W3 (.cells #[.int .i64 t.op, .string (bs t.s), .int .i64 t.n, .slice none 0 0, .int .i64 t.line] 24)
    have hal4 := below_alloc9 W3 (.cells #[.int .i64 t.op, .string (bs t.s), .int .i64 t.n, .slice none 0 0, .int .i64 t.line] 24)
    obtain ⟨M, eM⟩ : ∃ M, W3.heap.size = M := ⟨_, rfl⟩
    obtain ⟨W4, e4⟩ : ∃ x, W3.alloc (.cells #[.int .i64 t.op, .string (bs t.s), .int .i64 t.n, .slice none 0 0, .int .i64 t.line] 24) = x := ⟨_, rfl⟩
    rw [e4] at hb4 hal4
    rw [eM] at hb4 z3
    have hM2 : N + 2 ≤ M := by omega
    have y0 := (hal4.cell (p := ⟨N, 0, none⟩) hN3).trans x0
    have y1 : (W3.alloc (.cells #[.int .i64 t.op, .string (bs t.s), .int .i64 t.n, .slice none 0 0, .int .i64 t.line] 24)).cell? ⟨N, 0, none⟩ = some (.int .i64 t.op) := by rw [e4]; exact y0
    have hT0 : TSt W W4 R B N M t A c t.n (.slice none 0 0) fv ws 0 0 fv := ⟨(hal4.block N hN3).trans H3.out.2.1, (hal4.block (N + 1) (by omega)).trans H3.out.2.2.1, hb4, H3.out.1.below hal4, (H3.out.2.2.2.mono (fun i _ e => .inl e)).trans' (Only.of_below hal4), fun k hk => .inl hk⟩
    have H4 := Lib.hid (And.intro hT0 e4)
    clear hb4 hal4 hT0
    have z4 : W4.heap.size = M + 1 := by rw [← e4, ← eM]; simp
    go_upto_block 0 with fail
    clear e4 y1
    obtain ⟨y0, y1, y2, y3, y4⟩ := (box_facts H4.out.1.node).1
    obtain ⟨⟨m0, m1, m2, m3, m4⟩, ⟨n0, n1, n2, n3, n4⟩⟩ := box_facts H4.out.1.box
    have hE := HH.out.2.2.2.2.2.1.earlier h5
    have HN := Lib.hid (And.intro hE (And.intro HH.out.2.2.2.2.2.1.1 (And.intro HH.out.2.2.2.1 hfn)))
    clear hE
    obtain ⟨hb1, hb2⟩ := HN.out.2.2.1.2.2
    go_cut [1, 3, 27] (fun _ s3 _ wc => ∃ nn ws1 er l, s3 = .bool (loop || t.op == 34) ∧ TSt W wc R B N M t A c nn (.slice none 0 0) fv ws1 er l fv ∧ Fork t a loop ws nn ws1 0 [] ws1 er l)
    case first =>
      by_cases ho1 : t.op = 1
      · have hq34 : (loop || t.op == 34) = loop := by rw [ho1]; simp
        have HF := Lib.hid (find_any W4 R B ws 0 0 fv H4.out.1.wk a t.s HN.out.1 ha)
        go_wp2_with fail
        go_at_call 33
        refine HF.out.mono ?_
        rintro e w5 ⟨rfl, rfl⟩
        have hvb := numd_fine HN.out.1 a t
        obtain ⟨v, hv⟩ : ∃ v, (findN ws.funs ws.funs.length a t.s).getD (-1) = v := ⟨_, rfl⟩
        rw [hv] at hvb ⊢
        by_cases hneg : v < 0
        · have hno : findN ws.funs ws.funs.length a t.s = none := by
            cases hc : findN ws.funs ws.funs.length a t.s with
            | none => rfl
            | some x => have := findN_le HN.out.1 t.s _ _ _ hc; rw [hc] at hv; have hv : x = v := hv; omega
          have HR := Lib.hid (show resT t a loop ws = .error (t.line, 50) from by rw [res_name HN.out.2.2.2 (.inl ho1), hno])
          have HG := Lib.hid (wfail_any W4 R B ws 0 fv H4.out.1.wk 50 t.line)
          clear hno hv
          go_wp2_with fail
          go_at_call 34
          refine HG.out.mono ?_
          rintro e w6 ⟨rfl, hw6, ho6⟩
          have hT6 := H4.out.1.turn hM2 (by omega) hw6 ho6
          obtain ⟨⟨k0, k1, k2, k3, k4⟩, ⟨l0, l1, l2, l3, l4⟩⟩ := box_facts hT6.box
          have H6 := Lib.hid hT6
          clear hw6 ho6 hT6
          go_wp2_with fail
          go_meet
          case rel => exact ⟨v, ws, 50, t.line, by rw [hq34], H6.out.setN hM2 eN (by omega) v, .bad HR.out (by decide) (by omega) (by omega)⟩
        · have hg0 : ¬ v < 0 := hneg
          have hso : findN ws.funs ws.funs.length a t.s = some v := by
            cases hc : findN ws.funs ws.funs.length a t.s with
            | none => rw [hc] at hv; have hv : (-1 : Int) = v := hv; omega
            | some x => rw [hc] at hv; have hv : x = v := hv; rw [hv]
          have HR := Lib.hid (show resT t a loop ws = nodeE t.op t.s v t.line (resL t.l a (lpf t loop) ws) from by rw [res_name HN.out.2.2.2 (.inl ho1), hso]; simp [lpf, ho1])
          clear hso hv
          go_wp2_with fail
          go_meet
          case rel => exact ⟨v, ws, 0, 0, by rw [hq34], H4.out.1.setN hM2 eN (by omega) v, .start HR.out rfl (Int.le_refl _) (by omega) (by omega) (by omega)⟩
      · by_cases ho2 : t.op = 30 ∨ t.op = 35 ∨ t.op = 38
        · obtain ⟨v, hso, hv0⟩ := HH.out.2.2.2.2.2.2.1.find ha0 ho2
          have hvb := findN_le HN.out.1 t.s _ _ _ hso
          have HF0 := find_any W4 R B ws 0 0 fv H4.out.1.wk a t.s HN.out.1 ha
          rw [hso] at HF0
          have HF := Lib.hid HF0
          have HR := Lib.hid (show resT t a loop ws = nodeE t.op t.s v t.line (resL t.l a (lpf t loop) ws) from by
            rw [res_name HN.out.2.2.2 (.inr ho2), hso]
            have hq : (t.op == 34) = false := by rw [beq_eq_false_iff_ne]; omega
            simp [lpf, hq])
          have hq34 : (loop || t.op == 34) = loop := by
            have hq : (t.op == 34) = false := by rw [beq_eq_false_iff_ne]; omega
            rw [hq, Bool.or_false]
          clear hso HF0
          rcases ho2 with ho2 | ho2 | ho2
          all_goals
            go_wp2_with fail
            go_at_call 33
            refine HF.out.mono ?_
            rintro e w5 ⟨rfl, rfl⟩
            go_wp2_with fail
            go_meet
            case rel => exact ⟨v, ws, 0, 0, by rw [hq34], H4.out.1.setN hM2 eN (by omega) v, .start HR.out rfl (Int.le_refl _) (by omega) (by omega) (by omega)⟩
        · have hno2 : ¬ t.op = 30 ∧ ¬ t.op = 35 ∧ ¬ t.op = 38 := ⟨by omega, by omega, by omega⟩
          clear ho2
          obtain ⟨p30, p35, p38⟩ := hno2
          by_cases ho3 : t.op = 11 ∨ t.op = 15 ∨ t.op = 16
          · have HR := Lib.hid (show resT t a loop ws = nodeE t.op t.s ws.mark t.line (resL t.l a (lpf t loop) ⟨ws.funs, ws.mark + 1⟩) from by
              rw [res_mark HN.out.2.2.2 ho3]
              have hq : (t.op == 34) = false := by rw [beq_eq_false_iff_ne]; omega
              have hq2 : (t.op == 35) = false := by rw [beq_eq_false_iff_ne]; omega
              simp [lpf, hq, hq2])
            have hq34 : (loop || t.op == 34) = loop := by
              have hq : (t.op == 34) = false := by rw [beq_eq_false_iff_ne]; omega
              rw [hq, Bool.or_false]
            have hm4 := HN.out.2.1
            have hw1 : IntKind.i64.wrap (ws.mark + 1) = ws.mark + 1 := IntWalk.i64_in _ (by omega)
            have hT5 := H4.out.1.setN hM2 eN (by omega) ws.mark
            obtain ⟨w5, e5⟩ : ∃ x, W4.setCell ⟨M, 2, none⟩ (.int .i64 ws.mark) = x := ⟨_, rfl⟩
            rw [e5] at hT5
            obtain ⟨⟨-, c1, -, -⟩, ⟨-, cf1, -, -⟩⟩ := four_facts H4.out.1.wk.head
            obtain ⟨⟨-, d1, -, -⟩, ⟨-, df1, -, -⟩⟩ := four_facts hT5.wk.head
            have H5 := Lib.hid hT5
            clear hT5
            rcases ho3 with ho3 | ho3 | ho3
            all_goals
              go_wp2_with fail
              go_meet
              case rel => exact ⟨ws.mark, ⟨ws.funs, ws.mark + 1⟩, 0, 0, by rw [hq34], H5.out.mark hM2 (by omega) _, .start HR.out rfl (by show ws.mark ≤ ws.mark + 1; omega) (Int.le_refl _) (by omega) (by omega)⟩
          · have hno3 : ¬ t.op = 11 ∧ ¬ t.op = 15 ∧ ¬ t.op = 16 := ⟨by omega, by omega, by omega⟩
            clear ho3
            obtain ⟨p11, p15, p16⟩ := hno3
            by_cases ho4 : t.op = 36
            · have hq34 : (loop || t.op == 34) = loop := by rw [ho4]; simp
              by_cases haa : a = 0
              · subst haa
                have HR := Lib.hid (show resT t 0 loop ws = .error (t.line, 51) from res_jump HN.out.2.2.2 (.inl ⟨ho4, rfl⟩))
                have HG := Lib.hid (wfail_any W4 R B ws 0 fv H4.out.1.wk 51 t.line)
                go_wp2_with fail
                go_at_call 34
                refine HG.out.mono ?_
                rintro e w6 ⟨rfl, hw6, ho6⟩
                have hT6 := H4.out.1.turn hM2 (by omega) hw6 ho6
                have H6 := Lib.hid hT6
                clear hw6 ho6 hT6
                go_wp2_with fail
                go_meet
                case rel => exact ⟨t.n, ws, 51, t.line, by rw [hq34], H6.out, .bad HR.out (by decide) (by omega) (by omega)⟩
              · skip
                have HR := Lib.hid (show resT t a loop ws = nodeE t.op t.s t.n t.line (resL t.l a (lpf t loop) ws) from by rw [res_else HN.out.2.2.2 (by omega) (by omega) (by omega)]; simp [lpf, ho4])
                go_wp2_with fail
                go_meet
                case rel => exact ⟨t.n, ws, 0, 0, by rw [hq34], H4.out.1, .start HR.out rfl (Int.le_refl _) (by omega) (by omega) (by omega)⟩
            · by_cases ho5 : t.op = 39 ∨ t.op = 40
              · have hq34 : (loop || t.op == 34) = loop := by
                  have hq : (t.op == 34) = false := by rw [beq_eq_false_iff_ne]; omega
                  rw [hq, Bool.or_false]
                have hq35 : (t.op == 35) = false := by rw [beq_eq_false_iff_ne]; omega
                cases loop with
                | false =>
                  have HR := Lib.hid (show resT t a false ws = .error (t.line, 51) from res_jump HN.out.2.2.2 (.inr ⟨ho5, rfl⟩))
                  have HG := Lib.hid (wfail_any W4 R B ws 0 fv H4.out.1.wk 51 t.line)
                  rcases ho5 with ho5 | ho5
                  all_goals
                    go_wp2_with fail
                    go_at_call 34
                    refine HG.out.mono ?_
                    rintro e w6 ⟨rfl, hw6, ho6⟩
                    have hT6 := H4.out.1.turn hM2 (by omega) hw6 ho6
                    have H6 := Lib.hid hT6
                    clear hw6 ho6 hT6
                    go_wp2_with fail
                    go_meet
                    case rel => exact ⟨t.n, ws, 51, t.line, by rw [hq34], H6.out, .bad HR.out (by decide) (by omega) (by omega)⟩
                | true =>
                  have HR := Lib.hid (show resT t a true ws = nodeE t.op t.s t.n t.line (resL t.l a (lpf t true) ws) from by rw [res_else HN.out.2.2.2 (by omega) (by omega) (by simp; omega)]; simp [lpf])
                  rcases ho5 with ho5 | ho5
                  all_goals
                    go_wp2_with fail
                    go_meet
                    case rel => exact ⟨t.n, ws, 0, 0, by rw [hq34], H4.out.1, .start HR.out rfl (Int.le_refl _) (by omega) (by omega) (by omega)⟩
              · have hno5 : ¬ t.op = 39 ∧ ¬ t.op = 40 := ⟨by omega, by omega⟩
                clear ho5
                obtain ⟨p39, p40⟩ := hno5
                have hq35 : (t.op == 35) = false := by rw [beq_eq_false_iff_ne]; omega
                have HR := Lib.hid (show resT t a loop ws = nodeE t.op t.s t.n t.line (resL t.l a (lpf t loop) ws) from by rw [res_else HN.out.2.2.2 (by omega) (by omega) (by omega)]; simp [lpf, hq35])
                by_cases ho6 : t.op = 34
                · have hq34 : (loop || t.op == 34) = true := by rw [ho6]; simp
                  go_wp2_with fail
                  go_meet
                  case rel => exact ⟨t.n, ws, 0, 0, by rw [hq34], H4.out.1, .start HR.out rfl (Int.le_refl _) (by omega) (by omega) (by omega)⟩
                · have hq34 : (loop || t.op == 34) = loop := by
                    have hq : (t.op == 34) = false := by rw [beq_eq_false_iff_ne]; omega
                    rw [hq, Bool.or_false]
                  go_wp2_with fail
                  go_meet
                  case rel => exact ⟨t.n, ws, 0, 0, by rw [hq34], H4.out.1, .start HR.out rfl (Int.le_refl _) (by omega) (by omega) (by omega)⟩
    case rest =>
    obtain ⟨nn, ws1, er, l, rfl, hT1, hFk⟩ := hcut
    obtain ⟨lq, hlq⟩ : ∃ x, (loop || t.op == 34) = x := ⟨_, rfl⟩
    rw [hlq]
    have HS := Lib.hid (And.intro hT1 (And.intro hFk hlq))
    clear hT1 hFk hlq y0 y1 y2 y3 y4 m0 m1 m2 m3 m4 n0 n1 n2 n3 n4 x0 x1 x2 x3 x4 hb1 hb2 H4 H3 hc1 hc3 hR2 hN2 hN3 hR3 z4
    go_wp2_with fail
    go_loopw [11] (fun i wr => ∃ (k : Nat) (Ao : Option Addr) (co : Nat) (ts : List Tr) (ws' : WS) (er l : Int) (fv' : Value), k ≤ t.l.length ∧ i = .int .i64 k ∧ TWalk W wr R B N M S t A c nn fv k Ao co ts ws' er l fv' ∧ Fork t a loop ws nn ws1 k ts ws' er l) (fun i _ => t.l.length - (intOf i).toNat)
    case atStart => exact ⟨0, none, 0, [], ws1, er, l, fv, Nat.zero_le _, rfl, ⟨HS.out.1, AccP.nil, rfl⟩, HS.out.2.1⟩
    case round =>
      obtain ⟨k, Ao, co, ts, ws', er', l', fv', hk, rfl, hw, hFk⟩ := hrel
      obtain ⟨Wr, eWr⟩ : ∃ x, x = wr := ⟨_, rfl⟩
      subst eWr
      obtain ⟨x0, x1, x2, x3, x4⟩ := (box_facts hw.st.node).1
      have m3 := (box_facts hw.st.box).1.2.2.2.1
      have hrowr : RowAt Wr S t.l (.slice A t.l.length c) := HH.out.2.2.1.keep (fun _ h => h) fun i hi => hw.st.on.block i (by have := HH.out.2.2.2.2.1 i hi; omega) (fun e => e.elim (fun e => by have := HH.out.2.2.2.2.1 i hi; omega) (fun e => by have := (HH.out.1.apart e).1; have := HH.out.2.2.2.2.1 i hi; omega))
      by_cases hlt : k < t.l.length
      · obtain ⟨g, off, q, A', c', e', hSg, hq, hTq, y0, y1, y2, y3, y4⟩ := part_get hrowr k hlt
        cases e'
        have g2 : (k : Int) < t.l.length := by omega
        have hpm : q ∈ t.l := List.mem_of_getElem? hq
        have hps := size_part (t := t) hpm
        have hTd : TreeAt Wr.drew S q (.agg #[.int .i64 q.op, .string (bs q.s), .int .i64 q.n, .slice A' q.l.length c', .int .i64 q.line]) := hTq.keep (fun _ h => h) (fun _ _ => rfl)
        have hWd : WkAt Wr.drew R B ws' er' l' fv' := ⟨hw.st.wk.head, hw.st.wk.funs.only ((Only.refl (fun k => k = R) Wr).drew) (walker_apart9 hw.st.wk.head)⟩
        obtain ⟨r5, hr5⟩ : ∃ x, (if er' = 0 then resT q a (lpf t loop) ws' else .error (l', er')) = x := ⟨_, rfl⟩
        have hT0 : Calls Try.prog 22 #[.pointer (some ⟨R, 0, none⟩), .agg #[.int .i64 q.op, .string (bs q.s), .int .i64 q.n, .slice A' q.l.length c', .int .i64 q.line], .int .i64 a, .bool (lpf t loop)] Wr.drew (TreeR Wr.drew R B S fv' r5) := by
          by_cases her : er' = 0
          · rw [if_pos her] at hr5
            rw [← hr5]
            subst her
            obtain ⟨rfl, k1, k2, k3, k4, k5, k6⟩ := hFk.next hq HH.out.2.2.2.2.2.1 h0 h5 ha0 ha hfn HH.out.2.2.2.2.2.2.1 hm
            exact HH.out.2.2.2.2.2.2.2.2.2 q hps Wr.drew R B S ws' fv' _ a (lpf t loop) hWd hTd HH.out.2.2.2.2.1 hBR k1 k2 k3 ha0 k4 k5 k6 (HH.out.2.2.2.2.2.2.2.1.part hpm) (by omega)
          · rw [if_neg her] at hr5
            rw [← hr5]
            exact wtree_bad Wr.drew R B S ws' er' l' fv' _ hWd her q hTd HH.out.2.2.2.2.1 hBR (lpf t loop) a
        have hkz : k ≤ 1000000 := by have := size_eq t; have := length_le_sizes t.l; omega
        have hiw : IntKind.i64.wrap ((k : Int) + 1) = (k : Int) + 1 := IntWalk.i64_in _ (by omega)
        have HPost := Lib.hid (fun e w6 (he : TreeR Wr.drew R B S fv' r5 e w6) => hw.step HH.out.2.2.2.2.1 hBR hR hM2 eN hkz he)
        have HF5 := Lib.hid (fun tb ws6 er6 l6 (ho : Out5 r5 tb ws6 er6 l6) => hFk.step hq hr5.symm ho)
        have hlpf : lpf t loop = (lq || t.op == 35) := by rw [← HS.out.2.2]; rfl
        rw [hlpf] at hT0
        clear hFk hr5 hpm hps hTd hWd hlpf hkz hTq hSg hq hrowr hw hlt hk x1 x2 x4
        clear hBR h0 h5 ha0 ha hm hz z2 eN hR z3 eM hM2 hfn HW HH HN HS
        cases lq with
        | true =>
          rw [Bool.true_or] at hT0
          have HT := Lib.hid hT0
          clear hT0 x0
          go_upto_region 34 with fail
          refine wp_region_any (by kernel_rfl) ?_
          change wpAny _ _ _ _ _ _ _ (World.drew _)
          refine wpAny_take (i := 0) (v := ?_) rfl (by kernel_rfl) (by kernel_rfl) (by kernel_rfl) (fun _ _ _ h => h) (Or.inl ⟨by rfl, ?_⟩) ?_
          rotate_left
          · (intro w; go_simp <;> with_reducible rfl)
          refine wpAny_take (i := 2) (v := ?_) rfl (by kernel_rfl) (by kernel_rfl) (by kernel_rfl) (fun _ _ _ h => h) (Or.inl ⟨by rfl, ?_⟩) ?_
          rotate_left
          · (intro w; go_simp <;> with_reducible rfl)
          refine wpAny_take (i := 3) (v := ?_) rfl (by kernel_rfl) (by kernel_rfl) (by kernel_rfl) (fun _ _ _ h => h) (Or.inl ⟨by rfl, ?_⟩) ?_
          rotate_left
          · (intro w; go_simp <;> with_reducible rfl)
          refine wpAny_take (i := 5) (v := ?_) rfl (by kernel_rfl) (by kernel_rfl) (by kernel_rfl) (fun _ _ _ h => h) (Or.inl ⟨by rfl, ?_⟩) ?_
          rotate_left
          · (intro w; go_simp <;> with_reducible rfl)
          refine wpAny_take (i := 8) (v := ?_) rfl (by kernel_rfl) (by kernel_rfl) (by kernel_rfl) (fun _ _ _ h => h) (Or.inl ⟨by rfl, ?_⟩) ?_
          rotate_left
          · (intro w; go_simp <;> with_reducible rfl)
          refine wpAny_take (i := 9) (v := ?_) rfl (by kernel_rfl) (by kernel_rfl) (by kernel_rfl) (fun _ _ _ h => h) (Or.inl ⟨by rfl, ?_⟩) ?_
          rotate_left
          · (intro w; go_simp <;> with_reducible rfl)
          refine wpAny_take (i := 10) (v := ?_) rfl (by kernel_rfl) (by kernel_rfl) (by kernel_rfl) (fun _ _ _ h => h) (Or.inl ⟨by rfl, ?_⟩) ?_
          rotate_left
          · (intro w; go_simp <;> with_reducible rfl)
          refine wpAny_take (i := 11) (v := undef) rfl (by kernel_rfl) (by kernel_rfl) (by kernel_rfl) (fun _ _ _ h => h) (Or.inr ⟨by go_simp, rfl⟩) ?_
          refine wpAny_take (i := 12) (v := undef) rfl (by kernel_rfl) (by kernel_rfl) (by kernel_rfl) (fun _ _ _ h => h) (Or.inr ⟨by go_simp, rfl⟩) ?_
          refine wpAny_take (i := 13) (v := undef) rfl (by kernel_rfl) (by kernel_rfl) (by kernel_rfl) (fun _ _ _ h => h) (Or.inr ⟨by go_simp, rfl⟩) ?_
          refine wpAny_take (i := 14) (v := ?_) rfl (by kernel_rfl) (by kernel_rfl) (by kernel_rfl) (fun _ _ _ h => h) (Or.inl ⟨by rfl, ?_⟩) ?_
          rotate_left
          · (intro w; go_simp <;> with_reducible rfl)
          refine wpAny_ready (rs := [1, 4]) (by kernel_rfl) (by simp) ?_
          refine AllReady.cons rfl (fun K hK => ?_) ?_
          · go_simp
            first | (refine hK _ _ ?_; clear hK K) | skip
            refine wpAny_ready (rs := [4]) (by kernel_rfl) (by simp) ?_
            refine AllReady.cons rfl (fun K hK => ?_) ?_
            · go_simp
              first | (refine hK _ _ ?_; clear hK K) | skip
              refine wpAny_take (i := 6) (v := ?_) rfl (by kernel_rfl) (by kernel_rfl) (by kernel_rfl) (fun _ _ _ h => h) (Or.inl ⟨by rfl, ?_⟩) ?_
              rotate_left
              · (intro w; go_simp <;> with_reducible rfl)
              refine wpAny_ready (rs := [7]) (by kernel_rfl) (by simp) ?_
              refine AllReady.cons rfl (fun K hK => ?_) ?_
              · go_simp
                first | (refine hK _ _ ?_; clear hK K) | skip
                refine wpAny_ready (rs := [15]) (by kernel_rfl) (by simp) ?_
                refine AllReady.cons rfl (fun K hK => ?_) ?_
                · (go_simp; go_at_call 22; refine HT.out.mono ?_; rintro e w6 he; obtain ⟨tb, A9, c9, ws6, er6, l6, fv6, A8, c8, w8, rfl, mm3, mx3, hrun, mm8, ms8, HQ6⟩ := HPost.out e w6 he; have HRun := Lib.hid hrun; clear he hrun)
                  try go_simp
                  first | (refine hK _ _ ?_; clear hK K) | skip
                  refine wpAny_ready (rs := [16]) (by kernel_rfl) (by simp) ?_
                  refine AllReady.cons rfl (fun K hK => ?_) ?_
                  · go_simp
                    first | (refine hK _ _ ?_; clear hK K) | skip
                    refine wpAny_ready (rs := [17]) (by kernel_rfl) (by simp) ?_
                    refine AllReady.cons rfl (fun K hK => ?_) ?_
                    · (refine step_app rfl (.tmp 96) (.tmp 111) 22 rfl (.slice Ao k co) (.slice (some ⟨w6.heap.size, 0, none⟩) 1 1) rfl rfl (fun v w => v = .slice A8 (k + 1) c8 ∧ w = w8) ⟨_, _, HRun.out, rfl, rfl⟩ ?_; rintro u w9 ⟨rfl, rfl⟩)
                      try go_simp
                      first | (refine hK _ _ ?_; clear hK K) | skip
                      refine wpAny_take (i := 18) (v := ?_) rfl (by kernel_rfl) (by kernel_rfl) (by kernel_rfl) (fun _ _ _ h => h) (Or.inl ⟨by rfl, ?_⟩) ?_
                      rotate_left
                      · (intro w; go_simp <;> with_reducible rfl)
                      refine wpAny_ready (rs := [19]) (by kernel_rfl) (by simp) ?_
                      refine AllReady.cons rfl (fun K hK => ?_) ?_
                      · go_simp
                        first | (refine hK _ _ ?_; clear hK K) | skip
                        refine wpAny_done (by kernel_rfl) ?_ _
                        go_wp2_with fail
                        go_roundw
                        case rel => exact ⟨k + 1, A8, c8, ts ++ [tb], ws6, er6, l6, fv6, by omega, by go_num, HQ6.out.1, HF5.out _ _ _ _ HQ6.out.2⟩
                        case measure => simp [intOf]; omega
                      exact AllReady.nil
                    exact AllReady.nil
                  exact AllReady.nil
                exact AllReady.nil
              exact AllReady.nil
            exact AllReady.nil
          refine AllReady.cons rfl (fun K hK => ?_) ?_
          · go_simp
            first | (refine hK _ _ ?_; clear hK K) | skip
            refine wpAny_take (i := 6) (v := ?_) rfl (by kernel_rfl) (by kernel_rfl) (by kernel_rfl) (fun _ _ _ h => h) (Or.inl ⟨by rfl, ?_⟩) ?_
            rotate_left
            · (intro w; go_simp <;> with_reducible rfl)
            refine wpAny_ready (rs := [1, 7]) (by kernel_rfl) (by simp) ?_
            refine AllReady.cons rfl (fun K hK => ?_) ?_
            · go_simp
              first | (refine hK _ _ ?_; clear hK K) | skip
              refine wpAny_ready (rs := [7]) (by kernel_rfl) (by simp) ?_
              refine AllReady.cons rfl (fun K hK => ?_) ?_
              · go_simp
                first | (refine hK _ _ ?_; clear hK K) | skip
                refine wpAny_ready (rs := [15]) (by kernel_rfl) (by simp) ?_
                refine AllReady.cons rfl (fun K hK => ?_) ?_
                · (go_simp; go_at_call 22; refine HT.out.mono ?_; rintro e w6 he; obtain ⟨tb, A9, c9, ws6, er6, l6, fv6, A8, c8, w8, rfl, mm3, mx3, hrun, mm8, ms8, HQ6⟩ := HPost.out e w6 he; have HRun := Lib.hid hrun; clear he hrun)
                  try go_simp
                  first | (refine hK _ _ ?_; clear hK K) | skip
                  refine wpAny_ready (rs := [16]) (by kernel_rfl) (by simp) ?_
                  refine AllReady.cons rfl (fun K hK => ?_) ?_
                  · go_simp
                    first | (refine hK _ _ ?_; clear hK K) | skip
                    refine wpAny_ready (rs := [17]) (by kernel_rfl) (by simp) ?_
                    refine AllReady.cons rfl (fun K hK => ?_) ?_
                    · (refine step_app rfl (.tmp 96) (.tmp 111) 22 rfl (.slice Ao k co) (.slice (some ⟨w6.heap.size, 0, none⟩) 1 1) rfl rfl (fun v w => v = .slice A8 (k + 1) c8 ∧ w = w8) ⟨_, _, HRun.out, rfl, rfl⟩ ?_; rintro u w9 ⟨rfl, rfl⟩)
                      try go_simp
                      first | (refine hK _ _ ?_; clear hK K) | skip
                      refine wpAny_take (i := 18) (v := ?_) rfl (by kernel_rfl) (by kernel_rfl) (by kernel_rfl) (fun _ _ _ h => h) (Or.inl ⟨by rfl, ?_⟩) ?_
                      rotate_left
                      · (intro w; go_simp <;> with_reducible rfl)
                      refine wpAny_ready (rs := [19]) (by kernel_rfl) (by simp) ?_
                      refine AllReady.cons rfl (fun K hK => ?_) ?_
                      · go_simp
                        first | (refine hK _ _ ?_; clear hK K) | skip
                        refine wpAny_done (by kernel_rfl) ?_ _
                        go_wp2_with fail
                        go_roundw
                        case rel => exact ⟨k + 1, A8, c8, ts ++ [tb], ws6, er6, l6, fv6, by omega, by go_num, HQ6.out.1, HF5.out _ _ _ _ HQ6.out.2⟩
                        case measure => simp [intOf]; omega
                      exact AllReady.nil
                    exact AllReady.nil
                  exact AllReady.nil
                exact AllReady.nil
              exact AllReady.nil
            refine AllReady.cons rfl (fun K hK => ?_) ?_
            · go_simp
              first | (refine hK _ _ ?_; clear hK K) | skip
              refine wpAny_ready (rs := [1, 15]) (by kernel_rfl) (by simp) ?_
              refine AllReady.cons rfl (fun K hK => ?_) ?_
              · go_simp
                first | (refine hK _ _ ?_; clear hK K) | skip
                refine wpAny_ready (rs := [15]) (by kernel_rfl) (by simp) ?_
                refine AllReady.cons rfl (fun K hK => ?_) ?_
                · (go_simp; go_at_call 22; refine HT.out.mono ?_; rintro e w6 he; obtain ⟨tb, A9, c9, ws6, er6, l6, fv6, A8, c8, w8, rfl, mm3, mx3, hrun, mm8, ms8, HQ6⟩ := HPost.out e w6 he; have HRun := Lib.hid hrun; clear he hrun)
                  try go_simp
                  first | (refine hK _ _ ?_; clear hK K) | skip
                  refine wpAny_ready (rs := [16]) (by kernel_rfl) (by simp) ?_
                  refine AllReady.cons rfl (fun K hK => ?_) ?_
                  · go_simp
                    first | (refine hK _ _ ?_; clear hK K) | skip
                    refine wpAny_ready (rs := [17]) (by kernel_rfl) (by simp) ?_
                    refine AllReady.cons rfl (fun K hK => ?_) ?_
                    · (refine step_app rfl (.tmp 96) (.tmp 111) 22 rfl (.slice Ao k co) (.slice (some ⟨w6.heap.size, 0, none⟩) 1 1) rfl rfl (fun v w => v = .slice A8 (k + 1) c8 ∧ w = w8) ⟨_, _, HRun.out, rfl, rfl⟩ ?_; rintro u w9 ⟨rfl, rfl⟩)
                      try go_simp
                      first | (refine hK _ _ ?_; clear hK K) | skip
                      refine wpAny_take (i := 18) (v := ?_) rfl (by kernel_rfl) (by kernel_rfl) (by kernel_rfl) (fun _ _ _ h => h) (Or.inl ⟨by rfl, ?_⟩) ?_
                      rotate_left
                      · (intro w; go_simp <;> with_reducible rfl)
                      refine wpAny_ready (rs := [19]) (by kernel_rfl) (by simp) ?_
                      refine AllReady.cons rfl (fun K hK => ?_) ?_
                      · go_simp
                        first | (refine hK _ _ ?_; clear hK K) | skip
                        refine wpAny_done (by kernel_rfl) ?_ _
                        go_wp2_with fail
                        go_roundw
                        case rel => exact ⟨k + 1, A8, c8, ts ++ [tb], ws6, er6, l6, fv6, by omega, by go_num, HQ6.out.1, HF5.out _ _ _ _ HQ6.out.2⟩
                        case measure => simp [intOf]; omega
                      exact AllReady.nil
                    exact AllReady.nil
                  exact AllReady.nil
                exact AllReady.nil
              refine AllReady.cons rfl (fun K hK => ?_) ?_
              · (go_simp; go_at_call 22; refine HT.out.mono ?_; rintro e w6 he; obtain ⟨tb, A9, c9, ws6, er6, l6, fv6, A8, c8, w8, rfl, mm3, mx3, hrun, mm8, ms8, HQ6⟩ := HPost.out e w6 he; have HRun := Lib.hid hrun; clear he hrun)
                try go_simp
                first | (refine hK _ _ ?_; clear hK K) | skip
                refine wpAny_ready (rs := [1, 16]) (by kernel_rfl) (by simp) ?_
                refine AllReady.cons rfl (fun K hK => ?_) ?_
                · go_simp
                  first | (refine hK _ _ ?_; clear hK K) | skip
                  refine wpAny_ready (rs := [16]) (by kernel_rfl) (by simp) ?_
                  refine AllReady.cons rfl (fun K hK => ?_) ?_
                  · go_simp
                    first | (refine hK _ _ ?_; clear hK K) | skip
                    refine wpAny_ready (rs := [17]) (by kernel_rfl) (by simp) ?_
                    refine AllReady.cons rfl (fun K hK => ?_) ?_
                    · (refine step_app rfl (.tmp 96) (.tmp 111) 22 rfl (.slice Ao k co) (.slice (some ⟨w6.heap.size, 0, none⟩) 1 1) rfl rfl (fun v w => v = .slice A8 (k + 1) c8 ∧ w = w8) ⟨_, _, HRun.out, rfl, rfl⟩ ?_; rintro u w9 ⟨rfl, rfl⟩)
                      try go_simp
                      first | (refine hK _ _ ?_; clear hK K) | skip
                      refine wpAny_take (i := 18) (v := ?_) rfl (by kernel_rfl) (by kernel_rfl) (by kernel_rfl) (fun _ _ _ h => h) (Or.inl ⟨by rfl, ?_⟩) ?_
                      rotate_left
                      · (intro w; go_simp <;> with_reducible rfl)
                      refine wpAny_ready (rs := [19]) (by kernel_rfl) (by simp) ?_
                      refine AllReady.cons rfl (fun K hK => ?_) ?_
                      · go_simp
                        first | (refine hK _ _ ?_; clear hK K) | skip
                        refine wpAny_done (by kernel_rfl) ?_ _
                        go_wp2_with fail
                        go_roundw
                        case rel => exact ⟨k + 1, A8, c8, ts ++ [tb], ws6, er6, l6, fv6, by omega, by go_num, HQ6.out.1, HF5.out _ _ _ _ HQ6.out.2⟩
                        case measure => simp [intOf]; omega
                      exact AllReady.nil
                    exact AllReady.nil
                  exact AllReady.nil
                refine AllReady.cons rfl (fun K hK => ?_) ?_
                · go_simp
                  first | (refine hK _ _ ?_; clear hK K) | skip
                  refine wpAny_ready (rs := [1]) (by kernel_rfl) (by simp) ?_
                  refine AllReady.cons rfl (fun K hK => ?_) ?_
                  · go_simp
                    first | (refine hK _ _ ?_; clear hK K) | skip
                    refine wpAny_ready (rs := [17]) (by kernel_rfl) (by simp) ?_
                    refine AllReady.cons rfl (fun K hK => ?_) ?_
                    · (refine step_app rfl (.tmp 96) (.tmp 111) 22 rfl (.slice Ao k co) (.slice (some ⟨w6.heap.size, 0, none⟩) 1 1) rfl rfl (fun v w => v = .slice A8 (k + 1) c8 ∧ w = w8) ⟨_, _, HRun.out, rfl, rfl⟩ ?_; rintro u w9 ⟨rfl, rfl⟩)
                      try go_simp
                      first | (refine hK _ _ ?_; clear hK K) | skip
                      refine wpAny_take (i := 18) (v := ?_) rfl (by kernel_rfl) (by kernel_rfl) (by kernel_rfl) (fun _ _ _ h => h) (Or.inl ⟨by rfl, ?_⟩) ?_
                      rotate_left
                      · (intro w; go_simp <;> with_reducible rfl)
                      refine wpAny_ready (rs := [19]) (by kernel_rfl) (by simp) ?_
                      refine AllReady.cons rfl (fun K hK => ?_) ?_
                      · go_simp
                        first | (refine hK _ _ ?_; clear hK K) | skip
                        refine wpAny_done (by kernel_rfl) ?_ _
                        go_wp2_with fail
                        go_roundw
                        case rel => exact ⟨k + 1, A8, c8, ts ++ [tb], ws6, er6, l6, fv6, by omega, by go_num, HQ6.out.1, HF5.out _ _ _ _ HQ6.out.2⟩
                        case measure => simp [intOf]; omega
                      exact AllReady.nil
                    exact AllReady.nil
                  exact AllReady.nil
                exact AllReady.nil
              exact AllReady.nil
            exact AllReady.nil
          exact AllReady.nil
        | false =>
          rw [Bool.false_or] at hT0
          have hT1 : Calls Try.prog 22 #[.pointer (some ⟨R, 0, none⟩), .agg #[.int .i64 q.op, .string (bs q.s), .int .i64 q.n, .slice A' q.l.length c', .int .i64 q.line], .int .i64 a, .bool (decide (t.op = 35))] Wr.drew (TreeR Wr.drew R B S fv' r5) := hT0
          have HT := Lib.hid hT1
          clear hT0 hT1
          go_upto_region 34 with fail
          go_region_law (first
            | (refine step_app rfl (.tmp 96) (.tmp 111) 22 rfl (.slice Ao k co) (.slice (some ⟨w6.heap.size, 0, none⟩) 1 1) rfl rfl (fun v w => v = .slice A8 (k + 1) c8 ∧ w = w8) ⟨_, _, HRun.out, rfl, rfl⟩ ?_; rintro u w9 ⟨rfl, rfl⟩)
            | (go_simp; go_at_call 22; refine HT.out.mono ?_; rintro e w6 he; obtain ⟨tb, A9, c9, ws6, er6, l6, fv6, A8, c8, w8, rfl, mm3, mx3, hrun, mm8, ms8, HQ6⟩ := HPost.out e w6 he; have HRun := Lib.hid hrun; clear he hrun))
          all_goals
            go_wp2_with fail
            go_roundw
            case rel => exact ⟨k + 1, A8, c8, ts ++ [tb], ws6, er6, l6, fv6, by omega, by go_num, HQ6.out.1, HF5.out _ _ _ _ HQ6.out.2⟩
            case measure => simp [intOf]; omega
      · have g2 : ¬ (k : Int) < t.l.length := by omega
        obtain rfl : k = t.l.length := by omega
        have hX := hw.st.res
        have hO := hFk.done
        have hnb : -9223372036854775808 ≤ nn ∧ nn ≤ 9223372036854775807 := by rcases hFk with h | h
                                                                              · exact h.2.2.2.2.2.2.2
                                                                              · exact h.2.2
        obtain ⟨⟨z0, z1, z2', z3', z4'⟩, -⟩ := box_facts hw.st.box
        obtain ⟨⟨r0, r1, r2, r3, r4⟩, ⟨s0, s1, s2, s3, s4⟩⟩ := box_facts hX
        have H6 := Lib.hid (And.intro hw (And.intro hO hX))
        clear hw hO hX hFk x0 x1 x2 m3 hrowr
        go_wp2
        have hp5 := put5_only Wr (N + 1) (.int .i64 t.op) (.string (bs t.s)) (.int .i64 nn) (.slice Ao t.l.length co) (.int .i64 t.line)
        refine ret_node (W := Wr) (b := N + 1) 8 rfl rfl rfl H6.out.2.2 ⟨_, .mk t.op t.s nn t.line ts, ws', er', l', fv', rfl, ?_, ?_, ?_, ?_, H6.out.2.1⟩
        · refine TreeAt.mk ((H6.out.1.acc.rowO).keep (fun k hk => ?_) (fun k hk => hp5.block k hk.2 (fun e => ?_))) ⟨HN.out.2.2.1.1, HN.out.2.2.1.2.1, hnb⟩
          · have hlt : k < (put5 Wr (N + 1) (.int .i64 t.op) (.string (bs t.s)) (.int .i64 nn) (.slice Ao t.l.length co) (.int .i64 t.line)).heap.size := by have := hp5.size; have := hk.2; omega
            rcases hk.1 with h | h
            · exact ⟨h.1.1.imp id (fun e => ⟨by omega, hlt⟩), h.2⟩
            · exact ⟨.inr ⟨by have := (H6.out.1.acc.blk h).1; omega, hlt⟩, fv_node H6.out.1.st.wk (H6.out.1.acc.typed h)⟩
          · rcases hk.1 with h | h
            · rcases h.1.1 with h1 | h1
              · have := HH.out.2.2.2.2.1 k h1; omega
              · omega
            · have := (H6.out.1.acc.blk h).1; omega
        · exact ⟨(hp5.block R H6.out.1.st.wk.lt (by omega)).trans H6.out.1.st.wk.head, H6.out.1.st.wk.funs.only hp5 (fun k hk cs => node_apart ⟨_, hk ▸ H6.out.2.2⟩ cs)⟩
        · exact fun k hk => (H6.out.1.st.new k hk).imp id (fun e => by omega)
        · exact ⟨hp5.os.trans H6.out.1.st.on.os, hp5.tape.trans H6.out.1.st.on.tape, hp5.output.trans H6.out.1.st.on.output, Nat.le_trans H6.out.1.st.on.size hp5.size, fun k hk hn => (hp5.block k (by have := H6.out.1.st.on.size; omega) (by omega)).trans (H6.out.1.st.on.block k hk hn)⟩
end
end Go.Proofs.Ytbpodijcndglgaa
