/- code.Marks, walked. -/
import Derived.Test.YtconnhphkbgbkaaGreatDoorCdMarks
import Derived.OwnWalkIn
namespace Go.Proofs.YtconnhphkbgbkaaGreatDoor
set_option linter.unusedSimpArgs false
set_option linter.unusedVariables false
open Go.RowKit Go.Proofs Go.Shelf

attribute [local go_sem] Oper.semAt_some
/-- An append in a fenced walk: whatever its run gives. -/
theorem wli_app {F : Fence} {n : Nat} {P : Program} {w : World} {ops : Array Oper} {rest : List Oper} {o : Oper} {a : Act} {Q : Exit → Act → World → Prop} (hg : o.guard = none) (s x : Operand) (t : TypeId)
    (hop : o.op = Op.call { callee := Callee.builtin Builtin.append, args := #[s, x], argTypes := #[t, t] }) (v u : Value) (hs : a.eval s = v) (hx : a.eval x = u) (R : Value → World → Prop)
    (hrun : ∃ v' w', (Builtin.append_ #[t, t] o.type #[v, u]).run P w = .ok v' w' ∧ R v' w') (hK : ∀ v' w', R v' w' → wpListIn F n P ops Q rest (a.put o.dst v') w') :
    wpListIn F n P ops Q (o :: rest) a w := by
  refine wpListIn_plain hg fun K hK' => ?_
  obtain ⟨v', w', hr, h2⟩ := hrun
  unfold Oper.wpIn
  refine ⟨?_, ?_⟩
  · simp [Oper.about, hop, resolve, Target.leads, Sem.run_pure]
  · rw [Oper.semAt_plain F _ _ (by rw [hop]; intro c hc'; cases hc')]
    simp [execOp, hop, resolve, invoke, builtin, hs, hx, hr, Result.andThen]
    exact hK' _ _ (hK _ _ h2)
set_option maxRecDepth 100000 in
set_option maxHeartbeats 4000000 in
theorem marks_in (n : Nat) (hn : 3 ≤ n) (v : Value) (l : List Proc) (w : World) (hl : CodeAt w v l) (hsm : (marksC l).length ≤ 900000) :
    CallsIn Fence.wide n Tryz.prog 9 #[v] w fun e W' => (∃ v', e = .returned v' ∧ OwnI W' w.heap.size v' (marksC l)) ∧ Below w.heap.size w W' := by
  have h1 : 1 ≤ n := by omega
  obtain ⟨A, cap, rfl⟩ := SlAt.form hl
  obtain ⟨-, hca, hcm, -⟩ := SlAt.get hl
  have hm1 : cap ≤ 9223372036854775807 := hcm
  have HA := Lib.hid hl
  have HSm := Lib.hid hsm
  obtain ⟨K, eK⟩ : ∃ K, w.heap.size = K := ⟨_, rfl⟩
  have bK := (Boxed.new w 29 (.slice none 0 0)).alloc (.cells #[.slice A l.length cap] 22)
  have bP := heap_alloc_new (w.alloc (.cells #[.slice none 0 0] 29)) (.cells #[.slice A l.length cap] 22)
  have hbl := two_box w (.cells #[.slice none 0 0] 29) (.cells #[.slice A l.length cap] 22)
  have hsz0 : ((w.alloc (.cells #[.slice none 0 0] 29)).alloc (.cells #[.slice A l.length cap] 22)).heap.size = w.heap.size + 2 := by simp
  obtain ⟨W0, hW0⟩ : ∃ W0, ((w.alloc (.cells #[.slice none 0 0] 29)).alloc (.cells #[.slice A l.length cap] 22)) = W0 := ⟨_, rfl⟩
  simp only [World.size_alloc] at bP
  rw [hW0] at bK bP hbl hsz0
  have HW0 := Lib.hid hW0
  rw [eK] at bK bP hsz0
  obtain ⟨U, V, hrows⟩ := Rows9.of HA.out
  have HRo := Lib.hid hrows
  have HB0 := Lib.hid (And.intro bK (And.intro bP (And.intro hbl hsz0)))
  have hcm2 := Lib.hid hcm
  clear hl hsm hrows hW0 bK bP hbl hsz0 hcm
  refine callsIn_of_wp_marks Tryz.func9 rfl trivial ?_ rfl
  simp only [Tryz.ntmps9, List.size_toArray, List.length_cons, List.length_nil, Nat.reduceAdd, Nat.reduceSub, Array.replicate_succ, Array.replicate_zero, List.push_toArray, List.append_toArray, List.nil_append, List.cons_append]
  gi_wp2_with (refine ⟨trivial, ?_⟩; gi_at_call 20; refine (instr_in (n - 1) A l.length cap _).mono ?_; rintro e w' ⟨rfl, rfl⟩)
  rw [HW0.out]
  have q0 := HB0.out.2.2.2
  refine wpIn_rangeRows (mine := mineM K) rfl h1 (gf := 33) (lb := #[.pointer (some ⟨K + 1, 0, none⟩)]) rfl trivial (enters_of Tryz.func33 (by kernel_rfl) rfl)
    (encs := enc9 l U V) (xs := idx l) (w0 := W0)
    (ins_seq (n - 1) (by omega) (K + 1) l.length cap A l U V w (mineM K) W0 rfl ⟨hca, hcm2.out⟩ HRo.out (fun _ k hk => by have := hk.1; omega) HB0.out.2.1 HB0.out.2.2.1) (Below.refl _ _) (enc9_size l U V)
    (fun pre W => MarksI w W K (marksP l pre))
    (fun _ _ _ => False)
    (fun pre A B h g => h.it (by omega) g (by omega))
    (fun c pre A B h g => h)
    (fun pre A k h hk => h.mine hk) (fun c pre A k h hk => h.elim) (fun A B k g h => mineM_it (by omega) g k h)
    ⟨⟨_, HB0.out.1, OwnR.nil _ _ _ _ _ _⟩, HB0.out.2.2.1⟩
    (fun y a' W => ∃ (Bx : Nat) (p : Proc) (x : Ins), l[y.1]? = some p ∧ p.ins[y.2]? = some x ∧ W.heap[Bx]? = some (.cells #[.int .i64 x.op, .int .i64 x.d, .int .i64 x.a, .int .i64 x.b, .int .i64 x.c, .string x.s, .int .i64 x.n, V y.1 y.2] 33 (0, 0)) ∧ a' = { tmps := #[.slice A l.length cap, undef, .slice none 0 0, .pointer (some ⟨K, 0, none⟩), undef, .pointer (some ⟨Bx, 0, none⟩), .slice A l.length cap, .func (.func 33) #[] #[.pointer (some ⟨K + 1, 0, none⟩)], .agg #[.int .i64 p.regs, U y.1], .agg #[.int .i64 x.op, .int .i64 x.d, .int .i64 x.a, .int .i64 x.b, .int .i64 x.c, .string x.s, .int .i64 x.n, V y.1 y.2], undef, undef, undef, undef, undef, undef, undef, undef, undef, undef, undef, undef], defers := [] })
    (fun y a' A B h g => by
      obtain ⟨Bx, p, x, g1, g0, g3, g4⟩ := h
      exact ⟨Bx, p, x, g1, g0, g _ _ g3 rfl, g4⟩)
    ?assign ?body ?done ?stop
  case assign =>
    rintro l' pre ⟨i, j⟩ W K' hI hpre hK
    obtain ⟨p, x, hp, hx⟩ := idx_mem (pre_mem9 hpre)
    simp only at hp hx hK ⊢
    have HPX := Lib.hid (And.intro hp hx)
    rw [enc9_eq hp hx]
    obtain ⟨gi, oi, ci, hU, -, ⟨A2, cap2, hV⟩, -⟩ := HRo.out.ins i p j x hp hx
    have HUV := Lib.hid (And.intro hU hV)
    rw [hU, hV] at hK ⊢
    clear hI hpre hp hx hU hV
    gi_wp2
    refine hK _ _ (below_box W (.cells #[.int .i64 x.op, .int .i64 x.d, .int .i64 x.a, .int .i64 x.b, .int .i64 x.c, .string x.s, .int .i64 x.n, .slice A2 x.l.length cap2] 33)) ⟨W.heap.size, p, x, HPX.out.1, HPX.out.2, ?_, ?_⟩
    · exact heap_alloc_new W _
    · rfl
  case body =>
    rintro l' pre ⟨i, j⟩ a' W hl hI ⟨Bx, p, x, hp, hx, hbi, rfl⟩ hpre
    simp only at hp hx hbi ⊢
    obtain ⟨gi, oi, ci, hU, hgi, ⟨A2, cap2, hV⟩, hints, hfine, -⟩ := HRo.out.ins i p j x hp hx
    rw [hU]
    rw [hV] at hbi ⊢
    have d0 := cell_of_row W Bx 0 _ _ _ hbi
    have d6 := cell_of_row W Bx 6 _ _ _ hbi
    simp at d0 d6
    obtain ⟨v, hbv, hov⟩ := hI.row
    have cK := hbv.cell
    have hstep := marksP_step l pre hp hx
    have hlen : (marksP l pre).length + 1 ≤ 1000000 := by
      obtain ⟨t, ht⟩ := hpre
      have h9 := marks_idx l
      rw [← ht] at h9
      have h8 := congrArg List.length h9
      unfold marksP at h8 ⊢
      rw [List.flatMap_append, List.flatMap_append, List.length_append, List.length_append] at h8
      have := HSm.out
      omega
    have hsrc : Src9 IntP w (W.alloc (.cells #[.int .i64 x.n] 3)) (.slice (some ⟨W.heap.size, 0, none⟩) 1 1) [x.n] := OwnR.src (OwnR.lit IntP.cells W [.int .i64 x.n] x.n ⟨rfl, hfine.1.2.2.2.2.2⟩)
    have HRun := Lib.hid (app9 (p := Tryz.prog) (t := 29) IntP.cells (by decide) Tryz.underlying29 info3 rfl (by decide) (hov.below (below_box W (.cells #[.int .i64 x.n] 3))) hsrc (by have := hbv.lt; simp; omega) hlen)
    have HI := Lib.hid (And.intro hI hbv)
    have HSt := Lib.hid hstep
    have hx9 : (x.op = 6 ∨ x.op = 12 ∨ x.op = 13) ∨ (x.op ≠ 6 ∧ x.op ≠ 12 ∧ x.op ≠ 13) := by omega
    clear hI hbv hov hstep hlen hsrc hints hfine hp hx hbi hpre hU hV hgi
    rcases hx9 with hx9 | ⟨h6, h12, h13⟩
    · have HM := Lib.hid (show marked x = true from decide_eq_true hx9)
      have hcase : ((x.op == 6) = true) ∨ ((x.op == 6) = false ∧ (x.op == 12) = true) ∨ ((x.op == 6) = false ∧ (x.op == 12) = false ∧ (x.op == 13) = true) := by
        simp only [beq_iff_eq, beq_eq_false_iff_ne]
        omega
      clear hx9
      rcases hcase with e6 | ⟨e6, e12⟩ | ⟨e6, e12, e13⟩
      all_goals
        gi_wp2_with (gi_at_builtin; refine wli_app rfl _ _ 29 rfl _ _ rfl rfl _ HRun.out ?_; rintro v5 w5 h5; obtain ⟨A5, k5, rfl, -, -⟩ := h5.form; obtain ⟨s1, s2, s3⟩ := marks_hit HI.out.1 (by omega) HI.out.2 h5; have c5 := s1.cell; have f5 := s1.frozen; simp only [List.length_append, List.length_cons, List.length_nil, Nat.zero_add] at s2 s3; have HE := Lib.hid (And.intro s2 s3); clear s1 s2 s3 h5)
        refine ⟨HE.out.1, ?_⟩
        show MarksI _ _ _ (marksP l (pre ++ [(i, j)]))
        rw [HSt.out, if_pos HM.out]
        exact HE.out.2
    · have HM := Lib.hid (show ¬ marked x = true from by unfold marked; rw [decide_eq_true_iff]; omega)
      have e6 : (x.op == 6) = false := by simp [h6]
      have e12 : (x.op == 12) = false := by simp [h12]
      have e13 : (x.op == 13) = false := by simp [h13]
      clear h6 h12 h13
      gi_wp2
      refine ⟨RdKeeps.of_below (Below.refl _ _) (fun _ h => h), ?_⟩
      show MarksI _ _ _ (marksP l (pre ++ [(i, j)]))
      rw [HSt.out, if_neg HM.out, List.append_nil]
      exact HI.out.1
  case done =>
    rintro D W hD hI hK
    rw [marks_idx] at hI
    obtain ⟨v, hbv, hov⟩ := hI.row
    have cK := hbv.cell
    have HF := Lib.hid (And.intro hI (And.intro hbv hov))
    clear hI hbv hov
    gi_wp2
    refine ⟨by simp, .inl ⟨_, _, rfl, run_takeDeferred hK, ?_⟩⟩
    refine ⟨_, results_tmp rfl _ _ _, ⟨v, rfl, ?_⟩, HF.out.1.below.trans (belowK_b (w := w) (Nat.le_refl _) W D _ _ (by omega) hK rfl rfl)⟩
    have h9 := HF.out.2.2.keep (w' := W.putObj D (.deferred none)) fun b hv => World.putObj_heap_other (fun e => by
      obtain ⟨-, cs, h3⟩ := HF.out.2.2.blk hv
      subst e
      rw [hK] at h3
      cases h3)
    exact OwnI.of (h9.low (by omega))
  case stop =>
    rintro D c pre W hD hpre hI hK
    exact hI.elim
theorem marks_any (v : Value) (l : List Proc) (w : World) (hl : CodeAt w v l) (hsm : (marksC l).length ≤ 900000) :
    Calls Tryz.prog 9 #[v] w fun e W' => (∃ v', e = .returned v' ∧ OwnI W' w.heap.size v' (marksC l)) ∧ Below w.heap.size w W' :=
  callsIn_wide.1 (marks_in 3 (Nat.le_refl _) v l w hl hsm)
end Go.Proofs.YtconnhphkbgbkaaGreatDoor
