/- rules.met: how many trees Walk meets. -/
import Derived.OwnWalkIn
import Derived.Carry
import Derived.Shelf.Abstract
import Derived.Shelf.RegionOpen
import Derived.Sort.CutIn
import Derived.Test.YtikbfoichhkeaaaGreatVm28
set_option linter.unusedSimpArgs false
set_option linter.unusedVariables false
set_option maxRecDepth 100000
set_option maxHeartbeats 40000000
namespace Go.Proofs.YtikbfoichhkeaaaGreat
section
open Go.RowKit Go.Proofs Go.Shelf
attribute [local go_sem] Oper.semAt_some
theorem under27 : (match Tryz.prog.underlying 37 with | some (.func ..) => true | _ => false) = true := by kernel_rfl
theorem run_eql_fn (f : Go.Fn) (a c : Array Value) (w : World) : (binOp .eql 37 (.func f a c) .nilFunc).run Tryz.prog w = .ok (.bool false) w := by
 obtain ⟨d, hd⟩ : ∃ d, Tryz.prog.underlying 37 = some d := by
  cases h : Tryz.prog.underlying 37 with
  | none => have := under27; rw [h] at this; cases this
  | some d => exact ⟨d, rfl⟩
 have h2 := under27
 rw [hd] at h2
 cases d <;> first | (cases h2; done) | skip
 have e : (Op.equalIn Op.maxDepth 37 (.func f a c) .nilFunc).run Tryz.prog w = .ok false w := by
  unfold Op.maxDepth Op.equalIn
  rw [Sem.run_bind, run_underlying hd]
  rfl
 simp [binOp, Op.equal, e]
theorem lo_levels_len (x : Lo) : (x.levels 1).length = x.size := by
 have := congrArg List.length (lo_levels_tree 1 x)
 rw [List.length_map] at this
 rw [this, ← lo_size_tree, ← flat_len, ← levels_flat 1, List.length_map]
structure WkI (J : List (Lo × Nat) → World → Prop) (lf Y : Nat) (w0 : World) (n0 : Nat) (mine : World → Nat → Prop) (pre : List (Lo × Nat)) (W : World) : Prop where
 j : J pre W
 fn : W.heap[Y]? = some (.cells #[.func (.yield lf) #[] #[]] 37 (0, 0))
 nm : ¬ mine W Y
 low : ∀ k, k < n0 → W.heap[k]? = w0.heap[k]?
 sz : w0.heap.size ≤ W.heap.size
theorem walk_yield (n : Nat) (hn : 3 ≤ n) (lf n0 : Nat) (x : Lo) (mine : World → Nat → Prop) (J : List (Lo × Nat) → World → Prop) (w : World) (hx : LoAt w (fun k => k < n0) x) (hsz : x.size ≤ 1000000) (h0 : n0 ≤ w.heap.size) (hmn : ∀ W k, mine W k → n0 ≤ k)
  (hJ : ∀ pre A B, J pre A → ItKeeps mine w.heap.size A B → J pre B) (hM : ∀ pre A k, J pre A → mine A k → ∃ o, A.heap[k]? = some o ∧ o.isCells = true) (hMs : ∀ A B k, ItKeeps mine w.heap.size A B → mine B k → mine A k)
  (hY : ∀ pre y W1, J pre W1 → pre ++ [y] <+: x.levels 1 → YieldAt Fence.wide 0 Tryz.prog lf #[y.1.val] W1 fun e W' => e = .returned (.bool true) ∧ J (pre ++ [y]) W' ∧ RdKeeps mine W1 W') (hJ0 : J [] w) :
  CallsIn Fence.wide n Tryz.prog 59 #[x.val, .func (.yield lf) #[] #[]] w fun e W' => (∃ v, e = .returned v) ∧ J (x.levels 1) W' := by
 have h1 : 1 ≤ n := by omega
 obtain ⟨Av, cv, hvs⟩ := hx.slice
 have HX := Lib.hid hx
 have HV := fun n w => levels_in n x w
 unfold Lo.val at HV ⊢
 rw [hvs] at HV ⊢
 have HV := Lib.hid HV
 have Hvs := Lib.hid hvs
 clear hx hvs
 have hnil := fun w => run_eql_fn (.yield lf) #[] #[] w
 refine callsIn_of_wp_marks Tryz.func59 rfl trivial ?_ rfl
 simp only [Tryz.ntmps59, List.size_toArray, List.length_cons, List.length_nil, Nat.reduceAdd, Nat.reduceSub, Array.replicate_succ, Array.replicate_zero, List.push_toArray, List.append_toArray, List.nil_append, List.cons_append]
 gi_wp2_with (refine ⟨trivial, ?_⟩; gi_at_call 98; refine (HV.out (n - 1) _).mono ?_; rintro e w' ⟨rfl, rfl⟩)
 obtain ⟨L, eL⟩ : ∃ L, w.heap.size = L := ⟨_, rfl⟩
 have bY0 := heap_alloc_new (w.alloc (.cells #[.int .i64 x.op, .string (bs x.s), .int .i64 x.n, .slice Av x.l.length cv, .int .i64 x.line] 24)) (.cells #[.func (.yield lf) #[] #[]] 37)
 rw [World.size_alloc, eL] at bY0
 have bY := ((below_alloc9 ((w.alloc (.cells #[.int .i64 x.op, .string (bs x.s), .int .i64 x.n, .slice Av x.l.length cv, .int .i64 x.line] 24)).alloc (.cells #[.func (.yield lf) #[] #[]] 37)) (.cells #[.int .i64 x.op, .string (bs x.s), .int .i64 x.n, .slice Av x.l.length cv, .int .i64 x.line] 24)).block (L + 1) (by simp [eL])).trans bY0
 clear bY0
 have bP := heap_alloc_new ((w.alloc (.cells #[.int .i64 x.op, .string (bs x.s), .int .i64 x.n, .slice Av x.l.length cv, .int .i64 x.line] 24)).alloc (.cells #[.func (.yield lf) #[] #[]] 37)) (.cells #[.int .i64 x.op, .string (bs x.s), .int .i64 x.n, .slice Av x.l.length cv, .int .i64 x.line] 24)
 have hbl : Below w.heap.size w (((w.alloc (.cells #[.int .i64 x.op, .string (bs x.s), .int .i64 x.n, .slice Av x.l.length cv, .int .i64 x.line] 24)).alloc (.cells #[.func (.yield lf) #[] #[]] 37)).alloc (.cells #[.int .i64 x.op, .string (bs x.s), .int .i64 x.n, .slice Av x.l.length cv, .int .i64 x.line] 24)) :=
  (((Below.refl _ w).alloc (Nat.le_refl _) _).alloc (by simp) _).alloc (by simp; omega) _
 obtain ⟨W0, hW0⟩ : ∃ W0, (((w.alloc (.cells #[.int .i64 x.op, .string (bs x.s), .int .i64 x.n, .slice Av x.l.length cv, .int .i64 x.line] 24)).alloc (.cells #[.func (.yield lf) #[] #[]] 37)).alloc (.cells #[.int .i64 x.op, .string (bs x.s), .int .i64 x.n, .slice Av x.l.length cv, .int .i64 x.line] 24)) = W0 := ⟨_, rfl⟩
 have hsz0 : W0.heap.size = L + 3 := by rw [← hW0, ← eL]; simp
 simp only [World.size_alloc] at bP
 rw [hW0] at bY bP hbl ⊢
 clear hW0
 rw [eL] at bP h0 ⊢
 have hxs := Hvs.out
 have hk0 : ItKeeps mine w.heap.size w W0 := .of_below hbl
 have hnY : ¬ mine W0 (L + 1) := fun hm => by
  obtain ⟨o, ho, -⟩ := hM _ _ _ hJ0 (hMs _ _ _ hk0 hm)
  have := heap_lt ho
  omega
 rw [eL] at hbl
 have HS := Lib.hid eL
 have hit : ∀ pre A B, WkI J lf (L + 1) w n0 mine pre A → ItKeeps mine W0.heap.size A B → WkI J lf (L + 1) w n0 mine pre B := fun pre A B h g =>
  ⟨hJ _ _ _ h.j (g.mono (by omega)), (g.keep (L + 1) (heap_lt h.fn) (.inl (by omega))).trans h.fn, fun hm => h.nm (hMs _ _ _ (g.mono (by omega)) hm), fun k hk => (g.keep k (by have := h.sz; omega) (.inl (by omega))).trans (h.low k hk), Nat.le_trans h.sz g.size⟩
 refine wpIn_rangeRows (mine := mine) rfl h1 (gf := 123) (lb := #[.pointer (some ⟨L + 1 + 1, 0, none⟩)]) rfl trivial (enters_of Tryz.func123 (by kernel_rfl) rfl)
  (encs := fun y : Lo × Nat => #[y.1.val, .int .i64 y.2]) (xs := x.levels 1) (w0 := W0) (L := True)
  (levels_seq (n - 1) (by omega) (L + 1 + 1) n0 x mine W0 hsz hmn (by rw [hxs]; exact bP) (by omega) (LoAt.keep x HX.out (fun _ h => h) (fun p hp => hbl.cell (show p.block < L by have : p.block < n0 := hp; omega)))) (Below.refl _ _) (fun _ => rfl)
  (WkI J lf (L + 1) w n0 mine) (fun _ _ _ => False) hit (fun _ _ _ _ h => h.elim) (fun pre A k h hk => hM pre A k h.j hk) (fun _ _ _ _ h => h.elim) (fun A B k g h => hMs A B k (g.mono (by omega)) h)
  ⟨hJ _ _ _ hJ0 hk0, bY, hnY, fun k hk => hbl.block k (by omega), by omega⟩
  (fun y a' W => ∃ Bx, W.heap[Bx]? = some (.cells #[.int .i64 y.1.op, .string (bs y.1.s), .int .i64 y.1.n, y.1.v, .int .i64 y.1.line] 24 (0, 0)) ∧ a' = { tmps := (.agg #[.int .i64 x.op, .string (bs x.s), .int .i64 x.n, .slice Av x.l.length cv, .int .i64 x.line] :: .func (.yield lf) #[] #[] :: .pointer (some ⟨L, 0, none⟩) :: .pointer (some ⟨L + 1, 0, none⟩) :: .pointer (some ⟨Bx, 0, none⟩) :: .func (.yield lf) #[] #[] :: .bool false :: .agg #[.int .i64 x.op, .string (bs x.s), .int .i64 x.n, .slice Av x.l.length cv, .int .i64 x.line] :: .func (.func 123) #[] #[.pointer (some ⟨L + 1 + 1, 0, none⟩)] :: y.1.val :: .int .i64 y.2 :: undef :: undef :: undef :: undef :: []).toArray, defers := [] })
  (fun y a' A B h g => by
   obtain ⟨Bx, g2, g3⟩ := h
   exact ⟨Bx, g _ _ g2 rfl, g3⟩)
  ?assign ?body ?done ?stop
 case assign =>
  rintro l pre ⟨y, lev⟩ W K' hI hpre hK
  obtain ⟨Ay, cy, hvy⟩ := (LoAt.part 1 x HX.out (y, lev) (pre_mem hpre)).slice
  unfold Lo.val
  simp only at hvy ⊢
  have HVy := Lib.hid hvy
  rw [hvy] at hK ⊢
  clear hI hpre hvy
  gi_wp2
  exact hK _ _ ((Below.refl _ W).alloc (Nat.le_refl _) _) ⟨W.heap.size, heap_alloc_new W _, by unfold Lo.val; rw [HVy.out]⟩
 case body =>
  rintro l pre ⟨y, lev⟩ a' W hl hI ⟨Bx, hblk, rfl⟩ hpre
  simp only at hblk ⊢
  obtain ⟨Ay, cy, hvy⟩ := (LoAt.part 1 x HX.out (y, lev) (pre_mem hpre)).slice
  simp only at hvy
  rw [hvy] at hblk
  obtain ⟨c0, c1, c2, c3, c4⟩ := (box_facts hblk).1
  have cF := cell_of_row W (L + 1) 0 _ _ _ hI.fn
  simp at cF
  obtain ⟨fn, tmps, assign, rbody, hy, hRR⟩ := yieldAt_any (m' := n - 1 - 1 - 1) (hY pre (y, lev) W hI.j hpre)
  unfold Lo.val at hy
  simp only at hy
  rw [hvy] at hy
  have HRR := Lib.hid hRR
  have HI := Lib.hid hI
  clear hRR hI hvy hblk hpre
  gi_wp2
  refine ⟨fun h => absurd h (by simp [Fence.wide]), (show RoundIn (Fence.wide.inRound l) _ _ _ _ _ _ _ _ _ from HRR.out).mono ?_⟩
  rintro e W7 ⟨rfl, hJ7, hk7⟩
  have HE := Lib.hid (And.intro hJ7 hk7)
  clear hJ7 hk7
  gi_wp2
  exact ⟨HE.out.2, HE.out.1, (HE.out.2.keep (L + 1) (heap_lt HI.out.fn) HI.out.nm).trans HI.out.fn, fun hm => (HE.out.2.new _ hm).elim HI.out.nm (fun h => by have := heap_lt HI.out.fn; omega),
   fun k hk => (HE.out.2.keep k (by have := HI.out.sz; omega) (fun hm => by have := hmn _ _ hm; omega)).trans (HI.out.low k hk), Nat.le_trans HI.out.sz HE.out.2.size⟩
 case done =>
  rintro D W hD hI hK
  have HI := Lib.hid hI
  clear hI
  gi_wp2
  refine ⟨by simp, .inl ⟨_, _, rfl, run_takeDeferred hK, ?_⟩⟩
  refine ⟨_, by simp [results, Tryz.results59, go_sem]; rfl, ⟨_, rfl⟩, ?_⟩
  have hgr := grownBy_putObj' W D (.deferred none)
  refine hJ _ _ _ HI.out.j ⟨hgr.os, hgr.tape, hgr.output, hgr.size, fun k hk hm => World.putObj_heap_other (fun e => ?_)⟩
  subst e
  rcases hm with h | h
  ·omega
  ·obtain ⟨o, h1, h2⟩ := hM _ _ _ HI.out.j h
   rw [hK] at h1
   cases h1
   cases h2
 case stop =>
  rintro D c pre W hD hpre h
  exact h.elim
theorem walked_in (n : Nat) (x : Lo) (w : World) : CallsIn Fence.wide n Tryz.prog 41 #[x.val] w fun e w' => e = .returned (.func (.func 58) #[] #[.pointer (some ⟨w.heap.size, 0, none⟩)]) ∧ w' = w.alloc (.cells #[.int .i64 x.op, .string (bs x.s), .int .i64 x.n, x.v, .int .i64 x.line] 24) := by
 unfold Lo.val
 refine callsIn_of_wp Tryz.func41 rfl trivial ?_ rfl
 simp only [Tryz.ntmps41, List.size_toArray, List.length_cons, List.length_nil, Nat.reduceAdd, Nat.reduceSub, Array.replicate_succ, Array.replicate_zero, List.push_toArray, List.append_toArray, List.nil_append, List.cons_append]
 gi_wp2
 go_ret
 exact ⟨rfl, rfl⟩
theorem walked_seq (n : Nat) (hn : 4 ≤ n) (Bp n0 : Nat) (x : Lo) (mine : World → Nat → Prop) (w : World) (hsz : x.size ≤ 1000000) (hmn : ∀ W k, mine W k → n0 ≤ k)
  (hBp : w.heap[Bp]? = some (.cells #[.int .i64 x.op, .string (bs x.s), .int .i64 x.n, x.v, .int .i64 x.line] 24 (0, 0))) (hn0 : n0 ≤ w.heap.size) (hx : LoAt w (fun k => k < n0) x) :
  SeqRows Fence.wide n Tryz.prog 58 #[.pointer (some ⟨Bp, 0, none⟩)] (fun y : Lo × Nat => #[y.1.val]) mine (x.levels 1) w False := by
 intro lf J Jx W hW hL hJ hM hMs hY h0
 have hbx := (hW.block Bp (heap_lt hBp)).trans hBp
 have HD := Lib.hid (walk_yield (n - 1) (by omega) lf n0 x mine J W (LoAt.keep x hx (fun _ h => h) (fun _ hp => hW.cell (Nat.lt_of_lt_of_le hp hn0))) hsz (Nat.le_trans hn0 hW.size) hmn hJ hM hMs (fun pre y W1 g1 g2 => by
  obtain ⟨fn, tmps, assign, body, g3, g4⟩ := yieldAt_any (m' := 0) (hY pre y W1 g1 g2)
  refine ⟨fn, tmps, assign, body, g3, g4.mono ?_⟩
  rintro e w (h | ⟨-, h⟩)
  ·exact h
  ·exact absurd h (hL id _ _)) h0)
 obtain ⟨Av, cv, hvs⟩ := hx.slice
 unfold Lo.val at HD
 rw [hvs] at hbx HD
 obtain ⟨x0, x1, x2, x3, x4⟩ := (box_facts hbx).1
 clear hBp hn0 hW hJ hM hMs hY h0 hbx hx hL hmn hvs
 refine callsIn_of_wp Tryz.func58 rfl trivial ?_ rfl
 simp only [Tryz.ntmps58, List.size_toArray, List.length_cons, List.length_nil, Nat.reduceAdd, Nat.reduceSub, Array.replicate_succ, Array.replicate_zero, List.push_toArray, List.append_toArray, List.nil_append, List.cons_append]
 gi_wp2_with fail
 refine ⟨trivial, fun h => absurd h (by simp [Fence.wide]), ?_⟩
 gi_at_call 59
 refine HD.out.mono ?_
 rintro e w2 ⟨⟨v, rfl⟩, hJ2⟩
 have HE := Lib.hid hJ2
 clear hJ2
 gi_wp2
 go_end0
 exact ⟨⟨_, rfl⟩, .inl HE.out⟩
structure MetI (w : World) (N : Nat) (pre : List (Lo × Nat)) (W : World) : Prop where
 n : W.heap[N + 1]? = some (.cells #[.int .i64 (pre.length : Nat)] 3 (0, 0))
 low : Below N w W
theorem met_any (t : Tr) (v : Value) (w : World) (S : Nat → Prop) (hT : TreeAt w S t v) (hS : ∀ i, S i → i < w.heap.size) (hz : t.size ≤ 100000) :
  Calls Tryz.prog 26 #[v] w fun e w' => e = .returned (.int .i64 (t.size : Nat)) ∧ Below w.heap.size w w' := by
 obtain ⟨x, rfl, rfl, hx0⟩ := hT
 have hx : LoAt w (fun k => k < w.heap.size) x := hx0.frame (fun k h => hS k h) (fun k hk => rfl)
 rw [lo_size_tree] at hz ⊢
 obtain ⟨Av, cv, hvs⟩ := hx.slice
 have HV := fun n w => walked_in n x w
 have HL := lo_levels_len x
 unfold Lo.val at HV ⊢
 rw [hvs] at HV ⊢
 have HV := Lib.hid HV
 have HX := Lib.hid hx
 have HL := Lib.hid HL
 have Hvs := Lib.hid hvs
 clear hx0 hx hvs
 obtain ⟨hal, hb0, hb1, hz1⟩ := alloc2 w (.cells #[.int .i64 x.op, .string (bs x.s), .int .i64 x.n, .slice Av x.l.length cv, .int .i64 x.line] 24) (.cells #[.int .i64 0] 3)
 obtain ⟨w1, e1⟩ : ∃ y, (w.alloc (.cells #[.int .i64 x.op, .string (bs x.s), .int .i64 x.n, .slice Av x.l.length cv, .int .i64 x.line] 24)).alloc (.cells #[.int .i64 0] 3) = y := ⟨_, rfl⟩
 rw [e1] at hal hb0 hb1 hz1
 obtain ⟨N, eN⟩ : ∃ N, w.heap.size = N := ⟨_, rfl⟩
 rw [eN] at hal hb0 hb1 hz1
 obtain ⟨c0, c1, c2, c3, c4⟩ := (box_facts hb0).1
 have HE := Lib.hid e1
 have H1 := Lib.hid (And.intro hal (And.intro hb0 (And.intro hb1 hz1)))
 clear e1 hal hb0 hb1
 refine (callsIn_wide (n := 8)).1 ?_
 refine callsIn_of_wp_marks Tryz.func26 rfl trivial ?_ rfl
 simp only [Tryz.ntmps26, List.size_toArray, List.length_cons, List.length_nil, Nat.reduceAdd, Nat.reduceSub, Array.replicate_succ, Array.replicate_zero, List.push_toArray, List.append_toArray, List.nil_append, List.cons_append]
 gi_wp2_with fail
 refine wpIn_wide.2 (wp_scope_straight ((wpIn_wide (n := 8)).1 ?_))
 gi_upto_region 2 with fail
 rw [HE.out]
 gi_wp2_with fail
 refine wpIn_label ?_
 gi_wp2_with fail
 refine ⟨trivial, ?_⟩
 gi_at_call 41
 refine (HV.out _ w1).mono ?_
 rintro e w2 ⟨rfl, e2⟩
 have hal2 := below_alloc9 w1 (.cells #[.int .i64 x.op, .string (bs x.s), .int .i64 x.n, .slice Av x.l.length cv, .int .i64 x.line] 24)
 have hb2 := heap_alloc_new w1 (.cells #[.int .i64 x.op, .string (bs x.s), .int .i64 x.n, .slice Av x.l.length cv, .int .i64 x.line] 24)
 rw [← e2] at hal2 hb2
 have hz2 : w2.heap.size = N + 3 := by rw [e2, World.size_alloc, hz1]
 have hbn := (hal2.block (N + 1) (heap_lt H1.out.2.2.1)).trans H1.out.2.2.1
 have hlow : Below N w w2 := H1.out.1.trans (hal2.mono (by omega))
 rw [hz1] at hb2 ⊢
 clear e2 hal2 c0 c1 c2 c3 c4
 have HQ := Lib.hid (And.intro hbn (And.intro hlow hz2))
 clear hbn hlow
 have hxs := Hvs.out
 gi_wp2_with fail
 refine wpIn_rangeRows (mine := fun _ k => k = N + 1) rfl (by omega) (gf := 58) (lb := #[.pointer (some ⟨N + 2, 0, none⟩)]) rfl trivial (enters_of Tryz.func58 (by kernel_rfl) rfl)
  (encs := fun y : Lo × Nat => #[y.1.val]) (xs := x.levels 1) (w0 := w2) (L := False)
  (walked_seq (8 - 1) (by omega) (N + 2) N x (fun _ k => k = N + 1) w2 (by omega) (fun _ k hk => by omega) (by rw [hxs]; exact hb2) (by omega) (LoAt.keep x HX.out (fun _ h => by rw [← eN]; exact h) (fun p hp => HQ.out.2.1.cell (show p.block < N by have : p.block < w.heap.size := hp; omega)))) (Below.refl _ _) (fun _ => rfl)
  (MetI w N) (fun _ _ _ => False)
  (fun pre A B h g => ⟨(g.keep (N + 1) (heap_lt h.n) (.inr rfl)).trans h.n, h.low.trans ⟨g.os, g.tape, g.output, g.size, fun k hk => g.keep k (by have := heap_lt h.n; omega) (.inl (by omega))⟩⟩)
  (fun _ _ _ _ h => h.elim) (fun pre A k h hk => by subst hk; exact ⟨_, h.n, rfl⟩) (fun _ _ _ _ h => h.elim) (fun A B k g h => h)
  ⟨HQ.out.1, HQ.out.2.1⟩
  (fun y a' W => a' = { tmps := (.agg #[.int .i64 x.op, .string (bs x.s), .int .i64 x.n, .slice Av x.l.length cv, .int .i64 x.line] :: .pointer (some ⟨N, 0, none⟩) :: .int .i64 0 :: .pointer (some ⟨N + 1, 0, none⟩) :: .agg #[.int .i64 x.op, .string (bs x.s), .int .i64 x.n, .slice Av x.l.length cv, .int .i64 x.line] :: .func (.func 58) #[] #[.pointer (some ⟨N + 2, 0, none⟩)] :: y.1.val :: undef :: undef :: undef :: undef :: undef :: []).toArray, defers := [] })
  (fun y a' A B h g => h) ?assign ?body ?done ?stop (fun _ _ _ _ h => h)
 case assign =>
  rintro l pre ⟨y, lev⟩ W K' hI hpre hK
  gi_wp2
  exact hK _ _ (Below.refl _ _) rfl
 case body =>
  rintro l pre ⟨y, lev⟩ a' W hl hI rfl hpre
  have d0 := cell_of_row W (N + 1) 0 _ _ _ hI.n
  have f0 : W.frozen? ⟨N + 1, 0, none⟩ = false := by simp [World.frozen?, hI.n]
  simp at d0
  have hlen : pre.length + 1 ≤ 100000 := by
   obtain ⟨r, hr⟩ := hpre
   have := congrArg List.length hr
   rw [HL.out] at this
   simp at this
   omega
  have hw1 : IntKind.i64.wrap ((pre.length : Int) + 1) = pre.length + 1 := IntWalk.i64_in _ (by omega)
  have g1 : ¬ (100000 < (pre.length : Int) + 1) := by omega
  have HI := Lib.hid hI
  clear hI hpre
  gi_wp2
  have hb9 := blk_set HI.out.n 0 (.int .i64 ((pre.length : Int) + 1))
  have ho := Only.setCell (F := fun k => k = N + 1) W rfl 0 (.int .i64 ((pre.length : Int) + 1))
  refine ⟨⟨ho.os, ho.tape, ho.output, ho.size, fun k hk hn => ho.block k hk hn, fun k hk => .inl hk⟩, ?_, HI.out.low.trans (ho.below (by have := heap_lt HI.out.n; omega) (fun i hi => by omega))⟩
  rw [List.length_append, show ((pre.length + [(y, lev)].length : Nat) : Int) = (pre.length : Int) + 1 from by simp]
  exact hb9
 case done =>
  rintro D W hD hI hK
  have d0 := cell_of_row W (N + 1) 0 _ _ _ hI.n
  simp at d0
  have HI := Lib.hid hI
  clear hI
  rw [HL.out] at d0
  gi_wp2
  refine ⟨by simp, .inl ⟨_, _, rfl, run_takeDeferred hK, ?_⟩⟩
  refine ⟨_, by simp [results, Tryz.results26, go_sem], rfl, ?_⟩
  rw [eN]
  exact HI.out.low.trans (belowK_b (w := w) (by omega) W D _ _ (by omega) hK rfl rfl)
 case stop =>
  rintro D c pre W hD hpre h
  exact h.elim
end
end Go.Proofs.YtikbfoichhkeaaaGreat
