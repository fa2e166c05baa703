/- jtree.Walk with JtreeWalks' own function. -/
import Derived.Test.YtiejpenffpjmeaaDoorWalk
import Derived.Test.YtiejpenffpjmeaaDoorFnil
namespace Go.Proofs.YtiejpenffpjmeaaDoor
set_option linter.unusedSimpArgs false
set_option linter.unusedVariables false
open Go.RowKit Go.Proofs Go.Shelf

attribute [local go_sem] Oper.semAt_some

/-- What has been gathered between two rounds. -/
structure WalkI (w : World) (G N Y base : Nat) (n : Int) (pre : List (Lo × Nat)) (W : World) : Prop where
  got : ∃ v, GotV W G base v (pre.map (·.1))
  num : Boxed W N 3 (.int .i64 n)
  fn : Boxed W Y 27 (.func (.func 24) #[] #[.pointer (some ⟨G, 0, none⟩), .pointer (some ⟨N, 0, none⟩)])
  below : Below G w W
  size : base ≤ W.heap.size
theorem WalkI.it {w : World} {G N Y base b0 n0 : Nat} {n : Int} {pre : List (Lo × Nat)} {A B : World} (h : WalkI w G N Y base n pre A) (g : ItKeeps (mineG n0 G) b0 A B) (hG : G < b0) (hN : N < b0) (hY : Y < b0) (hn0 : n0 ≤ G) (hGb : G < base) (hsz : G ≤ w.heap.size) : WalkI w G N Y base n pre B := by
  obtain ⟨v, hv⟩ := h.got
  refine ⟨⟨v, boxed_it hv.1 g (.inl hG), ownsRow_block hv.2 fun k hk => ?_⟩, boxed_it h.num g (.inl hN), boxed_it h.fn g (.inl hY), h.below.trans (g.below (by omega) (by have := h.below.size; omega)), Nat.le_trans h.size g.size⟩
  have hb := ownBlock_ge hv.2 hk
  exact g.keep k hb.2 (.inr ⟨by omega, .inr (.inr ⟨v, hv.1, hk⟩)⟩)
theorem WalkI.mine {w : World} {G N Y base n0 : Nat} {n : Int} {pre : List (Lo × Nat)} {A : World} {k : Nat} (h : WalkI w G N Y base n pre A) (hk : mineG n0 G A k) : ∃ o, A.heap[k]? = some o ∧ o.isCells = true := by
  obtain ⟨v, hv⟩ := h.got
  obtain ⟨-, rfl | hs | ⟨u, hu, he⟩⟩ := hk
  · exact ⟨_, hv.1, rfl⟩
  · have := hv.1.lt
    omega
  · obtain rfl := boxed_inj hu hv.1
    rcases hv.2.2 with ⟨rfl, -⟩ | ⟨g, cap, cur, rfl, h1, h2, -⟩
    · simp [Value.ownBlock] at he
    · simp [Value.ownBlock] at he
      subst he
      exact ⟨_, h2, rfl⟩
theorem mine_back {n0 G b0 : Nat} {A B : World} {k : Nat} (hG : G < b0) (g : ItKeeps (mineG n0 G) b0 A B) (h : mineG n0 G B k) : mineG n0 G A k := by
  obtain ⟨h0, h1⟩ := h
  refine ⟨h0, ?_⟩
  by_cases hA : A.heap.size ≤ G
  · exact .inr (.inl hA)
  · rcases h1 with rfl | h1 | ⟨u, hu, he⟩
    · exact .inl rfl
    · have := g.size
      omega
    · exact .inr (.inr ⟨u, (g.keep G (by omega) (.inl hG)).symm.trans hu, he⟩)

theorem lo_levels_len (x : Lo) : (x.levels 1).length = x.size := by
  have := congrArg List.length (lo_levels_tree 1 x)
  rw [List.length_map] at this
  rw [this, ← lo_size_tree, ← flat_len, ← levels_flat 1, List.length_map]

set_option maxRecDepth 100000 in
set_option maxHeartbeats 4000000 in
theorem walk_in (k : Nat) (hk : 3 ≤ k) (G N n0 : Nat) (n : Int) (x : Lo) (w : World) (hx : LoAt w (fun k => k < n0) x) (hsz : x.size ≤ 1000000) (hG : Boxed w G 22 (.slice none 0 0)) (hN : Boxed w N 3 (.int .i64 n)) (h0 : n0 ≤ N) (hNG : N < G) (h1n : 1 ≤ n) :
    CallsIn Fence.wide k Tryd.prog 23 #[x.val, .func (.func 24) #[] #[.pointer (some ⟨G, 0, none⟩), .pointer (some ⟨N, 0, none⟩)]] w fun e w' => (∃ v, e = .returned v) ∧
      (∃ (pre : List (Lo × Nat)) (v : Value), pre <+: x.levels 1 ∧ GotV w' G (G + 1) v (pre.map (·.1)) ∧ (pre.length : Int) = min n x.size) ∧ Boxed w' N 3 (.int .i64 n) ∧ Below G w w' := by
  have h1 : 1 ≤ k := by omega
  obtain ⟨Av, cv, hvs⟩ := hx.slice
  have lG := hG.lt
  have HX := Lib.hid hx
  have HB := Lib.hid (And.intro hG hN)
  have HV := fun n w => levels_in n x w
  unfold Lo.val at HV ⊢
  rw [hvs] at HV ⊢
  have HV := Lib.hid HV
  have Hvs := Lib.hid hvs
  clear hx hvs hG hN
  have hnil := fun w => run_eql_fn (.func 24) #[] #[.pointer (some ⟨G, 0, none⟩), .pointer (some ⟨N, 0, none⟩)] w
  refine callsIn_of_wp_marks Tryd.func23 rfl trivial ?_ rfl
  simp only [Tryd.ntmps23, List.size_toArray, List.length_cons, List.length_nil, Nat.reduceAdd, Nat.reduceSub, Array.replicate_succ, Array.replicate_zero, List.push_toArray, List.append_toArray, List.nil_append, List.cons_append]
  gi_wp2_with (refine ⟨trivial, ?_⟩; gi_at_call 35; refine (HV.out (k - 1) _).mono ?_; rintro e w' ⟨rfl, rfl⟩)
  obtain ⟨L, eL⟩ : ∃ L, w.heap.size = L := ⟨_, rfl⟩
  have bY := (Boxed.new (w.alloc (.cells #[.int .i64 x.op, .string (bs x.s), .int .i64 x.n, .slice Av x.l.length cv, .int .i64 x.line] 24)) 27 (.func (.func 24) #[] #[.pointer (some ⟨G, 0, none⟩), .pointer (some ⟨N, 0, none⟩)])).alloc (.cells #[.int .i64 x.op, .string (bs x.s), .int .i64 x.n, .slice Av x.l.length cv, .int .i64 x.line] 24)
  have bP := heap_alloc_new ((w.alloc (.cells #[.int .i64 x.op, .string (bs x.s), .int .i64 x.n, .slice Av x.l.length cv, .int .i64 x.line] 24)).alloc (.cells #[.func (.func 24) #[] #[.pointer (some ⟨G, 0, none⟩), .pointer (some ⟨N, 0, none⟩)]] 27)) (.cells #[.int .i64 x.op, .string (bs x.s), .int .i64 x.n, .slice Av x.l.length cv, .int .i64 x.line] 24)
  have hbl : Below w.heap.size w (((w.alloc (.cells #[.int .i64 x.op, .string (bs x.s), .int .i64 x.n, .slice Av x.l.length cv, .int .i64 x.line] 24)).alloc (.cells #[.func (.func 24) #[] #[.pointer (some ⟨G, 0, none⟩), .pointer (some ⟨N, 0, none⟩)]] 27)).alloc (.cells #[.int .i64 x.op, .string (bs x.s), .int .i64 x.n, .slice Av x.l.length cv, .int .i64 x.line] 24)) :=
    (((Below.refl _ w).alloc (Nat.le_refl _) _).alloc (by simp) _).alloc (by simp; omega) _
  have hsz0 : (((w.alloc (.cells #[.int .i64 x.op, .string (bs x.s), .int .i64 x.n, .slice Av x.l.length cv, .int .i64 x.line] 24)).alloc (.cells #[.func (.func 24) #[] #[.pointer (some ⟨G, 0, none⟩), .pointer (some ⟨N, 0, none⟩)]] 27)).alloc (.cells #[.int .i64 x.op, .string (bs x.s), .int .i64 x.n, .slice Av x.l.length cv, .int .i64 x.line] 24)).heap.size = w.heap.size + 3 := by simp
  obtain ⟨W0, hW0⟩ : ∃ W0, (((w.alloc (.cells #[.int .i64 x.op, .string (bs x.s), .int .i64 x.n, .slice Av x.l.length cv, .int .i64 x.line] 24)).alloc (.cells #[.func (.func 24) #[] #[.pointer (some ⟨G, 0, none⟩), .pointer (some ⟨N, 0, none⟩)]] 27)).alloc (.cells #[.int .i64 x.op, .string (bs x.s), .int .i64 x.n, .slice Av x.l.length cv, .int .i64 x.line] 24)) = W0 := ⟨_, rfl⟩
  simp only [World.size_alloc] at bY bP
  rw [hW0] at bY bP hbl hsz0 ⊢
  clear hW0
  rw [eL] at bY bP hbl hsz0 lG ⊢
  have hxs := Hvs.out
  have hG0 : Boxed W0 G 22 (.slice none 0 0) := (hbl.block G lG).trans HB.out.1
  have hN0 : Boxed W0 N 3 (.int .i64 n) := (hbl.block N (by omega)).trans HB.out.2
  have hn0 : n0 ≤ G := by omega
  refine wpIn_rangeRows (mine := mineG n0 G) rfl h1 (gf := 60) (lb := #[.pointer (some ⟨L + 1 + 1, 0, none⟩)]) rfl trivial (enters_of Tryd.func60 (by kernel_rfl) rfl)
    (encs := fun y : Lo × Nat => #[y.1.val, .int .i64 y.2]) (xs := x.levels 1) (w0 := W0)
    (levels_seq (k - 1) (by omega) (L + 1 + 1) n0 x (mineG n0 G) W0 hsz (fun _ _ hk => hk.1) (by rw [hxs]; exact bP) (by omega) (LoAt.keep x HX.out (fun _ h => h) (fun p hp => hbl.cell (show p.block < L by have : p.block < n0 := hp; omega)))) (Below.refl _ _) (fun _ => rfl)
    (fun pre W => WalkI w G N (L + 1) (L + 3) n pre W ∧ (pre.length : Int) < n)
    (fun c pre W => WalkI w G N (L + 1) (L + 3) n pre W ∧ c = .ret ∧ (pre.length : Int) = n)
    (fun pre A B h g => ⟨h.1.it g (by omega) (by omega) (by omega) (by omega) (by omega) (by omega), h.2⟩)
    (fun c pre A B h g => ⟨h.1.it g (by omega) (by omega) (by omega) (by omega) (by omega) (by omega), h.2⟩)
    (fun pre A k h hk => h.1.mine hk) (fun c pre A k h hk => h.1.mine hk) (fun _ _ _ g h => mine_back (by omega) g h)
    ⟨⟨⟨_, hG0, rfl, .inl ⟨rfl, rfl⟩⟩, hN0, bY, hbl.mono (by omega), by omega⟩, by simp; omega⟩
    (fun y a' W => ∃ Bx, L + 3 ≤ Bx ∧ W.heap[Bx]? = some (.cells #[.int .i64 y.1.op, .string (bs y.1.s), .int .i64 y.1.n, y.1.v, .int .i64 y.1.line] 24 (0, 0)) ∧ a' = { tmps := (.agg #[.int .i64 x.op, .string (bs x.s), .int .i64 x.n, .slice Av x.l.length cv, .int .i64 x.line] :: .func (.func 24) #[] #[.pointer (some ⟨G, 0, none⟩), .pointer (some ⟨N, 0, none⟩)] :: .pointer (some ⟨L, 0, none⟩) :: .pointer (some ⟨L + 1, 0, none⟩) :: .pointer (some ⟨Bx, 0, none⟩) :: .func (.func 24) #[] #[.pointer (some ⟨G, 0, none⟩), .pointer (some ⟨N, 0, none⟩)] :: .bool false :: .agg #[.int .i64 x.op, .string (bs x.s), .int .i64 x.n, .slice Av x.l.length cv, .int .i64 x.line] :: .func (.func 60) #[] #[.pointer (some ⟨L + 1 + 1, 0, none⟩)] :: y.1.val :: .int .i64 y.2 :: undef :: undef :: undef :: undef :: []).toArray, defers := [] })
    (fun y a' A B h g => by
      obtain ⟨Bx, g1, g2, g3⟩ := h
      exact ⟨Bx, g1, g _ _ g2 rfl, g3⟩)
    ?assign ?body ?done ?stop
  case assign =>
    rintro l pre ⟨y, lev⟩ W K' ⟨hI, hlt⟩ hpre hK
    have hIs := hI.size
    obtain ⟨Ay, cy, hvy⟩ := (LoAt.part 1 x HX.out (y, lev) (pre_mem hpre)).slice
    unfold Lo.val
    simp only at hvy ⊢
    have HI := Lib.hid hI
    have HVy := Lib.hid hvy
    rw [hvy] at hK ⊢
    clear hI hpre hvy
    gi_wp2
    exact hK _ _ ((Below.refl _ W).alloc (Nat.le_refl _) _) ⟨W.heap.size, hIs, heap_alloc_new W _, by unfold Lo.val; rw [HVy.out]⟩
  case body =>
    rintro l pre ⟨y, lev⟩ a' W hl ⟨hI, hlt⟩ ⟨Bx, hBx, hblk, rfl⟩ hpre
    simp only at hblk ⊢
    have hLy := LoAt.part 1 x HX.out (y, lev) (pre_mem hpre)
    obtain ⟨Ay, cy, hvy⟩ := hLy.slice
    simp only at hLy hvy
    rw [hvy] at hblk
    have c0 : W.cell? ⟨Bx, 0, none⟩ = some (.int .i64 y.op) := cell_of_row W Bx 0 _ _ _ hblk
    have c1 : W.cell? ⟨Bx, 1, none⟩ = some (.string (bs y.s)) := cell_of_row W Bx 1 _ _ _ hblk
    have c2 : W.cell? ⟨Bx, 2, none⟩ = some (.int .i64 y.n) := cell_of_row W Bx 2 _ _ _ hblk
    have c3 : W.cell? ⟨Bx, 3, none⟩ = some (.slice Ay y.l.length cy) := cell_of_row W Bx 3 _ _ _ hblk
    have c4 : W.cell? ⟨Bx, 4, none⟩ = some (.int .i64 y.line) := cell_of_row W Bx 4 _ _ _ hblk
    obtain ⟨v, hv⟩ := hI.got
    have cF := hI.fn.cell
    have hlen : pre.length ≤ 1000000 := by
      obtain ⟨r, hr⟩ := hpre
      have := congrArg List.length hr
      rw [lo_levels_len] at this
      simp at this
      omega
    have hc := got_any G N (L + 3) n0 n v (pre.map (·.1)) y W hv hI.num hn0 (by omega) hNG hI.size Ay cy hvy (by simpa using hlen)
    rw [List.length_map] at hc
    unfold Lo.val at hc
    rw [hvy] at hc
    have HC := Lib.hid hc
    have HI := Lib.hid hI
    clear hc hLy hvy hblk hv hI hpre hlen
    have fin : ∀ w2, (∃ v', GotV w2 G (L + 3) v' (pre.map (·.1) ++ [y])) → RdKeeps (mineG n0 G) W w2 → WalkI w G N (L + 1) (L + 3) n (pre ++ [(y, lev)]) w2 := fun w2 h2 h3 => by
      obtain ⟨v', hv'⟩ := h2
      obtain ⟨v, hv⟩ := HI.out.got
      have hs := HI.out.size
      have hne : ∀ k, k < L + 3 → k ≠ G → ¬ mineG n0 G W k := fun k hk hkG hm => by
        obtain ⟨-, h | h | ⟨u, hu, he⟩⟩ := hm
        · exact hkG h
        · have := hv.1.lt
          omega
        · obtain rfl := boxed_inj hu hv.1
          have := (ownBlock_ge hv.2 he).1
          omega
      refine ⟨⟨v', by rw [List.map_append]; exact hv'⟩, (h3.keep N (by omega) (hne N (by omega) (by omega))).trans HI.out.num, (h3.keep (L + 1) (by omega) (hne _ (by omega) (by omega))).trans HI.out.fn, ?_, Nat.le_trans hs h3.size⟩
      exact HI.out.below.trans ⟨h3.os, h3.tape, h3.output, h3.size, fun k hk => h3.keep k (by omega) (hne k (by omega) (by omega))⟩
    have HFin := Lib.hid fin
    clear fin
    by_cases hnx : ((pre.length + 1 : Nat) : Int) < n
    · have HC2 := HC
      rw [decide_eq_true hnx] at HC2
      clear HC
      gi_wp2_with fail
      refine ⟨trivial, fun h => absurd h (by simp [Fence.wide]), ?_⟩
      gi_at_call 24
      refine (CallsIn.inRound l (callsIn_wide.2 HC2.out)).mono ?_
      rintro e w2 ⟨rfl, hv2, hk2⟩
      have HE := Lib.hid (And.intro hv2 hk2)
      clear hv2 hk2
      gi_wp2
      exact ⟨HE.out.2, HFin.out _ HE.out.1 HE.out.2, by simp; omega⟩
    · have HC2 := HC
      rw [decide_eq_false hnx] at HC2
      clear HC
      gi_wp2_with fail
      refine ⟨trivial, fun h => absurd h (by simp [Fence.wide]), ?_⟩
      gi_at_call 24
      refine (CallsIn.inRound l (callsIn_wide.2 HC2.out)).mono ?_
      rintro e w2 ⟨rfl, hv2, hk2⟩
      have HE := Lib.hid (And.intro hv2 hk2)
      clear hv2 hk2
      gi_wp2
      exact ⟨HE.out.2, HFin.out _ HE.out.1 HE.out.2, rfl, by simp; omega⟩
  case done =>
    rintro D W hD ⟨hI, hlt⟩ hK
    have HI := Lib.hid hI
    clear hI
    gi_wp2
    refine ⟨by simp, .inl ⟨_, _, rfl, run_takeDeferred hK, ?_⟩⟩
    refine ⟨_, by simp [results, Tryd.results23, go_sem]; rfl, ⟨_, rfl⟩, ?_⟩
    obtain ⟨v, hv⟩ := HI.out.got
    have ho : ∀ k, k ≠ D → (W.putObj D (.deferred none)).heap[k]? = W.heap[k]? := fun k h => World.putObj_heap_other h
    refine ⟨⟨x.levels 1, v, List.prefix_refl _, ⟨(ho G (by omega)).trans hv.1, ownsRow_low (b := L + 3) (ownsRow_block hv.2 fun k hk => ho k (fun e => ?_)) (by omega)⟩, by rw [lo_levels_len] at hlt ⊢; omega⟩, (ho N (by omega)).trans HI.out.num, HI.out.below.trans (belowK_b (w := w) (by omega) W D _ _ (by omega) hK rfl rfl)⟩
    subst e
    obtain ⟨o, h1, h2⟩ := HI.out.mine (n0 := 0) (k := k) ⟨by omega, .inr (.inr ⟨v, hv.1, hk⟩)⟩
    rw [hK] at h1
    cases h1
    cases h2
  case stop =>
    rintro D c pre W hD hpre ⟨hI, rfl, hlt⟩ hK
    have HI := Lib.hid hI
    clear hI
    gi_wp2
    refine ⟨by simp, .inl ⟨_, _, rfl, run_takeDeferred hK, ?_⟩⟩
    refine ⟨_, by simp [results, Tryd.results23, go_sem]; rfl, ⟨_, rfl⟩, ?_⟩
    obtain ⟨v, hv⟩ := HI.out.got
    have ho : ∀ k, k ≠ D → (W.putObj D (.deferred none)).heap[k]? = W.heap[k]? := fun k h => World.putObj_heap_other h
    refine ⟨⟨pre, v, hpre, ⟨(ho G (by omega)).trans hv.1, ownsRow_low (b := L + 3) (ownsRow_block hv.2 fun k hk => ho k (fun e => ?_)) (by omega)⟩, by obtain ⟨r, hr⟩ := hpre; have := congrArg List.length hr; rw [lo_levels_len, List.length_append] at this; omega⟩, (ho N (by omega)).trans HI.out.num, HI.out.below.trans (belowK_b (w := w) (by omega) W D _ _ (by omega) hK rfl rfl)⟩
    subst e
    obtain ⟨o, h1, h2⟩ := HI.out.mine (n0 := 0) (k := k) ⟨by omega, .inr (.inr ⟨v, hv.1, hk⟩)⟩
    rw [hK] at h1
    cases h1
    cases h2
end Go.Proofs.YtiejpenffpjmeaaDoor
