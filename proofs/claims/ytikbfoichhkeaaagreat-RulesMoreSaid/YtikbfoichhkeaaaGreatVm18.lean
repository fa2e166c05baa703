/- scope.resolve: the whole tree is gone through. scope.told: the functions as they are told. -/
import Derived.OwnWalkIn
import Derived.Carry
import Derived.Shelf.Abstract
import Derived.Shelf.RegionOpen
import Derived.Sort.CutIn
import Derived.LoopNIn
import Derived.Test.YtikbfoichhkeaaaGreatVm17
set_option linter.unusedSimpArgs false
set_option linter.unusedVariables false
set_option maxRecDepth 100000
set_option maxHeartbeats 40000000
namespace Go.Proofs.YtikbfoichhkeaaaGreat
section
open Go.RowKit Go.Proofs Go.Shelf
attribute [local go_sem] Oper.semAt_some
theorem ResX.treeK {W0 W : World} {x : Lo} {b R B Fb : Nat} {pre : List Ev6} {ws : WS} {ns : List Int} {L : List (Fn × Value × Nat)} {v : Value} (h : ResX W0 x b R B Fb pre W ws ns L v) (hpre : pre <+: evA x b 0 (-1) false 0) : TreeK x b 0 pre W := by
 refine ⟨⟨h.stat, fun p hp => ?_⟩, fun e he hf => ?_⟩
 ·obtain ⟨i, hi⟩ := List.mem_iff_getElem?.1 hp
  have hlt := (List.getElem?_eq_some_iff.1 hi).1
  rw [h.nums.1] at hlt
  exact ⟨_, (h.nums.2 i p _ hi (List.getElem?_eq_getElem hlt)).1⟩
 ·obtain ⟨i, hi⟩ := List.mem_iff_getElem?.1 he
  obtain ⟨r, hr⟩ := hpre
  have hlt := (List.getElem?_eq_some_iff.1 hi).1
  have had : (adA x b 0)[i]? = some (e.b, e.o) := by
   rw [← evA_ad x b 0 (-1) false 0, ← hr, List.map_append, List.getElem?_append_left (by simpa using hlt), List.getElem?_map, hi]
   rfl
  have hn := h.book.nos i e hi hf
  exact (h.nums.2 i _ e.no had (by rw [List.getElem?_append_left (by rw [h.book.len]; exact hlt)]; exact hn)).1
theorem alloc4 (W : World) (a b c d : Obj) : Below W.heap.size W ((((W.alloc a).alloc b).alloc c).alloc d) ∧ ((((W.alloc a).alloc b).alloc c).alloc d).heap[W.heap.size]? = some a ∧ ((((W.alloc a).alloc b).alloc c).alloc d).heap[W.heap.size + 1]? = some b ∧
  ((((W.alloc a).alloc b).alloc c).alloc d).heap[W.heap.size + 1 + 1]? = some c ∧ ((((W.alloc a).alloc b).alloc c).alloc d).heap[W.heap.size + 1 + 1 + 1]? = some d ∧ ((((W.alloc a).alloc b).alloc c).alloc d).heap.size = W.heap.size + 4 := by
 have s1 : (W.alloc a).heap.size = W.heap.size + 1 := World.size_alloc _ _
 have s2 : ((W.alloc a).alloc b).heap.size = W.heap.size + 1 + 1 := by rw [World.size_alloc, s1]
 have s3 : (((W.alloc a).alloc b).alloc c).heap.size = W.heap.size + 1 + 1 + 1 := by rw [World.size_alloc, s2]
 have b1 := below_alloc9 W a
 have b2 := below_alloc9 (W.alloc a) b
 have b3 := below_alloc9 ((W.alloc a).alloc b) c
 have b4 := below_alloc9 (((W.alloc a).alloc b).alloc c) d
 have h1 := heap_alloc_new W a
 have h2 := heap_alloc_new (W.alloc a) b
 have h3 := heap_alloc_new ((W.alloc a).alloc b) c
 have h4 := heap_alloc_new (((W.alloc a).alloc b).alloc c) d
 rw [s1] at h2
 rw [s2] at h3
 rw [s3] at h4
 refine ⟨((b1.trans (b2.mono b1.size)).trans (b3.mono (by omega))).trans (b4.mono (by omega)), ?_, ?_, ?_, h4, by rw [World.size_alloc, s3]⟩
 ·exact (b4.block _ (by omega)).trans ((b3.block _ (by omega)).trans ((b2.block _ (by omega)).trans h1))
 ·exact (b4.block _ (by omega)).trans ((b3.block _ (by omega)).trans h2)
 ·exact (b4.block _ (by omega)).trans h3
theorem ResX.err {W0 W w1 W' : World} {x : Lo} {b R B Fb : Nat} {pre : List Ev6} {ws : WS} {ns : List Int} {L : List (Fn × Value × Nat)} {v : Value} {cs : Array Value} (hG : ResG W0 x b R B Fb) (h : ResX W0 x b R B Fb pre W ws ns L v) (hF : W.heap[Fb]? = some (.cells cs 76 (0, 0))) (hb : Below W.heap.size W w1) (ho : Only (fun i => i = Fb) w1 W') :
  RSt W' R B ws L v ∧ (∀ k, TB x b k → ∃ cs, W'.heap[k]? = some (.cells cs 24 (0, 0))) ∧ Only (fun k => TB x b k ∨ k = R ∨ k = Fb) W0 W' ∧ RdKeeps (mineR x b R Fb) W W' ∧ w1.heap[Fb]? = W.heap[Fb]? := by
 have hF1 := hb.block Fb (heap_lt hF)
 have hst := (h.st.below hb).box (hF1.trans hF) ho
 have hk : ∀ k, k < W.heap.size → k ≠ Fb → W'.heap[k]? = W.heap[k]? := fun k h1 h2 => (ho.block k (by have := hb.size; omega) h2).trans (hb.block k h1)
 refine ⟨hst, fun k hT => ?_, ?_, ?_, hF1⟩
 ·obtain ⟨cs', hc⟩ := h.shape k hT
  exact ⟨cs', (hk k (heap_lt hc) (fun h9 => hG.box.2.1 (h9 ▸ hT))).trans hc⟩
 ·exact (h.only.trans' (Only.of_below hb)).trans' (ho.mono fun i _ h9 => .inr (.inr h9))
 ·refine ⟨ho.os.trans hb.os, ho.tape.trans hb.tape, ho.output.trans hb.output, Nat.le_trans hb.size ho.size, fun k h1 hn => hk k h1 fun h9 => hn (.inr (.inr (.inl h9))), fun k hm => ?_⟩
  rcases hm with hm | hm | hm | hm | hm | hm
  ·exact .inl (.inl hm)
  ·exact .inl (.inr (.inl hm))
  ·exact .inl (.inr (.inr (.inl hm)))
  ·exact absurd hst.j0 hm
  ·exact .inl (.inr (.inr (.inr (.inr (.inl ((h.st.reach1 k).2 ((hst.reach1 k).1 hm)))))))
  ·obtain ⟨q, hq, h9⟩ := hst.reach2 k hm
   exact .inl (.inr (.inr (.inr (.inr (.inr (h.st.has2 hq h9))))))
structure ResE (W0 : World) (x : Lo) (b R B Fb : Nat) (pre : List Ev6) (A : World) (line er : Int) : Prop where
 run : runE ⟨[], 0⟩ (pre.map Ev6.ev) = .error (line, er)
 ne : er ≠ 0
 box : A.heap[Fb]? = some (.cells #[.int .i64 line, .int .i64 er] 76 (0, 0))
 st : ∃ ws L v, RSt A R B ws L v
 shape : ∀ k, TB x b k → ∃ cs, A.heap[k]? = some (.cells cs 24 (0, 0))
 only : Only (fun k => TB x b k ∨ k = R ∨ k = Fb) W0 A
theorem ResE.it {W0 A A' : World} {x : Lo} {b R B Fb base : Nat} {pre : List Ev6} {line er : Int} (hG : ResG W0 x b R B Fb) (h : ResE W0 x b R B Fb pre A line er) (hk : ItKeeps (mineR x b R Fb) base A A') (hb : B ≤ base) : ResE W0 x b R B Fb pre A' line er := by
 obtain ⟨ws, L, v, hst⟩ := h.st
 refine ⟨h.run, h.ne, (hk.keep Fb (heap_lt h.box) (.inr (.inr (.inr (.inl rfl))))).trans h.box, ⟨ws, L, v, hst.it hk (by have := hG.res.1; omega)⟩, fun k hT => ?_, ?_⟩
 ·obtain ⟨cs, hc⟩ := h.shape k hT
  exact ⟨cs, (hk.keep k (heap_lt hc) (.inr (.inl hT))).trans hc⟩
 ·refine ⟨hk.os.trans h.only.os, hk.tape.trans h.only.tape, hk.output.trans h.only.output, Nat.le_trans h.only.size hk.size, fun k h1 h2 => (hk.keep k (Nat.lt_of_lt_of_le h1 h.only.size) (.inl ?_)).trans (h.only.block k h1 h2)⟩
  have := hG.base
  omega
theorem RSt.keep2 {W W' : World} {R B N D : Nat} {ws : WS} {L : List (Fn × Value × Nat)} {v : Value} {cs : Array Value} {d : Option (List Deferred)} (h : RSt W R B ws L v) (hN : W.heap[N]? = some (.cells cs 76 (0, 0))) (hD : W.heap[D]? = some (.deferred d)) (hk : ∀ k, k ≠ N → k ≠ D → W'.heap[k]? = W.heap[k]?) : RSt W' R B ws L v := by
 have hcell : ∀ (k : Nat) (cs' : Array Value) (T : TypeId), W.heap[k]? = some (.cells cs' T (0, 0)) → T ≠ 76 → W'.heap[k]? = W.heap[k]? := fun k cs' T hc hT => by
  refine hk k ?_ ?_
  ·rintro rfl
   rw [hN] at hc
   injection hc with e
   injection e with e1 e2
   exact hT e2.symm
  ·rintro rfl
   rw [hD] at hc
   cases hc
 refine h.keep (hcell R _ _ h.head (by decide)) (fun k hv => ?_) (fun q hq k hv => ?_)
 ·obtain ⟨cs', hc'⟩ := row_blk (row_zero h.row) hv
  exact hcell k _ _ hc' (by decide)
 ·rcases hv with hv | rfl
  ·obtain ⟨cs', hc'⟩ := row_blk (row_zero (h.each q hq).row) hv
   exact hcell k _ _ hc' (by decide)
  ·obtain ⟨j, D', ⟨es, clock, hb, -⟩, -⟩ := (h.each q hq).map
   refine hk _ ?_ ?_
   ·intro e
    rw [e, hN] at hb
    cases hb
   ·intro e
    rw [e, hD] at hb
    cases hb
theorem res_fin {W W0 W' : World} {x : Lo} {b R D : Nat} {y z u t : Value} (hb0 : Below W.heap.size W W0) (ho : Only (fun k => TB x b k ∨ k = R ∨ k = W.heap.size + 1 + 1) W0 W') (hz : W0.heap.size = W.heap.size + 4) (hB : W'.heap[W.heap.size + 1]? = some (.cells #[y, z] 76 (0, 0))) (hK : W'.heap[D]? = some (.deferred (some []))) (hD : W0.heap.size ≤ D) :
  ((W'.setCell ⟨W.heap.size + 1, 0, none⟩ u).setCell ⟨W.heap.size + 1, 1, none⟩ t).heap[D]? = some (.deferred (some [])) ∧
  (((W'.setCell ⟨W.heap.size + 1, 0, none⟩ u).setCell ⟨W.heap.size + 1, 1, none⟩ t).putObj D (.deferred none)).heap[W.heap.size + 1]? = some (.cells #[u, t] 76 (0, 0)) ∧
  (∀ k, k ≠ W.heap.size + 1 → k ≠ D → (((W'.setCell ⟨W.heap.size + 1, 0, none⟩ u).setCell ⟨W.heap.size + 1, 1, none⟩ t).putObj D (.deferred none)).heap[k]? = W'.heap[k]?) ∧
  Only (fun k => TB x b k ∨ k = R) W (((W'.setCell ⟨W.heap.size + 1, 0, none⟩ u).setCell ⟨W.heap.size + 1, 1, none⟩ t).putObj D (.deferred none)) := by
 have h2 := set2_only W' (W.heap.size + 1) u t
 have h3 : ((W'.setCell ⟨W.heap.size + 1, 0, none⟩ u).setCell ⟨W.heap.size + 1, 1, none⟩ t).heap[W.heap.size + 1]? = some (.cells #[u, t] 76 (0, 0)) := blk_set (blk_set hB 0 u) 1 t
 obtain ⟨W6, e6⟩ : ∃ W6, (W'.setCell ⟨W.heap.size + 1, 0, none⟩ u).setCell ⟨W.heap.size + 1, 1, none⟩ t = W6 := ⟨_, rfl⟩
 rw [e6] at h2 h3 ⊢
 have hD6 : W6.heap[D]? = some (.deferred (some [])) := (h2.block D (heap_lt hK) (by omega)).trans hK
 have hp : ∀ k, k ≠ D → (W6.putObj D (.deferred none)).heap[k]? = W6.heap[k]? := fun k h => World.putObj_heap_other h
 have hg := grownBy_putObj' W6 D (.deferred none)
 have hk : ∀ k, k ≠ W.heap.size + 1 → k ≠ D → (W6.putObj D (.deferred none)).heap[k]? = W'.heap[k]? := fun k h4 h5 => by
  rw [hp k h5]
  by_cases hl : k < W'.heap.size
  ·exact h2.block k hl h4
  ·have hs : W6.heap.size = W'.heap.size := by rw [← e6]; simp [World.setCell]
   rw [Array.getElem?_eq_none (by omega), Array.getElem?_eq_none (by omega)]
 refine ⟨hD6, (hp _ (by omega)).trans h3, hk, ?_⟩
 have hsz := hb0.size
 refine ⟨hg.os.trans (h2.os.trans (ho.os.trans hb0.os)), hg.tape.trans (h2.tape.trans (ho.tape.trans hb0.tape)), hg.output.trans (h2.output.trans (ho.output.trans hb0.output)), ?_, fun k h4 h5 => ?_⟩
 ·have := hg.size; have := h2.size; have := ho.size; omega
 ·refine (hk k (by omega) (by omega)).trans ((ho.block k (by omega) ?_).trans (hb0.block k h4))
  rintro (h9 | h9 | h9)
  ·exact h5 (.inl h9)
  ·exact h5 (.inr h9)
  ·omega
def ResQ (W : World) (x : Lo) (b R : Nat) (e : Ending) (W' : World) : Prop :=
 match runE ⟨[], 0⟩ (evT x.tree (-1) false 0) with
 | .error (line, er) => e = .returned (faultV line er) ∧ er ≠ 0 ∧ Only (fun k => TB x b k ∨ k = R) W W'
 | .ok (ws, ns) => e = .returned (faultV 0 0) ∧ Only (fun k => TB x b k ∨ k = R) W W' ∧ ∃ B L v, W.heap.size ≤ B ∧ ws.funs.length ≤ 500 ∧ RSt W' R B ws L v ∧ Stat W' x b 0 ∧ NumsAt W' (adA x b 0) ns
theorem resolve_in (n : Nat) (hn : 3 ≤ n) (x : Lo) (b R : Nat) (W : World) (hR : W.heap[R]? = some (.cells #[.slice none 0 0, .int .i64 0] 74 (0, 0))) (hst : Stat W x b 0) (hnu : NumsAt W (adA x b 0) (numsO x)) (hsh : ∀ k, TB x b k → ∃ cs, W.heap[k]? = some (.cells cs 24 (0, 0)))
  (hok : x.ok) (hnd : x.blks.Nodup) (hrt : b ∉ x.blks) (hRT : ¬ TB x b R) (hz : x.size ≤ 50000) (hfun : ∀ e ∈ evA x b 0 (-1) false 0, isFun e.x.op = true → 0 < e.x.l.length) :
  CallsIn Fence.wide n Tryz.prog 38 #[.pointer (some ⟨R, 0, none⟩), .pointer (some ⟨b, 0, none⟩)] W (ResQ W x b R) := by
 have hRl := heap_lt hR
 have hTl : ∀ k, TB x b k → k < W.heap.size := fun k hk => by
  obtain ⟨cs, hc⟩ := hsh k hk
  exact heap_lt hc
 have H := Lib.hid (And.intro hR (And.intro hst (And.intro hnu (And.intro hsh (And.intro hTl hfun)))))
 have HG := Lib.hid (And.intro hok (And.intro hnd (And.intro hrt hRT)))
 clear hR hst hnu hsh hTl hfun hok hnd hrt hRT
 refine callsIn_of_wp_marks Tryz.func38 rfl trivial ?_ rfl
 simp only [Tryz.ntmps38, List.size_toArray, List.length_cons, List.length_nil, Nat.reduceAdd, Nat.reduceSub, Array.replicate_succ, Array.replicate_zero, List.push_toArray, List.append_toArray, List.nil_append, List.cons_append]
 gi_wp2_with fail
 refine wpIn_wide.2 (wp_scope_straight ((wpIn_wide (n := n)).1 ?_))
 gi_wp2
 refine wpIn_label ?_
 gi_wp2_with (refine ⟨trivial, fun _ => (by omega), ?_⟩; gi_at_call 56; refine (trees_in (n - 1) _ _).mono ?_; rintro e w' ⟨rfl, rfl⟩)
 gi_wp2_with fail
 obtain ⟨hb0, bA, bB, bC, bD, hsz0⟩ := alloc4 W (.cells #[.pointer (some ⟨R, 0, none⟩)] 117) (.cells #[.int .i64 0, .int .i64 0] 76) (.cells #[.int .i64 0, .int .i64 0] 76) (.cells #[.pointer (some ⟨b, 0, none⟩)] 78)
 obtain ⟨W0, eW⟩ : ∃ W0, ((((W.alloc (.cells #[.pointer (some ⟨R, 0, none⟩)] 117)).alloc (.cells #[.int .i64 0, .int .i64 0] 76)).alloc (.cells #[.int .i64 0, .int .i64 0] 76)).alloc (.cells #[.pointer (some ⟨b, 0, none⟩)] 78)) = W0 := ⟨_, rfl⟩
 rw [eW] at hb0 bA bB bC bD hsz0 ⊢
 clear eW
 obtain ⟨N, eN⟩ : ∃ N, W.heap.size = N := ⟨_, rfl⟩
 rw [eN] at bA bB bC bD hsz0 hRl ⊢
 have hG : ResG W0 x b R W0.heap.size (N + 1 + 1) := ⟨HG.out.1, HG.out.2.1, HG.out.2.2.1, fun k hk => by have := H.out.2.2.2.2.1 k hk; omega, ⟨by omega, HG.out.2.2.2⟩, ⟨by omega, fun hk => by have := H.out.2.2.2.2.1 _ hk; omega, by omega⟩, rfl⟩
 have hX0 : ResX W0 x b R W0.heap.size (N + 1 + 1) [] W0 ⟨[], 0⟩ [] [] (.slice none 0 0) := by
  refine ⟨rfl, ⟨rfl, rfl, fun i f h => (by cases h), Nat.zero_le _, ⟨Int.le_refl _, by decide⟩, fun i e h => (by cases h)⟩, ⟨(hb0.block R (by omega)).trans H.out.1, rfl, World.ownsRow_nil _ _ _ _, fun q hq => (by cases hq), by omega⟩, ?_, ?_, ?_, Only.refl _ _⟩
  ·exact H.out.2.1.keep x b 0 HG.out.1 rfl fun g j hg _ => cell_block (hb0.block g (H.out.2.2.2.2.1 g hg)) ⟨g, j, none⟩ rfl
  ·refine NumsAt.keep (W := W) (by simpa using H.out.2.2.1) fun p hp => cell_block (hb0.block p.1 (H.out.2.2.2.2.1 p.1 ?_)) ⟨p.1, p.2 + 2, none⟩ rfl
   rcases adA_mem x b 0 HG.out.1 p hp with rfl | hp
   ·exact .inl rfl
   ·exact .inr hp.1
  ·intro k hk
   obtain ⟨cs, hc⟩ := H.out.2.2.2.1 k hk
   exact ⟨cs, (hb0.block k (H.out.2.2.2.2.1 k hk)).trans hc⟩
 have HGG := Lib.hid hG
 have HW := Lib.hid (And.intro hb0 (And.intro bA (And.intro bB (And.intro bC (And.intro bD hsz0)))))
 clear hG hb0 bA bB
 refine wpIn_rangeRowsK (mine := mineR x b R (N + 1 + 1)) (K := TreeK x b 0) rfl (by omega) (gf := 100) (lb := #[.pointer (some ⟨N + 1 + 1 + 1, 0, none⟩)]) rfl trivial (enters_of Tryz.func100 (by kernel_rfl) rfl)
  (encs := encE) (xs := evA x b 0 (-1) false 0) (w0 := W0)
  (trees_seq (n - 1) (N + 1 + 1 + 1) x b 0 (mineR x b R (N + 1 + 1)) W0 bD) (Below.refl _ _) (fun _ => rfl)
  (fun pre W' => (∃ ws ns L v, ResX W0 x b R W0.heap.size (N + 1 + 1) pre W' ws ns L v) ∧ pre <+: evA x b 0 (-1) false 0 ∧ W'.heap[N + 1 + 1]? = some (.cells #[.int .i64 0, .int .i64 0] 76 (0, 0)))
  (fun c pre W' => c = .exit 0 ∧ ∃ line er, ResE W0 x b R W0.heap.size (N + 1 + 1) pre W' line er)
  (fun pre A h => by obtain ⟨⟨ws, ns, L, v, hX⟩, hp, -⟩ := h; exact hX.treeK hp)
  (fun pre A B h g => by obtain ⟨⟨ws, ns, L, v, hX⟩, hp, hF⟩ := h; exact ⟨⟨ws, ns, L, v, hX.it HGG.out g (Nat.le_refl _)⟩, hp, (g.keep _ (heap_lt hF) (.inr (.inr (.inr (.inl rfl))))).trans hF⟩)
  (fun c pre A B h g => by obtain ⟨hc, line, er, hE⟩ := h; exact ⟨hc, line, er, hE.it HGG.out g (Nat.le_refl _)⟩)
  (fun pre A k h hk => by obtain ⟨⟨ws, ns, L, v, hX⟩, hp, hF⟩ := h; exact hX.st.mine hX.shape hF hk)
  (fun c pre A k h hk => by obtain ⟨hc, line, er, hE⟩ := h; obtain ⟨ws, L, v, hst⟩ := hE.st; exact hst.mine hE.shape hE.box hk)
  (fun A B k g h => mineR_it HGG.out.res.1 g k h)
  ⟨⟨_, _, _, _, hX0⟩, List.nil_prefix, bC⟩
  (fun e a' W' => ∃ Bx, W'.heap[Bx]? = some (.cells #[.int .i64 e.fn, .bool e.loop] 122 (0, 0)) ∧ a' = { tmps := (.pointer (some ⟨R, 0, none⟩) :: .pointer (some ⟨b, 0, none⟩) :: .pointer (some ⟨N, 0, none⟩) :: undef :: .pointer (some ⟨N + 1, 0, none⟩) :: .pointer (some ⟨N + 1 + 1, 0, none⟩) :: .pointer (some ⟨e.b, e.o, none⟩) :: .pointer (some ⟨Bx, 0, none⟩) :: .pointer (some ⟨b, 0, none⟩) :: .func (.func 100) #[] #[.pointer (some ⟨N + 1 + 1 + 1, 0, none⟩)] :: .pointer (some ⟨e.b, e.o, none⟩) :: .agg #[.int .i64 e.fn, .bool e.loop] :: undef :: undef :: undef :: undef :: undef :: undef :: undef :: undef :: []).toArray, defers := [] })
  (fun e a' A B h g => by
   obtain ⟨Bx, g1, g2⟩ := h
   exact ⟨Bx, g _ _ g1 rfl, g2⟩)
  ?assign ?body ?done ?stop
 case assign =>
  rintro l pre e W' K' hI hpre hK
  clear hI hpre
  unfold encE placeV
  gi_wp2
  exact hK _ _ ((Below.refl _ W').alloc (Nat.le_refl _) _) ⟨W'.heap.size, heap_alloc_new W' _, rfl⟩
 case body =>
  rintro l pre e a' W' hl ⟨⟨ws, ns, L, v, hX⟩, hp, hF⟩ ⟨Bx, hBx, rfl⟩ hpre
  have hNl : ∀ k, N ≤ k → k < W0.heap.size → k ≠ N + 1 + 1 → W'.heap[k]? = W0.heap[k]? := fun k h1 h2 h3 => hX.only.block k h2 (by
   rintro (h9 | h9 | h9)
   ·have := H.out.2.2.2.2.1 k h9; omega
   ·omega
   ·exact h3 h9)
  have hA := (hNl N (Nat.le_refl _) (by omega) (by omega)).trans HW.out.2.1
  have a0 := cell_of_row W' N 0 _ _ _ hA
  have x0 := cell_of_row W' Bx 0 _ _ _ hBx
  have x1 := cell_of_row W' Bx 1 _ _ _ hBx
  simp at a0 x0 x1
  have HM := Lib.hid (meet_at HGG.out hX hpre hz H.out.2.2.2.2.2)
  have HX := Lib.hid (And.intro hX (And.intro hp (And.intro hF hpre)))
  clear hX hp hF hpre hNl hA hBx
  gi_wp2_with fail
  refine ⟨trivial, fun h => absurd h (by simp [Fence.wide]), ?_⟩
  gi_at_call 57
  unfold placeV at HM
  refine (CallsIn.inRound l (callsIn_wide.2 HM.out)).mono ?_
  intro e9 w1 hq
  unfold MeetQ at hq
  cases hs : stepE ws e.ev with
  | error p9 =>
   obtain ⟨line, er⟩ := p9
   rw [hs] at hq
   obtain ⟨rfl, hne, hb1⟩ := hq
   have ho := set2_only w1 (N + 1 + 1) (.int .i64 line) (.int .i64 er)
   have hEr := HX.out.1.err HGG.out HX.out.2.2.1 hb1 ho
   have hF1 := hEr.2.2.2.2.trans HX.out.2.2.1
   have d0 := cell_of_row w1 _ 0 _ _ _ hF1
   have d1 := cell_of_row w1 _ 1 _ _ _ hF1
   have fd0 := frozen_of_row w1 _ 0 _ _ hF1
   have fd1 := frozen_of_row w1 _ 1 _ _ hF1
   simp at d0 d1
   have hrunE : runE ⟨[], 0⟩ ((pre ++ [e]).map Ev6.ev) = .error (line, er) := by
    rw [List.map_append, List.map_cons, List.map_nil, runE_snoc, HX.out.1.run]
    simp only
    rw [hs]
   have hE : ResE W0 x b R W0.heap.size (N + 1 + 1) (pre ++ [e]) ((w1.setCell ⟨N + 1 + 1, 0, none⟩ (.int .i64 line)).setCell ⟨N + 1 + 1, 1, none⟩ (.int .i64 er)) line er := ⟨hrunE, hne, blk_set (blk_set hF1 0 _) 1 _, ⟨_, _, _, hEr.1⟩, hEr.2.1, hEr.2.2.1⟩
   have HE := Lib.hid (And.intro hE hEr.2.2.2.1)
   have ee : (er == 0) = false := by rw [beq_eq_false_iff_ne]; exact hne
   clear ho hEr hF1 hrunE hE hs hb1 hne
   unfold faultV
   cases el : (line == 0)
   all_goals
    gi_wp2
    exact ⟨HE.out.2, rfl, _, _, HE.out.1⟩
  | ok p9 =>
   obtain ⟨ws', n9⟩ := p9
   rw [hs] at hq
   obtain ⟨rfl, hm⟩ := hq
   have ho := set2_only w1 (N + 1 + 1) (.int .i64 0) (.int .i64 0)
   have hSt := HX.out.1.step HGG.out HX.out.2.2.2 hz hs hm HX.out.2.2.1 ho
   have hF1 := hSt.2.2.trans HX.out.2.2.1
   have d0 := cell_of_row w1 _ 0 _ _ _ hF1
   have d1 := cell_of_row w1 _ 1 _ _ _ hF1
   have fd0 := frozen_of_row w1 _ 0 _ _ hF1
   have fd1 := frozen_of_row w1 _ 1 _ _ hF1
   simp at d0 d1
   have hF2 : ((w1.setCell ⟨N + 1 + 1, 0, none⟩ (.int .i64 0)).setCell ⟨N + 1 + 1, 1, none⟩ (.int .i64 0)).heap[N + 1 + 1]? = some (.cells #[.int .i64 0, .int .i64 0] 76 (0, 0)) := blk_set (blk_set hF1 0 _) 1 _
   have HE := Lib.hid (And.intro hSt.1 (And.intro hSt.2.1 hF2))
   clear ho hSt hF1 hF2 hs hm
   unfold faultV
   gi_wp2
   refine ⟨HE.out.2.1, ?_, HX.out.2.2.2, HE.out.2.2⟩
   obtain ⟨L', v', h9⟩ := HE.out.1
   exact ⟨_, _, _, _, h9⟩
 case done =>
  rintro D W' hD ⟨⟨ws, ns, L, v, hX⟩, hp, hF⟩ hK
  have hB := (hX.only.block (N + 1) (by omega) (by
   rintro (h9 | h9 | h9)
   ·have := H.out.2.2.2.2.1 _ h9; omega
   ·omega
   ·omega)).trans HW.out.2.2.1
  have a0 := cell_of_row W' _ 0 _ _ _ hF
  have a1 := cell_of_row W' _ 1 _ _ _ hF
  have b0 := cell_of_row W' _ 0 _ _ _ hB
  have b1 := cell_of_row W' _ 1 _ _ _ hB
  have fb0 := frozen_of_row W' _ 0 _ _ hB
  have fb1 := frozen_of_row W' _ 1 _ _ hB
  simp at a0 a1 b0 b1
  have HX := Lib.hid (And.intro hX (And.intro hF (And.intro hB hK)))
  clear hX hF hB hp
  rw [← eN] at HX
  have hfin := fun u t => res_fin (x := x) (b := b) (R := R) (u := u) (t := t) HW.out.1 HX.out.1.only (by omega) HX.out.2.2.1 HX.out.2.2.2 hD
  rw [eN] at hfin HX
  have HFin := Lib.hid hfin
  clear hfin
  gi_wp2
  rw [Exit.noGoto_ret]
  refine ⟨by simp, .inl ⟨_, _, rfl, run_takeDeferred (HFin.out (.int .i64 0) (.int .i64 0)).1, ?_⟩⟩
  have hq := HFin.out (.int .i64 0) (.int .i64 0)
  refine ⟨_, results_fault _ _ _ rfl rfl hq.2.1, ?_⟩
  unfold ResQ
  have hr := HX.out.1.run
  rw [evA_ev] at hr
  rw [hr]
  have hT : ∀ g, TB x b g → g ≠ N + 1 ∧ g ≠ D := fun g hg => by have := H.out.2.2.2.2.1 g hg; omega
  refine ⟨rfl, hq.2.2.2, W0.heap.size, L, v, by omega, HX.out.1.book.few, HX.out.1.st.keep2 HX.out.2.2.1 HX.out.2.2.2 hq.2.2.1, ?_, ?_⟩
  ·exact HX.out.1.stat.keep x b 0 HG.out.1 rfl fun g j hg _ => cell_block (hq.2.2.1 g (hT g hg).1 (hT g hg).2) ⟨g, j, none⟩ rfl
  ·have hnn := HX.out.1.nums
   have hll := HX.out.1.book.len
   rw [evA_len] at hll
   rw [List.drop_eq_nil_of_le (by rw [numsO_len, hll]; exact Nat.le_refl _), List.append_nil] at hnn
   refine hnn.keep fun p hp => ?_
   have hg : TB x b p.1 := by
    rcases adA_mem x b 0 HG.out.1 p hp with rfl | hp
    ·exact .inl rfl
    ·exact .inr hp.1
   exact cell_block (hq.2.2.1 p.1 (hT _ hg).1 (hT _ hg).2) ⟨p.1, p.2 + 2, none⟩ rfl
 case stop =>
  rintro D c pre W' hD hpre ⟨rfl, line, er, hE⟩ hK
  have hB := (hE.only.block (N + 1) (by omega) (by
   rintro (h9 | h9 | h9)
   ·have := H.out.2.2.2.2.1 _ h9; omega
   ·omega
   ·omega)).trans HW.out.2.2.1
  have a0 := cell_of_row W' _ 0 _ _ _ hE.box
  have a1 := cell_of_row W' _ 1 _ _ _ hE.box
  have b0 := cell_of_row W' _ 0 _ _ _ hB
  have b1 := cell_of_row W' _ 1 _ _ _ hB
  have fb0 := frozen_of_row W' _ 0 _ _ hB
  have fb1 := frozen_of_row W' _ 1 _ _ hB
  simp at a0 a1 b0 b1
  have HX := Lib.hid (And.intro hE (And.intro hB (And.intro hK hpre)))
  clear hE hB hpre
  rw [← eN] at HX
  have hfin := fun u t => res_fin (x := x) (b := b) (R := R) (u := u) (t := t) HW.out.1 HX.out.1.only (by omega) HX.out.2.1 HX.out.2.2.1 hD
  rw [eN] at hfin HX
  have HFin := Lib.hid hfin
  clear hfin
  gi_wp2
  rw [Exit.noGoto_ret]
  refine ⟨by simp, .inl ⟨_, _, rfl, run_takeDeferred (HFin.out (.int .i64 line) (.int .i64 er)).1, ?_⟩⟩
  have hq := HFin.out (.int .i64 line) (.int .i64 er)
  refine ⟨_, results_fault _ _ _ rfl rfl hq.2.1, ?_⟩
  unfold ResQ
  have hr := HX.out.1.run
  obtain ⟨r9, hr9⟩ := HX.out.2.2.2
  have hr2 := runE_app_err _ (r9.map Ev6.ev) hr
  rw [← List.map_append, hr9, evA_ev] at hr2
  rw [hr2]
  exact ⟨rfl, HX.out.1.ne, hq.2.2.2⟩
end
section
open Go.RowKit Go.Proofs
theorem rowBelow {W W' : World} {B size n : Nat} {e : TypeId} {v : Value} {xs : List Value} (h : W.ownsRow B e size v n xs) (hb : Below W.heap.size W W') : W'.ownsRow B e size v n xs :=
 ⟨h.1, h.2.imp id fun ⟨g, cap, cur, e1, e2, e3, e4⟩ => ⟨g, cap, cur, e1, e2, (hb.block g (heap_lt e3)).trans e3, e4⟩⟩
theorem info43 : (Tryz.prog.info? 48).map (fun i => (i.zero, i.size, i.bytes)) = some (some (.agg #[.int .i64 0, .string ⟨#[]⟩, .int .i64 0, .slice none 0 0, .int .i64 0]), 5, 64) := by kernel_rfl
def gCells (q : Fn × Value) : List Value := [.int .i64 q.1.around, .string (bs q.1.name), .int .i64 q.1.params, q.2, .int .i64 q.1.mark]
abbrev gRow (L : List (Fn × Value)) : List Value := L.flatMap gCells
theorem gRow_app (a b : List (Fn × Value)) : gRow (a ++ b) = gRow a ++ gRow b := List.flatMap_append
def FunsV (W : World) (B : Nat) (v : Value) (fs : List Fn) : Prop :=
 ∃ L : List (Fn × Value), L.map (·.1) = fs ∧ W.ownsRow B 48 5 v L.length (gRow L) ∧ ∀ q ∈ L, W.ownsRow B 9 1 q.2 q.1.vars.length (namesV q.1.vars)
def g2 (q : Fn × Value × Nat) : Fn × Value := (q.1, q.2.1)
theorem g2_take (L : List (Fn × Value × Nat)) {j : Nat} {q : Fn × Value × Nat} (h : L[j]? = some q) : gRow ((L.take (j + 1)).map g2) = gRow ((L.take j).map g2) ++ gCells (g2 q) := by
 rw [List.take_add_one, h, List.map_append, gRow_app]
 simp [gRow]
theorem told_any (W : World) (R B : Nat) (ws : WS) (L : List (Fn × Value × Nat)) (v : Value) (hR : RSt W R B ws L v) (hl5 : ws.funs.length ≤ 500) :
  Calls Tryz.prog 39 #[.pointer (some ⟨R, 0, none⟩)] W fun e W' => ∃ v', e = .returned v' ∧ W'.ownsRow W.heap.size 48 5 v' L.length (gRow (L.map g2)) ∧ Below W.heap.size W W' := by
 obtain ⟨A, c, rfl, hc1, hc2⟩ := hR.form
 have hRl := heap_lt hR.head
 have hlen := hR.len
 have hc3 : c ≤ 9223372036854775807 := hc2
 have r0 := cell_of_row W R 0 _ _ _ hR.head
 simp at r0
 have HR := Lib.hid hR
 clear hR hc1 hc2
 go_enter Tryz.func39, Tryz.ntmps39
 go_wp2
 go_loopw [3, 11] (fun l i wr => ∃ (j : Nat), j ≤ L.length ∧ i = .int .i64 j ∧ Below W.heap.size W wr ∧ wr.ownsRow W.heap.size 48 5 l j (gRow ((L.take j).map g2))) (fun _ i _ => L.length - (intOf i).toNat)
 case atStart => exact ⟨0, Nat.zero_le _, rfl, Below.refl _ _, World.ownsRow_nil _ _ _ _⟩
 case round =>
  obtain ⟨j, hj, rfl, hb, hrow⟩ := hrel
  by_cases hlt : j < L.length
  ·obtain ⟨q, hq⟩ : ∃ q, L[j]? = some q := ⟨_, List.getElem?_eq_getElem hlt⟩
   obtain ⟨g, c', e, hcs⟩ := (HR.out.below hb).cells hq
   injection e with e1 e2 e3
   subst e1 e3
   have d0 := hcs 0 (by omega)
   have d1 := hcs 1 (by omega)
   have d2 := hcs 2 (by omega)
   have d3 := hcs 3 (by omega)
   have d4 := hcs 4 (by omega)
   have d5 := hcs 5 (by omega)
   simp [fCells] at d0 d1 d2 d3 d4 d5
   have g1 : (j : Int) < L.length := by omega
   obtain ⟨Aq, cq, hsv⟩ : ∃ Aq cq, q.2.1 = .slice Aq q.1.vars.length cq := by
    rcases (HR.out.each q (List.mem_of_getElem? hq)).row.2 with ⟨e, h0⟩ | ⟨g9, cap, cur, e, -⟩
    ·exact ⟨none, 0, by rw [e, h0]⟩
    ·exact ⟨_, _, e⟩
   obtain ⟨Al, cl, rfl, hcl⟩ : ∃ Al cl, u3 = .slice Al j cl ∧ cl ≤ maxLen := by
    rcases hrow.2 with ⟨e, h0⟩ | ⟨g9, cap, cur, e, k1, k2, k3, k4, k5⟩
    ·exact ⟨none, 0, by rw [e, h0], by unfold maxLen; omega⟩
    ·exact ⟨_, _, e, k4⟩
   rw [hsv] at d3
   have hal1 := below_alloc9 wr (.cells #[.int .i64 q.1.around, .string (bs q.1.name), .int .i64 q.1.params, .slice Aq q.1.vars.length cq, .int .i64 q.1.mark, .map (some q.2.2)] 126)
   obtain ⟨W1, e1⟩ : ∃ W1, wr.alloc (.cells #[.int .i64 q.1.around, .string (bs q.1.name), .int .i64 q.1.params, .slice Aq q.1.vars.length cq, .int .i64 q.1.mark, .map (some q.2.2)] 126) = W1 := ⟨_, rfl⟩
   have hz1 : W1.heap.size = wr.heap.size + 1 := by rw [← e1]; exact World.size_alloc _ _
   have hal2 := below_alloc9 W1 (.cells #[.int .i64 q.1.around, .string (bs q.1.name), .int .i64 q.1.params, .slice Aq q.1.vars.length cq, .int .i64 q.1.mark] 48)
   have hZ := heap_alloc_new W1 (.cells #[.int .i64 q.1.around, .string (bs q.1.name), .int .i64 q.1.params, .slice Aq q.1.vars.length cq, .int .i64 q.1.mark] 48)
   rw [e1] at hal1
   have hbW := hb.size
   have hrow2 := rowBelow hrow (hal1.trans (hal2.mono hal1.size))
   obtain ⟨i0, j0, j1, j2, j3⟩ := info_parts info43
   obtain ⟨v', w', r1, r2, r3, -, r5⟩ := run_append_own_at (P := Tryz.prog) _ W.heap.size 27 27 48 i0 _ 5 64 Tryz.underlying27 j0 j1 j2 j3 rfl (by decide) (.slice Al j cl) j _ hrow2 ⟨W1.heap.size, 0, none⟩ 1 1 (gCells (g2 q)) rfl (fun k u hk => by
     rw [add_mid, cell_of_row _ _ _ _ _ _ hZ]
     rw [← hsv]
     simpa [gCells, g2] using hk) (fun u hu => by
      simp only [gCells, g2, List.mem_cons, List.not_mem_nil, or_false] at hu
      rcases hu with rfl | rfl | rfl | hu | rfl
      ·rfl
      ·rfl
      ·rfl
      ·rw [hu, hsv]; rfl
      ·rfl) (by unfold maxLen; omega) (by omega) (by rw [World.size_alloc]; omega)
   obtain ⟨A9, c9, rfl⟩ : ∃ A c, v' = .slice A (j + 1) c := by
    rcases r2.2 with ⟨-, h0⟩ | ⟨g, cap, cur, e, -⟩
    ·omega
    ·exact ⟨_, _, e⟩
   have hbf : Below W.heap.size W w' := (hb.trans ((hal1.trans (hal2.mono hal1.size)).mono hbW)).trans ((Only.grown (F := fun k => W.heap.size ≤ k) r3 (fun r hr => (hrow.lt r hr).1)).below (by rw [World.size_alloc]; omega) (fun i h => h))
   have HN := Lib.hid (And.intro r2 (And.intro hbf hq))
   rw [hz1] at r1
   rw [← e1] at r1
   have HRun := Lib.hid r1
   clear r1 r2 r3 r5 hrow hrow2 hb hbf hZ hal1 hal2 hq hcs e1 j0 j1 j2 j3 hsv hcl
   go_wp2_with (at_builtin; refine wl_app rfl _ _ 27 rfl _ _ rfl rfl (fun v w => v = .slice A9 (j + 1) c9 ∧ w = w') ⟨_, _, HRun.out, rfl, rfl⟩ ?_; rintro v5 w5 ⟨rfl, rfl⟩)
   go_roundw
   case rel => exact ⟨j + 1, by omega, by go_num, HN.out.2.1, by rw [g2_take L HN.out.2.2]; exact HN.out.1⟩
   case measure => simp [intOf]; omega
  ·have g1 : ¬ (j : Int) < L.length := by omega
   have hjj : j = L.length := by omega
   subst hjj
   rw [List.take_length] at hrow
   have HN := Lib.hid (And.intro hb hrow)
   clear hb hrow
   go_wp2
   go_ret
   exact ⟨_, rfl, by rw [← hlen]; exact HN.out.2, HN.out.1⟩
end
end Go.Proofs.YtikbfoichhkeaaaGreat
