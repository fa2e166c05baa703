/- rules.numbered: a tree with its sets. -/
import Derived.Deep.LoopGhost
import Derived.Deep.RegionLaw
import Derived.Deep.RegionHeldLaw
import Derived.Deep.DeepCutAuto
import Derived.Deep.CutBlock
import Derived.Test.YtikbfoichhkeaaaGreatVm07
import Derived.Test.YtikbfoichhkeaaaGreatVm24
set_option linter.unusedSimpArgs false
set_option linter.unusedVariables false
set_option maxRecDepth 100000
set_option maxHeartbeats 40000000
namespace Go.Proofs.YtikbfoichhkeaaaGreat
section
open Go.RowKit Go.Proofs
theorem info92 : (Tryz.prog.info? 92).map (fun i => (i.zero, i.size, i.bytes)) = some (some (.agg #[.int .i64 0, .string ⟨#[]⟩, .int .i64 0, .slice none 0 0, .int .i64 0, .int .i64 0, .int .i64 0, .slice none 0 0]), 8, 104) := by kernel_rfl
theorem alloc3 (W : World) (a b c : Obj) : Below W.heap.size W (((W.alloc a).alloc b).alloc c) ∧ (((W.alloc a).alloc b).alloc c).heap[W.heap.size]? = some a ∧ (((W.alloc a).alloc b).alloc c).heap[W.heap.size + 1]? = some b ∧ (((W.alloc a).alloc b).alloc c).heap[W.heap.size + 1 + 1]? = some c ∧ (((W.alloc a).alloc b).alloc c).heap.size = W.heap.size + 3 := by
 have s1 : (W.alloc a).heap.size = W.heap.size + 1 := World.size_alloc _ _
 have s2 : ((W.alloc a).alloc b).heap.size = W.heap.size + 1 + 1 := by rw [World.size_alloc, s1]
 have b1 := below_alloc9 W a
 have b2 := below_alloc9 (W.alloc a) b
 have b3 := below_alloc9 ((W.alloc a).alloc b) c
 have h1 := heap_alloc_new W a
 have h2 := heap_alloc_new (W.alloc a) b
 have h3 := heap_alloc_new ((W.alloc a).alloc b) c
 rw [s1] at h2
 rw [s2] at h3
 exact ⟨(b1.trans (b2.mono b1.size)).trans (b3.mono (by omega)), (b3.block _ (by omega)).trans ((b2.block _ (by omega)).trans h1), (b3.block _ (by omega)).trans h2, h3, by rw [World.size_alloc, s2]⟩
theorem box8 {W : World} {b : Nat} {u0 u1 u2 u3 u4 u5 u6 u7 : Value} {T : TypeId} (h : W.heap[b]? = some (.cells #[u0, u1, u2, u3, u4, u5, u6, u7] T (0, 0))) :
  (W.cell? ⟨b, 0, none⟩ = some u0 ∧ W.cell? ⟨b, 1, none⟩ = some u1 ∧ W.cell? ⟨b, 2, none⟩ = some u2 ∧ W.cell? ⟨b, 3, none⟩ = some u3 ∧ W.cell? ⟨b, 4, none⟩ = some u4 ∧ W.cell? ⟨b, 5, none⟩ = some u5 ∧ W.cell? ⟨b, 6, none⟩ = some u6 ∧ W.cell? ⟨b, 7, none⟩ = some u7) ∧
   (∀ j, j < 8 → W.frozen? ⟨b, j, none⟩ = false) :=
 ⟨⟨cell_of_row _ _ 0 _ _ _ h, cell_of_row _ _ 1 _ _ _ h, cell_of_row _ _ 2 _ _ _ h, cell_of_row _ _ 3 _ _ _ h, cell_of_row _ _ 4 _ _ _ h, cell_of_row _ _ 5 _ _ _ h, cell_of_row _ _ 6 _ _ _ h, cell_of_row _ _ 7 _ _ _ h⟩, fun j hj => by
  have : j = 0 ∨ j = 1 ∨ j = 2 ∨ j = 3 ∨ j = 4 ∨ j = 5 ∨ j = 6 ∨ j = 7 := by omega
  rcases this with rfl | rfl | rfl | rfl | rfl | rfl | rfl | rfl <;> simp [World.frozen?, h]⟩
theorem fin8 {W : World} {b : Nat} {z0 z1 z2 z3 z4 z5 z6 z7 a0 a1 a2 a3 a4 a5 a6 a7 : Value} {T : TypeId} (h : W.heap[b]? = some (.cells #[z0, z1, z2, z3, z4, z5, z6, z7] T (0, 0))) :
  ((((((((W.setCell ⟨b, 0, none⟩ a0).setCell ⟨b, 1, none⟩ a1).setCell ⟨b, 2, none⟩ a2).setCell ⟨b, 3, none⟩ a3).setCell ⟨b, 4, none⟩ a4).setCell ⟨b, 5, none⟩ a5).setCell ⟨b, 6, none⟩ a6).setCell ⟨b, 7, none⟩ a7).heap[b]? = some (.cells #[a0, a1, a2, a3, a4, a5, a6, a7] T (0, 0)) := by
 have h0 : (W.setCell ⟨b, 0, none⟩ a0).heap[b]? = some (.cells #[a0, z1, z2, z3, z4, z5, z6, z7] T (0, 0)) := blk_set h 0 a0
 obtain ⟨W0, e0⟩ : ∃ x, W.setCell ⟨b, 0, none⟩ a0 = x := ⟨_, rfl⟩
 rw [e0] at h0 ⊢
 have h1 : (W0.setCell ⟨b, 1, none⟩ a1).heap[b]? = some (.cells #[a0, a1, z2, z3, z4, z5, z6, z7] T (0, 0)) := blk_set h0 1 a1
 obtain ⟨W1, e1⟩ : ∃ x, W0.setCell ⟨b, 1, none⟩ a1 = x := ⟨_, rfl⟩
 rw [e1] at h1 ⊢
 have h2 : (W1.setCell ⟨b, 2, none⟩ a2).heap[b]? = some (.cells #[a0, a1, a2, z3, z4, z5, z6, z7] T (0, 0)) := blk_set h1 2 a2
 obtain ⟨W2, e2⟩ : ∃ x, W1.setCell ⟨b, 2, none⟩ a2 = x := ⟨_, rfl⟩
 rw [e2] at h2 ⊢
 have h3 : (W2.setCell ⟨b, 3, none⟩ a3).heap[b]? = some (.cells #[a0, a1, a2, a3, z4, z5, z6, z7] T (0, 0)) := blk_set h2 3 a3
 obtain ⟨W3, e3⟩ : ∃ x, W2.setCell ⟨b, 3, none⟩ a3 = x := ⟨_, rfl⟩
 rw [e3] at h3 ⊢
 have h4 : (W3.setCell ⟨b, 4, none⟩ a4).heap[b]? = some (.cells #[a0, a1, a2, a3, a4, z5, z6, z7] T (0, 0)) := blk_set h3 4 a4
 obtain ⟨W4, e4⟩ : ∃ x, W3.setCell ⟨b, 4, none⟩ a4 = x := ⟨_, rfl⟩
 rw [e4] at h4 ⊢
 have h5 : (W4.setCell ⟨b, 5, none⟩ a5).heap[b]? = some (.cells #[a0, a1, a2, a3, a4, a5, z6, z7] T (0, 0)) := blk_set h4 5 a5
 obtain ⟨W5, e5⟩ : ∃ x, W4.setCell ⟨b, 5, none⟩ a5 = x := ⟨_, rfl⟩
 rw [e5] at h5 ⊢
 have h6 : (W5.setCell ⟨b, 6, none⟩ a6).heap[b]? = some (.cells #[a0, a1, a2, a3, a4, a5, a6, z7] T (0, 0)) := blk_set h5 6 a6
 obtain ⟨W6, e6⟩ : ∃ x, W5.setCell ⟨b, 6, none⟩ a6 = x := ⟨_, rfl⟩
 rw [e6] at h6 ⊢
 have h7 : (W6.setCell ⟨b, 7, none⟩ a7).heap[b]? = some (.cells #[a0, a1, a2, a3, a4, a5, a6, a7] T (0, 0)) := blk_set h6 7 a7
 exact h7
theorem fin8_only (W : World) (b : Nat) (a0 a1 a2 a3 a4 a5 a6 a7 : Value) : Only (fun i => i = b) W ((((((((W.setCell ⟨b, 0, none⟩ a0).setCell ⟨b, 1, none⟩ a1).setCell ⟨b, 2, none⟩ a2).setCell ⟨b, 3, none⟩ a3).setCell ⟨b, 4, none⟩ a4).setCell ⟨b, 5, none⟩ a5).setCell ⟨b, 6, none⟩ a6).setCell ⟨b, 7, none⟩ a7) :=
 (((((((Only.setCell (F := fun i => i = b) W rfl 0 a0).trans' (Only.setCell (F := fun i => i = b) _ rfl 1 a1)).trans' (Only.setCell (F := fun i => i = b) _ rfl 2 a2)).trans' (Only.setCell (F := fun i => i = b) _ rfl 3 a3)).trans' (Only.setCell (F := fun i => i = b) _ rfl 4 a4)).trans' (Only.setCell (F := fun i => i = b) _ rfl 5 a5)).trans' (Only.setCell (F := fun i => i = b) _ rfl 6 a6)).trans' (Only.setCell (F := fun i => i = b) _ rfl 7 a7)
theorem sizes_take7 (l : List Tr) (k : Nat) (t : Tr) (h : l[k]? = some t) : sizes (l.take k) + t.size ≤ sizes l ∧ sizes (l.take (k + 1)) = sizes (l.take k) + t.size := by
 have h1 : l.take k ++ (t :: l.drop (k + 1)) = l := by
  obtain ⟨h2, h3⟩ := List.getElem?_eq_some_iff.1 h
  rw [← h3, ← List.drop_eq_getElem_cons h2, List.take_append_drop]
 have h2 := sizes_app (l.take k) (t :: l.drop (k + 1))
 rw [h1, sizes_cons] at h2
 refine ⟨by omega, ?_⟩
 rw [List.take_add_one, h, sizes_app, Option.toList_some, sizes_cons, sizes_nil, Nat.add_zero]
theorem numbered_any (t : Tr) : ∀ (k : Nat) (v : Value) (w : World) (S : Nat → Prop), TreeAt w S t v → (∀ i, S i → i < w.heap.size) → t.size ≤ 100000 → k + t.size ≤ 1000000 →
  Calls Tryz.prog 76 #[v, .int .i64 k] w fun e w' => ∃ cs, e = .returned (.agg cs.toArray) ∧ NtP w' (New w w') t k cs ∧ Below w.heap.size w w' := by
 refine tree_ind (P := fun t => ∀ (k : Nat) (v : Value) (w : World) (S : Nat → Prop), TreeAt w S t v → (∀ i, S i → i < w.heap.size) → t.size ≤ 100000 → k + t.size ≤ 1000000 → Calls Tryz.prog 76 #[v, .int .i64 k] w fun e w' => ∃ cs, e = .returned (.agg cs.toArray) ∧ NtP w' (New w w') t k cs ∧ Below w.heap.size w w') ?_ t
 clear t
 intro t ih k v w S hT hS hz hk
 obtain ⟨A, c, rfl, hrow, hfine⟩ := hT.form
 have hlen := length_le_sizes t.l
 have hsz := size_eq t
 obtain ⟨A1, c1, e1, hc1, hc2⟩ := hrow.slice
 injection e1 with e2 e3 e4
 subst e2 e4
 have hc3 : c ≤ 9223372036854775807 := hc2
 have HI := Lib.hid ih
 have hl3 : t.l.length ≤ 100000 := by omega
 obtain ⟨hal, b0, b1, b2, hz3⟩ := alloc3 w (.cells #[.int .i64 t.op, .string (bs t.s), .int .i64 t.n, .slice A t.l.length c, .int .i64 t.line] 24) (.cells #[.int .i64 0, .string ⟨#[]⟩, .int .i64 0, .slice none 0 0, .int .i64 0, .int .i64 0, .int .i64 0, .slice none 0 0] 92) (.cells #[.int .i64 t.op, .string (bs t.s), .int .i64 t.n, .slice A t.l.length c, .int .i64 t.line, .int .i64 k, .int .i64 ((k : Int) + 1), .slice none 0 0] 92)
 have HR := Lib.hid (And.intro hrow (And.intro hS (And.intro hfine (And.intro hz (And.intro hsz hk)))))
 obtain ⟨W3, eW3⟩ : ∃ W, ((w.alloc (.cells #[.int .i64 t.op, .string (bs t.s), .int .i64 t.n, .slice A t.l.length c, .int .i64 t.line] 24)).alloc (.cells #[.int .i64 0, .string ⟨#[]⟩, .int .i64 0, .slice none 0 0, .int .i64 0, .int .i64 0, .int .i64 0, .slice none 0 0] 92)).alloc (.cells #[.int .i64 t.op, .string (bs t.s), .int .i64 t.n, .slice A t.l.length c, .int .i64 t.line, .int .i64 k, .int .i64 ((k : Int) + 1), .slice none 0 0] 92) = W := ⟨_, rfl⟩
 rw [eW3] at hal b0 b1 b2 hz3
 have HW := Lib.hid (And.intro hal (And.intro b0 (And.intro b1 (And.intro b2 (And.intro hz3 eW3)))))
 clear hT ih hrow hS hfine hz hsz hlen hc2 hal b0 b1 b2 hz3 eW3
 go_enter Tryz.func76, Tryz.ntmps76
 go_upto_region 2 with fail
 rw [HW.out.2.2.2.2.2]
 obtain ⟨N, eN⟩ : ∃ N, w.heap.size = N := ⟨_, rfl⟩
 rw [eN] at HW ⊢
 obtain ⟨x0, x1, x2, x3, x4⟩ := (box_facts HW.out.2.1).1
 go_wp2
 go_loopw [17] (fun i wr => ∃ (j : Nat) (acc : Value), j ≤ t.l.length ∧ i = .int .i64 j ∧ Only (fun i => i = N + 1 + 1) W3 wr ∧ wr.heap[N + 1 + 1]? = some (.cells #[.int .i64 t.op, .string (bs t.s), .int .i64 t.n, .slice A t.l.length c, .int .i64 t.line, .int .i64 k, .int .i64 ((k + 1 + sizes (t.l.take j) : Nat) : Int), acc] 92 (0, 0)) ∧ AccN 92 (N + 3) wr (t.l.take j) (k + 1) acc) (fun i _ => t.l.length - (intOf i).toNat)
 case atStart =>
  refine ⟨0, .slice none 0 0, Nat.zero_le _, rfl, Only.refl _ _, ?_, AccN.nil _ _ _ _⟩
  rw [HW.out.2.2.2.1, List.take_zero, sizes_nil]
  rfl
 case round =>
  obtain ⟨j, acc, hj, rfl, hon, hbk, hac⟩ := hrel
  obtain ⟨Aa, ca, rfl, hca1, hca2⟩ := hac.form
  rw [List.length_take, Nat.min_eq_left hj] at hbk hac hca1
  obtain ⟨e, he⟩ : ∃ e : Nat, k + 1 + sizes (t.l.take j) = e := ⟨_, rfl⟩
  rw [he] at hbk
  obtain ⟨⟨c0, c1, c2, c3, c4, c5, c6, c7⟩, cf⟩ := box8 hbk
  have f6 := cf 6 (by omega)
  have f7 := cf 7 (by omega)
  have hz3 := HW.out.2.2.2.2.1
  have hzr := hon.size
  have hwr : Below N w wr := by rw [← eN] at HW ⊢; exact HW.out.1.trans (hon.below (by omega) (fun i hi => by omega))
  by_cases hlt : j < t.l.length
  ·have g1 : (j : Int) < t.l.length := by omega
   have hrow' : RowAt wr S t.l (.slice A t.l.length c) := HR.out.1.keep (fun _ h => h) fun i hi => hwr.block i (by rw [← eN]; exact HR.out.2.1 i hi)
   obtain ⟨g, off, p, A', c', rfl, hSg, hp, hTp, y0, y1, y2, y3, y4⟩ := part_get hrow' j hlt
   have hps := size_part (t := t) (List.mem_of_getElem? hp)
   have htk := sizes_take7 t.l j p hp
   have hal5 := below_alloc9 wr (.cells #[.int .i64 p.op, .string (bs p.s), .int .i64 p.n, .slice A' p.l.length c', .int .i64 p.line] 24)
   have hb5 := heap_alloc_new wr (.cells #[.int .i64 p.op, .string (bs p.s), .int .i64 p.n, .slice A' p.l.length c', .int .i64 p.line] 24)
   obtain ⟨w5, e5⟩ : ∃ x, wr.alloc (.cells #[.int .i64 p.op, .string (bs p.s), .int .i64 p.n, .slice A' p.l.length c', .int .i64 p.line] 24) = x := ⟨_, rfl⟩
   have z5 : w5.heap.size = wr.heap.size + 1 := by rw [← e5]; exact World.size_alloc _ _
   rw [e5] at hal5 hb5
   have hSlt : ∀ i, S i → i < N := fun i hi => by rw [← eN]; exact HR.out.2.1 i hi
   have HC := Lib.hid (HI.out p hps e _ w5 S (hTp.keep (fun _ h => h) fun i hi => hal5.block i (by have := hSlt i hi; omega)) (fun i hi => by have := hSlt i hi; omega) (by have := HR.out.2.2.2.1; omega) (by have := HR.out.2.2.2.2.1; have := HR.out.2.2.2.2.2; omega))
   have hbk5 := (hal5.block (N + 1 + 1) (heap_lt hbk)).trans hbk
   obtain ⟨Zr, eZr⟩ : ∃ x, wr.heap.size = x := ⟨_, rfl⟩
   rw [eZr] at hb5 hal5 hzr z5
   obtain ⟨v0, v1, v2, v3, v4⟩ := (box_facts hb5).1
   obtain ⟨⟨d0, d1, d2, d3, d4, d5, d6, d7⟩, df⟩ := box8 hbk5
   have HK := Lib.hid (And.intro hac (And.intro hon (And.intro hbk5 (And.intro hal5 (And.intro hp (And.intro htk (And.intro hwr eZr)))))))
   clear hac hon hbk hal5 hp htk hwr hrow' hTp hps hbk5 df cf hb5 hSlt
   go_wp2_with fail
   go_at_call 76
   refine HC.out.mono ?_
   rintro e9 w6 ⟨cs, rfl, hcs, hb6⟩
   obtain ⟨A0, n0, c0', A8, c8, rfl, hcs2, -⟩ := (NtP_eq _ _ _ _ _).1 hcs
   obtain ⟨e', hE⟩ : ∃ x, e + p.size = x := ⟨_, rfl⟩
   rw [hE] at hcs ⊢
   unfold ntV
   have z6 := hb6.size
   have hbk6 := (hb6.block (N + 1 + 1) (by have := heap_lt HK.out.2.2.1; omega)).trans HK.out.2.2.1
   have hal7 := below_alloc9 w6 (.cells (ntV p.op p.s p.n (.slice A0 n0 c0') p.line e e' (.slice A8 p.l.length c8)).toArray 92)
   have hb7 := heap_alloc_new w6 (.cells (ntV p.op p.s p.n (.slice A0 n0 c0') p.line e e' (.slice A8 p.l.length c8)).toArray 92)
   obtain ⟨w7, e7⟩ : ∃ x, w6.alloc (.cells #[.int .i64 p.op, .string (bs p.s), .int .i64 p.n, .slice A0 n0 c0', .int .i64 p.line, .int .i64 e, .int .i64 e', .slice A8 p.l.length c8] 92) = x := ⟨_, rfl⟩
   have z7 : w7.heap.size = w6.heap.size + 1 := by rw [← e7]; exact World.size_alloc _ _
   rw [show (w6.alloc (.cells (ntV p.op p.s p.n (.slice A0 n0 c0') p.line e e' (.slice A8 p.l.length c8)).toArray 92)) = w7 from e7] at hal7 hb7
   have hb47 : Below wr.heap.size wr w7 := by
    have h1 := HK.out.2.2.2.1
    rw [← eZr] at h1
    exact (h1.trans (hb6.mono h1.size)).trans (hal7.mono (by have := h1.size; omega))
   have hown := HK.out.1.own
   have hac7 := HK.out.1.keep (W' := w7) (fun i hi hi2 => hb47.block i hi2) hb47.size
   have hnt7 : NtP w7 (foot (N + 3) w7 (.slice Aa j ca)) p (k + 1 + sizes (t.l.take j)) (ntV p.op p.s p.n (.slice A0 n0 c0') p.line e e' (.slice A8 p.l.length c8)) := by
    rw [he]
    refine NtP.keep (fun i hi => ⟨⟨?_, ?_⟩, fun h => ?_⟩) (fun i hi => hal7.block i hi.2) _ _ _ hcs
    ·have := hi.1; omega
    ·have := hi.2; omega
    ·have := (hown i h).2; have := hi.1; omega
   have HP0 := AccN.push (p := Tryz.prog) Tryz.underlying90 info92 rfl (by decide) hac7 hnt7 (by omega) (by rw [List.length_take]; omega)
   rw [z7, List.length_take, Nat.min_eq_left hj] at HP0
   obtain ⟨Z6, eZ6⟩ : ∃ x, w6.heap.size = x := ⟨_, rfl⟩
   rw [eZ6] at HP0 hb7 z7
   have HP := Lib.hid HP0
   have hbk7 := (hal7.block (N + 1 + 1) (heap_lt hbk6)).trans hbk6
   obtain ⟨⟨d0, d1, d2, d3, d4, d5, d6, d7⟩, df⟩ := box8 hbk7
   obtain ⟨⟨q0, q1, q2, q3, q4, q5, q6, q7⟩, qf⟩ := box8 (show w7.heap[Z6]? = some (.cells #[.int .i64 p.op, .string (bs p.s), .int .i64 p.n, .slice A0 n0 c0', .int .i64 p.line, .int .i64 e, .int .i64 e', .slice A8 p.l.length c8] 92 (0, 0)) from hb7)
   have HQ := Lib.hid (And.intro hbk7 (And.intro hb47 (And.intro hb7 (And.intro hown (And.intro hz3 hzr)))))
   clear hcs hcs2 hbk6 hal7 hb7 hb47 hown hac7 hnt7 HP0 hbk7 df qf hb6 v0 v1 v2 v3 v4 y0 y1 y2 y3 y4 c0 c1 c2 c3 c4 c5 c6 c7 f6 f7
   go_upto_region 7 with (at_builtin; refine wl_app rfl _ _ 90 rfl (.slice Aa j ca) (.slice (some ⟨Z6 + 1, 0, none⟩) 1 1) rfl rfl _ HP.out ?_; rintro u w8 ⟨hacc, hon, A9, c9, rfl⟩; have M8 := Lib.hid (And.intro hacc hon); clear hacc hon d0 d1 d2 d3 d4 d5 d6 d7 q0 q1 q2 q3 q4 q5 q6 q7; have hlo : ∀ i, i < N + 3 → w8.heap[i]? = w7.heap[i]? := fun i hi => M8.out.2.block i (by have := HQ.out.2.1.size; have := HQ.out.2.2.2.2.2; have := HQ.out.2.2.2.2.1; omega) (fun h => by rcases HK.out.1.own i h with ⟨h1, h2⟩; omega); have hb8 := (hlo (N + 1 + 1) (by omega)).trans HQ.out.1; have f7 := (box8 hb8).2 7 (by omega); have d7 := (box8 hb8).1.2.2.2.2.2.2.2; have H8 := Lib.hid hb8; clear hb8 hlo)
   obtain ⟨W9, e9⟩ : ∃ x, w8.setCell ⟨N + 1 + 1, 7, none⟩ (.slice A9 (j + 1) c9) = x := ⟨_, rfl⟩
   have ho9 : Only (fun i => i = N + 1 + 1) w8 W9 := by rw [← e9]; exact Only.setCell (F := fun i => i = N + 1 + 1) w8 rfl 7 _
   have hb9 : W9.heap[N + 1 + 1]? = some (.cells #[.int .i64 t.op, .string (bs t.s), .int .i64 t.n, .slice (some ⟨g, off, none⟩) t.l.length c, .int .i64 t.line, .int .i64 k, .int .i64 e, .slice A9 (j + 1) c9] 92 (0, 0)) := by rw [← e9]; exact blk_set H8.out 7 _
   have hz69 : W9.heap[Z6]? = w7.heap[Z6]? := by
    have h1 := HQ.out.2.2.2.2.2
    have h2 := HQ.out.2.1.size
    refine (ho9.block Z6 (by have := M8.out.2.size; omega) (by omega)).trans (M8.out.2.block Z6 (by omega) (fun h => ?_))
    have := (HK.out.1.own Z6 h).2
    omega
   have q6 := (box8 ((hz69.trans HQ.out.2.2.1).trans rfl)).1.2.2.2.2.2.2.1
   have f6 := (box8 hb9).2 6 (by omega)
   have d6 := (box8 hb9).1.2.2.2.2.2.2.1
   have H9 := Lib.hid (And.intro ho9 hb9)
   rw [e9]
   clear ho9 hb9 hz69 d7 f7
   go_wp2
   go_roundw
   case rel =>
    have ht := HK.out.2.2.2.2.2.1
    have ho10 : Only (fun i => i = N + 1 + 1) w8 (W9.setCell ⟨N + 1 + 1, 6, none⟩ (.int .i64 e')) := H9.out.1.trans' (Only.setCell (F := fun i => i = N + 1 + 1) W9 rfl 6 _)
    refine ⟨j + 1, .slice A9 (j + 1) c9, by omega, by go_num, ?_, ?_, ?_⟩
    ·exact ((HK.out.2.1.trans' (Only.of_below HQ.out.2.1)).trans (M8.out.2.mono fun i hi h => .inr ⟨by have := (HK.out.1.own i h).1; omega, hi⟩)).trans' ho10
    ·rw [show k + 1 + sizes (t.l.take (j + 1)) = e' by rw [ht.2, ← hE, ← he]; omega]
     exact blk_set H9.out.2 6 _
    ·have e10 : t.l.take (j + 1) = t.l.take j ++ [p] := by rw [List.take_add_one, HK.out.2.2.2.2.1]; rfl
     rw [e10]
     exact M8.out.1.keep (fun i hi hi2 => ho10.block i hi2 (by omega)) ho10.size
   case measure => simp [intOf]; omega
  ·obtain rfl : j = t.l.length := by omega
   have g1 : ¬ (t.l.length : Int) < t.l.length := by omega
   rw [List.take_length] at hac he
   have hb1 := (hon.block (N + 1) (by omega) (by omega)).trans HW.out.2.2.1
   obtain ⟨⟨m0, m1, m2, m3, m4, m5, m6, m7⟩, df⟩ := box8 hb1
   have r0 := df 0 (by omega)
   have r1 := df 1 (by omega)
   have r2 := df 2 (by omega)
   have r3 := df 3 (by omega)
   have r4 := df 4 (by omega)
   have r5 := df 5 (by omega)
   have r6 := df 6 (by omega)
   have r7 := df 7 (by omega)
   have hF := fin8 (a0 := .int .i64 t.op) (a1 := .string (bs t.s)) (a2 := .int .i64 t.n) (a3 := .slice A t.l.length c) (a4 := .int .i64 t.line) (a5 := .int .i64 k) (a6 := .int .i64 e) (a7 := .slice Aa t.l.length ca) hb1
   have hO := fin8_only wr (N + 1) (.int .i64 t.op) (.string (bs t.s)) (.int .i64 t.n) (.slice A t.l.length c) (.int .i64 t.line) (.int .i64 k) (.int .i64 e) (.slice Aa t.l.length ca)
   have HF := Lib.hid (And.intro hF (And.intro hO (And.intro hac (And.intro hwr (And.intro he (And.intro hzr hz3))))))
   clear hF hO hac hon hwr he hbk hb1 df cf
   go_wp2
   obtain ⟨hF, hO, hac, hwr, he, hzr', hz3'⟩ := HF.out
   obtain ⟨WF, eF⟩ : ∃ W, ((((((((wr.setCell ⟨N + 1, 0, none⟩ (.int .i64 t.op)).setCell ⟨N + 1, 1, none⟩ (.string (bs t.s))).setCell ⟨N + 1, 2, none⟩ (.int .i64 t.n)).setCell ⟨N + 1, 3, none⟩ (.slice A t.l.length c)).setCell ⟨N + 1, 4, none⟩ (.int .i64 t.line)).setCell ⟨N + 1, 5, none⟩ (.int .i64 k)).setCell ⟨N + 1, 6, none⟩ (.int .i64 e)).setCell ⟨N + 1, 7, none⟩ (.slice Aa t.l.length ca)) = W := ⟨_, rfl⟩
   rw [eF] at hF hO ⊢
   obtain ⟨⟨s0, s1, s2, s3, s4, s5, s6, s7⟩, -⟩ := box8 hF
   refine bodyPost_ret (v := .agg #[.int .i64 t.op, .string (bs t.s), .int .i64 t.n, .slice A t.l.length c, .int .i64 t.line, .int .i64 k, .int .i64 e, .slice Aa t.l.length ca]) (by simp [results, Tryz.results76, go_sem, s0, s1, s2, s3, s4, s5, s6, s7]) rfl ⟨ntV t.op t.s t.n (.slice A t.l.length c) t.line k (e : Int) (.slice Aa t.l.length ca), rfl, ?_, ?_⟩
   ·have hac2 := hac.keep (W' := WF) (fun i hi hi2 => hO.block i hi2 (by omega)) hO.size
    obtain ⟨A7, c7', e7, h71, h72⟩ := hac2.row (S := New w WF) (fun i hi hi2 => ⟨by omega, hi2⟩)
    injection e7 with e71 e72 e73
    subst e71 e73
    refine (NtP_eq _ _ _ _ _).2 ⟨A, t.l.length, c, Aa, ca, ?_, ⟨h71.1, h71.2, HR.out.2.2.1⟩, h72⟩
    rw [show k + t.size = e by rw [HR.out.2.2.2.2.1]; omega]
   ·exact hwr.trans ((hO.below (B := N) (by omega) (fun i hi => by omega)).mono (by omega))
end
end Go.Proofs.YtikbfoichhkeaaaGreat
