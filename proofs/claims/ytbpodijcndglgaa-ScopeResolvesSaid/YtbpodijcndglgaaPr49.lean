/- The document's tree and function, of any tree. The document's Resolve: any tree. gumshoeref05.SameFuns at the same functions. The law ScopeResolves: its walk. -/
import Derived.Deep.RegionLaw
import Derived.Deep.DeepCutAuto
import Derived.BigQuiet
import Derived.Test.YtbpodijcndglgaaPr47
import Derived.Test.YtbpodijcndglgaaPr48
set_option linter.unusedSimpArgs false
set_option linter.unusedVariables false
set_option maxRecDepth 100000
set_option maxHeartbeats 40000000
namespace Go.Proofs.Ytbpodijcndglgaa
section
open Go.RowKit Go.Proofs
theorem fun_shape {t : Tr} (hf : isFun t.op = true) (hg : good t) : ∃ xs b, t.l = xs ++ [b] ∧ (∀ p ∈ xs, p.op = 1 ∧ p.l = []) ∧ xs.length ≤ 300 := by
 have h4 : t.l.length ≤ 201 ∧ ∃ xs b, t.l = xs ++ [b] ∧ (∀ x ∈ xs, x.op = 1) ∧ b.op = 32 := by
  rcases fun_four hf with h | h
  ·exact ((inv_41 h).1 hg.self).2.2
  ·exact ((inv_10 h).1 hg.self).2.2
 obtain ⟨h1, xs, b, h2, h3, -⟩ := h4
 refine ⟨xs, b, h2, fun p hp => ⟨h3 p hp, ((inv_1 (h3 p hp)).1 (hg.part (by rw [h2]; exact List.mem_append_left _ hp)).self).2.2⟩, ?_⟩
 rw [h2, List.length_append] at h1
 omega
theorem tree_all (t : Tr) : TreeOk t := by
 refine tree_ind (P := TreeOk) (fun t IH => wtree_ok t (fun hf W R B S ws fv v a hW hT hS hBR hI h0 h5 ha0 ha hm hg hz => ?_) IH) t
 obtain ⟨xs, b, hl, hps, hxs⟩ := fun_shape hf hg
 exact wfun_ok t xs b hl hf hps hxs (IH b (size_part (by rw [hl]; simp))) W R B S ws fv v a hW hT hS hBR hI h0 h5 ha0 ha hm hg hz
end
section
open Go.RowKit Go.Proofs
theorem resOut_bad {t : Tr} (h : rightP t = false) : resOut t = ([], Tr.zero, 0, 30) := by
 unfold resOut
 rw [h]
 rfl
theorem resOut_many {t : Tr} (h : rightP t = true) (h2 : 200 < (decl t []).length) : resOut t = ([], Tr.zero, t.line, 52) := by
 unfold resOut
 rw [if_pos h, resolve_eq, if_pos h2]
theorem resOut_err {t : Tr} (h : rightP t = true) (h2 : ¬ 200 < (decl t []).length) {l e : Int} (h3 : resT t 0 false ⟨[rootF t], 4⟩ = .error (l, e)) : resOut t = ([], Tr.zero, l, e) := by
 unfold resOut
 rw [if_pos h, resolve_eq, if_neg h2, h3]
theorem resOut_ok {t q : Tr} {w : WS} (h : rightP t = true) (h2 : ¬ 200 < (decl t []).length) (h3 : resT t 0 false ⟨[rootF t], 4⟩ = .ok (q, w)) : resOut t = (w.funs, q, 0, 0) := by
 unfold resOut
 rw [if_pos h, resolve_eq, if_neg h2, h3]
theorem root_wk {W : World} {N g R : Nat} {t : Tr} {V : Value} (hg : W.heap[g]? = some (.cells #[.int .i64 (-1), .string ⟨#[]⟩, .int .i64 0, V, .int .i64 0] 41 (0, 0))) (hR : W.heap[R]? = some (.cells #[.slice (some ⟨g, 0, none⟩) 1 1, .int .i64 4, .int .i64 0, .int .i64 0] 54 (0, 0))) (hN : N ≤ g)
  (hV : W.ownsRow N 9 1 V (decl t []).length (namesV (decl t []))) : WkAt W R N ⟨[rootF t], 4⟩ 0 0 (.slice (some ⟨g, 0, none⟩) 1 1) := by
 refine ⟨hR, [(rootF t, V)], rfl, ⟨rfl, .inr ⟨g, 1, _, rfl, hN, hg, Nat.le_refl _, by unfold maxLen; omega, rfl, rfl⟩⟩, fun q hq => ?_⟩
 rw [List.mem_singleton.1 hq]
 exact hV
def RefQ (W : World) (S : Nat → Prop) (X : List Fn × Tr × Int × Int) (e : Ending) (W' : World) : Prop :=
 ∃ fv qv, e = .returned (.tuple #[fv, qv, .int .i64 X.2.2.1, .int .i64 X.2.2.2]) ∧ FunsV W' W.heap.size fv X.1 ∧ TreeAt W' (fun k => S k ∨ New W W' k) X.2.1 qv ∧ Below W.heap.size W W'
theorem RefQ.none {W W' : World} {S : Nat → Prop} {l e : Int} (hb : Below W.heap.size W W') : RefQ W S ([], Tr.zero, l, e) (.returned (.tuple #[.slice none 0 0, .agg #[.int .i64 0, .string ⟨#[]⟩, .int .i64 0, .slice none 0 0, .int .i64 0], .int .i64 l, .int .i64 e])) W' :=
 ⟨_, _, rfl, ⟨[], rfl, World.ownsRow_nil _ _ _ _, fun q hq => by cases hq⟩, TreeAt.zero _ _, hb⟩
theorem refres_any (t : Tr) (v : Value) (W : World) (S : Nat → Prop) (hT : TreeAt W S t v) (hS : ∀ k, S k → k < W.heap.size) (hz : t.size ≤ 40000) :
  Calls Try.prog 9 #[v] W (RefQ W S (resOut t)) := by
 obtain ⟨A, c, rfl, -, -⟩ := hT.form
 have hTb : ∀ w, Below W.heap.size W w → TreeAt w S t (.agg #[.int .i64 t.op, .string (bs t.s), .int .i64 t.n, .slice A t.l.length c, .int .i64 t.line]) := fun w hb => hT.keep (fun _ h => h) (fun k hk => hb.block k (hS k hk))
 have hAt : ∀ w, Below W.heap.size W w → At w w.heap.size t (.agg #[.int .i64 t.op, .string (bs t.s), .int .i64 t.n, .slice A t.l.length c, .int .i64 t.line]) := fun w hb => (hTb w hb).below_ (fun k hk => by have := hS k hk; have := hb.size; omega)
 have hbx := heap_alloc_new W (.cells #[.int .i64 t.op, .string (bs t.s), .int .i64 t.n, .slice A t.l.length c, .int .i64 t.line] 24)
 have hal := (below_alloc9 W (.cells #[.int .i64 t.op, .string (bs t.s), .int .i64 t.n, .slice A t.l.length c, .int .i64 t.line] 24)).alloc (by simp) (.cells #[.int .i64 0, .string ⟨#[]⟩, .int .i64 0, .slice none 0 0, .int .i64 0] 24)
 have hbr := heap_alloc_new (W.alloc (.cells #[.int .i64 t.op, .string (bs t.s), .int .i64 t.n, .slice A t.l.length c, .int .i64 t.line] 24)) (.cells #[.int .i64 0, .string ⟨#[]⟩, .int .i64 0, .slice none 0 0, .int .i64 0] 24)
 have hbx2 := ((below_alloc9 (W.alloc (.cells #[.int .i64 t.op, .string (bs t.s), .int .i64 t.n, .slice A t.l.length c, .int .i64 t.line] 24)) (.cells #[.int .i64 0, .string ⟨#[]⟩, .int .i64 0, .slice none 0 0, .int .i64 0] 24)).block W.heap.size (by simp)).trans hbx
 rw [World.size_alloc] at hbr
 obtain ⟨W2, e2⟩ : ∃ x, (W.alloc (.cells #[.int .i64 t.op, .string (bs t.s), .int .i64 t.n, .slice A t.l.length c, .int .i64 t.line] 24)).alloc (.cells #[.int .i64 0, .string ⟨#[]⟩, .int .i64 0, .slice none 0 0, .int .i64 0] 24) = x := ⟨_, rfl⟩
 have z2 : W2.heap.size = W.heap.size + 2 := by rw [← e2]; simp
 rw [e2] at hal hbr hbx2
 obtain ⟨N, eN⟩ : ∃ N, W.heap.size = N := ⟨_, rfl⟩
 have hRi := rright_any t _ W2 (hAt W2 hal) (by omega)
 rw [eN] at z2 hbx2 hbr
 obtain ⟨x0, x1, x2, x3, x4⟩ := (box_facts hbx2).1
 have HRi := Lib.hid hRi
 have HW := Lib.hid (And.intro hal (And.intro hbx2 (And.intro hbr (And.intro e2 (And.intro hTb hS)))))
 clear hbx2 hbr hal hbx e2 hT hTb hAt hS hRi
 go_enter Try.func9, Try.ntmps9
 go_upto_region 1 with fail
 rw [HW.out.2.2.2.1]
 go_wp2_with fail
 go_at_call 13
 refine HRi.out.mono ?_
 rintro e w1 ⟨rfl, hb1⟩
 have hw1 : Below W.heap.size W w1 := HW.out.1.trans (hb1.mono (by omega))
 have bA1 := (hb1.block N (by omega)).trans HW.out.2.1
 have bB1 := (hb1.block (N + 1) (by omega)).trans HW.out.2.2.1
 have hs1 := hb1.size
 have H1 := Lib.hid (And.intro hw1 (And.intro bA1 bB1))
 clear hb1 hw1 bA1 bB1 x0 x1 x2 x3 x4
 obtain ⟨y0, y1, y2, y3, y4⟩ := (box_facts H1.out.2.1).1
 cases hr : rightP t with
 | false =>
  obtain ⟨⟨r0, r1, r2, r3, r4⟩, ⟨s0, s1, s2, s3, s4⟩⟩ := box_facts H1.out.2.2
  have HR := Lib.hid hr
  clear hr
  go_wp2
  have hfin := setN5_fin (v0 := .int .i64 0) (v1 := .string ⟨#[]⟩) (v2 := .int .i64 0) (v3 := .slice none 0 0) (v4 := .int .i64 0) (b := N + 1) (by omega) H1.out.1 H1.out.2.2
  refine bodyPost_ret (results_res _ _ _ _ _ _ rfl rfl rfl rfl rfl hfin.1) rfl ?_
  rw [resOut_bad HR.out]
  exact RefQ.none hfin.2.1
 | true =>
  have HR := Lib.hid hr
  clear hr
  have HD := Lib.hid (declared_any t _ (.slice none 0 0) w1 S N [] (HW.out.2.2.2.2.1 w1 H1.out.1) (fun k hk => by have := HW.out.2.2.2.2.2 k hk; omega) (by omega) (World.ownsRow_nil _ _ _ _) (by simp; omega))
  go_wp2_with fail
  go_at_call 21
  refine HD.out.mono ?_
  rintro e w2 ⟨V, rfl, hn⟩
  obtain ⟨AV, cV, rfl, hc1, hc2⟩ := hn.form
  have hb2 : Below w1.heap.size w1 w2 := ⟨hn.on.os, hn.on.tape, hn.on.output, hn.on.size, fun k hk => hn.on.block k hk (fun e => by cases e)⟩
  have hw2 : Below W.heap.size W w2 := H1.out.1.trans (hb2.mono H1.out.1.size)
  have bA2 := (hb2.block N (by omega)).trans H1.out.2.1
  have bB2 := (hb2.block (N + 1) (by omega)).trans H1.out.2.2
  have hs2 := hb2.size
  obtain ⟨VS, hVS⟩ : ∃ x, decl t [] = x := ⟨_, rfl⟩
  have H2 := Lib.hid (And.intro hw2 (And.intro bA2 (And.intro bB2 (And.intro hn hVS))))
  have hVl : VS.length ≤ 9223372036854775807 := by rw [← hVS]; unfold maxLen at hc2; omega
  rw [hVS]
  clear hb2 hw2 bA2 bB2 hn y0 y1 y2 y3 y4 hc1 hc2 hVS
  obtain ⟨y0, y1, y2, y3, y4⟩ := (box_facts H2.out.2.1).1
  by_cases h200 : 200 < VS.length
  ·have hg1 : (200 : Int) < VS.length := by omega
   obtain ⟨⟨r0, r1, r2, r3, r4⟩, ⟨s0, s1, s2, s3, s4⟩⟩ := box_facts H2.out.2.2.1
   have hfin := setN5_fin (v0 := .int .i64 0) (v1 := .string ⟨#[]⟩) (v2 := .int .i64 0) (v3 := .slice none 0 0) (v4 := .int .i64 0) (b := N + 1) (by omega) H2.out.1 H2.out.2.2.1
   have HFin := Lib.hid hfin
   have k4 : (setN5 w2 (N + 1) (.int .i64 0) (.string ⟨#[]⟩) (.int .i64 0) (.slice none 0 0) (.int .i64 0)).cell? ⟨N, 4, none⟩ = some (.int .i64 t.line) := (box_facts ((hfin.2.2.block N (by omega) (by omega)).trans H2.out.2.1)).1.2.2.2.2
   clear hfin
   go_upto_region 6 with fail
   go_region
   all_goals
    go_wp2
    refine bodyPost_ret (results_res _ _ _ _ _ _ rfl rfl rfl rfl rfl HFin.out.1) rfl ?_
    rw [resOut_many HR.out (by rw [H2.out.2.2.2.2]; exact h200)]
    exact RefQ.none HFin.out.2.1.drew
  ·have hg1 : ¬ (200 : Int) < VS.length := by omega
   have hgf := heap_alloc_new w2 (.cells #[.int .i64 (-1), .string ⟨#[]⟩, .int .i64 0, .slice AV VS.length cV, .int .i64 0] 41)
   have hal1 := below_alloc9 w2 (.cells #[.int .i64 (-1), .string ⟨#[]⟩, .int .i64 0, .slice AV VS.length cV, .int .i64 0] 41)
   have z3 : (w2.alloc (.cells #[.int .i64 (-1), .string ⟨#[]⟩, .int .i64 0, .slice AV VS.length cV, .int .i64 0] 41)).heap.size = w2.heap.size + 1 := World.size_alloc _ _
   have hgr := heap_alloc_new (w2.alloc (.cells #[.int .i64 (-1), .string ⟨#[]⟩, .int .i64 0, .slice AV VS.length cV, .int .i64 0] 41)) (.cells #[.slice (some ⟨w2.heap.size, 0, none⟩) 1 1, .int .i64 4, .int .i64 0, .int .i64 0] 54)
   have hal2 := below_alloc9 (w2.alloc (.cells #[.int .i64 (-1), .string ⟨#[]⟩, .int .i64 0, .slice AV VS.length cV, .int .i64 0] 41)) (.cells #[.slice (some ⟨w2.heap.size, 0, none⟩) 1 1, .int .i64 4, .int .i64 0, .int .i64 0] 54)
   rw [z3] at hgr hal2
   have hgf2 := (hal2.block w2.heap.size (by omega)).trans hgf
   obtain ⟨w3, e3⟩ : ∃ x, (w2.alloc (.cells #[.int .i64 (-1), .string ⟨#[]⟩, .int .i64 0, .slice AV VS.length cV, .int .i64 0] 41)).alloc (.cells #[.slice (some ⟨w2.heap.size, 0, none⟩) 1 1, .int .i64 4, .int .i64 0, .int .i64 0] 54) = x := ⟨_, rfl⟩
   have z4 : w3.heap.size = w2.heap.size + 2 := by rw [← e3]; simp
   rw [e3] at hgr hgf2 hal2
   have hb3 : Below w2.heap.size w2 w3 := hal1.trans (hal2.mono (by omega))
   have hrow3 : w3.ownsRow N 9 1 (.slice AV VS.length cV) VS.length (namesV VS) := by
    have h := H2.out.2.2.2.1.row
    rw [H2.out.2.2.2.2] at h
    exact rowBelow9 h hb3
   obtain ⟨R, eR⟩ : ∃ R, w2.heap.size + 1 = R := ⟨_, rfl⟩
   rw [eR] at hgr
   have hVe := H2.out.2.2.2.2
   have hWk : WkAt w3 R N ⟨[rootF t], 4⟩ 0 0 (.slice (some ⟨w2.heap.size, 0, none⟩) 1 1) := root_wk hgf2 hgr (by omega) (by rw [hVe]; exact hrow3)
   have hw3 : Below W.heap.size W w3 := H2.out.1.trans (hb3.mono H2.out.1.size)
   have bA3 := (hb3.block N (by omega)).trans H2.out.2.1
   have bB3 := (hb3.block (N + 1) (by omega)).trans H2.out.2.2.1
   have hgood : good t := by
    have h9 := HR.out
    unfold rightP at h9
    simp only [Bool.and_eq_true] at h9
    exact good_of h9.2
   have hTr := tree_all t w3 R N S ⟨[rootF t], 4⟩ _ _ 0 false hWk (HW.out.2.2.2.2.1 w3 hw3) (fun k hk => by have := HW.out.2.2.2.2.2 k hk; omega) (by omega) (root_inv t (by rw [hVe]; exact h200)) (by simp) (by simp) (Int.le_refl _) (by simp) ⟨rootF t, rfl, fun s hs => by rw [(root_vars t).1]; exact hs⟩ (by show (4 : Int) + 2 * t.size ≤ 1000000; omega) hgood hz
   obtain ⟨r5, hr5⟩ : ∃ x, resT t 0 false ⟨[rootF t], 4⟩ = x := ⟨_, rfl⟩
   rw [hr5] at hTr
   have HT := Lib.hid hTr
   have H3 := Lib.hid (And.intro hw3 (And.intro bA3 (And.intro bB3 (And.intro hWk (And.intro hr5 e3)))))
   clear hgf hal1 z3 hgr hal2 hgf2 hb3 hrow3 hWk hw3 hgood hTr hVe hr5 y0 y1 y2 y3 y4 bA3 bB3 e3
   obtain ⟨y0, y1, y2, y3, y4⟩ := (box_facts H3.out.2.1).1
   go_upto_region 8 with fail
   rw [H3.out.2.2.2.2.2]
   go_wp2_with fail
   go_at_call 22
   refine HT.out.mono ?_
   rintro e w4 ⟨v4, t4, ws4, er4, l4, fv4, rfl, hT4, hW4, hn4, ho4, hout4⟩
   obtain ⟨A4, c4, rfl, -, -⟩ := hT4.form
   have z5 : w3.heap.size ≤ w4.heap.size := ho4.size
   have hal5 := below_alloc9 w4 (.cells #[.int .i64 t4.op, .string (bs t4.s), .int .i64 t4.n, .slice A4 t4.l.length c4, .int .i64 t4.line] 24)
   have hbx5 := heap_alloc_new w4 (.cells #[.int .i64 t4.op, .string (bs t4.s), .int .i64 t4.n, .slice A4 t4.l.length c4, .int .i64 t4.line] 24)
   have hW5 := hW4.below hal5
   have hne : ∀ k, k < w2.heap.size → ¬ (k = R ∨ (Value.slice (some ⟨w2.heap.size, 0, none⟩) 1 1).ownBlock = some k) := fun k hk e => e.elim (fun e => by omega) (fun e => by simp [Value.ownBlock] at e; omega)
   have hB5 := (hal5.block (N + 1) (by omega)).trans ((ho4.block (N + 1) (by omega) (hne _ (by omega))).trans H3.out.2.2.1)
   have hw5 : Below W.heap.size W (w4.alloc (.cells #[.int .i64 t4.op, .string (bs t4.s), .int .i64 t4.n, .slice A4 t4.l.length c4, .int .i64 t4.line] 24)) :=
    H3.out.1.trans (⟨hal5.os.trans ho4.os, hal5.tape.trans ho4.tape, hal5.output.trans ho4.output, Nat.le_trans ho4.size hal5.size, fun k hk => (hal5.block k (by omega)).trans (ho4.block k (by omega) (hne k (by omega)))⟩ : Below W.heap.size w3 _)
   have hT5 : TreeAt (w4.alloc (.cells #[.int .i64 t4.op, .string (bs t4.s), .int .i64 t4.n, .slice A4 t4.l.length c4, .int .i64 t4.line] 24)) (fun k => (S k ∨ New w3 w4 k) ∧ fv4.ownBlock ≠ some k) t4 (.agg #[.int .i64 t4.op, .string (bs t4.s), .int .i64 t4.n, .slice A4 t4.l.length c4, .int .i64 t4.line]) := hT4.keep (fun _ h => h) (fun k hk => hal5.block k (by
    rcases hk.1 with h | h
    ·have := HW.out.2.2.2.2.2 k h; omega
    ·exact h.2))
   obtain ⟨M, eM⟩ : ∃ M, w4.heap.size = M := ⟨_, rfl⟩
   obtain ⟨w5, e5⟩ : ∃ x, w4.alloc (.cells #[.int .i64 t4.op, .string (bs t4.s), .int .i64 t4.n, .slice A4 t4.l.length c4, .int .i64 t4.line] 24) = x := ⟨_, rfl⟩
   have z6 : w5.heap.size = M + 1 := by rw [← e5, ← eM]; simp
   rw [e5] at hbx5 hW5 hB5 hw5 hT5
   rw [eM] at hbx5
   obtain ⟨⟨c0, c1, c2, c3⟩, ⟨d0, d1, d2, d3⟩⟩ := four_facts hW5.head
   obtain ⟨⟨r0, r1, r2, r3, r4⟩, ⟨s0, s1, s2, s3, s4⟩⟩ := box_facts hB5
   obtain ⟨⟨m0, m1, m2, m3, m4⟩, -⟩ := box_facts hbx5
   have hRM : R ≠ N + 1 := by omega
   cases r5 with
   | error x =>
    obtain ⟨l9, e9⟩ := x
    obtain ⟨hne9, rfl, rfl⟩ := hout4
    have HR5 := Lib.hid (resOut_err HR.out (by rw [H2.out.2.2.2.2]; exact h200) H3.out.2.2.2.2.1)
    have hfin := setN5_fin (v0 := .int .i64 0) (v1 := .string ⟨#[]⟩) (v2 := .int .i64 0) (v3 := .slice none 0 0) (v4 := .int .i64 0) (b := N + 1) (by omega) hw5 hB5
    obtain ⟨⟨k0, k1, k2, k3⟩, -⟩ := four_facts ((hfin.2.2.block R hW5.lt hRM).trans hW5.head)
    have HFin := Lib.hid hfin
    clear hfin hT4 hW4 hn4 ho4 hal5 hbx5 hW5 hB5 hw5 hT5 hne H3 HT H1 y0 y1 y2 y3 y4 m0 m1 m2 m3 m4
    go_upto_region 10 with fail
    clear z2 hs1 hs2 hVl h200 z4 hg1 z5 z6 c0 c1 d0 d1 d2 d3 k0 k1 hRM HRi HD e5 hz
    go_region
    all_goals
     go_wp2
     refine bodyPost_ret (results_res _ _ _ _ _ _ rfl rfl rfl rfl rfl HFin.out.1) rfl ?_
     rw [HR5.out]
     exact RefQ.none HFin.out.2.1.drew
   | ok x =>
    obtain ⟨q, w9⟩ := x
    obtain ⟨rfl, rfl, rfl, rfl⟩ := hout4
    have HR5 := Lib.hid (resOut_ok HR.out (by rw [H2.out.2.2.2.2]; exact h200) H3.out.2.2.2.2.1)
    have hfin := setN5_fin (v0 := .int .i64 t4.op) (v1 := .string (bs t4.s)) (v2 := .int .i64 t4.n) (v3 := .slice A4 t4.l.length c4) (v4 := .int .i64 t4.line) (b := N + 1) (by omega) hw5 hB5
    obtain ⟨⟨k0, k1, k2, k3⟩, -⟩ := four_facts ((hfin.2.2.block R hW5.lt hRM).trans hW5.head)
    have hFf := hW5.funs.only hfin.2.2 (fun k hk cs => node_apart ⟨_, hk ▸ hB5⟩ cs)
    have hTf : TreeAt (setN5 w5 (N + 1) (.int .i64 t4.op) (.string (bs t4.s)) (.int .i64 t4.n) (.slice A4 t4.l.length c4) (.int .i64 t4.line)) (fun k => S k ∨ New W (setN5 w5 (N + 1) (.int .i64 t4.op) (.string (bs t4.s)) (.int .i64 t4.n) (.slice A4 t4.l.length c4) (.int .i64 t4.line)) k) t4 (.agg #[.int .i64 t4.op, .string (bs t4.s), .int .i64 t4.n, .slice A4 t4.l.length c4, .int .i64 t4.line]) := hT5.keep (fun k hk => hk.1.imp id (fun h => ⟨by have := h.1; omega, by have := h.2; have := hfin.2.2.size; omega⟩)) (fun k hk => hfin.2.2.block k (by
     rcases hk.1 with h | h
     ·have := HW.out.2.2.2.2.2 k h; omega
     ·have := h.2; omega) (by
     rcases hk.1 with h | h
     ·have := HW.out.2.2.2.2.2 k h; omega
     ·have := h.1; omega))
    have hFd := hFf.only (Only.refl (fun k => k = R) (setN5 w5 (N + 1) (.int .i64 t4.op) (.string (bs t4.s)) (.int .i64 t4.n) (.slice A4 t4.l.length c4) (.int .i64 t4.line))).drew (walker_apart9 ((hfin.2.2.block R hW5.lt hRM).trans hW5.head))
    have hTd : TreeAt (setN5 w5 (N + 1) (.int .i64 t4.op) (.string (bs t4.s)) (.int .i64 t4.n) (.slice A4 t4.l.length c4) (.int .i64 t4.line)).drew (fun k => S k ∨ New W (setN5 w5 (N + 1) (.int .i64 t4.op) (.string (bs t4.s)) (.int .i64 t4.n) (.slice A4 t4.l.length c4) (.int .i64 t4.line)).drew k) t4 (.agg #[.int .i64 t4.op, .string (bs t4.s), .int .i64 t4.n, .slice A4 t4.l.length c4, .int .i64 t4.line]) := hTf.keep (fun _ h => h) (fun _ _ => rfl)
    have HFin := Lib.hid (And.intro hfin (And.intro hFd hTd))
    clear hfin hFf hTf hFd hTd hT4 hW4 hn4 ho4 hal5 hbx5 hW5 hB5 hw5 hT5 hne H3 HT H1 y0 y1 y2 y3 y4
    go_upto_region 11 with fail
    clear z2 hs1 hs2 hVl h200 z4 hg1 z5 z6 c1 c2 c3 d0 d1 d2 d3 k1 k2 k3 hRM HRi HD e5 hz
    go_region
    all_goals
     go_wp2
     refine bodyPost_ret (results_res _ _ _ _ _ _ rfl rfl rfl rfl rfl HFin.out.1.1) rfl ?_
     rw [HR5.out]
     exact ⟨_, _, rfl, by rw [eN]; exact HFin.out.2.1, HFin.out.2.2, HFin.out.1.2.1.drew⟩
end
section
open Go.RowKit Go.Proofs
theorem cell_lt9 {W : World} {b o : Nat} {v : Value} (h : W.cell? ⟨b, o, none⟩ = some v) : b < W.heap.size := by
 refine Nat.lt_of_not_le fun hn => ?_
 have e : W.heap[b]? = none := Array.getElem?_eq_none hn
 simp [World.cell?, e] at h
theorem samefuns_self (fs : List Fn) (W : World) (B B' : Nat) (v v' : Value) (h : FunsV W B v fs) (h' : FunsV W B' v' fs) (hv : ∀ f ∈ fs, f.vars.length ≤ 200) :
  Calls Try.prog 10 #[v, v'] W fun e w' => e = .returned (.bool true) ∧ Below W.heap.size W w' := by
 obtain ⟨A, c, rfl, hc1, hc2⟩ := h.form
 obtain ⟨A', c', rfl, hc1', hc2'⟩ := h'.form
 have H := Lib.hid (And.intro h h')
 have hfs : fs.length ≤ 9223372036854775807 := by unfold maxLen at hc2; omega
 have HV := Lib.hid hv
 clear h h' hv hc1 hc2 hc1' hc2'
 go_enter Try.func10, Try.ntmps10
 go_wp2
 go_loopw [5] (fun i wr => ∃ (k : Nat), k ≤ fs.length ∧ i = .int .i64 k ∧ Below W.heap.size W wr) (fun i _ => fs.length - (intOf i).toNat)
 case atStart => exact ⟨0, Nat.zero_le _, rfl, Below.refl _ _⟩
 case round =>
  obtain ⟨k, hk, rfl, hb⟩ := hrel
  by_cases hlt : k < fs.length
  ·obtain ⟨f, hf⟩ : ∃ f, fs[k]? = some f := ⟨_, List.getElem?_eq_getElem hlt⟩
   have g1 : (k : Int) < fs.length := by omega
   obtain ⟨gf, cf, As, cs, ev, m0, m1, m2, m3, m4, hnm⟩ := (H.out.1.below hb).get hf
   injection ev with ea eb ec
   subst ea ec
   obtain ⟨gf', cf', As', cs', ev', n0, n1, n2, n3, n4, hnm'⟩ := (H.out.2.below hb).get hf
   injection ev' with ea' eb' ec'
   subst ea' ec'
   have hv9 := HV.out f (List.mem_of_getElem? hf)
   have hl0 := cell_lt9 n0
   have hl9 := cell_lt9 m0
   have b1 := ((below_alloc9 (wr.alloc (.cells #[.int .i64 f.around, .string (bs f.name), .int .i64 f.params, .slice As f.vars.length cs, .int .i64 f.mark] 41)) (.cells #[.int .i64 f.around, .string (bs f.name), .int .i64 f.params, .slice As' f.vars.length cs', .int .i64 f.mark] 41)).block wr.heap.size (by simp)).trans (heap_alloc_new wr (.cells #[.int .i64 f.around, .string (bs f.name), .int .i64 f.params, .slice As f.vars.length cs, .int .i64 f.mark] 41))
   have b2 := heap_alloc_new (wr.alloc (.cells #[.int .i64 f.around, .string (bs f.name), .int .i64 f.params, .slice As f.vars.length cs, .int .i64 f.mark] 41)) (.cells #[.int .i64 f.around, .string (bs f.name), .int .i64 f.params, .slice As' f.vars.length cs', .int .i64 f.mark] 41)
   have hb2 := (below_alloc9 wr (.cells #[.int .i64 f.around, .string (bs f.name), .int .i64 f.params, .slice As f.vars.length cs, .int .i64 f.mark] 41)).alloc (by simp) (.cells #[.int .i64 f.around, .string (bs f.name), .int .i64 f.params, .slice As' f.vars.length cs', .int .i64 f.mark] 41)
   rw [World.size_alloc] at b2
   obtain ⟨W2, e2⟩ : ∃ W2, (wr.alloc (.cells #[.int .i64 f.around, .string (bs f.name), .int .i64 f.params, .slice As f.vars.length cs, .int .i64 f.mark] 41)).alloc (.cells #[.int .i64 f.around, .string (bs f.name), .int .i64 f.params, .slice As' f.vars.length cs', .int .i64 f.mark] 41) = W2 := ⟨_, rfl⟩
   have hz2 : W2.heap.size = wr.heap.size + 2 := by rw [← e2]; simp
   rw [e2] at b1 b2 hb2
   have hn2 : ∀ j s, f.vars[j]? = some s → ∃ b, As = some ⟨b, 0, none⟩ ∧ W2.cell? ⟨b, j, none⟩ = some (.string (bs s)) ∧ b < W2.heap.size := fun j s hs => by
    obtain ⟨b, e, hc⟩ := hnm j s hs
    have hl := cell_lt9 hc
    exact ⟨b, e, (hb2.cell (p := ⟨b, j, none⟩) hl).trans hc, by omega⟩
   have hn3 : ∀ j s, f.vars[j]? = some s → ∃ b, As' = some ⟨b, 0, none⟩ ∧ W2.cell? ⟨b, j, none⟩ = some (.string (bs s)) ∧ b < W2.heap.size := fun j s hs => by
    obtain ⟨b, e, hc⟩ := hnm' j s hs
    have hl := cell_lt9 hc
    exact ⟨b, e, (hb2.cell (p := ⟨b, j, none⟩) hl).trans hc, by omega⟩
   have HN := Lib.hid (And.intro hn2 (And.intro hn3 (And.intro hb (And.intro hb2 (And.intro b1 (And.intro b2 e2))))))
   obtain ⟨x0, x1, x2, x3, x4⟩ := (box_facts b1).1
   obtain ⟨y0, y1, y2, y3, y4⟩ := (box_facts b2).1
   clear hn2 hn3 hb hb2 b1 b2 e2 hnm hnm' hf
   go_upto_region 8 with fail
   rw [HN.out.2.2.2.2.2.2]
   clear m0 m1 m2 m3 m4 n0 n1 n2 n3 n4 hl0 hl9
   go_wp2_with fail
   go_loopw [8] (fun i wr => ∃ (j : Nat), j ≤ f.vars.length ∧ i = .int .i64 j ∧ Below W2.heap.size W2 wr) (fun i _ => f.vars.length - (intOf i).toNat)
   case atStart => exact ⟨0, Nat.zero_le _, rfl, Below.refl _ _⟩
   case round =>
    obtain ⟨j, hj, rfl, hb3⟩ := hrel
    clear x0 x1 x2 x3 x4 y0 y1 y2 y3 y4
    obtain ⟨x0, x1, x2, x3, x4⟩ := (box_facts ((hb3.block _ (heap_lt HN.out.2.2.2.2.1)).trans HN.out.2.2.2.2.1)).1
    obtain ⟨y0, y1, y2, y3, y4⟩ := (box_facts ((hb3.block _ (heap_lt HN.out.2.2.2.2.2.1)).trans HN.out.2.2.2.2.2.1)).1
    by_cases hlt2 : j < f.vars.length
    ·obtain ⟨s, hs⟩ : ∃ s, f.vars[j]? = some s := ⟨_, List.getElem?_eq_getElem hlt2⟩
     obtain ⟨b9, rfl, hs1, hl1⟩ := HN.out.1 j s hs
     obtain ⟨b8, rfl, hs2, hl2⟩ := HN.out.2.1 j s hs
     have g2 : (j : Int) < f.vars.length := by omega
     replace hs1 := (hb3.cell (p := ⟨b9, j, none⟩) hl1).trans hs1
     replace hs2 := (hb3.cell (p := ⟨b8, j, none⟩) hl2).trans hs2
     have HM := Lib.hid hb3
     clear hb3 hs hl1 hl2
     go_wp2_with fail
     go_quiet (fail)
     go_wp2
     go_roundw
     case rel => exact ⟨j + 1, by omega, by go_num, below_drewN HM.out nq⟩
     case measure => simp [intOf]; omega
    ·have g2 : ¬ (j : Int) < f.vars.length := by omega
     have HM := Lib.hid ((HN.out.2.2.1.trans (HN.out.2.2.2.1.mono HN.out.2.2.1.size)).trans (hb3.mono (by have := HN.out.2.2.1.size; omega)))
     clear hb3
     go_wp2
     go_roundw
     case rel => exact ⟨k + 1, by omega, by go_num, HM.out⟩
     case measure => simp [intOf]; omega
  ·have g1 : ¬ (k : Int) < fs.length := by omega
   have HN := Lib.hid hb
   clear hb
   go_wp2
   go_ret
   exact ⟨rfl, HN.out⟩
end
section
open Go.RowKit Go.Proofs
theorem resolves_any (t : Tr) (v : Value) (w : World) (ht : At w w.heap.size t v) : Calls Try.prog 3 #[v] w fun e w' => e = .returned (.bool true) ∧ Below w.heap.size w w' := by
 obtain ⟨A, c, rfl, -, -⟩ := (TreeAt.of_at ht).form
 have hat : ∀ w', Below w.heap.size w w' → At w' w'.heap.size t (.agg #[.int .i64 t.op, .string (bs t.s), .int .i64 t.n, .slice A t.l.length c, .int .i64 t.line]) := fun w' hb => At.keep t ht hb.size fun p hp => hb.cell hp
 have HAt := Lib.hid hat
 clear hat ht
 go_enter Try.func3, Try.ntmps3
 have hal := below_alloc9 w (.cells #[.int .i64 t.op, .string (bs t.s), .int .i64 t.n, .slice A t.l.length c, .int .i64 t.line] 24)
 have hbx := heap_alloc_new w (.cells #[.int .i64 t.op, .string (bs t.s), .int .i64 t.n, .slice A t.l.length c, .int .i64 t.line] 24)
 obtain ⟨N, eN⟩ : ∃ N, w.heap.size = N := ⟨_, rfl⟩
 have H0 := Lib.hid (And.intro hal hbx)
 clear hal hbx
 go_wp2_with fail
 go_at_call 6
 refine (shown_any _).mono ?_
 rintro e w1 ⟨rfl, hb1⟩
 have hbx1 := (hb1.block w.heap.size (by simp)).trans H0.out.2
 have hw1 : Below w.heap.size w w1 := H0.out.1.trans (hb1.mono (by simp))
 rw [eN] at hbx1
 obtain ⟨x0, x1, x2, x3, x4⟩ := (box_facts hbx1).1
 have H1 := Lib.hid (And.intro hw1 hbx1)
 clear hb1 hbx1 hw1 H0
 go_wp2_with fail
 go_at_call 7
 refine (small_any t _ w1 (HAt.out w1 H1.out.1)).mono ?_
 rintro e w2 ⟨rfl, hb2⟩
 have hbx2 := (hb2.block N (heap_lt H1.out.2)).trans H1.out.2
 have hw2 : Below w.heap.size w w2 := H1.out.1.trans (hb2.mono H1.out.1.size)
 have H2 := Lib.hid (And.intro hw2 hbx2)
 clear hb2 hbx2 hw2 x0 x1 x2 x3 x4 H1
 obtain ⟨y0, y1, y2, y3, y4⟩ := (box_facts H2.out.2).1
 by_cases hz : t.size ≤ 1500
 case neg =>
  rw [if_neg hz]
  go_wp2
  go_ret
  exact ⟨rfl, H2.out.1⟩
 rw [if_pos hz]
 go_wp2_with fail
 go_at_call 8
 refine (resout_any t _ w2 (fun k => k < w2.heap.size) (TreeAt.of_at (HAt.out w2 H2.out.1)) (fun _ h => h) (by omega)).mono ?_
 rintro e w3 ⟨fv, qv, rfl, hF, hT, hb3⟩
 have hw3 : Below w.heap.size w w3 := H2.out.1.trans (hb3.mono H2.out.1.size)
 have hvr := resOut_vars t
 have hRf0 := fun w' hb => refres_any t _ w' (fun k => k < w'.heap.size) (TreeAt.of_at (HAt.out w' hb)) (fun _ h => h) (by omega)
 obtain ⟨X, hX⟩ : ∃ X, resOut t = X := ⟨_, rfl⟩
 rw [hX] at hF hT hvr hRf0 ⊢
 obtain ⟨fs, q, li, er⟩ := X
 simp only at hF hT hvr ⊢
 obtain ⟨Aq, cq, rfl, -, -⟩ := hT.form
 have hbP3 := (hb3.block N (heap_lt H2.out.2)).trans H2.out.2
 have hal4 := below_alloc9 w3 (.cells #[.int .i64 q.op, .string (bs q.s), .int .i64 q.n, .slice Aq q.l.length cq, .int .i64 q.line] 24)
 have hbx4 := heap_alloc_new w3 (.cells #[.int .i64 q.op, .string (bs q.s), .int .i64 q.n, .slice Aq q.l.length cq, .int .i64 q.line] 24)
 obtain ⟨w4, e4⟩ : ∃ w4, w3.alloc (.cells #[.int .i64 q.op, .string (bs q.s), .int .i64 q.n, .slice Aq q.l.length cq, .int .i64 q.line] 24) = w4 := ⟨_, rfl⟩
 rw [e4] at hal4 hbx4
 have hbP4 := (hal4.block N (heap_lt hbP3)).trans hbP3
 have hw4 : Below w.heap.size w w4 := hw3.trans (hal4.mono hw3.size)
 have hF4 := hF.below hal4
 have hT4 : TreeAt w4 (fun k => k < w4.heap.size) q (.agg #[.int .i64 q.op, .string (bs q.s), .int .i64 q.n, .slice Aq q.l.length cq, .int .i64 q.line]) := hT.keep (fun k hk => by have := hk.2; have := hal4.size; omega) (fun k hk => hal4.block k hk.2)
 have HRf := Lib.hid (hRf0 w4 hw4)
 have H4 := Lib.hid (And.intro hw4 (And.intro hbP4 (And.intro hbx4 (And.intro hF4 (And.intro hT4 (And.intro hvr e4))))))
 clear hw3 hal4 hbx4 hbP3 hbP4 hF hT hF4 hT4 hw4 hb3 y0 y1 y2 y3 y4 H2 e4 hz hvr hX hRf0
 obtain ⟨p0, p1, p2, p3, p4⟩ := (box_facts H4.out.2.1).1
 go_upto_region 5 with fail
 rw [H4.out.2.2.2.2.2.2]
 go_wp2_with fail
 go_at_call 9
 refine HRf.out.mono ?_
 rintro e w6 ⟨gv, rv, rfl, hF6, hT6, hb6⟩
 obtain ⟨Ar, cr, rfl, -, -⟩ := hT6.form
 obtain ⟨Af, cf, rfl, hfc, hfm⟩ := H4.out.2.2.2.1.form
 obtain ⟨Ag, cg, rfl, hgc, hgm⟩ := hF6.form
 have hal7 := below_alloc9 w6 (.cells #[.int .i64 q.op, .string (bs q.s), .int .i64 q.n, .slice Ar q.l.length cr, .int .i64 q.line] 24)
 have hbx7 := heap_alloc_new w6 (.cells #[.int .i64 q.op, .string (bs q.s), .int .i64 q.n, .slice Ar q.l.length cr, .int .i64 q.line] 24)
 obtain ⟨w7, e7⟩ : ∃ w7, w6.alloc (.cells #[.int .i64 q.op, .string (bs q.s), .int .i64 q.n, .slice Ar q.l.length cr, .int .i64 q.line] 24) = w7 := ⟨_, rfl⟩
 rw [e7] at hal7 hbx7
 have hb47 : Below w4.heap.size w4 w7 := hb6.trans (hal7.mono hb6.size)
 have hbx47 := (hb47.block w3.heap.size (heap_lt H4.out.2.2.1)).trans H4.out.2.2.1
 have HSF := Lib.hid (samefuns_self fs w7 _ _ _ _ (H4.out.2.2.2.1.below hb47) (hF6.below hal7) H4.out.2.2.2.2.2.1)
 have hAq : ∀ w', Below w7.heap.size w7 w' → At w' w'.heap.size q (.agg #[.int .i64 q.op, .string (bs q.s), .int .i64 q.n, .slice Aq q.l.length cq, .int .i64 q.line]) := fun w' hb => (H4.out.2.2.2.2.1.keep (S' := fun k => k < w'.heap.size) (fun k hk => by have := hb47.size; have := hb.size; omega) (fun k hk => (hb.block k (by have := hb47.size; omega)).trans (hb47.block k hk))).below_ (fun k hk => hk)
 have hlt6 : ∀ k, (k < w4.heap.size ∨ New w4 w6 k) → k < w6.heap.size := fun k hk => by
  rcases hk with h | h
  ·have := hb6.size; omega
  ·exact h.2
 have hAr : ∀ w', Below w7.heap.size w7 w' → At w' w'.heap.size q (.agg #[.int .i64 q.op, .string (bs q.s), .int .i64 q.n, .slice Ar q.l.length cr, .int .i64 q.line]) := fun w' hb => (hT6.keep (S' := fun k => k < w'.heap.size) (fun k hk => by have := hlt6 k hk; have := hal7.size; have := hb.size; omega) (fun k hk => (hb.block k (by have := hlt6 k hk; have := hal7.size; omega)).trans (hal7.block k (hlt6 k hk)))).below_ (fun k hk => hk)
 have HSm := Lib.hid (fun w' hb => sameat_self q q _ _ w' rfl (hAq w' hb) (hAr w' hb))
 have H7 := Lib.hid (And.intro (H4.out.1.trans (hb47.mono H4.out.1.size)) (And.intro hbx47 (And.intro hbx7 e7)))
 clear hal7 hbx7 hb47 hbx47 hAq hAr hF6 hT6 hb6 e7 hfc hfm hgc hgm HAt hlt6 p0 p1 p2 p3 p4
 go_upto_region 6 with fail
 rw [H7.out.2.2.2]
 go_wp2_with fail
 go_at_call 10
 refine HSF.out.mono ?_
 rintro e w8 ⟨rfl, hb8⟩
 obtain ⟨x0, x1, x2, x3, x4⟩ := (box_facts ((hb8.block _ (heap_lt H7.out.2.1)).trans H7.out.2.1)).1
 obtain ⟨y0, y1, y2, y3, y4⟩ := (box_facts ((hb8.block _ (heap_lt H7.out.2.2.1)).trans H7.out.2.2.1)).1
 have HS := Lib.hid (HSm.out w8 hb8)
 have H8 := Lib.hid hb8
 clear hb8
 go_wp2_with fail
 go_at_call 11
 refine HS.out.mono ?_
 rintro e w9 ⟨rfl, hb9⟩
 have H9 := Lib.hid ((H7.out.1.trans (H8.out.mono H7.out.1.size)).trans (hb9.mono (by have := H7.out.1.size; have := H8.out.size; omega)))
 clear hb9 x0 x1 x2 x3 x4 y0 y1 y2 y3 y4
 go_wp2
 go_ret
 exact ⟨rfl, H9.out⟩
end
end Go.Proofs.Ytbpodijcndglgaa
