/- The document's function: a function's tree. -/
import Derived.Deep.RegionLaw
import Derived.Deep.RegionHeldLaw
import Derived.Deep.DeepCutAuto
import Derived.Test.YtbpodijcndglgaaPr45
set_option linter.unusedSimpArgs false
set_option linter.unusedVariables false
set_option maxRecDepth 100000
set_option maxHeartbeats 4000000
namespace Go.Proofs.Ytbpodijcndglgaa
section
open Go.RowKit Go.Proofs
structure FBox (W4 wr : World) (N : Nat) (n0 n1 n2 n3 n4 : Value) (a : Int) (s : Bs) (pars mk : Int) (V : Value) (ns : List Bs) : Prop where
 old : Below N W4 wr
 node : wr.heap[N]? = some (.cells #[n0, n1, n2, n3, n4] 24 (0, 0))
 res : wr.heap[N + 1]? = some (.cells #[.int .i64 0, .string ⟨#[]⟩, .int .i64 0, .slice none 0 0, .int .i64 0] 24 (0, 0))
 box : wr.heap[N + 2]? = some (.cells #[.int .i64 a, .string (bs s), .int .i64 pars, V, .int .i64 mk] 41 (0, 0))
 row : wr.ownsRow (N + 3) 9 1 V ns.length (namesV ns)
section
variable {W4 wr w' : World} {N : Nat} {n0 n1 n2 n3 n4 V V' : Value} {a : Int} {s : Bs} {pars mk : Int} {ns ns' : List Bs}
theorem FBox.size (h : FBox W4 wr N n0 n1 n2 n3 n4 a s pars mk V ns) : N + 3 ≤ wr.heap.size := heap_lt h.box
theorem FBox.drew (h : FBox W4 wr N n0 n1 n2 n3 n4 a s pars mk V ns) : FBox W4 wr.drew N n0 n1 n2 n3 n4 a s pars mk V ns := ⟨h.old.drew, h.node, h.res, h.box, h.row⟩
theorem FBox.names (h : FBox W4 wr N n0 n1 n2 n3 n4 a s pars mk V ns) (k : NamesAt wr w' (N + 3) V V' ns') :
  w'.heap[N + 2]? = some (.cells #[.int .i64 a, .string (bs s), .int .i64 pars, V, .int .i64 mk] 41 (0, 0)) ∧ FBox W4 (w'.setCell ⟨N + 2, 3, none⟩ V') N n0 n1 n2 n3 n4 a s pars mk V' ns' := by
 have hz := h.size
 have hk : ∀ i, i < N + 3 → w'.heap[i]? = wr.heap[i]? := fun i hi => k.on.block i (by omega) (fun e => by have := (own_lt h.row e).1; omega)
 have hb := (hk (N + 2) (by omega)).trans h.box
 have ho : ∀ i, i ≠ N + 2 → (w'.setCell ⟨N + 2, 3, none⟩ V').heap[i]? = w'.heap[i]? := fun i hi => Below.heap_setCell w' _ _ i (by show i ≠ N + 2; exact hi)
 refine ⟨hb, ⟨(h.old.trans (k.below h.row hz |>.mono (Nat.le_succ_of_le (Nat.le_succ_of_le (Nat.le_succ N))))).trans ((Only.setCell (F := fun i => i = N + 2) w' (b := N + 2) rfl 3 V').below (by have := k.on.size; omega) (fun i e => by omega)), ?_, ?_, ?_, ?_⟩⟩
 ·exact (ho N (by omega)).trans ((hk N (by omega)).trans h.node)
 ·exact (ho (N + 1) (by omega)).trans ((hk (N + 1) (by omega)).trans h.res)
 ·have := blk_set hb 3 V'
  simpa using this
 ·exact ⟨k.row.1, k.row.2.imp id fun ⟨g, cap, cur, e1, e2, e3, e4⟩ => ⟨g, cap, cur, e1, e2, (ho g (by omega)).trans e3, e4⟩⟩
end
section
variable {W4 wr w' : World} {N : Nat} {n0 n1 n2 n3 n4 V V' : Value} {a : Int} {s : Bs} {pars mk : Int} {ns ns' : List Bs}
theorem FBox.set2 (h : FBox W4 wr N n0 n1 n2 n3 n4 a s pars mk V ns) (q : Int) : FBox W4 (wr.setCell ⟨N + 2, 2, none⟩ (.int .i64 q)) N n0 n1 n2 n3 n4 a s q mk V ns := by
 have hz := h.size
 have ho : ∀ i, i ≠ N + 2 → (wr.setCell ⟨N + 2, 2, none⟩ (.int .i64 q)).heap[i]? = wr.heap[i]? := fun i hi => Below.heap_setCell wr _ _ i (by show i ≠ N + 2; exact hi)
 refine ⟨h.old.trans ((Only.setCell (F := fun i => i = N + 2) wr (b := N + 2) rfl 2 (.int .i64 q)).below (by omega) (fun i e => by omega)), (ho N (by omega)).trans h.node, (ho (N + 1) (by omega)).trans h.res, ?_, ?_⟩
 ·have := blk_set h.box 2 (.int .i64 q)
  simpa using this
 ·exact ⟨h.row.1, h.row.2.imp id fun ⟨g, cap, cur, e1, e2, e3, e4⟩ => ⟨g, cap, cur, e1, e2, (ho g (by omega)).trans e3, e4⟩⟩
theorem FBox.form (h : FBox W4 wr N n0 n1 n2 n3 n4 a s pars mk V ns) : ∃ A c, V = .slice A ns.length c ∧ ns.length ≤ c ∧ c ≤ maxLen := row_slice (row_zero h.row)
theorem FBox.tree {W : World} {R B : Nat} {S : Nat → Prop} {l : List Tr} {v : Value} (h : FBox W4 wr N n0 n1 n2 n3 n4 a s pars mk V ns) (ho : Only (fun k => k = R) W W4) (hr : RowAt W S l v) (hS : ∀ k, S k → k < B) (hB : B ≤ R) (hR : R < N) (hN : W.heap.size = N) : RowAt wr S l v :=
 hr.keep (fun _ h => h) fun i hi => (h.old.block i (by have := hS i hi; omega)).trans (ho.block i (by have := hS i hi; omega) (by have := hS i hi; omega))
end
theorem FBox.only {W W4 wr : World} {R N : Nat} {n0 n1 n2 n3 n4 V : Value} {a : Int} {s : Bs} {pars mk : Int} {ns : List Bs} (h : FBox W4 wr N n0 n1 n2 n3 n4 a s pars mk V ns) (ho : Only (fun k => k = R) W W4) (hN : W.heap.size = N) : Only (fun k => k = R) W wr :=
 ⟨h.old.os.trans ho.os, h.old.tape.trans ho.tape, h.old.output.trans ho.output, Nat.le_trans ho.size h.old.size, fun k hk hr => (h.old.block k (by omega)).trans (ho.block k hk hr)⟩
theorem walker_apart {W : World} {R : Nat} {u0 u1 u2 u3 : Value} (h : W.heap[R]? = some (.cells #[u0, u1, u2, u3] 54 (0, 0))) (k : Nat) (hk : k = R) (cs : Array Value) : W.heap[k]? ≠ some (.cells cs 41 (0, 0)) ∧ W.heap[k]? ≠ some (.cells cs 9 (0, 0)) := by
 subst hk
 rw [h]
 exact ⟨fun e => by injection e with e; injection e with e1 e2; exact absurd e2 (by decide), fun e => by injection e with e; injection e with e1 e2; exact absurd e2 (by decide)⟩
theorem mem_params : ∀ (l : List Tr) (o : List Bs) (x : Bs), x ∈ l.foldl (fun o p => withN o p.s) o ↔ x ∈ o ∨ ∃ q ∈ l, q.s = x
 | [], o, x => by simp
 | p :: r, o, x => by
  rw [List.foldl_cons, mem_params r, mem_withN]
  constructor
  ·rintro ((h | h) | ⟨q, h1, h2⟩)
   ·exact .inl h
   ·exact .inr ⟨p, List.mem_cons_self .., h.symm⟩
   ·exact .inr ⟨q, List.mem_cons_of_mem _ h1, h2⟩
  ·rintro (h | ⟨q, h1, h2⟩)
   ·exact .inl (.inl h)
   ·rcases List.mem_cons.1 h1 with rfl | h1
    ·exact .inl (.inr h2.symm)
    ·exact .inr ⟨q, h1, h2⟩
structure LBox (w1 wr : World) (M : Nat) (u0 u1 u2 u4 : Value) (P : Nat → Prop) (ov : Value) (ts : List Tr) : Prop where
 old : Below M w1 wr
 box : wr.heap[M]? = some (.cells #[u0, u1, u2, ov, u4] 24 (0, 0))
 acc : AccP P (M + 1) wr ts ov
theorem LBox.push {w1 wr wx w' : World} {M : Nat} {u0 u1 u2 u4 ov ov' : Value} {P : Nat → Prop} {ts ts' : List Tr} (h : LBox w1 wr M u0 u1 u2 u4 P ov ts) (hb : Below wr.heap.size wr wx) (ha : AccP P (M + 1) w' ts' ov') (ho : Only (fun k => ov.ownBlock = some k) wx w') (hP : ∀ k, P k → k ≠ M) :
  w'.heap[M]? = some (.cells #[u0, u1, u2, ov, u4] 24 (0, 0)) ∧ LBox w1 (w'.setCell ⟨M, 3, none⟩ ov') M u0 u1 u2 u4 P ov' ts' := by
 have hM := heap_lt h.box
 have hne : ov.ownBlock ≠ some M := fun e => by have := (h.acc.blk e).1; omega
 have hbx : w'.heap[M]? = some (.cells #[u0, u1, u2, ov, u4] 24 (0, 0)) := (ho.block M (by have := hb.size; omega) hne).trans ((hb.block M hM).trans h.box)
 have hoM := Only.setCell (F := fun k => k = M) w' (b := M) rfl 3 ov'
 refine ⟨hbx, ⟨(h.old.trans (hb.mono (by omega))).trans ((ho.below (by have := hb.size; omega) (fun i e => by have := (h.acc.blk e).1; omega)).trans (hoM.below (by have := ho.size; have := hb.size; omega) (fun i e => by omega))), by simpa using blk_set hbx 3 ov', ?_⟩⟩
 exact ha.turn hoM (fun k hk hp e => hp.elim (fun hp => hP k hp e) (fun hp => by have := (ha.blk hp).1; omega)) (fun k _ hp _ => hp)
def wrapR (op : Int) (s : Bs) (me line : Int) (ts : List Tr) (r : Except (Int × Int) (Tr × WS)) : Except (Int × Int) (Tr × WS) := match r with
 | .error x => .error x
 | .ok (b', w') => .ok (.mk op s me line (ts ++ [b']), w')
structure FunQ (W wc : World) (R B N M : Nat) (S : Nat → Prop) (u0 u1 u2 u4 fv : Value) (ts : List Tr) (r : Except (Int × Int) (Tr × WS)) (A8 : Option Addr) (n8 c8 : Nat) (tb : Tr) (ws' : WS) (er l : Int) (fv' : Value) : Prop where
 box : wc.heap[M]? = some (.cells #[u0, u1, u2, .slice A8 n8 c8, u4] 24 (0, 0))
 acc : AccP (fun k => ((S k ∨ N + 2 ≤ k) ∧ k ≠ M) ∧ fv'.ownBlock ≠ some k) (M + 1) wc (ts ++ [tb]) (.slice A8 n8 c8)
 wk : WkAt wc R B ws' er l fv'
 res : wc.heap[N + 1]? = some (.cells #[.int .i64 0, .string ⟨#[]⟩, .int .i64 0, .slice none 0 0, .int .i64 0] 24 (0, 0))
 on : Only (fun k => k = R ∨ fv.ownBlock = some k) W wc
 new : ∀ k, fv'.ownBlock = some k → fv.ownBlock = some k ∨ N ≤ k
 out : Out5 r tb ws' er l
theorem params_len : ∀ (l : List Tr) (o : List Bs), (l.foldl (fun o p => withN o p.s) o).length ≤ o.length + l.length
 | [], o => by simp
 | p :: r, o => by
  rw [List.foldl_cons, List.length_cons]
  have := params_len r (withN o p.s)
  have := withN_up o p.s
  omega
theorem wfun_ok (t : Tr) (xs : List Tr) (b : Tr) (hl : t.l = xs ++ [b]) (hf : isFun t.op = true) (hps : ∀ p ∈ xs, p.op = 1 ∧ p.l = []) (hxs : xs.length ≤ 300) (IHb : TreeOk b)
  (W : World) (R B : Nat) (S : Nat → Prop) (ws : WS) (fv v : Value) (a : Int) (hW : WkAt W R B ws 0 0 fv) (hT : TreeAt W S t v) (hS : ∀ k, S k → k < B) (hBR : B ≤ R) (hI : Inv ws) (h0 : 0 < ws.funs.length) (h5 : ws.funs.length ≤ 500) (ha0 : 0 ≤ a) (ha : a < ws.funs.length)
  (hm : ws.mark + 2 * t.size ≤ 1000000) (hg : good t) (hz : t.size ≤ 40000) : Calls Try.prog 32 #[.pointer (some ⟨R, 0, none⟩), v, .int .i64 a] W (TreeR W R B S fv (resT t a false ws)) := by
 obtain ⟨A, c, rfl, hrt, hfine⟩ := hT.form
 obtain ⟨A1, c1, e1, hc1, hc2⟩ := hrt.slice
 injection e1 with e2 e3 e4
 subst e2 e4
 have hc3 : c ≤ 9223372036854775807 := hc2
 have hlen := Lib.hid (show t.l.length = xs.length + 1 by rw [hl]; simp)
 have hbx := heap_alloc_new W (.cells #[.int .i64 t.op, .string (bs t.s), .int .i64 t.n, .slice A t.l.length c, .int .i64 t.line] 24)
 have hal := (below_alloc9 W (.cells #[.int .i64 t.op, .string (bs t.s), .int .i64 t.n, .slice A t.l.length c, .int .i64 t.line] 24)).alloc (by simp) (.cells #[.int .i64 0, .string ⟨#[]⟩, .int .i64 0, .slice none 0 0, .int .i64 0] 24)
 have hbr := heap_alloc_new (W.alloc (.cells #[.int .i64 t.op, .string (bs t.s), .int .i64 t.n, .slice A t.l.length c, .int .i64 t.line] 24)) (.cells #[.int .i64 0, .string ⟨#[]⟩, .int .i64 0, .slice none 0 0, .int .i64 0] 24)
 have hbx2 := ((below_alloc9 (W.alloc (.cells #[.int .i64 t.op, .string (bs t.s), .int .i64 t.n, .slice A t.l.length c, .int .i64 t.line] 24)) (.cells #[.int .i64 0, .string ⟨#[]⟩, .int .i64 0, .slice none 0 0, .int .i64 0] 24)).block W.heap.size (by simp)).trans hbx
 rw [World.size_alloc] at hbr
 obtain ⟨W2, e2⟩ : ∃ x, (W.alloc (.cells #[.int .i64 t.op, .string (bs t.s), .int .i64 t.n, .slice A t.l.length c, .int .i64 t.line] 24)).alloc (.cells #[.int .i64 0, .string ⟨#[]⟩, .int .i64 0, .slice none 0 0, .int .i64 0] 24) = x := ⟨_, rfl⟩
 have z2 : W2.heap.size = W.heap.size + 2 := by rw [← e2]; simp
 rw [e2] at hal hbr hbx2
 obtain ⟨N, eN⟩ : ∃ N, W.heap.size = N := ⟨_, rfl⟩
 have hR := hW.lt
 rw [eN] at z2 hbx2 hbr hR
 have hW2 := hW.below hal
 obtain ⟨x0, x1, x2, x3, x4⟩ := (box_facts hbx2).1
 obtain ⟨⟨c0, c1, c2, c3⟩, ⟨f0, f1, f2, f3⟩⟩ := four_facts hW2.head
 have HW := Lib.hid (And.intro hW2 (And.intro hbx2 (And.intro hbr (And.intro hal e2))))
 clear hW2 hbx2 hbr hal hbx e2
 have HH := Lib.hid (And.intro hW (And.intro hT (And.intro hrt (And.intro hfine (And.intro hS hI)))))
 clear hW hT hrt hfine hS hI hc2
 have HL := Lib.hid (And.intro hl (And.intro hps (And.intro hg IHb)))
 clear hl hps hg IHb
 have hR2 : R < W2.heap.size := by omega
 have hN2 : N < W2.heap.size := by omega
 have hal3 := below_alloc9 W2 (.cells #[.int .i64 0, .string ⟨#[]⟩, .int .i64 0, .slice none 0 0, .int .i64 0] 41)
 have d1 := (hal3.cell (p := ⟨R, 1, none⟩) hR2).trans c1
 have y1 := (hal3.cell (p := ⟨N, 1, none⟩) hN2).trans x1
 clear hal3
 go_enter Try.func32, Try.ntmps32
 go_upto_region 1 with fail
 rw [HW.out.2.2.2.2]
 go_region
 have hF3 := heap_alloc_new W2 (.cells #[.int .i64 a, .string (bs t.s), .int .i64 0, .slice none 0 0, .int .i64 ws.mark] 41)
 have hal3 := (below_alloc9 W2 (.cells #[.int .i64 a, .string (bs t.s), .int .i64 0, .slice none 0 0, .int .i64 ws.mark] 41)).drew
 obtain ⟨W3, e3⟩ : ∃ x, (W2.alloc (.cells #[.int .i64 a, .string (bs t.s), .int .i64 0, .slice none 0 0, .int .i64 ws.mark] 41)).drew = x := ⟨_, rfl⟩
 have hF3 : W3.heap[N + 2]? = some (.cells #[.int .i64 a, .string (bs t.s), .int .i64 0, .slice none 0 0, .int .i64 ws.mark] 41 (0, 0)) := by rw [← e3, ← z2]; exact hF3
 rw [e3] at hal3
 rw [e3]
 have hW3 := HW.out.1.below hal3
 have hbx3 := (hal3.block N hN2).trans HW.out.2.1
 have hbr3 := (hal3.block (N + 1) (by omega)).trans HW.out.2.2.1
 have hm1 := HH.out.2.2.2.2.2.1
 have hw2 : IntKind.i64.wrap (ws.mark + 2) = ws.mark + 2 := IntWalk.i64_in _ (by omega)
 have hwk : IntKind.i64.wrap ((t.l.length : Int) - 1) = xs.length := by rw [hlen.out, IntWalk.i64_in _ (by omega)]; omega
 clear x0 x1 x2 x3 x4 c0 c1 c2 c3 f0 f1 f2 f3 d1 y1 e3 hm1
 obtain ⟨⟨c0, c1, c2, c3⟩, ⟨f0, f1, f2, f3⟩⟩ := four_facts hW3.head
 have hb4 := blk_set hW3.head 1 (.int .i64 (ws.mark + 2))
 have ho4 := Only.setCell (F := fun k => k = R) W3 (b := R) rfl 1 (.int .i64 (ws.mark + 2))
 obtain ⟨W4, e4⟩ : ∃ x, W3.setCell ⟨R, 1, none⟩ (.int .i64 (ws.mark + 2)) = x := ⟨_, rfl⟩
 rw [e4] at hb4 ho4
 simp at hb4
 have hbx4 := (ho4.block N (heap_lt hbx3) (by omega)).trans hbx3
 have hbr4 := (ho4.block (N + 1) (heap_lt hbr3) (by omega)).trans hbr3
 have hF4 := (ho4.block (N + 2) (heap_lt hF3) (by omega)).trans hF3
 have hW4 : WkAt W4 R B ⟨ws.funs, ws.mark + 2⟩ 0 0 fv := ⟨hb4, hW3.funs.only ho4 (fun k hk cs => by
  subst hk
  rw [hW3.head]
  exact ⟨fun e => by injection e with e; injection e with e1 e2; exact absurd e2 (by decide), fun e => by injection e with e; injection e with e1 e2; exact absurd e2 (by decide)⟩)⟩
 have hon4 : Only (fun k => k = R) W W4 := ((Only.of_below HW.out.2.2.2.1).trans' (Only.of_below hal3)).trans' ho4
 have hFB : FBox W4 W4 N (.int .i64 t.op) (.string (bs t.s)) (.int .i64 t.n) (.slice A t.l.length c) (.int .i64 t.line) a t.s 0 ws.mark (.slice none 0 0) [] := ⟨Below.refl _ _, hbx4, hbr4, hF4, World.ownsRow_nil _ _ _ _⟩
 obtain ⟨x0, x1, x2, x3, x4⟩ := (box_facts hbx4).1
 have H4 := Lib.hid (And.intro hW4 (And.intro hon4 hFB))
 clear hF3 hal3 hW3 hbx3 hbr3 hb4 ho4 hbx4 hbr4 hF4 hW4 hon4 hFB
 go_wp2_with fail
 go_loopw [9] (fun i wr => ∃ (k : Nat) (V : Value), k ≤ xs.length ∧ i = .int .i64 k ∧ FBox W4 wr N (.int .i64 t.op) (.string (bs t.s)) (.int .i64 t.n) (.slice A t.l.length c) (.int .i64 t.line) a t.s 0 ws.mark V ((xs.take k).foldl (fun o p => withN o p.s) [])) (fun i _ => xs.length - (intOf i).toNat)
 case atStart => exact ⟨0, _, Nat.zero_le _, rfl, H4.out.2.2⟩
 case round =>
  obtain ⟨k, V, hk, rfl, hfb⟩ := hrel
  have x3 := (box_facts hfb.node).1.2.2.2.1
  have p3 := (box_facts hfb.box).1.2.2.2.1
  have p2 := (box_facts hfb.box).1.2.2.1
  have q2 := (box_facts hfb.box).2.2.2.1
  clear c0 c1 c2 c3 f0 f1 f2 f3 hw2 hwk
  have hold := hfb.old
  have hrow' : RowAt wr S t.l (.slice A t.l.length c) := HH.out.2.2.1.keep (fun _ h => h) fun i hi => (hold.block i (by have := HH.out.2.2.2.2.1 i hi; omega)).trans (H4.out.2.1.block i (by have := HH.out.2.2.2.2.1 i hi; omega) (by have := HH.out.2.2.2.2.1 i hi; omega))
  have hz3 := hfb.size
  by_cases hlt : k < xs.length
  ·obtain ⟨g, off, p, A', c', rfl, hSg, hp, hTp, y0, y1, y2, y3, y4⟩ := part_get hrow' k (by rw [hlen.out]; omega)
   have g1 : (k : Int) < xs.length := by omega
   have g2 : (k : Int) < t.l.length := by rw [hlen.out]; omega
   have hpx : xs[k]? = some p := by
    rw [HL.out.1, List.getElem?_append_left hlt] at hp
    exact hp
   have hfl : (xs.take (k + 1)).foldl (fun o p => withN o p.s) [] = withN ((xs.take k).foldl (fun o p => withN o p.s) []) p.s := by
    rw [List.take_add_one, hpx, List.foldl_append]
    rfl
   have hnl := params_len (xs.take k) []
   have HC := Lib.hid (with_any wr.drew (N + 3) V _ p.s hfb.row (by show N + 3 ≤ wr.heap.size; exact hz3) (by rw [List.length_take] at hnl; simp only [List.length_nil] at hnl; omega))
   have HK := Lib.hid (And.intro hfb hfl)
   clear hfb hold hrow' hSg hp hTp hpx hfl hnl y0 y2 y3 y4 p2 q2
   go_wp2_with fail
   go_region_with (go_at_call 30; refine HC.out.mono ?_; rintro e w6 ⟨V6, rfl, hn6⟩; obtain ⟨A6, c6, rfl, -, -⟩ := hn6.form; obtain ⟨hb6, hF6⟩ := HK.out.1.drew.names hn6; have r3 := (box_facts hb6).1.2.2.2.1; have s3 := (box_facts hb6).2.2.2.2.1; have HF := Lib.hid hF6; clear hb6 hF6 hn6)
   all_goals
    go_wp2
    go_roundw
    case rel => exact ⟨k + 1, _, by omega, by go_num, by rw [HK.out.2]; exact HF.out⟩
    case measure => simp [intOf]; omega
  ·have g1 : ¬ (k : Int) < xs.length := by omega
   obtain ⟨PS, hPS⟩ : ∃ x, xs.foldl (fun o p => withN o p.s) [] = x := ⟨_, rfl⟩
   rw [List.take_of_length_le (by omega), hPS] at hfb
   have hpl := params_len xs []
   rw [hPS] at hpl
   simp only [List.length_nil] at hpl
   obtain ⟨A5, c5, rfl, hv1, hv2⟩ := hfb.form
   have hv3 : c5 ≤ 9223372036854775807 := hv2
   have hF5 := hfb.set2 (PS.length : Int)
   obtain ⟨W5, e5⟩ : ∃ x, wr.setCell ⟨N + 2, 2, none⟩ (.int .i64 (PS.length : Int)) = x := ⟨_, rfl⟩
   rw [e5] at hF5
   have hz5 := hF5.size
   have H5 := Lib.hid (And.intro hF5 (And.intro hPS e5))
   have k0 := (box_facts hF5.node).1.1
   have k1 := (box_facts hF5.node).1.2.1
   have r3 := (box_facts hF5.box).1.2.2.2.1
   have HWi := Lib.hid (with_any W5 (N + 3) (.slice A5 PS.length c5) PS t.s hF5.row (by omega) (by omega))
   have hcase : ((t.op == 10) = true ∧ (bs t.s).toList.isEmpty = false) ∨ ((t.op == 10) = true ∧ (bs t.s).toList.isEmpty = true) ∨ (t.op == 10) = false := by
    cases (t.op == 10) <;> cases (bs t.s).toList.isEmpty <;> simp
   have hown : ∀ b : Bool, ((t.op == 10) && !(bs t.s).toList.isEmpty) = b → (if t.op = 10 ∧ t.s ≠ [] then withN PS t.s else PS) = if b then withN PS t.s else PS := fun b hb => by
    subst hb
    rw [Lib.toList_data, bs_list]
    by_cases h10 : t.op = 10 <;> by_cases hs : t.s = [] <;> simp [h10, hs]
   have HO := Lib.hid hown
   clear hown hfb hold hrow' hF5 e5 hPS
   obtain ⟨cb, hcb⟩ : ∃ x, ((t.op == 10) && !(bs t.s).toList.isEmpty) = x := ⟨_, rfl⟩
   obtain ⟨OW, hOW⟩ : ∃ x, (if t.op = 10 ∧ t.s ≠ [] then withN PS t.s else PS) = x := ⟨_, rfl⟩
   have hqq := HO.out cb hcb
   rw [hOW] at hqq
   have hol : OW.length ≤ PS.length + 1 := by
    rw [hqq]
    cases cb
    ·exact Nat.le_succ _
    ·exact withN_up PS t.s
   have HQ := Lib.hid (And.intro hqq hOW)
   clear hqq hOW
   go_upto_region 9 with fail
   rw [H5.out.2.2]
   go_cut [60] (fun s60 wc => s60 = .bool cb ∧ W5 = wc)
   case first =>
    rcases hcase with ⟨d1, d2⟩ | ⟨d1, d2⟩ | d1
    all_goals
     go_wp2_with fail
     go_meet
     case rel => exact ⟨by rw [← hcb]; first | simp [d1, d2] | simp [d1], rfl⟩
   case rest =>
   obtain ⟨rfl, rfl⟩ := hcut
   clear hcb hcase
   go_upto_if 60 with fail
   go_cut [] (fun wc => ∃ A6 c6, FBox W4 wc N (.int .i64 t.op) (.string (bs t.s)) (.int .i64 t.n) (.slice A t.l.length c) (.int .i64 t.line) a t.s PS.length ws.mark (.slice A6 OW.length c6) OW)
   case first =>
    cases cb with
    | false =>
     have hO : OW = PS := HQ.out.1
     go_wp2_with fail
     go_meet
     case rel => exact ⟨A5, c5, by rw [hO]; exact H5.out.1⟩
    | true =>
     have hO := Lib.hid (show OW = withN PS t.s from HQ.out.1)
     go_wp2_with fail
     go_at_call 30
     refine HWi.out.mono ?_
     rintro e w6 ⟨V6, rfl, hn6⟩
     obtain ⟨A6, c6, rfl, -, -⟩ := hn6.form
     obtain ⟨hb6, hF6⟩ := H5.out.1.names hn6
     clear k0 k1 r3
     have r3 := (box_facts hb6).1.2.2.2.1
     have s3 := (box_facts hb6).2.2.2.2.1
     have HF := Lib.hid hF6
     clear hF6 hb6 hn6
     go_wp2_with fail
     go_meet
     case rel => exact ⟨A6, c6, by rw [hO.out]; exact HF.out⟩
   case rest =>
   obtain ⟨A6, c6, hF6⟩ := hcut
   obtain ⟨W7, e7⟩ : ∃ x, x = wc := ⟨_, rfl⟩
   subst e7
   have H7 := Lib.hid (And.intro hF6 HQ.out.2)
   clear hF6 k0 k1 r3 p2 q2 p3 x3 g1
   have hrow7 := H7.out.1.tree H4.out.2.1 HH.out.2.2.1 HH.out.2.2.2.2.1 hBR hR eN
   obtain ⟨g, off, p, A', c', rfl, hSg, hp, hTp, y0, y1, y2, y3, y4⟩ := part_get hrow7 xs.length (by rw [hlen.out]; omega)
   obtain rfl : p = b := by
    rw [HL.out.1, List.getElem?_append_right (Nat.le_refl _)] at hp
    simpa using hp.symm
   have hz7 := H7.out.1.size
   have hpb := size_part (t := t) (List.mem_of_getElem? hp)
   have hD0 := declared_any p _ _ W7.drew S (N + 3) OW (hTp.keep (fun _ h => h) (fun _ _ => rfl)) (fun k hk => by have := HH.out.2.2.2.2.1 k hk; omega) (by show N + 3 ≤ W7.heap.size; exact hz7) H7.out.1.drew.row (by omega)
   obtain ⟨VS, hVS⟩ : ∃ x, decl p OW = x := ⟨_, rfl⟩
   rw [hVS] at hD0
   have HD := Lib.hid hD0
   have HB := Lib.hid (And.intro hTp (And.intro hVS hpb))
   have k3 := (box_facts H7.out.1.node).1.2.2.2.1
   have r3 := (box_facts H7.out.1.box).1.2.2.2.1
   have g2 : (xs.length : Int) < t.l.length := by rw [hlen.out]; omega
   clear hrow7 hSg hp hTp hD0 hVS hpb
   go_upto_region 11 with fail
   go_cut [] (fun wc => ∃ A8 c8, FBox W4 wc N (.int .i64 t.op) (.string (bs t.s)) (.int .i64 t.n) (.slice (some ⟨g, off, none⟩) t.l.length c) (.int .i64 t.line) a t.s PS.length ws.mark (.slice A8 VS.length c8) VS ∧ c8 ≤ maxLen)
   case first =>
    go_region_with (go_at_call 21; refine HD.out.mono ?_; rintro e w8 ⟨V8, rfl, hn8⟩; obtain ⟨A8, c8, rfl, hc8, hc8'⟩ := hn8.form; obtain ⟨hb8, hF8⟩ := H7.out.1.drew.names hn8; clear r3; have r3 := (box_facts hb8).1.2.2.2.1; have s3 := (box_facts hb8).2.2.2.2.1; have H8 := Lib.hid (And.intro hF8 hc8'); clear hb8 hF8 hn8 hc8 hc8')
    all_goals
     go_wp2_with fail
     go_meet
     case rel => exact ⟨A8, c8, H8.out⟩
   case rest =>
   clear y0 y1 y2 y3 y4 k3 r3 HD
   obtain ⟨A8, c8, hF9, hc8'⟩ := hcut
   obtain ⟨W9, e9⟩ : ∃ x, x = wc := ⟨_, rfl⟩
   subst e9
   have H8 := Lib.hid (And.intro hF9 hc8')
   clear hc8'
   have hon9 := hF9.only H4.out.2.1 eN
   have hW9 : WkAt W9 R B ⟨ws.funs, ws.mark + 2⟩ 0 0 fv := ⟨(hF9.old.block R hR).trans H4.out.1.head, HH.out.1.funs.only hon9 (walker_apart HH.out.1.head)⟩
   have hz9 := hF9.size
   have k4 := (box_facts hF9.node).1.2.2.2.2
   have r3 := (box_facts hF9.box).1.2.2.2.1
   have c0 := (four_facts hW9.head).1.1
   obtain ⟨Af, cf, rfl, hf1, hf2⟩ := HH.out.1.funs.form
   have hf3 : cf ≤ 9223372036854775807 := hf2
   have hv8 : c8 ≤ 9223372036854775807 := H8.out.2
   have HVf := Lib.hid (show openF t.op t.s t.l a ws.mark = ⟨a, t.s, PS.length, VS, ws.mark⟩ from by
    unfold openF
    rw [HL.out.1]
    simp only [List.dropLast_concat, List.getLast?_concat]
    have h1 := H7.out.2
    have h2 := H5.out.2.1
    have h3 := HB.out.2.1
    rw [h2, h1, h3])
   have H9 := Lib.hid (And.intro hF9 (And.intro hW9 hon9))
   clear hF9 hW9 hon9 hf2
   have hres := fun_res t xs p a false ws ⟨a, t.s, PS.length, VS, ws.mark⟩ HL.out.1 hf h0 HVf.out (fun q hq => ⟨(HL.out.2.1 q hq).1, (HL.out.2.1 q hq).2, by
    show q.s ∈ VS
    rw [← HB.out.2.1, mem_decl]
    left
    have h1 : q.s ∈ PS := by rw [← H5.out.2.1, mem_params]; exact .inr ⟨q, hq, rfl⟩
    rw [← H7.out.2]
    split
    ·rw [mem_withN]; exact .inl h1
    ·exact h1⟩)
   have HR := Lib.hid hres
   clear hres
   by_cases hbad : ws.funs.length = 500 ∨ 200 < VS.length
   ·have hbc : ((ws.funs.length : Int) == 500) = true ∨ (((ws.funs.length : Int) == 500) = false ∧ (200 : Int) < VS.length) := by
     by_cases h : ws.funs.length = 500
     ·exact .inl (by rw [h]; rfl)
     ·exact .inr ⟨by rw [beq_eq_false_iff_ne]; omega, by omega⟩
    have HFail := Lib.hid (wfail_any W9 R B _ 0 _ H9.out.2.1 52 t.line)
    have HE := Lib.hid (show resT t a false ws = .error (t.line, 52) from by rw [HR.out, if_pos hbad])
    clear HR hbad
    rcases hbc with e5 | ⟨e5, e2⟩
    all_goals
     go_wp2_with fail
     go_at_call 34
     refine HFail.out.mono ?_
     rintro e w10 ⟨rfl, hw10, ho10⟩
     have hbx10 := (ho10.block N (by omega) (by omega)).trans H9.out.1.node
     have hbr10 := (ho10.block (N + 1) (by omega) (by omega)).trans H9.out.1.res
     clear k4 r3 c0 e5 hv8 hf3 hf1
     obtain ⟨k0, k1, k2, k3, k4⟩ := (box_facts hbx10).1
     obtain ⟨⟨r0, r1, r2, r3, r4⟩, ⟨s0, s1, s2, s3, s4⟩⟩ := box_facts hbr10
     have H10 := Lib.hid (And.intro hw10 (And.intro ho10 hbr10))
     clear hw10 ho10 hbx10 hbr10
     go_wp2
     have hp5 := put5_only w10 (N + 1) (.int .i64 t.op) (.string (bs t.s)) (.int .i64 t.n) (.slice (some ⟨g, off, none⟩) t.l.length c) (.int .i64 t.line)
     have hon10 := H9.out.2.2.trans' H10.out.2.1
     refine ret_node (W := w10) (b := N + 1) 6 rfl rfl rfl H10.out.2.2 ⟨_, t, ⟨ws.funs, ws.mark + 2⟩, 52, t.line, .slice Af ws.funs.length cf, rfl, ?_, ?_, fun k hk => .inl hk, ?_, ?_⟩
     ·refine HH.out.2.1.keep (fun k hk => ⟨.inl hk, fun e => by have := (HH.out.1.apart e).1; have := HH.out.2.2.2.2.1 k hk; omega⟩) (fun k hk => ?_)
      have := HH.out.2.2.2.2.1 k hk
      exact (hp5.block k (by have := H10.out.2.1.size; omega) (by omega)).trans (hon10.block k (by omega) (by omega))
     ·refine ⟨(hp5.block R H10.out.1.lt (by omega)).trans H10.out.1.head, H10.out.1.funs.only hp5 (fun k hk cs => ?_)⟩
      subst hk
      rw [H10.out.2.2]
      exact ⟨fun e => by injection e with e; injection e with e1 e2; exact absurd e2 (by decide), fun e => by injection e with e; injection e with e1 e2; exact absurd e2 (by decide)⟩
     ·exact ⟨hp5.os.trans hon10.os, hp5.tape.trans hon10.tape, hp5.output.trans hon10.output, Nat.le_trans hon10.size hp5.size, fun k hk hn => (hp5.block k (by have := hon10.size; omega) (by omega)).trans (hon10.block k hk (fun e => hn (.inl e)))⟩
     ·rw [HE.out]
      exact ⟨by decide, rfl, rfl⟩
   ·obtain ⟨hb1, hb2⟩ : ws.funs.length ≠ 500 ∧ ¬ 200 < VS.length := ⟨fun h => hbad (.inl h), fun h => hbad (.inr h)⟩
    have e5 : ((ws.funs.length : Int) == 500) = false := by rw [beq_eq_false_iff_ne]; omega
    have e2 : ¬ (200 : Int) < VS.length := by omega
    have HE := Lib.hid (HR.out.trans (if_neg hbad))
    clear HR hbad
    obtain ⟨f, hf9⟩ : ∃ f : Fn, (⟨a, t.s, PS.length, VS, ws.mark⟩ : Fn) = f := ⟨_, rfl⟩
    have hfp := funs_push (W := W9.drew) (B := B) (fv := .slice Af ws.funs.length cf) (sv := .slice A8 VS.length c8) (fs := ws.funs) (H9.out.2.1.funs.only ((Only.refl (fun k => k = R) W9).drew) (walker_apart H9.out.2.1.head)) ⟨a, t.s, PS.length, VS, ws.mark⟩ (ownsRow_base H9.out.1.row (by have := hR; omega)) (by show B ≤ W9.heap.size; omega) h5
    obtain ⟨v', w', hrun, hF2, hof, ⟨A2, c2, rfl⟩, hnw⟩ := hfp
    have hap := H9.out.2.1.apart (k := R)
    have hkeep : ∀ i, i < N + 3 → (Value.slice Af ws.funs.length cf).ownBlock ≠ some i → w'.heap[i]? = W9.heap[i]? := fun i hi hne => hof.block i (by show i < W9.heap.size; omega) hne
    have hRo : (Value.slice Af ws.funs.length cf).ownBlock ≠ some R := fun e => (hap e).2.2 rfl
    have hNo : ∀ i, N ≤ i → (Value.slice Af ws.funs.length cf).ownBlock ≠ some i := fun i hi e => by have := (HH.out.1.apart e).2.1; omega
    have hh2 := (hkeep R (by omega) hRo).trans H9.out.2.1.head
    have hW10 := WkAt.set0 hh2 hF2
    have hoR := Only.setCell (F := fun k => k = R) w' (b := R) rfl 0 (.slice A2 (ws.funs.length + 1) c2)
    have hnd := (hoR.block N (by have := hof.size; have : W9.drew.heap.size = W9.heap.size := rfl; omega) (by omega)).trans ((hkeep N (by omega) (hNo N (Nat.le_refl _))).trans H9.out.1.node)
    have hrs := (hoR.block (N + 1) (by have := hof.size; have : W9.drew.heap.size = W9.heap.size := rfl; omega) (by omega)).trans ((hkeep (N + 1) (by omega) (hNo _ (by omega))).trans H9.out.1.res)
    have hon : Only (fun k => k = R ∨ (Value.slice Af ws.funs.length cf).ownBlock = some k) W (w'.setCell ⟨R, 0, none⟩ (.slice A2 (ws.funs.length + 1) c2)) :=
     (((H9.out.2.2.mono (fun i _ h => .inl h)).drew).trans' (hof.mono (fun i _ h => .inr h))).trans' (hoR.mono (fun i _ h => .inl h))
    have hd0 := (four_facts hh2).1.1
    have hg0 := (four_facts hh2).2.1
    have hca := ((below_alloc9 W9.drew (.cells #[.int .i64 a, .string (bs t.s), .int .i64 PS.length, .slice A8 VS.length c8, .int .i64 ws.mark] 41)).cell (p := ⟨R, 0, none⟩) (by show R < W9.heap.size; omega)).trans c0
    have hcb : (W9.alloc (.cells #[.int .i64 a, .string (bs t.s), .int .i64 PS.length, .slice A8 VS.length c8, .int .i64 ws.mark] 41)).cell? ⟨R, 0, none⟩ = some (.slice Af ws.funs.length cf) := hca
    have hrun := Lib.hid hrun
    have HP := Lib.hid (And.intro hW10 (And.intro hnd (And.intro hrs (And.intro hon (show ∀ k, (Value.slice A2 (ws.funs.length + 1) c2).ownBlock = some k → (Value.slice Af ws.funs.length cf).ownBlock = some k ∨ N ≤ k from fun k hk => (hnw k hk).imp id (fun e => by have : W9.drew.heap.size = W9.heap.size := rfl; omega))))))
    have r0 := (box_facts H9.out.1.box).1.1
    have r1 := (box_facts H9.out.1.box).1.2.1
    have r2 := (box_facts H9.out.1.box).1.2.2.1
    have r4 := (box_facts H9.out.1.box).1.2.2.2.2
    clear hF2 hof hnw hap hkeep hRo hNo hh2 hW10 hoR hnd hrs hon k4
    go_upto_region 16 with fail
    go_cut [] (fun wc => ∃ A2 c2, WkAt wc R B ⟨ws.funs ++ [f], ws.mark + 2⟩ 0 0 (.slice A2 (ws.funs.length + 1) c2) ∧ wc.heap[N]? = some (.cells #[.int .i64 t.op, .string (bs t.s), .int .i64 t.n, .slice (some ⟨g, off, none⟩) t.l.length c, .int .i64 t.line] 24 (0, 0)) ∧ wc.heap[N + 1]? = some (.cells #[.int .i64 0, .string ⟨#[]⟩, .int .i64 0, .slice none 0 0, .int .i64 0] 24 (0, 0)) ∧ Only (fun k => k = R ∨ (Value.slice Af ws.funs.length cf).ownBlock = some k) W wc ∧ ∀ k, (Value.slice A2 (ws.funs.length + 1) c2).ownBlock = some k → (Value.slice Af ws.funs.length cf).ownBlock = some k ∨ N ≤ k)
    case first =>
     go_region_law (refine step_app rfl (.tmp 102) (.tmp 104) 27 rfl (.slice Af ws.funs.length cf) (.slice (some ⟨W9.heap.size, 0, none⟩) 1 1) rfl rfl (fun v w => v = .slice A2 (ws.funs.length + 1) c2 ∧ w = w') ⟨_, _, hrun.out, rfl, rfl⟩ ?_; rintro v5 w5 ⟨rfl, rfl⟩)
     all_goals
      go_wp2_with fail
      go_meet
      case rel => exact ⟨A2, c2, by rw [← hf9]; exact HP.out⟩
    case rest =>
    obtain ⟨A3, c3, hW10, hnd, hrs, hon, hnew⟩ := hcut
    obtain ⟨w10, e10⟩ : ∃ x, x = wc := ⟨_, rfl⟩
    subst e10
    clear r0 r1 r2 r3 r4 c0 hd0 hg0 e5 e2 hca hcb
    obtain ⟨k0, k1, k2, k3, k4⟩ := (box_facts hnd).1
    have HX := Lib.hid (And.intro hW10 (And.intro hnd (And.intro hrs (And.intro hon hnew))))
    clear hW10 hnd hrs hon hnew HP
    go_wp2_with fail
    have hz10 : N + 2 ≤ w10.heap.size := heap_lt HX.out.2.2.1
    have hbM := heap_alloc_new w10 (.cells #[.int .i64 t.op, .string (bs t.s), .int .i64 ws.funs.length, .slice none 0 0, .int .i64 t.line] 24)
    have hal := below_alloc9 w10 (.cells #[.int .i64 t.op, .string (bs t.s), .int .i64 ws.funs.length, .slice none 0 0, .int .i64 t.line] 24)
    obtain ⟨M, eM⟩ : ∃ M, w10.heap.size = M := ⟨_, rfl⟩
    obtain ⟨w11, e11⟩ : ∃ x, w10.alloc (.cells #[.int .i64 t.op, .string (bs t.s), .int .i64 ws.funs.length, .slice none 0 0, .int .i64 t.line] 24) = x := ⟨_, rfl⟩
    rw [e11] at hbM hal ⊢
    rw [eM] at hbM hal hz10 ⊢
    have z11 : w11.heap.size = M + 1 := by rw [← e11, ← eM]; simp
    have hI2 : Inv ⟨ws.funs ++ [f], ws.mark + 2⟩ := HH.out.2.2.2.2.2.push f (by omega) (by rw [← hf9]; exact ha0) (by rw [← hf9]; exact ha) (by have := openF_params t.op t.s t.l a ws.mark; rw [HVf.out, hf9] at this; exact this) (by rw [← hf9]; show VS.length ≤ 200; omega) (by rw [← hf9])
    have hE2 := hI2.earlier (by simp; omega)
    obtain ⟨P, HPd⟩ : ∃ P : Nat → Prop, RowKit.Hid (∀ k, P k ↔ (((S k ∨ N + 2 ≤ k) ∧ k ≠ M) ∧ (Value.slice A3 (ws.funs.length + 1) c3).ownBlock ≠ some k)) := ⟨_, Lib.hid fun k => Iff.rfl⟩
    have hLB : LBox w11 w11 M (.int .i64 t.op) (.string (bs t.s)) (.int .i64 ws.funs.length) (.int .i64 t.line) P (.slice none 0 0) [] := ⟨Below.refl _ _, hbM, AccP.nil⟩
    have HY := Lib.hid (And.intro hal (And.intro hLB (And.intro hI2 hE2)))
    clear hal hLB hI2 hE2 hbM e11 k0 k1 k2 k3 k4
    go_loopw [12, 13] (fun i _ wr => ∃ (k : Nat) (Ao : Option Addr) (co : Nat), k ≤ xs.length ∧ i = .int .i64 k ∧ LBox w11 wr M (.int .i64 t.op) (.string (bs t.s)) (.int .i64 ws.funs.length) (.int .i64 t.line) P (.slice Ao k co) ((xs.take k).map (numd (ws.funs ++ [f]) ws.funs.length))) (fun i _ _ => xs.length - (intOf i).toNat)
    case atStart => exact ⟨0, none, 0, Nat.zero_le _, rfl, HY.out.2.1⟩
    case round =>
     obtain ⟨k2, Ao, co, hk2, rfl, hlb⟩ := hrel
     obtain ⟨Wr, eWr⟩ : ∃ x, x = wr := ⟨_, rfl⟩
     subst eWr
     have hzr : M + 1 ≤ Wr.heap.size := heap_lt hlb.box
     have hbw : Below w10.heap.size w10 Wr := by rw [eM]; exact HY.out.1.trans hlb.old
     have hWr : WkAt Wr R B ⟨ws.funs ++ [f], ws.mark + 2⟩ 0 0 (.slice A3 (ws.funs.length + 1) c3) := HX.out.1.below hbw
     have honr := HX.out.2.2.2.1.trans' ((Only.of_below hbw).mono (G := fun k => k = R ∨ (Value.slice Af ws.funs.length cf).ownBlock = some k) (F := fun _ => False) (fun i _ h => h.elim))
     have x3 := (box_facts ((hbw.block N (by omega)).trans HX.out.2.1)).1.2.2.2.1
     have m3 := (box_facts hlb.box).1.2.2.2.1
     have hrowr : RowAt Wr S t.l (.slice (some ⟨g, off, none⟩) t.l.length c) := HH.out.2.2.1.keep (fun _ h => h) fun i hi => honr.block i (by have := HH.out.2.2.2.2.1 i hi; omega) (fun e => e.elim (fun e => by have := HH.out.2.2.2.2.1 i hi; omega) (fun e => by have := (HH.out.1.apart e).1; have := HH.out.2.2.2.2.1 i hi; omega))
     by_cases hlt2 : k2 < xs.length
     ·obtain ⟨g', off', q, A', c', e', hSg, hq, hTq, y0, y1, y2, y3, y4⟩ := part_get hrowr k2 (by rw [hlen.out]; omega)
      cases e'
      have g1 : (k2 : Int) < xs.length := by omega
      have g2 : (k2 : Int) < t.l.length := by rw [hlen.out]; omega
      have hqx : xs[k2]? = some q := by
       rw [HL.out.1, List.getElem?_append_left hlt2] at hq
       exact hq
      obtain ⟨vn, hvn⟩ : ∃ x, (findN (ws.funs ++ [f]) (ws.funs ++ [f]).length ws.funs.length q.s).getD (-1) = x := ⟨_, rfl⟩
      have hF0 := find_any (Wr.alloc (.cells #[.int .i64 q.op, .string (bs q.s), .int .i64 q.n, .slice A' q.l.length c', .int .i64 q.line] 24)) R B _ 0 0 _ (hWr.below (below_alloc9 _ _)) ws.funs.length q.s HY.out.2.2.2 (by simp; omega)
      have hnf := numd_fine HY.out.2.2.2 ws.funs.length q
      have hnf : -1 ≤ vn ∧ vn ≤ 1000000 := by rw [← hvn]; exact hnf
      rw [show (findN (⟨ws.funs ++ [f], ws.mark + 2⟩ : WS).funs (⟨ws.funs ++ [f], ws.mark + 2⟩ : WS).funs.length ws.funs.length q.s).getD (-1) = vn from hvn] at hF0
      have HF0 := Lib.hid hF0
      obtain ⟨TS, hTS⟩ : ∃ x, (xs.take k2).map (numd (ws.funs ++ [f]) ws.funs.length) = x := ⟨_, rfl⟩
      rw [hTS] at hlb
      have hTl : TS.length = k2 := by rw [← hTS, List.length_map, List.length_take]; omega
      have hMl : M < Wr.heap.size := hzr
      have hbX := below_alloc9 Wr (.cells #[.int .i64 q.op, .string (bs q.s), .int .i64 vn, .slice A' q.l.length c', .int .i64 q.line] 24)
      have mx3 := (hbX.cell (p := ⟨M, 3, none⟩) hMl).trans m3
      obtain ⟨A'', c'', e'', hrq, hfq⟩ := hTq.form
      injection e'' with e''
      have hrq : RowAt Wr S q.l (.slice A' q.l.length c') := by
       simp only [Array.mk.injEq, List.cons.injEq, Value.slice.injEq, true_and, and_true] at e''
       rw [e''.1, e''.2]
       exact hrq
      have hSP : ∀ k, S k → (P k ∧ k < Wr.heap.size + 1) ∧ (Value.slice Ao k2 co).ownBlock ≠ some k := fun k hk => ⟨⟨(HPd.out k).2 ⟨⟨.inl hk, by have := HH.out.2.2.2.2.1 k hk; omega⟩, fun e => by have := (HX.out.1.apart e).1; have := HH.out.2.2.2.2.1 k hk; omega⟩, by have := HH.out.2.2.2.2.1 k hk; omega⟩, fun e => by have := (hlb.acc.blk e).1; have := HH.out.2.2.2.2.1 k hk; omega⟩
      have htq : TreeAt (Wr.alloc (.cells #[.int .i64 q.op, .string (bs q.s), .int .i64 vn, .slice A' q.l.length c', .int .i64 q.line] 24)) (fun k => (P k ∧ k < (Wr.alloc (.cells #[.int .i64 q.op, .string (bs q.s), .int .i64 vn, .slice A' q.l.length c', .int .i64 q.line] 24)).heap.size) ∧ (Value.slice Ao k2 co).ownBlock ≠ some k) (numd (ws.funs ++ [f]) ws.funs.length q) (.agg #[.int .i64 q.op, .string (bs q.s), .int .i64 vn, .slice A' q.l.length c', .int .i64 q.line]) := by
       unfold numd
       rw [hvn]
       refine TreeAt.mk (hrq.keep (fun k hk => by rw [World.size_alloc]; exact hSP k hk) (fun k hk => hbX.block k (by have := HH.out.2.2.2.2.1 k hk; omega))) ⟨hfq.1, hfq.2.1, by omega, by omega⟩
      have hpu := AccP.push1 (hlb.acc.turn (Only.of_below (F := fun _ => False) hbX) (fun _ _ _ h => h) (fun _ _ h _ => h)) htq (by omega) (by rw [World.size_alloc]; omega) ((HPd.out _).2 (by rw [World.size_alloc]; exact ⟨⟨.inr (by omega), by omega⟩, fun e => by have := (HX.out.1.apart e).2.1; omega⟩)) 22 #[.int .i64 q.op, .string (bs q.s), .int .i64 vn, .slice A' q.l.length c', .int .i64 q.line] rfl
      rw [World.size_alloc, hTl] at hpu
      have HP := Lib.hid hpu
      have HK := Lib.hid (And.intro hlb (And.intro hbX (And.intro hqx hTS)))
      clear hF0 hvn hnf hlb hTq hqx hq hSg hbw hWr honr hrowr hpu htq hSP hrq hfq e'' hbX hTS hTl
      go_wp2_with (first
       | (go_at_call 33; refine HF0.out.mono ?_; rintro e w' ⟨rfl, rfl⟩)
       | (at_builtin; refine wl_app rfl _ _ 22 rfl (.slice Ao k2 co) (.slice (some ⟨Wr.heap.size + 1, 0, none⟩) 1 1) rfl rfl _ HP.out ?_; rintro u w7 ⟨hacc, hon7, ⟨A7, c7, rfl⟩, hnw⟩; obtain ⟨hb7, hL7⟩ := HK.out.1.push HK.out.2.1 hacc hon7 (fun k hk => ((HPd.out k).1 hk).1.2); have mm3 := (box_facts hb7).1.2.2.2.1; have ms3 := (box_facts hb7).2.2.2.2.1; have HL7 := Lib.hid hL7; clear hacc hon7 hnw hb7 hL7))
      go_roundw
      case rel => exact ⟨k2 + 1, A7, c7, by omega, by go_num, by
       rw [List.take_add_one, HK.out.2.2.1, List.map_append, HK.out.2.2.2]
       exact HL7.out⟩
      case measure => simp [intOf]; omega
     ·have g1 : ¬ (k2 : Int) < xs.length := by omega
      obtain rfl : k2 = xs.length := by omega
      rw [List.take_of_length_le (Nat.le_refl _)] at hlb
      obtain ⟨g', off', q, A', c', e', hSg, hq, hTq, y0, y1, y2, y3, y4⟩ := part_get hrowr xs.length (by rw [hlen.out]; omega)
      cases e'
      obtain rfl : q = p := by
       rw [HL.out.1, List.getElem?_append_right (Nat.le_refl _)] at hq
       simpa using hq.symm
      have g2 : (xs.length : Int) < t.l.length := by rw [hlen.out]; omega
      have hpm : q ∈ t.l := List.mem_of_getElem? hq
      have hps := size_part (t := t) hpm
      have hkn : Knows (ws.funs ++ [f]) ws.funs.length q := ⟨f, by rw [show ((ws.funs.length : Nat) : Int).toNat = ws.funs.length by omega, List.getElem?_append_right (Nat.le_refl _)]; simp, fun s hs => by rw [← hf9]; show s ∈ VS; rw [← HB.out.2.1, mem_decl]; exact .inr hs⟩
      have hT0 := HL.out.2.2.2 Wr.drew R B S ⟨ws.funs ++ [f], ws.mark + 2⟩ _ _ ws.funs.length false ⟨hWr.head, hWr.funs.only ((Only.refl (fun k => k = R) Wr).drew) (walker_apart hWr.head)⟩ (hTq.keep (fun _ h => h) (fun _ _ => rfl)) HH.out.2.2.2.2.1 hBR HY.out.2.2.1 (by simp) (by show (ws.funs ++ [f]).length ≤ 500; rw [List.length_append, List.length_singleton]; omega) (by omega) (by show ((ws.funs.length : Nat) : Int) < ((ws.funs ++ [f]).length : Nat); rw [List.length_append, List.length_singleton]; omega) hkn (by show ws.mark + 2 + 2 * q.size ≤ 1000000; omega) (HL.out.2.2.1.part hpm) (by omega)
      obtain ⟨r5, hr5⟩ : ∃ x, resT q ws.funs.length false ⟨ws.funs ++ [f], ws.mark + 2⟩ = x := ⟨_, rfl⟩
      rw [hr5] at hT0
      have HT := Lib.hid hT0
      obtain ⟨TS, hTS⟩ : ∃ x, xs.map (numd (ws.funs ++ [f]) ws.funs.length) = x := ⟨_, rfl⟩
      rw [hTS] at hlb
      have HE5 := Lib.hid (show resT t a false ws = wrapR t.op t.s ws.funs.length t.line TS r5 from by
       have h := HE.out
       rw [hf9, hr5, hTS] at h
       rw [h]
       unfold wrapR
       cases r5 <;> rfl)
      have hTl : TS.length = xs.length := by rw [← hTS, List.length_map]
      have hrw := (hbw.block (N + 1) (by omega)).trans HX.out.2.2.1
      have hfM : ∀ k, (Value.slice A3 (ws.funs.length + 1) c3).ownBlock = some k → k < M := fun k e => by have := (HX.out.1.apart e).2.1; omega
      have hfN : (Value.slice A3 (ws.funs.length + 1) c3).ownBlock ≠ some (N + 1) := fun e => by
       obtain ⟨-, -, cs, hc⟩ := hWr.funs.typed e
       rw [hrw] at hc
       injection hc with e
       injection e with e1 e2
       exact absurd e2 (by decide)
      have HK := Lib.hid (And.intro hlb (And.intro hrw (And.intro hfM (And.intro hfN (And.intro honr hTl)))))
      have hMl : M < Wr.heap.size := hzr
      have hpost : ∀ e w6, TreeR Wr.drew R B S (.slice A3 (ws.funs.length + 1) c3) r5 e w6 → ∃ (tb : Tr) (A9 : Option Addr) (c9 : Nat) (ws6 : WS) (er l6 : Int) (fv6 : Value) (A8 : Option Addr) (c8 : Nat) (w8 : World), e = .returned (.agg #[.int .i64 tb.op, .string (bs tb.s), .int .i64 tb.n, .slice A9 tb.l.length c9, .int .i64 tb.line]) ∧
        w6.cell? ⟨M, 3, none⟩ = some (.slice Ao xs.length co) ∧ (w6.alloc (.cells #[.int .i64 tb.op, .string (bs tb.s), .int .i64 tb.n, .slice A9 tb.l.length c9, .int .i64 tb.line] 24)).cell? ⟨M, 3, none⟩ = some (.slice Ao xs.length co) ∧
        (Builtin.append_ #[22, 22] 22 #[.slice Ao xs.length co, .slice (some ⟨w6.heap.size, 0, none⟩) 1 1]).run Try.prog (w6.alloc (.cells #[.int .i64 tb.op, .string (bs tb.s), .int .i64 tb.n, .slice A9 tb.l.length c9, .int .i64 tb.line] 24)) = .ok (.slice A8 (xs.length + 1) c8) w8 ∧ w8.cell? ⟨M, 3, none⟩ = some (.slice Ao xs.length co) ∧ w8.frozen? ⟨M, 3, none⟩ = false ∧
        RowKit.Hid (FunQ W (w8.setCell ⟨M, 3, none⟩ (.slice A8 (xs.length + 1) c8)) R B N M S (.int .i64 t.op) (.string (bs t.s)) (.int .i64 ws.funs.length) (.int .i64 t.line) (.slice Af ws.funs.length cf) TS r5 A8 (xs.length + 1) c8 tb ws6 er l6 fv6) := by
       rintro e w6 ⟨v6, tb, ws6, er, l6, fv6, rfl, hTb, hW6, hnew6, hon6, hout6⟩
       obtain ⟨A9, c9, rfl, -, -⟩ := hTb.form
       have hdd : Wr.drew.heap.size = Wr.heap.size := rfl
       have hon6 : Only (fun k => k = R ∨ (Value.slice A3 (ws.funs.length + 1) c3).ownBlock = some k) Wr w6 := ⟨hon6.os, hon6.tape, hon6.output, hon6.size, hon6.block⟩
       have hz6 : Wr.heap.size ≤ w6.heap.size := hon6.size
       have hM6 := (hon6.block M hMl (fun e => e.elim (fun e => by omega) (fun e => by have := hfM M e; omega))).trans hlb.box
       have hac6 := hlb.acc.turn (P' := fun k => ((S k ∨ N + 2 ≤ k) ∧ k ≠ M) ∧ fv6.ownBlock ≠ some k) hon6 (fun k hk h e => by
        rcases h with h | h
        ·have h := (HPd.out k).1 h
         rcases e with e | e
         ·rcases h.1.1 with h1 | h1
          ·have := HH.out.2.2.2.2.1 k h1; omega
          ·omega
         ·exact h.2 e
        ·have := (hlb.acc.blk h).1
         rcases e with e | e
         ·omega
         ·have := hfM k e; omega) (fun k hk h hne => ⟨((HPd.out k).1 h).1, fun e => by
        rcases hnew6 k e with e | e
        ·exact ((HPd.out k).1 h).2 e
        ·omega⟩)
       have hpu := hac6.push1 (hTb.keep (S' := fun k => ((((S k ∨ N + 2 ≤ k) ∧ k ≠ M) ∧ fv6.ownBlock ≠ some k) ∧ k < w6.heap.size) ∧ (Value.slice Ao xs.length co).ownBlock ≠ some k) (fun k hk => by
        rcases hk with ⟨h1 | h1, h2⟩
        ·have := HH.out.2.2.2.2.1 k h1
         exact ⟨⟨⟨⟨.inl h1, by omega⟩, h2⟩, by omega⟩, fun e => by have := (hlb.acc.blk e).1; omega⟩
        ·have := h1.1
         have := h1.2
         exact ⟨⟨⟨⟨.inr (by omega), by omega⟩, h2⟩, by omega⟩, fun e => by have := (hlb.acc.blk e).2; omega⟩) (fun _ _ => rfl)) (by omega) (by omega) ⟨⟨.inr (by omega), by omega⟩, fun e => by have := (hW6.apart e).2.1; omega⟩ 22 #[.int .i64 tb.op, .string (bs tb.s), .int .i64 tb.n, .slice A9 tb.l.length c9, .int .i64 tb.line] rfl
       rw [hTl] at hpu
       obtain ⟨v8, w8, hrun8, hacc8, hon8, ⟨A8, c8, rfl⟩, hnw8⟩ := hpu
       have hM8 := (hon8.block M (by omega) (fun e => by have := (hlb.acc.blk e).1; omega)).trans hM6
       have hoM := Only.setCell (F := fun k => k = M) w8 (b := M) rfl 3 (.slice A8 (xs.length + 1) c8)
       have hres8 := (hoM.block (N + 1) (by have := hon8.size; omega) (by omega)).trans ((hon8.block (N + 1) (by omega) (fun e => by have := (hlb.acc.blk e).1; omega)).trans ((hon6.block (N + 1) (by omega) (fun e => e.elim (fun e => by omega) hfN)).trans hrw))
       have h68 : Only (fun k => (Value.slice Ao xs.length co).ownBlock = some k ∨ k = M) w6 (w8.setCell ⟨M, 3, none⟩ (.slice A8 (xs.length + 1) c8)) := (hon8.mono (fun i _ h => .inl h)).trans' (hoM.mono (fun i _ h => .inr h))
       have hRne : ¬ ((Value.slice Ao xs.length co).ownBlock = some R ∨ R = M) := fun e => e.elim (fun e => by have := (hlb.acc.blk e).1; omega) (fun e => by omega)
       have hWf : WkAt (w8.setCell ⟨M, 3, none⟩ (.slice A8 (xs.length + 1) c8)) R B ws6 er l6 fv6 := ⟨(h68.block R hW6.lt hRne).trans hW6.head, hW6.funs.only h68 (fun k hk cs => by
        have hnode : ∃ cs, w6.heap[k]? = some (.cells cs 24 (0, 0)) := by
         rcases hk with hk | hk
         ·exact hac6.typed hk
         ·rw [hk]; exact ⟨_, hM6⟩
        obtain ⟨cs', hc'⟩ := hnode
        rw [hc']
        exact ⟨fun e => by injection e with e; injection e with e1 e2; exact absurd e2 (by decide), fun e => by injection e with e; injection e with e1 e2; exact absurd e2 (by decide)⟩)⟩
       refine ⟨tb, A9, c9, ws6, er, l6, fv6, A8, c8, w8, rfl, (box_facts hM6).1.2.2.2.1, ((below_alloc9 w6 _).cell (p := ⟨M, 3, none⟩) (by show M < w6.heap.size; omega)).trans (box_facts hM6).1.2.2.2.1, hrun8, (box_facts hM8).1.2.2.2.1, (box_facts hM8).2.2.2.2.1, Lib.hid ⟨by simpa using blk_set hM8 3 (.slice A8 (xs.length + 1) c8), ?_, hWf, hres8, ?_, ?_, hout6⟩⟩
       ·exact hacc8.turn hoM (fun k hk h e => by
         rcases h with h | h
         ·exact h.1.2 e
         ·have := (hacc8.blk h).1; omega) (fun k _ h _ => h)
       ·refine ⟨h68.os.trans (hon6.os.trans honr.os), h68.tape.trans (hon6.tape.trans honr.tape), h68.output.trans (hon6.output.trans honr.output), by have := h68.size; have := honr.size; omega, fun k hk hn => ?_⟩
        have hkN : k < N := by omega
        refine (h68.block k (by have := honr.size; omega) (fun e => e.elim (fun e => by have := (hlb.acc.blk e).1; omega) (fun e => by omega))).trans ((hon6.block k (by show k < Wr.heap.size; have := honr.size; omega) (fun e => ?_)).trans (honr.block k hk hn))
        rcases e with e | e
        ·exact hn (.inl e)
        ·rcases HX.out.2.2.2.2 k e with e | e
         ·exact hn (.inr e)
         ·omega
       ·intro k hk
        rcases hnew6 k hk with e | e
        ·exact HX.out.2.2.2.2 k e
        ·right; omega
      have HPost := Lib.hid hpost
      clear hpost hT0 hr5 hTS hlb hrw hfM hfN honr hpm hps hkn hbw hWr hrowr hTq hSg hq HE hTl
      go_upto_region 26 with fail
      go_cut [] (fun wc => ∃ A8 c8 tb ws' er l fv', FunQ W wc R B N M S (.int .i64 t.op) (.string (bs t.s)) (.int .i64 ws.funs.length) (.int .i64 t.line) (.slice Af ws.funs.length cf) TS r5 A8 (xs.length + 1) c8 tb ws' er l fv')
      case first =>
       go_region_law (first
        | (refine step_app rfl (.tmp 135) (.tmp 144) 22 rfl (.slice Ao xs.length co) (.slice (some ⟨w6.heap.size, 0, none⟩) 1 1) rfl rfl (fun v w => v = .slice A8 (xs.length + 1) c8 ∧ w = w8) ⟨_, _, HRun.out, rfl, rfl⟩ ?_; rintro u w9 ⟨rfl, rfl⟩)
        | (go_simp; go_at_call 22; refine HT.out.mono ?_; rintro e w6 he; obtain ⟨tb, A9, c9, ws6, er, l6, fv6, A8, c8, w8, rfl, mm3, mx3, hrun, mm8, ms8, HQ6⟩ := HPost.out e w6 he; have HRun := Lib.hid hrun; clear he hrun))
       all_goals
        go_wp2_with fail
        go_meet
        case rel => exact ⟨A8, c8, tb, ws6, er, l6, fv6, HQ6.out⟩
      case rest =>
      obtain ⟨A8, c8, tb, ws6, er, l6, fv6, hQ⟩ := hcut
      obtain ⟨wf, ewf⟩ : ∃ x, x = wc := ⟨_, rfl⟩
      subst ewf
      obtain ⟨k0, k1, k2, k3, k4⟩ := (box_facts hQ.box).1
      obtain ⟨⟨r0, r1, r2, r3, r4⟩, ⟨s0, s1, s2, s3, s4⟩⟩ := box_facts hQ.res
      have HQ := Lib.hid hQ
      clear hQ m3 x3 y0 y1 y2 y3 y4 g1 g2
      go_wp2
      have hp5 := put5_only wf (N + 1) (.int .i64 t.op) (.string (bs t.s)) (.int .i64 ws.funs.length) (.slice A8 (xs.length + 1) c8) (.int .i64 t.line)
      have hfz := heap_lt HQ.out.box
      have hty : ∀ k, k = N + 1 → ∀ cs, wf.heap[k]? ≠ some (.cells cs 41 (0, 0)) ∧ wf.heap[k]? ≠ some (.cells cs 9 (0, 0)) := fun k hk cs => by
       subst hk
       rw [HQ.out.res]
       exact ⟨fun e => by injection e with e; injection e with e1 e2; exact absurd e2 (by decide), fun e => by injection e with e; injection e with e1 e2; exact absurd e2 (by decide)⟩
      refine ret_node (W := wf) (b := N + 1) 6 rfl rfl rfl HQ.out.res ⟨_, .mk t.op t.s ws.funs.length t.line (TS ++ [tb]), ws6, er, l6, fv6, rfl, ?_, ⟨(hp5.block R HQ.out.wk.lt (by omega)).trans HQ.out.wk.head, HQ.out.wk.funs.only hp5 hty⟩, fun k hk => (HQ.out.new k hk).imp id (fun e => by omega), ?_, ?_⟩
      ·refine TreeAt.mk ((HQ.out.acc.rowO).keep (fun k hk => ?_) (fun k hk => hp5.block k hk.2 (fun e => ?_))) ⟨HH.out.2.2.2.1.1, HH.out.2.2.2.1.2.1, by omega, by omega⟩
       ·have hlt : k < (put5 wf (N + 1) (.int .i64 t.op) (.string (bs t.s)) (.int .i64 ws.funs.length) (.slice A8 (xs.length + 1) c8) (.int .i64 t.line)).heap.size := by have := hp5.size; have := hk.2; omega
        rcases hk.1 with h | h
        ·exact ⟨h.1.1.imp id (fun e => ⟨by omega, hlt⟩), h.2⟩
        ·refine ⟨.inr ⟨by have := (HQ.out.acc.blk h).1; omega, hlt⟩, fun e => ?_⟩
         obtain ⟨cs, hc⟩ := HQ.out.acc.typed h
         obtain ⟨-, -, cs2, hc2⟩ := HQ.out.wk.funs.typed e
         rw [hc] at hc2
         injection hc2 with e
         injection e with e1 e2
         exact absurd e2 (by decide)
       ·rcases hk.1 with h | h
        ·rcases h.1.1 with h1 | h1
         ·have := HH.out.2.2.2.2.1 k h1; omega
         ·omega
        ·have := (HQ.out.acc.blk h).1; omega
      ·exact ⟨hp5.os.trans HQ.out.on.os, hp5.tape.trans HQ.out.on.tape, hp5.output.trans HQ.out.on.output, Nat.le_trans HQ.out.on.size hp5.size, fun k hk hn => (hp5.block k (by have := HQ.out.on.size; omega) (by omega)).trans (HQ.out.on.block k hk hn)⟩
      ·rw [HE5.out]
       unfold wrapR
       have ho := HQ.out.out
       clear HT HPost HE5
       cases r5 with
       | error x => exact ho
       | ok x => exact ⟨by rw [ho.1], ho.2.1, ho.2.2⟩
end
end Go.Proofs.Ytbpodijcndglgaa
