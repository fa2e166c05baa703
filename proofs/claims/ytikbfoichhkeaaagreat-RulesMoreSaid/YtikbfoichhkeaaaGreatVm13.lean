/- A function more: what is behind the append. scope.enter: a function is numbered. -/
import Derived.Laws.OwnMore
import Derived.BigRegion
import Derived.Deep.RegionLaw
import Derived.Deep.AppendLies
import Derived.Test.YtikbfoichhkeaaaGreatVm12
set_option linter.unusedSimpArgs false
set_option linter.unusedVariables false
set_option maxRecDepth 100000
set_option maxHeartbeats 40000000
namespace Go.Proofs.YtikbfoichhkeaaaGreat
section
open Go.RowKit Go.Proofs
theorem info75 : (Tryz.prog.info? 126).map (fun i => (i.zero, i.size, i.bytes)) = some (some (.agg #[.int .i64 0, .string ⟨#[]⟩, .int .i64 0, .slice none 0 0, .int .i64 0, .map none]), 6, 72) := by kernel_rfl
def EnterOk (W W' : World) (R B nb no : Nat) (ws : WS) (L : List (Fn × Value × Nat)) (v : Value) (f : Fn) (mk : Int) : Prop :=
 ∃ sv m v', RSt W' R B ⟨ws.funs ++ [f], mk⟩ (L ++ [(f, sv, m)]) v' ∧ Only (fun k => k = R ∨ k = nb ∨ v.ownBlock = some k) W W' ∧
  (∀ cs T, W.heap[nb]? = some (.cells cs T (0, 0)) → W'.heap[nb]? = some (.cells (cs.setIfInBounds (no + 2) (.int .i64 ws.funs.length)) T (0, 0))) ∧
  (∀ k, v'.ownBlock = some k → v.ownBlock = some k ∨ W.heap.size ≤ k) ∧ (∀ k, sv.ownBlock = some k ∨ m = k → W.heap.size ≤ k)
theorem FnAt.base {W : World} {B B' : Nat} {q : Fn × Value × Nat} (h : FnAt W B q) (hb : B' ≤ B) : FnAt W B' q :=
 ⟨⟨h.row.1, h.row.2.imp id fun ⟨g, cap, cur, e1, e2, e3⟩ => ⟨g, cap, cur, e1, Nat.le_trans hb e2, e3⟩⟩, h.map, Nat.le_trans hb h.ge, h.fine⟩
theorem FnAt.no_fault {W : World} {B : Nat} {q : Fn × Value × Nat} (h : FnAt W B q) {k : Nat} (hk : q.2.1.ownBlock = some k ∨ q.2.2 = k) {cs : Array Value} : W.heap[k]? ≠ some (.cells cs 76 (0, 0)) := fun hc => by
 rcases hk with hk | rfl
 ·obtain ⟨cs', hc'⟩ := row_blk (row_zero h.row) hk
  rw [hc] at hc'
  injection hc' with e
  injection e with e1 e2
  exact absurd e2 (by decide)
 ·obtain ⟨j, D, ⟨es, clock, hb, -⟩, -⟩ := h.map
  rw [hc] at hb
  cases hb
theorem ownsRow_base {W : World} {B B' size n : Nat} {e : TypeId} {v : Value} {xs : List Value} (h : W.ownsRow B e size v n xs) (hb : B' ≤ B) : W.ownsRow B' e size v n xs :=
 ⟨h.1, h.2.imp id fun ⟨g, cap, cur, e1, e2, e3⟩ => ⟨g, cap, cur, e1, Nat.le_trans hb e2, e3⟩⟩
theorem enter_fin {W W9 : World} {R B nb no N : Nat} {ws : WS} {L : List (Fn × Value × Nat)} {v : Value} {f : Fn} {sv : Value} {m : Nat} {mk : Int} {x y : Value} {csn : Array Value} {Tn : TypeId}
  (hR : RSt W R B ws L v) (hB : B ≤ W.heap.size) (hl5 : ws.funs.length < 500) (hO : Only (fun k => k = R) W W9) (h9 : W9.heap[R]? = some (.cells #[v, .int .i64 mk] 74 (0, 0)))
  (hf : FnAt W9 W.heap.size (f, sv, m)) (hnb : W.heap[nb]? = some (.cells csn Tn (0, 0))) (hnR : nb ≠ R) (hnB : nb < B) (hN : W.heap.size ≤ N) (hbN : W9.heap[N]? = some (.cells #[x, y] 76 (0, 0))) :
  ∃ w' A3 c3, (Builtin.append_ #[72, 72] 72 #[v, .slice (some ⟨W9.heap.size, 0, none⟩) 1 1]).run Tryz.prog (W9.drew.alloc (.cells (fCells (f, sv, m)).toArray 126)) = .ok (.slice A3 (ws.funs.length + 1) c3) w' ∧
   (w'.heap[R]? = some (.cells #[v, .int .i64 mk] 74 (0, 0)) ∧ w'.heap[nb]? = some (.cells csn Tn (0, 0)) ∧ w'.heap[N]? = some (.cells #[x, y] 76 (0, 0))) ∧
   ∀ Wf, Wf = (((w'.setCell ⟨R, 0, none⟩ (.slice A3 (ws.funs.length + 1) c3)).setCell ⟨nb, no + 2, none⟩ (.int .i64 ws.funs.length)).setCell ⟨N, 0, none⟩ (.int .i64 0)).setCell ⟨N, 1, none⟩ (.int .i64 0) →
    Wf.heap[N]? = some (.cells #[.int .i64 0, .int .i64 0] 76 (0, 0)) ∧ EnterOk W Wf R B nb no ws L v f mk := by
 have hlen := hR.len
 have hRB := hR.lt
 have hRl := heap_lt hR.head
 have hnl := heap_lt hnb
 have hNl := heap_lt hbN
 have hal : Below W9.heap.size W9 (W9.drew.alloc (.cells (fCells (f, sv, m)).toArray 126)) := (Below.refl _ W9).drew.alloc (Nat.le_refl _) _
 have hZ : (W9.drew.alloc (.cells (fCells (f, sv, m)).toArray 126)).heap[W9.heap.size]? = some (.cells (fCells (f, sv, m)).toArray 126 (0, 0)) := heap_alloc_new W9.drew _
 have hzz : (W9.drew.alloc (.cells (fCells (f, sv, m)).toArray 126)).heap.size = W9.heap.size + 1 := World.size_alloc W9.drew _
 obtain ⟨WA, eA⟩ : ∃ WA, W9.drew.alloc (.cells (fCells (f, sv, m)).toArray 126) = WA := ⟨_, rfl⟩
 rw [eA] at hal hZ hzz ⊢
 have hvk : ∀ k, v.ownBlock = some k → B ≤ k ∧ k < W.heap.size := fun k hk => hR.row.lt k hk
 have hrowA : WA.ownsRow B 126 6 v L.length (fRow L) := ⟨hR.row.1, hR.row.2.imp id fun ⟨g, cap, cur, e1, e2, e3, e4⟩ => ⟨g, cap, cur, e1, e2, by
  have hg := hvk g (by rw [e1]; rfl)
  exact (hal.block g (by have := hO.size; omega)).trans ((hO.block g hg.2 (by omega)).trans e3), e4⟩⟩
 obtain ⟨i0, j0, j1, j2, j3⟩ := info_parts info75
 obtain ⟨v', w', r1, r2, r3, -, r5⟩ := run_append_own_at (P := Tryz.prog) WA B 72 72 126 i0 _ 6 72 Tryz.underlying72 j0 j1 j2 j3 rfl (by decide) v L.length _ hrowA ⟨W9.heap.size, 0, none⟩ 1 1 (fCells (f, sv, m)) rfl (fun j u hj => by
   rw [add_mid, cell_of_row _ _ _ _ _ _ hZ]
   simpa using hj) (fun u hu => by
    simp only [fCells, List.mem_cons, List.not_mem_nil, or_false] at hu
    rcases hu with rfl | rfl | rfl | hu | rfl | rfl
    ·rfl
    ·rfl
    ·rfl
    ·rcases hf.row.2 with ⟨e, -⟩ | ⟨g9, c9, cur9, e, -⟩ <;> (rw [hu, show sv = _ from e]; rfl)
    ·rfl
    ·rfl) (by unfold maxLen; omega) (by omega) (by have := hO.size; omega)
 obtain ⟨A3, c3, rfl⟩ : ∃ A c, v' = .slice A (ws.funs.length + 1) c := by
  rcases r2.2 with ⟨-, h0⟩ | ⟨g, cap, cur, e, -⟩
  ·omega
  ·exact ⟨_, _, by rw [e, hlen]⟩
 have hkeep : ∀ k, k < W9.heap.size → v.ownBlock ≠ some k → w'.heap[k]? = W9.heap[k]? := fun k hk hv => (r3.block k (by omega) (fun e => hv e.symm)).trans (hal.block k hk)
 have hNv : ∀ k, v.ownBlock = some k → k < W.heap.size := fun k hk => (hvk k hk).2
 have hR' : w'.heap[R]? = some (.cells #[v, .int .i64 mk] 74 (0, 0)) := (hkeep R (heap_lt h9) (fun e => by have := (hvk R e).1; omega)).trans h9
 have hnb' : w'.heap[nb]? = some (.cells csn Tn (0, 0)) := (hkeep nb (by have := hO.size; omega) (fun e => by have := (hvk nb e).1; omega)).trans ((hO.block nb hnl hnR).trans hnb)
 have hN' : w'.heap[N]? = some (.cells #[x, y] 76 (0, 0)) := (hkeep N hNl (fun e => by have := hNv N e; omega)).trans hbN
 refine ⟨w', A3, c3, r1, ⟨hR', hnb', hN'⟩, ?_⟩
 rintro Wf rfl
 obtain ⟨V, eV⟩ : ∃ V, Value.slice A3 (ws.funs.length + 1) c3 = V := ⟨_, rfl⟩
 rw [eV] at r2 r5 ⊢
 have hs1 : (w'.setCell ⟨R, 0, none⟩ V).heap[R]? = some (.cells #[V, .int .i64 mk] 74 (0, 0)) := blk_set hR' 0 V
 have ho1 := Only.setCell (F := fun k => k = R ∨ k = nb ∨ k = N) w' (b := R) (.inl rfl) 0 V
 obtain ⟨wa, ea⟩ : ∃ wa, w'.setCell ⟨R, 0, none⟩ V = wa := ⟨_, rfl⟩
 have hnba : wa.heap[nb]? = some (.cells csn Tn (0, 0)) := by rw [← ea]; exact (Below.heap_setCell w' _ _ nb (by show nb ≠ R; omega)).trans hnb'
 have hNa : wa.heap[N]? = some (.cells #[x, y] 76 (0, 0)) := by rw [← ea]; exact (Below.heap_setCell w' _ _ N (by show N ≠ R; omega)).trans hN'
 rw [ea] at hs1 ho1 ⊢
 have ho2 := Only.setCell (F := fun k => k = R ∨ k = nb ∨ k = N) wa (b := nb) (.inr (.inl rfl)) (no + 2) (.int .i64 ws.funs.length)
 have hs2 : (wa.setCell ⟨nb, no + 2, none⟩ (.int .i64 ws.funs.length)).heap[nb]? = some (.cells (csn.setIfInBounds (no + 2) (.int .i64 ws.funs.length)) Tn (0, 0)) := blk_set hnba _ _
 obtain ⟨wb, eb⟩ : ∃ wb, wa.setCell ⟨nb, no + 2, none⟩ (.int .i64 ws.funs.length) = wb := ⟨_, rfl⟩
 have hNb : wb.heap[N]? = some (.cells #[x, y] 76 (0, 0)) := by rw [← eb]; exact (Below.heap_setCell wa _ _ N (by show N ≠ nb; omega)).trans hNa
 have hRb : wb.heap[R]? = some (.cells #[V, .int .i64 mk] 74 (0, 0)) := by rw [← eb]; exact (Below.heap_setCell wa _ _ R (by show R ≠ nb; omega)).trans hs1
 rw [eb] at hs2 ho2 ⊢
 have ho3 := (set2_only wb N (.int .i64 0) (.int .i64 0)).mono (G := fun k => k = R ∨ k = nb ∨ k = N) (fun i _ e => .inr (.inr e))
 have hs3 : ((wb.setCell ⟨N, 0, none⟩ (.int .i64 0)).setCell ⟨N, 1, none⟩ (.int .i64 0)).heap[N]? = some (.cells #[.int .i64 0, .int .i64 0] 76 (0, 0)) := blk_set (blk_set hNb 0 _) 1 _
 obtain ⟨Wf, ef⟩ : ∃ Wf, (wb.setCell ⟨N, 0, none⟩ (.int .i64 0)).setCell ⟨N, 1, none⟩ (.int .i64 0) = Wf := ⟨_, rfl⟩
 have hRf : Wf.heap[R]? = some (.cells #[V, .int .i64 mk] 74 (0, 0)) := by rw [← ef]; exact ((set2_only wb N _ _).block R (heap_lt hRb) (by omega)).trans hRb
 have hnf : Wf.heap[nb]? = some (.cells (csn.setIfInBounds (no + 2) (.int .i64 ws.funs.length)) Tn (0, 0)) := by rw [← ef]; exact ((set2_only wb N _ _).block nb (heap_lt hs2) (by omega)).trans hs2
 rw [ef] at ho3 hs3 ⊢
 have hof : Only (fun k => k = R ∨ k = nb ∨ k = N) w' Wf := (ho1.trans' ho2).trans' ho3
 have hkf : ∀ k, k < W9.heap.size → v.ownBlock ≠ some k → k ≠ R → k ≠ nb → k ≠ N → Wf.heap[k]? = W9.heap[k]? := fun k hk hv h1 h2 h3 => (hof.block k (by have := r3.size; omega) (by rintro (e | e | e) <;> omega)).trans (hkeep k hk hv)
 refine ⟨hs3, sv, m, V, ⟨hRf, ?_, ?_, ?_, hRB⟩, ?_, ?_, ?_, ?_⟩
 ·rw [List.map_append, hR.funs]
  rfl
 ·rw [fRow_app, List.length_append]
  refine ⟨?_, r2.2.imp ?_ ?_⟩
  ·rw [List.length_append, fRow_len, fRow_len, List.length_singleton, Nat.add_mul]
  ·rintro ⟨e, h0⟩
   omega
  ·rintro ⟨g, cap, cur, e1, e2, e3, e4⟩
   refine ⟨g, cap, cur, e1, e2, (hof.block g (heap_lt e3) ?_).trans e3, e4.1, e4.2.1, e4.2.2.1, ?_⟩
   ·rintro (e | e | e)
    ·omega
    ·omega
    ·rw [e, hN'] at e3
     injection e3 with e
     injection e with e1 e2
     exact absurd e2 (by decide)
   ·have := e4.2.2.2
    simpa using this
 ·intro q hq
  rcases List.mem_append.1 hq with hq | hq
  ·refine (hR.each q hq).keep fun k hk => ?_
   have hlt := (hR.each q hq).lt hk
   exact (hkf k (by have := hO.size; omega) (hR.apart hq hk) (by omega) (by omega) (by omega)).trans (hO.block k hlt.2 (by omega))
  ·rw [List.mem_singleton.1 hq]
   refine (hf.base hB).keep fun k hk => ?_
   have hlt := hf.lt hk
   refine hkf k hlt.2 (fun e => by have := hNv k e; omega) (by omega) (by omega) (fun e => ?_)
   exact hf.no_fault hk (e ▸ hbN)
 ·refine ⟨hof.os.trans (r3.os.trans (hal.os.trans hO.os)), hof.tape.trans (r3.tape.trans (hal.tape.trans hO.tape)), hof.output.trans (r3.output.trans (hal.output.trans hO.output)), ?_, fun k hk hn => ?_⟩
  ·have := hof.size; have := r3.size; have := hO.size; omega
  ·exact (hkf k (by have := hO.size; omega) (fun e => hn (.inr (.inr e))) (fun e => hn (.inl e)) (fun e => hn (.inr (.inl e))) (by omega)).trans (hO.block k hk (fun e => hn (.inl e)))
 ·intro cs T hc
  rw [hnb] at hc
  cases hc
  exact hnf
 ·intro k hk
  rcases r5 with h | h
  ·rw [h] at hk
   exact .inl hk
  ·rw [hk] at h
   cases h
   exact .inr (by have := hO.size; omega)
 ·intro k hk
  exact (hf.lt hk).1
end
section
open Go.RowKit Go.Proofs
theorem spec9 {W3 : World} {F R : Nat} {v a b c x1 x2 x3 x5 y0 y4 z : Value} {T T2 : TypeId} (hF : W3.heap[F]? = some (.cells #[y0, x1, x2, x3, y4, x5] T (0, 0))) (hR : W3.heap[R]? = some (.cells #[v, z] T2 (0, 0))) (hne : F ≠ R) :
  Only (fun k => k = F ∨ k = R) W3 (((W3.setCell ⟨F, 0, none⟩ a).setCell ⟨F, 4, none⟩ b).setCell ⟨R, 1, none⟩ c) ∧ (((W3.setCell ⟨F, 0, none⟩ a).setCell ⟨F, 4, none⟩ b).setCell ⟨R, 1, none⟩ c).heap[F]? = some (.cells #[a, x1, x2, x3, b, x5] T (0, 0)) ∧
   (((W3.setCell ⟨F, 0, none⟩ a).setCell ⟨F, 4, none⟩ b).setCell ⟨R, 1, none⟩ c).heap[R]? = some (.cells #[v, c] T2 (0, 0)) := by
 have h1 := blk_set (blk_set hF 0 a) 4 b
 have h2 : ((W3.setCell ⟨F, 0, none⟩ a).setCell ⟨F, 4, none⟩ b).heap[R]? = some (.cells #[v, z] T2 (0, 0)) := (Below.heap_setCell _ _ _ R (by show R ≠ F; omega)).trans ((Below.heap_setCell _ _ _ R (by show R ≠ F; omega)).trans hR)
 refine ⟨((Only.setCell (F := fun k => k = F ∨ k = R) W3 (.inl rfl) 0 a).trans' (Only.setCell (F := fun k => k = F ∨ k = R) _ (.inl rfl) 4 b)).trans' (Only.setCell (F := fun k => k = F ∨ k = R) _ (.inr rfl) 1 c), ?_, ?_⟩
 ·exact (Below.heap_setCell _ _ _ F (by show F ≠ R; omega)).trans h1
 ·exact blk_set h2 1 c
theorem spec9z {X : World} {F R : Nat} {v c d : Value} {T2 : TypeId} {o : Option Obj} (hF : X.heap[F]? = o) (hR : X.heap[R]? = some (.cells #[v, c] T2 (0, 0))) (hne : F ≠ R) :
  Only (fun k => k = F ∨ k = R) X (X.setCell ⟨R, 1, none⟩ d) ∧ (X.setCell ⟨R, 1, none⟩ d).heap[F]? = o ∧ (X.setCell ⟨R, 1, none⟩ d).heap[R]? = some (.cells #[v, d] T2 (0, 0)) :=
 ⟨Only.setCell (F := fun k => k = F ∨ k = R) X (.inr rfl) 1 d, (Below.heap_setCell _ _ _ F (by show F ≠ R; omega)).trans hF, blk_set hR 1 d⟩
def EnterQ (W : World) (R B nb no : Nat) (ws : WS) (L : List (Fn × Value × Nat)) (v : Value) (t : Tr) (fn : Int) (e : Ending) (W' : World) : Prop :=
 if ws.funs.length = 500 ∨ 200 < (openF t.op t.s t.l fn ws.mark).vars.length then e = .returned (faultV t.line 52) ∧ Below W.heap.size W W'
 else e = .returned (faultV 0 0) ∧ EnterOk W W' R B nb no ws L v (openF t.op t.s t.l fn ws.mark) (if ws.funs.length = 0 then 4 else ws.mark + 2)
theorem enter_any (W : World) (R B nb no : Nat) (ws : WS) (L : List (Fn × Value × Nat)) (v : Value) (t : Tr) (S : Nat → Prop) (A : Option Addr) (c : Nat) (fn : Int) (loop : Bool) (hR : RSt W R B ws L v) (hB : B ≤ W.heap.size) (hl5 : ws.funs.length ≤ 500) (hmk : 0 ≤ ws.mark ∧ ws.mark ≤ 1000000) (hnR : nb ≠ R) (hnB : nb < B)
  (hT : TreeAt W S t (.agg #[.int .i64 t.op, .string (bs t.s), .int .i64 t.n, .slice A t.l.length c, .int .i64 t.line])) (hS : ∀ k, S k → k < W.heap.size) (hz : t.size ≤ 50000) (h0 : 0 < t.l.length)
  (c0 : W.cell? ⟨nb, no, none⟩ = some (.int .i64 t.op)) (c1 : W.cell? ⟨nb, no + 1, none⟩ = some (.string (bs t.s))) (c2 : W.cell? ⟨nb, no + 2, none⟩ = some (.int .i64 t.n)) (c3 : W.cell? ⟨nb, no + 3, none⟩ = some (.slice A t.l.length c)) (c4 : W.cell? ⟨nb, no + 4, none⟩ = some (.int .i64 t.line)) (hnb : ∃ cs T, W.heap[nb]? = some (.cells cs T (0, 0))) :
  Calls Tryz.prog 102 #[.pointer (some ⟨R, 0, none⟩), .pointer (some ⟨nb, no, none⟩), placeV fn loop] W (EnterQ W R B nb no ws L v t fn) := by
 unfold placeV
 obtain ⟨Av, cv, rfl, hc1, hc2⟩ := hR.form
 have hbl := cell_lt c1
 obtain ⟨csn, Tn, hnb⟩ := hnb
 have hRl := heap_lt hR.head
 have hlen := hR.len
 have HFi := Lib.hid (show t.s.length ≤ maxLen ∧ True from by
  obtain ⟨A', c', -, -, h⟩ := hT.form
  exact ⟨h.1, trivial⟩)
 have HC := Lib.hid (And.intro c0 (And.intro c1 (And.intro c2 (And.intro c3 (And.intro c4 hnb)))))
 have HR := Lib.hid (And.intro hR (And.intro hT hS))
 clear c0 c1 c2 c3 c4 hnb hR hT hS hc1 hc2
 go_enter Tryz.func102, Tryz.ntmps102
 go_upto_region 1 with fail
 have hb0 := (below_alloc9 W (.cells #[.int .i64 fn, .bool loop] 122)).alloc (by simp) (.cells #[.int .i64 0, .int .i64 0] 76)
 have bA := ((below_alloc9 (W.alloc (.cells #[.int .i64 fn, .bool loop] 122)) (.cells #[.int .i64 0, .int .i64 0] 76)).block W.heap.size (by simp)).trans (heap_alloc_new W _)
 have bB := heap_alloc_new (W.alloc (.cells #[.int .i64 fn, .bool loop] 122)) (.cells #[.int .i64 0, .int .i64 0] 76)
 simp only [World.size_alloc] at bB
 obtain ⟨W0, eW⟩ : ∃ W0, (W.alloc (.cells #[.int .i64 fn, .bool loop] 122)).alloc (.cells #[.int .i64 0, .int .i64 0] 76) = W0 := ⟨_, rfl⟩
 have hsz0 : W0.heap.size = W.heap.size + 2 := by rw [← eW]; simp
 rw [eW] at bA bB hb0 ⊢
 obtain ⟨N, eN⟩ : ∃ N, W.heap.size = N := ⟨_, rfl⟩
 rw [eN] at bA bB hsz0 ⊢
 have n0 := ((bcell hb0).1 nb no hbl).trans HC.out.1
 have n1 := ((bcell hb0).1 nb (no + 1) hbl).trans HC.out.2.1
 have n2 := ((bcell hb0).1 nb (no + 2) hbl).trans HC.out.2.2.1
 have n3 := ((bcell hb0).1 nb (no + 3) hbl).trans HC.out.2.2.2.1
 have n4 := ((bcell hb0).1 nb (no + 4) hbl).trans HC.out.2.2.2.2.1
 have hR0 := HR.out.1.below hb0
 have r0 := cell_of_row W0 R 0 _ _ _ hR0.head
 simp at r0
 have HOp := Lib.hid (callsIn_wide.1 (opened_in 3 t _ W0 S (HR.out.2.1.keep (fun _ h => h) (fun k hk => hb0.block k (HR.out.2.2 k hk))) (fun k hk => by have := HR.out.2.2 k hk; have := hb0.size; omega) hz h0 (Nat.le_refl _)))
 have H0 := Lib.hid (And.intro hb0 (And.intro bA (And.intro bB (And.intro hR0 hsz0))))
 clear hb0 bA bB hR0 hsz0 eW hz h0
 go_wp2_with fail
 go_at_call 127
 refine HOp.out.mono ?_
 rintro e w2 ⟨v9, rfl, Af, cf, m, rfl, hrow2, hpl2, hm2, hb2⟩
 have hrm := H0.out.2.2.2.2
 obtain ⟨vars, hvars⟩ : ∃ vars, (openF t.op t.s t.l 0 0).vars = vars := ⟨_, rfl⟩
 obtain ⟨par, hpar⟩ : ∃ par, (openF t.op t.s t.l 0 0).params = par := ⟨_, rfl⟩
 rw [hvars] at hrow2 hpl2 ⊢
 rw [hpar]
 have HV := Lib.hid (And.intro hvars hpar)
 have HO2 := Lib.hid (And.intro hrow2 (And.intro hpl2 (And.intro hm2 hb2)))
 clear hvars hpar hrow2 hpl2 hm2 hb2 hrm n0 n1 n2 n3 n4 r0
 go_upto_region 3 with fail
 have hbx3 := heap_alloc_new w2 (.cells #[.int .i64 0, .string (bs t.s), .int .i64 par, .slice Af vars.length cf, .int .i64 0, .map (some m)] 126)
 have hal3 := below_alloc9 w2 (.cells #[.int .i64 0, .string (bs t.s), .int .i64 par, .slice Af vars.length cf, .int .i64 0, .map (some m)] 126)
 obtain ⟨W3, e3⟩ : ∃ W3, w2.alloc (.cells #[.int .i64 0, .string (bs t.s), .int .i64 par, .slice Af vars.length cf, .int .i64 0, .map (some m)] 126) = W3 := ⟨_, rfl⟩
 obtain ⟨F, eF⟩ : ∃ F, w2.heap.size = F := ⟨_, rfl⟩
 rw [e3] at hbx3 hal3 ⊢
 rw [eF] at hbx3 ⊢
 have HAl := Lib.hid hal3
 have hb03 := HO2.out.2.2.2.trans (hal3.mono HO2.out.2.2.2.size)
 have hbW3 : Below W.heap.size W W3 := H0.out.1.trans (hb03.mono H0.out.1.size)
 have hsz2 := HO2.out.2.2.2.size
 have hsz0 := H0.out.2.2.2.2
 have hA3 := (hb03.block N (heap_lt H0.out.2.1)).trans H0.out.2.1
 have hB3 := (hb03.block (N + 1) (heap_lt H0.out.2.2.1)).trans H0.out.2.2.1
 have hR3 := HR.out.1.below hbW3
 have hnb3 := (hbW3.block nb hbl).trans HC.out.2.2.2.2.2
 have a0 := cell_of_row W3 _ 0 _ _ _ hA3
 have a1 := cell_of_row W3 _ 1 _ _ _ hA3
 have b0 := cell_of_row W3 _ 0 _ _ _ hB3
 have b1 := cell_of_row W3 _ 1 _ _ _ hB3
 have fb0 := frozen_of_row W3 _ 0 _ _ hB3
 have fb1 := frozen_of_row W3 _ 1 _ _ hB3
 have f0 := cell_of_row W3 _ 0 _ _ _ hbx3
 have f1 := cell_of_row W3 _ 1 _ _ _ hbx3
 have f2 := cell_of_row W3 _ 2 _ _ _ hbx3
 have f3 := cell_of_row W3 _ 3 _ _ _ hbx3
 have f4 := cell_of_row W3 _ 4 _ _ _ hbx3
 have f5 := cell_of_row W3 _ 5 _ _ _ hbx3
 have ff0 := frozen_of_row W3 _ 0 _ _ hbx3
 have ff4 := frozen_of_row W3 _ 4 _ _ hbx3
 have r0 := cell_of_row W3 R 0 _ _ _ hR3.head
 have r1 := cell_of_row W3 R 1 _ _ _ hR3.head
 have fr0 := frozen_of_row W3 R 0 _ _ hR3.head
 have fr1 := frozen_of_row W3 R 1 _ _ hR3.head
 have n2 := ((bcell hbW3).1 nb (no + 2) hbl).trans HC.out.2.2.1
 have n4 := ((bcell hbW3).1 nb (no + 4) hbl).trans HC.out.2.2.2.2.1
 have fn2 := frozen_of_row W3 nb (no + 2) _ _ hnb3
 simp at a0 a1 b0 b1 f0 f1 f2 f3 f4 f5 r0 r1
 have H3 := Lib.hid (And.intro hbW3 (And.intro hb03 (And.intro hA3 (And.intro hB3 (And.intro hR3 (And.intro hnb3 hbx3))))))
 have HZ := Lib.hid (And.intro eF (And.intro hsz2 hsz0))
 clear hbW3 hb03 hA3 hB3 hR3 hnb3 hbx3 hal3 e3 hsz2 hsz0
 by_cases h500 : ws.funs.length = 500
 ·have e500 : ((ws.funs.length : Int) == 500) = true := by rw [h500]; rfl
  have HE5 := Lib.hid h500
  clear h500
  go_wp2
  have hfin := fault_fin (v0 := .int .i64 t.line) (v1 := .int .i64 52) (b := N + 1) (by omega) H3.out.1 H3.out.2.2.2.1
  refine bodyPost_ret (results_fault _ _ _ rfl rfl hfin.1) rfl ?_
  unfold EnterQ
  rw [if_pos (.inl HE5.out)]
  exact ⟨rfl, hfin.2⟩
 have e500 : ((ws.funs.length : Int) == 500) = false := by rw [beq_eq_false_iff_ne]; omega
 by_cases h200 : 200 < vars.length
 ·have h200' : (200 : Int) < vars.length := by omega
  go_wp2
  have hfin := fault_fin (v0 := .int .i64 t.line) (v1 := .int .i64 52) (b := N + 1) (by omega) H3.out.1 H3.out.2.2.2.1
  refine bodyPost_ret (results_fault _ _ _ rfl rfl hfin.1) rfl ?_
  unfold EnterQ
  rw [if_pos (.inr (by rw [show (openF t.op t.s t.l fn ws.mark).vars = vars from HV.out.1]; exact h200))]
  exact ⟨rfl, hfin.2⟩
 have h200' : ¬ (200 : Int) < vars.length := by omega
 go_wp2_with fail
 go_region
 by_cases hz0 : ws.funs.length = 0
 ·have hmk9 : (if ws.funs.length = 0 then 4 else ws.mark + 2) = (4 : Int) := if_pos hz0
  have ez : ((ws.funs.length : Int) == 0) = true := by rw [hz0]; rfl
  clear hz0
  go_upto_region 9 with fail
  have hFR : F ≠ R := by have := HZ.out; have := H3.out.2.2.2.2.1.lt; omega
  have hs9 := spec9 (a := .int .i64 fn) (b := .int .i64 ws.mark) (c := .int .i64 (ws.mark + 2)) H3.out.2.2.2.2.2.2 H3.out.2.2.2.2.1.head hFR
  have hs9z := spec9z (d := .int .i64 4) hs9.2.1 hs9.2.2 hFR
  have hO9 := (hs9.1.trans' hs9z.1).drew
  have hF9 := hs9z.2.1
  have hR9 := hs9z.2.2
  obtain ⟨W9, e9⟩ : ∃ W9, ((((W3.setCell ⟨F, 0, none⟩ (.int .i64 fn)).setCell ⟨F, 4, none⟩ (.int .i64 ws.mark)).setCell ⟨R, 1, none⟩ (.int .i64 (ws.mark + 2))).setCell ⟨R, 1, none⟩ (.int .i64 4)).drew = W9 := ⟨_, rfl⟩
  rw [e9] at hO9 ⊢
  replace hF9 : W9.heap[F]? = some (.cells #[.int .i64 fn, .string (bs t.s), .int .i64 par, .slice Af vars.length cf, .int .i64 ws.mark, .map (some m)] 126 (0, 0)) := by rw [← e9]; exact hF9
  replace hR9 : W9.heap[R]? = some (.cells #[.slice Av L.length cv, .int .i64 4] 74 (0, 0)) := by rw [← e9]; exact hR9
  clear e9 hs9 hs9z
  have hON : Only (fun k => k = R) W W9 := (Only.of_below (F := fun k => k = R) H3.out.1).trans (hO9.mono fun i hi e => by
   rcases e with e | e
   ·exact .inr ⟨by have := HZ.out; omega, by omega⟩
   ·exact .inl e)
  have hRlt := heap_lt HR.out.1.head
  have hF2 : FnAt w2 W.heap.size (openF t.op t.s t.l fn ws.mark, .slice Af vars.length cf, m) := ⟨by rw [show (openF t.op t.s t.l fn ws.mark).vars = vars from HV.out.1]; exact ownsRow_base HO2.out.1 (by have := HZ.out; omega), by rw [show (openF t.op t.s t.l fn ws.mark).vars = vars from HV.out.1]; exact HO2.out.2.1, by have := HO2.out.2.2.1; have := HZ.out; show W.heap.size ≤ m; omega, by rw [show (openF t.op t.s t.l fn ws.mark).vars = vars from HV.out.1]; exact ⟨by omega, HFi.out.1⟩⟩
  have hF99 : FnAt W9 W.heap.size (openF t.op t.s t.l fn ws.mark, .slice Af vars.length cf, m) := hF2.keep fun k hk => by
   have h1 := (hF2.lt hk)
   have h2 := HZ.out
   exact (hO9.block k (by have := HAl.out.size; omega) (by omega)).trans (HAl.out.block k h1.2)
  have hN9 := (hO9.block (N + 1) (heap_lt H3.out.2.2.2.1) (by have := HZ.out; omega)).trans H3.out.2.2.2.1
  obtain ⟨w', A9, c9, hrun, ⟨hR', hnb', hN'⟩, hfin⟩ := enter_fin (no := no) HR.out.1 hB (by omega) hON hR9 hF99 HC.out.2.2.2.2.2 hnR hnB (by omega) hN9
  have hcells : (fCells (openF t.op t.s t.l fn ws.mark, .slice Af vars.length cf, m)).toArray = #[.int .i64 fn, .string (bs t.s), .int .i64 par, .slice Af vars.length cf, .int .i64 ws.mark, .map (some m)] := by rw [← HV.out.2]; rfl
  rw [hcells, hlen] at hrun
  have hRl9 := heap_lt hR9
  have hFl9 := heap_lt hF9
  have g0 := cell_of_row W9 F 0 _ _ _ hF9
  have g1 := cell_of_row W9 F 1 _ _ _ hF9
  have g2 := cell_of_row W9 F 2 _ _ _ hF9
  have g3 := cell_of_row W9 F 3 _ _ _ hF9
  have g4 := cell_of_row W9 F 4 _ _ _ hF9
  have g5 := cell_of_row W9 F 5 _ _ _ hF9
  have q0 := cell_of_row W9 R 0 _ _ _ hR9
  have p0 := cell_of_row w' R 0 _ _ _ hR'
  have fp0 := frozen_of_row w' R 0 _ _ hR'
  have p1 := cell_of_row w' (N + 1) 0 _ _ _ hN'
  have p2 := cell_of_row w' (N + 1) 1 _ _ _ hN'
  have fp1 := frozen_of_row w' (N + 1) 0 _ _ hN'
  have fp2 := frozen_of_row w' (N + 1) 1 _ _ hN'
  have p3 : w'.cell? ⟨nb, no + 2, none⟩ = some (.int .i64 t.n) := (cell_block (hnb'.trans HC.out.2.2.2.2.2.symm) ⟨nb, no + 2, none⟩ rfl).trans HC.out.2.2.1
  have fp3 := frozen_of_row w' nb (no + 2) _ _ hnb'
  simp at g0 g1 g2 g3 g4 g5 q0 p0 p1 p2
  have HRun := Lib.hid hrun
  have HFn := Lib.hid (And.intro hfin hmk9)
  clear hrun hfin hcells hN9 hF99 hF2 hON hO9 hF9 hR9 hR' hnb' hN' hmk9 a0 a1 b0 b1 fb0 fb1 f0 f1 f2 f3 f4 f5 ff0 ff4 r0 r1 fr0 fr1 n2 n4 fn2
  go_region_law (refine step_app rfl (.tmp 58) (.tmp 60) 72 rfl (.slice Av ws.funs.length cv) (.slice (some ⟨W9.heap.size, 0, none⟩) 1 1) rfl rfl (fun v w => v = .slice A9 (ws.funs.length + 1) c9 ∧ w = w') ⟨_, _, HRun.out, rfl, rfl⟩ ?_; rintro v5 w5 ⟨rfl, rfl⟩)
  all_goals
   go_wp2
   have hx := HFn.out.1 _ rfl
   refine bodyPost_ret (results_fault _ _ _ rfl rfl hx.1) rfl ?_
   unfold EnterQ
   rw [if_neg (by rw [show (openF t.op t.s t.l fn ws.mark).vars = vars from HV.out.1]; omega), HFn.out.2]
   exact ⟨rfl, hx.2⟩
 ·have hmk9 : (if ws.funs.length = 0 then 4 else ws.mark + 2) = (ws.mark + 2 : Int) := if_neg hz0
  have ez : ((ws.funs.length : Int) == 0) = false := by rw [beq_eq_false_iff_ne]; omega
  clear hz0
  go_upto_region 9 with fail
  have hFR : F ≠ R := by have := HZ.out; have := H3.out.2.2.2.2.1.lt; omega
  have hs9 := spec9 (a := .int .i64 fn) (b := .int .i64 ws.mark) (c := .int .i64 (ws.mark + 2)) H3.out.2.2.2.2.2.2 H3.out.2.2.2.2.1.head hFR
  have hO9 := hs9.1.drew
  have hF9 := hs9.2.1
  have hR9 := hs9.2.2
  obtain ⟨W9, e9⟩ : ∃ W9, (((W3.setCell ⟨F, 0, none⟩ (.int .i64 fn)).setCell ⟨F, 4, none⟩ (.int .i64 ws.mark)).setCell ⟨R, 1, none⟩ (.int .i64 (ws.mark + 2))).drew = W9 := ⟨_, rfl⟩
  rw [e9] at hO9 ⊢
  replace hF9 : W9.heap[F]? = some (.cells #[.int .i64 fn, .string (bs t.s), .int .i64 par, .slice Af vars.length cf, .int .i64 ws.mark, .map (some m)] 126 (0, 0)) := by rw [← e9]; exact hF9
  replace hR9 : W9.heap[R]? = some (.cells #[.slice Av L.length cv, .int .i64 (ws.mark + 2)] 74 (0, 0)) := by rw [← e9]; exact hR9
  clear e9 hs9
  have hON : Only (fun k => k = R) W W9 := (Only.of_below (F := fun k => k = R) H3.out.1).trans (hO9.mono fun i hi e => by
   rcases e with e | e
   ·exact .inr ⟨by have := HZ.out; omega, by omega⟩
   ·exact .inl e)
  have hRlt := heap_lt HR.out.1.head
  have hF2 : FnAt w2 W.heap.size (openF t.op t.s t.l fn ws.mark, .slice Af vars.length cf, m) := ⟨by rw [show (openF t.op t.s t.l fn ws.mark).vars = vars from HV.out.1]; exact ownsRow_base HO2.out.1 (by have := HZ.out; omega), by rw [show (openF t.op t.s t.l fn ws.mark).vars = vars from HV.out.1]; exact HO2.out.2.1, by have := HO2.out.2.2.1; have := HZ.out; show W.heap.size ≤ m; omega, by rw [show (openF t.op t.s t.l fn ws.mark).vars = vars from HV.out.1]; exact ⟨by omega, HFi.out.1⟩⟩
  have hF99 : FnAt W9 W.heap.size (openF t.op t.s t.l fn ws.mark, .slice Af vars.length cf, m) := hF2.keep fun k hk => by
   have h1 := (hF2.lt hk)
   have h2 := HZ.out
   exact (hO9.block k (by have := HAl.out.size; omega) (by omega)).trans (HAl.out.block k h1.2)
  have hN9 := (hO9.block (N + 1) (heap_lt H3.out.2.2.2.1) (by have := HZ.out; omega)).trans H3.out.2.2.2.1
  obtain ⟨w', A9, c9, hrun, ⟨hR', hnb', hN'⟩, hfin⟩ := enter_fin (no := no) HR.out.1 hB (by omega) hON hR9 hF99 HC.out.2.2.2.2.2 hnR hnB (by omega) hN9
  have hcells : (fCells (openF t.op t.s t.l fn ws.mark, .slice Af vars.length cf, m)).toArray = #[.int .i64 fn, .string (bs t.s), .int .i64 par, .slice Af vars.length cf, .int .i64 ws.mark, .map (some m)] := by rw [← HV.out.2]; rfl
  rw [hcells, hlen] at hrun
  have hRl9 := heap_lt hR9
  have hFl9 := heap_lt hF9
  have g0 := cell_of_row W9 F 0 _ _ _ hF9
  have g1 := cell_of_row W9 F 1 _ _ _ hF9
  have g2 := cell_of_row W9 F 2 _ _ _ hF9
  have g3 := cell_of_row W9 F 3 _ _ _ hF9
  have g4 := cell_of_row W9 F 4 _ _ _ hF9
  have g5 := cell_of_row W9 F 5 _ _ _ hF9
  have q0 := cell_of_row W9 R 0 _ _ _ hR9
  have p0 := cell_of_row w' R 0 _ _ _ hR'
  have fp0 := frozen_of_row w' R 0 _ _ hR'
  have p1 := cell_of_row w' (N + 1) 0 _ _ _ hN'
  have p2 := cell_of_row w' (N + 1) 1 _ _ _ hN'
  have fp1 := frozen_of_row w' (N + 1) 0 _ _ hN'
  have fp2 := frozen_of_row w' (N + 1) 1 _ _ hN'
  have p3 : w'.cell? ⟨nb, no + 2, none⟩ = some (.int .i64 t.n) := (cell_block (hnb'.trans HC.out.2.2.2.2.2.symm) ⟨nb, no + 2, none⟩ rfl).trans HC.out.2.2.1
  have fp3 := frozen_of_row w' nb (no + 2) _ _ hnb'
  simp at g0 g1 g2 g3 g4 g5 q0 p0 p1 p2
  have HRun := Lib.hid hrun
  have HFn := Lib.hid (And.intro hfin hmk9)
  clear hrun hfin hcells hN9 hF99 hF2 hON hO9 hF9 hR9 hR' hnb' hN' hmk9 a0 a1 b0 b1 fb0 fb1 f0 f1 f2 f3 f4 f5 ff0 ff4 r0 r1 fr0 fr1 n2 n4 fn2
  go_region_law (refine step_app rfl (.tmp 58) (.tmp 60) 72 rfl (.slice Av ws.funs.length cv) (.slice (some ⟨W9.heap.size, 0, none⟩) 1 1) rfl rfl (fun v w => v = .slice A9 (ws.funs.length + 1) c9 ∧ w = w') ⟨_, _, HRun.out, rfl, rfl⟩ ?_; rintro v5 w5 ⟨rfl, rfl⟩)
  all_goals
   go_wp2
   have hx := HFn.out.1 _ rfl
   refine bodyPost_ret (results_fault _ _ _ rfl rfl hx.1) rfl ?_
   unfold EnterQ
   rw [if_neg (by rw [show (openF t.op t.s t.l fn ws.mark).vars = vars from HV.out.1]; omega), HFn.out.2]
   exact ⟨rfl, hx.2⟩
end
end Go.Proofs.YtikbfoichhkeaaaGreat
