/- A tree amid its walk: the document's tree. -/
import Derived.Test.YtbpodijcndglgaaPr45
set_option linter.unusedSimpArgs false
set_option linter.unusedVariables false
set_option maxRecDepth 100000
set_option maxHeartbeats 4000000
namespace Go.Proofs.Ytbpodijcndglgaa
section
open Go.RowKit Go.Proofs
theorem resT_fun_loop (t : Tr) (hf : isFun t.op = true) (a : Int) (loop : Bool) (ws : WS) : resT t a loop ws = resT t a false ws := by
 cases t with | mk op s n line l =>
 have hf : isFun op = true := hf
 rw [resT, if_pos hf, resT, if_pos hf]
theorem walker_apart9 {W : World} {R : Nat} {u0 u1 u2 u3 : Value} (h : W.heap[R]? = some (.cells #[u0, u1, u2, u3] 54 (0, 0))) (k : Nat) (hk : k = R) (cs : Array Value) : W.heap[k]? ≠ some (.cells cs 41 (0, 0)) ∧ W.heap[k]? ≠ some (.cells cs 9 (0, 0)) := by
 subst hk
 rw [h]
 exact ⟨fun e => by injection e with e; injection e with e1 e2; exact absurd e2 (by decide), fun e => by injection e with e; injection e with e1 e2; exact absurd e2 (by decide)⟩
def FunOk (t : Tr) : Prop := ∀ (W : World) (R B : Nat) (S : Nat → Prop) (ws : WS) (fv v : Value) (a : Int), WkAt W R B ws 0 0 fv → TreeAt W S t v → (∀ k, S k → k < B) → B ≤ R → Inv ws → 0 < ws.funs.length → ws.funs.length ≤ 500 → 0 ≤ a → a < ws.funs.length →
 ws.mark + 2 * t.size ≤ 1000000 → good t → t.size ≤ 40000 → Calls Try.prog 32 #[.pointer (some ⟨R, 0, none⟩), v, .int .i64 a] W (TreeR W R B S fv (resT t a false ws))
structure TSt (W wc : World) (R B N M : Nat) (t : Tr) (A : Option Addr) (c : Nat) (nn : Int) (ov : Value) (fv : Value) (ws : WS) (er l : Int) (fv' : Value) : Prop where
 node : wc.heap[N]? = some (.cells #[.int .i64 t.op, .string (bs t.s), .int .i64 t.n, .slice A t.l.length c, .int .i64 t.line] 24 (0, 0))
 res : wc.heap[N + 1]? = some (.cells #[.int .i64 0, .string ⟨#[]⟩, .int .i64 0, .slice none 0 0, .int .i64 0] 24 (0, 0))
 box : wc.heap[M]? = some (.cells #[.int .i64 t.op, .string (bs t.s), .int .i64 nn, ov, .int .i64 t.line] 24 (0, 0))
 wk : WkAt wc R B ws er l fv'
 on : Only (fun k => k = R ∨ fv.ownBlock = some k) W wc
 new : ∀ k, fv'.ownBlock = some k → fv.ownBlock = some k ∨ N ≤ k
section
variable {W wc w' : World} {R B N M : Nat} {t : Tr} {A : Option Addr} {c : Nat} {nn : Int} {ov fv fv' : Value} {ws : WS} {er l : Int}
theorem node_apart {w : World} {k : Nat} (h : ∃ cs, w.heap[k]? = some (.cells cs 24 (0, 0))) (cs : Array Value) : w.heap[k]? ≠ some (.cells cs 41 (0, 0)) ∧ w.heap[k]? ≠ some (.cells cs 9 (0, 0)) := by
 obtain ⟨cs', h⟩ := h
 rw [h]
 exact ⟨fun e => by injection e with e; injection e with e1 e2; exact absurd e2 (by decide), fun e => by injection e with e; injection e with e1 e2; exact absurd e2 (by decide)⟩
theorem TSt.setN (h : TSt W wc R B N M t A c nn ov fv ws er l fv') (hM : N + 2 ≤ M) (hN : W.heap.size = N) (hRM : R < N) (v : Int) : TSt W (wc.setCell ⟨M, 2, none⟩ (.int .i64 v)) R B N M t A c v ov fv ws er l fv' := by
 have ho := Only.setCell (F := fun k => k = M) wc (b := M) rfl 2 (.int .i64 v)
 exact ⟨(ho.block N (heap_lt h.node) (by omega)).trans h.node, (ho.block (N + 1) (heap_lt h.res) (by omega)).trans h.res, by simpa using blk_set h.box 2 (.int .i64 v), ⟨(ho.block R h.wk.lt (by omega)).trans h.wk.head, h.wk.funs.only ho (fun k hk cs => node_apart ⟨_, hk ▸ h.box⟩ cs)⟩,
  ⟨ho.os.trans h.on.os, ho.tape.trans h.on.tape, ho.output.trans h.on.output, Nat.le_trans h.on.size ho.size, fun k hk hn => (ho.block k (by have := h.on.size; omega) (by omega)).trans (h.on.block k hk hn)⟩, h.new⟩
theorem TSt.turn {ws2 : WS} {er2 l2 : Int} (h : TSt W wc R B N M t A c nn ov fv ws er l fv') (hM : N + 2 ≤ M) (hRM : R < N) (hw : WkAt w' R B ws2 er2 l2 fv') (ho : Only (fun k => k = R) wc w') : TSt W w' R B N M t A c nn ov fv ws2 er2 l2 fv' :=
 ⟨(ho.block N (heap_lt h.node) (by omega)).trans h.node, (ho.block (N + 1) (heap_lt h.res) (by omega)).trans h.res, (ho.block M (heap_lt h.box) (by omega)).trans h.box, hw, h.on.trans' (ho.mono (fun i _ e => .inl e)), h.new⟩
theorem TSt.mark (h : TSt W wc R B N M t A c nn ov fv ws er l fv') (hM : N + 2 ≤ M) (hRM : R < N) (m : Int) : TSt W (wc.setCell ⟨R, 1, none⟩ (.int .i64 m)) R B N M t A c nn ov fv ⟨ws.funs, m⟩ er l fv' :=
 h.turn hM hRM ⟨by simpa using blk_set h.wk.head 1 (.int .i64 m), h.wk.funs.only (Only.setCell (F := fun k => k = R) wc (b := R) rfl 1 _) (walker_apart9 h.wk.head)⟩ (Only.setCell (F := fun k => k = R) wc (b := R) rfl 1 _)
end
section
variable {t : Tr} {a : Int} {loop : Bool} {ws : WS}
theorem res_name (hf : isFun t.op = false) (ho : t.op = 1 ∨ t.op = 30 ∨ t.op = 35 ∨ t.op = 38) : resT t a loop ws = match findN ws.funs ws.funs.length a t.s with
  | none => .error (t.line, 50)
  | some v => nodeE t.op t.s v t.line (resL t.l a (loop || t.op == 35) ws) := by
 cases t with | mk op s n line l =>
 have hf : isFun op = false := hf
 have ho : op = 1 ∨ op = 30 ∨ op = 35 ∨ op = 38 := ho
 rw [resT, hf]
 simp only [Bool.false_eq_true, if_false]
 rw [if_neg (show ¬ (op = 11 ∨ op = 15 ∨ op = 16) by omega), if_pos ho]
 rfl
theorem res_mark (hf : isFun t.op = false) (ho : t.op = 11 ∨ t.op = 15 ∨ t.op = 16) : resT t a loop ws = nodeE t.op t.s ws.mark t.line (resL t.l a loop ⟨ws.funs, ws.mark + 1⟩) := by
 cases t with | mk op s n line l =>
 have hf : isFun op = false := hf
 have ho : op = 11 ∨ op = 15 ∨ op = 16 := ho
 rw [resT, hf]
 simp only [Bool.false_eq_true, if_false]
 rw [if_pos ho]
 rfl
theorem res_jump (hf : isFun t.op = false) (ho : (t.op = 36 ∧ a = 0) ∨ ((t.op = 39 ∨ t.op = 40) ∧ loop = false)) : resT t a loop ws = .error (t.line, 51) := by
 cases t with | mk op s n line l =>
 have hf : isFun op = false := hf
 have ho : (op = 36 ∧ a = 0) ∨ ((op = 39 ∨ op = 40) ∧ loop = false) := ho
 rw [resT, hf]
 simp only [Bool.false_eq_true, if_false]
 rw [if_neg (by omega), if_neg (by omega), if_pos ho]
 rfl
theorem res_else (hf : isFun t.op = false) (h1 : ¬ (t.op = 1 ∨ t.op = 30 ∨ t.op = 35 ∨ t.op = 38)) (h2 : ¬ (t.op = 11 ∨ t.op = 15 ∨ t.op = 16)) (ho : ¬ ((t.op = 36 ∧ a = 0) ∨ ((t.op = 39 ∨ t.op = 40) ∧ loop = false))) : resT t a loop ws = nodeE t.op t.s t.n t.line (resL t.l a (loop || t.op == 34) ws) := by
 cases t with | mk op s n line l =>
 have hf : isFun op = false := hf
 have h1 : ¬ (op = 1 ∨ op = 30 ∨ op = 35 ∨ op = 38) := h1
 have h2 : ¬ (op = 11 ∨ op = 15 ∨ op = 16) := h2
 have ho : ¬ ((op = 36 ∧ a = 0) ∨ ((op = 39 ∨ op = 40) ∧ loop = false)) := ho
 rw [resT, hf]
 simp only [Bool.false_eq_true, if_false]
 rw [if_neg h2, if_neg h1, if_neg ho]
 rfl
end
def lpf (t : Tr) (loop : Bool) : Bool := (loop || t.op == 34) || t.op == 35
def Fork (t : Tr) (a : Int) (loop : Bool) (ws : WS) (nn : Int) (ws1 : WS) (k : Nat) (ts : List Tr) (ws' : WS) (er l : Int) : Prop :=
 (er = 0 ∧ l = 0 ∧ resT t a loop ws = nodeE t.op t.s nn t.line (resL t.l a (lpf t loop) ws1) ∧ resL (t.l.take k) a (lpf t loop) ws1 = .ok (ts, ws') ∧ ws1.funs = ws.funs ∧ ws.mark ≤ ws1.mark ∧ ws1.mark ≤ ws.mark + 1 ∧ -9223372036854775808 ≤ nn ∧ nn ≤ 9223372036854775807) ∨ (er ≠ 0 ∧ resT t a loop ws = .error (l, er) ∧ -9223372036854775808 ≤ nn ∧ nn ≤ 9223372036854775807)
theorem Fork.bad {t : Tr} {a : Int} {loop : Bool} {ws : WS} {nn : Int} {ws1 : WS} {er : Int} (h : resT t a loop ws = .error (t.line, er)) (he : er ≠ 0) (h1 : -9223372036854775808 ≤ nn) (h2 : nn ≤ 9223372036854775807) : Fork t a loop ws nn ws1 0 [] ws1 er t.line := .inr ⟨he, h, h1, h2⟩
theorem Fork.start {t : Tr} {a : Int} {loop : Bool} {ws : WS} {nn : Int} {ws1 : WS} (h : resT t a loop ws = nodeE t.op t.s nn t.line (resL t.l a (lpf t loop) ws1)) (hf : ws1.funs = ws.funs) (hm : ws.mark ≤ ws1.mark) (hm2 : ws1.mark ≤ ws.mark + 1) (h1 : -9223372036854775808 ≤ nn) (h2 : nn ≤ 9223372036854775807) : Fork t a loop ws nn ws1 0 [] ws1 0 0 := .inl ⟨rfl, rfl, h, by rw [List.take_zero]; rfl, hf, hm, hm2, h1, h2⟩
theorem Fork.step {t : Tr} {a : Int} {loop : Bool} {ws ws1 ws' ws6 : WS} {nn er l er6 l6 : Int} {k : Nat} {ts : List Tr} {q tb : Tr} {r5 : Except (Int × Int) (Tr × WS)} (h : Fork t a loop ws nn ws1 k ts ws' er l) (hq : t.l[k]? = some q)
  (hr : r5 = if er = 0 then resT q a (lpf t loop) ws' else .error (l, er)) (ho : Out5 r5 tb ws6 er6 l6) : Fork t a loop ws nn ws1 (k + 1) (ts ++ [tb]) ws6 er6 l6 := by
 rcases h with ⟨rfl, rfl, h1, h2, h3⟩ | ⟨hne, h1, h3⟩
 ·rw [if_pos rfl] at hr
  have ht : t.l.take (k + 1) = t.l.take k ++ [q] := by rw [List.take_add_one, hq]; rfl
  have hs := resL_snoc9 q a (lpf t loop) (t.l.take k) ws1
  rw [h2] at hs
  simp only at hs
  rw [← hr, ← ht] at hs
  clear hr
  cases r5 with
  | error x =>
   obtain ⟨l9, e9⟩ := x
   obtain ⟨hx, rfl, rfl⟩ := ho
   refine .inr ⟨hx, ?_, h3.2.2.2⟩
   rw [h1]
   have := resL_err_app9 (t.l.take (k + 1)) (t.l.drop (k + 1)) a (lpf t loop) ws1 _ hs
   rw [List.take_append_drop] at this
   rw [this]
   rfl
  | ok x =>
   obtain ⟨t9, w9⟩ := x
   obtain ⟨rfl, rfl, rfl, rfl⟩ := ho
   exact .inl ⟨rfl, rfl, h1, hs, h3⟩
 ·rw [if_neg hne] at hr
  subst hr
  obtain ⟨hx, rfl, rfl⟩ := ho
  exact .inr ⟨hx, h1, h3⟩
theorem Fork.next {t : Tr} {a : Int} {loop : Bool} {ws ws1 ws' : WS} {nn l : Int} {k : Nat} {ts : List Tr} {q : Tr} (h : Fork t a loop ws nn ws1 k ts ws' 0 l) (hq : t.l[k]? = some q) (hI : Inv ws) (h0 : 0 < ws.funs.length) (h5 : ws.funs.length ≤ 500) (ha0 : 0 ≤ a) (ha : a < ws.funs.length) (hf : isFun t.op = false) (hkn : Knows ws.funs a t)
  (hm : ws.mark + 2 * t.size ≤ 1000000) : l = 0 ∧ Inv ws' ∧ 0 < ws'.funs.length ∧ ws'.funs.length ≤ 500 ∧ a < ws'.funs.length ∧ Knows ws'.funs a q ∧ ws'.mark + 2 * q.size ≤ 1000000 := by
 rcases h with ⟨-, rfl, h1, h2, h3, h4, h6, -⟩ | ⟨hne, -⟩
 ·obtain ⟨fs, m⟩ := ws1
  have h3 : fs = ws.funs := h3
  subst h3
  have hI1 := hI.bump m h4
  have hI2 := resL_inv _ _ _ _ _ _ h2 ha0 ha hI1
  have hb := resL_bnd _ _ _ _ _ _ h2 h0 h5
  obtain ⟨more, hmo⟩ := (resL_ok _ _ _ _ _ _ h2 h0).1
  have hs := sizes_take _ _ _ hq
  have hz := size_eq t
  have hb2 := hb.2
  simp only at hmo hb2 h6
  have hL : ws.funs.length ≤ ws'.funs.length := by rw [hmo, List.length_append]; omega
  exact ⟨rfl, hI2, by omega, hb.1, by omega, by rw [hmo]; exact (hkn.part hf (List.mem_of_getElem? hq)).more, by omega⟩
 ·exact absurd rfl hne
theorem Fork.done {t : Tr} {a : Int} {loop : Bool} {ws ws1 ws' : WS} {nn er l : Int} {ts : List Tr} (h : Fork t a loop ws nn ws1 t.l.length ts ws' er l) : Out5 (resT t a loop ws) (.mk t.op t.s nn t.line ts) ws' er l := by
 rcases h with ⟨rfl, rfl, h1, h2, h3⟩ | ⟨hne, h1, -⟩
 ·rw [List.take_length] at h2
  rw [h1, h2]
  exact ⟨rfl, rfl, rfl, rfl⟩
 ·rw [h1]
  exact ⟨hne, rfl, rfl⟩
structure TWalk (W wc : World) (R B N M : Nat) (S : Nat → Prop) (t : Tr) (A : Option Addr) (c : Nat) (nn : Int) (fv : Value) (k : Nat) (Ao : Option Addr) (co : Nat) (ts : List Tr) (ws : WS) (er l : Int) (fv' : Value) : Prop where
 st : TSt W wc R B N M t A c nn (.slice Ao k co) fv ws er l fv'
 acc : AccP (fun j => ((S j ∨ N + 2 ≤ j) ∧ j ≠ M) ∧ fv'.ownBlock ≠ some j) (M + 1) wc ts (.slice Ao k co)
 len : ts.length = k
theorem fv_node {w : World} {R B : Nat} {ws : WS} {er l : Int} {fv : Value} (h : WkAt w R B ws er l fv) {k : Nat} (hk : ∃ cs, w.heap[k]? = some (.cells cs 24 (0, 0))) : fv.ownBlock ≠ some k := fun e => by
 obtain ⟨-, -, cs, hc⟩ := h.funs.typed e
 obtain ⟨cs', hc'⟩ := hk
 rw [hc'] at hc
 injection hc with e
 injection e with e1 e2
 exact absurd e2 (by decide)
theorem TWalk.step {W Wr w6 : World} {R B N M : Nat} {S : Nat → Prop} {t : Tr} {A : Option Addr} {c : Nat} {nn : Int} {fv : Value} {k : Nat} {Ao : Option Addr} {co : Nat} {ts : List Tr} {ws : WS} {er l : Int} {fv' : Value} (h : TWalk W Wr R B N M S t A c nn fv k Ao co ts ws er l fv')
  (hS : ∀ k, S k → k < B) (hBR : B ≤ R) (hR : R < N) (hM : N + 2 ≤ M) (hN : W.heap.size = N) (hk : k ≤ 1000000) {r5 : Except (Int × Int) (Tr × WS)} {e : Ending} (hT : TreeR Wr.drew R B S fv' r5 e w6) :
  ∃ (tb : Tr) (A9 : Option Addr) (c9 : Nat) (ws6 : WS) (er6 l6 : Int) (fv6 : Value) (A8 : Option Addr) (c8 : Nat) (w8 : World), e = .returned (.agg #[.int .i64 tb.op, .string (bs tb.s), .int .i64 tb.n, .slice A9 tb.l.length c9, .int .i64 tb.line]) ∧
   w6.cell? ⟨M, 3, none⟩ = some (.slice Ao k co) ∧ (w6.alloc (.cells #[.int .i64 tb.op, .string (bs tb.s), .int .i64 tb.n, .slice A9 tb.l.length c9, .int .i64 tb.line] 24)).cell? ⟨M, 3, none⟩ = some (.slice Ao k co) ∧
   (Builtin.append_ #[22, 22] 22 #[.slice Ao k co, .slice (some ⟨w6.heap.size, 0, none⟩) 1 1]).run Try.prog (w6.alloc (.cells #[.int .i64 tb.op, .string (bs tb.s), .int .i64 tb.n, .slice A9 tb.l.length c9, .int .i64 tb.line] 24)) = .ok (.slice A8 (k + 1) c8) w8 ∧ w8.cell? ⟨M, 3, none⟩ = some (.slice Ao k co) ∧ w8.frozen? ⟨M, 3, none⟩ = false ∧
   RowKit.Hid (TWalk W (w8.setCell ⟨M, 3, none⟩ (.slice A8 (k + 1) c8)) R B N M S t A c nn fv (k + 1) A8 c8 (ts ++ [tb]) ws6 er6 l6 fv6 ∧ Out5 r5 tb ws6 er6 l6) := by
 obtain ⟨v6, tb, ws6, er6, l6, fv6, rfl, hTb, hW6, hnew6, hon6, hout6⟩ := hT
 obtain ⟨A9, c9, rfl, -, -⟩ := hTb.form
 have hMl : M < Wr.heap.size := heap_lt h.st.box
 have hdd : Wr.drew.heap.size = Wr.heap.size := rfl
 have hon6 : Only (fun k => k = R ∨ fv'.ownBlock = some k) Wr w6 := ⟨hon6.os, hon6.tape, hon6.output, hon6.size, hon6.block⟩
 have hz6 : Wr.heap.size ≤ w6.heap.size := hon6.size
 have hkp : ∀ j, R ≠ j → (∃ cs, Wr.heap[j]? = some (.cells cs 24 (0, 0))) → ¬ (j = R ∨ fv'.ownBlock = some j) := fun j hj hc e => e.elim (fun e => hj e.symm) (fv_node h.st.wk hc)
 have hM6 := (hon6.block M hMl (hkp M (by omega) ⟨_, h.st.box⟩)).trans h.st.box
 have hN6 := (hon6.block N (heap_lt h.st.node) (hkp N (by omega) ⟨_, h.st.node⟩)).trans h.st.node
 have hX6 := (hon6.block (N + 1) (heap_lt h.st.res) (hkp (N + 1) (by omega) ⟨_, h.st.res⟩)).trans h.st.res
 have hac6 := h.acc.turn (P' := fun j => ((S j ∨ N + 2 ≤ j) ∧ j ≠ M) ∧ fv6.ownBlock ≠ some j) hon6 (fun j hj hp e => by
  rcases hp with hp | hp
  ·rcases e with e | e
   ·rcases hp.1.1 with h1 | h1
    ·have := hS j h1; omega
    ·omega
   ·exact hp.2 e
  ·exact hkp j (by have := (h.acc.blk hp).1; omega) (h.acc.typed hp) e) (fun j hj hp hne => ⟨hp.1, fun e => by
   rcases hnew6 j e with e | e
   ·exact hp.2 e
   ·omega⟩)
 have hpu := hac6.push1 (hTb.keep (S' := fun j => ((((S j ∨ N + 2 ≤ j) ∧ j ≠ M) ∧ fv6.ownBlock ≠ some j) ∧ j < w6.heap.size) ∧ (Value.slice Ao k co).ownBlock ≠ some j) (fun j hj => by
  rcases hj with ⟨h1 | h1, h2⟩
  ·have := hS j h1
   exact ⟨⟨⟨⟨.inl h1, by omega⟩, h2⟩, by omega⟩, fun e => by have := (h.acc.blk e).1; omega⟩
  ·have := h1.1
   have := h1.2
   exact ⟨⟨⟨⟨.inr (by omega), by omega⟩, h2⟩, by omega⟩, fun e => by have := (h.acc.blk e).2; omega⟩) (fun _ _ => rfl)) (by rw [h.len]; omega) (by omega) ⟨⟨.inr (by omega), by omega⟩, fun e => by have := (hW6.apart e).2.1; omega⟩ 22 #[.int .i64 tb.op, .string (bs tb.s), .int .i64 tb.n, .slice A9 tb.l.length c9, .int .i64 tb.line] rfl
 rw [h.len] at hpu
 obtain ⟨v8, w8, hrun8, hacc8, hon8, ⟨A8, c8, rfl⟩, hnw8⟩ := hpu
 have hne8 : ∀ j, j < M + 1 → ¬ (Value.slice Ao k co).ownBlock = some j := fun j hj e => by have := (h.acc.blk e).1; omega
 have hM8 := (hon8.block M (by omega) (hne8 M (by omega))).trans hM6
 have hoM := Only.setCell (F := fun j => j = M) w8 (b := M) rfl 3 (.slice A8 (k + 1) c8)
 have h68 : Only (fun j => (Value.slice Ao k co).ownBlock = some j ∨ j = M) w6 (w8.setCell ⟨M, 3, none⟩ (.slice A8 (k + 1) c8)) := (hon8.mono (fun i _ h => .inl h)).trans' (hoM.mono (fun i _ h => .inr h))
 have hlo : ∀ j, j < M → ¬ ((Value.slice Ao k co).ownBlock = some j ∨ j = M) := fun j hj e => e.elim (hne8 j (by omega)) (fun e => by omega)
 have hWf : WkAt (w8.setCell ⟨M, 3, none⟩ (.slice A8 (k + 1) c8)) R B ws6 er6 l6 fv6 := ⟨(h68.block R hW6.lt (hlo R (by omega))).trans hW6.head, hW6.funs.only h68 (fun j hj cs => node_apart (hj.elim (fun hj => hac6.typed hj) (fun hj => hj ▸ ⟨_, hM6⟩)) cs)⟩
 refine ⟨tb, A9, c9, ws6, er6, l6, fv6, A8, c8, w8, rfl, (box_facts hM6).1.2.2.2.1, ((below_alloc9 w6 _).cell (p := ⟨M, 3, none⟩) (by show M < w6.heap.size; omega)).trans (box_facts hM6).1.2.2.2.1, hrun8, (box_facts hM8).1.2.2.2.1, (box_facts hM8).2.2.2.2.1, Lib.hid ⟨⟨⟨?_, ?_, ?_, hWf, ?_, ?_⟩, ?_, ?_⟩, hout6⟩⟩
 ·exact (h68.block N (by omega) (hlo N (by omega))).trans hN6
 ·exact (h68.block (N + 1) (by omega) (hlo (N + 1) (by omega))).trans hX6
 ·simpa using blk_set hM8 3 (.slice A8 (k + 1) c8)
 ·refine ⟨h68.os.trans (hon6.os.trans h.st.on.os), h68.tape.trans (hon6.tape.trans h.st.on.tape), h68.output.trans (hon6.output.trans h.st.on.output), by have := h68.size; have := h.st.on.size; omega, fun j hj hn => ?_⟩
  have := h.st.on.size
  refine (h68.block j (by omega) (hlo j (by omega))).trans ((hon6.block j (by omega) (fun e => ?_)).trans (h.st.on.block j hj hn))
  rcases e with e | e
  ·exact hn (.inl e)
  ·rcases h.st.new j e with e | e
   ·exact hn (.inr e)
   ·omega
 ·intro j hj
  have := h.st.on.size
  rcases hnew6 j hj with e | e
  ·exact h.st.new j e
  ·right; omega
 ·exact hacc8.turn hoM (fun j hj hp e => by
   rcases hp with hp | hp
   ·exact hp.1.2 e
   ·have := (hacc8.blk hp).1; omega) (fun j _ hp _ => hp)
 ·rw [List.length_append, h.len, List.length_singleton]
end
end Go.Proofs.Ytbpodijcndglgaa
