/- What is handed back out of a box. The document's reader: the token that is next, the first error. The document's reader: the first error; is a sign next. The document's reader: take, must, name, end, stop. The document's reader: what is known amid a function that hands back a tree; what each function does. The document's reader: must, name, end, isKey, plain, signs, num. -/
import Derived.Deep.DeepMust
import Derived.Outline
import Derived.Test.YtikbfoichhkeaaaGreatVm06
set_option linter.unusedSimpArgs false
set_option linter.unusedVariables false
set_option maxRecDepth 100000
set_option maxHeartbeats 40000000
namespace Go.Proofs.YtikbfoichhkeaaaGreat
section
open Go.RowKit Go.Proofs
abbrev put5 (W : World) (b : Nat) (v0 v1 v2 v3 v4 : Value) : World := ((((W.setCell ⟨b, 0, none⟩ v0).setCell ⟨b, 1, none⟩ v1).setCell ⟨b, 2, none⟩ v2).setCell ⟨b, 3, none⟩ v3).setCell ⟨b, 4, none⟩ v4
theorem put5_blk {W : World} {b : Nat} {v0 v1 v2 v3 v4 u0 u1 u2 u3 u4 : Value} {T : TypeId} (h : W.heap[b]? = some (.cells #[u0, u1, u2, u3, u4] T (0, 0))) : (put5 W b v0 v1 v2 v3 v4).heap[b]? = some (.cells #[v0, v1, v2, v3, v4] T (0, 0)) := by
 unfold put5
 have h0 := blk_set h 0 v0
 have h1 := blk_set h0 1 v1
 have h2 := blk_set h1 2 v2
 have h3 := blk_set h2 3 v3
 exact blk_set h3 4 v4
theorem put5_only (W : World) (b : Nat) (v0 v1 v2 v3 v4 : Value) : Only (fun k => k = b) W (put5 W b v0 v1 v2 v3 v4) := by
 unfold put5
 have h : ∀ (W : World) (i : Nat) (v : Value), Only (fun k => k = b) W (W.setCell ⟨b, i, none⟩ v) := fun W i v => Only.setCell (F := fun k => k = b) W rfl i v
 exact ((((h W 0 v0).trans' (h _ 1 v1)).trans' (h _ 2 v2)).trans' (h _ 3 v3)).trans' (h _ 4 v4)
theorem results_node (fn : Func) (s : Nat) (tmps : Array Value) (b : Nat) (W : World) (v0 v1 v2 v3 v4 : Value) (hfn : fn.results = #[.cell s 24]) (hs : tmps.getD s undef = .pointer (some ⟨b, 0, none⟩)) (hc : W.heap[b]? = some (.cells #[v0, v1, v2, v3, v4] 24 (0, 0))) :
  (results fn tmps).run Tryz.prog W = .ok (.agg #[v0, v1, v2, v3, v4]) W := by
 have c0 := cell_of_row _ _ 0 _ _ _ hc
 have c1 := cell_of_row _ _ 1 _ _ _ hc
 have c2 := cell_of_row _ _ 2 _ _ _ hc
 have c3 := cell_of_row _ _ 3 _ _ _ hc
 have c4 := cell_of_row _ _ 4 _ _ _ hc
 simp only [List.getElem?_toArray, List.getElem?_cons_zero, List.getElem?_cons_succ] at c0 c1 c2 c3 c4
 have hs' : tmps[s]?.getD undef = .pointer (some ⟨b, 0, none⟩) := by rw [← Array.getD_eq_getD_getElem?]; exact hs
 simp [results, hfn, hs', go_sem, c0, c1, c2, c3, c4]
theorem results_tok (fn : Func) (s : Nat) (tmps : Array Value) (b : Nat) (W : World) (v0 v1 v2 v3 v4 : Value) (hfn : fn.results = #[.cell s 112]) (hs : tmps.getD s undef = .pointer (some ⟨b, 0, none⟩)) (hc : W.heap[b]? = some (.cells #[v0, v1, v2, v3, v4] 112 (0, 0))) :
  (results fn tmps).run Tryz.prog W = .ok (.agg #[v0, v1, v2, v3, v4]) W := by
 have c0 := cell_of_row _ _ 0 _ _ _ hc
 have c1 := cell_of_row _ _ 1 _ _ _ hc
 have c2 := cell_of_row _ _ 2 _ _ _ hc
 have c3 := cell_of_row _ _ 3 _ _ _ hc
 have c4 := cell_of_row _ _ 4 _ _ _ hc
 simp only [List.getElem?_toArray, List.getElem?_cons_zero, List.getElem?_cons_succ] at c0 c1 c2 c3 c4
 have hs' : tmps[s]?.getD undef = .pointer (some ⟨b, 0, none⟩) := by rw [← Array.getD_eq_getD_getElem?]; exact hs
 simp [results, hfn, hs', go_sem, c0, c1, c2, c3, c4]
theorem ret_node {fn : Func} {R : Ending → World → Prop} {a : Act} {W : World} {b : Nat} {v0 v1 v2 v3 v4 u0 u1 u2 u3 u4 : Value} (s : Nat) (hfn : fn.results = #[.cell s 24]) (hs : a.tmps.getD s undef = .pointer (some ⟨b, 0, none⟩)) (hd : a.defers = [])
  (hc : W.heap[b]? = some (.cells #[u0, u1, u2, u3, u4] 24 (0, 0))) (hR : R (.returned (.agg #[v0, v1, v2, v3, v4])) (put5 W b v0 v1 v2 v3 v4)) : bodyPost Tryz.prog fn R .ret a (put5 W b v0 v1 v2 v3 v4) :=
 bodyPost_ret (results_node fn s a.tmps b _ _ _ _ _ _ hfn hs (put5_blk hc)) hd hR
theorem ret_tok {fn : Func} {R : Ending → World → Prop} {a : Act} {W : World} {b : Nat} {v0 v1 v2 v3 v4 u0 u1 u2 u3 u4 : Value} (s : Nat) (hfn : fn.results = #[.cell s 112]) (hs : a.tmps.getD s undef = .pointer (some ⟨b, 0, none⟩)) (hd : a.defers = [])
  (hc : W.heap[b]? = some (.cells #[u0, u1, u2, u3, u4] 112 (0, 0))) (hR : R (.returned (.agg #[v0, v1, v2, v3, v4])) (put5 W b v0 v1 v2 v3 v4)) : bodyPost Tryz.prog fn R .ret a (put5 W b v0 v1 v2 v3 v4) :=
 bodyPost_ret (results_tok fn s a.tmps b _ _ _ _ _ _ hfn hs (put5_blk hc)) hd hR
end
section
open Go.RowKit Go.Proofs
abbrev ptr (R : Nat) : Value := .pointer (some ⟨R, 0, none⟩)
section
variable {R cp : Nat} {A : Option Addr} {L : List Tok} {st : St}
theorem RdAt.alloc {w : World} (h : RdAt w R A cp L st) (o : Obj) : RdAt (w.alloc o) R A cp L st := h.keep fun i hi => Below.heap_alloc w o i (by have := h.lt; omega)
theorem wcell_alloc (w : World) (cs : Array Value) (T : TypeId) (o : Nat) (v : Value) (h : cs[o]? = some v) : (w.alloc (.cells cs T)).cell? ⟨w.heap.size, o, none⟩ = some v := by
 rw [cell_of_row _ _ _ _ _ _ (heap_alloc_new w _)]; exact h
theorem tok_any (k : Nat) (w : World) (h : RdAt w R A cp L st) (hk : k ≤ 10) :
  Calls Tryz.prog 89 #[ptr R, .int .i64 k] w fun e w' => e = .returned (tokV (tokR L st k)) ∧ Below w.heap.size w w' := by
 obtain ⟨W1, eW⟩ : ∃ W, w.alloc (.cells #[.int .i64 0, .string ⟨#[]⟩, .int .i64 0, .int .i64 0, .bool false] 112) = W := ⟨_, rfl⟩
 have h1 : RdAt W1 R A cp L st := by rw [← eW]; exact h.alloc _
 have hb : Below w.heap.size w W1 := by rw [← eW]; exact (Below.refl _ w).alloc (Nat.le_refl _) _
 have hx : W1.heap[w.heap.size]? = some (.cells #[.int .i64 0, .string ⟨#[]⟩, .int .i64 0, .int .i64 0, .bool false] 112 (0, 0)) := by rw [← eW]; exact heap_alloc_new w _
 have fx : ∀ o, W1.frozen? ⟨w.heap.size, o, none⟩ = false := fun o => by simp [World.frozen?, hx]
 have f0 := fx 0
 have f1 := fx 1
 have f2 := fx 2
 have f3 := fx 3
 have f4 := fx 4
 clear fx
 have x0 := cell_of_row _ _ 0 _ _ _ hx
 have x1 := cell_of_row _ _ 1 _ _ _ hx
 have x2 := cell_of_row _ _ 2 _ _ _ hx
 have x3 := cell_of_row _ _ 3 _ _ _ hx
 have x4 := cell_of_row _ _ 4 _ _ _ hx
 obtain ⟨c0, c1, c2, c3⟩ := h1.cells
 have hlen := h.len
 have hpos := h.pos
 have hcap := h.cap
 by_cases hlt : st.pos + k < L.length
 ·obtain ⟨t, ht⟩ : ∃ t, L[st.pos + k]? = some t := ⟨_, List.getElem?_eq_getElem hlt⟩
  obtain ⟨g, rfl, hg, t0, t1, t2, t3, t4⟩ := h1.row _ t ht
  rw [tokR_of ht]
  have hlt' : (st.pos : Int) + (k : Int) < (L.length : Int) := by omega
  obtain ⟨q, hq⟩ : ∃ q, st.pos + k = q := ⟨_, rfl⟩
  rw [hq] at t0 t1 t2 t3 t4 ht
  have hw : IntKind.i64.wrap ((st.pos : Int) + (k : Int)) = (q : Int) := by rw [IntWalk.i64_in _ (by omega)]; omega
  have hq2 : (q : Int) < (L.length : Int) := by omega
  have HT := Lib.hid ht
  have H := Lib.hid (And.intro h (And.intro h1 (And.intro hb hx)))
  clear h ht h1 hb hx
  go_enter Tryz.func89, Tryz.ntmps89
  go_wp2_with fail
  go_quiet (fail)
  obtain ⟨W2, e2⟩ : ∃ W, W1.drewN nq = W := ⟨_, rfl⟩
  rw [e2]
  have cc : ∀ p, W2.cell? p = W1.cell? p := fun p => by rw [← e2]; rfl
  have ff : ∀ p, W2.frozen? p = W1.frozen? p := fun p => by rw [← e2]; rfl
  rw [← cc] at c0 c1 c2 c3 t0 t1 t2 t3 t4 x0 x1 x2 x3 x4
  rw [← ff] at f0 f1 f2 f3 f4
  go_wp2_with fail
  go_still_tail 12, (by kernel_rfl)
  change wpList _ _ _ _ _ W2.drew
  obtain ⟨W3, e3⟩ : ∃ W, W2.drew = W := ⟨_, rfl⟩
  rw [e3]
  have gg : ∀ p, W3.frozen? p = W2.frozen? p := fun p => by rw [← e3]; rfl
  have hh : ∀ p, W3.cell? p = W2.cell? p := fun p => by rw [← e3]; rfl
  rw [← gg] at f0 f1 f2 f3 f4
  rw [← hh] at x0 x1 x2 x3 x4
  have HB := Lib.hid (show Below w.heap.size w W3 ∧ W3.heap[w.heap.size]? = W1.heap[w.heap.size]? ∧ w.heap.size ≤ W3.heap.size from by
   rw [← e3, ← e2]
   exact ⟨below_drewN (below_drewN H.out.2.2.1 nq) 1, rfl, H.out.2.2.1.size⟩)
  clear e3 e2 cc ff gg hh c0 c1 c2 c3 t0 t1 t2 t3 t4
  go_wp2
  refine ret_tok (W := W3) (b := w.heap.size) 4 rfl rfl rfl (HB.out.2.1.trans H.out.2.2.2) ⟨rfl, ?_⟩
  exact HB.out.1.trans ((put5_only W3 w.heap.size _ _ _ _ _).below HB.out.2.2 (fun i hi => by omega))
 ·rw [tokR_none (List.getElem?_eq_none (by omega))]
  have hlt' : ¬ (st.pos : Int) + (k : Int) < (L.length : Int) := by omega
  have H := Lib.hid (And.intro h (And.intro h1 (And.intro hb hx)))
  clear h h1 hb hx
  go_enter Tryz.func89, Tryz.ntmps89
  go_wp2_with fail
  go_quiet (fail)
  go_wp2
  exact ret_tok 4 rfl rfl rfl (show (W1.drewN nq).heap[w.heap.size]? = _ from H.out.2.2.2) ⟨rfl, (below_drewN H.out.2.2.1 nq).trans ((put5_only (W1.drewN nq) w.heap.size _ _ _ _ _).below (by have := H.out.2.2.1.size; exact this) (fun i hi => by omega))⟩
end
end
section
open Go.RowKit Go.Proofs
section
variable {R cp : Nat} {A : Option Addr} {L : List Tok} {st : St}
theorem same_heap {W W' : World} (h : W'.heap = W.heap) : (∀ p, W'.cell? p = W.cell? p) ∧ (∀ p, W'.frozen? p = W.frozen? p) := ⟨fun p => by unfold World.cell?; rw [h], fun p => by unfold World.frozen?; rw [h]⟩
theorem RdAt.put_line {w : World} (h : RdAt w R A cp L st) (l : Int) : RdAt (w.setCell ⟨R, 3, none⟩ (.int .i64 l)) R A cp L ⟨st.pos, st.e, l⟩ ∧ Fr R w (w.setCell ⟨R, 3, none⟩ (.int .i64 l)) :=
 ⟨h.set (fun i hi => Below.heap_setCell w _ _ i (by show i ≠ R; omega)) (by rw [blk_set h.head]; rfl) h.pos, Only.setCell (F := fun k => k = R) _ rfl 3 _⟩
theorem box_tok {w : World} (h : RdAt w R A cp L st) (kd : Int) (ts : Bs) (tn : Int) (ln : Nat) (nl : Bool) :
  ∃ W, w.alloc (.cells #[.int .i64 kd, .string (bs ts), .int .i64 tn, .int .i64 ln, .bool nl] 112) = W ∧ Below w.heap.size w W ∧ RdAt W R A cp L st ∧
   W.cell? ⟨w.heap.size, 0, none⟩ = some (.int .i64 kd) ∧ W.cell? ⟨w.heap.size, 1, none⟩ = some (.string (bs ts)) ∧ W.cell? ⟨w.heap.size, 2, none⟩ = some (.int .i64 tn) ∧ W.cell? ⟨w.heap.size, 3, none⟩ = some (.int .i64 ln) ∧ W.cell? ⟨w.heap.size, 4, none⟩ = some (.bool nl) ∧ w.heap.size < W.heap.size :=
 ⟨_, rfl, (Below.refl _ w).alloc (Nat.le_refl _) _, h.alloc _, wcell_alloc _ _ _ _ _ rfl, wcell_alloc _ _ _ _ _ rfl, wcell_alloc _ _ _ _ _ rfl, wcell_alloc _ _ _ _ _ rfl, wcell_alloc _ _ _ _ _ rfl, by simp⟩
theorem is_any (S : Bs) (s : ByteArray) (hs : s = bs S) (w : World) (h : RdAt w R A cp L st) :
  Calls Tryz.prog 90 #[ptr R, .string s] w fun e w' => e = .returned (.bool (isR L st S)) ∧ Below w.heap.size w w' := by
 have HT := tok_any 0 w h (by omega)
 unfold isR
 cases ht : tokR L st 0 with | mk kd ts tn ln nl =>
 rw [ht] at HT
 unfold tokV at HT
 have HC := Lib.hid HT
 have H := Lib.hid h
 clear h HT ht
 go_enter Tryz.func90, Tryz.ntmps90
 go_wp2_with fail
 go_at_call 89
 refine (HC.out).mono ?_
 rintro e w1 ⟨rfl, hb⟩
 obtain ⟨W2, eW, hb2, h2, x0, x1, x2, x3, x4, hsz⟩ := box_tok (H.out.below hb H.out.lt) kd ts tn ln nl
 obtain ⟨c0, c1, c2, c3⟩ := h2.cells
 have HB := Lib.hid (And.intro hb (And.intro hb2 h2))
 clear hb hb2 h2
 dsimp only [Tok.kind, Tok.s]
 have hts : ((bs ts).toList == (bs S).toList) = (ts == S) := by rw [Lib.toList_data, Lib.toList_data, bs_list, bs_list]
 have hfin : Below w.heap.size w W2 := HB.out.1.trans (HB.out.2.1.mono HB.out.1.size)
 by_cases he : st.e = 0
 ·have d1 : (st.e == 0) = true := by simpa using he
  rw [he] at c2
  go_wp2
  all_goals
   go_ret
   exact ⟨ret_b (by simp_all), hfin⟩
 ·have d1 : (st.e == 0) = false := by simpa using he
  go_wp2
  all_goals
   go_ret
   exact ⟨ret_b (by simp_all), hfin⟩
theorem fail_any (er : Int) (w : World) (h : RdAt w R A cp L st) :
  Calls Tryz.prog 93 #[ptr R, .int .i64 er] w fun e w' => e = .returned (.tuple #[]) ∧ RdAt w' R A cp L (failR L st er) ∧ Fr R w w' := by
 obtain ⟨c0, c1, c2, c3⟩ := h.cells
 have f0 := h.thaw 0
 have f1 := h.thaw 1
 have f2 := h.thaw 2
 have f3 := h.thaw 3
 have H := Lib.hid h
 have hlen := h.len
 have hpos := h.pos
 have hcap := h.cap
 clear h
 by_cases he : st.e = 0
 ·have d1 : (st.e != 0) = false := by simpa using he
  obtain ⟨W1, eW⟩ : ∃ W, w.setCell ⟨R, 2, none⟩ (.int .i64 er) = W := ⟨_, rfl⟩
  have h1 : RdAt W1 R A cp L ⟨st.pos, er, st.line⟩ ∧ Fr R w W1 := by
   rw [← eW]
   exact ⟨H.out.set (fun i hi => Below.heap_setCell w _ _ i (by show i ≠ R; omega)) (by rw [blk_set H.out.head]; rfl) hpos, Only.setCell (F := fun k => k = R) w rfl 2 _⟩
  have H1 := Lib.hid h1
  obtain ⟨e0, e1, e2, e3⟩ := h1.1.cells
  have g3 := h1.1.thaw 3
  clear h1
  by_cases hlt : st.pos < L.length
  ·obtain ⟨t, ht⟩ : ∃ t, L[st.pos]? = some t := ⟨_, List.getElem?_eq_getElem hlt⟩
   obtain ⟨g, rfl, hg, t0, t1, t2, t3, t4⟩ := H1.out.1.row _ t ht
   have hlt' : (st.pos : Int) < (L.length : Int) := by omega
   have hF : failR L st er = ⟨st.pos, er, t.line⟩ := by unfold failR; rw [if_pos he, ht]
   rw [hF]
   clear hF ht t0 t1 t2 t4
   go_enter Tryz.func93, Tryz.ntmps93
   go_wp2_with fail
   go_quiet (fail)
   obtain ⟨W2, e22⟩ : ∃ W, W1.drewN nq = W := ⟨_, rfl⟩
   rw [e22]
   obtain ⟨cc, ff⟩ := same_heap (show W2.heap = W1.heap by rw [← e22]; rfl)
   rw [← cc] at e0 e1 e3 t3
   rw [← ff] at g3
   have H2 := Lib.hid (show RdAt W2 R _ cp L ⟨st.pos, er, st.line⟩ ∧ Fr R w W2 from ⟨H1.out.1.keep fun i _ => by rw [← e22]; rfl, by rw [← e22]; exact H1.out.2.drewN nq⟩)
   go_wp2_with fail
   go_still_tail 14, (by kernel_rfl)
   change wpList _ _ _ _ _ W2.drew
   go_wp2
   go_end0
   have H3 := H2.out.1.put_line (t.line : Int)
   exact ⟨rfl, H3.1.keep (fun _ _ => rfl), (H2.out.2.trans' H3.2).drew⟩
  ·have hlt' : ¬ (st.pos : Int) < (L.length : Int) := by omega
   have hn : L[st.pos]? = none := List.getElem?_eq_none (by omega)
   by_cases h0 : 0 < L.length
   ·have h0' : (0 : Int) < (L.length : Int) := by omega
    obtain ⟨q, hq⟩ : ∃ q, L.length - 1 = q := ⟨_, rfl⟩
    obtain ⟨t, ht⟩ : ∃ t, L[q]? = some t := ⟨_, List.getElem?_eq_getElem (by omega)⟩
    obtain ⟨g, rfl, hg, t0, t1, t2, t3, t4⟩ := H1.out.1.row _ t ht
    have hw : IntKind.i64.wrap ((L.length : Int) - 1) = (q : Int) := by rw [IntWalk.i64_in _ (by omega)]; omega
    have hq2 : (q : Int) < (L.length : Int) := by omega
    have hF : failR L st er = ⟨st.pos, er, t.line⟩ := by
     unfold failR lastLine
     rw [if_pos he, hn, List.getLast?_eq_getElem?, hq, ht]
    rw [hF]
    clear hF ht t0 t1 t2 t4 hn
    go_enter Tryz.func93, Tryz.ntmps93
    go_wp2_with fail
    go_quiet (fail)
    obtain ⟨W2, e22⟩ : ∃ W, W1.drewN nq = W := ⟨_, rfl⟩
    rw [e22]
    obtain ⟨cc, ff⟩ := same_heap (show W2.heap = W1.heap by rw [← e22]; rfl)
    rw [← cc] at e0 e1 e3 t3
    rw [← ff] at g3
    have H2 := Lib.hid (show RdAt W2 R _ cp L ⟨st.pos, er, st.line⟩ ∧ Fr R w W2 from ⟨H1.out.1.keep fun i _ => by rw [← e22]; rfl, by rw [← e22]; exact H1.out.2.drewN nq⟩)
    go_wp2_with fail
    go_still_tail 16, (by kernel_rfl)
    change wpList _ _ _ _ _ W2.drew
    go_wp2
    go_end0
    have H3 := H2.out.1.put_line (t.line : Int)
    exact ⟨rfl, H3.1.keep (fun _ _ => rfl), (H2.out.2.trans' H3.2).drew⟩
   ·have h0' : ¬ (0 : Int) < (L.length : Int) := by omega
    obtain rfl : L = [] := List.eq_nil_of_length_eq_zero (by omega)
    have hF : failR [] st er = ⟨st.pos, er, st.line⟩ := by unfold failR lastLine; rw [if_pos he]; rfl
    rw [hF]
    go_enter Tryz.func93, Tryz.ntmps93
    go_wp2_with fail
    go_quiet (fail)
    go_wp2
    go_end0
    exact ⟨rfl, H1.out.1.keep fun i _ => rfl, H1.out.2.drewN nq⟩
 ·have d1 : (st.e != 0) = true := by simpa using he
  go_enter Tryz.func93, Tryz.ntmps93
  go_wp2
  exact bodyPost_ret (v := .tuple #[]) (results_none rfl _ _ _) rfl ⟨rfl, by unfold failR; rw [if_neg he]; exact H.out, Only.refl _ _⟩
end
end
section
open Go.RowKit Go.Proofs
section
variable {R cp : Nat} {A : Option Addr} {L : List Tok} {st : St}
theorem box_facts {W : World} {b : Nat} {u0 u1 u2 u3 u4 : Value} {T : TypeId} (h : W.heap[b]? = some (.cells #[u0, u1, u2, u3, u4] T (0, 0))) :
  (W.cell? ⟨b, 0, none⟩ = some u0 ∧ W.cell? ⟨b, 1, none⟩ = some u1 ∧ W.cell? ⟨b, 2, none⟩ = some u2 ∧ W.cell? ⟨b, 3, none⟩ = some u3 ∧ W.cell? ⟨b, 4, none⟩ = some u4) ∧
   (W.frozen? ⟨b, 0, none⟩ = false ∧ W.frozen? ⟨b, 1, none⟩ = false ∧ W.frozen? ⟨b, 2, none⟩ = false ∧ W.frozen? ⟨b, 3, none⟩ = false ∧ W.frozen? ⟨b, 4, none⟩ = false) :=
 ⟨⟨cell_of_row _ _ 0 _ _ _ h, cell_of_row _ _ 1 _ _ _ h, cell_of_row _ _ 2 _ _ _ h, cell_of_row _ _ 3 _ _ _ h, cell_of_row _ _ 4 _ _ _ h⟩, by simp [World.frozen?, h], by simp [World.frozen?, h], by simp [World.frozen?, h], by simp [World.frozen?, h], by simp [World.frozen?, h]⟩
theorem RdAt.put_pos {w : World} (h : RdAt w R A cp L st) (hp : st.pos < L.length) : RdAt (w.setCell ⟨R, 1, none⟩ (.int .i64 ((st.pos : Int) + 1))) R A cp L st.next ∧ Fr R w (w.setCell ⟨R, 1, none⟩ (.int .i64 ((st.pos : Int) + 1))) :=
 ⟨h.set (fun i hi => Below.heap_setCell w _ _ i (by show i ≠ R; omega)) (by rw [blk_set h.head]; rfl) (by unfold St.next; exact hp), Only.setCell (F := fun k => k = R) _ rfl 1 _⟩
theorem take_any (S : Bs) (s : ByteArray) (hs : s = bs S) (w : World) (h : RdAt w R A cp L st) :
  Calls Tryz.prog 91 #[ptr R, .string s] w fun e w' => e = .returned (.bool (isR L st S)) ∧ RdAt w' R A cp L (takeR L st S) ∧ Fr R w w' := by
 subst hs
 have HC := Lib.hid (is_any S _ rfl w h)
 have H := Lib.hid h
 have hlen := h.len
 have hpos := h.pos
 unfold takeR
 cases hi : isR L st S with
 | true =>
  rw [hi] at HC
  have hp := (is_lt hi).2
  clear h hi
  go_enter Tryz.func91, Tryz.ntmps91
  go_wp2_with fail
  go_at_call 90
  refine (HC.out).mono ?_
  rintro e w1 ⟨rfl, hb⟩
  have h1 := H.out.below hb H.out.lt
  obtain ⟨c0, c1, c2, c3⟩ := h1.cells
  have f1 := h1.thaw 1
  have H1 := Lib.hid (And.intro h1 (And.intro (Fr.of_below (R := R) hb (Nat.le_refl _)) (h1.put_pos hp)))
  have hw : IntKind.i64.wrap ((st.pos : Int) + 1) = (st.pos : Int) + 1 := IntWalk.i64_in _ (by omega)
  clear hb h1
  go_wp2
  go_ret
  exact ⟨rfl, H1.out.2.2.1, H1.out.2.1.trans' H1.out.2.2.2⟩
 | false =>
  rw [hi] at HC
  clear h hi
  go_enter Tryz.func91, Tryz.ntmps91
  go_wp2_with (go_at_call 90; refine (HC.out).mono ?_; rintro e w1 ⟨rfl, hb⟩)
  go_ret
  exact ⟨rfl, H.out.below hb H.out.lt, Fr.of_below hb (Nat.le_refl _)⟩
theorem other_any (s : ByteArray) (w : World) : Calls Tryz.prog 94 #[.string s] w fun e w' => e = .returned (.bool (decide (s.data.toList ∈ otherL))) ∧ w = w' := by
 go_enter Tryz.func94, Tryz.ntmps94
 go_wp2
 all_goals
  go_ret
  refine ⟨ret_b ?_, rfl⟩
  simp_all [otherL, Lib.toList_data]
  done
theorem stop_any (thing : Bool) (w : World) (h : RdAt w R A cp L st) :
  Calls Tryz.prog 52 #[ptr R, .bool thing] w fun e w' => e = .returned (.agg #[.int .i64 0, .string (bs []), .int .i64 0, .slice none 0 0, .int .i64 0]) ∧ RdAt w' R A cp L (stopR L st thing) ∧ Fr R w w' := by
 obtain ⟨W1, eW1⟩ : ∃ W, w.alloc (.cells #[.int .i64 0, .string ⟨#[]⟩, .int .i64 0, .slice none 0 0, .int .i64 0] 24) = W := ⟨_, rfl⟩
 have hb1 : Below w.heap.size w W1 := by rw [← eW1]; exact (Below.refl _ w).alloc (Nat.le_refl _) _
 have hbx : W1.heap[w.heap.size]? = some (.cells #[.int .i64 0, .string ⟨#[]⟩, .int .i64 0, .slice none 0 0, .int .i64 0] 24 (0, 0)) := by rw [← eW1]; exact heap_alloc_new w _
 have h1 := h.below hb1 h.lt
 have HT := tok_any 0 W1 h1 (by omega)
 have hR := h.lt
 unfold stopR
 cases ht : tokR L st 0 with | mk kd ts tn ln nl =>
 rw [ht] at HT
 unfold tokV at HT
 have HC := Lib.hid HT
 have H := Lib.hid (And.intro h (And.intro h1 (And.intro hb1 hbx)))
 clear h HT ht h1 hb1 hbx
 obtain ⟨b3, e3⟩ : ∃ b, ((bs ts).toList == [119, 105, 116, 104]) = b := ⟨_, rfl⟩
 have s3 : (ts = withW) = (b3 = true) := by rw [← e3]; simp [withW, Lib.toList_data, bs_list]
 obtain ⟨b4, e4⟩ : ∃ b, ((bs ts).toList == [47]) = b := ⟨_, rfl⟩
 have s4 : (ts = [47]) = (b4 = true) := by rw [← e4]; simp [Lib.toList_data, bs_list]
 obtain ⟨b5, e5⟩ : ∃ b, decide ((bs ts).data.toList ∈ otherL) = b := ⟨_, rfl⟩
 have s5 : (ts ∈ otherL) = (b5 = true) := by rw [← e5, bs_list]; simp
 dsimp only [Tok.kind, Tok.s]
 simp only [s3, s4, s5]
 clear s3 s4 s5
 go_enter Tryz.func52, Tryz.ntmps52
 go_wp2_with fail
 go_at_call 89
 refine (HC.out).mono ?_
 rintro e w2 ⟨rfl, hb⟩
 obtain ⟨W3, eW, hb3, h3, x0, x1, x2, x3, x4, hsz⟩ := box_tok (H.out.2.1.below hb H.out.2.1.lt) kd ts tn ln nl
 have HB := Lib.hid (And.intro (hb.trans (hb3.mono hb.size)) h3)
 have hz : W1.heap.size = w.heap.size + 1 := by rw [← eW1]; simp
 have hz2 := hb.size
 clear hb hb3 h3
 have HO := Lib.hid (other_any (bs ts))
 rw [e5] at HO
 clear e5
 have HF := Lib.hid (fun er => fail_any er W3 HB.out.2)
 go_wp2_with (first
  | (go_at_call 93; refine (HF.out _).mono ?_; rintro e w4 ⟨rfl, h4, hf4⟩; have hbx4 := (hf4.block w.heap.size (by omega) (by omega)).trans (HB.out.1.block w.heap.size (by omega)); obtain ⟨⟨y0, y1, y2, y3, y4⟩, g0, g1, g2, g3, g4⟩ := box_facts (hbx4.trans H.out.2.2.2); have H4 := Lib.hid (And.intro h4 (And.intro hf4 hbx4)); clear h4 hf4 hbx4)
  | (go_at_call 94; refine (HO.out _).mono ?_; rintro e w4 ⟨rfl, rfl⟩))
 all_goals
  refine ret_node (W := w4) (b := w.heap.size) 4 rfl rfl rfl (H4.out.2.2.trans H.out.2.2.2) ⟨rfl, ?_, ?_⟩
  ·have hz4 := H4.out.2.1.size
   refine RdAt.only (F := fun k => k = w.heap.size) ?_ (put5_only w4 w.heap.size _ _ _ _ _) (fun i hi => by omega)
   first
   | exact H4.out.1
   | (refine Eq.mp ?_ H4.out.1; congr 1; simp [*]; done)
  ·exact Fr.own ((Fr.of_below (R := R) H.out.2.2.1 (Nat.le_refl _)).trans' ((Fr.of_below (R := R) HB.out.1 (Nat.le_refl _)).trans' H4.out.2.1)) (put5_only w4 w.heap.size _ _ _ _ _) (fun i hi => by omega)
end
end
section
open Go.RowKit Go.Proofs
section
variable {R cp : Nat} {A : Option Addr} {L : List Tok} {st st1 : St} {w wk w' : World} {t : Tr} {v : Value}
structure Mid (R : Nat) (A : Option Addr) (cp : Nat) (L : List Tok) (w wk : World) (st : St) : Prop where
 rd : RdAt wk R A cp L st
 fr : Fr R w wk
 box : wk.heap[w.heap.size]? = some (.cells #[.int .i64 0, .string ⟨#[]⟩, .int .i64 0, .slice none 0 0, .int .i64 0] 24 (0, 0))
 lt : R < w.heap.size
def Nw (w w' : World) : Nat → Prop := fun k => w.heap.size < k ∧ k < w'.heap.size
theorem Mid.start (h : RdAt w R A cp L st) : Mid R A cp L w (w.alloc (.cells #[.int .i64 0, .string ⟨#[]⟩, .int .i64 0, .slice none 0 0, .int .i64 0] 24)) st :=
 ⟨h.alloc _, Only.alloc _ _, heap_alloc_new w _, h.lt⟩
theorem Mid.gt (m : Mid R A cp L w wk st) : w.heap.size < wk.heap.size := heap_lt m.box
theorem Mid.call (m : Mid R A cp L w wk st) (h : RdAt w' R A cp L st1) (hf : Fr R wk w') : Mid R A cp L w w' st1 :=
 ⟨h, m.fr.trans' hf, (hf.block _ m.gt (by have := m.lt; omega)).trans m.box, m.lt⟩
theorem Mid.below {B : Nat} (m : Mid R A cp L w wk st) (hb : Below B wk w') (hB : wk.heap.size ≤ B) : Mid R A cp L w w' st :=
 m.call (m.rd.below hb (by have := m.rd.lt; omega)) (Fr.of_below hb hB)
theorem Mid.facts (m : Mid R A cp L w wk st) : (wk.cell? ⟨w.heap.size, 0, none⟩ = some (.int .i64 0) ∧ wk.cell? ⟨w.heap.size, 1, none⟩ = some (.string ⟨#[]⟩) ∧ wk.cell? ⟨w.heap.size, 2, none⟩ = some (.int .i64 0) ∧ wk.cell? ⟨w.heap.size, 3, none⟩ = some (.slice none 0 0) ∧ wk.cell? ⟨w.heap.size, 4, none⟩ = some (.int .i64 0)) ∧
  (wk.frozen? ⟨w.heap.size, 0, none⟩ = false ∧ wk.frozen? ⟨w.heap.size, 1, none⟩ = false ∧ wk.frozen? ⟨w.heap.size, 2, none⟩ = false ∧ wk.frozen? ⟨w.heap.size, 3, none⟩ = false ∧ wk.frozen? ⟨w.heap.size, 4, none⟩ = false) := box_facts m.box
theorem TreeAt.over (m : Mid R A cp L w wk st) (hf : Fr R wk w') (h : TreeAt wk (Nw w wk) t v) : TreeAt w' (Nw w w') t v :=
 h.fr hf (fun k hk => ⟨hk.1, by have := hf.size; have := hk.2; omega⟩) (fun k hk => ⟨hk.2, by have := m.lt; have := hk.1; omega⟩)
theorem RowAt.over {l : List Tr} (m : Mid R A cp L w wk st) (hf : Fr R wk w') (h : RowAt wk (Nw w wk) l v) : RowAt w' (Nw w w') l v :=
 h.fr hf (fun k hk => ⟨hk.1, by have := hf.size; have := hk.2; omega⟩) (fun k hk => ⟨hk.2, by have := m.lt; have := hk.1; omega⟩)
def GivesT (R : Nat) (A : Option Addr) (cp : Nat) (L : List Tok) (w : World) (t : Tr) (st1 : St) (e : Ending) (w' : World) : Prop :=
 ∃ v, e = .returned v ∧ RdAt w' R A cp L st1 ∧ Fr R w w' ∧ TreeAt w' (New w w') t v
def GivesL (R : Nat) (A : Option Addr) (cp : Nat) (L : List Tok) (w : World) (l : List Tr) (st1 : St) (e : Ending) (w' : World) : Prop :=
 ∃ v, e = .returned v ∧ RdAt w' R A cp L st1 ∧ Fr R w w' ∧ RowAt w' (New w w') l v
theorem Mid.gives {fn : Func} {a : Act} {v0 v1 v2 v3 v4 : Value} (s : Nat) (m : Mid R A cp L w wk st1) (h : TreeAt wk (Nw w wk) t (.agg #[v0, v1, v2, v3, v4]))
  (hfn : fn.results = #[.cell s 24]) (hs : a.tmps.getD s undef = .pointer (some ⟨w.heap.size, 0, none⟩)) (hd : a.defers = []) :
  bodyPost Tryz.prog fn (GivesT R A cp L w t st1) .ret a (put5 wk w.heap.size v0 v1 v2 v3 v4) := by
 have hp := put5_only wk w.heap.size v0 v1 v2 v3 v4
 refine ret_node s hfn hs hd m.box ⟨_, rfl, m.rd.only hp (fun i hi => by have := m.lt; omega), Fr.own m.fr hp (fun i hi => by omega), h.keep (fun k hk => ⟨by have := hk.1; omega, by have := hk.2; have := hp.size; omega⟩) (fun k hk => hp.block k hk.2 (fun e => by have := hk.1; omega))⟩
def Spec (R : Nat) (A : Option Addr) (cp : Nat) (L : List Tok) (m : M) (st : St) (l : List Tr) (st1 : St) : Prop :=
 match m with
 | .block => ∀ w, RdAt w R A cp L st → Calls Tryz.prog 115 #[ptr R] w (GivesT R A cp L w (hd l) st1)
 | .stmts acc => acc = [] → ∀ w, RdAt w R A cp L st → Calls Tryz.prog 51 #[ptr R] w (GivesL R A cp L w l st1)
 | .within => ∀ w, RdAt w R A cp L st → Calls Tryz.prog 132 #[ptr R] w (GivesT R A cp L w (hd l) st1)
 | .params _ _ => True
 | .rest => ∀ w, RdAt w R A cp L st → Calls Tryz.prog 133 #[ptr R] w (GivesL R A cp L w l st1)
 | .head => ∀ w, RdAt w R A cp L st → Calls Tryz.prog 131 #[ptr R] w (GivesT R A cp L w (hd l) st1)
 | .stmt => ∀ w, RdAt w R A cp L st → Calls Tryz.prog 92 #[ptr R] w (GivesT R A cp L w (hd l) st1)
 | .worded line s => st.pos < L.length → ∀ w B, RdAt w R A cp L st → R < B → w.heap[B]? = some (.cells #[.int .i64 0, .string ⟨#[]⟩, .int .i64 0, .slice none 0 0, .int .i64 line] 24 (0, 0)) →
   Calls Tryz.prog 116 #[ptr R, ptr B, .string (bs s)] w fun e w' => e = .returned (.bool (!l.isEmpty)) ∧ RdAt w' R A cp L st1 ∧ Only (fun k => k = R ∨ k = B) w w' ∧ (l = [] → w'.heap[B]? = w.heap[B]?) ∧
    (l ≠ [] → ∃ v, w'.heap[B]? = some (.cells #[.int .i64 (hd l).op, .string (bs (hd l).s), .int .i64 (hd l).n, v, .int .i64 (hd l).line] 24 (0, 0)) ∧ RowAt w' (New w w') (hd l).l v ∧ Fine (hd l).op (hd l).s (hd l).n)
 | .expr => ∀ w, RdAt w R A cp L st → Calls Tryz.prog 117 #[ptr R] w (GivesT R A cp L w (hd l) st1)
 | .cond => ∀ w, RdAt w R A cp L st → Calls Tryz.prog 135 #[ptr R] w (GivesT R A cp L w (hd l) st1)
 | .chain k => k ≤ 6 → ∀ w, RdAt w R A cp L st → Calls Tryz.prog 143 #[ptr R, .int .i64 k] w (GivesT R A cp L w (hd l) st1)
 | .chainL _ _ => True
 | .signed => ∀ w, RdAt w R A cp L st → Calls Tryz.prog 151 #[ptr R] w (GivesT R A cp L w (hd l) st1)
 | .args acc more => acc = [] → more = !isR L st [41] → ∀ w, RdAt w R A cp L st → Calls Tryz.prog 156 #[ptr R] w (GivesL R A cp L w l st1)
 | .parts x calls => ∀ w S v, RdAt w R A cp L st → TreeAt w S x v → (∀ k, S k → k < w.heap.size ∧ k ≠ R) →
   Calls Tryz.prog 154 #[ptr R, v, .bool calls] w fun e w' => ∃ v', e = .returned v' ∧ RdAt w' R A cp L st1 ∧ Fr R w w' ∧ TreeAt w' (fun k => S k ∨ New w w' k) (hd l) v'
 | .thing => ∀ w, RdAt w R A cp L st → Calls Tryz.prog 155 #[ptr R] w (GivesT R A cp L w (hd l) st1)
 | .object line acc => acc = [] → ∀ st0, mustR L st0 [123] = st → line = (tokR L st0 0).line → ∀ w, RdAt w R A cp L st0 → Calls Tryz.prog 158 #[ptr R] w (GivesT R A cp L w (hd l) st1)
def All (R : Nat) (A : Option Addr) (cp : Nat) (L : List Tok) (F : Nat) : Prop := ∀ m st l st1, run L F m st = some (l, st1) → Spec R A cp L m st l st1
end
end
section
open Go.RowKit Go.Proofs
section
variable {R cp : Nat} {A : Option Addr} {L : List Tok} {st : St}
theorem must_any (S : Bs) (s : ByteArray) (hs : s = bs S) (w : World) (h : RdAt w R A cp L st) :
  Calls Tryz.prog 129 #[ptr R, .string s] w fun e w' => e = .returned (.tuple #[]) ∧ RdAt w' R A cp L (mustR L st S) ∧ Fr R w w' := by
 subst hs
 have HC := Lib.hid (take_any S _ rfl w h)
 unfold takeR at HC
 unfold mustR
 cases hi : isR L st S with
 | true =>
  rw [hi] at HC
  clear h hi
  go_enter Tryz.func129, Tryz.ntmps129
  go_wp2_with (go_at_call 91; refine (HC.out).mono ?_; rintro e w1 ⟨rfl, h1, hf⟩)
  go_end0
  exact ⟨rfl, h1, hf⟩
 | false =>
  rw [hi] at HC
  clear h hi
  by_cases he : st.e = 0
  ·go_enter Tryz.func129, Tryz.ntmps129
   go_wp2_with fail
   go_at_call 91
   refine (HC.out).mono ?_
   rintro e w1 ⟨rfl, h1, hf⟩
   have h1 : RdAt w1 R A cp L st := h1
   obtain ⟨c0, c1, c2, c3⟩ := h1.cells
   rw [he] at c2
   have HS := Lib.hid (stop_any false w1 h1)
   clear h1
   go_wp2_with (go_at_call 52; refine (HS.out).mono ?_; rintro e w2 ⟨rfl, h2, hf2⟩)
   go_end0
   exact ⟨rfl, h2, hf.trans' hf2⟩
  ·have d1 : (st.e == 0) = false := by simpa using he
   go_enter Tryz.func129, Tryz.ntmps129
   go_wp2_with fail
   go_at_call 91
   refine (HC.out).mono ?_
   rintro e w1 ⟨rfl, h1, hf⟩
   have h1 : RdAt w1 R A cp L st := h1
   obtain ⟨c0, c1, c2, c3⟩ := h1.cells
   go_wp2
   go_end0
   exact ⟨rfl, h1, hf⟩
theorem name_any (w : World) (h : RdAt w R A cp L st) :
  Calls Tryz.prog 130 #[ptr R] w fun e w' => e = .returned (.string (bs (nameR L st).1)) ∧ RdAt w' R A cp L (nameR L st).2 ∧ Fr R w w' := by
 have HT := tok_any 0 w h (by omega)
 have hlen := h.len
 have hp : (tokR L st 0).kind = 1 → st.pos < L.length := fun e => tok_lt0 e (by decide)
 unfold nameR
 cases ht : tokR L st 0 with | mk kd ts tn ln nl =>
 rw [ht] at HT hp
 unfold tokV at HT
 have HC := Lib.hid HT
 have H := Lib.hid h
 clear h HT ht
 dsimp only [Tok.kind, Tok.s] at hp ⊢
 by_cases hc : st.e ≠ 0 ∨ kd ≠ 1
 ·rw [if_pos hc]
  go_enter Tryz.func130, Tryz.ntmps130
  go_wp2_with fail
  go_at_call 89
  refine (HC.out).mono ?_
  rintro e w1 ⟨rfl, hb⟩
  obtain ⟨W2, eW, hb2, h2, x0, x1, x2, x3, x4, hsz⟩ := box_tok (H.out.below hb H.out.lt) kd ts tn ln nl
  obtain ⟨c0, c1, c2, c3⟩ := h2.cells
  have HB := Lib.hid (And.intro (hb.trans (hb2.mono hb.size)) (stop_any false W2 h2))
  clear hb hb2 h2
  by_cases he : st.e = 0
  ·have hk : (kd != 1) = true := by simpa using hc.resolve_left (fun h => h he)
   rw [he] at c2
   go_wp2_with (go_at_call 52; refine (HB.out.2).mono ?_; rintro e w4 ⟨rfl, h4, hf4⟩)
   go_ret
   exact ⟨rfl, h4, (Fr.of_below (R := R) HB.out.1 (Nat.le_refl _)).trans' hf4⟩
  ·have he' : (st.e != 0) = true := by simpa using he
   go_wp2_with (go_at_call 52; refine (HB.out.2).mono ?_; rintro e w4 ⟨rfl, h4, hf4⟩)
   go_ret
   exact ⟨rfl, h4, (Fr.of_below (R := R) HB.out.1 (Nat.le_refl _)).trans' hf4⟩
 ·rw [if_neg hc]
  have he : st.e = 0 := Classical.byContradiction fun h => hc (.inl h)
  have hk : kd = 1 := Classical.byContradiction fun h => hc (.inr h)
  subst hk
  have hps : st.pos < L.length := hp rfl
  clear hp
  clear hc
  go_enter Tryz.func130, Tryz.ntmps130
  go_wp2_with fail
  go_at_call 89
  refine (HC.out).mono ?_
  rintro e w1 ⟨rfl, hb⟩
  obtain ⟨W2, eW, hb2, h2, x0, x1, x2, x3, x4, hsz⟩ := box_tok (H.out.below hb H.out.lt) 1 ts tn ln nl
  obtain ⟨c0, c1, c2, c3⟩ := h2.cells
  have f1 := h2.thaw 1
  have HB := Lib.hid (And.intro (hb.trans (hb2.mono hb.size)) (h2.put_pos hps))
  have hw : IntKind.i64.wrap ((st.pos : Int) + 1) = (st.pos : Int) + 1 := IntWalk.i64_in _ (by omega)
  have hne : (⟨w1.heap.size, 1, none⟩ : Addr).block ≠ R := by have := H.out.lt; have := hb.size; show w1.heap.size ≠ R; omega
  have z1 : (W2.setCell ⟨R, 1, none⟩ (.int .i64 ((st.pos : Int) + 1))).cell? ⟨w1.heap.size, 1, none⟩ = some (.string (bs ts)) := by
   rw [cell_block (Below.heap_setCell W2 _ _ w1.heap.size hne) _ rfl]; exact x1
  rw [he] at c2
  clear hb hb2 h2
  go_wp2
  go_ret
  exact ⟨rfl, HB.out.2.1, (Fr.of_below (R := R) HB.out.1 (Nat.le_refl _)).trans' HB.out.2.2⟩
theorem end_any (w : World) (h : RdAt w R A cp L st) :
  Calls Tryz.prog 118 #[ptr R] w fun e w' => e = .returned (.tuple #[]) ∧ RdAt w' R A cp L (endR L st) ∧ Fr R w w' := by
 have HT := tok_any 0 w h (by omega)
 unfold endR
 cases ht : tokR L st 0 with | mk kd ts tn ln nl =>
 rw [ht] at HT
 unfold tokV at HT
 have HC := Lib.hid HT
 have H := Lib.hid h
 clear h HT ht
 dsimp only [Tok.kind, Tok.s, Tok.nl]
 cases hi : isR L st [59] with
 | true =>
  rw [if_pos rfl]
  go_enter Tryz.func118, Tryz.ntmps118
  go_wp2_with fail
  go_at_call 89
  refine (HC.out).mono ?_
  rintro e w1 ⟨rfl, hb⟩
  obtain ⟨W2, eW, hb2, h2, x0, x1, x2, x3, x4, hsz⟩ := box_tok (H.out.below hb H.out.lt) kd ts tn ln nl
  have HK := take_any [59] ⟨#[59]⟩ rfl W2 h2
  unfold takeR at HK
  rw [hi] at HK
  have HB := Lib.hid (And.intro (hb.trans (hb2.mono hb.size)) HK)
  clear hb hb2 h2 HK hi
  go_wp2_with (go_at_call 91; refine (HB.out.2).mono ?_; rintro e w4 ⟨rfl, h4, hf4⟩)
  exact bodyPost_ret (v := .tuple #[]) (results_none rfl _ _ _) rfl ⟨rfl, h4, (Fr.of_below (R := R) HB.out.1 (Nat.le_refl _)).trans' hf4⟩
 | false =>
  rw [if_neg (by decide)]
  obtain ⟨b4, e4⟩ : ∃ b, ((bs ts).toList == [125]) = b := ⟨_, rfl⟩
  have s4 : (ts = [125]) = (b4 = true) := by rw [← e4]; simp [Lib.toList_data, bs_list]
  simp only [s4]
  clear s4
  go_enter Tryz.func118, Tryz.ntmps118
  go_wp2_with fail
  go_at_call 89
  refine (HC.out).mono ?_
  rintro e w1 ⟨rfl, hb⟩
  obtain ⟨W2, eW, hb2, h2, x0, x1, x2, x3, x4, hsz⟩ := box_tok (H.out.below hb H.out.lt) kd ts tn ln nl
  have HK := take_any [59] ⟨#[59]⟩ rfl W2 h2
  unfold takeR at HK
  rw [hi] at HK
  have HB := Lib.hid (And.intro (hb.trans (hb2.mono hb.size)) HK)
  have hR := H.out.lt
  have hz := hb.size
  clear hb hb2 h2 HK hi
  go_wp2_with fail
  go_at_call 91
  refine (HB.out.2).mono ?_
  rintro e w4 ⟨rfl, h4, hf4⟩
  have h4 : RdAt w4 R A cp L st := h4
  have ky := fun o => hf4.cell hsz (by omega) o
  rw [← ky] at x0 x1 x2 x3 x4
  obtain ⟨c0, c1, c2, c3⟩ := h4.cells
  have HS := Lib.hid (stop_any false w4 h4)
  have HH := Lib.hid (And.intro h4 ((Fr.of_below (R := R) HB.out.1 (Nat.le_refl _)).trans' hf4))
  clear h4 hf4 ky
  by_cases he : st.e = 0
  ·rw [he] at c2
   go_wp2_with (go_at_call 52; refine (HS.out).mono ?_; rintro e w5 ⟨rfl, h5, hf5⟩)
   all_goals first
    | exact bodyPost_ret (v := .tuple #[]) (results_none rfl _ _ _) rfl ⟨rfl, by first | exact HH.out.1 | (rw [if_pos (by simp [*])]; exact HH.out.1), HH.out.2⟩
    | (go_end0; exact ⟨rfl, by first | exact h5 | (rw [if_neg (by simp [*])]; exact h5), HH.out.2.trans' hf5⟩)
  ·have he' : (st.e != 0) = true := by simpa using he
   go_wp2
   all_goals exact bodyPost_ret (v := .tuple #[]) (results_none rfl _ _ _) rfl ⟨rfl, by first | exact HH.out.1 | (rw [if_pos (by simp [*])]; exact HH.out.1), HH.out.2⟩
end
end
end Go.Proofs.YtikbfoichhkeaaaGreat
