/- scope.opened: a function with its variables. -/
import Derived.OwnWalkIn
import Derived.Carry
import Derived.Shelf.Abstract
import Derived.Shelf.RegionOpen
import Derived.Sort.CutIn
import Derived.LoopNIn
import Derived.Test.YtikbfoichhkeaaaGreatVm09
set_option linter.unusedSimpArgs false
set_option linter.unusedVariables false
set_option maxRecDepth 100000
set_option maxHeartbeats 40000000
namespace Go.Proofs.YtikbfoichhkeaaaGreat
section
open Go.RowKit Go.Proofs Go.Shelf
attribute [local go_sem] Oper.semAt_some
theorem OpenAt.below {W W' : World} {F m B : Nat} {a : Int} {nm : Bs} {ps mk : Int} {vars : List Bs} (h : OpenAt W F m B a nm ps mk vars) (hb : Below W.heap.size W W') : OpenAt W' F m B a nm ps mk vars := by
 obtain ⟨v, h1, h2⟩ := h.box
 exact ⟨⟨v, (hb.block F (heap_lt h1)).trans h1, h2.1, h2.2.imp id fun ⟨g, cap, cur, e1, e2, e3, e4⟩ => ⟨g, cap, cur, e1, e2, (hb.block g (heap_lt e3)).trans e3, e4⟩⟩, h.map.keep (hb.block m h.map.lt), h.ne⟩
theorem withN_le (l : List Bs) (s : Bs) : (withN l s).length ≤ l.length + 1 := by
 unfold withN
 split <;> simp
def mineO (m : Nat) (W : World) (k : Nat) : Prop := m ≤ k ∧ (k = m ∨ k = m + 1 ∨ W.heap.size ≤ m + 1 ∨ RowB W (m + 1) k)
theorem OpenAt.row_ge {W : World} {F m B : Nat} {a : Int} {nm : Bs} {ps mk : Int} {vars : List Bs} (h : OpenAt W F m B a nm ps mk vars) {k : Nat} (hk : RowB W F k) : B ≤ k ∧ ∃ cs, W.heap[k]? = some (.cells cs 9 (0, 0)) := by
 obtain ⟨v, h1, h2⟩ := h.box
 rw [RowB.of h1] at hk
 rcases h2.2 with ⟨rfl, -⟩ | ⟨g, cap, cur, rfl, k1, k2, -⟩
 ·simp [Value.ownBlock] at hk
 ·simp [Value.ownBlock] at hk
  subst hk
  exact ⟨k1, cur, k2⟩
theorem OpenAt.lt {W : World} {F m B : Nat} {a : Int} {nm : Bs} {ps mk : Int} {vars : List Bs} (h : OpenAt W F m B a nm ps mk vars) : F < W.heap.size := by
 obtain ⟨v, h1, -⟩ := h.box
 exact heap_lt h1
theorem OpenAt.it {W W' : World} {m base : Nat} {a : Int} {nm : Bs} {ps mk : Int} {vars : List Bs} (h : OpenAt W (m + 1) m (m + 2) a nm ps mk vars) (hk : ItKeeps (mineO m) base W W') (h1 : m + 1 < base) : OpenAt W' (m + 1) m (m + 2) a nm ps mk vars := by
 obtain ⟨v, h2, h3⟩ := h.box
 refine ⟨⟨v, (hk.keep _ (heap_lt h2) (.inl h1)).trans h2, h3.1, h3.2.imp id fun ⟨g, cap, cur, e1, e2, e3, e4⟩ => ⟨g, cap, cur, e1, e2, (hk.keep g (heap_lt e3) (.inr ⟨by omega, .inr (.inr (.inr ((RowB.of h2).2 (by rw [e1]; rfl))))⟩)).trans e3, e4⟩⟩, h.map.keep (hk.keep m h.map.lt (.inl (by omega))), h.ne⟩
theorem mineO_it {m base : Nat} {A B : World} (h1 : m + 1 < base) (g : ItKeeps (mineO m) base A B) (k : Nat) (h : mineO m B k) : mineO m A k := by
 refine ⟨h.1, ?_⟩
 by_cases hz : A.heap.size ≤ m + 1
 ·exact .inr (.inr (.inl hz))
 ·rcases h.2 with h2 | h2 | h2 | ⟨cs, v, h2, h3, h4⟩
  ·exact .inl h2
  ·exact .inr (.inl h2)
  ·have := g.size; omega
  ·exact .inr (.inr (.inr ⟨cs, v, (g.keep (m + 1) (by omega) (.inl h1)).symm.trans h2, h3, h4⟩))
theorem OpenAt.mine {W : World} {m k : Nat} {a : Int} {nm : Bs} {ps mk : Int} {vars : List Bs} (h : OpenAt W (m + 1) m (m + 2) a nm ps mk vars) (hm : mineO m W k) : ∃ o, W.heap[k]? = some o ∧ dataO o = true := by
 rcases hm.2 with rfl | rfl | h2 | h2
 ·obtain ⟨j, D, ⟨es, clock, hb, -⟩, -⟩ := h.map
  exact ⟨_, hb, rfl⟩
 ·obtain ⟨v, h1, -⟩ := h.box
  exact ⟨_, h1, rfl⟩
 ·have := h.lt; omega
 ·obtain ⟨-, cs, h3⟩ := h.row_ge h2
  exact ⟨_, h3, rfl⟩
theorem OpenAt.round {W W' : World} {m : Nat} {a : Int} {nm : Bs} {ps mk : Int} {vars : List Bs} (h : OpenAt W (m + 1) m (m + 2) a nm ps mk vars) (ho : Only (fun k => k = m + 1 ∨ k = m ∨ RowB W (m + 1) k) W W') (hn : ∀ k, RowB W' (m + 1) k → RowB W (m + 1) k ∨ W.heap.size ≤ k) : RdKeeps (mineO m) W W' := by
 refine ⟨ho.os, ho.tape, ho.output, ho.size, fun k hk hm => ho.block k hk fun e => hm ?_, fun k hk => ?_⟩
 ·rcases e with rfl | rfl | e
  ·exact ⟨by omega, .inr (.inl rfl)⟩
  ·exact ⟨Nat.le_refl _, .inl rfl⟩
  ·exact ⟨by have := (h.row_ge e).1; omega, .inr (.inr (.inr e))⟩
 ·rcases hk.2 with rfl | rfl | h2 | h2
  ·exact .inl ⟨Nat.le_refl _, .inl rfl⟩
  ·exact .inl ⟨by omega, .inr (.inl rfl)⟩
  ·have := ho.size; have := h.lt; omega
  ·rcases hn k h2 with h3 | h3
   ·exact .inl ⟨hk.1, .inr (.inr (.inr h3))⟩
   ·exact .inr h3
mutual
theorem declS_fine : ∀ {W : World} {S : Nat → Prop} (x : Lo), LoAt W S x → ∀ s ∈ declS x.tree, s.length ≤ maxLen
 | W, S, .mk op s n i v l, h, u, hu => by
  rw [LoAt] at h
  obtain ⟨hf, A, cap, -, -, h2⟩ := h
  rw [Lo.tree, declS] at hu
  have hl : ∀ u ∈ declSL (trees l), u.length ≤ maxLen := fun u hu => by
   cases l with
   | nil => rw [trees, declSL] at hu; cases hu
   | cons a r =>
    obtain ⟨g, off, -, -, hL⟩ := h2 (by simp)
    exact declSL_fine (a :: r) hL u hu
  split at hu
  ·cases hu
  ·split at hu
   ·rw [List.mem_singleton.1 hu]; exact hf.1
   ·rcases List.mem_append.1 hu with hu | hu
    ·split at hu
     ·rw [List.mem_singleton.1 hu]; exact hf.1
     ·cases hu
    ·exact hl u hu
theorem declSL_fine : ∀ {W : World} {S : Nat → Prop} {g off : Nat} (l : List Lo), LoAtL W S g off l → ∀ s ∈ declSL (trees l), s.length ≤ maxLen
 | W, S, g, off, [], h, u, hu => by rw [trees, declSL] at hu; cases hu
 | W, S, g, off, a :: r, h, u, hu => by
  rw [LoAtL] at h
  rw [trees, declSL] at hu
  rcases List.mem_append.1 hu with hu | hu
  ·exact declS_fine a h.1.1 u hu
  ·exact declSL_fine r h.2 u hu
end
mutual
theorem declS_len : ∀ t : Tr, (declS t).length ≤ t.size
 | .mk op s n i l => by
  have := declSL_len l
  rw [declS, Tr.size]
  split
  ·simp
  ·split
   ·simp
   ·rw [List.length_append]
    split <;> simp <;> omega
theorem declSL_len : ∀ l : List Tr, (declSL l).length ≤ sizes l
 | [] => by rw [declSL, sizes]; simp
 | t :: r => by
  have h1 := declS_len t
  have h2 := declSL_len r
  rw [declSL, sizes, List.length_append]
  omega
end
theorem foldN_len : ∀ (l out : List Bs), (l.foldl withN out).length ≤ out.length + l.length
 | [], out => by simp
 | s :: r, out => by
  have h1 := foldN_len r (withN out s)
  have h2 := withN_le out s
  rw [List.foldl_cons, List.length_cons]
  omega
def pars (l : List Tr) : List Bs := l.foldl (fun o u => withN o u.s) []
theorem pars_take {l : List Tr} {k : Nat} {p : Tr} (h : l[k]? = some p) : pars (l.take (k + 1)) = withN (pars (l.take k)) p.s := by
 unfold pars
 rw [List.take_add_one, h, List.foldl_append]
 rfl
theorem pars_len (l : List Tr) : ∀ k, (pars (l.take k)).length ≤ k
 | 0 => by simp [pars]
 | k + 1 => by
  have ih := pars_len l k
  cases h : l[k]? with
  | none =>
   rw [List.take_of_length_le (by have := List.getElem?_eq_none_iff.1 h; omega)]
   rw [List.take_of_length_le (by have := List.getElem?_eq_none_iff.1 h; omega)] at ih
   omega
  | some p =>
   rw [pars_take h]
   have := withN_le (pars (l.take k)) p.s
   omega
abbrev set6 (W : World) (b : Nat) (v0 v1 v2 v3 v4 v5 : Value) : World := (((((W.setCell ⟨b, 0, none⟩ v0).setCell ⟨b, 1, none⟩ v1).setCell ⟨b, 2, none⟩ v2).setCell ⟨b, 3, none⟩ v3).setCell ⟨b, 4, none⟩ v4).setCell ⟨b, 5, none⟩ v5
theorem set6_blk {W : World} {b : Nat} {v0 v1 v2 v3 v4 v5 u0 u1 u2 u3 u4 u5 : Value} {T : TypeId} (h : W.heap[b]? = some (.cells #[u0, u1, u2, u3, u4, u5] T (0, 0))) : (set6 W b v0 v1 v2 v3 v4 v5).heap[b]? = some (.cells #[v0, v1, v2, v3, v4, v5] T (0, 0)) := by
 unfold set6
 have h0 := blk_set h 0 v0
 have h1 := blk_set h0 1 v1
 have h2 := blk_set h1 2 v2
 have h3 := blk_set h2 3 v3
 have h4 := blk_set h3 4 v4
 exact blk_set h4 5 v5
theorem set6_only (W : World) (b : Nat) (v0 v1 v2 v3 v4 v5 : Value) : Only (fun k => k = b) W (set6 W b v0 v1 v2 v3 v4 v5) := by
 unfold set6
 have h : ∀ (W : World) (i : Nat) (v : Value), Only (fun k => k = b) W (W.setCell ⟨b, i, none⟩ v) := fun W i v => Only.setCell (F := fun k => k = b) W rfl i v
 exact (((((h W 0 v0).trans' (h _ 1 v1)).trans' (h _ 2 v2)).trans' (h _ 3 v3)).trans' (h _ 4 v4)).trans' (h _ 5 v5)
theorem results_fn (fn : Func) (s : Nat) (tmps : Array Value) {b : Nat} {W : World} {v0 v1 v2 v3 v4 v5 : Value} (hfn : fn.results = #[.cell s 126]) (hs : tmps.getD s undef = .pointer (some ⟨b, 0, none⟩)) (hc : W.heap[b]? = some (.cells #[v0, v1, v2, v3, v4, v5] 126 (0, 0))) :
  (results fn tmps).run Tryz.prog W = .ok (.agg #[v0, v1, v2, v3, v4, v5]) W := by
 have c0 := cell_of_row _ _ 0 _ _ _ hc
 have c1 := cell_of_row _ _ 1 _ _ _ hc
 have c2 := cell_of_row _ _ 2 _ _ _ hc
 have c3 := cell_of_row _ _ 3 _ _ _ hc
 have c4 := cell_of_row _ _ 4 _ _ _ hc
 have c5 := cell_of_row _ _ 5 _ _ _ hc
 simp only [List.getElem?_toArray, List.getElem?_cons_zero, List.getElem?_cons_succ] at c0 c1 c2 c3 c4 c5
 have hs' : tmps[s]?.getD undef = .pointer (some ⟨b, 0, none⟩) := by rw [← Array.getD_eq_getD_getElem?]; exact hs
 simp [results, hfn, hs', go_sem, c0, c1, c2, c3, c4, c5]
theorem ownsRow_block5 {W W' : World} {base e n : Nat} {T : TypeId} {v : Value} {xs : List Value} (h : W.ownsRow base T e v n xs) (hb : ∀ k, v.ownBlock = some k → W'.heap[k]? = W.heap[k]?) : W'.ownsRow base T e v n xs := by
 refine ⟨h.1, ?_⟩
 rcases h.2 with h | ⟨g, cap, cur, rfl, h1, h2, h3⟩
 ·exact .inl h
 ·exact .inr ⟨g, cap, cur, rfl, h1, (hb g rfl).trans h2, h3⟩
theorem ownsRow_low5 {W : World} {b b' e n : Nat} {T : TypeId} {v : Value} {xs : List Value} (h : W.ownsRow b T e v n xs) (hb : b' ≤ b) : W.ownsRow b' T e v n xs :=
 ⟨h.1, h.2.imp id fun ⟨g, cap, cur, e1, h1, h2⟩ => ⟨g, cap, cur, e1, Nat.le_trans hb h1, h2⟩⟩
def OpenedV (w w' : World) (v : Value) (s : Bs) (ps : Nat) (vars : List Bs) : Prop :=
 ∃ A c m, v = .agg #[.int .i64 0, .string (bs s), .int .i64 ps, .slice A vars.length c, .int .i64 0, .map (some m)] ∧ w'.ownsRow w.heap.size 9 1 (.slice A vars.length c) vars.length (namesV vars) ∧ PlacesAt w' m vars ∧ w.heap.size ≤ m ∧ Below w.heap.size w w'
theorem opened_fin {w W W0 : World} {m D ps : Nat} {s : Bs} {vars : List Bs} {A : Option Addr} {c : Nat} {x0 x1 x2 x3 x4 x5 : Value} {T : TypeId} (em : w.heap.size + 1 + 1 = m) (hI : OpenAt W (m + 1) m (m + 2) 0 s ps 0 vars)
  (hrz : W.ownsRow (m + 2) 9 1 (.slice A vars.length c) vars.length (namesV vars)) (hb0 : Below w.heap.size w W0) (hon : Only (fun q => q = m + 1 ∨ q = m ∨ m + 2 ≤ q) W0 W) (hz : W0.heap.size = m + 1 + 1)
  (hR : W.heap[w.heap.size + 1]? = some (.cells #[x0, x1, x2, x3, x4, x5] T (0, 0))) (hK : W.heap[D]? = some (.deferred (some []))) (hD : m + 2 ≤ D) {W6 W7 : World}
  (e6 : W6 = set6 W (w.heap.size + 1) (.int .i64 0) (.string (bs s)) (.int .i64 ps) (.slice A vars.length c) (.int .i64 0) (.map (some m))) (e7 : W7 = W6.putObj D (.deferred none)) :
  W6.heap[D]? = some (.deferred (some [])) ∧ W7.heap[w.heap.size + 1]? = some (.cells #[.int .i64 0, .string (bs s), .int .i64 ps, .slice A vars.length c, .int .i64 0, .map (some m)] T (0, 0)) ∧
   OpenedV w W7 (.agg #[.int .i64 0, .string (bs s), .int .i64 ps, .slice A vars.length c, .int .i64 0, .map (some m)]) s ps vars := by
 have h6 := set6_only W (w.heap.size + 1) (.int .i64 0) (.string (bs s)) (.int .i64 ps) (.slice A vars.length c) (.int .i64 0) (.map (some m))
 have hblk := set6_blk (v0 := .int .i64 0) (v1 := .string (bs s)) (v2 := .int .i64 ps) (v3 := .slice A vars.length c) (v4 := .int .i64 0) (v5 := .map (some m)) hR
 rw [← e6] at h6 hblk
 have hDl := heap_lt hK
 have hRl := heap_lt hR
 have hK6 : W6.heap[D]? = some (.deferred (some [])) := (h6.block D hDl (by omega)).trans hK
 have ho : ∀ k, k ≠ D → W7.heap[k]? = W6.heap[k]? := fun k h => by rw [e7]; exact World.putObj_heap_other h
 have hoo : ∀ k, k < W.heap.size → k ≠ D → k ≠ w.heap.size + 1 → W7.heap[k]? = W.heap[k]? := fun k h0 h1 h2 => (ho k h1).trans (h6.block k h0 h2)
 have hml := hI.map.lt
 refine ⟨hK6, (ho _ (by omega)).trans hblk, A, c, m, rfl, ownsRow_low5 (b := m + 2) (ownsRow_block5 hrz fun k hk => ?_) (by omega), hI.map.keep (hoo m hml (by omega) (by omega)), by omega, ?_⟩
 ·rcases hrz.2 with h | ⟨g, cap, cur, h1, h2, h3, h4⟩
  ·rw [h.1] at hk; simp [Value.ownBlock] at hk
  ·rw [h1] at hk
   simp [Value.ownBlock] at hk
   subst hk
   refine hoo g (heap_lt h3) (fun e => ?_) (by omega)
   rw [e, hK] at h3
   cases h3
 ·have hb1 := hb0.trans (hon.to_below (by have := hb0.size; omega) (fun i hi hlt => by omega))
  have hb2 := hb1.trans (h6.to_below (B := w.heap.size) (by have := hb1.size; omega) (fun i hi hlt => by omega))
  rw [e7]
  exact hb2.trans (belowK_b (w := w) (Nat.le_refl _) W6 D _ _ (by omega) hK6 rfl rfl)
theorem openF_last {t : Tr} {k : Nat} {b : Tr} {ps own : List Bs} (hk : t.l.length = k + 1) (hp : t.l[k]? = some b) (h1 : pars (t.l.take k) = ps) (h2 : (if t.op = 10 ∧ t.s ≠ [] then withN ps t.s else ps) = own) (a m : Int) : openF t.op t.s t.l a m = ⟨a, t.s, ps.length, (declS b).foldl withN own, m⟩ := by
 have hl : t.l.getLast? = some b := by rw [List.getLast?_eq_getElem?, hk]; exact hp
 have hd : t.l.dropLast = t.l.take k := by rw [List.dropLast_eq_take, hk]; rfl
 unfold openF
 rw [hl, hd]
 simp only [decl_eq]
 unfold pars at h1
 rw [h1, h2]
theorem opened_in (n : Nat) (t : Tr) (v : Value) (w : World) (S : Nat → Prop) (hT : TreeAt w S t v) (hS : ∀ k, S k → k < w.heap.size) (hz : t.size ≤ 50000) (h0 : 0 < t.l.length) (hn : 3 ≤ n) :
  CallsIn Fence.wide n Tryz.prog 127 #[v] w fun e w' => ∃ v', e = .returned v' ∧ OpenedV w w' v' t.s (openF t.op t.s t.l 0 0).params (openF t.op t.s t.l 0 0).vars := by
 obtain ⟨A, c, rfl, hrow, hfine⟩ := hT.form
 obtain ⟨A1, c1, e1, hc1, hc2⟩ := hrow.slice
 injection e1 with e2 e3 e4
 subst e2 e4
 have hlen := length_le_sizes t.l
 have hsz := size_eq t
 have hc3 : c ≤ 9223372036854775807 := hc2
 have hl3 : t.l.length ≤ 50000 := by omega
 obtain ⟨r, hr⟩ : ∃ r, t.l.length = r + 1 := ⟨t.l.length - 1, by omega⟩
 have hw : wrap64 ((t.l.length : Int) - 1) = (r : Int) := by unfold wrap64; omega
 have k2 : (0 : Int) ≤ r := by omega
 have k3 : (r : Int) ≤ c := by omega
 have k4 : (r : Int) < t.l.length := by omega
 have HR := Lib.hid (And.intro hrow (And.intro hfine (And.intro hz hS)))
 clear hT hrow hfine hz hS hlen hsz hc2
 have hmm := @Go.RowKit.run_makeMap Tryz.prog
 refine callsIn_of_wp_marks Tryz.func127 rfl trivial ?_ rfl
 simp only [Tryz.ntmps127, List.size_toArray, List.length_cons, List.length_nil, Nat.reduceAdd, Nat.reduceSub, Array.replicate_succ, Array.replicate_zero, List.push_toArray, List.append_toArray, List.nil_append, List.cons_append]
 gi_wp2_with fail
 have hb0 := below_alloc9 w (.cells #[.int .i64 t.op, .string (bs t.s), .int .i64 t.n, .slice A (r + 1) c, .int .i64 t.line] 24)
 have hb1 := hb0.alloc (by simp) (.cells #[.int .i64 0, .string ⟨#[]⟩, .int .i64 0, .slice none 0 0, .int .i64 0, .map none] 126)
 have hb2 := hb1.alloc (by first | (simp; done) | (simp; omega)) (.map #[] 0)
 have hb3 := hb2.alloc (by first | (simp; done) | (simp; omega)) (.cells #[.int .i64 0, .string (bs t.s), .int .i64 0, .slice none 0 0, .int .i64 0, .map (some (w.heap.size + 1 + 1))] 126)
 have bN := ((below_alloc9 _ (.cells #[.int .i64 0, .string (bs t.s), .int .i64 0, .slice none 0 0, .int .i64 0, .map (some (w.heap.size + 1 + 1))] 126)).block w.heap.size (by first | (simp; done) | (simp; omega))).trans (((below_alloc9 _ (.map #[] 0)).block w.heap.size (by first | (simp; done) | (simp; omega))).trans (((below_alloc9 (w.alloc (.cells #[.int .i64 t.op, .string (bs t.s), .int .i64 t.n, .slice A (r + 1) c, .int .i64 t.line] 24)) (.cells #[.int .i64 0, .string ⟨#[]⟩, .int .i64 0, .slice none 0 0, .int .i64 0, .map none] 126)).block w.heap.size (by simp)).trans (heap_alloc_new w _)))
 have bR := ((below_alloc9 _ (.cells #[.int .i64 0, .string (bs t.s), .int .i64 0, .slice none 0 0, .int .i64 0, .map (some (w.heap.size + 1 + 1))] 126)).block (w.alloc (.cells #[.int .i64 t.op, .string (bs t.s), .int .i64 t.n, .slice A (r + 1) c, .int .i64 t.line] 24)).heap.size (by first | (simp; done) | (simp; omega))).trans (((below_alloc9 _ (.map #[] 0)).block (w.alloc (.cells #[.int .i64 t.op, .string (bs t.s), .int .i64 t.n, .slice A (r + 1) c, .int .i64 t.line] 24)).heap.size (by simp)).trans (heap_alloc_new (w.alloc (.cells #[.int .i64 t.op, .string (bs t.s), .int .i64 t.n, .slice A (r + 1) c, .int .i64 t.line] 24)) (.cells #[.int .i64 0, .string ⟨#[]⟩, .int .i64 0, .slice none 0 0, .int .i64 0, .map none] 126)))
 have bF := heap_alloc_new (((w.alloc (.cells #[.int .i64 t.op, .string (bs t.s), .int .i64 t.n, .slice A (r + 1) c, .int .i64 t.line] 24)).alloc (.cells #[.int .i64 0, .string ⟨#[]⟩, .int .i64 0, .slice none 0 0, .int .i64 0, .map none] 126)).alloc (.map #[] 0)) (.cells #[.int .i64 0, .string (bs t.s), .int .i64 0, .slice none 0 0, .int .i64 0, .map (some (w.heap.size + 1 + 1))] 126)
 have hmp := (PlacesAt.made ((w.alloc (.cells #[.int .i64 t.op, .string (bs t.s), .int .i64 t.n, .slice A (r + 1) c, .int .i64 t.line] 24)).alloc (.cells #[.int .i64 0, .string ⟨#[]⟩, .int .i64 0, .slice none 0 0, .int .i64 0, .map none] 126))).keep (W' := ((((w.alloc (.cells #[.int .i64 t.op, .string (bs t.s), .int .i64 t.n, .slice A (r + 1) c, .int .i64 t.line] 24)).alloc (.cells #[.int .i64 0, .string ⟨#[]⟩, .int .i64 0, .slice none 0 0, .int .i64 0, .map none] 126)).alloc (.map #[] 0)).alloc (.cells #[.int .i64 0, .string (bs t.s), .int .i64 0, .slice none 0 0, .int .i64 0, .map (some (w.heap.size + 1 + 1))] 126))) ((below_alloc9 _ (.cells #[.int .i64 0, .string (bs t.s), .int .i64 0, .slice none 0 0, .int .i64 0, .map (some (w.heap.size + 1 + 1))] 126)).block _ (by simp))
 have hzz : ((((w.alloc (.cells #[.int .i64 t.op, .string (bs t.s), .int .i64 t.n, .slice A (r + 1) c, .int .i64 t.line] 24)).alloc (.cells #[.int .i64 0, .string ⟨#[]⟩, .int .i64 0, .slice none 0 0, .int .i64 0, .map none] 126)).alloc (.map #[] 0)).alloc (.cells #[.int .i64 0, .string (bs t.s), .int .i64 0, .slice none 0 0, .int .i64 0, .map (some (w.heap.size + 1 + 1))] 126)).heap.size = w.heap.size + 1 + 1 + 1 + 1 := by simp
 simp only [World.size_alloc] at bR bF hmp
 obtain ⟨W0, eW⟩ : ∃ W, ((((w.alloc (.cells #[.int .i64 t.op, .string (bs t.s), .int .i64 t.n, .slice A (r + 1) c, .int .i64 t.line] 24)).alloc (.cells #[.int .i64 0, .string ⟨#[]⟩, .int .i64 0, .slice none 0 0, .int .i64 0, .map none] 126)).alloc (.map #[] 0)).alloc (.cells #[.int .i64 0, .string (bs t.s), .int .i64 0, .slice none 0 0, .int .i64 0, .map (some (w.heap.size + 1 + 1))] 126)) = W := ⟨_, rfl⟩
 rw [eW] at bN bR bF hmp hb3 hzz ⊢
 obtain ⟨m, em⟩ : ∃ m, w.heap.size + 1 + 1 = m := ⟨_, rfl⟩
 rw [em] at bF hmp hzz ⊢
 have hop : OpenAt W0 (m + 1) m (m + 2) 0 t.s 0 0 [] := ⟨⟨_, bF, rfl, .inl ⟨rfl, rfl⟩⟩, hmp, by omega⟩
 have HW := Lib.hid (And.intro bN (And.intro bR (And.intro hb3 hzz)))
 have HOp := Lib.hid hop
 clear eW bN bR bF hmp hb0 hb1 hb2 hb3 hop
 gi_loopw [22] (fun i wr => ∃ k : Nat, k ≤ r ∧ i = .int .i64 k ∧ OpenAt wr (m + 1) m (m + 2) 0 t.s 0 0 (pars (t.l.take k)) ∧ Only (fun q => q = m + 1 ∨ q = m ∨ m + 2 ≤ q) W0 wr) (fun i _ => r - (intOf i).toNat)
 case atStart => exact ⟨0, Nat.zero_le _, rfl, HOp.out, Only.refl _ _⟩
 case round =>
  obtain ⟨k, hk, rfl, hop, hon⟩ := hrel
  have HO := Lib.hid (And.intro hop hon)
  clear hop hon
  by_cases hlt : k < r
  ·obtain ⟨g, off, p, A', c', rfl, hSg, hp, hT, x0, x1, x2, x3, x4⟩ := part_get HR.out.1 k (by omega)
   have hgl := HR.out.2.2.2 g hSg
   have hwb : ∀ i, i < w.heap.size → wr.heap[i]? = w.heap[i]? := fun i hi => (HO.out.2.block i (by have := HW.out.2.2.1.size; omega) (by omega)).trans (HW.out.2.2.1.block i hi)
   have hcb := cell_block (hwb g hgl)
   rw [← hcb ⟨g, off + k * 5, none⟩ rfl] at x0
   rw [← hcb ⟨g, off + k * 5 + 1, none⟩ rfl] at x1
   rw [← hcb ⟨g, off + k * 5 + 2, none⟩ rfl] at x2
   rw [← hcb ⟨g, off + k * 5 + 3, none⟩ rfl] at x3
   rw [← hcb ⟨g, off + k * 5 + 4, none⟩ rfl] at x4
   have g1 : (k : Int) < r := by omega
   have hal := below_alloc9 wr (.cells #[.int .i64 p.op, .string (bs p.s), .int .i64 p.n, .slice A' p.l.length c', .int .i64 p.line] 24)
   have hzr := HO.out.2.size
   have hpl := pars_len t.l k
   have HD := Lib.hid (declare_any p.s _ (HO.out.1.below hal) (by simp; omega) (by obtain ⟨A9, c9, -, -, hf⟩ := hT.form; exact hf.1) (by omega))
   have HP := Lib.hid (And.intro (pars_take hp) (HO.out.2.trans' (Only.of_below hal)))
   clear hT hcb hwb hgl hal hpl hp hzr
   gi_wp2_with fail
   refine ⟨trivial, fun h => absurd h (by simp [Fence.wide]), ?_⟩
   gi_at_call 141
   refine (callsIn_wide.2 HD.out).mono ?_
   rintro e w1 ⟨rfl, hop1, hon1, -, -⟩
   have HE := Lib.hid (And.intro hop1 (HP.out.2.trans' hon1))
   clear hop1 hon1
   gi_wp2
   go_roundw
   case rel => exact ⟨k + 1, by omega, by go_num, by rw [HP.out.1]; exact HE.out.1, HE.out.2⟩
   case measure => simp [intOf]; omega
  ·obtain rfl : k = r := by omega
   have g1 : ¬ (k : Int) < k := by omega
   obtain ⟨ps, hps⟩ : ∃ ps, pars (t.l.take k) = ps := ⟨_, rfl⟩
   have hpl := pars_len t.l k
   rw [hps] at HO hpl
   obtain ⟨Av, cv, hbx, -, hcv, hcm⟩ := HO.out.1.form
   have hcv2 : cv ≤ 9223372036854775807 := hcm
   have y2 := cell_of_row wr (m + 1) 2 _ _ _ hbx
   have y3 := cell_of_row wr (m + 1) 3 _ _ _ hbx
   have z2 := frozen_of_row wr (m + 1) 2 _ _ hbx
   simp at y2 y3
   obtain ⟨W2, e2⟩ : ∃ W, wr.setCell ⟨m + 1, 2, none⟩ (.int .i64 ps.length) = W := ⟨_, rfl⟩
   have hO2 : Only (fun q => q = m + 1 ∨ q = m ∨ m + 2 ≤ q) wr W2 := by rw [← e2]; exact Only.setCell wr (.inl rfl) 2 _
   have hop2 : OpenAt W2 (m + 1) m (m + 2) 0 t.s ps.length 0 ps := by
    have hne := HO.out.1.ne
    obtain ⟨Aw, cw, hb9, hr9, -, -⟩ := HO.out.1.form
    rw [← e2]
    refine ⟨⟨_, by have := blk_set hb9 2 (.int .i64 ps.length); simpa using this, hr9.1, hr9.2.imp id fun ⟨g, cap, cur, k1, k2, k3, k4⟩ => ⟨g, cap, cur, k1, k2, (heap_setCell_other wr ⟨m + 1, 2, none⟩ g _ (by show g ≠ m + 1; omega)).trans k3, k4⟩⟩, HO.out.1.map.keep (heap_setCell_other wr ⟨m + 1, 2, none⟩ m _ hne.1), hne⟩
   have hon2 := HO.out.2.trans' hO2
   obtain ⟨g, off, b, A', c', rfl, hSg, hp, hT, xc0, xc1, xc2, xc3, xc4⟩ := part_get HR.out.1 k (by omega)
   have HF := Lib.hid (fun (W3 : World) (hon : Only (fun q => q = m + 1 ∨ q = m ∨ m + 2 ≤ q) W0 W3) => show W3.heap[w.heap.size]? = W0.heap[w.heap.size]? ∧ ∀ i, i < w.heap.size → W3.heap[i]? = w.heap[i]? from
    ⟨hon.block _ (by have := HW.out.2.2.2; omega) (by omega), fun i hi => (hon.block i (by have := HW.out.2.2.2; omega) (by omega)).trans (HW.out.2.2.1.block i hi)⟩)
   obtain ⟨q1, q2⟩ := HF.out W2 hon2
   have bN2 := q1.trans HW.out.1
   have n0 := cell_of_row W2 _ 0 _ _ _ bN2
   have n1 := cell_of_row W2 _ 1 _ _ _ bN2
   simp at n0 n1
   have HO2 := Lib.hid (And.intro hop2 hon2)
   have HPp := Lib.hid (And.intro hps (And.intro hp (And.intro hSg (And.intro hT (And.intro xc0 (And.intro xc1 (And.intro xc2 (And.intro xc3 xc4))))))))
   have hz2 : m + 2 ≤ W2.heap.size := by have := hon2.size; have := HW.out.2.2.2; omega
   clear hps hbx hcm hO2 hop2 hon2 hp hSg hT q1 q2 bN2 xc0 xc1 xc2 xc3 xc4
   have hcase : ((t.op == 10) = true ∧ (bs t.s).toList.isEmpty = false ∧ (t.op = 10 ∧ t.s ≠ [])) ∨ ((t.op == 10) = true ∧ (bs t.s).toList.isEmpty = true ∧ ¬ (t.op = 10 ∧ t.s ≠ [])) ∨ ((t.op == 10) = false ∧ ¬ (t.op = 10 ∧ t.s ≠ [])) := by
    by_cases h1 : t.op = 10
    ·by_cases h2 : t.s = []
     ·exact .inr (.inl ⟨by simp [h1], by rw [Lib.toList_data, bs_list, h2]; rfl, fun h => h.2 h2⟩)
     ·refine .inl ⟨by simp [h1], ?_, h1, h2⟩
      rw [Lib.toList_data, bs_list, List.isEmpty_eq_false_iff]
      exact h2
    ·exact .inr (.inr ⟨by simp [h1], fun h => h1 h.1⟩)
   obtain ⟨own, hown⟩ : ∃ own, (if t.op = 10 ∧ t.s ≠ [] then withN ps t.s else ps) = own := ⟨_, rfl⟩
   have HDc := Lib.hid (declare_any t.s W2 HO2.out.1 hz2 HR.out.2.1.1 (by omega))
   rcases hcase with ⟨e10, es, hc⟩ | ⟨e10, es, hc⟩ | ⟨e10, hc⟩
   case inl =>
    rw [if_pos hc] at hown
    have HOw2 := Lib.hid (show (if t.op = 10 ∧ t.s ≠ [] then withN ps t.s else ps) = own by rw [if_pos hc]; exact hown)
    have hol : own.length ≤ 50001 := by rw [← hown]; have := withN_le ps t.s; omega
    have HOw := Lib.hid hown
    clear hc hown
    gi_wp2_with fail
    refine ⟨trivial, fun h => absurd h (by simp [Fence.wide]), ?_⟩
    gi_at_call 141
    refine (callsIn_wide.2 HDc.out).mono ?_
    rintro e W3 ⟨rfl, hop3, hon3, -, -⟩
    rw [HOw.out] at hop3
    have HE := Lib.hid (And.intro hop3 (HO2.out.2.trans' hon3))
    clear hop3 hon3 HOw HDc HO2 n0 n1 y2 y3 z2 e2 hz2
    obtain ⟨q1, q2⟩ := HF.out W3 HE.out.2
    have bN3 := q1.trans HW.out.1
    have n3 := cell_of_row W3 _ 3 _ _ _ bN3
    simp at n3
    have hcb := cell_block (q2 g (HR.out.2.2.2 g HPp.out.2.2.1))
    have x0 := (hcb ⟨g, off + k * 5, none⟩ rfl).trans HPp.out.2.2.2.2.1
    have x1 := (hcb ⟨g, off + k * 5 + 1, none⟩ rfl).trans HPp.out.2.2.2.2.2.1
    have x2 := (hcb ⟨g, off + k * 5 + 2, none⟩ rfl).trans HPp.out.2.2.2.2.2.2.1
    have x3 := (hcb ⟨g, off + k * 5 + 3, none⟩ rfl).trans HPp.out.2.2.2.2.2.2.2.1
    have x4 := (hcb ⟨g, off + k * 5 + 4, none⟩ rfl).trans HPp.out.2.2.2.2.2.2.2.2
    clear q1 q2 bN3 hcb
    gi_upto_region 11 with fail
    gi_cut [52] from 4 (fun s52 wc => s52 = .func (.func 149) #[] #[.pointer (some ⟨W3.heap.size, 0, none⟩)] ∧ wc = W3.alloc (.cells #[.int .i64 b.op, .string (bs b.s), .int .i64 b.n, .slice A' b.l.length c', .int .i64 b.line] 24))
    case first =>
     gi_wp2_with fail
     refine ⟨trivial, fun h => absurd h (by simp [Fence.wide]), ?_⟩
     gi_at_call 142
     refine (declared_in _ b A' c' W3).mono ?_
     rintro e w' ⟨rfl, rfl⟩
     gi_wp2
     gi_meet
     case rel => exact ⟨rfl, rfl⟩
    case rest =>
    obtain ⟨rfl, rfl⟩ := hcut
    gi_wp2
    have hal4 := below_alloc9 W3 (.cells #[.int .i64 b.op, .string (bs b.s), .int .i64 b.n, .slice A' b.l.length c', .int .i64 b.line] 24)
    have hbx4 := heap_alloc_new W3 (.cells #[.int .i64 b.op, .string (bs b.s), .int .i64 b.n, .slice A' b.l.length c', .int .i64 b.line] 24)
    obtain ⟨W4, e4⟩ : ∃ W, W3.alloc (.cells #[.int .i64 b.op, .string (bs b.s), .int .i64 b.n, .slice A' b.l.length c', .int .i64 b.line] 24) = W := ⟨_, rfl⟩
    have hz4 : W4.heap.size = W3.heap.size + 1 := by rw [← e4]; simp
    rw [e4] at hal4 hbx4 ⊢
    have hz3 := HE.out.2.size
    have hzw := HW.out.2.2.2
    have hwb4 : Below w.heap.size w W4 := HW.out.2.2.1.trans ((HE.out.2.to_below (by omega) (fun i hi hlt => by omega)).trans (hal4.mono (by omega)))
    have hT := HPp.out.2.2.2.1
    have hbz : b.size ≤ 50000 := by have h1 := size_part (t := t) (List.mem_of_getElem? HPp.out.2.1); have := HR.out.2.2.1; omega
    have hfin : ∀ s ∈ declS b, s.length ≤ maxLen := by
     obtain ⟨xl, hx1, -, hx3⟩ := hT
     rw [← hx1]
     exact declS_fine xl hx3
    have hdl := declS_len b
    refine wpIn_rangeRowsK (mine := mineO m) (K := fun _ _ => True) rfl (by omega) (gf := 149) (lb := #[.pointer (some ⟨W3.heap.size, 0, none⟩)]) rfl trivial (enters_of Tryz.func149 (by kernel_rfl) rfl)
     (encs := fun x : Bs => #[.string (bs x)]) (xs := declS b) (w0 := W4)
     (declared_seq (n - 1) W3.heap.size b A' c' w S (mineO m) W4 hT HR.out.2.2.2 (by omega) (fun _ k hk => by have := hk.1; omega) hbx4 hwb4) (Below.refl _ _) (fun _ => rfl)
     (fun pre W => OpenAt W (m + 1) m (m + 2) 0 t.s ps.length 0 (pre.foldl withN own) ∧ Only (fun q => q = m + 1 ∨ q = m ∨ m + 2 ≤ q) W0 W)
     (fun _ _ _ => False)
     (fun _ _ _ => trivial)
     (fun pre A B h g => ⟨h.1.it g (by omega), ⟨g.os.trans h.2.os, g.tape.trans h.2.tape, g.output.trans h.2.output, Nat.le_trans h.2.size g.size, fun i hi hf => (g.keep i (by have := h.2.size; omega) (.inl (by omega))).trans (h.2.block i hi hf)⟩⟩)
     (fun c pre A B h g => h)
     (fun pre A k h hk => h.1.mine hk) (fun c pre A k h hk => h.elim) (fun A B k g h => mineO_it (by omega) g k h)
     ⟨HE.out.1.below hal4, HE.out.2.trans' (Only.of_below hal4)⟩
     (fun x a' W => a' = { tmps := #[.agg #[.int .i64 t.op, .string (bs t.s), .int .i64 t.n, .slice (some ⟨g, off, none⟩) (k + 1) c, .int .i64 t.line], .pointer (some ⟨w.heap.size, 0, none⟩), .pointer (some ⟨w.heap.size + 1, 0, none⟩), .pointer (some ⟨m + 1, 0, none⟩), u4, u5, u6, .string (bs x), u8, u9, u10, u11, u12, u13, u14, u15, u16, u17, u18, u19, u20, u21, u22, u23, u24, u25, u26, u27, u28, u29, u30, u31, u32, u33, u34, u35, u36, u37, u38, u39, u40, u41, u42, u43, u44, u45, u46, u47, u48, u49, u50, u51, .func (.func 149) #[] #[.pointer (some ⟨W3.heap.size, 0, none⟩)], .string (bs x), u54, u55, u56], defers := [] })
     (fun x a' A B h g => h)
     ?assign ?body ?done ?stop
    case assign =>
     rintro l' pre x W K' hI hpre hK
     gi_wp2
     exact hK _ _ (Below.refl _ _) rfl
    case body =>
     rintro l' pre x a' W hl hI rfl hpre
     have hxm : x ∈ declS b := by obtain ⟨r9, hr9⟩ := hpre; rw [← hr9]; simp
     have hpl9 : (pre.foldl withN own).length ≤ 100000 := by
      have h1 := foldN_len pre own
      obtain ⟨r9, hr9⟩ := hpre
      have h2 := congrArg List.length hr9
      simp at h2
      omega
     have HDd := Lib.hid (declare_any x W hI.1 (by have := hI.1.lt; omega) (hfin x hxm) hpl9)
     have HI9 := Lib.hid hI
     clear hI hpre hxm hpl9 hfin hT
     gi_wp2_with fail
     refine ⟨trivial, fun h => absurd h (by simp [Fence.wide]), ?_⟩
     gi_at_call 141
     refine (CallsIn.inRound l' (callsIn_wide.2 HDd.out)).mono ?_
     rintro e w2 ⟨rfl, hop, hon, hon2, hnew⟩
     have HX := Lib.hid (And.intro (HI9.out.1.round hon2 hnew) (And.intro hop (HI9.out.2.trans' hon)))
     clear hop hon hon2 hnew
     gi_wp2
     refine ⟨HX.out.1, ?_, HX.out.2.2⟩
     rw [List.foldl_append]
     exact HX.out.2.1
    case done =>
     rintro D W hD hI hK
     have HI9 := Lib.hid hI
     clear hI hfin hT hol hdl
     obtain ⟨Az, cz, hbz, hrz, -, -⟩ := HI9.out.1.form
     have c0 := cell_of_row W (m + 1) 0 _ _ _ hbz
     have c1 := cell_of_row W (m + 1) 1 _ _ _ hbz
     have c2 := cell_of_row W (m + 1) 2 _ _ _ hbz
     have c3 := cell_of_row W (m + 1) 3 _ _ _ hbz
     have c4 := cell_of_row W (m + 1) 4 _ _ _ hbz
     have c5 := cell_of_row W (m + 1) 5 _ _ _ hbz
     have bR9 := (HI9.out.2.block (w.heap.size + 1) (by omega) (by omega)).trans HW.out.2.1
     have r0 := cell_of_row W (w.heap.size + 1) 0 _ _ _ bR9
     have r1 := cell_of_row W (w.heap.size + 1) 1 _ _ _ bR9
     have r2 := cell_of_row W (w.heap.size + 1) 2 _ _ _ bR9
     have r3 := cell_of_row W (w.heap.size + 1) 3 _ _ _ bR9
     have r4 := cell_of_row W (w.heap.size + 1) 4 _ _ _ bR9
     have r5 := cell_of_row W (w.heap.size + 1) 5 _ _ _ bR9
     have f0 := frozen_of_row W (w.heap.size + 1) 0 _ _ bR9
     have f1 := frozen_of_row W (w.heap.size + 1) 1 _ _ bR9
     have f2 := frozen_of_row W (w.heap.size + 1) 2 _ _ bR9
     have f3 := frozen_of_row W (w.heap.size + 1) 3 _ _ bR9
     have f4 := frozen_of_row W (w.heap.size + 1) 4 _ _ bR9
     have f5 := frozen_of_row W (w.heap.size + 1) 5 _ _ bR9
     simp at c0 c1 c2 c3 c4 c5 r0 r1 r2 r3 r4 r5
     have HFin := Lib.hid (opened_fin (D := D) em HI9.out.1 hrz HW.out.2.2.1 HI9.out.2 HW.out.2.2.2 bR9 hK (by omega) rfl rfl)
     have HoF := Lib.hid (openF_last hr HPp.out.2.1 HPp.out.1 HOw2.out 0 0)
     clear hbz hrz bR9 e4 hbx4 hal4 n3 x0 x1 x2 x3 x4 hK
     gi_wp2
     refine ⟨by simp, .inl ⟨_, _, rfl, run_takeDeferred HFin.out.1, ?_⟩⟩
     have t0 := cell_of_row _ _ 0 _ _ _ HFin.out.2.1
     have t1 := cell_of_row _ _ 1 _ _ _ HFin.out.2.1
     have t2 := cell_of_row _ _ 2 _ _ _ HFin.out.2.1
     have t3 := cell_of_row _ _ 3 _ _ _ HFin.out.2.1
     have t4 := cell_of_row _ _ 4 _ _ _ HFin.out.2.1
     have t5 := cell_of_row _ _ 5 _ _ _ HFin.out.2.1
     simp only [List.getElem?_toArray, List.getElem?_cons_zero, List.getElem?_cons_succ] at t0 t1 t2 t3 t4 t5
     refine ⟨_, results_fn _ _ _ rfl rfl HFin.out.2.1, _, rfl, ?_⟩
     rw [HoF.out]
     exact HFin.out.2.2
    case stop =>
     rintro D c pre W hD hpre hI hK
     exact hI.elim
   case inr.inl =>
    rw [if_neg hc] at hown
    have HOw2 := Lib.hid (show (if t.op = 10 ∧ t.s ≠ [] then withN ps t.s else ps) = own by rw [if_neg hc]; exact hown)
    have hol : own.length ≤ 50001 := by rw [← hown]; omega
    have HE := Lib.hid (show OpenAt W2 (m + 1) m (m + 2) 0 t.s ps.length 0 own ∧ Only (fun q => q = m + 1 ∨ q = m ∨ m + 2 ≤ q) W0 W2 from ⟨by rw [← hown]; exact HO2.out.1, HO2.out.2⟩)
    clear hc hown HDc HO2
    obtain ⟨q1, q2⟩ := HF.out W2 HE.out.2
    have bN3 := q1.trans HW.out.1
    have n3 := cell_of_row W2 _ 3 _ _ _ bN3
    simp at n3
    have hcb := cell_block (q2 g (HR.out.2.2.2 g HPp.out.2.2.1))
    have x0 := (hcb ⟨g, off + k * 5, none⟩ rfl).trans HPp.out.2.2.2.2.1
    have x1 := (hcb ⟨g, off + k * 5 + 1, none⟩ rfl).trans HPp.out.2.2.2.2.2.1
    have x2 := (hcb ⟨g, off + k * 5 + 2, none⟩ rfl).trans HPp.out.2.2.2.2.2.2.1
    have x3 := (hcb ⟨g, off + k * 5 + 3, none⟩ rfl).trans HPp.out.2.2.2.2.2.2.2.1
    have x4 := (hcb ⟨g, off + k * 5 + 4, none⟩ rfl).trans HPp.out.2.2.2.2.2.2.2.2
    clear q1 q2 bN3 hcb
    gi_upto_region 11 with fail
    clear n0 n1 y2 y3 z2 e2
    gi_cut [52] from 4 (fun s52 wc => s52 = .func (.func 149) #[] #[.pointer (some ⟨W2.heap.size, 0, none⟩)] ∧ wc = W2.alloc (.cells #[.int .i64 b.op, .string (bs b.s), .int .i64 b.n, .slice A' b.l.length c', .int .i64 b.line] 24))
    case first =>
     gi_wp2_with fail
     refine ⟨trivial, fun h => absurd h (by simp [Fence.wide]), ?_⟩
     gi_at_call 142
     refine (declared_in _ b A' c' W2).mono ?_
     rintro e w' ⟨rfl, rfl⟩
     gi_wp2
     gi_meet
     case rel => exact ⟨rfl, rfl⟩
    case rest =>
    obtain ⟨rfl, rfl⟩ := hcut
    gi_wp2
    have hal4 := below_alloc9 W2 (.cells #[.int .i64 b.op, .string (bs b.s), .int .i64 b.n, .slice A' b.l.length c', .int .i64 b.line] 24)
    have hbx4 := heap_alloc_new W2 (.cells #[.int .i64 b.op, .string (bs b.s), .int .i64 b.n, .slice A' b.l.length c', .int .i64 b.line] 24)
    obtain ⟨W4, e4⟩ : ∃ W, W2.alloc (.cells #[.int .i64 b.op, .string (bs b.s), .int .i64 b.n, .slice A' b.l.length c', .int .i64 b.line] 24) = W := ⟨_, rfl⟩
    have hz4 : W4.heap.size = W2.heap.size + 1 := by rw [← e4]; simp
    rw [e4] at hal4 hbx4 ⊢
    have hz3 := HE.out.2.size
    have hzw := HW.out.2.2.2
    have hwb4 : Below w.heap.size w W4 := HW.out.2.2.1.trans ((HE.out.2.to_below (by omega) (fun i hi hlt => by omega)).trans (hal4.mono (by omega)))
    have hT := HPp.out.2.2.2.1
    have hbz : b.size ≤ 50000 := by have h1 := size_part (t := t) (List.mem_of_getElem? HPp.out.2.1); have := HR.out.2.2.1; omega
    have hfin : ∀ s ∈ declS b, s.length ≤ maxLen := by
     obtain ⟨xl, hx1, -, hx3⟩ := hT
     rw [← hx1]
     exact declS_fine xl hx3
    have hdl := declS_len b
    refine wpIn_rangeRowsK (mine := mineO m) (K := fun _ _ => True) rfl (by omega) (gf := 149) (lb := #[.pointer (some ⟨W2.heap.size, 0, none⟩)]) rfl trivial (enters_of Tryz.func149 (by kernel_rfl) rfl)
     (encs := fun x : Bs => #[.string (bs x)]) (xs := declS b) (w0 := W4)
     (declared_seq (n - 1) W2.heap.size b A' c' w S (mineO m) W4 hT HR.out.2.2.2 (by omega) (fun _ k hk => by have := hk.1; omega) hbx4 hwb4) (Below.refl _ _) (fun _ => rfl)
     (fun pre W => OpenAt W (m + 1) m (m + 2) 0 t.s ps.length 0 (pre.foldl withN own) ∧ Only (fun q => q = m + 1 ∨ q = m ∨ m + 2 ≤ q) W0 W)
     (fun _ _ _ => False)
     (fun _ _ _ => trivial)
     (fun pre A B h g => ⟨h.1.it g (by omega), ⟨g.os.trans h.2.os, g.tape.trans h.2.tape, g.output.trans h.2.output, Nat.le_trans h.2.size g.size, fun i hi hf => (g.keep i (by have := h.2.size; omega) (.inl (by omega))).trans (h.2.block i hi hf)⟩⟩)
     (fun c pre A B h g => h)
     (fun pre A k h hk => h.1.mine hk) (fun c pre A k h hk => h.elim) (fun A B k g h => mineO_it (by omega) g k h)
     ⟨HE.out.1.below hal4, HE.out.2.trans' (Only.of_below hal4)⟩
     (fun x a' W => a' = { tmps := #[.agg #[.int .i64 t.op, .string (bs t.s), .int .i64 t.n, .slice (some ⟨g, off, none⟩) (k + 1) c, .int .i64 t.line], .pointer (some ⟨w.heap.size, 0, none⟩), .pointer (some ⟨w.heap.size + 1, 0, none⟩), .pointer (some ⟨m + 1, 0, none⟩), u4, u5, u6, .string (bs x), u8, u9, u10, u11, u12, u13, u14, u15, u16, u17, u18, u19, u20, u21, u22, u23, u24, u25, u26, u27, u28, u29, u30, u31, u32, u33, u34, u35, u36, u37, u38, u39, u40, u41, u42, u43, u44, u45, u46, u47, u48, u49, u50, u51, .func (.func 149) #[] #[.pointer (some ⟨W2.heap.size, 0, none⟩)], .string (bs x), u54, u55, u56], defers := [] })
     (fun x a' A B h g => h)
     ?assign ?body ?done ?stop
    case assign =>
     rintro l' pre x W K' hI hpre hK
     gi_wp2
     exact hK _ _ (Below.refl _ _) rfl
    case body =>
     rintro l' pre x a' W hl hI rfl hpre
     have hxm : x ∈ declS b := by obtain ⟨r9, hr9⟩ := hpre; rw [← hr9]; simp
     have hpl9 : (pre.foldl withN own).length ≤ 100000 := by
      have h1 := foldN_len pre own
      obtain ⟨r9, hr9⟩ := hpre
      have h2 := congrArg List.length hr9
      simp at h2
      omega
     have HDd := Lib.hid (declare_any x W hI.1 (by have := hI.1.lt; omega) (hfin x hxm) hpl9)
     have HI9 := Lib.hid hI
     clear hI hpre hxm hpl9 hfin hT
     gi_wp2_with fail
     refine ⟨trivial, fun h => absurd h (by simp [Fence.wide]), ?_⟩
     gi_at_call 141
     refine (CallsIn.inRound l' (callsIn_wide.2 HDd.out)).mono ?_
     rintro e w2 ⟨rfl, hop, hon, hon2, hnew⟩
     have HX := Lib.hid (And.intro (HI9.out.1.round hon2 hnew) (And.intro hop (HI9.out.2.trans' hon)))
     clear hop hon hon2 hnew
     gi_wp2
     refine ⟨HX.out.1, ?_, HX.out.2.2⟩
     rw [List.foldl_append]
     exact HX.out.2.1
    case done =>
     rintro D W hD hI hK
     have HI9 := Lib.hid hI
     clear hI hfin hT hol hdl
     obtain ⟨Az, cz, hbz, hrz, -, -⟩ := HI9.out.1.form
     have c0 := cell_of_row W (m + 1) 0 _ _ _ hbz
     have c1 := cell_of_row W (m + 1) 1 _ _ _ hbz
     have c2 := cell_of_row W (m + 1) 2 _ _ _ hbz
     have c3 := cell_of_row W (m + 1) 3 _ _ _ hbz
     have c4 := cell_of_row W (m + 1) 4 _ _ _ hbz
     have c5 := cell_of_row W (m + 1) 5 _ _ _ hbz
     have bR9 := (HI9.out.2.block (w.heap.size + 1) (by omega) (by omega)).trans HW.out.2.1
     have r0 := cell_of_row W (w.heap.size + 1) 0 _ _ _ bR9
     have r1 := cell_of_row W (w.heap.size + 1) 1 _ _ _ bR9
     have r2 := cell_of_row W (w.heap.size + 1) 2 _ _ _ bR9
     have r3 := cell_of_row W (w.heap.size + 1) 3 _ _ _ bR9
     have r4 := cell_of_row W (w.heap.size + 1) 4 _ _ _ bR9
     have r5 := cell_of_row W (w.heap.size + 1) 5 _ _ _ bR9
     have f0 := frozen_of_row W (w.heap.size + 1) 0 _ _ bR9
     have f1 := frozen_of_row W (w.heap.size + 1) 1 _ _ bR9
     have f2 := frozen_of_row W (w.heap.size + 1) 2 _ _ bR9
     have f3 := frozen_of_row W (w.heap.size + 1) 3 _ _ bR9
     have f4 := frozen_of_row W (w.heap.size + 1) 4 _ _ bR9
     have f5 := frozen_of_row W (w.heap.size + 1) 5 _ _ bR9
     simp at c0 c1 c2 c3 c4 c5 r0 r1 r2 r3 r4 r5
     have HFin := Lib.hid (opened_fin (D := D) em HI9.out.1 hrz HW.out.2.2.1 HI9.out.2 HW.out.2.2.2 bR9 hK (by omega) rfl rfl)
     have HoF := Lib.hid (openF_last hr HPp.out.2.1 HPp.out.1 HOw2.out 0 0)
     clear hbz hrz bR9 e4 hbx4 hal4 n3 x0 x1 x2 x3 x4 hK
     gi_wp2
     refine ⟨by simp, .inl ⟨_, _, rfl, run_takeDeferred HFin.out.1, ?_⟩⟩
     have t0 := cell_of_row _ _ 0 _ _ _ HFin.out.2.1
     have t1 := cell_of_row _ _ 1 _ _ _ HFin.out.2.1
     have t2 := cell_of_row _ _ 2 _ _ _ HFin.out.2.1
     have t3 := cell_of_row _ _ 3 _ _ _ HFin.out.2.1
     have t4 := cell_of_row _ _ 4 _ _ _ HFin.out.2.1
     have t5 := cell_of_row _ _ 5 _ _ _ HFin.out.2.1
     simp only [List.getElem?_toArray, List.getElem?_cons_zero, List.getElem?_cons_succ] at t0 t1 t2 t3 t4 t5
     refine ⟨_, results_fn _ _ _ rfl rfl HFin.out.2.1, _, rfl, ?_⟩
     rw [HoF.out]
     exact HFin.out.2.2
    case stop =>
     rintro D c pre W hD hpre hI hK
     exact hI.elim
   case inr.inr =>
    rw [if_neg hc] at hown
    have HOw2 := Lib.hid (show (if t.op = 10 ∧ t.s ≠ [] then withN ps t.s else ps) = own by rw [if_neg hc]; exact hown)
    have hol : own.length ≤ 50001 := by rw [← hown]; omega
    have HE := Lib.hid (show OpenAt W2 (m + 1) m (m + 2) 0 t.s ps.length 0 own ∧ Only (fun q => q = m + 1 ∨ q = m ∨ m + 2 ≤ q) W0 W2 from ⟨by rw [← hown]; exact HO2.out.1, HO2.out.2⟩)
    clear hc hown HDc HO2
    obtain ⟨q1, q2⟩ := HF.out W2 HE.out.2
    have bN3 := q1.trans HW.out.1
    have n3 := cell_of_row W2 _ 3 _ _ _ bN3
    simp at n3
    have hcb := cell_block (q2 g (HR.out.2.2.2 g HPp.out.2.2.1))
    have x0 := (hcb ⟨g, off + k * 5, none⟩ rfl).trans HPp.out.2.2.2.2.1
    have x1 := (hcb ⟨g, off + k * 5 + 1, none⟩ rfl).trans HPp.out.2.2.2.2.2.1
    have x2 := (hcb ⟨g, off + k * 5 + 2, none⟩ rfl).trans HPp.out.2.2.2.2.2.2.1
    have x3 := (hcb ⟨g, off + k * 5 + 3, none⟩ rfl).trans HPp.out.2.2.2.2.2.2.2.1
    have x4 := (hcb ⟨g, off + k * 5 + 4, none⟩ rfl).trans HPp.out.2.2.2.2.2.2.2.2
    clear q1 q2 bN3 hcb
    gi_upto_region 11 with fail
    clear n0 n1 y2 y3 z2 e2
    gi_cut [52] from 4 (fun s52 wc => s52 = .func (.func 149) #[] #[.pointer (some ⟨W2.heap.size, 0, none⟩)] ∧ wc = W2.alloc (.cells #[.int .i64 b.op, .string (bs b.s), .int .i64 b.n, .slice A' b.l.length c', .int .i64 b.line] 24))
    case first =>
     gi_wp2_with fail
     refine ⟨trivial, fun h => absurd h (by simp [Fence.wide]), ?_⟩
     gi_at_call 142
     refine (declared_in _ b A' c' W2).mono ?_
     rintro e w' ⟨rfl, rfl⟩
     gi_wp2
     gi_meet
     case rel => exact ⟨rfl, rfl⟩
    case rest =>
    obtain ⟨rfl, rfl⟩ := hcut
    gi_wp2
    have hal4 := below_alloc9 W2 (.cells #[.int .i64 b.op, .string (bs b.s), .int .i64 b.n, .slice A' b.l.length c', .int .i64 b.line] 24)
    have hbx4 := heap_alloc_new W2 (.cells #[.int .i64 b.op, .string (bs b.s), .int .i64 b.n, .slice A' b.l.length c', .int .i64 b.line] 24)
    obtain ⟨W4, e4⟩ : ∃ W, W2.alloc (.cells #[.int .i64 b.op, .string (bs b.s), .int .i64 b.n, .slice A' b.l.length c', .int .i64 b.line] 24) = W := ⟨_, rfl⟩
    have hz4 : W4.heap.size = W2.heap.size + 1 := by rw [← e4]; simp
    rw [e4] at hal4 hbx4 ⊢
    have hz3 := HE.out.2.size
    have hzw := HW.out.2.2.2
    have hwb4 : Below w.heap.size w W4 := HW.out.2.2.1.trans ((HE.out.2.to_below (by omega) (fun i hi hlt => by omega)).trans (hal4.mono (by omega)))
    have hT := HPp.out.2.2.2.1
    have hbz : b.size ≤ 50000 := by have h1 := size_part (t := t) (List.mem_of_getElem? HPp.out.2.1); have := HR.out.2.2.1; omega
    have hfin : ∀ s ∈ declS b, s.length ≤ maxLen := by
     obtain ⟨xl, hx1, -, hx3⟩ := hT
     rw [← hx1]
     exact declS_fine xl hx3
    have hdl := declS_len b
    refine wpIn_rangeRowsK (mine := mineO m) (K := fun _ _ => True) rfl (by omega) (gf := 149) (lb := #[.pointer (some ⟨W2.heap.size, 0, none⟩)]) rfl trivial (enters_of Tryz.func149 (by kernel_rfl) rfl)
     (encs := fun x : Bs => #[.string (bs x)]) (xs := declS b) (w0 := W4)
     (declared_seq (n - 1) W2.heap.size b A' c' w S (mineO m) W4 hT HR.out.2.2.2 (by omega) (fun _ k hk => by have := hk.1; omega) hbx4 hwb4) (Below.refl _ _) (fun _ => rfl)
     (fun pre W => OpenAt W (m + 1) m (m + 2) 0 t.s ps.length 0 (pre.foldl withN own) ∧ Only (fun q => q = m + 1 ∨ q = m ∨ m + 2 ≤ q) W0 W)
     (fun _ _ _ => False)
     (fun _ _ _ => trivial)
     (fun pre A B h g => ⟨h.1.it g (by omega), ⟨g.os.trans h.2.os, g.tape.trans h.2.tape, g.output.trans h.2.output, Nat.le_trans h.2.size g.size, fun i hi hf => (g.keep i (by have := h.2.size; omega) (.inl (by omega))).trans (h.2.block i hi hf)⟩⟩)
     (fun c pre A B h g => h)
     (fun pre A k h hk => h.1.mine hk) (fun c pre A k h hk => h.elim) (fun A B k g h => mineO_it (by omega) g k h)
     ⟨HE.out.1.below hal4, HE.out.2.trans' (Only.of_below hal4)⟩
     (fun x a' W => a' = { tmps := #[.agg #[.int .i64 t.op, .string (bs t.s), .int .i64 t.n, .slice (some ⟨g, off, none⟩) (k + 1) c, .int .i64 t.line], .pointer (some ⟨w.heap.size, 0, none⟩), .pointer (some ⟨w.heap.size + 1, 0, none⟩), .pointer (some ⟨m + 1, 0, none⟩), u4, u5, u6, .string (bs x), u8, u9, u10, u11, u12, u13, u14, u15, u16, u17, u18, u19, u20, u21, u22, u23, u24, u25, u26, u27, u28, u29, u30, u31, u32, u33, u34, u35, u36, u37, u38, u39, u40, u41, u42, u43, u44, u45, u46, u47, u48, u49, u50, u51, .func (.func 149) #[] #[.pointer (some ⟨W2.heap.size, 0, none⟩)], .string (bs x), u54, u55, u56], defers := [] })
     (fun x a' A B h g => h)
     ?assign ?body ?done ?stop
    case assign =>
     rintro l' pre x W K' hI hpre hK
     gi_wp2
     exact hK _ _ (Below.refl _ _) rfl
    case body =>
     rintro l' pre x a' W hl hI rfl hpre
     have hxm : x ∈ declS b := by obtain ⟨r9, hr9⟩ := hpre; rw [← hr9]; simp
     have hpl9 : (pre.foldl withN own).length ≤ 100000 := by
      have h1 := foldN_len pre own
      obtain ⟨r9, hr9⟩ := hpre
      have h2 := congrArg List.length hr9
      simp at h2
      omega
     have HDd := Lib.hid (declare_any x W hI.1 (by have := hI.1.lt; omega) (hfin x hxm) hpl9)
     have HI9 := Lib.hid hI
     clear hI hpre hxm hpl9 hfin hT
     gi_wp2_with fail
     refine ⟨trivial, fun h => absurd h (by simp [Fence.wide]), ?_⟩
     gi_at_call 141
     refine (CallsIn.inRound l' (callsIn_wide.2 HDd.out)).mono ?_
     rintro e w2 ⟨rfl, hop, hon, hon2, hnew⟩
     have HX := Lib.hid (And.intro (HI9.out.1.round hon2 hnew) (And.intro hop (HI9.out.2.trans' hon)))
     clear hop hon hon2 hnew
     gi_wp2
     refine ⟨HX.out.1, ?_, HX.out.2.2⟩
     rw [List.foldl_append]
     exact HX.out.2.1
    case done =>
     rintro D W hD hI hK
     have HI9 := Lib.hid hI
     clear hI hfin hT hol hdl
     obtain ⟨Az, cz, hbz, hrz, -, -⟩ := HI9.out.1.form
     have c0 := cell_of_row W (m + 1) 0 _ _ _ hbz
     have c1 := cell_of_row W (m + 1) 1 _ _ _ hbz
     have c2 := cell_of_row W (m + 1) 2 _ _ _ hbz
     have c3 := cell_of_row W (m + 1) 3 _ _ _ hbz
     have c4 := cell_of_row W (m + 1) 4 _ _ _ hbz
     have c5 := cell_of_row W (m + 1) 5 _ _ _ hbz
     have bR9 := (HI9.out.2.block (w.heap.size + 1) (by omega) (by omega)).trans HW.out.2.1
     have r0 := cell_of_row W (w.heap.size + 1) 0 _ _ _ bR9
     have r1 := cell_of_row W (w.heap.size + 1) 1 _ _ _ bR9
     have r2 := cell_of_row W (w.heap.size + 1) 2 _ _ _ bR9
     have r3 := cell_of_row W (w.heap.size + 1) 3 _ _ _ bR9
     have r4 := cell_of_row W (w.heap.size + 1) 4 _ _ _ bR9
     have r5 := cell_of_row W (w.heap.size + 1) 5 _ _ _ bR9
     have f0 := frozen_of_row W (w.heap.size + 1) 0 _ _ bR9
     have f1 := frozen_of_row W (w.heap.size + 1) 1 _ _ bR9
     have f2 := frozen_of_row W (w.heap.size + 1) 2 _ _ bR9
     have f3 := frozen_of_row W (w.heap.size + 1) 3 _ _ bR9
     have f4 := frozen_of_row W (w.heap.size + 1) 4 _ _ bR9
     have f5 := frozen_of_row W (w.heap.size + 1) 5 _ _ bR9
     simp at c0 c1 c2 c3 c4 c5 r0 r1 r2 r3 r4 r5
     have HFin := Lib.hid (opened_fin (D := D) em HI9.out.1 hrz HW.out.2.2.1 HI9.out.2 HW.out.2.2.2 bR9 hK (by omega) rfl rfl)
     have HoF := Lib.hid (openF_last hr HPp.out.2.1 HPp.out.1 HOw2.out 0 0)
     clear hbz hrz bR9 e4 hbx4 hal4 n3 x0 x1 x2 x3 x4 hK
     gi_wp2
     refine ⟨by simp, .inl ⟨_, _, rfl, run_takeDeferred HFin.out.1, ?_⟩⟩
     have t0 := cell_of_row _ _ 0 _ _ _ HFin.out.2.1
     have t1 := cell_of_row _ _ 1 _ _ _ HFin.out.2.1
     have t2 := cell_of_row _ _ 2 _ _ _ HFin.out.2.1
     have t3 := cell_of_row _ _ 3 _ _ _ HFin.out.2.1
     have t4 := cell_of_row _ _ 4 _ _ _ HFin.out.2.1
     have t5 := cell_of_row _ _ 5 _ _ _ HFin.out.2.1
     simp only [List.getElem?_toArray, List.getElem?_cons_zero, List.getElem?_cons_succ] at t0 t1 t2 t3 t4 t5
     refine ⟨_, results_fn _ _ _ rfl rfl HFin.out.2.1, _, rfl, ?_⟩
     rw [HoF.out]
     exact HFin.out.2.2
    case stop =>
     rintro D c pre W hD hpre hI hK
     exact hI.elim
end
end Go.Proofs.YtikbfoichhkeaaaGreat
