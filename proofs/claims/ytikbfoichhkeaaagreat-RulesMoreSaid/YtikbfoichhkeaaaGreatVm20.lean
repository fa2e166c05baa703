/- scope.Resolve. -/
import Derived.BigRegion
import Derived.Deep.RegionLaw
import Derived.Deep.AppendLies
import Derived.Deep.Cut
import Derived.Test.YtikbfoichhkeaaaGreatVm18
import Derived.Test.YtikbfoichhkeaaaGreatVm19
set_option linter.unusedSimpArgs false
set_option linter.unusedVariables false
set_option maxRecDepth 100000
set_option maxHeartbeats 40000000
namespace Go.Proofs.YtikbfoichhkeaaaGreat
section
open Go.RowKit Go.Proofs
def noTree : Value := .agg #[.int .i64 0, .string ⟨#[]⟩, .int .i64 0, .slice none 0 0, .int .i64 0]
abbrev setN5 (W : World) (b : Nat) (v0 v1 v2 v3 v4 : Value) : World := ((((W.setCell ⟨b, 0, none⟩ v0).setCell ⟨b, 1, none⟩ v1).setCell ⟨b, 2, none⟩ v2).setCell ⟨b, 3, none⟩ v3).setCell ⟨b, 4, none⟩ v4
theorem setN5_fin {w W : World} {u0 u1 u2 u3 u4 v0 v1 v2 v3 v4 : Value} {b : Nat} (hb : w.heap.size ≤ b) (hw : Below w.heap.size w W) (h : W.heap[b]? = some (.cells #[u0, u1, u2, u3, u4] 24 (0, 0))) :
  (setN5 W b v0 v1 v2 v3 v4).heap[b]? = some (.cells #[v0, v1, v2, v3, v4] 24 (0, 0)) ∧ Below w.heap.size w (setN5 W b v0 v1 v2 v3 v4) ∧ Only (fun k => k = b) W (setN5 W b v0 v1 v2 v3 v4) := by
 have ho : Only (fun k => k = b) W (setN5 W b v0 v1 v2 v3 v4) := ((((Only.setCell (F := fun k => k = b) W rfl 0 v0).trans' (Only.setCell (F := fun k => k = b) _ rfl 1 v1)).trans' (Only.setCell (F := fun k => k = b) _ rfl 2 v2)).trans' (Only.setCell (F := fun k => k = b) _ rfl 3 v3)).trans' (Only.setCell (F := fun k => k = b) _ rfl 4 v4)
 exact ⟨blk_set (blk_set (blk_set (blk_set (blk_set h 0 v0) 1 v1) 2 v2) 3 v3) 4 v4, hw.trans (ho.to_below hw.size (fun i hi _ => by omega)), ho⟩
structure WholeAt (W : World) (N : Nat) (W3 : World) (b g : Nat) (y : Lo) (line : Int) : Prop where
 box : W3.heap[b]? = some (.cells #[.int .i64 41, .string ⟨#[]⟩, .int .i64 0, .slice (some ⟨g, 0, none⟩) 1 1, .int .i64 line] 24 (0, 0))
 row : W3.heap[g]? = some (.cells (fivesO [y]).toArray 24 (0, 0))
 lies : Lies W3 y
 nodup : y.blks.Nodup
 blks : ∀ k ∈ y.blks, N + 2 ≤ k ∧ k ≠ b ∧ k ≠ g
 ne : b ≠ g ∧ N + 2 ≤ b ∧ N + 2 ≤ g
 below : Below W.heap.size W W3
 res : W3.heap[N + 1]? = some (.cells #[.int .i64 0, .string ⟨#[]⟩, .int .i64 0, .slice none 0 0, .int .i64 0] 24 (0, 0))
theorem whole_two {W w2 : World} {N : Nat} {y : Lo} {o1 o2 : Obj} (hL : Lies w2 y) (hg : ∀ k ∈ y.blks, N + 2 ≤ k) (hb : Below W.heap.size W w2) (hB : w2.heap[N + 1]? = some (.cells #[.int .i64 0, .string ⟨#[]⟩, .int .i64 0, .slice none 0 0, .int .i64 0] 24 (0, 0))) :
  ((w2.alloc o1).alloc o2).heap[w2.heap.size]? = some o1 ∧ ((w2.alloc o1).alloc o2).heap[w2.heap.size + 1]? = some o2 ∧ Lies ((w2.alloc o1).alloc o2) y ∧ (∀ k ∈ y.blks, N + 2 ≤ k ∧ k < w2.heap.size) ∧ Below W.heap.size W ((w2.alloc o1).alloc o2) ∧ ((w2.alloc o1).alloc o2).heap[N + 1]? = some (.cells #[.int .i64 0, .string ⟨#[]⟩, .int .i64 0, .slice none 0 0, .int .i64 0] 24 (0, 0)) := by
 have b1 := below_alloc9 w2 o1
 have b2 := below_alloc9 (w2.alloc o1) o2
 have h2 := heap_alloc_new (w2.alloc o1) o2
 rw [World.size_alloc] at h2
 have b3 : Below w2.heap.size w2 ((w2.alloc o1).alloc o2) := b1.trans (b2.mono b1.size)
 exact ⟨(b2.block _ (by simp)).trans (heap_alloc_new w2 o1), h2, hL.below b3, fun k hk => ⟨hg k hk, Lies.lt y hL k hk⟩, hb.trans (b3.mono hb.size), (b3.block _ (heap_lt hB)).trans hB⟩
theorem fives_one {y : Lo} {A : Option Addr} {n c : Nat} (hv : y.v = .slice A n c) : #[Value.int .i64 y.op, .string (bs y.s), .int .i64 y.n, .slice A n c, .int .i64 y.line] = (fivesO [y]).toArray := by
 simp [fivesO, fiveO, hv]
theorem whole_A {W w2 : World} {N : Nat} {y : Lo} {line : Int} {A : Option Addr} {n c : Nat} (hL : Lies w2 y) (hn : y.blks.Nodup) (hg : ∀ k ∈ y.blks, N + 2 ≤ k) (hb : Below W.heap.size W w2) (hB : w2.heap[N + 1]? = some (.cells #[.int .i64 0, .string ⟨#[]⟩, .int .i64 0, .slice none 0 0, .int .i64 0] 24 (0, 0))) (hv : y.v = .slice A n c) :
  WholeAt W N ((w2.alloc (.cells #[.int .i64 y.op, .string (bs y.s), .int .i64 y.n, .slice A n c, .int .i64 y.line] 24)).alloc (.cells #[.int .i64 41, .string ⟨#[]⟩, .int .i64 0, .slice (some ⟨w2.heap.size, 0, none⟩) 1 1, .int .i64 line] 24)) (w2.heap.size + 1) w2.heap.size y line := by
 obtain ⟨h1, h2, h3, h4, h5, h6⟩ := whole_two (o1 := .cells #[.int .i64 y.op, .string (bs y.s), .int .i64 y.n, .slice A n c, .int .i64 y.line] 24) (o2 := .cells #[.int .i64 41, .string ⟨#[]⟩, .int .i64 0, .slice (some ⟨w2.heap.size, 0, none⟩) 1 1, .int .i64 line] 24) hL hg hb hB
 have := heap_lt hB
 exact ⟨h2, by rw [← fives_one hv]; exact h1, h3, hn, fun k hk => by have := h4 k hk; omega, by omega, h5, h6⟩
theorem whole_B {W w2 : World} {N : Nat} {y : Lo} {line : Int} {A : Option Addr} {n c : Nat} (hL : Lies w2 y) (hn : y.blks.Nodup) (hg : ∀ k ∈ y.blks, N + 2 ≤ k) (hb : Below W.heap.size W w2) (hB : w2.heap[N + 1]? = some (.cells #[.int .i64 0, .string ⟨#[]⟩, .int .i64 0, .slice none 0 0, .int .i64 0] 24 (0, 0))) (hv : y.v = .slice A n c) :
  WholeAt W N ((w2.alloc (.cells #[.int .i64 41, .string ⟨#[]⟩, .int .i64 0, .slice (some ⟨w2.heap.size + 1, 0, none⟩) 1 1, .int .i64 line] 24)).alloc (.cells #[.int .i64 y.op, .string (bs y.s), .int .i64 y.n, .slice A n c, .int .i64 y.line] 24)) w2.heap.size (w2.heap.size + 1) y line := by
 obtain ⟨h1, h2, h3, h4, h5, h6⟩ := whole_two (o2 := .cells #[.int .i64 y.op, .string (bs y.s), .int .i64 y.n, .slice A n c, .int .i64 y.line] 24) (o1 := .cells #[.int .i64 41, .string ⟨#[]⟩, .int .i64 0, .slice (some ⟨w2.heap.size + 1, 0, none⟩) 1 1, .int .i64 line] 24) hL hg hb hB
 have := heap_lt hB
 exact ⟨h1, by rw [← fives_one hv]; exact h2, h3, hn, fun k hk => by have := h4 k hk; omega, by omega, h5, h6⟩
theorem whole_C {W w2 : World} {N b : Nat} {y : Lo} {line : Int} {A : Option Addr} {n c : Nat} (hL : Lies w2 y) (hn : y.blks.Nodup) (hg : ∀ k ∈ y.blks, b < k) (hbN : N + 2 ≤ b) (hN : W.heap.size = N) (hb : Below W.heap.size W w2) (hB : w2.heap[N + 1]? = some (.cells #[.int .i64 0, .string ⟨#[]⟩, .int .i64 0, .slice none 0 0, .int .i64 0] 24 (0, 0))) (hv : y.v = .slice A n c)
  (hbx : w2.heap[b]? = some (.cells #[.int .i64 0, .string ⟨#[]⟩, .int .i64 0, .slice none 0 0, .int .i64 0] 24 (0, 0))) :
  WholeAt W N ((setN5 w2 b (.int .i64 41) (.string ⟨#[]⟩) (.int .i64 0) (.slice (some ⟨w2.heap.size, 0, none⟩) 1 1) (.int .i64 line)).alloc (.cells #[.int .i64 y.op, .string (bs y.s), .int .i64 y.n, .slice A n c, .int .i64 y.line] 24)) b w2.heap.size y line := by
 obtain ⟨h1, h2, h3⟩ := setN5_fin (v0 := .int .i64 41) (v1 := .string ⟨#[]⟩) (v2 := .int .i64 0) (v3 := .slice (some ⟨w2.heap.size, 0, none⟩) 1 1) (v4 := .int .i64 line) (by omega) hb hbx
 have hsz : (setN5 w2 b (.int .i64 41) (.string ⟨#[]⟩) (.int .i64 0) (.slice (some ⟨w2.heap.size, 0, none⟩) 1 1) (.int .i64 line)).heap.size = w2.heap.size := by simp [World.setCell]
 obtain ⟨W5, e5⟩ : ∃ W5, setN5 w2 b (.int .i64 41) (.string ⟨#[]⟩) (.int .i64 0) (.slice (some ⟨w2.heap.size, 0, none⟩) 1 1) (.int .i64 line) = W5 := ⟨_, rfl⟩
 rw [e5] at h1 h2 h3 hsz ⊢
 have b1 := below_alloc9 W5 (.cells #[.int .i64 y.op, .string (bs y.s), .int .i64 y.n, .slice A n c, .int .i64 y.line] 24)
 have hbl := heap_lt hbx
 have hl1 := heap_lt hB
 have hlt := fun k hk => Lies.lt y hL k hk
 refine ⟨(b1.block b (by omega)).trans h1, ?_, ?_, hn, fun k hk => ?_, by omega, h2.trans (b1.mono h2.size), ?_⟩
 ·rw [← fives_one hv, ← hsz]
  exact heap_alloc_new W5 _
 ·exact hL.keep y fun k hk => (b1.block k (by have := hlt k hk; omega)).trans (h3.block k (hlt k hk) (by have := hg k hk; omega))
 ·have := hg k hk; have := hlt k hk; omega
 ·exact (b1.block _ (by omega)).trans ((h3.block _ hl1 (by omega)).trans hB)
mutual
theorem lies_blk : ∀ {W : World} (x : Lo), Lies W x → ∀ k ∈ x.blks, ∃ cs, W.heap[k]? = some (.cells cs 24 (0, 0))
 | W, .mk op s n i v l, h, k, hk => by
  rw [Lies] at h
  rw [Lo.blks] at hk
  rcases List.mem_append.1 hk with hk | hk
  ·rcases h.2.1 with ⟨-, rfl⟩ | ⟨g, rfl, hg⟩
   ·simp [Value.ownBlock] at hk
   ·simp [Value.ownBlock] at hk
    subst hk
    exact ⟨_, hg⟩
  ·exact lies_blkL l h.2.2.2 k hk
theorem lies_blkL : ∀ {W : World} (l : List Lo), LiesL W l → ∀ k ∈ blksL l, ∃ cs, W.heap[k]? = some (.cells cs 24 (0, 0))
 | W, [], h, k, hk => by rw [blksL_nil] at hk; cases hk
 | W, x :: r, h, k, hk => by
  rw [LiesL] at h
  rw [blksL_cons] at hk
  rcases List.mem_append.1 hk with hk | hk
  ·exact lies_blk x h.1 k hk
  ·exact lies_blkL r h.2 k hk
end
theorem whole_pre {W wc W4 : World} {N b g : Nat} {y : Lo} {line : Int} (h : WholeAt W N wc b g y line) (hb : Below wc.heap.size wc W4) (hz : y.size ≤ 40000) (hgood : soundT y.tree = true) :
  Stat W4 (wholeL y line g) b 0 ∧ NumsAt W4 (adA (wholeL y line g) b 0) (numsO (wholeL y line g)) ∧ (∀ k, TB (wholeL y line g) b k → ∃ cs, W4.heap[k]? = some (.cells cs 24 (0, 0))) ∧ (wholeL y line g).ok ∧ (wholeL y line g).blks.Nodup ∧ b ∉ (wholeL y line g).blks ∧ ¬ TB (wholeL y line g) b wc.heap.size ∧ (wholeL y line g).size ≤ 50000 ∧
   ∀ e ∈ evA (wholeL y line g) b 0 (-1) false 0, isFun e.x.op = true → 0 < e.x.l.length := by
 have hbx := (hb.block b (heap_lt h.box)).trans h.box
 have hrow := (hb.block g (heap_lt h.row)).trans h.row
 have hL : Lies W4 (wholeL y line g) := by
  rw [wholeL, Lies, LiesL_cons]
  refine ⟨⟨by simp, by omega, by omega⟩, .inr ⟨g, rfl, hrow⟩, by simp [maxLen], h.lies.below hb, LiesL_nil _⟩
 have hcell : ∀ j u, (#[.int .i64 41, .string ⟨#[]⟩, .int .i64 0, .slice (some ⟨g, 0, none⟩) 1 1, .int .i64 line] : Array Value)[j]? = some u → W4.cell? ⟨b, j, none⟩ = some u := fun j u hu => (cell_of_row W4 b j _ _ _ hbx).trans hu
 obtain ⟨h1, h2⟩ := Lies.stat (wholeL y line g) b 0 hL ⟨hcell 0 _ rfl, hcell 1 _ rfl, hcell 2 _ rfl, hcell 3 _ rfl, hcell 4 _ rfl⟩
 have hbl : ∀ k, TB (wholeL y line g) b k → ∃ cs, W4.heap[k]? = some (.cells cs 24 (0, 0)) := fun k hk => by
  rcases hk with rfl | hk
  ·exact ⟨_, hbx⟩
  ·exact lies_blk _ hL k hk
 refine ⟨h1, h2, hbl, hL.ok, ?_, ?_, ?_, ?_, whole_funs hgood b⟩
 ·rw [whole_blks, List.nodup_cons]
  exact ⟨fun hg => (h.blks g hg).2.2 rfl, h.nodup⟩
 ·rw [whole_blks]
  intro hm
  rcases List.mem_cons.1 hm with e | hm
  ·exact h.ne.1 e
  ·exact (h.blks b hm).2.1 rfl
 ·rintro (e | hm)
  ·have := heap_lt h.box; omega
  ·rw [whole_blks] at hm
   rcases List.mem_cons.1 hm with e | hm
   ·have := heap_lt h.row; omega
   ·have := Lies.lt y h.lies _ hm; omega
 ·rw [wholeL, Lo.size, loSizes_cons, loSizes_nil]; omega
theorem whole_post {W5 : World} {b g : Nat} {y : Lo} {line n : Int} {q t' : Tr} (h1 : Stat W5 (wholeL y line g) b 0) (h2 : NumsAt W5 (adA (wholeL y line g) b 0) (numsT t')) (h3 : numT (wholeL y line g).tree (numsT t') = (t', [])) (h4 : t' = .mk 41 [] n line [q]) :
  ∃ x : Lo, x.tree = q ∧ W5.cell? ⟨b, 3, none⟩ = some (.slice (some ⟨g, 0, none⟩) 1 1) ∧ (W5.cell? ⟨g, 0, none⟩ = some (.int .i64 x.op) ∧ W5.cell? ⟨g, 1, none⟩ = some (.string (bs x.s)) ∧ W5.cell? ⟨g, 2, none⟩ = some (.int .i64 x.n) ∧ W5.cell? ⟨g, 3, none⟩ = some x.v ∧ W5.cell? ⟨g, 4, none⟩ = some (.int .i64 x.line)) ∧ LoAt W5 (fun k => k ∈ g :: y.blks) x := by
 have hlo := (lo_of (S := fun k => k ∈ g :: y.blks) _ b 0 _ h1 h2 (fun k hk => by rw [whole_blks] at hk; exact hk)).1
 have htr := congrArg Prod.fst (numO_tree (wholeL y line g) (numsT t'))
 rw [h3] at htr
 simp only at htr
 have hb3 := ((Stat_eq _ _ _ _).1 h1).2.1.2.2.1
 have hns : ∃ r, numsT t' = n :: r := by rw [h4, numsT]; exact ⟨_, rfl⟩
 obtain ⟨r, hr⟩ := hns
 have he : (numO (wholeL y line g) (numsT t')).1 = .mk 41 [] n line (.slice (some ⟨g, 0, none⟩) 1 1) [(numO y r).1] := by
  rw [hr, wholeL, numO, numOL, numOL]
 rw [he] at hlo htr
 rw [Lo.tree, trees, trees, h4] at htr
 injection htr with _ _ _ _ h9
 injection h9 with h10 _
 rw [LoAt_iff] at hlo
 obtain ⟨-, A, cap, e1, -, e2⟩ := hlo
 obtain ⟨g', off, rfl, -, hL⟩ := e2 (by simp [Lo.l])
 simp only [Lo.v] at e1
 injection e1 with e3 e4 e5
 injection e3 with e6
 injection e6 with e7 e8
 subst e7 e8
 simp only [Lo.l] at hL
 rw [LoAtL_cons] at hL
 obtain ⟨⟨k0, k1, k2, k3, k4, k5⟩, -⟩ := hL
 exact ⟨_, h10, hb3, ⟨k1, k2, k3, k4, k5⟩, k0⟩
theorem rowSet {W W' : World} {B B' N size n : Nat} {e : TypeId} {v : Value} {xs : List Value} (h : W.ownsRow B e size v n xs) (ho : Only (fun k => k = N) W W') (hN : N < B) (hB : B' ≤ B) : W'.ownsRow B' e size v n xs :=
 ⟨h.1, h.2.imp id fun ⟨g, cap, cur, e1, e2, e3, e4⟩ => ⟨g, cap, cur, e1, by omega, (ho.block g (heap_lt e3) (by omega)).trans e3, e4⟩⟩
def ScResQ (W : World) (t : Tr) (e : Ending) (W' : World) : Prop :=
 Below W.heap.size W W' ∧ if rightP t = true then (match resolveT t with
  | .error (line, er) => e = .returned (.tuple #[.slice none 0 0, noTree, .int .i64 line, .int .i64 er])
  | .ok (fs, q) => ∃ fv qv, e = .returned (.tuple #[fv, qv, .int .i64 0, .int .i64 0]) ∧ FunsV W' W.heap.size fv fs ∧ TreeAt W' (New W W') q qv)
 else e = .returned (.tuple #[.slice none 0 0, noTree, .int .i64 0, .int .i64 30])
theorem results_res (fn : Func) (s0 s1 s2 s3 : Nat) (tmps : Array Value) {b : Nat} {W : World} {v0 v1 v2 v3 v4 x y z : Value} (hfn : fn.results = #[.tmp s0, .cell s1 24, .tmp s2, .tmp s3]) (h0 : tmps.getD s0 undef = x) (h1 : tmps.getD s1 undef = .pointer (some ⟨b, 0, none⟩)) (h2 : tmps.getD s2 undef = y) (h3 : tmps.getD s3 undef = z)
  (hc : W.heap[b]? = some (.cells #[v0, v1, v2, v3, v4] 24 (0, 0))) : (results fn tmps).run Tryz.prog W = .ok (.tuple #[x, .agg #[v0, v1, v2, v3, v4], y, z]) W := by
 have c0 := cell_of_row _ _ 0 _ _ _ hc
 have c1 := cell_of_row _ _ 1 _ _ _ hc
 have c2 := cell_of_row _ _ 2 _ _ _ hc
 have c3 := cell_of_row _ _ 3 _ _ _ hc
 have c4 := cell_of_row _ _ 4 _ _ _ hc
 simp only [List.getElem?_toArray, List.getElem?_cons_zero, List.getElem?_cons_succ] at c0 c1 c2 c3 c4
 have h0' : tmps[s0]?.getD undef = x := by rw [← Array.getD_eq_getD_getElem?]; exact h0
 have h1' : tmps[s1]?.getD undef = .pointer (some ⟨b, 0, none⟩) := by rw [← Array.getD_eq_getD_getElem?]; exact h1
 have h2' : tmps[s2]?.getD undef = y := by rw [← Array.getD_eq_getD_getElem?]; exact h2
 have h3' : tmps[s3]?.getD undef = z := by rw [← Array.getD_eq_getD_getElem?]; exact h3
 simp [results, hfn, h0', h1', h2', h3', go_sem, c0, c1, c2, c3, c4]
theorem scres_any (t : Tr) (v : Value) (W : World) (S : Nat → Prop) (hT : TreeAt W S t v) (hS : ∀ k, S k → k < W.heap.size) (hz : t.size ≤ 40000) :
    Calls Tryz.prog 24 #[v] W (ScResQ W t) := by
  obtain ⟨A, c, rfl, hrow, hfine⟩ := hT.form
  have hAt : ∀ w, Below W.heap.size W w → At w w.heap.size t (.agg #[.int .i64 t.op, .string (bs t.s), .int .i64 t.n, .slice A t.l.length c, .int .i64 t.line]) := fun w hb => by
    obtain ⟨x, rfl, hx, hL⟩ := hT
    rw [← hx]
    exact (hL.frame (S' := S) (fun _ h => h) (fun k hk => hb.block k (hS k hk))).at_ x (fun k hk => by have := hS k hk; have := hb.size; omega)
  have HRi := Lib.hid (fun w hb => right_any t _ w (hAt w hb) (by omega))
  have HCp := Lib.hid (fun w (hb : Below W.heap.size W w) => copied_any t _ w S (hT.keep (fun _ h => h) (fun k hk => hb.block k (hS k hk))) (fun k hk => by have := hS k hk; have := hb.size; omega) (by omega))
  clear hT hS hAt hrow
  go_enter Tryz.func24, Tryz.ntmps24
  go_upto_region 1 with fail
  have hb0 := (below_alloc9 W (.cells #[.int .i64 t.op, .string (bs t.s), .int .i64 t.n, .slice A t.l.length c, .int .i64 t.line] 24)).alloc (by simp) (.cells #[.int .i64 0, .string ⟨#[]⟩, .int .i64 0, .slice none 0 0, .int .i64 0] 24)
  have bA := ((below_alloc9 (W.alloc (.cells #[.int .i64 t.op, .string (bs t.s), .int .i64 t.n, .slice A t.l.length c, .int .i64 t.line] 24)) (.cells #[.int .i64 0, .string ⟨#[]⟩, .int .i64 0, .slice none 0 0, .int .i64 0] 24)).block W.heap.size (by simp)).trans (heap_alloc_new W _)
  have bB := heap_alloc_new (W.alloc (.cells #[.int .i64 t.op, .string (bs t.s), .int .i64 t.n, .slice A t.l.length c, .int .i64 t.line] 24)) (.cells #[.int .i64 0, .string ⟨#[]⟩, .int .i64 0, .slice none 0 0, .int .i64 0] 24)
  simp only [World.size_alloc] at bB
  obtain ⟨W0, eW⟩ : ∃ W0, (W.alloc (.cells #[.int .i64 t.op, .string (bs t.s), .int .i64 t.n, .slice A t.l.length c, .int .i64 t.line] 24)).alloc (.cells #[.int .i64 0, .string ⟨#[]⟩, .int .i64 0, .slice none 0 0, .int .i64 0] 24) = W0 := ⟨_, rfl⟩
  have hsz0 : W0.heap.size = W.heap.size + 2 := by rw [← eW]; simp
  rw [eW] at bA bB hb0 ⊢
  obtain ⟨N, eN⟩ : ∃ N, W.heap.size = N := ⟨_, rfl⟩
  rw [eN] at bA bB hsz0 ⊢
  have x0 := cell_of_row W0 N 0 _ _ _ bA
  have x1 := cell_of_row W0 N 1 _ _ _ bA
  have x2 := cell_of_row W0 N 2 _ _ _ bA
  have x3 := cell_of_row W0 N 3 _ _ _ bA
  have x4 := cell_of_row W0 N 4 _ _ _ bA
  simp at x0 x1 x2 x3 x4
  have H0 := Lib.hid (And.intro hb0 (And.intro bA bB))
  clear hb0 bA bB eW
  go_wp2_with fail
  go_at_call 36
  refine (HRi.out W0 H0.out.1).mono ?_
  rintro e w1 ⟨rfl, hb1⟩
  have hbW1 := H0.out.1.trans (hb1.mono H0.out.1.size)
  have bA1 := (hb1.block N (by omega)).trans H0.out.2.1
  have bB1 := (hb1.block (N + 1) (by omega)).trans H0.out.2.2
  have hs1 := hb1.size
  have y0 := cell_of_row w1 _ 0 _ _ _ bB1
  have y1 := cell_of_row w1 _ 1 _ _ _ bB1
  have y2 := cell_of_row w1 _ 2 _ _ _ bB1
  have y3 := cell_of_row w1 _ 3 _ _ _ bB1
  have y4 := cell_of_row w1 _ 4 _ _ _ bB1
  have fy0 := frozen_of_row w1 _ 0 _ _ bB1
  have fy1 := frozen_of_row w1 _ 1 _ _ bB1
  have fy2 := frozen_of_row w1 _ 2 _ _ bB1
  have fy3 := frozen_of_row w1 _ 3 _ _ bB1
  have fy4 := frozen_of_row w1 _ 4 _ _ bB1
  have z0 := cell_of_row w1 N 0 _ _ _ bA1
  have z1 := cell_of_row w1 N 1 _ _ _ bA1
  have z2 := cell_of_row w1 N 2 _ _ _ bA1
  have z3 := cell_of_row w1 N 3 _ _ _ bA1
  have z4 := cell_of_row w1 N 4 _ _ _ bA1
  simp at y0 y1 y2 y3 y4 z0 z1 z2 z3 z4
  have H1 := Lib.hid (And.intro hbW1 (And.intro bA1 bB1))
  clear hbW1 bA1 bB1 hb1 x0 x1 x2 x3 x4
  cases hr : rightP t with
  | false =>
    have HR := Lib.hid hr
    clear hr
    go_wp2
    have hfin := setN5_fin (v0 := .int .i64 0) (v1 := .string ⟨#[]⟩) (v2 := .int .i64 0) (v3 := .slice none 0 0) (v4 := .int .i64 0) (b := N + 1) (by omega) H1.out.1 H1.out.2.2
    refine bodyPost_ret (results_res _ _ _ _ _ _ rfl rfl rfl rfl rfl hfin.1) rfl ?_
    refine ⟨hfin.2.1, ?_⟩
    rw [HR.out]
    rfl
  | true =>
    have HR := Lib.hid hr
    clear hr
    have hNl : N < w1.heap.size := by omega
    go_upto_region 3 with fail
    go_cut [6] from 13 (fun s6 wc => ∃ b g y, s6 = .pointer (some ⟨b, 0, none⟩) ∧ WholeAt W N wc b g y t.line ∧ y.tree = t)
    case first =>
      go_region_law (first
        | (go_simp; go_at_call 37; refine (HCp.out _ (by first | exact H1.out.1.drew | exact (H1.out.1.drew.alloc (by simp; omega) _) | exact (H1.out.1.alloc (by omega) _).drew)).mono ?_; rintro e w2 ⟨y, rfl, hyt, hyL, hyn, hyg, hb2⟩; obtain ⟨Ay, cy, hvy⟩ := hyL.form; unfold Lo.val; rw [hvy]; have hNl2 : N < w2.heap.size := (by have := hb2.size; simp at this; omega); have bA2 := (hb2.block N (by simp; omega)).trans (show _ = _ from (by first | exact H1.out.2.1 | exact (Below.heap_alloc _ _ _ hNl).trans H1.out.2.1)); have bB2 := (hb2.block (N + 1) (by simp; omega)).trans (show _ = _ from (by first | exact H1.out.2.2 | exact (Below.heap_alloc _ _ _ (by omega)).trans H1.out.2.2)); have hbW2 : Below W.heap.size W w2 := (show Below W.heap.size W _ from (by first | exact H1.out.1.drew | exact (H1.out.1.drew.alloc (by simp; omega) _) | exact (H1.out.1.alloc (by omega) _).drew)).trans (hb2.mono (by simp; omega)); have hygN : ∀ k ∈ y.blks, N + 2 ≤ k := (fun k hk => by have := hyg k hk; simp at this; omega); have q4 := cell_of_row w2 N 4 _ _ _ bA2; simp at q4; (first | (have bW2 : w2.heap[w1.heap.size]? = some (.cells #[.int .i64 0, .string ⟨#[]⟩, .int .i64 0, .slice none 0 0, .int .i64 0] 24 (0, 0)) := (hb2.block _ (by simp)).trans (heap_alloc_new w1 _); have hlW := heap_lt bW2; have r0 := cell_of_row w2 _ 0 _ _ _ bW2; have r1 := cell_of_row w2 _ 1 _ _ _ bW2; have r2 := cell_of_row w2 _ 2 _ _ _ bW2; have r3 := cell_of_row w2 _ 3 _ _ _ bW2; have r4 := cell_of_row w2 _ 4 _ _ _ bW2; have fr0 := frozen_of_row w2 _ 0 _ _ bW2; have fr1 := frozen_of_row w2 _ 1 _ _ bW2; have fr2 := frozen_of_row w2 _ 2 _ _ bW2; have fr3 := frozen_of_row w2 _ 3 _ _ bW2; have fr4 := frozen_of_row w2 _ 4 _ _ bW2; simp at r0 r1 r2 r3 r4; have hygC : ∀ k ∈ y.blks, w1.heap.size < k := (fun k hk => by have := hyg k hk; simp at this; omega); have HC := Lib.hid (And.intro bW2 hygC); clear bW2 hygC) | skip); have HY := Lib.hid (And.intro hyt (And.intro hyL (And.intro hyn (And.intro hygN (And.intro hbW2 (And.intro bB2 hvy)))))); clear hyt hyL hyn hyg hygN hb2 hbW2 bB2 bA2 hvy)
        | fail)
      all_goals
        first
        | (have hWh := whole_A (line := t.line) HY.out.2.1 HY.out.2.2.1 HY.out.2.2.2.1 HY.out.2.2.2.2.1 HY.out.2.2.2.2.2.1 HY.out.2.2.2.2.2.2
           obtain ⟨W3, e3⟩ : ∃ W3, (w2.alloc (.cells #[.int .i64 y.op, .string (bs y.s), .int .i64 y.n, .slice Ay y.l.length cy, .int .i64 y.line] 24)).alloc (.cells #[.int .i64 41, .string ⟨#[]⟩, .int .i64 0, .slice (some ⟨w2.heap.size, 0, none⟩) 1 1, .int .i64 t.line] 24) = W3 := ⟨_, rfl⟩
           rw [e3] at hWh ⊢
           obtain ⟨b, eb⟩ : ∃ b, w2.heap.size + 1 = b := ⟨_, rfl⟩
           rw [eb] at hWh ⊢
           obtain ⟨g, eg⟩ : ∃ g, w2.heap.size = g := ⟨_, rfl⟩
           rw [eg] at hWh ⊢
           go_wp2_with fail
           go_meet
           exact ⟨b, g, y, rfl, hWh, HY.out.1⟩)
        | (have hWh := whole_B (line := t.line) HY.out.2.1 HY.out.2.2.1 HY.out.2.2.2.1 HY.out.2.2.2.2.1 HY.out.2.2.2.2.2.1 HY.out.2.2.2.2.2.2
           obtain ⟨W3, e3⟩ : ∃ W3, (w2.alloc (.cells #[.int .i64 41, .string ⟨#[]⟩, .int .i64 0, .slice (some ⟨w2.heap.size + 1, 0, none⟩) 1 1, .int .i64 t.line] 24)).alloc (.cells #[.int .i64 y.op, .string (bs y.s), .int .i64 y.n, .slice Ay y.l.length cy, .int .i64 y.line] 24) = W3 := ⟨_, rfl⟩
           rw [e3] at hWh ⊢
           obtain ⟨g, eg⟩ : ∃ g, w2.heap.size + 1 = g := ⟨_, rfl⟩
           rw [eg] at hWh ⊢
           obtain ⟨b, eb⟩ : ∃ b, w2.heap.size = b := ⟨_, rfl⟩
           rw [eb] at hWh ⊢
           go_wp2_with fail
           go_meet
           exact ⟨b, g, y, rfl, hWh, HY.out.1⟩)
        | (have hWh := whole_C (line := t.line) (b := w1.heap.size) HY.out.2.1 HY.out.2.2.1 HC.out.2 (by omega) eN HY.out.2.2.2.2.1 HY.out.2.2.2.2.2.1 HY.out.2.2.2.2.2.2 HC.out.1
           obtain ⟨W3, e3⟩ : ∃ W3, (setN5 w2 w1.heap.size (.int .i64 41) (.string ⟨#[]⟩) (.int .i64 0) (.slice (some ⟨w2.heap.size, 0, none⟩) 1 1) (.int .i64 t.line)).alloc (.cells #[.int .i64 y.op, .string (bs y.s), .int .i64 y.n, .slice Ay y.l.length cy, .int .i64 y.line] 24) = W3 := ⟨_, rfl⟩
           rw [e3] at hWh ⊢
           obtain ⟨b, eb⟩ : ∃ b, w1.heap.size = b := ⟨_, rfl⟩
           rw [eb] at hWh ⊢
           obtain ⟨g, eg⟩ : ∃ g, w2.heap.size = g := ⟨_, rfl⟩
           rw [eg] at hWh ⊢
           go_wp2_with fail
           go_meet
           exact ⟨b, g, y, rfl, hWh, HY.out.1⟩)
    case rest =>
      obtain ⟨b, g, y, rfl, hWh, hyt⟩ := hcut
      clear y0 y1 y2 y3 y4 fy0 fy1 fy2 fy3 fy4 z0 z1 z2 z3 z4
      have hT0 : (wholeL y t.line g).tree = .mk 41 [] 0 t.line [t] := by rw [whole_tree, hyt]
      have hgood : soundT y.tree = true := by
        have h9 := HR.out
        unfold rightP at h9
        rw [hyt]
        simp only [Bool.and_eq_true] at h9
        exact h9.2
      have hy0 : y.size ≤ 40000 := by rw [← lo_size_tree, hyt]; exact hz
      have hal4 := below_alloc9 wc (.cells #[.slice none 0 0, .int .i64 0] 74)
      have hR4 := heap_alloc_new wc (.cells #[.slice none 0 0, .int .i64 0] 74)
      obtain ⟨W4, e4⟩ : ∃ W4, wc.alloc (.cells #[.slice none 0 0, .int .i64 0] 74) = W4 := ⟨_, rfl⟩
      have hsz4 : W4.heap.size = wc.heap.size + 1 := by rw [← e4]; exact World.size_alloc _ _
      rw [e4] at hal4 hR4
      have hpre := whole_pre hWh hal4 hy0 hgood
      have HRes := Lib.hid (callsIn_wide.1 (resolve_in 3 (Nat.le_refl _) (wholeL y t.line g) b wc.heap.size W4 hR4 hpre.1 hpre.2.1 hpre.2.2.1 hpre.2.2.2.1 hpre.2.2.2.2.1 hpre.2.2.2.2.2.1 hpre.2.2.2.2.2.2.1 hpre.2.2.2.2.2.2.2.1 hpre.2.2.2.2.2.2.2.2))
      have HWh := Lib.hid (And.intro hWh (And.intro hal4 (And.intro hR4 (And.intro hT0 (And.intro hsz4 hyt)))))
      have HE4 := Lib.hid e4
      clear hWh hyt hT0 hgood hy0 hpre hal4 hR4 hsz4 e4
      go_upto_region 5 with fail
      rw [HE4.out]
      obtain ⟨R, eR⟩ : ∃ R, wc.heap.size = R := ⟨_, rfl⟩
      rw [eR] at HRes HWh ⊢
      go_wp2_with fail
      go_at_call 38
      refine HRes.out.mono ?_
      intro e w5 hq
      unfold ResQ at hq
      rw [HWh.out.2.2.2.1, run_whole] at hq
      cases hrt : resT (.mk 41 [] 0 t.line [t]) (-1) false ⟨[], 0⟩ with
      | error p9 =>
        obtain ⟨line, er⟩ := p9
        rw [hrt] at hq
        obtain ⟨rfl, hne, ho⟩ := hq
        have hTBn : ∀ k, TB (wholeL y t.line g) b k → N + 2 ≤ k := fun k hk => by
          rcases hk with rfl | hk
          · exact HWh.out.1.ne.2.1
          · rw [whole_blks] at hk
            rcases List.mem_cons.1 hk with rfl | hk
            · exact HWh.out.1.ne.2.2
            · exact (HWh.out.1.blks k hk).1
        have hRN : N + 2 ≤ R := by have := heap_lt HWh.out.1.box; have := HWh.out.1.ne.2.1; omega
        have hb5 : Below (N + 2) W4 w5 := ho.to_below (by have := HWh.out.2.2.2.2.1; omega) (fun i hi _ => by
          rcases hi with hi | rfl
          · exact hTBn i hi
          · exact hRN)
        have hbW5 : Below W.heap.size W w5 := (HWh.out.1.below.trans (HWh.out.2.1.mono (by rw [← eR]; exact HWh.out.1.below.size))).trans (hb5.mono (by omega))
        have hB5 := (hb5.block (N + 1) (by omega)).trans ((HWh.out.2.1.block (N + 1) (by have := heap_lt HWh.out.1.res; omega)).trans HWh.out.1.res)
        have hrE := res_whole_err hrt
        have y0 := cell_of_row w5 _ 0 _ _ _ hB5
        have y1 := cell_of_row w5 _ 1 _ _ _ hB5
        have y2 := cell_of_row w5 _ 2 _ _ _ hB5
        have y3 := cell_of_row w5 _ 3 _ _ _ hB5
        have y4 := cell_of_row w5 _ 4 _ _ _ hB5
        have fy0 := frozen_of_row w5 _ 0 _ _ hB5
        have fy1 := frozen_of_row w5 _ 1 _ _ hB5
        have fy2 := frozen_of_row w5 _ 2 _ _ hB5
        have fy3 := frozen_of_row w5 _ 3 _ _ hB5
        have fy4 := frozen_of_row w5 _ 4 _ _ hB5
        simp at y0 y1 y2 y3 y4
        have hNl5 := heap_lt hB5
        have ee : (er == 0) = false := by rw [beq_eq_false_iff_ne]; exact hne
        have hfin := setN5_fin (v0 := .int .i64 0) (v1 := .string ⟨#[]⟩) (v2 := .int .i64 0) (v3 := .slice none 0 0) (v4 := .int .i64 0) (b := N + 1) (by omega) (hbW5.alloc hbW5.size (.cells #[.int .i64 line, .int .i64 er] 76)) ((Below.heap_alloc _ _ _ hNl5).trans hB5)
        have HF := Lib.hid (And.intro hfin hrE)
        clear hTBn hRN hb5 hbW5 hB5 hrE hfin ho hne hrt
        unfold faultV
        go_upto_region 7 with fail
        have bF8 := heap_alloc_new w5 (.cells #[.int .i64 line, .int .i64 er] 76)
        obtain ⟨W6, e6⟩ : ∃ W6, w5.alloc (.cells #[.int .i64 line, .int .i64 er] 76) = W6 := ⟨_, rfl⟩
        obtain ⟨F8, eF8⟩ : ∃ F8, w5.heap.size = F8 := ⟨_, rfl⟩
        have hb6 := below_alloc9 w5 (.cells #[.int .i64 line, .int .i64 er] 76)
        have hF86 := heap_lt bF8
        rw [e6] at bF8 hb6 HF hF86 ⊢
        have q0 := ((bcell hb6).1 (N + 1) 0 hNl5).trans y0
        have q1 := ((bcell hb6).1 (N + 1) 1 hNl5).trans y1
        have q2 := ((bcell hb6).1 (N + 1) 2 hNl5).trans y2
        have q3 := ((bcell hb6).1 (N + 1) 3 hNl5).trans y3
        have q4 := ((bcell hb6).1 (N + 1) 4 hNl5).trans y4
        have gq0 := ((bcell hb6).2 (N + 1) 0 hNl5).trans fy0
        have gq1 := ((bcell hb6).2 (N + 1) 1 hNl5).trans fy1
        have gq2 := ((bcell hb6).2 (N + 1) 2 hNl5).trans fy2
        have gq3 := ((bcell hb6).2 (N + 1) 3 hNl5).trans fy3
        have gq4 := ((bcell hb6).2 (N + 1) 4 hNl5).trans fy4
        have f0 := cell_of_row W6 _ 0 _ _ _ bF8
        have f1 := cell_of_row W6 _ 1 _ _ _ bF8
        simp at f0 f1
        rw [eF8] at f0 f1 hNl5 ⊢
        have hne8 : F8 ≠ N + 1 := by omega
        have HF2 := Lib.hid HF.out
        clear y0 y1 y2 y3 y4 fy0 fy1 fy2 fy3 fy4 hb6 e6 bF8 ee HF HRes HRi HCp HE4 H0 H1 hF86
        go_region
        go_wp2
        refine bodyPost_ret (results_res _ _ _ _ _ _ rfl rfl rfl rfl rfl HF2.out.1.1) rfl ?_
        refine ⟨HF2.out.1.2.1.drew, ?_⟩
        rw [HR.out, HF2.out.2]
        rfl
      | ok p9 =>
        obtain ⟨t', ws⟩ := p9
        rw [hrt] at hq
        obtain ⟨rfl, ho, B, L, v5, hBl, hl5, hst5, hstat5, hnum5⟩ := hq
        have hTBn : ∀ k, TB (wholeL y t.line g) b k → N + 2 ≤ k := fun k hk => by
          rcases hk with rfl | hk
          · exact HWh.out.1.ne.2.1
          · rw [whole_blks] at hk
            rcases List.mem_cons.1 hk with rfl | hk
            · exact HWh.out.1.ne.2.2
            · exact (HWh.out.1.blks k hk).1
        have hRN : N + 2 ≤ R := by have := heap_lt HWh.out.1.box; have := HWh.out.1.ne.2.1; omega
        have hb5 : Below (N + 2) W4 w5 := ho.to_below (by have := HWh.out.2.2.2.2.1; omega) (fun i hi _ => by
          rcases hi with hi | rfl
          · exact hTBn i hi
          · exact hRN)
        have hbW5 : Below W.heap.size W w5 := (HWh.out.1.below.trans (HWh.out.2.1.mono (by rw [← eR]; exact HWh.out.1.below.size))).trans (hb5.mono (by omega))
        have hB5 := (hb5.block (N + 1) (by omega)).trans ((HWh.out.2.1.block (N + 1) (by have := heap_lt HWh.out.1.res; omega)).trans HWh.out.1.res)
        obtain ⟨n9, q, ht', hrO⟩ := res_whole hrt
        have hnT := numT_res _ _ _ _ _ _ hrt []
        rw [List.append_nil] at hnT
        obtain ⟨z, hzq, hc3, ⟨k0, k1, k2, k3, k4⟩, hLz⟩ := whole_post hstat5 hnum5 (by rw [HWh.out.2.2.2.1]; exact hnT) ht'
        obtain ⟨Az, cz, hvz⟩ := hLz.slice
        rw [hvz] at k3
        have hNl5 := heap_lt hB5
        have hbl5 := cell_lt hc3
        have hgl5 := cell_lt k0
        have hal6 := below_alloc9 w5 (.cells #[.int .i64 0, .int .i64 0] 76)
        have hw45 := ho.size
        have HD := Lib.hid (And.intro hbW5 (And.intro hB5 (And.intro hrO (And.intro hzq (And.intro hLz (And.intro hvz (And.intro hst5 (And.intro hBl (And.intro hRN (And.intro hTBn hl5))))))))))
        clear hbW5 hB5 hrO hzq hLz hvz hb5 ho hst5 hBl hstat5 hnum5 hrt hnT ht' hTBn
        unfold faultV
        go_upto_region 8 with fail
        obtain ⟨W6, e6⟩ : ∃ W6, w5.alloc (.cells #[.int .i64 0, .int .i64 0] 76) = W6 := ⟨_, rfl⟩
        rw [e6] at hal6 ⊢
        have hc3' := ((bcell hal6).1 b 3 hbl5).trans hc3
        have k0' := ((bcell hal6).1 g 0 hgl5).trans k0
        have k1' := ((bcell hal6).1 g 1 hgl5).trans k1
        have k2' := ((bcell hal6).1 g 2 hgl5).trans k2
        have k3' := ((bcell hal6).1 g 3 hgl5).trans k3
        have k4' := ((bcell hal6).1 g 4 hgl5).trans k4
        have hB6 := (hal6.block (N + 1) hNl5).trans HD.out.2.1
        have hst6 := HD.out.2.2.2.2.2.2.1.below hal6
        have HTd := Lib.hid (told_any W6.drew R B ws L v5 (hst6.keep rfl (fun _ _ => rfl) (fun _ _ _ _ => rfl)) HD.out.2.2.2.2.2.2.2.2.2.2)
        have hs6 := hal6.size
        have hNl6 := heap_lt hB6
        have hbl6 : b < W6.heap.size := by omega
        have hgl6 : g < W6.heap.size := by omega
        have H6 := Lib.hid (And.intro hal6 (And.intro hB6 hst6))
        clear hc3 k0 k1 k2 k3 k4 hal6 hB6 hst6 e6 HRes HRi HCp HE4 H0 H1 hbl5 hgl5
        go_region_law (first
          | (go_simp; go_at_call 39; refine HTd.out.mono ?_; rintro e w7 ⟨v7, rfl, hrow7, hb7⟩; obtain ⟨A7, c7, rfl⟩ : ∃ A c, v7 = .slice A L.length c := (by rcases hrow7.2 with ⟨e, h0⟩ | ⟨g9, cap, cur, e, -⟩; (exact ⟨none, 0, by rw [e, h0]⟩); (exact ⟨_, _, e⟩)); have m3 := ((bcell hb7).1 b 3 hbl6).trans hc3'; have m0 := ((bcell hb7).1 g 0 hgl6).trans k0'; have m1 := ((bcell hb7).1 g 1 hgl6).trans k1'; have m2 := ((bcell hb7).1 g 2 hgl6).trans k2'; have m4 := ((bcell hb7).1 g 3 hgl6).trans k3'; have m5 := ((bcell hb7).1 g 4 hgl6).trans k4'; have hB7 := (hb7.block (N + 1) hNl6).trans H6.out.2.1; have y0 := cell_of_row w7 _ 0 _ _ _ hB7; have y1 := cell_of_row w7 _ 1 _ _ _ hB7; have y2 := cell_of_row w7 _ 2 _ _ _ hB7; have y3 := cell_of_row w7 _ 3 _ _ _ hB7; have y4 := cell_of_row w7 _ 4 _ _ _ hB7; have fy0 := frozen_of_row w7 _ 0 _ _ hB7; have fy1 := frozen_of_row w7 _ 1 _ _ hB7; have fy2 := frozen_of_row w7 _ 2 _ _ hB7; have fy3 := frozen_of_row w7 _ 3 _ _ hB7; have fy4 := frozen_of_row w7 _ 4 _ _ hB7; simp at y0 y1 y2 y3 y4; have H7 := Lib.hid (And.intro hrow7 (And.intro hb7 hB7)); clear hrow7 hb7 hB7)
          | fail)
        all_goals
          go_wp2
          have hbW7 : Below W.heap.size W w7 := (HD.out.1.trans (H6.out.1.mono HD.out.1.size)).drew.trans (H7.out.2.1.mono (by show W.heap.size ≤ W6.heap.size; omega))
          have hfin := setN5_fin (v0 := .int .i64 z.op) (v1 := .string (bs z.s)) (v2 := .int .i64 z.n) (v3 := .slice Az z.l.length cz) (v4 := .int .i64 z.line) (b := N + 1) (by omega) hbW7 H7.out.2.2
          refine bodyPost_ret (results_res _ _ _ _ _ _ rfl rfl rfl rfl rfl hfin.1) rfl ?_
          refine ⟨hfin.2.1, ?_⟩
          rw [HR.out, HD.out.2.2.1]
          have hs7 := H7.out.2.1.size
          have hBl := HD.out.2.2.2.2.2.2.2.1
          have hRN := HD.out.2.2.2.2.2.2.2.2.1
          have hsz4 := HWh.out.2.2.2.2.1
          have hs7' : W6.heap.size ≤ w7.heap.size := hs7
          refine ⟨_, _, rfl, ⟨L.map g2, ?_, ?_, fun p hp => ?_⟩, z, HD.out.2.2.2.1, ?_, HD.out.2.2.2.2.1.frame (fun k hk => ?_) (fun k hk => ?_)⟩
          · rw [List.map_map]
            exact HD.out.2.2.2.2.2.2.1.funs
          · rw [List.length_map]
            exact rowSet H7.out.1 hfin.2.2 (by show N + 1 < W6.heap.size; omega) (by show W.heap.size ≤ W6.heap.size; omega)
          · obtain ⟨q9, hq9, rfl⟩ := List.mem_map.1 hp
            exact rowSet (rowBelow (H6.out.2.2.each q9 hq9).row.drew H7.out.2.1) hfin.2.2 (by omega) (by omega)
          · unfold Lo.val
            rw [HD.out.2.2.2.2.2.1]
          · have hk2 : N + 2 ≤ k := HD.out.2.2.2.2.2.2.2.2.2.1 k (.inr (by rw [whole_blks]; exact hk))
            obtain ⟨cs9, hc9⟩ : ∃ o, wc.heap[k]? = some o := by
              rcases List.mem_cons.1 hk with rfl | hk
              · exact ⟨_, HWh.out.1.row⟩
              · exact ⟨_, Array.getElem?_eq_getElem (Lies.lt y HWh.out.1.lies k hk)⟩
            have hkl := heap_lt hc9
            exact ⟨by omega, Nat.lt_of_lt_of_le (show k < w7.heap.size by omega) hfin.2.2.size⟩
          · have hk2 : N + 2 ≤ k := HD.out.2.2.2.2.2.2.2.2.2.1 k (.inr (by rw [whole_blks]; exact hk))
            have hkl : k < wc.heap.size := by
              rcases List.mem_cons.1 hk with rfl | hk
              · exact heap_lt HWh.out.1.row
              · exact Lies.lt y HWh.out.1.lies k hk
            have hk5 : k < w5.heap.size := by omega
            exact (hfin.2.2.block k (by omega) (by omega)).trans ((H7.out.2.1.block k (by show k < W6.heap.size; omega)).trans (H6.out.1.block k hk5))
end
end Go.Proofs.YtikbfoichhkeaaaGreat
