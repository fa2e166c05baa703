/- Trees with the values of their slices, as they lie in a set of blocks. Trees of the heap: a node's five cells in a block. -/
import Derived.Test.YtbpodijcndglgaaProg
import Derived.Test.YtbpodijcndglgaaPn03
set_option linter.unusedSimpArgs false
set_option linter.unusedVariables false
set_option maxRecDepth 100000
set_option maxHeartbeats 40000000
namespace Go.Proofs.Ytbpodijcndglgaa
section
open Go.RowKit Go.Proofs
inductive Lo where
 | mk (op : Int) (s : Bs) (n : Int) (line : Int) (v : Value) (l : List Lo) : Lo
namespace Lo
def op : Lo → Int | mk o _ _ _ _ _ => o
def s : Lo → Bs | mk _ x _ _ _ _ => x
def n : Lo → Int | mk _ _ x _ _ _ => x
def line : Lo → Int | mk _ _ _ x _ _ => x
def v : Lo → Value | mk _ _ _ _ x _ => x
def l : Lo → List Lo | mk _ _ _ _ _ x => x
def val (x : Lo) : Value := .agg #[.int .i64 x.op, .string (bs x.s), .int .i64 x.n, x.v, .int .i64 x.line]
end Lo
mutual
def Lo.tree : Lo → Tr
 | .mk o s n i _ l => .mk o s n i (trees l)
def trees : List Lo → List Tr
 | [] => []
 | x :: r => x.tree :: trees r
end
theorem trees_map : ∀ l, trees l = l.map Lo.tree
 | [] => by rw [trees]; rfl
 | x :: r => by rw [trees, trees_map r]; rfl
theorem tree_eq (x : Lo) : x.tree = .mk x.op x.s x.n x.line (x.l.map Lo.tree) := by cases x; rw [Lo.tree, trees_map]; rfl
theorem val_eq (x : Lo) : x.val = nodeV x.tree x.v := by rw [tree_eq]; rfl
mutual
def Lo.levels (k : Nat) : Lo → List (Lo × Nat)
 | .mk o s n i v l => (.mk o s n i v l, k) :: loLevels (k + 1) l
def loLevels (k : Nat) : List Lo → List (Lo × Nat)
 | [] => []
 | x :: r => x.levels k ++ loLevels k r
end
theorem lo_levels_eq (k : Nat) (x : Lo) : x.levels k = (x, k) :: loLevels (k + 1) x.l := by cases x; rw [Lo.levels]; rfl
theorem loLevels_cons (k : Nat) (x : Lo) (r : List Lo) : loLevels k (x :: r) = x.levels k ++ loLevels k r := by rw [loLevels]
theorem loLevels_nil (k : Nat) : loLevels k [] = [] := by rw [loLevels]
mutual
theorem lo_levels_tree : ∀ (k : Nat) (x : Lo), (x.levels k).map (fun p => (p.1.tree, p.2)) = x.tree.levels k
 | k, .mk o s n i v l => by
  rw [Lo.levels, List.map_cons, Lo.tree, Tr.levels, loLevels_trees (k + 1) l]
theorem loLevels_trees : ∀ (k : Nat) (l : List Lo), (loLevels k l).map (fun p => (p.1.tree, p.2)) = levelsL k (trees l)
 | k, [] => by rw [loLevels, trees, levelsL]; rfl
 | k, x :: r => by rw [loLevels, trees, levelsL, List.map_append, lo_levels_tree k x, loLevels_trees k r]
end
mutual
def LoAt (W : World) (S : Nat → Prop) : Lo → Prop
 | .mk o s n _ v l => Fine o s n ∧ ∃ A cap, v = .slice A l.length cap ∧ (l.length ≤ cap ∧ cap ≤ maxLen) ∧ (0 < l.length → ∃ g off, A = some ⟨g, off, none⟩ ∧ S g ∧ LoAtL W S g off l)
def LoAtL (W : World) (S : Nat → Prop) (g : Nat) : Nat → List Lo → Prop
 | _, [] => True
 | off, x :: r => (LoAt W S x ∧ W.cell? ⟨g, off, none⟩ = some (.int .i64 x.op) ∧ W.cell? ⟨g, off + 1, none⟩ = some (.string (bs x.s)) ∧ W.cell? ⟨g, off + 2, none⟩ = some (.int .i64 x.n) ∧ W.cell? ⟨g, off + 3, none⟩ = some x.v ∧ W.cell? ⟨g, off + 4, none⟩ = some (.int .i64 x.line)) ∧ LoAtL W S g (off + 5) r
end
def LoRow (W : World) (S : Nat → Prop) (l : List Lo) (v : Value) : Prop :=
 ∃ A cap, v = .slice A l.length cap ∧ (l.length ≤ cap ∧ cap ≤ maxLen) ∧ (0 < l.length → ∃ g off, A = some ⟨g, off, none⟩ ∧ S g ∧ LoAtL W S g off l)
theorem LoAt_iff (W : World) (S : Nat → Prop) (x : Lo) : LoAt W S x ↔ Fine x.op x.s x.n ∧ LoRow W S x.l x.v := by
 cases x; rw [LoAt]; rfl
theorem LoAtL_nil (W : World) (S : Nat → Prop) (g off : Nat) : LoAtL W S g off [] := by rw [LoAtL]; trivial
theorem LoAtL_cons (W : World) (S : Nat → Prop) (g off : Nat) (x : Lo) (r : List Lo) : LoAtL W S g off (x :: r) ↔ (LoAt W S x ∧ W.cell? ⟨g, off, none⟩ = some (.int .i64 x.op) ∧ W.cell? ⟨g, off + 1, none⟩ = some (.string (bs x.s)) ∧ W.cell? ⟨g, off + 2, none⟩ = some (.int .i64 x.n) ∧ W.cell? ⟨g, off + 3, none⟩ = some x.v ∧ W.cell? ⟨g, off + 4, none⟩ = some (.int .i64 x.line)) ∧ LoAtL W S g (off + 5) r := by
 rw [LoAtL]
mutual
theorem LoAt.keep : ∀ {W W' : World} {S S' : Nat → Prop} (x : Lo), LoAt W S x → (∀ k, S k → S' k) → (∀ p : Addr, S p.block → W'.cell? p = W.cell? p) → LoAt W' S' x
 | W, W', S, S', .mk o s n i v l, h, hS, hk => by
  rw [LoAt] at h ⊢
  obtain ⟨h0, A, cap, rfl, h1, h2⟩ := h
  refine ⟨h0, A, cap, rfl, h1, fun hl => ?_⟩
  obtain ⟨g, off, rfl, hg, ha⟩ := h2 hl
  exact ⟨g, off, rfl, hS g hg, LoAtL.keep l ha hg hS hk⟩
theorem LoAtL.keep : ∀ {W W' : World} {S S' : Nat → Prop} {g off : Nat} (l : List Lo), LoAtL W S g off l → S g → (∀ k, S k → S' k) → (∀ p : Addr, S p.block → W'.cell? p = W.cell? p) → LoAtL W' S' g off l
 | W, W', S, S', g, off, [], _, _, _, _ => LoAtL_nil _ _ _ _
 | W, W', S, S', g, off, x :: r, h, hg, hS, hk => by
  rw [LoAtL_cons] at h ⊢
  obtain ⟨⟨h0, h1, h2, h3, h4, h5⟩, h6⟩ := h
  exact ⟨⟨LoAt.keep x h0 hS hk, (hk _ hg).trans h1, (hk _ hg).trans h2, (hk _ hg).trans h3, (hk _ hg).trans h4, (hk _ hg).trans h5⟩, LoAtL.keep r h6 hg hS hk⟩
end
theorem LoRow.keep {W W' : World} {S S' : Nat → Prop} {l : List Lo} {v : Value} (h : LoRow W S l v) (hS : ∀ k, S k → S' k) (hk : ∀ p : Addr, S p.block → W'.cell? p = W.cell? p) : LoRow W' S' l v := by
 obtain ⟨A, cap, rfl, h1, h2⟩ := h
 refine ⟨A, cap, rfl, h1, fun hl => ?_⟩
 obtain ⟨g, off, rfl, hg, ha⟩ := h2 hl
 exact ⟨g, off, rfl, hS g hg, LoAtL.keep l ha hg hS hk⟩
mutual
theorem Lo.of_at : ∀ {W : World} {n : Nat} (t : Tr) {v : Value}, At W n t v → ∃ x : Lo, x.tree = t ∧ x.val = v ∧ LoAt W (fun k => k < n) x
 | W, n, .mk o s k i l, v, h => by
  rw [At] at h
  obtain ⟨A, cap, rfl, ⟨h1, h2, h3⟩, h4⟩ := h
  by_cases hl : 0 < l.length
  ·obtain ⟨g, off, rfl, hg, ha⟩ := h4 hl
   obtain ⟨ls, e1, e2⟩ := Lo.of_atL l ha
   have e3 : ls.length = l.length := by rw [← e1, trees_map, List.length_map]
   exact ⟨.mk o s k i (.slice (some ⟨g, off, none⟩) l.length cap) ls, by rw [Lo.tree, e1], rfl, by
    rw [LoAt]
    exact ⟨h3, _, cap, by rw [e3], ⟨by rw [e3]; exact h1, h2⟩, fun _ => ⟨g, off, rfl, hg, e2⟩⟩⟩
  ·obtain rfl : l = [] := List.eq_nil_of_length_eq_zero (by omega)
   exact ⟨.mk o s k i (.slice A 0 cap) [], by rw [Lo.tree, trees], rfl, by
    rw [LoAt]
    exact ⟨h3, A, cap, rfl, ⟨h1, h2⟩, fun h => absurd h (by simp)⟩⟩
theorem Lo.of_atL : ∀ {W : World} {n g off : Nat} (l : List Tr), AtL W n g off l → ∃ ls : List Lo, trees ls = l ∧ LoAtL W (fun k => k < n) g off ls
 | W, n, g, off, [], _ => ⟨[], by rw [trees], LoAtL_nil _ _ _ _⟩
 | W, n, g, off, t :: r, h => by
  rw [AtL_cons] at h
  obtain ⟨⟨v, h0, h1, h2, h3, h4, h5⟩, h6⟩ := h
  obtain ⟨x, e1, e2, e3⟩ := Lo.of_at t h0
  obtain ⟨ls, e4, e5⟩ := Lo.of_atL r h6
  have ev : x.v = v := by
   rw [val_eq, e1] at e2
   unfold nodeV at e2
   simpa using e2
  refine ⟨x :: ls, by rw [trees, e1, e4], ?_⟩
  rw [LoAtL_cons]
  rw [← e1, tree_eq] at h1 h2 h3 h5
  exact ⟨⟨e3, h1, h2, h3, by rw [ev]; exact h4, h5⟩, e5⟩
end
mutual
theorem LoAt.at_ : ∀ {W : World} {S : Nat → Prop} {n : Nat} (x : Lo), LoAt W S x → (∀ k, S k → k < n) → At W n x.tree x.val
 | W, S, n, .mk o s k i v l, h, hS => by
  rw [LoAt] at h
  obtain ⟨h0, A, cap, rfl, h1, h2⟩ := h
  rw [Lo.tree, At]
  have e : (trees l).length = l.length := by rw [trees_map, List.length_map]
  refine ⟨A, cap, by rw [e]; rfl, ⟨by rw [e]; exact h1.1, h1.2, h0⟩, fun hl => ?_⟩
  obtain ⟨g, off, rfl, hg, ha⟩ := h2 (by rw [← e]; exact hl)
  exact ⟨g, off, rfl, hS g hg, LoAtL.at_ l ha hS⟩
theorem LoAtL.at_ : ∀ {W : World} {S : Nat → Prop} {n g off : Nat} (l : List Lo), LoAtL W S g off l → (∀ k, S k → k < n) → AtL W n g off (trees l)
 | W, S, n, g, off, [], _, _ => by rw [trees]; exact AtL_nil _ _ _ _
 | W, S, n, g, off, x :: r, h, hS => by
  rw [LoAtL_cons] at h
  obtain ⟨⟨h0, h1, h2, h3, h4, h5⟩, h6⟩ := h
  rw [trees, AtL_cons]
  refine ⟨⟨x.v, ?_, ?_⟩, LoAtL.at_ r h6 hS⟩
  ·rw [← val_eq]; exact LoAt.at_ x h0 hS
  ·rw [tree_eq]; exact ⟨h1, h2, h3, h4, h5⟩
end
theorem LoRow.head {W : World} {S : Nat → Prop} {x : Lo} {r : List Lo} {v : Value} (h : LoRow W S (x :: r) v) :
  ∃ g off cap, v = .slice (some ⟨g, off, none⟩) (r.length + 1) cap ∧ r.length + 1 ≤ cap ∧ cap ≤ maxLen ∧ S g ∧ LoAt W S x ∧ W.cell? ⟨g, off, none⟩ = some (.int .i64 x.op) ∧ W.cell? ⟨g, off + 1, none⟩ = some (.string (bs x.s)) ∧ W.cell? ⟨g, off + 2, none⟩ = some (.int .i64 x.n) ∧ W.cell? ⟨g, off + 3, none⟩ = some x.v ∧ W.cell? ⟨g, off + 4, none⟩ = some (.int .i64 x.line) ∧
   ∀ A, (0 < r.length → A = some ⟨g, off + 5, none⟩) → LoRow W S r (.slice A r.length (cap - 1)) := by
 obtain ⟨A, cap, rfl, h1, h2⟩ := h
 obtain ⟨g, off, rfl, hg, ha⟩ := h2 (by simp)
 rw [LoAtL_cons] at ha
 obtain ⟨⟨h0, c0, c1, c2, c3, c4⟩, ha⟩ := ha
 simp only [List.length_cons] at h1
 exact ⟨g, off, cap, by simp, h1.1, h1.2, hg, h0, c0, c1, c2, c3, c4, fun A hA => ⟨A, cap - 1, rfl, ⟨by omega, by omega⟩, fun hr => ⟨g, off + 5, hA hr, hg, ha⟩⟩⟩
mutual
theorem LoAt.part : ∀ {W : World} {S : Nat → Prop} (k : Nat) (x : Lo), LoAt W S x → ∀ y ∈ x.levels k, LoAt W S y.1
 | W, S, k, .mk o s n i v l, h, y, hy => by
  rw [Lo.levels] at hy
  rcases List.mem_cons.1 hy with rfl | hy
  ·exact h
  ·rw [LoAt] at h
   obtain ⟨_, A, cap, _, _, h2⟩ := h
   by_cases hl : 0 < l.length
   ·obtain ⟨g, off, _, _, ha⟩ := h2 hl
    exact LoAtL.part (k + 1) l ha y hy
   ·obtain rfl : l = [] := List.eq_nil_of_length_eq_zero (by omega)
    rw [loLevels] at hy
    cases hy
theorem LoAtL.part : ∀ {W : World} {S : Nat → Prop} {g off : Nat} (k : Nat) (l : List Lo), LoAtL W S g off l → ∀ y ∈ loLevels k l, LoAt W S y.1
 | W, S, g, off, k, [], _, y, hy => by rw [loLevels] at hy; cases hy
 | W, S, g, off, k, x :: r, h, y, hy => by
  rw [LoAtL_cons] at h
  rw [loLevels] at hy
  rcases List.mem_append.1 hy with hy | hy
  ·exact LoAt.part k x h.1.1 y hy
  ·exact LoAtL.part k r h.2 y hy
end
theorem LoAt.slice {W : World} {S : Nat → Prop} {x : Lo} (h : LoAt W S x) : ∃ A c, x.v = .slice A x.l.length c := by
 rw [LoAt_iff] at h
 obtain ⟨_, A, c, e, _⟩ := h
 exact ⟨A, c, e⟩
theorem pre_mem {α : Type} {pre xs : List α} {x : α} (h : pre ++ [x] <+: xs) : x ∈ xs := by
 obtain ⟨r, rfl⟩ := h
 simp
def rem : List (List Lo) → List (Lo × Nat)
 | [] => []
 | r :: st => loLevels (st.length + 1) r ++ rem st
theorem rem_nil : rem [] = [] := rfl
theorem rem_pop (st : List (List Lo)) : rem ([] :: st) = rem st := by rw [rem, loLevels_nil]; rfl
theorem rem_step (x : Lo) (r : List Lo) (st : List (List Lo)) : rem ((x :: r) :: st) = (x, st.length + 1) :: rem (x.l :: r :: st) := by
 rw [rem, loLevels_cons, lo_levels_eq, rem, rem]
 simp
mutual
def Lo.size : Lo → Nat
 | .mk _ _ _ _ _ l => 1 + loSizes l
def loSizes : List Lo → Nat
 | [] => 0
 | x :: r => x.size + loSizes r
end
theorem lo_size_eq (x : Lo) : x.size = 1 + loSizes x.l := by cases x; rw [Lo.size]; rfl
theorem loSizes_cons (x : Lo) (r : List Lo) : loSizes (x :: r) = x.size + loSizes r := by rw [loSizes]
theorem loSizes_nil : loSizes [] = 0 := by rw [loSizes]
mutual
theorem lo_size_tree : ∀ x : Lo, x.tree.size = x.size
 | .mk o s n i v l => by rw [Lo.tree, Tr.size, Lo.size, loSizes_trees l]
theorem loSizes_trees : ∀ l : List Lo, sizes (trees l) = loSizes l
 | [] => by rw [trees, sizes, loSizes]
 | x :: r => by rw [trees, sizes, loSizes, lo_size_tree x, loSizes_trees r]
end
def heft : List (List Lo) → Nat
 | [] => 0
 | r :: st => 2 * loSizes r + 1 + heft st
theorem heft_cons (r : List Lo) (st : List (List Lo)) : heft (r :: st) = 2 * loSizes r + 1 + heft st := rfl
theorem heft_pop (st : List (List Lo)) : heft st < heft ([] :: st) := by rw [heft_cons]; omega
theorem heft_step (x : Lo) (r : List Lo) (st : List (List Lo)) : heft (x.l :: r :: st) < heft ((x :: r) :: st) := by
 rw [heft_cons, heft_cons, heft_cons, loSizes_cons, lo_size_eq]
 omega
end
section
open Go.RowKit Go.Proofs
def BoxAt (w : World) (B : Nat) (t : Tr) (u : Value) : Prop :=
 w.cell? ⟨B, 0, none⟩ = some (.int .i64 t.op) ∧ w.cell? ⟨B, 1, none⟩ = some (.string (bs t.s)) ∧ w.cell? ⟨B, 2, none⟩ = some (.int .i64 t.n) ∧ w.cell? ⟨B, 3, none⟩ = some u ∧ w.cell? ⟨B, 4, none⟩ = some (.int .i64 t.line)
theorem box_in {W0 w' : World} {B : Nat} {t : Tr} {u : Value} (hb : Below W0.heap.size W0 w') (h : W0.heap[B]? = some (.cells #[.int .i64 t.op, .string (bs t.s), .int .i64 t.n, u, .int .i64 t.line] 24 (0, 0))) : BoxAt w' B t u := by
 have hx : w'.heap[B]? = some (.cells #[.int .i64 t.op, .string (bs t.s), .int .i64 t.n, u, .int .i64 t.line] 24 (0, 0)) := (hb.block B (Array.getElem?_eq_some_iff.1 h).1).trans h
 exact ⟨cell_of_row _ _ 0 _ _ _ hx, cell_of_row _ _ 1 _ _ _ hx, cell_of_row _ _ 2 _ _ _ hx, cell_of_row _ _ 3 _ _ _ hx, cell_of_row _ _ 4 _ _ _ hx⟩
theorem elem_at {w wr : World} {b g off i : Nat} {xs : List Tr} {x : Tr} (HA : AtL w b g off xs) (hg : g < b) (hb : Below b w wr) (hx : xs[i]? = some x) :
  ∃ Av cv, At wr b x (nodeV x (.slice Av x.l.length cv)) ∧ wr.cell? ⟨g, off + i * 5, none⟩ = some (.int .i64 x.op) ∧ wr.cell? ⟨g, off + i * 5 + 1, none⟩ = some (.string (bs x.s)) ∧ wr.cell? ⟨g, off + i * 5 + 2, none⟩ = some (.int .i64 x.n) ∧
   wr.cell? ⟨g, off + i * 5 + 3, none⟩ = some (.slice Av x.l.length cv) ∧ wr.cell? ⟨g, off + i * 5 + 4, none⟩ = some (.int .i64 x.line) := by
 obtain ⟨vx, hAt, x0, x1, x2, x3, x4⟩ := AtL.get xs i x (AtL.keep (W' := wr) (n' := b) xs HA hg (Nat.le_refl _) fun _ hp => hb.cell hp) hx
 have hvx : ∃ A c, vx = .slice A x.l.length c := by
  have h := hAt
  rw [At_iff] at h
  obtain ⟨u', e', ⟨A', c', rfl, _⟩, _⟩ := h
  unfold nodeV at e'
  simp at e'
  exact ⟨A', c', e'⟩
 obtain ⟨Av, cv, rfl⟩ := hvx
 exact ⟨Av, cv, hAt, x0, x1, x2, x3, x4⟩
theorem At.more {w w' : World} {b : Nat} {x : Tr} {v : Value} (h : At w b x v) (hg : Below b w w') : At w' b x v := h.below hg
theorem row_at {w : World} {b : Nat} {xs : List Tr} {v : Value} (h : Row w b xs v) : ∃ A c, v = .slice A xs.length c ∧ xs.length ≤ c ∧ c ≤ maxLen := by
 obtain ⟨A, c, rfl, h1, _⟩ := h
 exact ⟨A, c, rfl, h1.1, h1.2⟩
theorem bs_eq_iff (a b : Bs) : ((bs a).toList == (bs b).toList) = decide (a = b) := by
 rw [Lib.toList_data, Lib.toList_data, bs_list, bs_list, Bool.eq_iff_iff]
 simp
end
end Go.Proofs.Ytbpodijcndglgaa
