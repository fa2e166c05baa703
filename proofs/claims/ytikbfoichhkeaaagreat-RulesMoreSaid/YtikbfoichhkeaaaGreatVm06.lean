/- Trees with the values of their slices, as they lie in a set of blocks. The document's reader in memory: its block, trees in sets of blocks, rows of trees of one's own. -/
import Derived.Test.YtikbfoichhkeaaaGreatProg
import Derived.Test.YtikbfoichhkeaaaGreatVm05
set_option linter.unusedSimpArgs false
set_option linter.unusedVariables false
set_option maxRecDepth 100000
set_option maxHeartbeats 40000000
namespace Go.Proofs.YtikbfoichhkeaaaGreat
section
open Go.RowKit Go.Proofs
inductive Lo where
 | mk (op : Int) (s : Bs) (n : Int) (line : Int) (v : Value) (l : List Lo) : Lo
namespace Lo
def op : Lo → Int | mk o _ _ _ _ _ => o
def s : Lo → Bs | mk _ x _ _ _ _ => x
def n : Lo → Int | mk _ _ x _ _ _ => x
def line : Lo → Int | mk _ _ _ x _ _ => x
def v : Lo → Value | mk _ _ _ _ x _ => x
def l : Lo → List Lo | mk _ _ _ _ _ x => x
def val (x : Lo) : Value := .agg #[.int .i64 x.op, .string (bs x.s), .int .i64 x.n, x.v, .int .i64 x.line]
end Lo
mutual
def Lo.tree : Lo → Tr
 | .mk o s n i _ l => .mk o s n i (trees l)
def trees : List Lo → List Tr
 | [] => []
 | x :: r => x.tree :: trees r
end
theorem trees_map : ∀ l, trees l = l.map Lo.tree
 | [] => by rw [trees]; rfl
 | x :: r => by rw [trees, trees_map r]; rfl
theorem tree_eq (x : Lo) : x.tree = .mk x.op x.s x.n x.line (x.l.map Lo.tree) := by cases x; rw [Lo.tree, trees_map]; rfl
theorem val_eq (x : Lo) : x.val = nodeV x.tree x.v := by rw [tree_eq]; rfl
mutual
def Lo.levels (k : Nat) : Lo → List (Lo × Nat)
 | .mk o s n i v l => (.mk o s n i v l, k) :: loLevels (k + 1) l
def loLevels (k : Nat) : List Lo → List (Lo × Nat)
 | [] => []
 | x :: r => x.levels k ++ loLevels k r
end
theorem lo_levels_eq (k : Nat) (x : Lo) : x.levels k = (x, k) :: loLevels (k + 1) x.l := by cases x; rw [Lo.levels]; rfl
theorem loLevels_cons (k : Nat) (x : Lo) (r : List Lo) : loLevels k (x :: r) = x.levels k ++ loLevels k r := by rw [loLevels]
theorem loLevels_nil (k : Nat) : loLevels k [] = [] := by rw [loLevels]
mutual
theorem lo_levels_tree : ∀ (k : Nat) (x : Lo), (x.levels k).map (fun p => (p.1.tree, p.2)) = x.tree.levels k
 | k, .mk o s n i v l => by
  rw [Lo.levels, List.map_cons, Lo.tree, Tr.levels, loLevels_trees (k + 1) l]
theorem loLevels_trees : ∀ (k : Nat) (l : List Lo), (loLevels k l).map (fun p => (p.1.tree, p.2)) = levelsL k (trees l)
 | k, [] => by rw [loLevels, trees, levelsL]; rfl
 | k, x :: r => by rw [loLevels, trees, levelsL, List.map_append, lo_levels_tree k x, loLevels_trees k r]
end
mutual
def LoAt (W : World) (S : Nat → Prop) : Lo → Prop
 | .mk o s n _ v l => Fine o s n ∧ ∃ A cap, v = .slice A l.length cap ∧ (l.length ≤ cap ∧ cap ≤ maxLen) ∧ (0 < l.length → ∃ g off, A = some ⟨g, off, none⟩ ∧ S g ∧ LoAtL W S g off l)
def LoAtL (W : World) (S : Nat → Prop) (g : Nat) : Nat → List Lo → Prop
 | _, [] => True
 | off, x :: r => (LoAt W S x ∧ W.cell? ⟨g, off, none⟩ = some (.int .i64 x.op) ∧ W.cell? ⟨g, off + 1, none⟩ = some (.string (bs x.s)) ∧ W.cell? ⟨g, off + 2, none⟩ = some (.int .i64 x.n) ∧ W.cell? ⟨g, off + 3, none⟩ = some x.v ∧ W.cell? ⟨g, off + 4, none⟩ = some (.int .i64 x.line)) ∧ LoAtL W S g (off + 5) r
end
def LoRow (W : World) (S : Nat → Prop) (l : List Lo) (v : Value) : Prop :=
 ∃ A cap, v = .slice A l.length cap ∧ (l.length ≤ cap ∧ cap ≤ maxLen) ∧ (0 < l.length → ∃ g off, A = some ⟨g, off, none⟩ ∧ S g ∧ LoAtL W S g off l)
theorem LoAt_iff (W : World) (S : Nat → Prop) (x : Lo) : LoAt W S x ↔ Fine x.op x.s x.n ∧ LoRow W S x.l x.v := by
 cases x; rw [LoAt]; rfl
theorem LoAtL_nil (W : World) (S : Nat → Prop) (g off : Nat) : LoAtL W S g off [] := by rw [LoAtL]; trivial
theorem LoAtL_cons (W : World) (S : Nat → Prop) (g off : Nat) (x : Lo) (r : List Lo) : LoAtL W S g off (x :: r) ↔ (LoAt W S x ∧ W.cell? ⟨g, off, none⟩ = some (.int .i64 x.op) ∧ W.cell? ⟨g, off + 1, none⟩ = some (.string (bs x.s)) ∧ W.cell? ⟨g, off + 2, none⟩ = some (.int .i64 x.n) ∧ W.cell? ⟨g, off + 3, none⟩ = some x.v ∧ W.cell? ⟨g, off + 4, none⟩ = some (.int .i64 x.line)) ∧ LoAtL W S g (off + 5) r := by
 rw [LoAtL]
mutual
theorem LoAt.keep : ∀ {W W' : World} {S S' : Nat → Prop} (x : Lo), LoAt W S x → (∀ k, S k → S' k) → (∀ p : Addr, S p.block → W'.cell? p = W.cell? p) → LoAt W' S' x
 | W, W', S, S', .mk o s n i v l, h, hS, hk => by
  rw [LoAt] at h ⊢
  obtain ⟨h0, A, cap, rfl, h1, h2⟩ := h
  refine ⟨h0, A, cap, rfl, h1, fun hl => ?_⟩
  obtain ⟨g, off, rfl, hg, ha⟩ := h2 hl
  exact ⟨g, off, rfl, hS g hg, LoAtL.keep l ha hg hS hk⟩
theorem LoAtL.keep : ∀ {W W' : World} {S S' : Nat → Prop} {g off : Nat} (l : List Lo), LoAtL W S g off l → S g → (∀ k, S k → S' k) → (∀ p : Addr, S p.block → W'.cell? p = W.cell? p) → LoAtL W' S' g off l
 | W, W', S, S', g, off, [], _, _, _, _ => LoAtL_nil _ _ _ _
 | W, W', S, S', g, off, x :: r, h, hg, hS, hk => by
  rw [LoAtL_cons] at h ⊢
  obtain ⟨⟨h0, h1, h2, h3, h4, h5⟩, h6⟩ := h
  exact ⟨⟨LoAt.keep x h0 hS hk, (hk _ hg).trans h1, (hk _ hg).trans h2, (hk _ hg).trans h3, (hk _ hg).trans h4, (hk _ hg).trans h5⟩, LoAtL.keep r h6 hg hS hk⟩
end
theorem LoRow.keep {W W' : World} {S S' : Nat → Prop} {l : List Lo} {v : Value} (h : LoRow W S l v) (hS : ∀ k, S k → S' k) (hk : ∀ p : Addr, S p.block → W'.cell? p = W.cell? p) : LoRow W' S' l v := by
 obtain ⟨A, cap, rfl, h1, h2⟩ := h
 refine ⟨A, cap, rfl, h1, fun hl => ?_⟩
 obtain ⟨g, off, rfl, hg, ha⟩ := h2 hl
 exact ⟨g, off, rfl, hS g hg, LoAtL.keep l ha hg hS hk⟩
mutual
theorem Lo.of_at : ∀ {W : World} {n : Nat} (t : Tr) {v : Value}, At W n t v → ∃ x : Lo, x.tree = t ∧ x.val = v ∧ LoAt W (fun k => k < n) x
 | W, n, .mk o s k i l, v, h => by
  rw [At] at h
  obtain ⟨A, cap, rfl, ⟨h1, h2, h3⟩, h4⟩ := h
  by_cases hl : 0 < l.length
  ·obtain ⟨g, off, rfl, hg, ha⟩ := h4 hl
   obtain ⟨ls, e1, e2⟩ := Lo.of_atL l ha
   have e3 : ls.length = l.length := by rw [← e1, trees_map, List.length_map]
   exact ⟨.mk o s k i (.slice (some ⟨g, off, none⟩) l.length cap) ls, by rw [Lo.tree, e1], rfl, by
    rw [LoAt]
    exact ⟨h3, _, cap, by rw [e3], ⟨by rw [e3]; exact h1, h2⟩, fun _ => ⟨g, off, rfl, hg, e2⟩⟩⟩
  ·obtain rfl : l = [] := List.eq_nil_of_length_eq_zero (by omega)
   exact ⟨.mk o s k i (.slice A 0 cap) [], by rw [Lo.tree, trees], rfl, by
    rw [LoAt]
    exact ⟨h3, A, cap, rfl, ⟨h1, h2⟩, fun h => absurd h (by simp)⟩⟩
theorem Lo.of_atL : ∀ {W : World} {n g off : Nat} (l : List Tr), AtL W n g off l → ∃ ls : List Lo, trees ls = l ∧ LoAtL W (fun k => k < n) g off ls
 | W, n, g, off, [], _ => ⟨[], by rw [trees], LoAtL_nil _ _ _ _⟩
 | W, n, g, off, t :: r, h => by
  rw [AtL_cons] at h
  obtain ⟨⟨v, h0, h1, h2, h3, h4, h5⟩, h6⟩ := h
  obtain ⟨x, e1, e2, e3⟩ := Lo.of_at t h0
  obtain ⟨ls, e4, e5⟩ := Lo.of_atL r h6
  have ev : x.v = v := by
   rw [val_eq, e1] at e2
   unfold nodeV at e2
   simpa using e2
  refine ⟨x :: ls, by rw [trees, e1, e4], ?_⟩
  rw [LoAtL_cons]
  rw [← e1, tree_eq] at h1 h2 h3 h5
  exact ⟨⟨e3, h1, h2, h3, by rw [ev]; exact h4, h5⟩, e5⟩
end
mutual
theorem LoAt.at_ : ∀ {W : World} {S : Nat → Prop} {n : Nat} (x : Lo), LoAt W S x → (∀ k, S k → k < n) → At W n x.tree x.val
 | W, S, n, .mk o s k i v l, h, hS => by
  rw [LoAt] at h
  obtain ⟨h0, A, cap, rfl, h1, h2⟩ := h
  rw [Lo.tree, At]
  have e : (trees l).length = l.length := by rw [trees_map, List.length_map]
  refine ⟨A, cap, by rw [e]; rfl, ⟨by rw [e]; exact h1.1, h1.2, h0⟩, fun hl => ?_⟩
  obtain ⟨g, off, rfl, hg, ha⟩ := h2 (by rw [← e]; exact hl)
  exact ⟨g, off, rfl, hS g hg, LoAtL.at_ l ha hS⟩
theorem LoAtL.at_ : ∀ {W : World} {S : Nat → Prop} {n g off : Nat} (l : List Lo), LoAtL W S g off l → (∀ k, S k → k < n) → AtL W n g off (trees l)
 | W, S, n, g, off, [], _, _ => by rw [trees]; exact AtL_nil _ _ _ _
 | W, S, n, g, off, x :: r, h, hS => by
  rw [LoAtL_cons] at h
  obtain ⟨⟨h0, h1, h2, h3, h4, h5⟩, h6⟩ := h
  rw [trees, AtL_cons]
  refine ⟨⟨x.v, ?_, ?_⟩, LoAtL.at_ r h6 hS⟩
  ·rw [← val_eq]; exact LoAt.at_ x h0 hS
  ·rw [tree_eq]; exact ⟨h1, h2, h3, h4, h5⟩
end
theorem LoRow.head {W : World} {S : Nat → Prop} {x : Lo} {r : List Lo} {v : Value} (h : LoRow W S (x :: r) v) :
  ∃ g off cap, v = .slice (some ⟨g, off, none⟩) (r.length + 1) cap ∧ r.length + 1 ≤ cap ∧ cap ≤ maxLen ∧ S g ∧ LoAt W S x ∧ W.cell? ⟨g, off, none⟩ = some (.int .i64 x.op) ∧ W.cell? ⟨g, off + 1, none⟩ = some (.string (bs x.s)) ∧ W.cell? ⟨g, off + 2, none⟩ = some (.int .i64 x.n) ∧ W.cell? ⟨g, off + 3, none⟩ = some x.v ∧ W.cell? ⟨g, off + 4, none⟩ = some (.int .i64 x.line) ∧
   ∀ A, (0 < r.length → A = some ⟨g, off + 5, none⟩) → LoRow W S r (.slice A r.length (cap - 1)) := by
 obtain ⟨A, cap, rfl, h1, h2⟩ := h
 obtain ⟨g, off, rfl, hg, ha⟩ := h2 (by simp)
 rw [LoAtL_cons] at ha
 obtain ⟨⟨h0, c0, c1, c2, c3, c4⟩, ha⟩ := ha
 simp only [List.length_cons] at h1
 exact ⟨g, off, cap, by simp, h1.1, h1.2, hg, h0, c0, c1, c2, c3, c4, fun A hA => ⟨A, cap - 1, rfl, ⟨by omega, by omega⟩, fun hr => ⟨g, off + 5, hA hr, hg, ha⟩⟩⟩
mutual
theorem LoAt.part : ∀ {W : World} {S : Nat → Prop} (k : Nat) (x : Lo), LoAt W S x → ∀ y ∈ x.levels k, LoAt W S y.1
 | W, S, k, .mk o s n i v l, h, y, hy => by
  rw [Lo.levels] at hy
  rcases List.mem_cons.1 hy with rfl | hy
  ·exact h
  ·rw [LoAt] at h
   obtain ⟨_, A, cap, _, _, h2⟩ := h
   by_cases hl : 0 < l.length
   ·obtain ⟨g, off, _, _, ha⟩ := h2 hl
    exact LoAtL.part (k + 1) l ha y hy
   ·obtain rfl : l = [] := List.eq_nil_of_length_eq_zero (by omega)
    rw [loLevels] at hy
    cases hy
theorem LoAtL.part : ∀ {W : World} {S : Nat → Prop} {g off : Nat} (k : Nat) (l : List Lo), LoAtL W S g off l → ∀ y ∈ loLevels k l, LoAt W S y.1
 | W, S, g, off, k, [], _, y, hy => by rw [loLevels] at hy; cases hy
 | W, S, g, off, k, x :: r, h, y, hy => by
  rw [LoAtL_cons] at h
  rw [loLevels] at hy
  rcases List.mem_append.1 hy with hy | hy
  ·exact LoAt.part k x h.1.1 y hy
  ·exact LoAtL.part k r h.2 y hy
end
theorem LoAt.slice {W : World} {S : Nat → Prop} {x : Lo} (h : LoAt W S x) : ∃ A c, x.v = .slice A x.l.length c := by
 rw [LoAt_iff] at h
 obtain ⟨_, A, c, e, _⟩ := h
 exact ⟨A, c, e⟩
theorem pre_mem {α : Type} {pre xs : List α} {x : α} (h : pre ++ [x] <+: xs) : x ∈ xs := by
 obtain ⟨r, rfl⟩ := h
 simp
def rem : List (List Lo) → List (Lo × Nat)
 | [] => []
 | r :: st => loLevels (st.length + 1) r ++ rem st
theorem rem_nil : rem [] = [] := rfl
theorem rem_pop (st : List (List Lo)) : rem ([] :: st) = rem st := by rw [rem, loLevels_nil]; rfl
theorem rem_step (x : Lo) (r : List Lo) (st : List (List Lo)) : rem ((x :: r) :: st) = (x, st.length + 1) :: rem (x.l :: r :: st) := by
 rw [rem, loLevels_cons, lo_levels_eq, rem, rem]
 simp
mutual
def Lo.size : Lo → Nat
 | .mk _ _ _ _ _ l => 1 + loSizes l
def loSizes : List Lo → Nat
 | [] => 0
 | x :: r => x.size + loSizes r
end
theorem lo_size_eq (x : Lo) : x.size = 1 + loSizes x.l := by cases x; rw [Lo.size]; rfl
theorem loSizes_cons (x : Lo) (r : List Lo) : loSizes (x :: r) = x.size + loSizes r := by rw [loSizes]
theorem loSizes_nil : loSizes [] = 0 := by rw [loSizes]
mutual
theorem lo_size_tree : ∀ x : Lo, x.tree.size = x.size
 | .mk o s n i v l => by rw [Lo.tree, Tr.size, Lo.size, loSizes_trees l]
theorem loSizes_trees : ∀ l : List Lo, sizes (trees l) = loSizes l
 | [] => by rw [trees, sizes, loSizes]
 | x :: r => by rw [trees, sizes, loSizes, lo_size_tree x, loSizes_trees r]
end
def heft : List (List Lo) → Nat
 | [] => 0
 | r :: st => 2 * loSizes r + 1 + heft st
theorem heft_cons (r : List Lo) (st : List (List Lo)) : heft (r :: st) = 2 * loSizes r + 1 + heft st := rfl
theorem heft_pop (st : List (List Lo)) : heft st < heft ([] :: st) := by rw [heft_cons]; omega
theorem heft_step (x : Lo) (r : List Lo) (st : List (List Lo)) : heft (x.l :: r :: st) < heft ((x :: r) :: st) := by
 rw [heft_cons, heft_cons, heft_cons, loSizes_cons, lo_size_eq]
 omega
end
section
open Go.RowKit Go.Proofs
abbrev Fr (R : Nat) (w w' : World) : Prop := Only (fun k => k = R) w w'
def New (w w' : World) : Nat → Prop := fun k => w.heap.size ≤ k ∧ k < w'.heap.size
section
variable {R B : Nat} {F S S' : Nat → Prop} {a b c w w' : World}
theorem Fr.of_below (h : Below B w w') (hB : w.heap.size ≤ B) : Fr R w w' := Only.of_below (h.mono hB)
theorem Fr.own (h : Fr R a b) (k : Only F b c) (hF : ∀ i, F i → a.heap.size ≤ i) : Fr R a c :=
 ⟨k.os.trans h.os, k.tape.trans h.tape, k.output.trans h.output, Nat.le_trans h.size k.size, fun i hi hr => (k.block i (Nat.lt_of_lt_of_le hi h.size) (fun hf => by have := hF i hf; omega)).trans (h.block i hi hr)⟩
theorem Fr.cell (h : Fr R w w') {k : Nat} (hk : k < w.heap.size) (hr : k ≠ R) (o : Nat) : w'.cell? ⟨k, o, none⟩ = w.cell? ⟨k, o, none⟩ := by
 unfold World.cell?
 rw [h.block k hk hr]
theorem cell_block {W W' : World} {k : Nat} (h : W'.heap[k]? = W.heap[k]?) : ∀ p : Addr, p.block = k → W'.cell? p = W.cell? p := by
 intro p hp
 unfold World.cell?
 rw [hp, h]
def TokAt (W : World) (g k : Nat) (t : Tok) : Prop :=
 W.cell? ⟨g, k * 5, none⟩ = some (.int .i64 t.kind) ∧ W.cell? ⟨g, k * 5 + 1, none⟩ = some (.string (bs t.s)) ∧ W.cell? ⟨g, k * 5 + 2, none⟩ = some (.int .i64 t.n) ∧ W.cell? ⟨g, k * 5 + 3, none⟩ = some (.int .i64 t.line) ∧ W.cell? ⟨g, k * 5 + 4, none⟩ = some (.bool t.nl)
def tokV (t : Tok) : Value := .agg #[.int .i64 t.kind, .string (bs t.s), .int .i64 t.n, .int .i64 t.line, .bool t.nl]
structure RdAt (W : World) (R : Nat) (A : Option Addr) (c : Nat) (L : List Tok) (st : St) : Prop where
 head : W.heap[R]? = some (.cells #[.slice A L.length c, .int .i64 st.pos, .int .i64 st.e, .int .i64 st.line] 108 (0, 0))
 row : ∀ k t, L[k]? = some t → ∃ g, A = some ⟨g, 0, none⟩ ∧ g < R ∧ TokAt W g k t
 len : L.length ≤ 65536
 cap : L.length ≤ c
 pos : st.pos ≤ L.length
 fine : ∀ t ∈ L, t.s.length ≤ 65536 ∧ 0 ≤ t.n ∧ t.n ≤ 999999999999999
variable {A : Option Addr} {cp : Nat} {L : List Tok} {st st' : St}
theorem RdAt.lt (h : RdAt w R A cp L st) : R < w.heap.size := heap_lt h.head
theorem TokAt.keep {W W' : World} {g k : Nat} {t : Tok} (h : TokAt W g k t) (hk : W'.heap[g]? = W.heap[g]?) : TokAt W' g k t := by
 have hc := cell_block hk
 obtain ⟨h0, h1, h2, h3, h4⟩ := h
 exact ⟨(hc ⟨g, _, none⟩ rfl).trans h0, (hc ⟨g, _, none⟩ rfl).trans h1, (hc ⟨g, _, none⟩ rfl).trans h2, (hc ⟨g, _, none⟩ rfl).trans h3, (hc ⟨g, _, none⟩ rfl).trans h4⟩
theorem RdAt.keep (h : RdAt w R A cp L st) (hk : ∀ i, i ≤ R → w'.heap[i]? = w.heap[i]?) : RdAt w' R A cp L st :=
 ⟨(hk R (Nat.le_refl _)).trans h.head, fun k t ht => by
  obtain ⟨g, e, hg, hT⟩ := h.row k t ht
  exact ⟨g, e, hg, hT.keep (hk g (by omega))⟩, h.len, h.cap, h.pos, h.fine⟩
theorem RdAt.below (h : RdAt w R A cp L st) (hb : Below B w w') (hB : R < B) : RdAt w' R A cp L st := h.keep fun i hi => hb.block i (by omega)
theorem RdAt.only (h : RdAt w R A cp L st) (hb : Only F w w') (hF : ∀ i, F i → R < i) : RdAt w' R A cp L st :=
 h.keep fun i hi => hb.block i (by have := h.lt; omega) (fun hf => by have := hF i hf; omega)
theorem RdAt.set (h : RdAt w R A cp L st) (hk : ∀ i, i < R → w'.heap[i]? = w.heap[i]?) (hh : w'.heap[R]? = some (.cells #[.slice A L.length cp, .int .i64 st'.pos, .int .i64 st'.e, .int .i64 st'.line] 108 (0, 0))) (hp : st'.pos ≤ L.length) : RdAt w' R A cp L st' :=
 ⟨hh, fun k t ht => by
  obtain ⟨g, e, hg, hT⟩ := h.row k t ht
  exact ⟨g, e, hg, hT.keep (hk g hg)⟩, h.len, h.cap, hp, h.fine⟩
theorem RdAt.cells (h : RdAt w R A cp L st) : w.cell? ⟨R, 0, none⟩ = some (.slice A L.length cp) ∧ w.cell? ⟨R, 1, none⟩ = some (.int .i64 st.pos) ∧ w.cell? ⟨R, 2, none⟩ = some (.int .i64 st.e) ∧ w.cell? ⟨R, 3, none⟩ = some (.int .i64 st.line) :=
 ⟨cell_of_row _ _ 0 _ _ _ h.head, cell_of_row _ _ 1 _ _ _ h.head, cell_of_row _ _ 2 _ _ _ h.head, cell_of_row _ _ 3 _ _ _ h.head⟩
theorem RdAt.thaw (h : RdAt w R A cp L st) (o : Nat) : w.frozen? ⟨R, o, none⟩ = false := by simp [World.frozen?, h.head]
theorem tokR_of {k : Nat} {t : Tok} (ht : L[st.pos + k]? = some t) : tokR L st k = t := by unfold tokR; rw [ht]; rfl
theorem tokR_none {k : Nat} (ht : L[st.pos + k]? = none) : tokR L st k = Tok.zero := by unfold tokR; rw [ht]; rfl
theorem RdAt.tok_fine (h : RdAt w R A cp L st) (k : Nat) : (tokR L st k).s.length ≤ 65536 ∧ 0 ≤ (tokR L st k).n ∧ (tokR L st k).n ≤ 999999999999999 := by
 cases ht : L[st.pos + k]? with
 | none => rw [tokR_none ht]; exact ⟨by decide, by decide, by decide⟩
 | some t => rw [tokR_of ht]; exact h.fine t (List.mem_of_getElem? ht)
def TreeAt (W : World) (S : Nat → Prop) (t : Tr) (v : Value) : Prop := ∃ x : Lo, x.tree = t ∧ x.val = v ∧ LoAt W S x
def RowAt (W : World) (S : Nat → Prop) (l : List Tr) (v : Value) : Prop := ∃ xs : List Lo, trees xs = l ∧ LoRow W S xs v
theorem LoAt.frame {x : Lo} (h : LoAt w S x) (hS : ∀ k, S k → S' k) (hk : ∀ k, S k → w'.heap[k]? = w.heap[k]?) : LoAt w' S' x := h.keep x hS fun p hp => cell_block (hk _ hp) p rfl
theorem TreeAt.keep {t : Tr} {v : Value} (h : TreeAt w S t v) (hS : ∀ k, S k → S' k) (hk : ∀ k, S k → w'.heap[k]? = w.heap[k]?) : TreeAt w' S' t v := by
 obtain ⟨x, h1, h2, h3⟩ := h
 exact ⟨x, h1, h2, h3.frame hS hk⟩
theorem RowAt.keep {l : List Tr} {v : Value} (h : RowAt w S l v) (hS : ∀ k, S k → S' k) (hk : ∀ k, S k → w'.heap[k]? = w.heap[k]?) : RowAt w' S' l v := by
 obtain ⟨x, h1, h2⟩ := h
 exact ⟨x, h1, h2.keep hS fun p hp => cell_block (hk _ hp) p rfl⟩
theorem TreeAt.fr {t : Tr} {v : Value} (h : TreeAt w S t v) (hf : Fr R w w') (hS : ∀ k, S k → S' k) (hk : ∀ k, S k → k < w.heap.size ∧ k ≠ R) : TreeAt w' S' t v :=
 h.keep hS fun k hs => hf.block k (hk k hs).1 (hk k hs).2
theorem RowAt.fr {l : List Tr} {v : Value} (h : RowAt w S l v) (hf : Fr R w w') (hS : ∀ k, S k → S' k) (hk : ∀ k, S k → k < w.heap.size ∧ k ≠ R) : RowAt w' S' l v :=
 h.keep hS fun k hs => hf.block k (hk k hs).1 (hk k hs).2
theorem RowAt.slice {l : List Tr} {v : Value} (h : RowAt w S l v) : ∃ A' c', v = .slice A' l.length c' ∧ l.length ≤ c' ∧ c' ≤ maxLen := by
 obtain ⟨xs, rfl, A', c', e, h1, -⟩ := h
 have : (trees xs).length = xs.length := by rw [trees_map, List.length_map]
 rw [this]
 exact ⟨A', c', e, h1⟩
theorem RowAt.nil (W : World) (S : Nat → Prop) : RowAt W S [] (.slice none 0 0) := ⟨[], rfl, none, 0, rfl, ⟨Nat.le_refl _, by simp [maxLen]⟩, fun h => absurd h (by simp)⟩
theorem TreeAt.mk {o k i : Int} {s : Bs} {l : List Tr} {v : Value} (h : RowAt w S l v) (hf : Fine o s k) : TreeAt w S (.mk o s k i l) (.agg #[.int .i64 o, .string (bs s), .int .i64 k, v, .int .i64 i]) := by
 obtain ⟨xs, rfl, hr⟩ := h
 exact ⟨.mk o s k i v xs, by rw [tree_eq]; simp [Lo.op, Lo.s, Lo.n, Lo.line, Lo.l, trees_map], rfl, by rw [LoAt_iff]; exact ⟨hf, hr⟩⟩
theorem TreeAt.zero (W : World) (S : Nat → Prop) : TreeAt W S Tr.zero (.agg #[.int .i64 0, .string (bs []), .int .i64 0, .slice none 0 0, .int .i64 0]) :=
 TreeAt.mk (RowAt.nil W S) ⟨by simp, by omega, by omega⟩
theorem TreeAt.form {t : Tr} {v : Value} (h : TreeAt w S t v) : ∃ A' c', v = .agg #[.int .i64 t.op, .string (bs t.s), .int .i64 t.n, .slice A' t.l.length c', .int .i64 t.line] ∧ RowAt w S t.l (.slice A' t.l.length c') ∧ Fine t.op t.s t.n := by
 obtain ⟨x, rfl, rfl, h3⟩ := h
 rw [LoAt_iff] at h3
 obtain ⟨hf, hr⟩ := h3
 obtain ⟨A', c', e, h4, h5⟩ := id hr
 have hl : x.tree.l.length = x.l.length := by rw [tree_eq]; simp
 have hls : x.tree.l = trees x.l := by rw [tree_eq, trees_map]; rfl
 refine ⟨A', c', ?_, ?_, ?_⟩
 ·rw [hl, ← e, val_eq, tree_eq]; rfl
 ·rw [hl, hls, ← e]; exact ⟨x.l, rfl, hr⟩
 ·rw [tree_eq]; exact hf
theorem row_cells (g : Nat) (q : List Value) : ∀ (pre : List Value) (xs : List Lo) (off : Nat) (W : World), off = pre.length → (∃ cs T, W.heap[g]? = some (.cells cs T (0, 0)) ∧ cs.toList = pre ++ (xs.flatMap (fun x => [.int .i64 x.op, .string (bs x.s), .int .i64 x.n, x.v, .int .i64 x.line]) ++ q)) → (∀ x ∈ xs, LoAt W S x) → LoAtL W S g off xs
 | pre, [], off, W, _, _, _ => LoAtL_nil _ _ _ _
 | pre, x :: r, off, W, ho, ⟨cs, T, hc, he⟩, hx => by
  rw [LoAtL_cons]
  have key : ∀ j u, ([.int .i64 x.op, .string (bs x.s), .int .i64 x.n, x.v, .int .i64 x.line] : List Value)[j]? = some u → W.cell? ⟨g, off + j, none⟩ = some u := fun j u hj => by
   have hj5 := (List.getElem?_eq_some_iff.1 hj).1
   rw [cell_of_row _ _ _ _ _ _ hc, ← Array.getElem?_toList, he, ho, List.getElem?_append_right (by omega), Nat.add_sub_cancel_left, List.flatMap_cons, List.append_assoc, List.getElem?_append_left hj5]
   exact hj
  refine ⟨⟨hx x (List.mem_cons_self ..), key 0 _ rfl, key 1 _ rfl, key 2 _ rfl, key 3 _ rfl, key 4 _ rfl⟩, row_cells g q (pre ++ [.int .i64 x.op, .string (bs x.s), .int .i64 x.n, x.v, .int .i64 x.line]) r (off + 5) W (by simp [ho]) ⟨cs, T, hc, by rw [he]; simp⟩ (fun y hy => hx y (List.mem_cons_of_mem _ hy))⟩
def cellsT : Value → List Value
 | .agg a => a.toList
 | _ => []
theorem cellsT_val (x : Lo) : cellsT x.val = [.int .i64 x.op, .string (bs x.s), .int .i64 x.n, x.v, .int .i64 x.line] := rfl
theorem RowAt.one {t : Tr} {v : Value} {g : Nat} {cs : Array Value} {T : TypeId} (h : TreeAt w S t v) (hg : w.heap[g]? = some (.cells cs T (0, 0))) (hcs : cs.toList = cellsT v) (hS : S g) : RowAt w S [t] (.slice (some ⟨g, 0, none⟩) 1 1) := by
 obtain ⟨x, rfl, rfl, h3⟩ := h
 exact ⟨[x], by rw [trees, trees], _, 1, rfl, ⟨Nat.le_refl _, by simp [maxLen]⟩, fun _ => ⟨g, 0, rfl, hS, row_cells g [] [] [x] 0 w rfl ⟨cs, T, hg, by rw [hcs, cellsT_val]; simp⟩ (fun y hy => by rw [List.mem_singleton.1 hy]; exact h3)⟩⟩
def AccAt (B : Nat) (W : World) (ts : List Tr) (v : Value) : Prop :=
 ∃ xs : List Lo, trees xs = ts ∧ W.ownsRow B 24 5 v ts.length (xs.flatMap fun x => cellsT x.val) ∧ ∀ x ∈ xs, LoAt W (fun k => (B ≤ k ∧ k < W.heap.size) ∧ v.ownBlock ≠ some k) x
theorem AccAt.nil (B : Nat) (W : World) : AccAt B W [] (.slice none 0 0) := ⟨[], rfl, World.ownsRow_nil _ _ _ _, fun x hx => by cases hx⟩
theorem own_lt {e : TypeId} {size n : Nat} {v : Value} {xs : List Value} (h : w.ownsRow B e size v n xs) {k : Nat} (hk : v.ownBlock = some k) : B ≤ k ∧ k < w.heap.size := by
 rcases h.2 with ⟨rfl, -⟩ | ⟨g, cap, cur, rfl, h1, h2, -⟩
 ·simp [Value.ownBlock] at hk
 ·simp [Value.ownBlock] at hk
  subst hk
  exact ⟨h1, heap_lt h2⟩
theorem AccAt.keep {ts : List Tr} {v : Value} (h : AccAt B w ts v) (hsz : w.heap.size ≤ w'.heap.size) (hk : ∀ k, B ≤ k → k < w.heap.size → w'.heap[k]? = w.heap[k]?) : AccAt B w' ts v := by
 obtain ⟨xs, h1, h2, h3⟩ := h
 refine ⟨xs, h1, ⟨h2.1, h2.2.imp id fun ⟨g, cap, cur, e1, e2, e3, e4⟩ => ⟨g, cap, cur, e1, e2, ?_, e4⟩⟩, fun x hx => (h3 x hx).frame (fun k hk => ⟨⟨hk.1.1, by omega⟩, hk.2⟩) (fun k hk' => hk k hk'.1.1 hk'.1.2)⟩
 exact (hk g e2 (heap_lt e3)).trans e3
theorem AccAt.fr {ts : List Tr} {v : Value} (h : AccAt B w ts v) (hf : Fr R w w') (hR : R < B) : AccAt B w' ts v := h.keep hf.size fun k h1 h2 => hf.block k h2 (by omega)
theorem AccAt.slice {ts : List Tr} {v : Value} (h : AccAt B w ts v) : ∃ A' c', v = .slice A' ts.length c' ∧ ts.length ≤ c' ∧ c' ≤ maxLen := by
 obtain ⟨xs, -, h2, -⟩ := h
 rcases h2.2 with ⟨rfl, h0⟩ | ⟨g, cap, cur, rfl, h1, h2, h3, h4, h5⟩
 ·rw [h0]; exact ⟨none, 0, rfl, Nat.le_refl _, by simp [maxLen]⟩
 ·exact ⟨_, _, rfl, h3, h4⟩
theorem AccAt.row {ts : List Tr} {v : Value} (h : AccAt B w ts v) : RowAt w (fun k => B ≤ k ∧ k < w.heap.size) ts v := by
 obtain ⟨xs, rfl, h2, h3⟩ := h
 have hl : (trees xs).length = xs.length := by rw [trees_map, List.length_map]
 rw [hl] at h2
 refine ⟨xs, rfl, ?_⟩
 rcases h2.2 with ⟨rfl, h0⟩ | ⟨g, cap, cur, rfl, h1, h4, h5, h6, h7, h8⟩
 ·exact ⟨none, 0, by rw [h0], ⟨by omega, by simp [maxLen]⟩, fun h => by omega⟩
 ·refine ⟨_, cap, rfl, ⟨h5, h6⟩, fun _ => ⟨g, 0, rfl, ⟨h1, heap_lt h4⟩, ?_⟩⟩
  exact row_cells g (cur.toList.drop (xs.length * 5)) [] xs 0 w rfl ⟨cur, _, h4, by
   rw [List.nil_append]
   conv => lhs; rw [← List.take_append_drop (xs.length * 5) cur.toList]
   rw [h8]
   rfl⟩ (fun x hx => (h3 x hx).frame (fun k hk => hk.1) (fun k hk => rfl))
end
theorem node_info : (Tryz.prog.info? 24).map (fun i => (i.zero, i.size, i.bytes)) = some (some (.agg #[.int .i64 0, .string ⟨#[]⟩, .int .i64 0, .slice none 0 0, .int .i64 0]), 5, 64) := by kernel_rfl
theorem val_one {W : World} {S : Nat → Prop} {t : Tr} {v : Value} (h : TreeAt W S t v) : (∀ u ∈ cellsT v, u.oneCell' = true) ∧ (cellsT v).length = 5 := by
 obtain ⟨A', c', rfl, -, -⟩ := h.form
 constructor
 ·intro u hu
  simp only [cellsT, List.mem_cons, List.not_mem_nil, or_false] at hu
  rcases hu with rfl | rfl | rfl | rfl | rfl <;> rfl
 ·rfl
theorem AccAt.push {B R : Nat} {w : World} {ts : List Tr} {v u : Value} {t : Tr} (h : AccAt B w ts v) (ht : TreeAt w (fun k => (B ≤ k ∧ k < w.heap.size) ∧ v.ownBlock ≠ some k) t u) (hn : ts.length ≤ 3000000) (hB : B ≤ w.heap.size) (ty : TypeId) (cs : Array Value) (hcs : cs.toList = cellsT u) :
  ∃ v' w', (Builtin.append_ #[22, 22] ty #[v, .slice (some ⟨w.heap.size, 0, none⟩) 1 1]).run Tryz.prog (w.alloc (.cells cs 24)) = .ok v' w' ∧
   (AccAt B w' (ts ++ [t]) v' ∧ Only (fun k => v.ownBlock = some k) w w' ∧ ∃ A' c', v' = .slice A' (ts.length + 1) c') := by
 obtain ⟨xs, rfl, h2, h3⟩ := h
 obtain ⟨h1c, hl5⟩ := val_one ht
 obtain ⟨x, rfl, rfl, h4⟩ := ht
 obtain ⟨i0, j0, j1, j2, j3⟩ := info_parts node_info
 have hal : (w.alloc (.cells cs 24)).ownsRow B 24 5 v (trees xs).length (xs.flatMap fun x => cellsT x.val) := ⟨h2.1, h2.2.imp id fun ⟨g, cap, cur, e1, e2, e3, e4⟩ => ⟨g, cap, cur, e1, e2, (Below.heap_alloc w _ g (heap_lt e3)).trans e3, e4⟩⟩
 obtain ⟨v', w', r1, r2, r3, -, r5⟩ := run_append_own_at (P := Tryz.prog) (w.alloc (.cells cs 24)) B 22 ty 24 i0 _ 5 64 Tryz.underlying22 j0 j1 j2 j3 rfl (by decide) v (trees xs).length _ hal ⟨w.heap.size, 0, none⟩ 1 1 (cellsT x.val) (by rw [hl5]) (fun j u hj => by
  rw [add_mid, cell_of_row _ _ _ _ _ _ (heap_alloc_new w _), ← Array.getElem?_toList, hcs]
  exact hj) h1c (by unfold maxLen; omega) (by omega) (by simp; omega)
 have hon : Only (fun k => v.ownBlock = some k) w w' := (Only.alloc w _).trans' (Only.grown r3 fun k e => e)
 have hlen : (trees xs ++ [x.tree]).length = (trees xs).length + 1 := by simp
 refine ⟨v', w', r1, ⟨xs ++ [x], by rw [trees_map, trees_map]; simp, by rw [hlen, List.flatMap_append]; simpa using r2, fun y hy => ?_⟩, hon, ?_⟩
 ·have hnew : ∀ k, ((B ≤ k ∧ k < w.heap.size) ∧ v.ownBlock ≠ some k) → (B ≤ k ∧ k < w'.heap.size) ∧ v'.ownBlock ≠ some k := fun k hk => ⟨⟨hk.1.1, by have := hon.size; omega⟩, fun e => by
   rcases r5 with r5 | r5
   ·exact hk.2 (r5 ▸ e)
   ·rw [r5] at e
    have := hk.1.2
    simp at e
    omega⟩
  have hky : ∀ k, ((B ≤ k ∧ k < w.heap.size) ∧ v.ownBlock ≠ some k) → w'.heap[k]? = w.heap[k]? := fun k hk => hon.block k hk.1.2 hk.2
  rcases List.mem_append.1 hy with hy | hy
  ·exact (h3 y hy).frame hnew hky
  ·rw [List.mem_singleton.1 hy]
   exact h4.frame hnew hky
 ·rcases r2.2 with ⟨-, h0⟩ | ⟨g, cap, cur, e, -⟩
  ·omega
  ·exact ⟨_, _, e⟩
end
end Go.Proofs.YtikbfoichhkeaaaGreat
