/- Trees that lie alone: each row in a block of its own, made for it. No program. scope.copied: a tree that lies alone. scope.copied, walked. The map of a function's names to places. -/
import Derived.Maps.OwnSet
import Derived.Maps.OwnIn
import Derived.StringKeys
import Derived.Test.YtikbfoichhkeaaaGreatVm06
set_option linter.unusedSimpArgs false
set_option linter.unusedVariables false
set_option maxRecDepth 100000
set_option maxHeartbeats 40000000
namespace Go.Proofs.YtikbfoichhkeaaaGreat
section
open Go.RowKit Go.Proofs
def fiveO (x : Lo) : List Value := [.int .i64 x.op, .string (bs x.s), .int .i64 x.n, x.v, .int .i64 x.line]
abbrev fivesO (l : List Lo) : List Value := l.flatMap fiveO
theorem fivesO_cons (a : Lo) (r : List Lo) : fivesO (a :: r) = fiveO a ++ fivesO r := rfl
theorem fivesO_app (a b : List Lo) : fivesO (a ++ b) = fivesO a ++ fivesO b := by unfold fivesO; rw [List.flatMap_append]
theorem fivesO_len : ∀ l : List Lo, (fivesO l).length = l.length * 5
 | [] => by simp
 | a :: r => by
  rw [fivesO_cons, List.length_append, fivesO_len r, List.length_cons, Nat.add_mul]
  simp [fiveO]
  omega
mutual
def Lo.blks : Lo → List Nat
 | .mk _ _ _ _ v l => v.ownBlock.toList ++ blksL l
def blksL : List Lo → List Nat
 | [] => []
 | x :: r => x.blks ++ blksL r
end
theorem blks_eq (x : Lo) : x.blks = x.v.ownBlock.toList ++ blksL x.l := by cases x; rw [Lo.blks]; rfl
theorem blksL_cons (x : Lo) (r : List Lo) : blksL (x :: r) = x.blks ++ blksL r := by rw [blksL]
theorem blksL_nil : blksL [] = [] := by rw [blksL]
theorem blksL_app : ∀ a b : List Lo, blksL (a ++ b) = blksL a ++ blksL b
 | [], b => by rw [blksL_nil]; rfl
 | x :: r, b => by rw [List.cons_append, blksL_cons, blksL_cons, blksL_app r b, List.append_assoc]
mutual
def Lies (W : World) : Lo → Prop
 | .mk op s n _ v l => Fine op s n ∧ ((l = [] ∧ v = .slice none 0 0) ∨ ∃ g, v = .slice (some ⟨g, 0, none⟩) l.length l.length ∧ W.heap[g]? = some (.cells (fivesO l).toArray 24 (0, 0))) ∧ (l.length ≤ maxLen ∧ LiesL W l)
def LiesL (W : World) : List Lo → Prop
 | [] => True
 | x :: r => Lies W x ∧ LiesL W r
end
theorem Lies_iff (W : World) (x : Lo) : Lies W x ↔ Fine x.op x.s x.n ∧ ((x.l = [] ∧ x.v = .slice none 0 0) ∨ ∃ g, x.v = .slice (some ⟨g, 0, none⟩) x.l.length x.l.length ∧ W.heap[g]? = some (.cells (fivesO x.l).toArray 24 (0, 0))) ∧ (x.l.length ≤ maxLen ∧ LiesL W x.l) := by
 cases x; rw [Lies]; rfl
theorem LiesL_cons (W : World) (x : Lo) (r : List Lo) : LiesL W (x :: r) ↔ Lies W x ∧ LiesL W r := by rw [LiesL]
theorem LiesL_nil (W : World) : LiesL W [] := by rw [LiesL]; trivial
theorem LiesL_all (W : World) : ∀ l : List Lo, LiesL W l ↔ ∀ x ∈ l, Lies W x
 | [] => ⟨fun _ x h => (by cases h), fun _ => LiesL_nil W⟩
 | a :: r => by rw [LiesL_cons, LiesL_all W r]; simp
mutual
theorem Lies.keep : ∀ {W W' : World} (x : Lo), Lies W x → (∀ g ∈ x.blks, W'.heap[g]? = W.heap[g]?) → Lies W' x
 | W, W', .mk op s n i v l, h, hk => by
  rw [Lies] at h ⊢
  obtain ⟨h0, h1, h2, h3⟩ := h
  rw [Lo.blks] at hk
  refine ⟨h0, h1.imp id fun ⟨g, e, hg⟩ => ⟨g, e, (hk g ?_).trans hg⟩, h2, LiesL.keep l h3 fun g hg => hk g (by rw [List.mem_append]; exact .inr hg)⟩
  rw [e]
  simp [Value.ownBlock]
theorem LiesL.keep : ∀ {W W' : World} (l : List Lo), LiesL W l → (∀ g ∈ blksL l, W'.heap[g]? = W.heap[g]?) → LiesL W' l
 | W, W', [], h, hk => LiesL_nil _
 | W, W', x :: r, h, hk => by
  rw [LiesL] at h ⊢
  rw [blksL_cons] at hk
  exact ⟨Lies.keep x h.1 fun g hg => hk g (by rw [List.mem_append]; exact .inl hg), LiesL.keep r h.2 fun g hg => hk g (by rw [List.mem_append]; exact .inr hg)⟩
end
mutual
theorem Lies.lt : ∀ {W : World} (x : Lo), Lies W x → ∀ g ∈ x.blks, g < W.heap.size
 | W, .mk op s n i v l, h, g, hg => by
  rw [Lies] at h
  rw [Lo.blks, List.mem_append] at hg
  obtain ⟨-, h1, -, h3⟩ := h
  rcases hg with hg | hg
  ·rcases h1 with ⟨-, rfl⟩ | ⟨g', rfl, hb⟩
   ·simp [Value.ownBlock] at hg
   ·simp [Value.ownBlock] at hg
    subst hg
    exact heap_lt hb
  ·exact LiesL.lt l h3 g hg
theorem LiesL.lt : ∀ {W : World} (l : List Lo), LiesL W l → ∀ g ∈ blksL l, g < W.heap.size
 | W, [], h, g, hg => by rw [blksL_nil] at hg; cases hg
 | W, x :: r, h, g, hg => by
  rw [LiesL] at h
  rw [blksL_cons, List.mem_append] at hg
  rcases hg with hg | hg
  ·exact Lies.lt x h.1 g hg
  ·exact LiesL.lt r h.2 g hg
end
theorem LiesL.below {W W' : World} {l : List Lo} (h : LiesL W l) (hb : Below W.heap.size W W') : LiesL W' l := h.keep l fun g hg => hb.block g (LiesL.lt l h g hg)
theorem Lies.below {W W' : World} {x : Lo} (h : Lies W x) (hb : Below W.heap.size W W') : Lies W' x := h.keep x fun g hg => hb.block g (Lies.lt x h g hg)
mutual
theorem Lies.at_ : ∀ {W : World} {S : Nat → Prop} (x : Lo), Lies W x → (∀ g ∈ x.blks, S g) → LoAt W S x
 | W, S, .mk op s n i v l, h, hS => by
  rw [Lies] at h
  rw [Lo.blks] at hS
  rw [LoAt]
  obtain ⟨h0, h1, h2, h3⟩ := h
  have hl : ∀ g ∈ blksL l, S g := fun g hg => hS g (by rw [List.mem_append]; exact .inr hg)
  refine ⟨h0, ?_⟩
  rcases h1 with ⟨rfl, rfl⟩ | ⟨g, rfl, hb⟩
  ·exact ⟨none, 0, rfl, ⟨Nat.le_refl _, by simp [maxLen]⟩, fun h => absurd h (by simp)⟩
  ·refine ⟨_, _, rfl, ⟨Nat.le_refl _, h2⟩, fun _ => ⟨g, 0, rfl, hS g (by simp [Value.ownBlock]), ?_⟩⟩
   exact row_cells g [] [] l 0 W rfl ⟨_, _, hb, by simp only [List.nil_append, List.append_nil]; rfl⟩ (LiesL.at_ l h3 hl)
theorem LiesL.at_ : ∀ {W : World} {S : Nat → Prop} (l : List Lo), LiesL W l → (∀ g ∈ blksL l, S g) → ∀ x ∈ l, LoAt W S x
 | W, S, [], h, hS, x, hx => by cases hx
 | W, S, a :: r, h, hS, x, hx => by
  rw [LiesL] at h
  rw [blksL_cons] at hS
  rcases List.mem_cons.1 hx with e | hx
  ·rw [e]
   exact Lies.at_ a h.1 fun g hg => hS g (by rw [List.mem_append]; exact .inl hg)
  ·exact LiesL.at_ r h.2 (fun g hg => hS g (by rw [List.mem_append]; exact .inr hg)) x hx
end
end
section
open Go.RowKit Go.Proofs
theorem wl_makeN {P : Program} {ops : Array Oper} {rest : List Oper} {o : Oper} {a : Act} {w : World} {Q : Exit → Act → World → Prop} (hg : o.guard = none) (l c : Operand) (t : TypeId) (hop : o.op = Op.makeSlice t l c) (u v : Value) (hl : a.eval l = u) (hc : a.eval c = v)
  (x : Value) (w' : World) (hrun : (Instr.makeSlice t u v).run P w = .ok x w') (hK : wpList P ops Q rest (a.put o.dst x) w') : wpList P ops Q (o :: rest) a w := by
 refine wpList_plain hg fun K hK' => ?_
 unfold Oper.wp
 simp [execOp, hop, hl, hc, hrun, Result.andThen]
 exact hK' _ _ hK
def roomN (n : Nat) : Array Value := madeCells (Value.agg #[.int .i64 0, .string ⟨#[]⟩, .int .i64 0, .slice none 0 0, .int .i64 0]).cells (n * 5)
theorem roomN_len (n : Nat) : (roomN n).toList.length = n * 5 := by
 rw [Array.length_toList]
 exact size_madeCells _ _
theorem run_roomN (n : Nat) (hn : n ≤ 3000000) (W : World) : (Instr.makeSlice 22 (.int .i64 n) (.int .i64 n)).run Tryz.prog W = .ok (.slice (some ⟨W.heap.size, 0, none⟩) n n) (W.alloc (.cells (roomN n) 24)) := by
 obtain ⟨i0, h0, h2, h3, h4⟩ := info_parts node_info
 have h := run_make (P := Tryz.prog) W 22 24 i0 _ Tryz.underlying22 h0 h2 .i64 .i64 (n : Int) (n : Int) (by omega) (by omega) (by rw [h4]; omega) (by omega)
 rw [h, h3]
 simp [roomN]
theorem put1 {W : World} {G k : Nat} {T : TypeId} {pre q : List Value} {z : Value} (a : Value) (h : W.heap[G]? = some (.cells (pre ++ (z :: q)).toArray T (0, 0))) (hp : pre.length = k) :
  (W.setCell ⟨G, k, none⟩ a).heap[G]? = some (.cells ((pre ++ [a]) ++ q).toArray T (0, 0)) := by
 rw [blk_set h k a]
 subst hp
 have e : (pre ++ z :: q).toArray.setIfInBounds pre.length a = ((pre ++ [a]) ++ q).toArray := by
  rw [List.setIfInBounds_toArray, List.set_append_right _ _ (Nat.le_refl _)]
  simp
 rw [e]
theorem put5c {W : World} {G k : Nat} {T : TypeId} {pre q : List Value} {z0 z1 z2 z3 z4 : Value} (a b c d e : Value) (h : W.heap[G]? = some (.cells (pre ++ (z0 :: z1 :: z2 :: z3 :: z4 :: q)).toArray T (0, 0))) (hp : pre.length = k) :
  (((((W.setCell ⟨G, k, none⟩ a).setCell ⟨G, k + 1, none⟩ b).setCell ⟨G, k + 2, none⟩ c).setCell ⟨G, k + 3, none⟩ d).setCell ⟨G, k + 4, none⟩ e).heap[G]? = some (.cells ((pre ++ [a, b, c, d, e]) ++ q).toArray T (0, 0)) := by
 have h0 := put1 a h hp
 have h1 := put1 (k := k + 1) b h0 (by simp; omega)
 have h2 := put1 (k := k + 2) c h1 (by simp; omega)
 have h3 := put1 (k := k + 3) d h2 (by simp; omega)
 have h4 := put1 (k := k + 4) e h3 (by simp; omega)
 rw [h4]
 simp only [List.append_assoc, List.cons_append, List.nil_append]
theorem only5 (W : World) (G k : Nat) (a b c d e : Value) : Only (fun i => i = G) W (((((W.setCell ⟨G, k, none⟩ a).setCell ⟨G, k + 1, none⟩ b).setCell ⟨G, k + 2, none⟩ c).setCell ⟨G, k + 3, none⟩ d).setCell ⟨G, k + 4, none⟩ e) :=
 ((((Only.setCell (F := fun i => i = G) W rfl k a).trans' (Only.setCell (F := fun i => i = G) _ rfl (k + 1) b)).trans' (Only.setCell (F := fun i => i = G) _ rfl (k + 2) c)).trans' (Only.setCell (F := fun i => i = G) _ rfl (k + 3) d)).trans' (Only.setCell (F := fun i => i = G) _ rfl (k + 4) e)
end
section
open Go.RowKit Go.Proofs
theorem loAtL_get {W : World} {S : Nat → Prop} {g : Nat} : ∀ (l : List Lo) (off i : Nat) (x : Lo), LoAtL W S g off l → l[i]? = some x →
  LoAt W S x ∧ W.cell? ⟨g, off + i * 5, none⟩ = some (.int .i64 x.op) ∧ W.cell? ⟨g, off + i * 5 + 1, none⟩ = some (.string (bs x.s)) ∧ W.cell? ⟨g, off + i * 5 + 2, none⟩ = some (.int .i64 x.n) ∧ W.cell? ⟨g, off + i * 5 + 3, none⟩ = some x.v ∧ W.cell? ⟨g, off + i * 5 + 4, none⟩ = some (.int .i64 x.line)
 | [], off, i, x, _, h => by cases h
 | a :: r, off, 0, x, h, hx => by
  rw [LoAtL_cons] at h
  obtain rfl : a = x := by simpa using hx
  obtain ⟨⟨h1, h2, h3, h4, h5, h6⟩, -⟩ := h
  simp only [Nat.zero_mul, Nat.add_zero]
  exact ⟨h1, h2, h3, h4, h5, h6⟩
 | a :: r, off, i + 1, x, h, hx => by
  rw [LoAtL_cons] at h
  have := loAtL_get r (off + 5) i x h.2 (by simpa using hx)
  rw [show off + 5 + i * 5 = off + (i + 1) * 5 by omega] at this
  exact this
theorem below_alloc9 (w : World) (o : Obj) : Below w.heap.size w (w.alloc o) := (Below.refl _ w).alloc (Nat.le_refl _) _
theorem five_of {Q : List Value} (h : 5 ≤ Q.length) : ∃ z0 z1 z2 z3 z4 R, Q = z0 :: z1 :: z2 :: z3 :: z4 :: R := by
 match Q, h with
 | z0 :: z1 :: z2 :: z3 :: z4 :: R, _ => exact ⟨_, _, _, _, _, _, rfl⟩
theorem Lies.form {W : World} {x : Lo} (h : Lies W x) : ∃ A c, x.v = .slice A x.l.length c := by
 rw [Lies_iff] at h
 rcases h.2.1 with ⟨h1, h2⟩ | ⟨g, h2, -⟩
 ·exact ⟨none, 0, by rw [h2, h1]; rfl⟩
 ·exact ⟨_, _, h2⟩
theorem fin5 {W : World} {b1 b2 : Nat} {z0 z1 z2 z3 z4 L a b c d e : Value} (hne : b2 ≠ b1) (h2 : W.heap[b2]? = some (.cells #[z0, z1, z2, z3, z4] 24 (0, 0))) :
  ((((((W.setCell ⟨b1, 3, none⟩ L).setCell ⟨b2, 0, none⟩ a).setCell ⟨b2, 1, none⟩ b).setCell ⟨b2, 2, none⟩ c).setCell ⟨b2, 3, none⟩ d).setCell ⟨b2, 4, none⟩ e).heap[b2]? = some (.cells #[a, b, c, d, e] 24 (0, 0)) := by
 have h := (heap_setCell_other W ⟨b1, 3, none⟩ b2 L hne).trans h2
 exact put5c (pre := []) (q := []) a b c d e h rfl
theorem fin5_only (W : World) (b1 b2 : Nat) (L a b c d e : Value) : Only (fun i => i = b1 ∨ i = b2) W ((((((W.setCell ⟨b1, 3, none⟩ L).setCell ⟨b2, 0, none⟩ a).setCell ⟨b2, 1, none⟩ b).setCell ⟨b2, 2, none⟩ c).setCell ⟨b2, 3, none⟩ d).setCell ⟨b2, 4, none⟩ e) :=
 (Only.setCell (F := fun i => i = b1 ∨ i = b2) W (.inl rfl) 3 L).trans' ((only5 _ b2 0 a b c d e).mono fun i _ h => .inr h)
theorem part_get {W : World} {S : Nat → Prop} {A : Option Addr} {n c : Nat} {l : List Tr} (h : RowAt W S l (.slice A n c)) (i : Nat) (hi : i < n) :
  ∃ g off t A' c', A = some ⟨g, off, none⟩ ∧ S g ∧ l[i]? = some t ∧ TreeAt W S t (.agg #[.int .i64 t.op, .string (bs t.s), .int .i64 t.n, .slice A' t.l.length c', .int .i64 t.line]) ∧
   W.cell? ⟨g, off + i * 5, none⟩ = some (.int .i64 t.op) ∧ W.cell? ⟨g, off + i * 5 + 1, none⟩ = some (.string (bs t.s)) ∧ W.cell? ⟨g, off + i * 5 + 2, none⟩ = some (.int .i64 t.n) ∧ W.cell? ⟨g, off + i * 5 + 3, none⟩ = some (.slice A' t.l.length c') ∧ W.cell? ⟨g, off + i * 5 + 4, none⟩ = some (.int .i64 t.line) := by
 obtain ⟨xs, rfl, A1, c1, e, h1, h2⟩ := h
 injection e with e1 e2 e3
 subst e1 e3
 obtain ⟨g, off, rfl, hg, hL⟩ := h2 (by omega)
 have hx : xs[i]? = some xs[i] := List.getElem?_eq_getElem (by omega)
 obtain ⟨k1, k2, k3, k4, k5, k6⟩ := loAtL_get xs off i _ hL hx
 obtain ⟨A', c', hv⟩ := k1.slice
 have hl : (xs[i]).tree.l.length = (xs[i]).l.length := by rw [tree_eq]; simp
 have ho : (xs[i]).tree.op = (xs[i]).op ∧ (xs[i]).tree.s = (xs[i]).s ∧ (xs[i]).tree.n = (xs[i]).n ∧ (xs[i]).tree.line = (xs[i]).line := by rw [tree_eq]; exact ⟨rfl, rfl, rfl, rfl⟩
 obtain ⟨o1, o2, o3, o4⟩ := ho
 refine ⟨g, off, (xs[i]).tree, A', c', rfl, hg, by rw [trees_map, List.getElem?_map, hx]; rfl, ⟨xs[i], rfl, ?_, k1⟩, ?_⟩
 ·rw [o1, o2, o3, o4, hl, ← hv]
  rfl
 ·rw [o1, o2, o3, o4, hl, ← hv]
  exact ⟨k2, k3, k4, k5, k6⟩
theorem copied_any (t : Tr) : ∀ (v : Value) (w : World) (S : Nat → Prop), TreeAt w S t v → (∀ k, S k → k < w.heap.size) → t.size ≤ 1000000 →
  Calls Tryz.prog 37 #[v] w fun e w' => ∃ y : Lo, e = .returned y.val ∧ y.tree = t ∧ Lies w' y ∧ y.blks.Nodup ∧ (∀ g ∈ y.blks, w.heap.size ≤ g) ∧ Below w.heap.size w w' := by
 refine tree_ind (P := fun t => ∀ (v : Value) (w : World) (S : Nat → Prop), TreeAt w S t v → (∀ k, S k → k < w.heap.size) → t.size ≤ 1000000 → Calls Tryz.prog 37 #[v] w fun e w' => ∃ y : Lo, e = .returned y.val ∧ y.tree = t ∧ Lies w' y ∧ y.blks.Nodup ∧ (∀ g ∈ y.blks, w.heap.size ≤ g) ∧ Below w.heap.size w w') ?_ t
 clear t
 intro t ih v w S hT hS hz
 obtain ⟨A, c, rfl, hrow, hfine⟩ := hT.form
 have hlen := length_le_sizes t.l
 have hsz := size_eq t
 obtain ⟨A1, c1, e1, hc1, hc2⟩ := hrow.slice
 injection e1 with e2 e3 e4
 subst e2 e4
 have hc3 : c ≤ 9223372036854775807 := hc2
 have HI := Lib.hid ih
 have HR := Lib.hid (And.intro hrow (And.intro hS (And.intro hfine (And.intro hz hsz))))
 have hl3 : t.l.length ≤ 1000000 := by omega
 have HMk := Lib.hid (fun W => run_roomN t.l.length (by omega) W)
 clear hT ih hrow hS hfine hz hsz hlen hc2
 by_cases h0 : t.l.length = 0
 ·have g0 : ¬ (0 : Int) < t.l.length := by omega
  go_enter Tryz.func37, Tryz.ntmps37
  go_wp2_with fail
  have b1 := ((below_alloc9 (w.alloc (.cells #[.int .i64 t.op, .string (bs t.s), .int .i64 t.n, .slice A t.l.length c, .int .i64 t.line] 24)) (.cells #[.int .i64 0, .string ⟨#[]⟩, .int .i64 0, .slice none 0 0, .int .i64 0] 24)).block w.heap.size (by simp)).trans (heap_alloc_new w _)
  have b2 := heap_alloc_new (w.alloc (.cells #[.int .i64 t.op, .string (bs t.s), .int .i64 t.n, .slice A t.l.length c, .int .i64 t.line] 24)) (.cells #[.int .i64 0, .string ⟨#[]⟩, .int .i64 0, .slice none 0 0, .int .i64 0] 24)
  have hb := (below_alloc9 w (.cells #[.int .i64 t.op, .string (bs t.s), .int .i64 t.n, .slice A t.l.length c, .int .i64 t.line] 24)).alloc (by simp) (.cells #[.int .i64 0, .string ⟨#[]⟩, .int .i64 0, .slice none 0 0, .int .i64 0] 24)
  rw [World.size_alloc] at b2
  simp only [h0] at b1 b2 hb
  obtain ⟨W0, eW⟩ : ∃ W, ((w.alloc (.cells #[.int .i64 t.op, .string (bs t.s), .int .i64 t.n, .slice A 0 c, .int .i64 t.line] 24)).alloc (.cells #[.int .i64 0, .string ⟨#[]⟩, .int .i64 0, .slice none 0 0, .int .i64 0] 24)) = W := ⟨_, rfl⟩
  rw [eW] at b1 b2 hb ⊢
  have HB := Lib.hid (And.intro b1 (And.intro b2 hb))
  clear eW b1 b2 hb
  go_loopw [17] (fun i wr => i = .int .i64 0 ∧ wr = W0) (fun i _ => 0)
  case atStart => exact ⟨rfl, rfl⟩
  case round =>
   obtain ⟨rfl, hw⟩ := hrel
   subst hw
   have b1 := HB.out.1
   have b2 := HB.out.2.1
   have x0 := cell_of_row wr _ 0 _ _ _ b1
   have x1 := cell_of_row wr _ 1 _ _ _ b1
   have x2 := cell_of_row wr _ 2 _ _ _ b1
   have x3 := cell_of_row wr _ 3 _ _ _ b1
   have x4 := cell_of_row wr _ 4 _ _ _ b1
   have y0 := cell_of_row wr _ 0 _ _ _ b2
   have y1 := cell_of_row wr _ 1 _ _ _ b2
   have y2 := cell_of_row wr _ 2 _ _ _ b2
   have y3 := cell_of_row wr _ 3 _ _ _ b2
   have y4 := cell_of_row wr _ 4 _ _ _ b2
   have f1 := frozen_of_row wr _ 3 _ _ b1
   have z0 := frozen_of_row wr _ 0 _ _ b2
   have z1 := frozen_of_row wr _ 1 _ _ b2
   have z2 := frozen_of_row wr _ 2 _ _ b2
   have z3 := frozen_of_row wr _ 3 _ _ b2
   have z4 := frozen_of_row wr _ 4 _ _ b2
   simp at x0 x1 x2 x3 x4 y0 y1 y2 y3 y4
   have l1 := heap_lt b1
   have l2 := heap_lt b2
   have hF := fin5 (W := wr) (b1 := w.heap.size) (L := .slice none 0 0) (a := .int .i64 t.op) (b := .string (bs t.s)) (c := .int .i64 t.n) (d := .slice none 0 0) (e := .int .i64 t.line) (by omega) b2
   have hO := fin5_only wr w.heap.size (w.heap.size + 1) (.slice none 0 0) (.int .i64 t.op) (.string (bs t.s)) (.int .i64 t.n) (.slice none 0 0) (.int .i64 t.line)
   have HF := Lib.hid (And.intro hF hO)
   clear b1 b2 hF hO
   go_wp2
   have hF := HF.out.1
   have hO := HF.out.2
   obtain ⟨WF, eF⟩ : ∃ W, ((((((wr.setCell ⟨w.heap.size, 3, none⟩ (.slice none 0 0)).setCell ⟨w.heap.size + 1, 0, none⟩ (.int .i64 t.op)).setCell ⟨w.heap.size + 1, 1, none⟩ (.string (bs t.s))).setCell ⟨w.heap.size + 1, 2, none⟩ (.int .i64 t.n)).setCell ⟨w.heap.size + 1, 3, none⟩ (.slice none 0 0)).setCell ⟨w.heap.size + 1, 4, none⟩ (.int .i64 t.line)) = W := ⟨_, rfl⟩
   rw [eF] at hF hO ⊢
   have r0 := cell_of_row WF _ 0 _ _ _ hF
   have r1 := cell_of_row WF _ 1 _ _ _ hF
   have r2 := cell_of_row WF _ 2 _ _ _ hF
   have r3 := cell_of_row WF _ 3 _ _ _ hF
   have r4 := cell_of_row WF _ 4 _ _ _ hF
   simp at r0 r1 r2 r3 r4
   have ht : t.l = [] := List.eq_nil_of_length_eq_zero h0
   refine bodyPost_ret (v := (Lo.mk t.op t.s t.n t.line (.slice none 0 0) []).val) (by simp [results, Tryz.results37, go_sem, r0, r1, r2, r3, r4]; rfl) rfl ⟨.mk t.op t.s t.n t.line (.slice none 0 0) [], rfl, ?_, ?_, ?_, ?_, ?_⟩
   ·rw [Lo.tree, trees]
    cases t
    simp only [Tr.l_mk] at ht
    subst ht
    rfl
   ·rw [Lies_iff]
    exact ⟨HR.out.2.2.1, .inl ⟨rfl, rfl⟩, by simp [Lo.l, maxLen], LiesL_nil _⟩
   ·simp [blks_eq, Lo.v, Lo.l, blksL_nil, Value.ownBlock]
   ·intro g hg
    simp [blks_eq, Lo.v, Lo.l, blksL_nil, Value.ownBlock] at hg
   ·exact HB.out.2.2.trans (hO.below HB.out.2.2.size (fun i hi => by rcases hi with rfl | rfl <;> omega))
 ·have g0 : (0 : Int) < t.l.length := by omega
  go_enter Tryz.func37, Tryz.ntmps37
  go_wp2_with (at_make; refine wl_makeN rfl _ _ 22 rfl _ _ rfl rfl _ _ (HMk.out _) ?_)
  have hb0 := below_alloc9 w (.cells #[.int .i64 t.op, .string (bs t.s), .int .i64 t.n, .slice A t.l.length c, .int .i64 t.line] 24)
  have hb1 := hb0.alloc (by simp) (.cells #[.int .i64 0, .string ⟨#[]⟩, .int .i64 0, .slice none 0 0, .int .i64 0] 24)
  have hb2 := hb1.alloc (by simp; omega) (.cells (roomN t.l.length) 24)
  have b1 := ((below_alloc9 _ (.cells (roomN t.l.length) 24)).block w.heap.size (by simp; omega)).trans (((below_alloc9 (w.alloc (.cells #[.int .i64 t.op, .string (bs t.s), .int .i64 t.n, .slice A t.l.length c, .int .i64 t.line] 24)) (.cells #[.int .i64 0, .string ⟨#[]⟩, .int .i64 0, .slice none 0 0, .int .i64 0] 24)).block w.heap.size (by simp)).trans (heap_alloc_new w _))
  have b2 := ((below_alloc9 _ (.cells (roomN t.l.length) 24)).block (w.alloc (.cells #[.int .i64 t.op, .string (bs t.s), .int .i64 t.n, .slice A t.l.length c, .int .i64 t.line] 24)).heap.size (by simp)).trans (heap_alloc_new (w.alloc (.cells #[.int .i64 t.op, .string (bs t.s), .int .i64 t.n, .slice A t.l.length c, .int .i64 t.line] 24)) (.cells #[.int .i64 0, .string ⟨#[]⟩, .int .i64 0, .slice none 0 0, .int .i64 0] 24))
  have b3 := heap_alloc_new ((w.alloc (.cells #[.int .i64 t.op, .string (bs t.s), .int .i64 t.n, .slice A t.l.length c, .int .i64 t.line] 24)).alloc (.cells #[.int .i64 0, .string ⟨#[]⟩, .int .i64 0, .slice none 0 0, .int .i64 0] 24)) (.cells (roomN t.l.length) 24)
  have hz0 : (((w.alloc (.cells #[.int .i64 t.op, .string (bs t.s), .int .i64 t.n, .slice A t.l.length c, .int .i64 t.line] 24)).alloc (.cells #[.int .i64 0, .string ⟨#[]⟩, .int .i64 0, .slice none 0 0, .int .i64 0] 24)).alloc (.cells (roomN t.l.length) 24)).heap.size = w.heap.size + 1 + 1 + 1 := by simp
  rw [World.size_alloc] at b2
  rw [World.size_alloc, World.size_alloc] at b3
  obtain ⟨W0, eW⟩ : ∃ W, (((w.alloc (.cells #[.int .i64 t.op, .string (bs t.s), .int .i64 t.n, .slice A t.l.length c, .int .i64 t.line] 24)).alloc (.cells #[.int .i64 0, .string ⟨#[]⟩, .int .i64 0, .slice none 0 0, .int .i64 0] 24)).alloc (.cells (roomN t.l.length) 24)) = W := ⟨_, rfl⟩
  rw [eW] at b1 b2 b3 hb2 hz0 ⊢
  obtain ⟨G, eG⟩ : ∃ G, w.heap.size + 1 + 1 = G := ⟨_, rfl⟩
  rw [eG] at b3 hz0 ⊢
  have HB := Lib.hid (And.intro b1 (And.intro b2 (And.intro b3 (And.intro hb2 hz0))))
  clear eW b1 b2 b3 hb0 hb1 hb2
  go_loopw [17] (fun i wr => ∃ (k : Nat) (ys : List Lo) (Q : List Value), k ≤ t.l.length ∧ i = .int .i64 k ∧ ys.length = k ∧ trees ys = t.l.take k ∧ Q.length = (t.l.length - k) * 5 ∧ wr.heap[G]? = some (.cells (fivesO ys ++ Q).toArray 24 (0, 0)) ∧ LiesL wr ys ∧ (blksL ys).Nodup ∧ (∀ g ∈ blksL ys, G < g) ∧ Only (fun i => i = G) W0 wr) (fun i _ => t.l.length - (intOf i).toNat)
  case atStart => exact ⟨0, [], (roomN t.l.length).toList, Nat.zero_le _, rfl, rfl, by rw [trees]; rfl, by rw [roomN_len, Nat.sub_zero], by simpa using HB.out.2.2.1, LiesL_nil _, by rw [blksL_nil]; exact List.nodup_nil, fun g hg => (by rw [blksL_nil] at hg; cases hg), Only.refl _ _⟩
  case round =>
   obtain ⟨k, ys, Q, hk, rfl, hyk, hyt, hQ, hG, hL, hN, hg9, hO⟩ := hrel
   by_cases hlt : k < t.l.length
   ·obtain ⟨g, off, p, A', c', rfl, hSg, hp, hT, x0, x1, x2, x3, x4⟩ := part_get HR.out.1 k hlt
    have hw0 : ∀ i, i < w.heap.size → wr.heap[i]? = w.heap[i]? := fun i hi => (hO.block i (by have := HB.out.2.2.2.1.size; omega) (by omega)).trans (HB.out.2.2.2.1.block i hi)
    have hgl := HR.out.2.1 g hSg
    have hcb := cell_block (hw0 g hgl)
    rw [← hcb ⟨g, off + k * 5, none⟩ rfl] at x0
    rw [← hcb ⟨g, off + k * 5 + 1, none⟩ rfl] at x1
    rw [← hcb ⟨g, off + k * 5 + 2, none⟩ rfl] at x2
    rw [← hcb ⟨g, off + k * 5 + 3, none⟩ rfl] at x3
    rw [← hcb ⟨g, off + k * 5 + 4, none⟩ rfl] at x4
    have g1 : (k : Int) < t.l.length := by omega
    have hal := below_alloc9 wr (.cells #[.int .i64 p.op, .string (bs p.s), .int .i64 p.n, .slice A' p.l.length c', .int .i64 p.line] 24)
    have hps := size_part (t := t) (List.mem_of_getElem? hp)
    have hTn : TreeAt (wr.alloc (.cells #[.int .i64 p.op, .string (bs p.s), .int .i64 p.n, .slice A' p.l.length c', .int .i64 p.line] 24)) S p (.agg #[.int .i64 p.op, .string (bs p.s), .int .i64 p.n, .slice A' p.l.length c', .int .i64 p.line]) := hT.keep (fun _ h => h) fun i hi => by
     have hl := HR.out.2.1 i hi
     have hz := HB.out.2.2.2.1.size
     have hz2 := hO.size
     exact (hal.block i (by omega)).trans (hw0 i hl)
    have HC := Lib.hid (HI.out p hps _ _ S hTn (fun i hi => by have := HR.out.2.1 i hi; have hz := HB.out.2.2.2.1.size; have hz2 := hO.size; simp; omega) (by have := HR.out.2.2.2.1; omega))
    have HO := Lib.hid (And.intro hyk (And.intro hyt (And.intro hQ (And.intro hG (And.intro hL (And.intro hN (And.intro hg9 hO)))))))
    have HP := Lib.hid (And.intro hp hal)
    clear hT hTn hal hcb hw0 hyt hQ hG hL hN hg9 hO hp hps
    go_wp2_with fail
    go_at_call 37
    refine HC.out.mono ?_
    rintro e w1 ⟨y, rfl, hyT, hyL, hyN, hyg, hb1⟩
    obtain ⟨A9, c9, hv9⟩ := hyL.form
    have hG1 : w1.heap[G]? = some (.cells (fivesO ys ++ Q).toArray 24 (0, 0)) := (hb1.block G (by have := heap_lt HO.out.2.2.2.1; simp; omega)).trans ((HP.out.2.block G (heap_lt HO.out.2.2.2.1)).trans HO.out.2.2.2.1)
    obtain ⟨z0, z1, z2, z3, z4, R, rfl⟩ := five_of (Q := Q) (by rw [HO.out.2.2.1]; omega)
    have hpl : (fivesO ys).length = k * 5 := by rw [fivesO_len, HO.out.1]
    have hput := put5c (.int .i64 y.op) (.string (bs y.s)) (.int .i64 y.n) y.v (.int .i64 y.line) hG1 hpl
    have honl := only5 w1 G (k * 5) (.int .i64 y.op) (.string (bs y.s)) (.int .i64 y.n) y.v (.int .i64 y.line)
    have y0 := cell_of_row w1 G (k * 5) _ _ _ hG1
    have y1 := cell_of_row w1 G (k * 5 + 1) _ _ _ hG1
    have y2 := cell_of_row w1 G (k * 5 + 2) _ _ _ hG1
    have y3 := cell_of_row w1 G (k * 5 + 3) _ _ _ hG1
    have y4 := cell_of_row w1 G (k * 5 + 4) _ _ _ hG1
    rw [List.getElem?_toArray, List.getElem?_append_right (by omega), hpl] at y0 y1 y2 y3 y4
    simp at y0 y1 y2 y3 y4
    have f0 := frozen_of_row w1 G (k * 5) _ _ hG1
    have f1 := frozen_of_row w1 G (k * 5 + 1) _ _ hG1
    have f2 := frozen_of_row w1 G (k * 5 + 2) _ _ hG1
    have f3 := frozen_of_row w1 G (k * 5 + 3) _ _ hG1
    have f4 := frozen_of_row w1 G (k * 5 + 4) _ _ hG1
    rw [hv9] at hput honl
    have HE := Lib.hid (And.intro hyT (And.intro hyL (And.intro hyN (And.intro hyg (And.intro hb1 (And.intro hput honl))))))
    have HV := Lib.hid hv9
    have l9 := heap_lt hG1
    unfold Lo.val
    rw [hv9]
    clear hyT hyL hyN hyg hb1 hput honl hG1 hpl hv9 x0 x1 x2 x3 x4
    go_wp2
    obtain ⟨hyT, hyL, hyN, hyg, hb1, hput, honl⟩ := HE.out
    obtain ⟨hyk, hyt, hQ, hG, hL, hN, hg9, hO⟩ := HO.out
    obtain ⟨WE, eE⟩ : ∃ W, (((((w1.setCell ⟨G, k * 5, none⟩ (.int .i64 y.op)).setCell ⟨G, k * 5 + 1, none⟩ (.string (bs y.s))).setCell ⟨G, k * 5 + 2, none⟩ (.int .i64 y.n)).setCell ⟨G, k * 5 + 3, none⟩ (.slice A9 y.l.length c9)).setCell ⟨G, k * 5 + 4, none⟩ (.int .i64 y.line)) = W := ⟨_, rfl⟩
    rw [eE] at hput honl ⊢
    have hal := HP.out.2
    have hGl := heap_lt hG
    rw [World.size_alloc] at hyg
    have hys : ∀ g ∈ blksL ys, WE.heap[g]? = wr.heap[g]? := fun g hg => by
     have h1 := LiesL.lt ys hL g hg
     have h2 := hg9 g hg
     exact (honl.block g (by have := hb1.size; simp at this; omega) (by omega)).trans ((hb1.block g (by simp; omega)).trans (hal.block g h1))
    have hyb : ∀ g ∈ y.blks, WE.heap[g]? = w1.heap[g]? := fun g hg => honl.block g (Lies.lt y hyL g hg) (by have := hyg g hg; omega)
    refine ⟨⟨k + 1, ys ++ [y], R, by omega, by simp, by simp [hyk], ?_, ?_, ?_, ?_, ?_, ?_, ?_⟩, by simp [intOf]; omega⟩
    ·rw [List.take_add_one, HP.out.1, ← hyt, trees_map, trees_map, List.map_append]
     simp [hyT]
    ·simp only [List.length_cons] at hQ
     omega
    ·rw [fivesO_app, show fivesO [y] = [.int .i64 y.op, .string (bs y.s), .int .i64 y.n, .slice A9 y.l.length c9, .int .i64 y.line] by simp [fivesO, fiveO, HV.out]]
     exact hput
    ·rw [LiesL_all]
     intro x hx
     rcases List.mem_append.1 hx with hx | hx
     ·exact (LiesL_all _ _).1 (hL.keep ys hys) x hx
     ·rw [List.mem_singleton.1 hx]
      exact hyL.keep y hyb
    ·rw [blksL_app, blksL_cons, blksL_nil, List.append_nil, List.nodup_append]
     refine ⟨hN, hyN, fun a ha b hb e => ?_⟩
     have h1 := LiesL.lt ys hL a ha
     have h2 := hyg b hb
     omega
    ·intro g hg
     rw [blksL_app, blksL_cons, blksL_nil, List.append_nil, List.mem_append] at hg
     rcases hg with hg | hg
     ·exact hg9 g hg
     ·have := hyg g hg
      omega
    ·exact ((hO.trans' (Only.of_below hal)).trans' (Only.of_below hb1)).trans' honl
   ·obtain rfl : k = t.l.length := by omega
    have g1 : ¬ (t.l.length : Int) < t.l.length := by omega
    have hz0 := HB.out.2.2.2.2
    have b1 := (hO.block w.heap.size (by omega) (by omega)).trans HB.out.1
    have b2 := (hO.block (w.heap.size + 1) (by omega) (by omega)).trans HB.out.2.1
    have x0 := cell_of_row wr _ 0 _ _ _ b1
    have x1 := cell_of_row wr _ 1 _ _ _ b1
    have x2 := cell_of_row wr _ 2 _ _ _ b1
    have x3 := cell_of_row wr _ 3 _ _ _ b1
    have x4 := cell_of_row wr _ 4 _ _ _ b1
    have y0 := cell_of_row wr _ 0 _ _ _ b2
    have y1 := cell_of_row wr _ 1 _ _ _ b2
    have y2 := cell_of_row wr _ 2 _ _ _ b2
    have y3 := cell_of_row wr _ 3 _ _ _ b2
    have y4 := cell_of_row wr _ 4 _ _ _ b2
    have f1 := frozen_of_row wr _ 3 _ _ b1
    have z0 := frozen_of_row wr _ 0 _ _ b2
    have z1 := frozen_of_row wr _ 1 _ _ b2
    have z2 := frozen_of_row wr _ 2 _ _ b2
    have z3 := frozen_of_row wr _ 3 _ _ b2
    have z4 := frozen_of_row wr _ 4 _ _ b2
    simp at x0 x1 x2 x3 x4 y0 y1 y2 y3 y4
    have l1 := heap_lt b1
    have l2 := heap_lt b2
    have hF := fin5 (W := wr) (b1 := w.heap.size) (L := .slice (some ⟨G, 0, none⟩) t.l.length t.l.length) (a := .int .i64 t.op) (b := .string (bs t.s)) (c := .int .i64 t.n) (d := .slice (some ⟨G, 0, none⟩) t.l.length t.l.length) (e := .int .i64 t.line) (by omega) b2
    have hO5 := fin5_only wr w.heap.size (w.heap.size + 1) (.slice (some ⟨G, 0, none⟩) t.l.length t.l.length) (.int .i64 t.op) (.string (bs t.s)) (.int .i64 t.n) (.slice (some ⟨G, 0, none⟩) t.l.length t.l.length) (.int .i64 t.line)
    have HF := Lib.hid (And.intro hF hO5)
    have HO := Lib.hid (And.intro hyk (And.intro hyt (And.intro hQ (And.intro hG (And.intro hL (And.intro hN (And.intro hg9 hO)))))))
    clear b1 b2 hF hO5 hyt hQ hG hL hN hg9 hO
    go_wp2
    obtain ⟨hyk, hyt, hQ, hG, hL, hN, hg9, hO⟩ := HO.out
    have hF := HF.out.1
    have hO5 := HF.out.2
    obtain ⟨WF, eF⟩ : ∃ W, ((((((wr.setCell ⟨w.heap.size, 3, none⟩ (.slice (some ⟨G, 0, none⟩) t.l.length t.l.length)).setCell ⟨w.heap.size + 1, 0, none⟩ (.int .i64 t.op)).setCell ⟨w.heap.size + 1, 1, none⟩ (.string (bs t.s))).setCell ⟨w.heap.size + 1, 2, none⟩ (.int .i64 t.n)).setCell ⟨w.heap.size + 1, 3, none⟩ (.slice (some ⟨G, 0, none⟩) t.l.length t.l.length)).setCell ⟨w.heap.size + 1, 4, none⟩ (.int .i64 t.line)) = W := ⟨_, rfl⟩
    rw [eF] at hF hO5 ⊢
    have r0 := cell_of_row WF _ 0 _ _ _ hF
    have r1 := cell_of_row WF _ 1 _ _ _ hF
    have r2 := cell_of_row WF _ 2 _ _ _ hF
    have r3 := cell_of_row WF _ 3 _ _ _ hF
    have r4 := cell_of_row WF _ 4 _ _ _ hF
    simp at r0 r1 r2 r3 r4
    rw [List.take_of_length_le (Nat.le_refl _)] at hyt
    have hQ0 : Q = [] := List.eq_nil_of_length_eq_zero (by rw [hQ]; omega)
    rw [hQ0, List.append_nil] at hG
    have hkp : ∀ g, G ≤ g → g < wr.heap.size → WF.heap[g]? = wr.heap[g]? := fun g h1 h2 => hO5.block g h2 (by omega)
    refine bodyPost_ret (v := (Lo.mk t.op t.s t.n t.line (.slice (some ⟨G, 0, none⟩) t.l.length t.l.length) ys).val) (by simp [results, Tryz.results37, go_sem, r0, r1, r2, r3, r4]; rfl) rfl ⟨.mk t.op t.s t.n t.line (.slice (some ⟨G, 0, none⟩) t.l.length t.l.length) ys, rfl, ?_, ?_, ?_, ?_, ?_⟩
    ·rw [Lo.tree, hyt]
     cases t
     rfl
    ·rw [Lies_iff]
     refine ⟨HR.out.2.2.1, .inr ⟨G, ?_, ?_⟩, ?_, ?_⟩
     ·show Value.slice _ t.l.length t.l.length = Value.slice _ ys.length ys.length
      rw [hyk]
     ·exact (hkp G (Nat.le_refl _) (heap_lt hG)).trans hG
     ·show ys.length ≤ maxLen
      rw [hyk]
      unfold maxLen
      omega
     ·exact hL.keep ys fun g hg => hkp g (by have := hg9 g hg; omega) (LiesL.lt ys hL g hg)
    ·rw [blks_eq]
     show (Value.ownBlock (.slice (some ⟨G, 0, none⟩) t.l.length t.l.length)).toList ++ blksL ys |>.Nodup
     simp only [Value.ownBlock, Option.toList_some, List.cons_append, List.nil_append, List.nodup_cons]
     exact ⟨fun h => by have := hg9 G h; omega, hN⟩
    ·intro g hg
     rw [blks_eq] at hg
     replace hg : g ∈ (Value.ownBlock (.slice (some ⟨G, 0, none⟩) t.l.length t.l.length)).toList ++ blksL ys := hg
     simp only [Value.ownBlock, Option.toList_some, List.cons_append, List.nil_append, List.mem_cons] at hg
     rcases hg with rfl | hg
     ·omega
     ·have := hg9 g hg
      omega
    ·exact HB.out.2.2.2.1.trans (((hO.to_below (by omega) (fun i hi _ => by omega)).mono (Nat.le_refl _)).trans (hO5.to_below (by have := hO.size; omega) (fun i hi _ => by rcases hi with rfl | rfl <;> omega)))
end
section
open Go.RowKit Go.Proofs Go.Maps
theorem key9 : Keyed Tryz.prog 9 := string_keyed Tryz.underlying9
theorem zero3 (w : World) : (zeroValue 3).run Tryz.prog w = .ok (.int .i64 0) w := by kernel_rfl
theorem key_of (s : Bs) (h : s.length ≤ maxLen) : keyOf Tryz.prog 9 (.string (bs s)) = some (.string s) := by
 have := Go.WideMaps.keyOf_string_mk (P := Tryz.prog) (k := 9) Tryz.underlying9 (s := bs s) (by rw [bs_size]; exact h)
 rw [this, bs_list]
def PlacesAt (W : World) (m : Nat) (vars : List Bs) : Prop :=
 ∃ (k : Nat) (D : DataW Unit), W.ownsMap Tryz.prog 9 (plainElem Tryz.prog 3) m k D ∧ k ≤ vars.length ∧ (∀ s : Bs, has D (.string s) = decide (s ∈ vars)) ∧ ∀ (s : Bs) (i : Nat), vars.idxOf? s = some i → D.atKey (.string s) (.lit (.int .i64 0)) = .lit (.int .i64 i)
theorem PlacesAt.lt {W : World} {m : Nat} {vars : List Bs} (h : PlacesAt W m vars) : m < W.heap.size := by
 obtain ⟨k, D, h, -⟩ := h
 exact h.lt
theorem PlacesAt.keep {W W' : World} {m : Nat} {vars : List Bs} (h : PlacesAt W m vars) (hk : W'.heap[m]? = W.heap[m]?) : PlacesAt W' m vars := by
 obtain ⟨k, D, ⟨es, clock, hb, h1⟩, h2⟩ := h
 exact ⟨k, D, ⟨es, clock, hk.trans hb, h1⟩, h2⟩
theorem PlacesAt.made (W : World) : PlacesAt (W.alloc (.map #[] 0)) W.heap.size [] :=
 ⟨0, .map [], World.ownsMap_made _ _ _ _, Nat.le_refl _, fun s => by simp [has], fun s i h => by simp at h⟩
theorem PlacesAt.look {W : World} {m : Nat} {vars : List Bs} (h : PlacesAt W m vars) (s : Bs) (hs : s.length ≤ maxLen) :
  ∃ c : Int, (Instr.lookup 124 (.map (some m)) (.string (bs s)) true).run Tryz.prog W = .ok (.tuple #[.int .i64 c, .bool (decide (s ∈ vars))]) W ∧ ∀ i : Nat, vars.idxOf? s = some i → c = i := by
 obtain ⟨k, D, h1, -, h2, h3⟩ := h
 obtain ⟨v, ps, hrun, hv⟩ := h1.look_ok key9 Tryz.underlying124 (zero3 W) (plainElem_int Tryz.underlying3 (by decide)) (key_of s hs)
 obtain ⟨c, rfl, hc, -⟩ := plainElem_int_inv Tryz.underlying3 hv
 rw [h2] at hrun
 refine ⟨c, hrun, fun i hi => ?_⟩
 have h4 := h3 s i hi
 simp only [Prod.mk.injEq] at hc
 rw [hc.1] at h4
 simpa using h4
theorem idx_app_other {l : List Bs} {s u : Bs} (e : u ≠ s) : (l ++ [s]).idxOf? u = l.idxOf? u := by
 have e2 : (s == u) = false := by rw [beq_eq_false_iff_ne]; exact fun h => e h.symm
 simp [List.idxOf?, List.findIdx?_append, List.findIdx?_cons, e2]
theorem idx_app_same {l : List Bs} {s : Bs} (h : s ∉ l) : (l ++ [s]).idxOf? s = some l.length := by
 have h0 : l.idxOf? s = none := by rw [List.idxOf?_eq_none_iff]; exact h
 unfold List.idxOf? at h0 ⊢
 rw [List.findIdx?_append, h0]
 simp
theorem PlacesAt.put {W : World} {m : Nat} {vars : List Bs} (h : PlacesAt W m vars) (s : Bs) (hs : s.length ≤ maxLen) (hn : s ∉ vars) (hl : vars.length ≤ 1000000) :
  ∃ w', (Instr.mapUpdate 124 (.map (some m)) (.string (bs s)) (.int .i64 vars.length)).run Tryz.prog W = .ok () w' ∧ PlacesAt w' m (vars ++ [s]) ∧ W.mapTurned w' m := by
 obtain ⟨k, D, h1, hk, h2, h3⟩ := h
 obtain ⟨w', hrun, hown, ht⟩ := h1.store key9 Tryz.underlying124 (by unfold maxLen; omega) (key_of s hs) (plainElem_int Tryz.underlying3 (a := (vars.length : Int)) (WalkArith.wf_i64 (by omega)))
 refine ⟨w', hrun, ⟨k + 1, _, hown, by rw [List.length_append]; simp; omega, fun u => ?_, fun u i hi => ?_⟩, ht⟩
 ·by_cases e : u = s
  ·subst e
   rw [has_put_same h1.isMap (by simp [WideAt.IsKeyLit])]
   simp
  ·rw [has_put_other (by simp; exact e), h2]
   simp [e]
 ·by_cases e : u = s
  ·subst e
   rw [atKey_put_same h1.isMap (by simp [WideAt.IsKeyLit])]
   rw [idx_app_same hn] at hi
   cases hi
   rfl
  ·rw [atKey_put_other (by simp; exact e)]
   rw [idx_app_other e] at hi
   exact h3 u i hi
end
end Go.Proofs.YtikbfoichhkeaaaGreat
