/- jtree.Walk with the function that JtreeWalks hands over. -/
import Derived.Test.YtiejpenffpjmeaaDoorSound
import Derived.Test.YtiejpenffpjmeaaDoorFlat
import Derived.Deep.MidRow
import Derived.Deep.RegionLaw
import Derived.Deep.Cut
import Derived.Maps.OwnIn
namespace Go.Proofs.YtiejpenffpjmeaaDoor
set_option linter.unusedSimpArgs false
set_option linter.unusedVariables false
open Go.RowKit Go.Proofs Go.Shelf

attribute [local go_sem] Oper.semAt_some

/-- The cells of a tree that lies. -/
def fiveLo (x : Lo) : List Value := [.int .i64 x.op, .string (bs x.s), .int .i64 x.n, x.v, .int .i64 x.line]
theorem fiveLo_five (x : Lo) : fiveLo x = five (x.tree, x.v) := by rw [tree_eq]; rfl
theorem fiveLos_five (l : List Lo) : l.flatMap fiveLo = (l.map fun x => (x.tree, x.v)).flatMap five := by
  induction l with
  | nil => rfl
  | cons a r ih => rw [List.flatMap_cons, List.map_cons, List.flatMap_cons, ih, fiveLo_five]
/-- got's box, and the row in it. -/
def GotV (W : World) (G base : Nat) (v : Value) (xs : List Lo) : Prop := Boxed W G 22 v ∧ W.ownsRow base 24 5 v xs.length (xs.flatMap fiveLo)
/-- got, and what it holds now. -/
def mineG (n0 G : Nat) (W : World) (k : Nat) : Prop := n0 ≤ k ∧ (k = G ∨ W.heap.size ≤ G ∨ ∃ v, Boxed W G 22 v ∧ v.ownBlock = some k)
theorem own_zero {W : World} {base g n cap : Nat} {xs : List Value} (hx : xs.length = n * 5) (h : W.ownsRow base 24 5 (.slice (some ⟨g, 0, none⟩) (n + 1) cap) (n + 1) (xs ++ [.int .i64 0, .string ⟨#[]⟩, .int .i64 0, .slice none 0 0, .int .i64 0])) :
    (W.cell? ⟨g, n * 5, none⟩ = some (.int .i64 0) ∧ W.cell? ⟨g, n * 5 + 1, none⟩ = some (.string ⟨#[]⟩) ∧ W.cell? ⟨g, n * 5 + 2, none⟩ = some (.int .i64 0) ∧ W.cell? ⟨g, n * 5 + 3, none⟩ = some (.slice none 0 0) ∧ W.cell? ⟨g, n * 5 + 4, none⟩ = some (.int .i64 0)) ∧
    (W.frozen? ⟨g, n * 5, none⟩ = false ∧ W.frozen? ⟨g, n * 5 + 1, none⟩ = false ∧ W.frozen? ⟨g, n * 5 + 2, none⟩ = false ∧ W.frozen? ⟨g, n * 5 + 3, none⟩ = false ∧ W.frozen? ⟨g, n * 5 + 4, none⟩ = false) := by
  obtain ⟨g', c', e, -, hc⟩ := own_cells h (Nat.succ_pos _)
  simp only [Value.slice.injEq, Option.some.injEq, Addr.mk.injEq, and_true, true_and] at e
  obtain ⟨rfl, rfl⟩ := e
  have key : ∀ j u, ([.int .i64 0, .string ⟨#[]⟩, .int .i64 0, .slice none 0 0, .int .i64 0] : List Value)[j]? = some u → W.cell? ⟨g, n * 5 + j, none⟩ = some u := fun j u hj => by
    have := hc (n * 5 + j) u (by rw [← hx, List.getElem?_append_right (by omega), Nat.add_sub_cancel_left]; exact hj)
    rw [Addr.add_mid, Nat.zero_add] at this
    exact this
  exact ⟨⟨key 0 _ rfl, key 1 _ rfl, key 2 _ rfl, key 3 _ rfl, key 4 _ rfl⟩, h.frozenAt _, h.frozenAt _, h.frozenAt _, h.frozenAt _, h.frozenAt _⟩
theorem fiveLos_len (l : List Lo) : (l.flatMap fiveLo).length = l.length * 5 := by rw [fiveLos_five, fives_len, List.length_map]
theorem boxed_inj {W : World} {G : Nat} {t : TypeId} {u v : Value} (h : Boxed W G t u) (g : Boxed W G t v) : u = v := by
  unfold Boxed at h g
  rw [h] at g
  simpa using g

theorem set_tail {α : Type} (xs r : List α) (k : Nat) (u : α) : (xs ++ r).set (xs.length + k) u = xs ++ r.set k u := by
  rw [List.set_append_right _ _ (by omega), Nat.add_sub_cancel_left]
theorem own_form {W : World} {base n : Nat} {v : Value} {xs : List Value} (h : W.ownsRow base 24 5 v n xs) : ∃ A c, v = .slice A n c := by
  rcases h.2 with ⟨h', h0⟩ | ⟨g, cap, cur, h', _⟩
  · exact ⟨none, 0, by rw [h', h0]⟩
  · exact ⟨_, _, h'⟩
def zero5 : List Value := [.int .i64 0, .string ⟨#[]⟩, .int .i64 0, .slice none 0 0, .int .i64 0]
/-- What is behind the append of an empty tree. -/
def AppZ (W : World) (base n : Nat) (v : Value) (xs : List Value) (v' : Value) (w' : World) : Prop :=
  w'.ownsRow base 24 5 v' (n + 1) (xs ++ zero5) ∧ W.grownBy w' v.ownBlock ∧ (v'.ownBlock = v.ownBlock ∨ v'.ownBlock = some W.heap.size)
theorem cells_new (W : World) (Z : Nat) (vs : List Value) (T : TypeId) (h : W.heap[Z]? = some (.cells vs.toArray T (0, 0))) (j : Nat) (u : Value) (hj : vs[j]? = some u) : W.cell? ((⟨Z, 0, none⟩ : Addr).add j) = some u := by
  rw [Addr.add_mid, cell_of_row _ _ _ _ _ _ h]
  simpa using hj
theorem appZ_run (W : World) (base n Z : Nat) (v : Value) (xs : List Value) (ty : TypeId) (hown : W.ownsRow base 24 5 v n xs) (hz : W.heap[Z]? = some (.cells #[.int .i64 0, .string ⟨#[]⟩, .int .i64 0, .slice none 0 0, .int .i64 0] 24 (0, 0))) (hn : n ≤ 1000000) (hb : base ≤ W.heap.size) :
    ∃ v' w', (Builtin.append_ #[22, 22] ty #[v, .slice (some ⟨Z, 0, none⟩) 1 1]).run Tryd.prog W = .ok v' w' ∧ AppZ W base n v xs v' w' := by
  obtain ⟨i0, hi, hi1, hi2, hi3⟩ := info_parts info24
  obtain ⟨v', w', h1, h2, h3, -, h5⟩ := run_append_own_at (P := Tryd.prog) W base 22 ty 24 i0 _ 5 64 Tryd.underlying22 hi hi1 hi2 hi3 rfl (by decide) v n xs hown ⟨Z, 0, none⟩ 1 1 zero5 rfl (cells_new W Z zero5 24 hz) (by simp [zero5, Value.oneCell']) (by unfold maxLen; omega) (by omega) hb
  exact ⟨v', w', h1, h2, h3, h5⟩
/-- The five cells of an element of one's own row are there. -/
theorem own_there {W : World} {base g n cap : Nat} {xs : List Value} (h : W.ownsRow base 24 5 (.slice (some ⟨g, 0, none⟩) (n + 1) cap) (n + 1) xs) : W.there g (n * 5) 5 := by
  rcases h.2 with ⟨h', _⟩ | ⟨g', cap', cur, h', hb, hg, hnc, hcm, hcs, htake⟩
  · simp at h'
  · simp only [Value.slice.injEq, Option.some.injEq, Addr.mk.injEq, and_true, true_and] at h'
    obtain ⟨rfl, rfl⟩ := h'
    intro j hj
    refine ⟨?_, frozen_of_row W g _ cur 24 hg⟩
    rw [cell_of_row _ _ _ _ _ _ hg]
    have : n * 5 + j < cur.size := by rw [hcs]; omega
    simp [this]
/-- The last element of one's own row is written. -/
theorem own_last {W : World} {base g n cap : Nat} {xs : List Value} (a b c d e : Value) (hx : xs.length = n * 5) (h : W.ownsRow base 24 5 (.slice (some ⟨g, 0, none⟩) (n + 1) cap) (n + 1) (xs ++ zero5)) :
    (((((W.setCell ⟨g, n * 5, none⟩ a).setCell ⟨g, n * 5 + 1, none⟩ b).setCell ⟨g, n * 5 + 2, none⟩ c).setCell ⟨g, n * 5 + 3, none⟩ d).setCell ⟨g, n * 5 + 4, none⟩ e).ownsRow base 24 5 (.slice (some ⟨g, 0, none⟩) (n + 1) cap) (n + 1) (xs ++ [a, b, c, d, e]) ∧ W.grownBy (((((W.setCell ⟨g, n * 5, none⟩ a).setCell ⟨g, n * 5 + 1, none⟩ b).setCell ⟨g, n * 5 + 2, none⟩ c).setCell ⟨g, n * 5 + 3, none⟩ d).setCell ⟨g, n * 5 + 4, none⟩ e) (some g) := by
  have h1 := h.stored (n * 5) a
  have h2 := h1.1.stored (n * 5 + 1) b
  have h3 := h2.1.stored (n * 5 + 2) c
  have h4 := h3.1.stored (n * 5 + 3) d
  have h5 := h4.1.stored (n * 5 + 4) e
  refine ⟨?_, (((h1.2.trans h2.2).trans h3.2).trans h4.2).trans h5.2⟩
  have e5 : (((((xs ++ zero5).set (n * 5) a).set (n * 5 + 1) b).set (n * 5 + 2) c).set (n * 5 + 3) d).set (n * 5 + 4) e = xs ++ [a, b, c, d, e] := by
    rw [show n * 5 + 1 = xs.length + 1 by omega, show n * 5 + 2 = xs.length + 2 by omega, show n * 5 + 3 = xs.length + 3 by omega, show n * 5 + 4 = xs.length + 4 by omega, show n * 5 = xs.length + 0 by omega,
      set_tail, set_tail, set_tail, set_tail, set_tail]
    rfl
  rw [← e5]
  exact h5.1

theorem ownBlock_ge {W : World} {base n : Nat} {v : Value} {xs : List Value} {k : Nat} (h : W.ownsRow base 24 5 v n xs) (hk : v.ownBlock = some k) : base ≤ k ∧ k < W.heap.size := by
  rcases h.2 with ⟨rfl, -⟩ | ⟨g, cap, cur, rfl, h1, h2, -⟩
  · simp [Value.ownBlock] at hk
  · simp [Value.ownBlock] at hk
    subst hk
    exact ⟨h1, (Array.getElem?_eq_some_iff.1 h2).1⟩
/-- The boxes stand beside what is appended to. -/
theorem got_beside {w W1 w5 : World} {G N base n g5 : Nat} {v u v5 : Value} {i : Value} {xs ys : List Value} (hGb : G < base) (hNG : N < G) (hb : base ≤ w.heap.size) (hO : w.ownsRow base 24 5 v n xs) (hG : Boxed W1 G 22 u) (hN : Boxed W1 N 3 i)
    (hbel : Below w.heap.size w W1) (hz : W1.heap.size = w.heap.size + 1) {Z : Obj} (hR : AppZ (W1.drew.alloc Z) base n v ys v5 w5) (hg5 : base ≤ g5) :
    Boxed w5 G 22 u ∧ Boxed w5 N 3 i ∧ g5 ≠ G ∧ g5 ≠ N ∧ (v5.ownBlock = some g5 → g5 ≠ w.heap.size ∧ ∀ p : Addr, p.block = w.heap.size → w5.cell? p = W1.cell? p) := by
  have key : ∀ k, k < base → w5.heap[k]? = W1.heap[k]? := fun k hk => by
    refine (hR.2.1.block k (by simp; omega) (fun e => ?_)).trans ?_
    · have := (ownBlock_ge hO e.symm).1
      omega
    · exact (Below.heap_alloc _ _ _ (by simp; omega)).trans rfl
  refine ⟨(key G hGb).trans hG, (key N (by omega)).trans hN, by omega, by omega, fun hv => ⟨fun e => ?_, fun p hp => ?_⟩⟩
  · subst e
    rcases hR.2.2 with h | h
    · have := (ownBlock_ge hO (h.symm.trans hv)).2
      omega
    · have := hv.symm.trans h
      simp at this
      omega
  · have : w5.heap[p.block]? = W1.heap[p.block]? := by
      rw [hp]
      refine (hR.2.1.block _ (by simp; omega) (fun e => ?_)).trans ((Below.heap_alloc _ _ _ (by simp; omega)).trans rfl)
      have := (ownBlock_ge hO e.symm).2
      omega
    exact World.cell?_of_block this

/-- What is behind the store of a tree's cells into the last element, and of the slice into its box. -/
structure Aft (w5 W7 : World) (G base g5 c5 n : Nat) (xs : List Value) (news : List Value) : Prop where
  box : Boxed W7 G 22 (.slice (some ⟨g5, 0, none⟩) (n + 1) c5)
  own : W7.ownsRow base 24 5 (.slice (some ⟨g5, 0, none⟩) (n + 1) c5) (n + 1) (xs ++ news)
  keep : ∀ k, k < w5.heap.size → k ≠ G → k ≠ g5 → W7.heap[k]? = w5.heap[k]?
  os : W7.os = w5.os
  tape : W7.tape = w5.tape
  output : W7.output = w5.output
  size : W7.heap.size = w5.heap.size
theorem aft1 {w5 : World} {G base g5 c5 n : Nat} {u : Value} {xs : List Value} {a b c d e : Value} (hGb : G < base) (hG : Boxed w5 G 22 u) (hO : w5.ownsRow base 24 5 (.slice (some ⟨g5, 0, none⟩) (n + 1) c5) (n + 1) (xs ++ zero5)) (hx : xs.length = n * 5) :
    Aft w5 ((((((w5.setCell ⟨g5, n * 5, none⟩ a).setCell ⟨g5, n * 5 + 1, none⟩ b).setCell ⟨g5, n * 5 + 2, none⟩ c).setCell ⟨g5, n * 5 + 3, none⟩ d).setCell ⟨g5, n * 5 + 4, none⟩ e).setCell ⟨G, 0, none⟩ (.slice (some ⟨g5, 0, none⟩) (n + 1) c5)) G base g5 c5 n xs [a, b, c, d, e] := by
  have hg5 : base ≤ g5 := (ownBlock_ge hO rfl).1
  obtain ⟨h6, h7⟩ := own_last a b c d e hx hO
  have hsz : (((((w5.setCell ⟨g5, n * 5, none⟩ a).setCell ⟨g5, n * 5 + 1, none⟩ b).setCell ⟨g5, n * 5 + 2, none⟩ c).setCell ⟨g5, n * 5 + 3, none⟩ d).setCell ⟨g5, n * 5 + 4, none⟩ e).heap.size = w5.heap.size := by simp
  obtain ⟨W6, e6⟩ : ∃ W, (((((w5.setCell ⟨g5, n * 5, none⟩ a).setCell ⟨g5, n * 5 + 1, none⟩ b).setCell ⟨g5, n * 5 + 2, none⟩ c).setCell ⟨g5, n * 5 + 3, none⟩ d).setCell ⟨g5, n * 5 + 4, none⟩ e) = W := ⟨_, rfl⟩
  rw [e6] at h6 h7 hsz ⊢
  have k6 : ∀ k, k < w5.heap.size → k ≠ g5 → W6.heap[k]? = w5.heap[k]? := fun k hk hne => h7.block k hk (fun e => hne (by simpa using e))
  have bG6 : Boxed W6 G 22 u := (k6 G hG.lt (by omega)).trans hG
  have ho : ∀ k, k ≠ G → (W6.setCell ⟨G, 0, none⟩ (.slice (some ⟨g5, 0, none⟩) (n + 1) c5)).heap[k]? = W6.heap[k]? := fun k hk => heap_setCell_other W6 ⟨G, 0, none⟩ k _ (fun e => hk (by simpa using e))
  exact ⟨heap_setCell_same W6 G 0 _ 22 _ bG6, ownsRow_block h6 (fun k hk => ho k (by have := (ownBlock_ge h6 hk).1; omega)), fun k hk h1 h2 => (ho k h1).trans (k6 k hk h2), h7.os, h7.tape, h7.output, by simp [hsz]⟩
theorem aft2 {w5 : World} {G base g5 c5 n : Nat} {u : Value} {xs : List Value} {a b c d e : Value} (hGb : G < base) (hG : Boxed w5 G 22 u) (hO : w5.ownsRow base 24 5 (.slice (some ⟨g5, 0, none⟩) (n + 1) c5) (n + 1) (xs ++ zero5)) (hx : xs.length = n * 5) :
    Aft w5 ((((((w5.setCell ⟨G, 0, none⟩ (.slice (some ⟨g5, 0, none⟩) (n + 1) c5)).setCell ⟨g5, n * 5, none⟩ a).setCell ⟨g5, n * 5 + 1, none⟩ b).setCell ⟨g5, n * 5 + 2, none⟩ c).setCell ⟨g5, n * 5 + 3, none⟩ d).setCell ⟨g5, n * 5 + 4, none⟩ e) G base g5 c5 n xs [a, b, c, d, e] := by
  have hg5 : base ≤ g5 := (ownBlock_ge hO rfl).1
  have ho : ∀ k, k ≠ G → (w5.setCell ⟨G, 0, none⟩ (.slice (some ⟨g5, 0, none⟩) (n + 1) c5)).heap[k]? = w5.heap[k]? := fun k hk => heap_setCell_other w5 ⟨G, 0, none⟩ k _ (fun e => hk (by simpa using e))
  have hs := heap_setCell_same w5 G 0 _ 22 (.slice (some ⟨g5, 0, none⟩) (n + 1) c5) hG
  have hO' := ownsRow_block (W' := w5.setCell ⟨G, 0, none⟩ (.slice (some ⟨g5, 0, none⟩) (n + 1) c5)) hO (fun k hk => ho k (by have := (ownBlock_ge hO hk).1; omega))
  obtain ⟨h6, h7⟩ := own_last a b c d e hx hO'
  refine ⟨(h7.block G (by have := hG.lt; simp; omega) (fun e => by simp at e; omega)).trans hs, h6, fun k hk h1 h2 => (h7.block k (by simpa using hk) (fun e => h2 (by simpa using e))).trans (ho k h1), h7.os, h7.tape, h7.output, by simp⟩

theorem got_after {w W1 w5 W7 : World} {G N base n0 g5 c5 : Nat} {A0 : Option Addr} {c0 : Nat} {n : Int} {xs : List Lo} {x : Lo} {Z : Obj} (h0 : n0 ≤ G) (hGb : G < base) (hNG : N < G) (hb : base ≤ w.heap.size) (lG : G < w.heap.size) (hGV : GotV w G base (.slice A0 xs.length c0) xs)
    (hbel : Below w.heap.size w W1) (hz : W1.heap.size = w.heap.size + 1) (hN5 : Boxed w5 N 3 (.int .i64 n)) (hR : AppZ (W1.alloc Z).drew base xs.length (.slice A0 xs.length c0) (xs.flatMap fiveLo) (.slice (some ⟨g5, 0, none⟩) (xs.length + 1) c5) w5)
    (h7 : Aft w5 W7 G base g5 c5 xs.length (xs.flatMap fiveLo) (fiveLo x)) :
    Boxed W7 G 22 (.slice (some ⟨g5, 0, none⟩) (xs.length + 1) c5) ∧ Boxed W7 N 3 (.int .i64 n) ∧ GotV W7 G base (.slice (some ⟨g5, 0, none⟩) (xs.length + 1) c5) (xs ++ [x]) ∧ RdKeeps (mineG n0 G) w W7 := by
  have hg5 : base ≤ g5 := (ownBlock_ge hR.1 rfl).1
  have bG7 := h7.box
  have hz7 := h7.size
  have hz5 := hR.2.1.size
  rw [show (W1.alloc Z).drew.heap.size = W1.heap.size + 1 by simp [World.drew]] at hz5
  have mineold : ∀ k, k < w.heap.size → ¬ mineG n0 G w k → k ≠ G ∧ some k ≠ (Value.slice A0 xs.length c0).ownBlock := fun k hk hm => by
    by_cases hn : n0 ≤ k
    · exact ⟨fun e => hm ⟨hn, .inl e⟩, fun e => hm ⟨hn, .inr (.inr ⟨_, hGV.1, e.symm⟩)⟩⟩
    · exact ⟨by omega, fun e => by have := (ownBlock_ge hGV.2 e.symm).1; omega⟩
  have hg5o : (Value.slice A0 xs.length c0).ownBlock = some g5 ∨ w.heap.size ≤ g5 := by
    rcases hR.2.2 with h | h
    · exact .inl h.symm
    · rw [show (W1.alloc Z).drew.heap.size = W1.heap.size + 1 by simp [World.drew]] at h
      simp [Value.ownBlock] at h
      exact .inr (by omega)
  refine ⟨bG7, (h7.keep N (by have := hN5.lt; omega) (by omega) (by omega)).trans hN5, ⟨bG7, ?_⟩, ?_⟩
  · rw [List.length_append, List.length_singleton, List.flatMap_append, List.flatMap_cons, List.flatMap_nil, List.append_nil]
    exact h7.own
  · refine ⟨h7.os.trans (hR.2.1.os.trans hbel.os), h7.tape.trans (hR.2.1.tape.trans hbel.tape), h7.output.trans (hR.2.1.output.trans hbel.output), by omega, fun k hk hm => ?_, fun k hk => ?_⟩
    · obtain ⟨m1, m2⟩ := mineold k hk hm
      have hne : k ≠ g5 := by
        rintro rfl
        rcases hg5o with h | h
        · exact m2 h.symm
        · omega
      exact (h7.keep k (by omega) m1 hne).trans ((hR.2.1.block k (by rw [show (W1.alloc Z).drew.heap.size = W1.heap.size + 1 by simp [World.drew]]; omega) m2).trans ((Below.heap_alloc W1 Z k (by omega)).trans (hbel.block k hk)))
    · obtain ⟨hn, h | h | ⟨v, hv, hvk⟩⟩ := hk
      · exact .inl ⟨hn, .inl h⟩
      · omega
      · obtain rfl := boxed_inj hv bG7
        simp [Value.ownBlock] at hvk
        subst hvk
        rcases hg5o with h | h
        · exact .inl ⟨by omega, .inr (.inr ⟨_, hGV.1, h⟩)⟩
        · exact .inr h

set_option maxRecDepth 100000 in
set_option maxHeartbeats 4000000 in
theorem got_any (G N base n0 : Nat) (n : Int) (v : Value) (xs : List Lo) (x : Lo) (w : World) (hG : GotV w G base v xs) (hN : Boxed w N 3 (.int .i64 n)) (h0 : n0 ≤ G) (hGb : G < base) (hNG : N < G) (hb : base ≤ w.heap.size)
    (Ax : Option Addr) (cx : Nat) (hx : x.v = .slice Ax x.l.length cx) (hl : xs.length ≤ 1000000) :
    Calls Tryd.prog 24 #[x.val, .pointer (some ⟨G, 0, none⟩), .pointer (some ⟨N, 0, none⟩)] w fun e w' => e = .returned (.bool (decide (((xs.length + 1 : Nat) : Int) < n))) ∧ (∃ v', GotV w' G base v' (xs ++ [x])) ∧ RdKeeps (mineG n0 G) w w' := by
  obtain ⟨i0, hi, hi1, hi2, hi3⟩ := info_parts info24
  have HI := Lib.hid (And.intro hi (And.intro hi1 (And.intro hi2 hi3)))
  obtain ⟨A0, c0, rfl⟩ := own_form hG.2
  have cG := hG.1.cell
  have fG := hG.1.frozen
  have cN := hN.cell
  have HGV := Lib.hid hG
  have HN := Lib.hid hN
  have HX := Lib.hid hx
  unfold Lo.val
  rw [hx]
  have lG := hG.1.lt
  have lN := hN.lt
  clear hG hN hx hi hi1 hi2 hi3
  go_enter Tryd.func24, Tryd.ntmps24
  go_wp2_with fail
  obtain ⟨W1, eW⟩ : ∃ W, w.alloc (.cells #[.int .i64 x.op, .string (bs x.s), .int .i64 x.n, .slice Ax x.l.length cx, .int .i64 x.line] 24) = W := ⟨_, rfl⟩
  have hb1 : Below w.heap.size w W1 := by rw [← eW]; exact (Below.refl _ w).alloc (Nat.le_refl _) _
  have hz1 : W1.heap.size = w.heap.size + 1 := by rw [← eW]; simp
  have hx1 : W1.heap[w.heap.size]? = some (.cells #[.int .i64 x.op, .string (bs x.s), .int .i64 x.n, .slice Ax x.l.length cx, .int .i64 x.line] 24 (0, 0)) := by rw [← eW]; exact heap_alloc_new w _
  rw [eW]
  have f0 : W1.cell? ⟨w.heap.size, 0, none⟩ = some (.int .i64 x.op) := cell_of_row _ _ 0 _ _ _ hx1
  have f1 : W1.cell? ⟨w.heap.size, 1, none⟩ = some (.string (bs x.s)) := cell_of_row _ _ 1 _ _ _ hx1
  have f2 : W1.cell? ⟨w.heap.size, 2, none⟩ = some (.int .i64 x.n) := cell_of_row _ _ 2 _ _ _ hx1
  have f3 : W1.cell? ⟨w.heap.size, 3, none⟩ = some (.slice Ax x.l.length cx) := cell_of_row _ _ 3 _ _ _ hx1
  have f4 : W1.cell? ⟨w.heap.size, 4, none⟩ = some (.int .i64 x.line) := cell_of_row _ _ 4 _ _ _ hx1
  have hB1 : Boxed W1 G 22 (.slice A0 xs.length c0) := (hb1.block G lG).trans HGV.out.1
  clear cG fG cN
  have cG1 := hB1.cell
  have fG1 := hB1.frozen
  have hN1 : Boxed W1 N 3 (.int .i64 n) := (hb1.block N lN).trans HN.out
  have hO1 : W1.ownsRow base 24 5 (.slice A0 xs.length c0) xs.length (xs.flatMap fiveLo) := ownsRow_below HGV.out.2 hb1
  have HW := Lib.hid (And.intro eW (And.intro hb1 (And.intro hz1 hN1)))
  have HO := Lib.hid (And.intro hO1 hB1)
  clear hb1 hz1 hN1 hO1 eW hx1 hB1
  have hfl := fiveLos_len xs
  have hix : (xs.length : Int) < (xs.length : Int) + 1 := by omega
  have hxl : w.heap.size < W1.heap.size := by have := HW.out.2.2.1; omega
  have hGl : G < W1.heap.size := by omega
  have hx5 : [Value.int .i64 x.op, .string (bs x.s), .int .i64 x.n, .slice Ax x.l.length cx, .int .i64 x.line] = fiveLo x := by unfold fiveLo; rw [HX.out]
  have HX5 := Lib.hid hx5
  clear hx5
  go_cut [] from 5 (fun wc => ∃ g5 c5, Boxed wc G 22 (.slice (some ⟨g5, 0, none⟩) (xs.length + 1) c5) ∧ Boxed wc N 3 (.int .i64 n) ∧ GotV wc G base (.slice (some ⟨g5, 0, none⟩) (xs.length + 1) c5) (xs ++ [x]) ∧ RdKeeps (mineG n0 G) w wc)
  case first =>
    go_region_law (first | (refine step_app rfl (.tmp 5) (.tmp 8) 22 rfl (.slice A0 xs.length c0) (.slice (some ⟨W1.heap.size, 0, none⟩) 1 1) (by first | rfl | simp [Act.eval]) (by first | rfl | simp [Act.eval]) (AppZ _ base xs.length _ _) (appZ_run _ base xs.length W1.heap.size _ _ _ (HO.out.1.drew.alloc _) (heap_alloc_new W1.drew _) hl (by have := HW.out.2.2.1; simp; omega)) ?_; intro v' w5 hR; obtain ⟨g5, c5, rfl, hg5, -⟩ := own_cells hR.1 (Nat.succ_pos _); have HR := Lib.hid hR; obtain ⟨⟨z0, z1, z2, z3, z4⟩, ⟨y0, y1, y2, y3, y4⟩⟩ := own_zero hfl hR.1; obtain ⟨hG5, hN5, hgG, hgN, hbd⟩ := got_beside hGb hNG hb HGV.out.2 HO.out.2 HW.out.2.2.2 HW.out.2.1 HW.out.2.2.1 hR hg5; have hG5c := hG5.cell; have hG5f := hG5.frozen; have hN5c := hN5.cell; have HB5 := Lib.hid (And.intro hG5 hN5); have hgx := (hbd rfl).1; have k0 := ((hbd rfl).2 _ rfl).trans f0; have k1 := ((hbd rfl).2 _ rfl).trans f1; have k2 := ((hbd rfl).2 _ rfl).trans f2; have k3 := ((hbd rfl).2 _ rfl).trans f3; have k4 := ((hbd rfl).2 _ rfl).trans f4; clear hR hG5 hN5 hbd))
    all_goals
      go_wp2
      go_meet
      case rel => (refine ⟨g5, c5, ?_⟩; have HF5 := HX5.out; have HR1 := HR.out.1; have HR0 := HR.out; have HA1 := aft1 (a := .int .i64 x.op) (b := .string (bs x.s)) (c := .int .i64 x.n) (d := .slice Ax x.l.length cx) (e := .int .i64 x.line) hGb HB5.out.1 HR1 hfl; have HA2 := aft2 (a := .int .i64 x.op) (b := .string (bs x.s)) (c := .int .i64 x.n) (d := .slice Ax x.l.length cx) (e := .int .i64 x.line) hGb HB5.out.1 HR1 hfl; rw [HF5] at HA1 HA2; have HGo := HGV.out; have HWo := HW.out; have HBo := HB5.out.2; first | (with_reducible exact got_after h0 hGb hNG hb lG HGo HWo.2.1 HWo.2.2.1 HBo HR0 HA1) | (with_reducible exact got_after h0 hGb hNG hb lG HGo HWo.2.1 HWo.2.2.1 HBo HR0 HA2))
  case rest =>
    obtain ⟨g5, c5, hcG, hcN, hcV, hcR⟩ := hcut
    have q1 := hcG.cell
    have q2 := hcN.cell
    have HC := Lib.hid (And.intro hcV hcR)
    clear hcG hcN hcV hcR
    go_wp2
    go_ret
    exact ⟨by simp, ⟨_, HC.out.1⟩, HC.out.2⟩
end Go.Proofs.YtiejpenffpjmeaaDoor
