/- The document's reader: an empty tree behind a row, and a tree written over it. The document's reader: worded. -/
import Derived.Deep.RegionHeldLaw
import Derived.Deep.LoopGhost
import Derived.Deep.DeepCutAuto
import Derived.Test.YtejbdoiamhfbjaaPm14
set_option linter.unusedSimpArgs false
set_option linter.unusedVariables false
set_option maxRecDepth 100000
set_option maxHeartbeats 4000000
namespace Go.Proofs.Ytejbdoiamhfbjaa
section
open Go.RowKit Go.Proofs
section
variable {R cp : Nat} {A : Option Addr} {L : List Tok} {st st1 : St} {w wa wk w' : World} {t : Tr} {l ts : List Tr} {v : Value} {B b : Nat}
theorem set_tail {α : Type} (xs r : List α) (k : Nat) (u : α) : (xs ++ r).set (xs.length + k) u = xs ++ r.set k u := by
 rw [List.set_append_right _ _ (by omega), Nat.add_sub_cancel_left]
def zero5 : List Value := [.int .i64 0, .string ⟨#[]⟩, .int .i64 0, .slice none 0 0, .int .i64 0]
theorem own_cur {W : World} {base g n cap : Nat} {xs : List Value} (h : W.ownsRow base 24 5 (.slice (some ⟨g, 0, none⟩) (n + 1) cap) (n + 1) xs) : ∃ cur, base ≤ g ∧ W.heap[g]? = some (.cells cur 24 (0, 0)) ∧ n + 1 ≤ cap ∧ cap ≤ maxLen ∧ cur.size = cap * 5 ∧ cur.toList.take ((n + 1) * 5) = xs := by
 rcases h.2 with ⟨h', _⟩ | ⟨g', cap', cur, h', hb, hg, hnc, hcm, hcs, htake⟩
 ·simp at h'
 ·simp only [Value.slice.injEq, Option.some.injEq, Addr.mk.injEq, and_true, true_and] at h'
  obtain ⟨rfl, rfl⟩ := h'
  exact ⟨cur, hb, hg, hnc, hcm, hcs, htake⟩
theorem own_last {W : World} {base g n cap : Nat} {xs : List Value} (a b c d e : Value) (hx : xs.length = n * 5) (h : W.ownsRow base 24 5 (.slice (some ⟨g, 0, none⟩) (n + 1) cap) (n + 1) (xs ++ zero5)) :
  (((((W.setCell ⟨g, n * 5, none⟩ a).setCell ⟨g, n * 5 + 1, none⟩ b).setCell ⟨g, n * 5 + 2, none⟩ c).setCell ⟨g, n * 5 + 3, none⟩ d).setCell ⟨g, n * 5 + 4, none⟩ e).ownsRow base 24 5 (.slice (some ⟨g, 0, none⟩) (n + 1) cap) (n + 1) (xs ++ [a, b, c, d, e]) ∧ W.grownBy (((((W.setCell ⟨g, n * 5, none⟩ a).setCell ⟨g, n * 5 + 1, none⟩ b).setCell ⟨g, n * 5 + 2, none⟩ c).setCell ⟨g, n * 5 + 3, none⟩ d).setCell ⟨g, n * 5 + 4, none⟩ e) (some g) := by
 have h1 := h.stored (n * 5) a
 have h2 := h1.1.stored (n * 5 + 1) b
 have h3 := h2.1.stored (n * 5 + 2) c
 have h4 := h3.1.stored (n * 5 + 3) d
 have h5 := h4.1.stored (n * 5 + 4) e
 refine ⟨?_, (((h1.2.trans h2.2).trans h3.2).trans h4.2).trans h5.2⟩
 have e5 : (((((xs ++ zero5).set (n * 5) a).set (n * 5 + 1) b).set (n * 5 + 2) c).set (n * 5 + 3) d).set (n * 5 + 4) e = xs ++ [a, b, c, d, e] := by
  rw [show n * 5 + 1 = xs.length + 1 by omega, show n * 5 + 2 = xs.length + 2 by omega, show n * 5 + 3 = xs.length + 3 by omega, show n * 5 + 4 = xs.length + 4 by omega, show n * 5 = xs.length + 0 by omega,
   set_tail, set_tail, set_tail, set_tail, set_tail]
  rfl
 rw [← e5]
 exact h5.1
abbrev put5o (W : World) (g o0 o1 o2 o3 o4 : Nat) (v0 v1 v2 v3 v4 : Value) : World := ((((W.setCell ⟨g, o0, none⟩ v0).setCell ⟨g, o1, none⟩ v1).setCell ⟨g, o2, none⟩ v2).setCell ⟨g, o3, none⟩ v3).setCell ⟨g, o4, none⟩ v4
theorem put5o_only (W : World) (g o0 o1 o2 o3 o4 : Nat) (v0 v1 v2 v3 v4 : Value) : Only (fun k => k = g) W (put5o W g o0 o1 o2 o3 o4 v0 v1 v2 v3 v4) := by
 unfold put5o
 have h : ∀ (W : World) (i : Nat) (v : Value), Only (fun k => k = g) W (W.setCell ⟨g, i, none⟩ v) := fun W i v => Only.setCell (F := fun k => k = g) W rfl i v
 exact ((((h W o0 v0).trans' (h _ o1 v1)).trans' (h _ o2 v2)).trans' (h _ o3 v3)).trans' (h _ o4 v4)
structure PZ (b : Nat) (wk : World) (ts : List Tr) (v : Value) (n : Nat) (g c : Nat) (W : World) : Prop where
 acc : AccAt b wk ts v
 len : ts.length = n
 lo : b ≤ g
 on : Only (fun k => v.ownBlock = some k) wk W
 lies : v.ownBlock = some g ∨ wk.heap.size ≤ g
 own : ∀ xs, trees xs = ts → wk.ownsRow b 24 5 v ts.length (xs.flatMap fun x => cellsT x.val) → W.ownsRow b 24 5 (.slice (some ⟨g, 0, none⟩) (n + 1) c) (n + 1) ((xs.flatMap fun x => cellsT x.val) ++ zero5)
theorem flat5 (xs : List Lo) : (xs.flatMap fun x => cellsT x.val).length = xs.length * 5 := by
 induction xs with
 | nil => rfl
 | cons y r ih => rw [List.flatMap_cons, List.length_append, ih, cellsT_val, List.length_cons]; simp; omega
theorem PZ.cells {n g c : Nat} {W : World} (p : PZ b wk ts v n g c W) (o0 o1 o2 o3 o4 : Nat) (e0 : n * 5 = o0) (e1 : n * 5 + 1 = o1) (e2 : n * 5 + 2 = o2) (e3 : n * 5 + 3 = o3) (e4 : n * 5 + 4 = o4) :
  g < W.heap.size ∧ (W.cell? ⟨g, o0, none⟩ = some (.int .i64 0) ∧ W.cell? ⟨g, o1, none⟩ = some (.string ⟨#[]⟩) ∧ W.cell? ⟨g, o2, none⟩ = some (.int .i64 0) ∧ W.cell? ⟨g, o3, none⟩ = some (.slice none 0 0) ∧ W.cell? ⟨g, o4, none⟩ = some (.int .i64 0)) ∧
  (W.frozen? ⟨g, o0, none⟩ = false ∧ W.frozen? ⟨g, o1, none⟩ = false ∧ W.frozen? ⟨g, o2, none⟩ = false ∧ W.frozen? ⟨g, o3, none⟩ = false ∧ W.frozen? ⟨g, o4, none⟩ = false) := by
 subst e0 e1 e2 e3 e4
 obtain ⟨xs, h1, h2, h3⟩ := p.acc
 obtain ⟨cur, k1, k2, k3, k4, k5, k6⟩ := own_cur (p.own xs h1 h2)
 have hl : xs.length = n := by rw [← p.len, ← h1, trees_map, List.length_map]
 have hf := flat5 xs
 rw [hl] at hf
 have key : ∀ j u, zero5[j]? = some u → W.cell? ⟨g, n * 5 + j, none⟩ = some u := fun j u hj => by
  have hj5 : j < 5 := by
   have := (List.getElem?_eq_some_iff.1 hj).1
   simpa [zero5] using this
  rw [cell_of_row _ _ _ _ _ _ k2, ← Array.getElem?_toList]
  have := congrArg (fun l => l[n * 5 + j]?) k6
  rw [List.getElem?_take_of_lt (by omega), List.getElem?_append_right (by omega), hf, Nat.add_sub_cancel_left, hj] at this
  exact this
 have fr : ∀ o, W.frozen? ⟨g, o, none⟩ = false := fun o => by simp [World.frozen?, k2]
 exact ⟨heap_lt k2, ⟨key 0 _ rfl, key 1 _ rfl, key 2 _ rfl, key 3 _ rfl, key 4 _ rfl⟩, fr _, fr _, fr _, fr _, fr _⟩
theorem AccAt.pushZ (h : AccAt b wk ts v) (Z n n1 : Nat) (hl : ts.length = n) (hn1 : n + 1 = n1) (hz : wk.heap[Z]? = some (.cells #[.int .i64 0, .string ⟨#[]⟩, .int .i64 0, .slice none 0 0, .int .i64 0] 24 (0, 0))) (hn : n ≤ 3000000) (hb : b ≤ wk.heap.size) (ty : TypeId) :
  ∃ v' W, (Builtin.append_ #[22, 22] ty #[v, .slice (some ⟨Z, 0, none⟩) 1 1]).run Try.prog wk = .ok v' W ∧ ∃ g c, v' = .slice (some ⟨g, 0, none⟩) n1 c ∧ PZ b wk ts v n g c W := by
 subst hl hn1
 obtain ⟨xs, rfl, h2, h3⟩ := id h
 obtain ⟨i0, j0, j1, j2, j3⟩ := info_parts node_info
 obtain ⟨v', w', r1, r2, r3, -, r5⟩ := run_append_own_at (P := Try.prog) wk b 22 ty 24 i0 _ 5 64 Try.underlying22 j0 j1 j2 j3 rfl (by decide) v (trees xs).length _ h2 ⟨Z, 0, none⟩ 1 1 zero5 rfl (fun j u hj => by
  rw [add_mid, cell_of_row _ _ _ _ _ _ hz]
  simpa [zero5] using hj) (by simp [zero5, Value.oneCell']) (by unfold maxLen; omega) (by omega) hb
 refine ⟨v', w', r1, ?_⟩
 rcases r2.2 with ⟨-, h0⟩ | ⟨g, cap, cur, rfl, hbg, -⟩
 ·omega
 refine ⟨g, cap, rfl, h, rfl, hbg, Only.grown r3 fun k e => e, ?_, fun ys hy hw => ?_⟩
 ·rcases r5 with r5 | r5
  ·exact .inl (by rw [← r5]; rfl)
  ·have : g = wk.heap.size := by simpa [Value.ownBlock] using r5
   exact .inr (by omega)
 ·obtain ⟨-, hw2⟩ := hw
  have : (ys.flatMap fun x => cellsT x.val) = xs.flatMap fun x => cellsT x.val := by
   rcases hw2 with ⟨e, h0⟩ | ⟨g1, c1, cur1, e, -, k1, -, -, -, k2⟩
   ·have h0x : xs = [] := by
     have := congrArg List.length (trees_map xs)
     simp at this
     exact List.length_eq_zero_iff.1 (by omega)
    have h0y : ys = [] := by
     have := congrArg List.length (trees_map ys)
     rw [hy] at this
     simp at this
     exact List.length_eq_zero_iff.1 (by omega)
    rw [h0x, h0y]
   ·rcases h2.2 with ⟨e', h0⟩ | ⟨g2, c2, cur2, e', -, q1, -, -, -, q2⟩
    ·rw [e] at e'; cases e'
    ·rw [e] at e'
     simp only [Value.slice.injEq, Option.some.injEq, Addr.mk.injEq, and_true, true_and] at e'
     obtain ⟨rfl, rfl⟩ := e'
     rw [k1] at q1
     simp only [Option.some.injEq, Obj.cells.injEq, and_true] at q1
     subst q1
     rw [← k2, ← q2]
  rw [this]
  exact r2
theorem PZ.fin {n g c : Nat} {W W2 : World} (p : PZ b wk ts v n g c W) (o0 o1 o2 o3 o4 n1 : Nat) (e0 : n * 5 = o0) (e1 : n * 5 + 1 = o1) (e2 : n * 5 + 2 = o2) (e3 : n * 5 + 3 = o3) (e4 : n * 5 + 4 = o4) (hn1 : n + 1 = n1) {u0 u1 u2 u3 u4 : Value}
  (ht : TreeAt wk (fun k => (b ≤ k ∧ k < wk.heap.size) ∧ v.ownBlock ≠ some k) t (.agg #[u0, u1, u2, u3, u4])) (hg : W2.heap[g]? = (put5o W g o0 o1 o2 o3 o4 u0 u1 u2 u3 u4).heap[g]?) (hk : ∀ k, b ≤ k → k < W.heap.size → k ≠ g → W2.heap[k]? = W.heap[k]?) (hs : W.heap.size ≤ W2.heap.size) :
  AccAt b W2 (ts ++ [t]) (.slice (some ⟨g, 0, none⟩) n1 c) := by
 subst e0 e1 e2 e3 e4 hn1
 obtain ⟨xs, h1, h2, h3⟩ := p.acc
 have hl : xs.length = n := by rw [← p.len, ← h1, trees_map, List.length_map]
 have hf := flat5 xs
 rw [hl] at hf
 obtain ⟨r1, r2⟩ := own_last u0 u1 u2 u3 u4 hf (p.own xs h1 h2)
 obtain ⟨x, rfl, hx, h4⟩ := ht
 have hsz := p.on.size
 have hlen : (ts ++ [x.tree]).length = n + 1 := by simp [p.len]
 have hgo : ∀ k, v.ownBlock = some k → k < wk.heap.size := fun k hk' => (own_lt h2 hk').2
 have keep : ∀ k, b ≤ k → k < wk.heap.size → v.ownBlock ≠ some k → W2.heap[k]? = wk.heap[k]? := fun k k1 k2 k3 => (hk k k1 (by omega) (fun e => by
  rcases p.lies with q | q
  ·exact k3 (e ▸ q)
  ·omega)).trans (p.on.block k k2 k3)
 have hset : ∀ k, ((b ≤ k ∧ k < wk.heap.size) ∧ v.ownBlock ≠ some k) → (b ≤ k ∧ k < W2.heap.size) ∧ (Value.slice (some ⟨g, 0, none⟩) (n + 1) c).ownBlock ≠ some k := fun k hk' => ⟨⟨hk'.1.1, by have := hk'.1.2; omega⟩, fun e => by
  have e : g = k := by simpa [Value.ownBlock] using e
  subst e
  rcases p.lies with q | q
  ·exact hk'.2 q
  ·have := hk'.1.2; omega⟩
 refine ⟨xs ++ [x], by rw [trees_map, ← h1, trees_map]; simp, ?_, fun y hy => ?_⟩
 ·have hr : W2.ownsRow b 24 5 (.slice (some ⟨g, 0, none⟩) (n + 1) c) (n + 1) ((xs.flatMap fun x => cellsT x.val) ++ [u0, u1, u2, u3, u4]) := by
   refine ⟨r1.1, r1.2.imp id fun ⟨g', cap, cur, q1, q2, q3, q4⟩ => ⟨g', cap, cur, q1, q2, ?_, q4⟩⟩
   simp only [Value.slice.injEq, Option.some.injEq, Addr.mk.injEq, and_true, true_and] at q1
   obtain ⟨rfl, rfl⟩ := q1
   exact hg.trans q3
  rw [hlen, List.flatMap_append]
  have : ([x].flatMap fun x => cellsT x.val) = [u0, u1, u2, u3, u4] := by
   rw [List.flatMap_cons, List.flatMap_nil, List.append_nil, hx]
   rfl
  rw [this]
  exact hr
 ·rcases List.mem_append.1 hy with hy | hy
  ·exact (h3 y hy).frame hset (fun k hk' => keep k hk'.1.1 hk'.1.2 hk'.2)
  ·rw [List.mem_singleton.1 hy]
   exact h4.frame hset (fun k hk' => keep k hk'.1.1 hk'.1.2 hk'.2)
theorem Wd.after {n g c n1 : Nat} {W F : World} {v0 v1 v2 v4 u0 u1 u2 u3 u4 : Value} (m : Wd R B A cp L w wk st) (hb : Bx wk B v0 v1 v2 v v4) (p : PZ w.heap.size wk ts v n g c W) (ht : TreeAt wk (fun k => (w.heap.size ≤ k ∧ k < wk.heap.size) ∧ v.ownBlock ≠ some k) t (.agg #[u0, u1, u2, u3, u4])) (o0 o1 o2 o3 o4 : Nat) (e0 : n * 5 = o0) (e1 : n * 5 + 1 = o1) (e2 : n * 5 + 2 = o2) (e3 : n * 5 + 3 = o3) (e4 : n * 5 + 4 = o4) (hn1 : n + 1 = n1)
  (hF : F = (put5o W g o0 o1 o2 o3 o4 u0 u1 u2 u3 u4).setCell ⟨B, 3, none⟩ (.slice (some ⟨g, 0, none⟩) n1 c) ∨ F = put5o (W.setCell ⟨B, 3, none⟩ (.slice (some ⟨g, 0, none⟩) n1 c)) g o0 o1 o2 o3 o4 u0 u1 u2 u3 u4) :
  Wd R B A cp L w F st ∧ Bx F B v0 v1 v2 (.slice (some ⟨g, 0, none⟩) n1 c) v4 ∧ AccAt w.heap.size F (ts ++ [t]) (.slice (some ⟨g, 0, none⟩) n1 c) := by
 have hl := m.lt
 have hw := m.lw
 have hlo := p.lo
 have m1 := m.push p.acc (Nat.le_refl _) p.on
 have b1 := hb.push p.acc (b := B) hw p.on
 have hp := put5o_only W g o0 o1 o2 o3 o4 u0 u1 u2 u3 u4
 have hgB : g ≠ B := by omega
 rcases hF with rfl | rfl
 ·have m2 : Wd R B A cp L w (put5o W g o0 o1 o2 o3 o4 u0 u1 u2 u3 u4) st := ⟨m1.rd.only hp (fun i hi => by omega), ⟨hp.os.trans m1.on.os, hp.tape.trans m1.on.tape, hp.output.trans m1.on.output, Nat.le_trans m1.on.size hp.size, fun i hi hr => (hp.block i (Nat.lt_of_lt_of_le hi m1.on.size) (by omega)).trans (m1.on.block i hi hr)⟩, hl, hw⟩
  have b2 : Bx (put5o W g o0 o1 o2 o3 o4 u0 u1 u2 u3 u4) B v0 v1 v2 v v4 := (hp.block B (heap_lt b1) (by omega)).trans b1
  refine ⟨m2.set 3 _, b2.put3 _, p.fin o0 o1 o2 o3 o4 n1 e0 e1 e2 e3 e4 hn1 ht ?_ ?_ (by simp)⟩
  ·exact Below.heap_setCell _ _ _ g hgB
  ·exact fun k k1 k2 k3 => (Below.heap_setCell _ _ _ k (by show k ≠ B; omega)).trans (hp.block k k2 (by omega))
 ·have m2 := m1.set 3 (.slice (some ⟨g, 0, none⟩) n1 c)
  have b2 := b1.put3 (.slice (some ⟨g, 0, none⟩) n1 c)
  have hp' := put5o_only (W.setCell ⟨B, 3, none⟩ (.slice (some ⟨g, 0, none⟩) n1 c)) g o0 o1 o2 o3 o4 u0 u1 u2 u3 u4
  refine ⟨⟨m2.rd.only hp' (fun i hi => by omega), ⟨hp'.os.trans m2.on.os, hp'.tape.trans m2.on.tape, hp'.output.trans m2.on.output, Nat.le_trans m2.on.size hp'.size, fun i hi hr => (hp'.block i (Nat.lt_of_lt_of_le hi m2.on.size) (by omega)).trans (m2.on.block i hi hr)⟩, hl, hw⟩, (hp'.block B (heap_lt b2) (by omega)).trans b2, p.fin o0 o1 o2 o3 o4 n1 e0 e1 e2 e3 e4 hn1 ht ?_ ?_ (by simp)⟩
  ·have hgg : (W.setCell ⟨B, 3, none⟩ (.slice (some ⟨g, 0, none⟩) n1 c)).heap[g]? = W.heap[g]? := Below.heap_setCell _ _ _ g hgB
   unfold put5o
   simp only [World.setCell, Array.getElem?_modify] at hgg ⊢
   simp [hgB, Ne.symm hgB]
  ·exact fun k k1 k2 k3 => (hp'.block k (by simpa using k2) (by omega)).trans (Below.heap_setCell _ _ _ k (by show k ≠ B; omega))
theorem Wd.told_after1 {n g c n1 : Nat} {W : World} {u0 u1 u2 u3 u4 : Value} {o i : Int} {s : Bs} {ls : List Tr} (m : Wd R B A cp L w wk st1) (hb : Bx wk B (.int .i64 o) (.string (bs s)) (.int .i64 0) v (.int .i64 i)) (p : PZ w.heap.size wk ts v n g c W) (ht : TreeAt wk (fun k => (w.heap.size ≤ k ∧ k < wk.heap.size) ∧ v.ownBlock ≠ some k) t (.agg #[u0, u1, u2, u3, u4])) (o0 o1 o2 o3 o4 : Nat) (e0 : n * 5 = o0) (e1 : n * 5 + 1 = o1) (e2 : n * 5 + 2 = o2) (e3 : n * 5 + 3 = o3) (e4 : n * 5 + 4 = o4) (hn1 : n + 1 = n1) (hls : ts ++ [t] = ls) (hf : Fine o s 0) :
  Told R B A cp L w [Tr.mk o s 0 i ls] st1 (.returned (.bool true)) ((((((W.setCell ⟨g, o0, none⟩ u0).setCell ⟨g, o1, none⟩ u1).setCell ⟨g, o2, none⟩ u2).setCell ⟨g, o3, none⟩ u3).setCell ⟨g, o4, none⟩ u4).setCell ⟨B, 3, none⟩ (.slice (some ⟨g, 0, none⟩) n1 c)) := by
 subst hls
 obtain ⟨m1, b1, r1⟩ := Wd.after m hb p ht o0 o1 o2 o3 o4 e0 e1 e2 e3 e4 hn1 (.inl rfl)
 exact m1.told_acc b1 r1 hf
theorem Wd.told_after2 {n g c n1 : Nat} {W : World} {u0 u1 u2 u3 u4 : Value} {o i : Int} {s : Bs} {ls : List Tr} (m : Wd R B A cp L w wk st1) (hb : Bx wk B (.int .i64 o) (.string (bs s)) (.int .i64 0) v (.int .i64 i)) (p : PZ w.heap.size wk ts v n g c W) (ht : TreeAt wk (fun k => (w.heap.size ≤ k ∧ k < wk.heap.size) ∧ v.ownBlock ≠ some k) t (.agg #[u0, u1, u2, u3, u4])) (o0 o1 o2 o3 o4 : Nat) (e0 : n * 5 = o0) (e1 : n * 5 + 1 = o1) (e2 : n * 5 + 2 = o2) (e3 : n * 5 + 3 = o3) (e4 : n * 5 + 4 = o4) (hn1 : n + 1 = n1) (hls : ts ++ [t] = ls) (hf : Fine o s 0) :
  Told R B A cp L w [Tr.mk o s 0 i ls] st1 (.returned (.bool true)) ((((((W.setCell ⟨B, 3, none⟩ (.slice (some ⟨g, 0, none⟩) n1 c)).setCell ⟨g, o0, none⟩ u0).setCell ⟨g, o1, none⟩ u1).setCell ⟨g, o2, none⟩ u2).setCell ⟨g, o3, none⟩ u3).setCell ⟨g, o4, none⟩ u4) := by
 subst hls
 obtain ⟨m1, b1, r1⟩ := Wd.after m hb p ht o0 o1 o2 o3 o4 e0 e1 e2 e3 e4 hn1 (.inr rfl)
 exact m1.told_acc b1 r1 hf
theorem Wd.told_1_1 {g c : Nat} {W : World} {u0 u1 u2 u3 u4 : Value} {o i : Int} {s : Bs} {t0 : Tr} (m : Wd R B A cp L w wk st1) (hb : Bx wk B (.int .i64 o) (.string (bs s)) (.int .i64 0) v (.int .i64 i)) (p : PZ w.heap.size wk [t0] v 1 g c W) (ht : TreeAt wk (fun k => (w.heap.size ≤ k ∧ k < wk.heap.size) ∧ v.ownBlock ≠ some k) t (.agg #[u0, u1, u2, u3, u4])) (hf : Fine o s 0) :
  Told R B A cp L w [Tr.mk o s 0 i [t0, t]] st1 (.returned (.bool true)) ((((((W.setCell ⟨g, 5, none⟩ u0).setCell ⟨g, 6, none⟩ u1).setCell ⟨g, 7, none⟩ u2).setCell ⟨g, 8, none⟩ u3).setCell ⟨g, 9, none⟩ u4).setCell ⟨B, 3, none⟩ (.slice (some ⟨g, 0, none⟩) 2 c)) := Wd.told_after1 m hb p ht 5 6 7 8 9 rfl rfl rfl rfl rfl rfl rfl hf
theorem Wd.told_1_2 {g c : Nat} {W : World} {u0 u1 u2 u3 u4 : Value} {o i : Int} {s : Bs} {t0 : Tr} (m : Wd R B A cp L w wk st1) (hb : Bx wk B (.int .i64 o) (.string (bs s)) (.int .i64 0) v (.int .i64 i)) (p : PZ w.heap.size wk [t0] v 1 g c W) (ht : TreeAt wk (fun k => (w.heap.size ≤ k ∧ k < wk.heap.size) ∧ v.ownBlock ≠ some k) t (.agg #[u0, u1, u2, u3, u4])) (hf : Fine o s 0) :
  Told R B A cp L w [Tr.mk o s 0 i [t0, t]] st1 (.returned (.bool true)) ((((((W.setCell ⟨B, 3, none⟩ (.slice (some ⟨g, 0, none⟩) 2 c)).setCell ⟨g, 5, none⟩ u0).setCell ⟨g, 6, none⟩ u1).setCell ⟨g, 7, none⟩ u2).setCell ⟨g, 8, none⟩ u3).setCell ⟨g, 9, none⟩ u4) := Wd.told_after2 m hb p ht 5 6 7 8 9 rfl rfl rfl rfl rfl rfl rfl hf
theorem Wd.told_2_1 {g c : Nat} {W : World} {u0 u1 u2 u3 u4 : Value} {o i : Int} {s : Bs} {t0 t1 : Tr} (m : Wd R B A cp L w wk st1) (hb : Bx wk B (.int .i64 o) (.string (bs s)) (.int .i64 0) v (.int .i64 i)) (p : PZ w.heap.size wk [t0, t1] v 2 g c W) (ht : TreeAt wk (fun k => (w.heap.size ≤ k ∧ k < wk.heap.size) ∧ v.ownBlock ≠ some k) t (.agg #[u0, u1, u2, u3, u4])) (hf : Fine o s 0) :
  Told R B A cp L w [Tr.mk o s 0 i [t0, t1, t]] st1 (.returned (.bool true)) ((((((W.setCell ⟨g, 10, none⟩ u0).setCell ⟨g, 11, none⟩ u1).setCell ⟨g, 12, none⟩ u2).setCell ⟨g, 13, none⟩ u3).setCell ⟨g, 14, none⟩ u4).setCell ⟨B, 3, none⟩ (.slice (some ⟨g, 0, none⟩) 3 c)) := Wd.told_after1 m hb p ht 10 11 12 13 14 rfl rfl rfl rfl rfl rfl rfl hf
theorem Wd.told_2_2 {g c : Nat} {W : World} {u0 u1 u2 u3 u4 : Value} {o i : Int} {s : Bs} {t0 t1 : Tr} (m : Wd R B A cp L w wk st1) (hb : Bx wk B (.int .i64 o) (.string (bs s)) (.int .i64 0) v (.int .i64 i)) (p : PZ w.heap.size wk [t0, t1] v 2 g c W) (ht : TreeAt wk (fun k => (w.heap.size ≤ k ∧ k < wk.heap.size) ∧ v.ownBlock ≠ some k) t (.agg #[u0, u1, u2, u3, u4])) (hf : Fine o s 0) :
  Told R B A cp L w [Tr.mk o s 0 i [t0, t1, t]] st1 (.returned (.bool true)) ((((((W.setCell ⟨B, 3, none⟩ (.slice (some ⟨g, 0, none⟩) 3 c)).setCell ⟨g, 10, none⟩ u0).setCell ⟨g, 11, none⟩ u1).setCell ⟨g, 12, none⟩ u2).setCell ⟨g, 13, none⟩ u3).setCell ⟨g, 14, none⟩ u4) := Wd.told_after2 m hb p ht 10 11 12 13 14 rfl rfl rfl rfl rfl rfl rfl hf
def AftW (R B : Nat) (A : Option Addr) (cp : Nat) (L : List Tok) (w F : World) (st : St) (v0 v1 v2 v4 : Value) (n : Nat) (ts : List Tr) : Prop :=
 ∃ g c, Wd R B A cp L w F st ∧ Bx F B v0 v1 v2 (.slice (some ⟨g, 0, none⟩) n c) v4 ∧ AccAt w.heap.size F ts (.slice (some ⟨g, 0, none⟩) n c)
theorem Wd.aft_1_1 {g c : Nat} {W : World} {v0 v1 v2 v4 u0 u1 u2 u3 u4 : Value} {t0 : Tr} (m : Wd R B A cp L w wk st1) (hb : Bx wk B v0 v1 v2 v v4) (p : PZ w.heap.size wk [t0] v 1 g c W) (ht : TreeAt wk (fun k => (w.heap.size ≤ k ∧ k < wk.heap.size) ∧ v.ownBlock ≠ some k) t (.agg #[u0, u1, u2, u3, u4])) :
  AftW R B A cp L w ((((((W.setCell ⟨g, 5, none⟩ u0).setCell ⟨g, 6, none⟩ u1).setCell ⟨g, 7, none⟩ u2).setCell ⟨g, 8, none⟩ u3).setCell ⟨g, 9, none⟩ u4).setCell ⟨B, 3, none⟩ (.slice (some ⟨g, 0, none⟩) 2 c)) st1 v0 v1 v2 v4 2 [t0, t] :=
 have h := Wd.after (F := (((((W.setCell ⟨g, 5, none⟩ u0).setCell ⟨g, 6, none⟩ u1).setCell ⟨g, 7, none⟩ u2).setCell ⟨g, 8, none⟩ u3).setCell ⟨g, 9, none⟩ u4).setCell ⟨B, 3, none⟩ (.slice (some ⟨g, 0, none⟩) 2 c)) m hb p ht 5 6 7 8 9 rfl rfl rfl rfl rfl rfl (.inl rfl)
 ⟨g, c, h.1, h.2.1, h.2.2⟩
theorem Wd.aft_1_2 {g c : Nat} {W : World} {v0 v1 v2 v4 u0 u1 u2 u3 u4 : Value} {t0 : Tr} (m : Wd R B A cp L w wk st1) (hb : Bx wk B v0 v1 v2 v v4) (p : PZ w.heap.size wk [t0] v 1 g c W) (ht : TreeAt wk (fun k => (w.heap.size ≤ k ∧ k < wk.heap.size) ∧ v.ownBlock ≠ some k) t (.agg #[u0, u1, u2, u3, u4])) :
  AftW R B A cp L w ((((((W.setCell ⟨B, 3, none⟩ (.slice (some ⟨g, 0, none⟩) 2 c)).setCell ⟨g, 5, none⟩ u0).setCell ⟨g, 6, none⟩ u1).setCell ⟨g, 7, none⟩ u2).setCell ⟨g, 8, none⟩ u3).setCell ⟨g, 9, none⟩ u4) st1 v0 v1 v2 v4 2 [t0, t] :=
 have h := Wd.after (F := (((((W.setCell ⟨B, 3, none⟩ (.slice (some ⟨g, 0, none⟩) 2 c)).setCell ⟨g, 5, none⟩ u0).setCell ⟨g, 6, none⟩ u1).setCell ⟨g, 7, none⟩ u2).setCell ⟨g, 8, none⟩ u3).setCell ⟨g, 9, none⟩ u4) m hb p ht 5 6 7 8 9 rfl rfl rfl rfl rfl rfl (.inr rfl)
 ⟨g, c, h.1, h.2.1, h.2.2⟩
end
end
section
open Go.RowKit Go.Proofs
section
variable {R cp : Nat} {A : Option Addr} {L : List Tok} {st : St} {F : Nat}
theorem worded_try (ih : All R A cp L F) (hps : st.pos < L.length) (line : Int) (l : List Tr) (st1 : St) (hr : wordedR L (run L F) line [116, 114, 121] st = some (l, st1)) (w : World) (B : Nat) (h : RdAt w R A cp L st) (hRB : R < B)
  (hB0 : w.heap[B]? = some (.cells #[.int .i64 0, .string ⟨#[]⟩, .int .i64 0, .slice none 0 0, .int .i64 line] 24 (0, 0))) :
  Calls Try.prog 73 #[ptr R, ptr B, .string (bs [116, 114, 121])] w (Told R B A cp L w l st1) := by
 have hBw := heap_lt hB0
 have M0 := Lib.hid (And.intro (Wd.start h hRB hBw) (show Bx w B _ _ _ _ _ from hB0))
 have H0 := h
 cases e1 : run L F .block st.next with
 | none => simp [wordedR, one, e1] at hr
 | some y =>
 obtain ⟨y, s2⟩ := y
 cases e2 : run L F .block (mustR L (nameR L (mustR L (mustR L s2 [99, 97, 116, 99, 104]) [40])).2 [41]) with
 | none => simp [wordedR, one, e1, e2] at hr
 | some z =>
 obtain ⟨z, s3⟩ := z
 obtain ⟨rfl, rfl⟩ : [Tr.mk 38 (nameR L (mustR L (mustR L s2 [99, 97, 116, 99, 104]) [40])).1 0 line [hd y, hd z]] = l ∧ s3 = st1 := by simpa [wordedR, one, e1, e2] using hr
 have H1 := Lib.hid (ih .block _ _ _ e1)
 have H2 := Lib.hid (ih .block _ _ _ e2)
 clear hr e1 e2
 have q_var : ((bs [116, 114, 121]).toList == [118, 97, 114]) = false := by rw [bs_eq]; decide
 have q_if : ((bs [116, 114, 121]).toList == [105, 102]) = false := by rw [bs_eq]; decide
 have q_while : ((bs [116, 114, 121]).toList == [119, 104, 105, 108, 101]) = false := by rw [bs_eq]; decide
 have q_for : ((bs [116, 114, 121]).toList == [102, 111, 114]) = false := by rw [bs_eq]; decide
 have q_try : ((bs [116, 114, 121]).toList == [116, 114, 121]) = true := by rw [bs_eq]; decide
 clear h hB0 H0
 go_enter Try.func73, Try.ntmps73
 obtain ⟨x0_1, x1_1, x2_1, x3_1, x4_1⟩ := M0.out.2.cells
 obtain ⟨q0_1, q1_1, q2_1, q3_1, q4_1⟩ := M0.out.2.thaw
 obtain ⟨c0, c1, c2, c3⟩ := M0.out.1.rd.cells
 have fR1 := M0.out.1.rd.thaw 1
 have hw := wrap_next hps M0.out.1.rd.len
 obtain ⟨w2, e2, h2, f2⟩ := M0.out.1.next_ hps
 have z2 := f2.size
 have M2 := Lib.hid (And.intro (M0.out.1.call h2 f2) (M0.out.2.fr f2 (by omega)))
 clear h2 f2
 obtain ⟨x0_2, x1_2, x2_2, x3_2, x4_2⟩ := M2.out.2.cells
 obtain ⟨q0_2, q1_2, q2_2, q3_2, q4_2⟩ := M2.out.2.thaw
 obtain ⟨w3, e3⟩ : ∃ W, w2.setCell ⟨B, 0, none⟩ (.int .i64 38) = W := ⟨_, rfl⟩
 have m3 := M2.out.1.set 0 (.int .i64 38)
 have i3_0 := M2.out.2.put0 (.int .i64 38)
 have z3 : w2.heap.size ≤ w3.heap.size := by rw [← e3]; simp
 rw [e3] at m3 i3_0
 have M3 := Lib.hid (And.intro m3 (i3_0))
 clear m3 i3_0
 obtain ⟨x0_3, x1_3, x2_3, x3_3, x4_3⟩ := M3.out.2.cells
 obtain ⟨q0_3, q1_3, q2_3, q3_3, q4_3⟩ := M3.out.2.thaw
 go_wp2_with fail
 go_at_call 72
 refine (H1.out w3 M3.out.1.rd).mono ?_
 rintro e w4 ⟨v4, rfl, h4, f4, t4⟩
 obtain ⟨A4, c4, rfl, -, -⟩ := t4.form
 have z4 := f4.size
 obtain ⟨w5, e5, m5, f5, b5, zq5⟩ := (M3.out.1.call h4 f4).arr #[.int .i64 (hd y).op, .string (bs (hd y).s), .int .i64 (hd y).n, .slice A4 (hd y).l.length c4, .int .i64 (hd y).line]
 have z5 : w4.heap.size < w5.heap.size := by omega
 clear zq5
 have a5 := AccAt.lit_new (b := w.heap.size) (cs := #[.int .i64 (hd y).op, .string (bs (hd y).s), .int .i64 (hd y).n, .slice A4 (hd y).l.length c4, .int .i64 (hd y).line]) t4 rfl (by omega) (by omega)
 rw [e5] at a5
 have M5 := Lib.hid (And.intro m5 (And.intro ((M3.out.2.fr f4 (by omega)).fr f5 (by omega)) (a5)))
 clear h4 f4 t4 m5 f5 b5 a5
 clear x0_1 x1_1 x2_1 x3_1 x4_1 q0_1 q1_1 q2_1 q3_1 q4_1 x0_2 x1_2 x2_2 x3_2 x4_2 q0_2 q1_2 q2_2 q3_2 q4_2 x0_3 x1_3 x2_3 x3_3 x4_3 q0_3 q1_3 q2_3 q3_3 q4_3
 clear c0 c1 c2 c3 fR1 hw
 obtain ⟨x0_4, x1_4, x2_4, x3_4, x4_4⟩ := M5.out.2.1.cells
 obtain ⟨q0_4, q1_4, q2_4, q3_4, q4_4⟩ := M5.out.2.1.thaw
 obtain ⟨w6, e6⟩ : ∃ W, w5.setCell ⟨B, 3, none⟩ (.slice (some ⟨w4.heap.size, 0, none⟩) 1 1) = W := ⟨_, rfl⟩
 have m6 := M5.out.1.set 3 (.slice (some ⟨w4.heap.size, 0, none⟩) 1 1)
 have i6_0 := M5.out.2.1.put3 (.slice (some ⟨w4.heap.size, 0, none⟩) 1 1)
 have i6_1 := M5.out.2.2.away (b := B) (by omega) 3 (.slice (some ⟨w4.heap.size, 0, none⟩) 1 1)
 have z6 : w5.heap.size ≤ w6.heap.size := by rw [← e6]; simp
 rw [e6] at m6 i6_0 i6_1
 have M6 := Lib.hid (And.intro m6 (And.intro i6_0 (i6_1)))
 clear m6 i6_0 i6_1
 obtain ⟨x0_5, x1_5, x2_5, x3_5, x4_5⟩ := M6.out.2.1.cells
 obtain ⟨q0_5, q1_5, q2_5, q3_5, q4_5⟩ := M6.out.2.1.thaw
 have HQ := Lib.hid (must_any [99, 97, 116, 99, 104] ⟨#[99, 97, 116, 99, 104]⟩ rfl w6 M6.out.1.rd)
 go_wp2_with fail
 go_at_call 89
 refine (HQ.out).mono ?_
 rintro e w7 ⟨rfl, h7, f7⟩
 have z7 := f7.size
 have M7 := Lib.hid (And.intro (M6.out.1.call h7 f7) (And.intro (M6.out.2.1.fr f7 (by omega)) (M6.out.2.2.fr f7 (by omega))))
 clear h7 f7
 clear x0_4 x1_4 x2_4 x3_4 x4_4 q0_4 q1_4 q2_4 q3_4 q4_4 x0_5 x1_5 x2_5 x3_5 x4_5 q0_5 q1_5 q2_5 q3_5 q4_5
 clear HQ
 have HQ := Lib.hid (must_any [40] ⟨#[40]⟩ rfl w7 M7.out.1.rd)
 go_wp2_with fail
 go_at_call 89
 refine (HQ.out).mono ?_
 rintro e w8 ⟨rfl, h8, f8⟩
 have z8 := f8.size
 have M8 := Lib.hid (And.intro (M7.out.1.call h8 f8) (And.intro (M7.out.2.1.fr f8 (by omega)) (M7.out.2.2.fr f8 (by omega))))
 clear h8 f8
 clear HQ
 obtain ⟨x0_6, x1_6, x2_6, x3_6, x4_6⟩ := M8.out.2.1.cells
 obtain ⟨q0_6, q1_6, q2_6, q3_6, q4_6⟩ := M8.out.2.1.thaw
 have HQ := Lib.hid (name_any w8 M8.out.1.rd)
 have hnl := name_len M8.out.1.rd
 go_wp2_with fail
 go_at_call 90
 refine (HQ.out).mono ?_
 rintro e w9 ⟨rfl, h9, f9⟩
 have z9 := f9.size
 have M9 := Lib.hid (And.intro (M8.out.1.call h9 f9) (And.intro (M8.out.2.1.fr f9 (by omega)) (M8.out.2.2.fr f9 (by omega))))
 clear h9 f9
 clear x0_6 x1_6 x2_6 x3_6 x4_6 q0_6 q1_6 q2_6 q3_6 q4_6
 clear HQ
 obtain ⟨x0_7, x1_7, x2_7, x3_7, x4_7⟩ := M9.out.2.1.cells
 obtain ⟨q0_7, q1_7, q2_7, q3_7, q4_7⟩ := M9.out.2.1.thaw
 obtain ⟨w10, e10⟩ : ∃ W, w9.setCell ⟨B, 1, none⟩ (.string (bs (nameR L (mustR L (mustR L s2 [99, 97, 116, 99, 104]) [40])).1)) = W := ⟨_, rfl⟩
 have m10 := M9.out.1.set 1 (.string (bs (nameR L (mustR L (mustR L s2 [99, 97, 116, 99, 104]) [40])).1))
 have i10_0 := M9.out.2.1.put1 (.string (bs (nameR L (mustR L (mustR L s2 [99, 97, 116, 99, 104]) [40])).1))
 have i10_1 := M9.out.2.2.away (b := B) (by omega) 1 (.string (bs (nameR L (mustR L (mustR L s2 [99, 97, 116, 99, 104]) [40])).1))
 have z10 : w9.heap.size ≤ w10.heap.size := by rw [← e10]; simp
 rw [e10] at m10 i10_0 i10_1
 have M10 := Lib.hid (And.intro m10 (And.intro i10_0 (i10_1)))
 clear m10 i10_0 i10_1
 obtain ⟨x0_8, x1_8, x2_8, x3_8, x4_8⟩ := M10.out.2.1.cells
 obtain ⟨q0_8, q1_8, q2_8, q3_8, q4_8⟩ := M10.out.2.1.thaw
 have HQ := Lib.hid (must_any [41] ⟨#[41]⟩ rfl w10 M10.out.1.rd)
 go_wp2_with fail
 go_at_call 89
 refine (HQ.out).mono ?_
 rintro e w11 ⟨rfl, h11, f11⟩
 have z11 := f11.size
 have M11 := Lib.hid (And.intro (M10.out.1.call h11 f11) (And.intro (M10.out.2.1.fr f11 (by omega)) (M10.out.2.2.fr f11 (by omega))))
 clear h11 f11
 clear x0_7 x1_7 x2_7 x3_7 x4_7 q0_7 q1_7 q2_7 q3_7 q4_7 x0_8 x1_8 x2_8 x3_8 x4_8 q0_8 q1_8 q2_8 q3_8 q4_8
 clear HQ
 obtain ⟨x0_9, x1_9, x2_9, x3_9, x4_9⟩ := M11.out.2.1.cells
 obtain ⟨q0_9, q1_9, q2_9, q3_9, q4_9⟩ := M11.out.2.1.thaw
 have hBk : B < w11.heap.size := by omega
 have zd : w11.heap.size ≤ w11.drew.heap.size := Nat.le_refl _
 have MD := Lib.hid (And.intro M11.out.1.drew (And.intro (M11.out.2.1.fr ((Only.refl (fun k => k = R) w11).drew) (by omega)) (M11.out.2.2.fr ((Only.refl (fun k => k = R) w11).drew) (by omega))))
 have zda : w11.drew.heap.size < (w11.drew.alloc (.cells #[.int .i64 0, .string ⟨#[]⟩, .int .i64 0, .slice none 0 0, .int .i64 0] 24)).heap.size := by simp
 have zde : (w11.drew.alloc (.cells #[.int .i64 0, .string ⟨#[]⟩, .int .i64 0, .slice none 0 0, .int .i64 0] 24)).heap.size = w11.drew.heap.size + 1 := by simp
 have MA := Lib.hid (And.intro (MD.out.1.call (MD.out.1.rd.alloc _) (Only.alloc (F := fun k => k = R) w11.drew (.cells #[.int .i64 0, .string ⟨#[]⟩, .int .i64 0, .slice none 0 0, .int .i64 0] 24))) (And.intro (MD.out.2.1.fr (Only.alloc (F := fun k => k = R) w11.drew (.cells #[.int .i64 0, .string ⟨#[]⟩, .int .i64 0, .slice none 0 0, .int .i64 0] 24)) (by omega)) (And.intro (MD.out.2.2.fr (Only.alloc (F := fun k => k = R) w11.drew (.cells #[.int .i64 0, .string ⟨#[]⟩, .int .i64 0, .slice none 0 0, .int .i64 0] 24)) (by omega)) (heap_alloc_new w11.drew (.cells #[.int .i64 0, .string ⟨#[]⟩, .int .i64 0, .slice none 0 0, .int .i64 0] 24)))))
 obtain ⟨x0_10, x1_10, x2_10, x3_10, x4_10⟩ := M11.out.2.1.cells
 obtain ⟨q0_10, q1_10, q2_10, q3_10, q4_10⟩ := M11.out.2.1.thaw
 have hfine := Lib.hid (show Fine 38 (nameR L (mustR L (mustR L s2 [99, 97, 116, 99, 104]) [40])).1 0 from (fine_s hnl (by omega)))
 go_wp2_with fail
 go_region_law (first
  | (refine step_app rfl _ _ 22 rfl _ _ rfl rfl _ HP.out ?_; rintro u w13 ⟨gA, cA, rfl, hpz⟩; have zj := hpz.on.size; obtain ⟨hgl, ⟨y0, y1, y2, y3, y4⟩, g0, g1, g2, g3, g4⟩ := hpz.cells 5 6 7 8 9 rfl rfl rfl rfl rfl; have hgB : B < gA := (by have := hpz.lo; omega); have hgB1 : gA ≠ B := (by omega); have hgB2 : B ≠ gA := (by omega); clear x0 x1 x2 x3 x4; obtain ⟨x0, x1, x2, x3, x4⟩ := (Bx.push MX.out.2.1 MX.out.2.2.1 hBw hpz.on).cells; obtain ⟨q0, q1, q2, q3, q4⟩ := (Bx.push MX.out.2.1 MX.out.2.2.1 hBw hpz.on).thaw; have hix : (1 : Int) < 2 := (by decide); have hBw13 : B < w13.heap.size := (by omega); have HZ := Lib.hid hpz; clear hpz HP)
  | (go_simp; go_at_call 72; refine (H2.out w11.drew MD.out.1.rd).mono ?_; rintro e w12 ⟨v12, rfl, h12, f12, t12⟩; obtain ⟨A12, c12, rfl, -, -⟩ := t12.form; have z12 := f12.size; have hBq : B < w12.heap.size := (by omega); have za12 : (w12.alloc (.cells #[.int .i64 0, .string ⟨#[]⟩, .int .i64 0, .slice none 0 0, .int .i64 0] 24)).heap.size = w12.heap.size + 1 := (by simp); have fx12 : Fr R w12 (w12.alloc (.cells #[.int .i64 0, .string ⟨#[]⟩, .int .i64 0, .slice none 0 0, .int .i64 0] 24)) := Only.alloc _ _; have MX := Lib.hid (And.intro ((MD.out.1.call h12 f12).call (h12.alloc _) fx12) (And.intro ((MD.out.2.1.fr f12 (by omega)).fr fx12 (by omega)) (And.intro ((MD.out.2.2.fr f12 (by omega)).fr fx12 (by omega)) (And.intro (heap_alloc_new w12 (.cells #[.int .i64 0, .string ⟨#[]⟩, .int .i64 0, .slice none 0 0, .int .i64 0] 24)) (TreeAt.keep (w' := (w12.alloc (.cells #[.int .i64 0, .string ⟨#[]⟩, .int .i64 0, .slice none 0 0, .int .i64 0] 24))) t12 (S' := fun k => (w.heap.size ≤ k ∧ k < (w12.alloc (.cells #[.int .i64 0, .string ⟨#[]⟩, .int .i64 0, .slice none 0 0, .int .i64 0] 24)).heap.size) ∧ (Value.slice (some ⟨w4.heap.size, 0, none⟩) 1 1).ownBlock ≠ some k) (fun k hk => ⟨⟨by have := hk.1; omega, by have := hk.2; omega⟩, fun e => by have := (own_blk MD.out.2.2 e).2; have := hk.1; omega⟩) (fun k hk => Below.heap_alloc _ _ k hk.2)))))); have HP := Lib.hid (AccAt.pushZ MX.out.2.2.1 w12.heap.size 1 2 rfl rfl MX.out.2.2.2.1 (by decide) (by omega) 22); clear x0_9 x1_9 x2_9 x3_9 x4_9 q0_9 q1_9 q2_9 q3_9 q4_9 x0_10 x1_10 x2_10 x3_10 x4_10 q0_10 q1_10 q2_10 q3_10 q4_10; obtain ⟨x0, x1, x2, x3, x4⟩ := (MD.out.2.1.fr f12 (by omega)).cells; clear h12 f12 t12 fx12)
  | (go_simp; go_at_call 72; refine (H2.out (w11.drew.alloc (.cells #[.int .i64 0, .string ⟨#[]⟩, .int .i64 0, .slice none 0 0, .int .i64 0] 24)) MA.out.1.rd).mono ?_; rintro e w12 ⟨v12, rfl, h12, f12, t12⟩; obtain ⟨A12, c12, rfl, -, -⟩ := t12.form; have z12 := f12.size; have hBq : B < w12.heap.size := (by omega); have MX := Lib.hid (And.intro (MA.out.1.call h12 f12) (And.intro (MA.out.2.1.fr f12 (by omega)) (And.intro (MA.out.2.2.1.fr f12 (by omega)) (And.intro (blk_fr MA.out.2.2.2 f12 (by omega)) (TreeAt.keep (w' := w12) t12 (S' := fun k => (w.heap.size ≤ k ∧ k < w12.heap.size) ∧ (Value.slice (some ⟨w4.heap.size, 0, none⟩) 1 1).ownBlock ≠ some k) (fun k hk => ⟨⟨by have := hk.1; omega, by have := hk.2; omega⟩, fun e => by have := (own_blk MA.out.2.2.1 e).2; have := hk.1; omega⟩) (fun k hk => rfl)))))); have HP := Lib.hid (AccAt.pushZ MX.out.2.2.1 w11.drew.heap.size 1 2 rfl rfl MX.out.2.2.2.1 (by decide) (by omega) 22); clear x0_9 x1_9 x2_9 x3_9 x4_9 q0_9 q1_9 q2_9 q3_9 q4_9 x0_10 x1_10 x2_10 x3_10 x4_10 q0_10 q1_10 q2_10 q3_10 q4_10; obtain ⟨x0, x1, x2, x3, x4⟩ := (MA.out.2.1.fr f12 (by omega)).cells; clear h12 f12 t12))
 all_goals
  go_wp2
  go_ret
  change Told R B A cp L w _ _ (.returned (.bool true)) _
  have hbx : Bx _ B (.int .i64 38) (.string (bs (nameR L (mustR L (mustR L s2 [99, 97, 116, 99, 104]) [40])).1)) (.int .i64 0) _ (.int .i64 line) := MX.out.2.1
  first
   | with_reducible exact Wd.told_1_1 MX.out.1 hbx HZ.out MX.out.2.2.2.2 hfine.out
   | with_reducible exact Wd.told_1_2 MX.out.1 hbx HZ.out MX.out.2.2.2.2 hfine.out
end
end
end Go.Proofs.Ytejbdoiamhfbjaa
