/- scope.trees: an iterator over a tree's parts. The resolver's state: functions, each with its names' row and its map. scope.name: the variable of a name. -/
import Derived.OwnWalkIn
import Derived.Carry
import Derived.Shelf.RegionOpen
import Derived.BigRegion
import Derived.Sort.CutIn
import Derived.LoopNIn
import Derived.Test.YtikbfoichhkeaaaGreatVm11
set_option linter.unusedSimpArgs false
set_option linter.unusedVariables false
set_option maxRecDepth 100000
set_option maxHeartbeats 40000000
namespace Go.Proofs.YtikbfoichhkeaaaGreat
section
open Go.RowKit Go.Proofs
theorem trees_in (n : Nat) (q : Option Addr) (w : World) : CallsIn Fence.wide n Tryz.prog 56 #[.pointer q] w fun e w' => e = .returned (.func (.func 100) #[] #[.pointer (some ⟨w.heap.size, 0, none⟩)]) ∧ w' = w.alloc (.cells #[.pointer q] 78) := by
 refine callsIn_of_wp Tryz.func56 rfl trivial ?_ rfl
 simp only [Tryz.ntmps56, List.size_toArray, List.length_cons, List.length_nil, Nat.reduceAdd, Nat.reduceSub, Array.replicate_succ, Array.replicate_zero, List.push_toArray, List.append_toArray, List.nil_append, List.cons_append]
 gi_wp2
 go_ret
 exact ⟨rfl, rfl⟩
def TreeK (x : Lo) (b o : Nat) (pre : List Ev6) (A : World) : Prop :=
 (Stat A x b o ∧ ∀ p ∈ adA x b o, ∃ n, A.cell? ⟨p.1, p.2 + 2, none⟩ = some (.int .i64 n)) ∧ ∀ e ∈ pre, isFun e.x.op = true → A.cell? ⟨e.b, e.o + 2, none⟩ = some (.int .i64 e.no)
abbrev encE (e : Ev6) : Array Value := #[.pointer (some ⟨e.b, e.o, none⟩), placeV e.fn e.loop]
theorem trees_seq (n Bp : Nat) (x : Lo) (b o : Nat) (mine : World → Nat → Prop) (w : World) (hBp : w.heap[Bp]? = some (.cells #[.pointer (some ⟨b, o, none⟩)] 78 (0, 0))) :
  SeqRowsK Fence.wide n Tryz.prog 100 #[.pointer (some ⟨Bp, 0, none⟩)] encE mine (TreeK x b o) (evA x b o (-1) false 0) w := by
 intro lf J Jx W hW hJ hM hMs hY hK h0
 have hbx := (hW.block Bp (heap_lt hBp)).trans hBp
 have HD := Lib.hid (preorder_any lf W.heap.size (evA x b o (-1) false 0) mine J Jx hJ hM hMs (fun pre x W1 h h' => yieldAt_any (hY pre x W1 h h')) (fun pre A h => (hK pre A h).2) x b o (-1) false 0 [] [] W (Nat.le_refl _) (fun pre A h => (hK pre A h).1) h0 (by simp))
 have x0 := cell_of_row W Bp 0 _ _ _ hbx
 simp at x0
 clear hW hJ hM hMs hY h0 hbx hBp hK
 refine callsIn_of_wp Tryz.func100 rfl trivial ?_ rfl
 simp only [Tryz.ntmps100, List.size_toArray, List.length_cons, List.length_nil, Nat.reduceAdd, Nat.reduceSub, Array.replicate_succ, Array.replicate_zero, List.push_toArray, List.append_toArray, List.nil_append, List.cons_append]
 gi_wp2_with fail
 refine ⟨trivial, fun h => absurd h (by simp [Fence.wide]), ?_⟩
 gi_at_call 101
 unfold placeV at HD
 refine (callsIn_wide.2 HD.out).mono ?_
 rintro e w2 (⟨rfl, hJ2, -⟩ | ⟨rfl, pre', hpre', hJx'⟩)
 ·have HE := Lib.hid hJ2
  clear hJ2
  gi_wp2
  go_end0
  exact ⟨⟨_, rfl⟩, .inl (by simpa using HE.out)⟩
 ·have HE := Lib.hid (And.intro hpre' hJx')
  clear hpre' hJx'
  gi_wp2
  go_end0
  exact ⟨⟨_, rfl⟩, .inr ⟨_, HE.out.1, HE.out.2⟩⟩
end
section
open Go.RowKit Go.Proofs
def fCells (q : Fn × Value × Nat) : List Value := [.int .i64 q.1.around, .string (bs q.1.name), .int .i64 q.1.params, q.2.1, .int .i64 q.1.mark, .map (some q.2.2)]
abbrev fRow (L : List (Fn × Value × Nat)) : List Value := L.flatMap fCells
theorem fRow_cons (a : Fn × Value × Nat) (r : List (Fn × Value × Nat)) : fRow (a :: r) = fCells a ++ fRow r := rfl
theorem fRow_app (a r : List (Fn × Value × Nat)) : fRow (a ++ r) = fRow a ++ fRow r := List.flatMap_append
theorem fRow_len : ∀ L : List (Fn × Value × Nat), (fRow L).length = L.length * 6
 | [] => rfl
 | a :: r => by
  rw [fRow_cons, List.length_append, fRow_len r, List.length_cons, Nat.add_mul]
  simp [fCells]
  omega
theorem fRow_get : ∀ (L : List (Fn × Value × Nat)) (i j : Nat), j < 6 → (fRow L)[i * 6 + j]? = (L[i]?).bind fun q => (fCells q)[j]?
 | [], i, j, _ => by simp
 | a :: r, 0, j, hj => by
  rw [fRow_cons, List.getElem?_append_left (by simp [fCells]; omega)]
  simp
 | a :: r, i + 1, j, hj => by
  rw [fRow_cons, List.getElem?_append_right (by simp [fCells]; omega), show (i + 1) * 6 + j - (fCells a).length = i * 6 + j by simp [fCells]; omega, fRow_get r i j hj]
  simp
structure FnAt (W : World) (B : Nat) (q : Fn × Value × Nat) : Prop where
 row : W.ownsRow B 9 1 q.2.1 q.1.vars.length (namesV q.1.vars)
 map : PlacesAt W q.2.2 q.1.vars
 ge : B ≤ q.2.2
 fine : q.1.vars.length ≤ 200 ∧ q.1.name.length ≤ maxLen
theorem FnAt.keep {W W' : World} {B : Nat} {q : Fn × Value × Nat} (h : FnAt W B q) (hk : ∀ k, q.2.1.ownBlock = some k ∨ q.2.2 = k → W'.heap[k]? = W.heap[k]?) : FnAt W' B q :=
 ⟨⟨h.row.1, h.row.2.imp id fun ⟨g, cap, cur, e1, e2, e3, e4⟩ => ⟨g, cap, cur, e1, e2, (hk g (.inl (by rw [e1]; rfl))).trans e3, e4⟩⟩, h.map.keep (hk _ (.inr rfl)), h.ge, h.fine⟩
structure RSt (W : World) (R B : Nat) (ws : WS) (L : List (Fn × Value × Nat)) (v : Value) : Prop where
 head : W.heap[R]? = some (.cells #[v, .int .i64 ws.mark] 74 (0, 0))
 funs : L.map (·.1) = ws.funs
 row : W.ownsRow B 126 6 v L.length (fRow L)
 each : ∀ q ∈ L, FnAt W B q
 lt : R < B
section
variable {W W' : World} {R B : Nat} {ws : WS} {L : List (Fn × Value × Nat)} {v : Value}
theorem RSt.len (h : RSt W R B ws L v) : L.length = ws.funs.length := by rw [← h.funs, List.length_map]
theorem RSt.get (h : RSt W R B ws L v) {i : Nat} {f : Fn} (hf : ws.funs[i]? = some f) : ∃ sv m, L[i]? = some (f, sv, m) := by
 rw [← h.funs, List.getElem?_map] at hf
 cases hq : L[i]? with
 | none => rw [hq] at hf; cases hf
 | some q =>
  rw [hq] at hf
  cases hf
  exact ⟨q.2.1, q.2.2, rfl⟩
theorem RSt.form (h : RSt W R B ws L v) : ∃ A c, v = .slice A L.length c ∧ L.length ≤ c ∧ c ≤ maxLen := by
 rcases h.row.2 with ⟨rfl, h0⟩ | ⟨g, cap, cur, rfl, h1, h2, h3, h4, h5⟩
 ·exact ⟨none, 0, by rw [h0], by omega, by unfold maxLen; omega⟩
 ·exact ⟨_, cap, rfl, h3, h4⟩
theorem RSt.keep (h : RSt W R B ws L v) (hR : W'.heap[R]? = W.heap[R]?) (hv : ∀ k, v.ownBlock = some k → W'.heap[k]? = W.heap[k]?) (hk : ∀ q ∈ L, ∀ k, q.2.1.ownBlock = some k ∨ q.2.2 = k → W'.heap[k]? = W.heap[k]?) : RSt W' R B ws L v :=
 ⟨hR.trans h.head, h.funs, ⟨h.row.1, h.row.2.imp id fun ⟨g, cap, cur, e1, e2, e3, e4⟩ => ⟨g, cap, cur, e1, e2, (hv g (by rw [e1]; rfl)).trans e3, e4⟩⟩, fun q hq => (h.each q hq).keep (hk q hq), h.lt⟩
theorem FnAt.lt {q : Fn × Value × Nat} (h : FnAt W B q) {k : Nat} (hk : q.2.1.ownBlock = some k ∨ q.2.2 = k) : B ≤ k ∧ k < W.heap.size := by
 rcases hk with hk | rfl
 ·exact h.row.lt k hk
 ·exact ⟨h.ge, h.map.lt⟩
theorem RSt.below (h : RSt W R B ws L v) (hb : Below W.heap.size W W') : RSt W' R B ws L v :=
 h.keep (hb.block R (heap_lt h.head)) (fun k hk => hb.block k (h.row.lt k hk).2) (fun q hq k hk => hb.block k ((h.each q hq).lt hk).2)
theorem RSt.apart (h : RSt W R B ws L v) {q : Fn × Value × Nat} (hq : q ∈ L) {k : Nat} (hk : q.2.1.ownBlock = some k ∨ q.2.2 = k) : v.ownBlock ≠ some k := fun hv => by
 obtain ⟨cs, hc⟩ := row_blk (row_zero h.row) hv
 rcases hk with hk | rfl
 ·obtain ⟨cs', hc'⟩ := row_blk (row_zero (h.each q hq).row) hk
  rw [hc] at hc'
  injection hc' with e
  injection e with e1 e2
  exact absurd e2 (by decide)
 ·obtain ⟨j, D, ⟨es, clock, hb, -⟩, -⟩ := (h.each q hq).map
  rw [hc] at hb
  cases hb
theorem RSt.cells (h : RSt W R B ws L v) {i : Nat} {q : Fn × Value × Nat} (hq : L[i]? = some q) : ∃ g c, v = .slice (some ⟨g, 0, none⟩) L.length c ∧ (∀ j, j < 6 → W.cell? ⟨g, i * 6 + j, none⟩ = (fCells q)[j]?) := by
 have hi := (List.getElem?_eq_some_iff.1 hq).1
 rcases h.row.2 with ⟨rfl, h0⟩ | ⟨g, cap, cur, rfl, h1, h2, h3, h4, h5⟩
 ·omega
 ·refine ⟨g, cap, rfl, fun j hj => ?_⟩
  have := World.ownsRow.cellAt (cap := cap) (g := g) ⟨h.row.1, .inr ⟨g, cap, cur, rfl, h1, h2, h3, h4, h5⟩⟩ (i * 6 + j) (by omega)
  rw [this, fRow_get L i j hj, hq]
  rfl
end
def Reach1 (W : World) (R k : Nat) : Prop := ∃ cs v, W.heap[R]? = some (.cells cs 74 (0, 0)) ∧ cs[0]? = some v ∧ v.ownBlock = some k
def Reach2 (W : World) (R k : Nat) : Prop := ∃ cs g n c cs' i u, W.heap[R]? = some (.cells cs 74 (0, 0)) ∧ cs[0]? = some (.slice (some ⟨g, 0, none⟩) n c) ∧ W.heap[g]? = some (.cells cs' 126 (0, 0)) ∧ i < n * 6 ∧ cs'[i]? = some u ∧ (u.ownBlock = some k ∨ u = .map (some k))
section
variable {W W' : World} {R B : Nat} {ws : WS} {L : List (Fn × Value × Nat)} {v : Value}
theorem RSt.reach1 (h : RSt W R B ws L v) (k : Nat) : Reach1 W R k ↔ v.ownBlock = some k := by
 constructor
 ·rintro ⟨cs, v', h1, h2, h3⟩
  rw [h.head] at h1
  cases h1
  cases h2
  exact h3
 ·exact fun hk => ⟨_, v, h.head, rfl, hk⟩
theorem RSt.reach2 (h : RSt W R B ws L v) (k : Nat) (hk : Reach2 W R k) : ∃ q ∈ L, q.2.1.ownBlock = some k ∨ q.2.2 = k := by
 obtain ⟨cs, g, n, c, cs', i, u, h1, h2, h3, h4, h5, h6⟩ := hk
 rw [h.head] at h1
 cases h1
 have h2' : v = .slice (some ⟨g, 0, none⟩) n c := by simpa using h2
 rcases h.row.2 with ⟨e, h0⟩ | ⟨g', cap, cur, e, k1, k2, k3, k4, k5⟩
 ·rw [e] at h2'
  cases h2'
 ·rw [e] at h2'
  cases h2'
  rw [k2] at h3
  cases h3
  have hu : u ∈ fRow L := by
   rw [← k5.2]
   have h7 := (Array.getElem?_eq_some_iff.1 h5).1
   refine List.mem_of_getElem? (i := i) ?_
   rw [List.getElem?_take, if_pos h4]
   simpa using h5
  obtain ⟨q, hq, hu⟩ := List.mem_flatMap.1 hu
  refine ⟨q, hq, ?_⟩
  simp only [fCells, List.mem_cons, List.not_mem_nil, or_false] at hu
  rcases hu with rfl | rfl | rfl | rfl | rfl | rfl
  ·rcases h6 with h6 | h6 <;> cases h6
  ·rcases h6 with h6 | h6 <;> cases h6
  ·rcases h6 with h6 | h6 <;> cases h6
  ·rcases h6 with h6 | h6
   ·exact .inl h6
   ·rcases (h.each q hq).row.2 with ⟨e, -⟩ | ⟨g9, c9, cur9, e, -⟩ <;> rw [e] at h6 <;> cases h6
  ·rcases h6 with h6 | h6 <;> cases h6
  ·rcases h6 with h6 | h6
   ·cases h6
   ·cases h6
    exact .inr rfl
theorem RSt.has2 (h : RSt W R B ws L v) {q : Fn × Value × Nat} (hq : q ∈ L) {k : Nat} (hk : q.2.1.ownBlock = some k ∨ q.2.2 = k) : Reach2 W R k := by
 obtain ⟨i, hi⟩ := List.mem_iff_getElem?.1 hq
 have hlt := (List.getElem?_eq_some_iff.1 hi).1
 rcases h.row.2 with ⟨e, h0⟩ | ⟨g, cap, cur, e, k1, k2, k3, k4, k5⟩
 ·omega
 ·have hget : ∀ j, j < 6 → cur[i * 6 + j]? = (fCells q)[j]? := fun j hj => by
   rw [← Array.getElem?_toList, ← (List.getElem?_take_of_lt (l := cur.toList) (i := i * 6 + j) (j := L.length * 6) (by omega)), k5.2, fRow_get L i j hj, hi]
   rfl
  rcases hk with hk | rfl
  ·exact ⟨_, g, L.length, cap, cur, i * 6 + 3, q.2.1, h.head, by rw [e]; rfl, k2, by omega, hget 3 (by omega), .inl hk⟩
  ·exact ⟨_, g, L.length, cap, cur, i * 6 + 5, .map (some q.2.2), h.head, by rw [e]; rfl, k2, by omega, hget 5 (by omega), .inr rfl⟩
end
end
section
open Go.RowKit Go.Proofs
def faultV (line e : Int) : Value := .agg #[.int .i64 line, .int .i64 e]
def WfF (funs : List Fn) : Prop := ∀ (i : Nat) (f : Fn), funs[i]? = some f → -1 ≤ f.around ∧ f.around < i
theorem findN_out (funs : List Fn) (k : Nat) (s : Bs) : findN funs k (-1) s = none := by
 cases k with
 | zero => rfl
 | succ k => rw [findN, if_pos (by omega)]
theorem findN_in {funs : List Fn} {k j : Nat} {s : Bs} {f : Fn} (h : funs[j]? = some f) : findN funs (k + 1) j s = match f.vars.idxOf? s with
  | some i => some (1000 * (j : Int) + i)
  | none => findN funs k f.around s := by
 rw [findN, if_neg (by omega), show ((j : Int)).toNat = j by omega, h]
 rfl
def SetN (W W' : World) (nb no : Nat) (n : Int) : Prop := Only (fun k => k = nb) W W' ∧ ∀ cs T, W.heap[nb]? = some (.cells cs T (0, 0)) → W'.heap[nb]? = some (.cells (cs.setIfInBounds (no + 2) (.int .i64 n)) T (0, 0))
def NameQ (W : World) (nb no : Nat) (line : Int) : Option Int → Ending → World → Prop
 | none, e, W' => e = .returned (faultV line 50) ∧ Below W.heap.size W W'
 | some v, e, W' => e = .returned (faultV 0 0) ∧ SetN W W' nb no v
theorem setN_fin {W wr : World} {nb no N : Nat} {n : Int} {x y a b : Value} (hb : Below W.heap.size W wr) (hN : W.heap.size ≤ N) (hnb : nb < W.heap.size) (h9 : wr.heap[N]? = some (.cells #[x, y] 76 (0, 0))) :
  (((wr.setCell ⟨nb, no + 2, none⟩ (.int .i64 n)).setCell ⟨N, 0, none⟩ a).setCell ⟨N, 1, none⟩ b).heap[N]? = some (.cells #[a, b] 76 (0, 0)) ∧ SetN W (((wr.setCell ⟨nb, no + 2, none⟩ (.int .i64 n)).setCell ⟨N, 0, none⟩ a).setCell ⟨N, 1, none⟩ b) nb no n := by
 have h1 : (wr.setCell ⟨nb, no + 2, none⟩ (.int .i64 n)).heap[N]? = some (.cells #[x, y] 76 (0, 0)) := (Below.heap_setCell wr _ _ N (by show N ≠ nb; omega)).trans h9
 have h2 := set2_only (wr.setCell ⟨nb, no + 2, none⟩ (.int .i64 n)) N a b
 refine ⟨blk_set (blk_set h1 0 a) 1 b, ?_, fun cs T hc => ?_⟩
 ·have h3 := (Only.of_below (F := fun k => k = nb) hb).trans' (Only.setCell (F := fun k => k = nb) wr rfl (no + 2) (.int .i64 n))
  exact h3.trans (h2.mono fun i hi e => .inr ⟨by rw [e]; exact hN, hi⟩)
 ·have h4 := blk_set ((hb.block nb hnb).trans hc) (no + 2) (.int .i64 n)
  exact (h2.block nb (heap_lt h4) (by omega)).trans h4
theorem idx_lt {l : List Bs} {s : Bs} {i : Nat} (h : l.idxOf? s = some i) : i < l.length ∧ True := by
 refine ⟨?_, trivial⟩
 unfold List.idxOf? at h
 exact (List.findIdx?_eq_some_iff_findIdx_eq.1 h).1
theorem results_fault (fn : Func) (s : Nat) (tmps : Array Value) {b : Nat} {W : World} {v0 v1 : Value} (hfn : fn.results = #[.cell s 76]) (hs : tmps.getD s undef = .pointer (some ⟨b, 0, none⟩)) (hc : W.heap[b]? = some (.cells #[v0, v1] 76 (0, 0))) :
  (results fn tmps).run Tryz.prog W = .ok (.agg #[v0, v1]) W := by
 have c0 := cell_of_row _ _ 0 _ _ _ hc
 have c1 := cell_of_row _ _ 1 _ _ _ hc
 simp only [List.getElem?_toArray, List.getElem?_cons_zero, List.getElem?_cons_succ] at c0 c1
 have hs' : tmps[s]?.getD undef = .pointer (some ⟨b, 0, none⟩) := by rw [← Array.getD_eq_getD_getElem?]; exact hs
 simp [results, hfn, hs', go_sem, c0, c1]
theorem fault_fin {w W : World} {u0 u1 v0 v1 : Value} {b : Nat} (hb : w.heap.size ≤ b) (hw : Below w.heap.size w W) (h : W.heap[b]? = some (.cells #[u0, u1] 76 (0, 0))) :
  ((W.setCell ⟨b, 0, none⟩ v0).setCell ⟨b, 1, none⟩ v1).heap[b]? = some (.cells #[v0, v1] 76 (0, 0)) ∧ Below w.heap.size w ((W.setCell ⟨b, 0, none⟩ v0).setCell ⟨b, 1, none⟩ v1) := by
 refine ⟨blk_set (blk_set h 0 v0) 1 v1, hw.trans ?_⟩
 have h1 := Only.setCell (F := fun k => k = b) W rfl 0 v0
 have h2 := Only.setCell (F := fun k => k = b) (W.setCell ⟨b, 0, none⟩ v0) rfl 1 v1
 exact (h1.trans' h2).to_below hw.size (fun i hi _ => by omega)
theorem scname_any (W : World) (R B nb no : Nat) (ws : WS) (L : List (Fn × Value × Nat)) (v : Value) (s : Bs) (line n0 fn : Int) (loop : Bool) (hR : RSt W R B ws L v) (hwf : WfF ws.funs) (hl5 : ws.funs.length ≤ 500)
  (hf : -1 ≤ fn ∧ fn < ws.funs.length) (hs : s.length ≤ maxLen) (c1 : W.cell? ⟨nb, no + 1, none⟩ = some (.string (bs s))) (c2 : W.cell? ⟨nb, no + 2, none⟩ = some (.int .i64 n0)) (c4 : W.cell? ⟨nb, no + 4, none⟩ = some (.int .i64 line)) (hnb : ∃ cs T, W.heap[nb]? = some (.cells cs T (0, 0))) :
  Calls Tryz.prog 103 #[.pointer (some ⟨R, 0, none⟩), .pointer (some ⟨nb, no, none⟩), placeV fn loop] W (NameQ W nb no line (findN ws.funs ws.funs.length fn s)) := by
 obtain ⟨A, c, rfl, hc1, hc2⟩ := hR.form
 have hbl := cell_lt c1
 obtain ⟨csn, Tn, hnb⟩ := hnb
 have f2 := frozen_of_row W nb (no + 2) _ _ hnb
 have HR := Lib.hid (And.intro hR (And.intro hwf (And.intro hl5 hf)))
 have HC := Lib.hid (And.intro c1 (And.intro c2 (And.intro c4 (And.intro f2 hs))))
 have hc3 : c ≤ 9223372036854775807 := hc2
 have hlen := hR.len
 clear hR hwf hc1 hc2 c1 c2 c4 f2 hs hf hnb
 unfold placeV
 go_enter Tryz.func103, Tryz.ntmps103
 go_upto_region 1 with fail
 have hb0 := (below_alloc9 W (.cells #[.int .i64 fn, .bool loop] 122)).alloc (by simp) (.cells #[.int .i64 0, .int .i64 0] 76)
 have bA := ((below_alloc9 (W.alloc (.cells #[.int .i64 fn, .bool loop] 122)) (.cells #[.int .i64 0, .int .i64 0] 76)).block W.heap.size (by simp)).trans (heap_alloc_new W _)
 have bB := heap_alloc_new (W.alloc (.cells #[.int .i64 fn, .bool loop] 122)) (.cells #[.int .i64 0, .int .i64 0] 76)
 simp only [World.size_alloc] at bB
 obtain ⟨W0, eW⟩ : ∃ W0, (W.alloc (.cells #[.int .i64 fn, .bool loop] 122)).alloc (.cells #[.int .i64 0, .int .i64 0] 76) = W0 := ⟨_, rfl⟩
 rw [eW] at bA bB hb0 ⊢
 obtain ⟨N, eN⟩ : ∃ N, W.heap.size = N := ⟨_, rfl⟩
 rw [eN] at bA bB ⊢
 have a0 := cell_of_row W0 _ 0 _ _ _ bA
 have a1 := cell_of_row W0 _ 1 _ _ _ bA
 simp at a0 a1
 have HB := Lib.hid (And.intro hb0 bB)
 clear hb0 bB bA eW
 go_wp2
 go_loopw [7] (fun i wr => ∃ (k : Nat) (a : Int), i = .int .i64 a ∧ -1 ≤ a ∧ a < k ∧ a < ws.funs.length ∧ findN ws.funs k a s = findN ws.funs ws.funs.length fn s ∧ Below W.heap.size W wr ∧ wr.heap[N + 1]? = some (.cells #[.int .i64 0, .int .i64 0] 76 (0, 0))) (fun i _ => (intOf i + 1).toNat)
 case atStart => exact ⟨ws.funs.length, fn, rfl, HR.out.2.2.2.1, HR.out.2.2.2.2, HR.out.2.2.2.2, rfl, HB.out.1, HB.out.2⟩
 case round =>
  obtain ⟨k, a, rfl, ha, hak, han, hfk, hb, hb9⟩ := hrel
  have y0 := cell_of_row wr _ 0 _ _ _ hb9
  have y1 := cell_of_row wr _ 1 _ _ _ hb9
  have fy0 := frozen_of_row wr _ 0 _ _ hb9
  have fy1 := frozen_of_row wr _ 1 _ _ hb9
  simp at y0 y1
  by_cases h1 : a = -1
  ·subst h1
   rw [findN_out] at hfk
   have d4 := ((bcell hb).1 nb (no + 4) hbl).trans HC.out.2.2.1
   have HF := Lib.hid (And.intro hfk (And.intro hb hb9))
   clear hfk hb hb9
   go_wp2
   refine bodyPost_ret (results_fault _ _ _ rfl rfl (fault_fin (v0 := .int .i64 line) (v1 := .int .i64 50) (by omega) HF.out.2.1 HF.out.2.2).1) rfl ?_
   rw [← HF.out.1]
   exact ⟨rfl, (fault_fin (v0 := .int .i64 line) (v1 := .int .i64 50) (by omega) HF.out.2.1 HF.out.2.2).2⟩
  ·obtain ⟨j, rfl⟩ : ∃ j : Nat, a = (j : Int) := ⟨a.toNat, by omega⟩
   have hj : j < ws.funs.length := by omega
   obtain ⟨f, hf⟩ : ∃ f, ws.funs[j]? = some f := ⟨_, List.getElem?_eq_getElem hj⟩
   obtain ⟨k, rfl⟩ : ∃ k', k = k' + 1 := ⟨k - 1, by omega⟩
   rw [findN_in hf] at hfk
   have hwf := HR.out.2.1 j f hf
   have hRr := HR.out.1.below hb
   obtain ⟨sv, m, hq⟩ := hRr.get hf
   obtain ⟨g, c', e, hcs⟩ := hRr.cells hq
   injection e with e1 e2 e3
   subst e1 e3
   have d0 := hcs 0 (by omega)
   have d5 := hcs 5 (by omega)
   have r0 := cell_of_row wr R 0 _ _ _ hRr.head
   simp [fCells] at d0 d5 r0
   have d1 := ((bcell hb).1 nb (no + 1) hbl).trans HC.out.1
   have d2 := ((bcell hb).1 nb (no + 2) hbl).trans HC.out.2.1
   have e2 := ((bcell hb).2 nb (no + 2) hbl).trans HC.out.2.2.2.1
   have hFn := hRr.each _ (List.mem_of_getElem? hq)
   obtain ⟨cc, hrun, hcc⟩ := (hFn.map.keep (W' := wr.drew) rfl).look s HC.out.2.2.2.2
   have g1 : (j : Int) < L.length := by omega
   have g2 : ((j : Int) != -1) = true := by simp <;> omega
   have HF := Lib.hid (And.intro hfk (And.intro hb (And.intro hwf (And.intro hcc (And.intro hFn.fine hb9)))))
   clear hfk hb hwf hcc hFn hRr hcs hq hf hb9
   cases hio : f.vars.idxOf? s with
   | some i =>
    have hin : s ∈ f.vars := by
     refine Classical.byContradiction fun hn => ?_
     rw [List.idxOf?_eq_none_iff.2 hn] at hio
     cases hio
    rw [decide_eq_true hin] at hrun
    go_wp2_with fail
    have hil := (idx_lt hio).1
    have hcc9 := HF.out.2.2.2.1 i hio
    subst hcc9
    have hin9 : (i : Int) ≤ 200 := by have := HF.out.2.2.2.2.1.1; omega
    have hj9 : (j : Int) ≤ 500 := by have := HR.out.2.2.1; omega
    rw [hio] at HF
    go_region
    go_wp2
    have hfin := setN_fin (no := no) (n := (j : Int) * 1000 + i) (a := .int .i64 0) (b := .int .i64 0) HF.out.2.1 (show W.heap.size ≤ N + 1 by omega) hbl HF.out.2.2.2.2.2
    refine bodyPost_ret (results_fault _ _ _ rfl rfl hfin.1) rfl ?_
    rw [← HF.out.1, Int.mul_comm 1000 (j : Int)]
    exact ⟨rfl, hfin.2.1.drew, hfin.2.2⟩
   | none =>
    have hin : s ∉ f.vars := List.idxOf?_eq_none_iff.1 hio
    rw [decide_eq_false hin] at hrun
    rw [hio] at HF
    go_wp2_with fail
    go_region
    go_wp2_with fail
    exact ⟨⟨k, f.around, rfl, HF.out.2.2.1.1, by have := HF.out.2.2.1.2; omega, by have := HF.out.2.2.1.2; omega, HF.out.1, HF.out.2.1.drew, HF.out.2.2.2.2.2⟩, by have := HF.out.2.2.1; simp only [intOf]; omega⟩
end
end Go.Proofs.YtikbfoichhkeaaaGreat
