/- The document's reader: what is known amid worded and jump. The document's reader: an empty tree behind a row, and a tree written over it. The document's reader: a number's digits. The document's reader: jump. -/
import Derived.Deep.RegionLaw
import Derived.Deep.RegionHeldLaw
import Derived.Deep.LoopGhost
import Derived.OwnWalk
import Derived.Deep.OwnRows
import Derived.Test.YtbpodijcndglgaaPn36
set_option linter.unusedSimpArgs false
set_option linter.unusedVariables false
set_option maxRecDepth 100000
set_option maxHeartbeats 40000000
namespace Go.Proofs.Ytbpodijcndglgaa
section
open Go.RowKit Go.Proofs
section
variable {R cp : Nat} {A : Option Addr} {L : List Tok} {st : St} {F : Nat}
structure Wd (R B : Nat) (A : Option Addr) (cp : Nat) (L : List Tok) (w wk : World) (st : St) : Prop where
 rd : RdAt wk R A cp L st
 on : Only (fun k => k = R ∨ k = B) w wk
 lt : R < B
 lw : B < w.heap.size
section
variable {B : Nat} {w wa wk w' : World} {st1 : St} {l : List Tr} {t : Tr} {v : Value}
theorem Wd.start (h : RdAt w R A cp L st) (hB : R < B) (hw : B < w.heap.size) : Wd R B A cp L w w st := ⟨h, Only.refl _ _, hB, hw⟩
theorem Wd.size (m : Wd R B A cp L w wk st) : w.heap.size ≤ wk.heap.size := m.on.size
theorem Wd.call (m : Wd R B A cp L w wk st) (h : RdAt w' R A cp L st1) (hf : Fr R wk w') : Wd R B A cp L w w' st1 :=
 ⟨h, m.on.trans' (hf.mono fun i _ hi => .inl hi), m.lt, m.lw⟩
theorem Wd.arr (m : Wd R B A cp L w wk st) (cs : Array Value) :
  ∃ W, wk.alloc (.cells cs 24) = W ∧ Wd R B A cp L w W st ∧ Fr R wk W ∧ W.heap[wk.heap.size]? = some (.cells cs 24 (0, 0)) ∧ W.heap.size = wk.heap.size + 1 :=
 ⟨_, rfl, m.call (m.rd.alloc _) (Only.alloc _ _), Only.alloc _ _, heap_alloc_new _ _, by simp⟩
theorem Wd.tok_ (m : Wd R B A cp L w wk st) (kd : Int) (ts : Bs) (tn : Int) (ln : Nat) (nl : Bool) :
  ∃ W, wk.alloc (.cells #[.int .i64 kd, .string (bs ts), .int .i64 tn, .int .i64 ln, .bool nl] 83) = W ∧ Wd R B A cp L w W st ∧ Fr R wk W ∧
   W.heap[wk.heap.size]? = some (.cells #[.int .i64 kd, .string (bs ts), .int .i64 tn, .int .i64 ln, .bool nl] 83 (0, 0)) ∧ W.heap.size = wk.heap.size + 1 :=
 ⟨_, rfl, m.call (m.rd.alloc _) (Only.alloc _ _), Only.alloc _ _, heap_alloc_new _ _, by simp⟩
theorem Wd.next_ (m : Wd R B A cp L w wk st) (hp : st.pos < L.length) :
  ∃ W, wk.setCell ⟨R, 1, none⟩ (.int .i64 ((st.pos : Int) + 1)) = W ∧ RdAt W R A cp L st.next ∧ Fr R wk W :=
 ⟨_, rfl, (m.rd.put_pos hp).1, (m.rd.put_pos hp).2⟩
theorem Wd.set (m : Wd R B A cp L w wk st) (i : Nat) (u : Value) : Wd R B A cp L w (wk.setCell ⟨B, i, none⟩ u) st := by
 have hs := Only.setCell (F := fun k => k = B) wk (b := B) rfl i u
 have := m.lt
 exact ⟨m.rd.only hs (fun i hi => by omega), m.on.trans' (hs.mono fun i _ hi => .inr hi), m.lt, m.lw⟩
theorem Wd.drew (m : Wd R B A cp L w wk st) : Wd R B A cp L w wk.drew st := m.call (m.rd.keep fun i _ => rfl) ((Only.refl _ _).drew)
theorem Wd.push {ts : List Tr} {b : Nat} (m : Wd R B A cp L w wk st) (h : AccAt b wk ts v) (hB : w.heap.size ≤ b) (hon : Only (fun k => v.ownBlock = some k) wk w') : Wd R B A cp L w w' st := by
 have hR := m.lt
 have hw := m.lw
 exact ⟨m.rd.only hon (fun i hi => by have := own_blk h hi; omega), ⟨hon.os.trans m.on.os, hon.tape.trans m.on.tape, hon.output.trans m.on.output, Nat.le_trans m.on.size hon.size, fun i hi hr => (hon.block i (Nat.lt_of_lt_of_le hi m.on.size) (fun e => by have := own_blk h e; omega)).trans (m.on.block i hi hr)⟩, m.lt, m.lw⟩
def Told (R B : Nat) (A : Option Addr) (cp : Nat) (L : List Tok) (w : World) (l : List Tr) (st1 : St) (e : Ending) (w' : World) : Prop :=
  e = .returned (.bool (!l.isEmpty)) ∧ RdAt w' R A cp L st1 ∧ Only (fun k => k = R ∨ k = B) w w' ∧ (l = [] → w'.heap[B]? = w.heap[B]?) ∧
        (l ≠ [] → ∃ v, w'.heap[B]? = some (.cells #[.int .i64 (hd l).op, .string (bs (hd l).s), .int .i64 (hd l).n, v, .int .i64 (hd l).line] 24 (0, 0)) ∧ RowAt w' (New w w') (hd l).l v ∧ Fine (hd l).op (hd l).s (hd l).n)
theorem RowAt.setlo {b : Nat} (h : RowAt wk (Af b wk) l v) (hB : B ≤ b) (i : Nat) (u : Value) : RowAt (wk.setCell ⟨B, i, none⟩ u) (Af b (wk.setCell ⟨B, i, none⟩ u)) l v :=
 h.keep (fun k hk => ⟨hk.1, by simp; exact hk.2⟩) (fun k hk => Below.heap_setCell wk _ _ k (by show k ≠ B; have := hk.1; omega))
theorem Wd.told_acc {o i : Int} {s : Bs} {ls : List Tr} {u : Value} (m : Wd R B A cp L w wk st1) (hb : Bx wk B (.int .i64 o) (.string (bs s)) (.int .i64 0) u (.int .i64 i)) (hr : AccAt w.heap.size wk ls u) (hf : Fine o s 0) : Told R B A cp L w [Tr.mk o s 0 i ls] st1 (.returned (.bool true)) wk :=
 ⟨rfl, m.rd, m.on, fun h => (by cases h), fun _ => ⟨u, hb, hr.row.keep (fun k hk => hk) (fun k hk => rfl), hf⟩⟩
theorem Wd.told_nil {o i : Int} {s : Bs} (m : Wd R B A cp L w wk st1) (hb : Bx wk B (.int .i64 o) (.string (bs s)) (.int .i64 0) (.slice none 0 0) (.int .i64 i)) (hf : Fine o s 0) : Told R B A cp L w [Tr.mk o s 0 i []] st1 (.returned (.bool true)) wk :=
 ⟨rfl, m.rd, m.on, fun h => (by cases h), fun _ => ⟨_, hb, RowAt.nil _ _, hf⟩⟩
theorem Wd.told {o i : Int} {s : Bs} {ls : List Tr} {u : Value} {b : Nat} (m : Wd R B A cp L w wk st1) (hb : Bx wk B (.int .i64 o) (.string (bs s)) (.int .i64 0) u (.int .i64 i)) (hr : RowAt wk (Af b wk) ls u) (hbw : w.heap.size ≤ b + 1) (hf : Fine o s 0) : Told R B A cp L w [Tr.mk o s 0 i ls] st1 (.returned (.bool true)) wk :=
 ⟨rfl, m.rd, m.on, fun h => (by cases h), fun _ => ⟨u, hb, hr.keep (fun k hk => ⟨by have := hk.1; omega, hk.2⟩) (fun k hk => rfl), hf⟩⟩
theorem AccAt.lit_new {b : Nat} {cs : Array Value} (h : TreeAt wk (New wa wk) t v) (hcs : cs.toList = cellsT v) (hb : b ≤ wa.heap.size) (hw : wa.heap.size ≤ wk.heap.size) : AccAt b (wk.alloc (.cells cs 24)) [t] (.slice (some ⟨wk.heap.size, 0, none⟩) 1 1) :=
 AccAt.lit1 (h.keep (fun k hk => ⟨⟨by have := hk.1; omega, by have := hk.2; simp; omega⟩, by have := hk.2; omega⟩) (fun k hk => Below.heap_alloc wk _ k hk.2)) (heap_alloc_new _ _) hcs (by omega)
theorem setCell_same {w : World} {g i : Nat} {T : TypeId} {cs : Array Value} {u : Value} (h : w.heap[g]? = some (.cells cs T (0, 0))) (hi : cs[i]? = some u) : w.setCell ⟨g, i, none⟩ u = w := by
 have hk : (w.setCell ⟨g, i, none⟩ u).heap = w.heap := by
  unfold World.setCell
  apply Array.ext_getElem?
  intro k
  rw [Array.getElem?_modify]
  split
  ·rename_i e
   subst e
   dsimp only
   rw [h]
   have : cs.setIfInBounds i u = cs := by
    apply Array.ext_getElem?
    intro j
    rw [Array.getElem?_setIfInBounds]
    split
    ·rename_i e
     subst e
     rw [hi]
     simp [(Array.getElem?_eq_some_iff.1 hi).1]
    ·rfl
   simp [this]
  ·rfl
 have : ∀ (a b : World), a.heap = b.heap → a.tape = b.tape → a.drawn = b.drawn → a.os = b.os → a.output = b.output → a = b := by
  rintro ⟨⟩ ⟨⟩ h1 h2 h3 h4 h5
  simp_all
 exact this _ _ hk rfl rfl rfl rfl
theorem Wd.no {l : List Tr} (m : Wd R B A cp L w wk st1) (hb : wk.heap[B]? = w.heap[B]?) (hl : l = []) : Told R B A cp L w l st1 (.returned (.bool false)) wk :=
 ⟨by rw [hl]; rfl, m.rd, m.on, fun _ => hb, fun h => absurd hl h⟩
end
end
end
section
open Go.RowKit Go.Proofs
section
variable {R cp : Nat} {A : Option Addr} {L : List Tok} {st st1 : St} {w wa wk w' : World} {t : Tr} {l ts : List Tr} {v : Value} {B b : Nat}
theorem set_tail {α : Type} (xs r : List α) (k : Nat) (u : α) : (xs ++ r).set (xs.length + k) u = xs ++ r.set k u := by
 rw [List.set_append_right _ _ (by omega), Nat.add_sub_cancel_left]
def zero5 : List Value := [.int .i64 0, .string ⟨#[]⟩, .int .i64 0, .slice none 0 0, .int .i64 0]
theorem own_cur {W : World} {base g n cap : Nat} {xs : List Value} (h : W.ownsRow base 24 5 (.slice (some ⟨g, 0, none⟩) (n + 1) cap) (n + 1) xs) : ∃ cur, base ≤ g ∧ W.heap[g]? = some (.cells cur 24 (0, 0)) ∧ n + 1 ≤ cap ∧ cap ≤ maxLen ∧ cur.size = cap * 5 ∧ cur.toList.take ((n + 1) * 5) = xs := by
 rcases h.2 with ⟨h', _⟩ | ⟨g', cap', cur, h', hb, hg, hnc, hcm, hcs, htake⟩
 ·simp at h'
 ·simp only [Value.slice.injEq, Option.some.injEq, Addr.mk.injEq, and_true, true_and] at h'
  obtain ⟨rfl, rfl⟩ := h'
  exact ⟨cur, hb, hg, hnc, hcm, hcs, htake⟩
theorem own_last {W : World} {base g n cap : Nat} {xs : List Value} (a b c d e : Value) (hx : xs.length = n * 5) (h : W.ownsRow base 24 5 (.slice (some ⟨g, 0, none⟩) (n + 1) cap) (n + 1) (xs ++ zero5)) :
  (((((W.setCell ⟨g, n * 5, none⟩ a).setCell ⟨g, n * 5 + 1, none⟩ b).setCell ⟨g, n * 5 + 2, none⟩ c).setCell ⟨g, n * 5 + 3, none⟩ d).setCell ⟨g, n * 5 + 4, none⟩ e).ownsRow base 24 5 (.slice (some ⟨g, 0, none⟩) (n + 1) cap) (n + 1) (xs ++ [a, b, c, d, e]) ∧ W.grownBy (((((W.setCell ⟨g, n * 5, none⟩ a).setCell ⟨g, n * 5 + 1, none⟩ b).setCell ⟨g, n * 5 + 2, none⟩ c).setCell ⟨g, n * 5 + 3, none⟩ d).setCell ⟨g, n * 5 + 4, none⟩ e) (some g) := by
 have h1 := h.stored (n * 5) a
 have h2 := h1.1.stored (n * 5 + 1) b
 have h3 := h2.1.stored (n * 5 + 2) c
 have h4 := h3.1.stored (n * 5 + 3) d
 have h5 := h4.1.stored (n * 5 + 4) e
 refine ⟨?_, (((h1.2.trans h2.2).trans h3.2).trans h4.2).trans h5.2⟩
 have e5 : (((((xs ++ zero5).set (n * 5) a).set (n * 5 + 1) b).set (n * 5 + 2) c).set (n * 5 + 3) d).set (n * 5 + 4) e = xs ++ [a, b, c, d, e] := by
  rw [show n * 5 + 1 = xs.length + 1 by omega, show n * 5 + 2 = xs.length + 2 by omega, show n * 5 + 3 = xs.length + 3 by omega, show n * 5 + 4 = xs.length + 4 by omega, show n * 5 = xs.length + 0 by omega,
   set_tail, set_tail, set_tail, set_tail, set_tail]
  rfl
 rw [← e5]
 exact h5.1
abbrev put5o (W : World) (g o0 o1 o2 o3 o4 : Nat) (v0 v1 v2 v3 v4 : Value) : World := ((((W.setCell ⟨g, o0, none⟩ v0).setCell ⟨g, o1, none⟩ v1).setCell ⟨g, o2, none⟩ v2).setCell ⟨g, o3, none⟩ v3).setCell ⟨g, o4, none⟩ v4
structure PZ (b : Nat) (wk : World) (ts : List Tr) (v : Value) (n : Nat) (g c : Nat) (W : World) : Prop where
 acc : AccAt b wk ts v
 len : ts.length = n
 lo : b ≤ g
 on : Only (fun k => v.ownBlock = some k) wk W
 lies : v.ownBlock = some g ∨ wk.heap.size ≤ g
 own : ∀ xs, trees xs = ts → wk.ownsRow b 24 5 v ts.length (xs.flatMap fun x => cellsT x.val) → W.ownsRow b 24 5 (.slice (some ⟨g, 0, none⟩) (n + 1) c) (n + 1) ((xs.flatMap fun x => cellsT x.val) ++ zero5)
theorem flat5 (xs : List Lo) : (xs.flatMap fun x => cellsT x.val).length = xs.length * 5 := by
 induction xs with
 | nil => rfl
 | cons y r ih => rw [List.flatMap_cons, List.length_append, ih, cellsT_val, List.length_cons]; simp; omega
theorem PZ.cells {n g c : Nat} {W : World} (p : PZ b wk ts v n g c W) (o0 o1 o2 o3 o4 : Nat) (e0 : n * 5 = o0) (e1 : n * 5 + 1 = o1) (e2 : n * 5 + 2 = o2) (e3 : n * 5 + 3 = o3) (e4 : n * 5 + 4 = o4) :
  g < W.heap.size ∧ (W.cell? ⟨g, o0, none⟩ = some (.int .i64 0) ∧ W.cell? ⟨g, o1, none⟩ = some (.string ⟨#[]⟩) ∧ W.cell? ⟨g, o2, none⟩ = some (.int .i64 0) ∧ W.cell? ⟨g, o3, none⟩ = some (.slice none 0 0) ∧ W.cell? ⟨g, o4, none⟩ = some (.int .i64 0)) ∧
  (W.frozen? ⟨g, o0, none⟩ = false ∧ W.frozen? ⟨g, o1, none⟩ = false ∧ W.frozen? ⟨g, o2, none⟩ = false ∧ W.frozen? ⟨g, o3, none⟩ = false ∧ W.frozen? ⟨g, o4, none⟩ = false) := by
 subst e0 e1 e2 e3 e4
 obtain ⟨xs, h1, h2, h3⟩ := p.acc
 obtain ⟨cur, k1, k2, k3, k4, k5, k6⟩ := own_cur (p.own xs h1 h2)
 have hl : xs.length = n := by rw [← p.len, ← h1, trees_map, List.length_map]
 have hf := flat5 xs
 rw [hl] at hf
 have key : ∀ j u, zero5[j]? = some u → W.cell? ⟨g, n * 5 + j, none⟩ = some u := fun j u hj => by
  have hj5 : j < 5 := by
   have := (List.getElem?_eq_some_iff.1 hj).1
   simpa [zero5] using this
  rw [cell_of_row _ _ _ _ _ _ k2, ← Array.getElem?_toList]
  have := congrArg (fun l => l[n * 5 + j]?) k6
  rw [List.getElem?_take_of_lt (by omega), List.getElem?_append_right (by omega), hf, Nat.add_sub_cancel_left, hj] at this
  exact this
 have fr : ∀ o, W.frozen? ⟨g, o, none⟩ = false := fun o => by simp [World.frozen?, k2]
 exact ⟨heap_lt k2, ⟨key 0 _ rfl, key 1 _ rfl, key 2 _ rfl, key 3 _ rfl, key 4 _ rfl⟩, fr _, fr _, fr _, fr _, fr _⟩
theorem PZ.fin {n g c : Nat} {W W2 : World} (p : PZ b wk ts v n g c W) (o0 o1 o2 o3 o4 n1 : Nat) (e0 : n * 5 = o0) (e1 : n * 5 + 1 = o1) (e2 : n * 5 + 2 = o2) (e3 : n * 5 + 3 = o3) (e4 : n * 5 + 4 = o4) (hn1 : n + 1 = n1) {u0 u1 u2 u3 u4 : Value}
  (ht : TreeAt wk (fun k => (b ≤ k ∧ k < wk.heap.size) ∧ v.ownBlock ≠ some k) t (.agg #[u0, u1, u2, u3, u4])) (hg : W2.heap[g]? = (put5o W g o0 o1 o2 o3 o4 u0 u1 u2 u3 u4).heap[g]?) (hk : ∀ k, b ≤ k → k < W.heap.size → k ≠ g → W2.heap[k]? = W.heap[k]?) (hs : W.heap.size ≤ W2.heap.size) :
  AccAt b W2 (ts ++ [t]) (.slice (some ⟨g, 0, none⟩) n1 c) := by
 subst e0 e1 e2 e3 e4 hn1
 obtain ⟨xs, h1, h2, h3⟩ := p.acc
 have hl : xs.length = n := by rw [← p.len, ← h1, trees_map, List.length_map]
 have hf := flat5 xs
 rw [hl] at hf
 obtain ⟨r1, r2⟩ := own_last u0 u1 u2 u3 u4 hf (p.own xs h1 h2)
 obtain ⟨x, rfl, hx, h4⟩ := ht
 have hsz := p.on.size
 have hlen : (ts ++ [x.tree]).length = n + 1 := by simp [p.len]
 have hgo : ∀ k, v.ownBlock = some k → k < wk.heap.size := fun k hk' => (own_lt h2 hk').2
 have keep : ∀ k, b ≤ k → k < wk.heap.size → v.ownBlock ≠ some k → W2.heap[k]? = wk.heap[k]? := fun k k1 k2 k3 => (hk k k1 (by omega) (fun e => by
  rcases p.lies with q | q
  ·exact k3 (e ▸ q)
  ·omega)).trans (p.on.block k k2 k3)
 have hset : ∀ k, ((b ≤ k ∧ k < wk.heap.size) ∧ v.ownBlock ≠ some k) → (b ≤ k ∧ k < W2.heap.size) ∧ (Value.slice (some ⟨g, 0, none⟩) (n + 1) c).ownBlock ≠ some k := fun k hk' => ⟨⟨hk'.1.1, by have := hk'.1.2; omega⟩, fun e => by
  have e : g = k := by simpa [Value.ownBlock] using e
  subst e
  rcases p.lies with q | q
  ·exact hk'.2 q
  ·have := hk'.1.2; omega⟩
 refine ⟨xs ++ [x], by rw [trees_map, ← h1, trees_map]; simp, ?_, fun y hy => ?_⟩
 ·have hr : W2.ownsRow b 24 5 (.slice (some ⟨g, 0, none⟩) (n + 1) c) (n + 1) ((xs.flatMap fun x => cellsT x.val) ++ [u0, u1, u2, u3, u4]) := by
   refine ⟨r1.1, r1.2.imp id fun ⟨g', cap, cur, q1, q2, q3, q4⟩ => ⟨g', cap, cur, q1, q2, ?_, q4⟩⟩
   simp only [Value.slice.injEq, Option.some.injEq, Addr.mk.injEq, and_true, true_and] at q1
   obtain ⟨rfl, rfl⟩ := q1
   exact hg.trans q3
  rw [hlen, List.flatMap_append]
  have : ([x].flatMap fun x => cellsT x.val) = [u0, u1, u2, u3, u4] := by
   rw [List.flatMap_cons, List.flatMap_nil, List.append_nil, hx]
   rfl
  rw [this]
  exact hr
 ·rcases List.mem_append.1 hy with hy | hy
  ·exact (h3 y hy).frame hset (fun k hk' => keep k hk'.1.1 hk'.1.2 hk'.2)
  ·rw [List.mem_singleton.1 hy]
   exact h4.frame hset (fun k hk' => keep k hk'.1.1 hk'.1.2 hk'.2)
end
end
section
open Go.RowKit Go.Proofs
end
section
open Go.RowKit Go.Proofs
section
variable {R cp : Nat} {A : Option Addr} {L : List Tok} {st : St} {F : Nat}
theorem jump_return (ih : All R A cp L F) (hps : st.pos < L.length) (line : Int) (l : List Tr) (st1 : St) (hr : wordedR L (run L F) line [114, 101, 116, 117, 114, 110] st = some (l, st1)) (w : World) (B : Nat) (h : RdAt w R A cp L st) (hRB : R < B)
  (hB0 : w.heap[B]? = some (.cells #[.int .i64 0, .string ⟨#[]⟩, .int .i64 0, .slice none 0 0, .int .i64 line] 24 (0, 0))) :
  Calls Try.prog 85 #[ptr R, ptr B, .string (bs [114, 101, 116, 117, 114, 110])] w (Told R B A cp L w l st1) := by
 have hBw := heap_lt hB0
 have M0 := Lib.hid (And.intro (Wd.start h hRB hBw) (show Bx w B _ _ _ _ _ from hB0))
 have H0 := h
 cases ht : tokR L st.next 0 with | mk kd ts tn ln nl =>
 by_cases hc : kd ≠ 0 ∧ nl = false ∧ ¬ (kd = 5 ∧ (ts = [59] ∨ ts = [125]))
 ·obtain ⟨k0, rfl, kx⟩ := hc
  have d0 : (kd != 0) = true := by simpa using k0
  by_cases k5 : kd = 5
  ·subst k5
   have s1 : ts ≠ [59] := fun h => kx ⟨rfl, .inl h⟩
   have s2 : ts ≠ [125] := fun h => kx ⟨rfl, .inr h⟩
   clear k0 kx
   have p1 : ((bs ts).toList == [59]) = false := by rw [bs_eq]; simpa using s1
   have p2 : ((bs ts).toList == [125]) = false := by rw [bs_eq]; simpa using s2
   cases e1 : run L F .expr st.next with
   | none => simp [wordedR, funW, one, ht, e1, s1, s2] at hr
   | some y =>
   obtain ⟨y, s3⟩ := y
   obtain ⟨rfl, rfl⟩ : [Tr.mk 36 [] 0 line [hd y]] = l ∧ endR L s3 = st1 := by simpa [wordedR, funW, one, ht, e1, s1, s2] using hr
   have H1 := Lib.hid (ih .expr _ _ _ e1)
   clear hr e1
   clear s1 s2
   have q_return : ((bs [114, 101, 116, 117, 114, 110]).toList == [114, 101, 116, 117, 114, 110]) = true := by rw [bs_eq]; decide
   clear h hB0 H0
   go_enter Try.func85, Try.ntmps85
   obtain ⟨x0, x1, x2, x3, x4⟩ := M0.out.2.cells
   obtain ⟨q0, q1, q2, q3, q4⟩ := M0.out.2.thaw
   obtain ⟨c0, c1, c2, c3⟩ := M0.out.1.rd.cells
   have fR1 := M0.out.1.rd.thaw 1
   have hw := wrap_next hps M0.out.1.rd.len
   obtain ⟨w2, e2, h2, f2⟩ := M0.out.1.next_ hps
   have z2 := f2.size
   have M2 := Lib.hid (And.intro (M0.out.1.call h2 f2) (M0.out.2.fr f2 (by omega)))
   clear h2 f2
   obtain ⟨x0, x1, x2, x3, x4⟩ := M2.out.2.cells
   obtain ⟨q0, q1, q2, q3, q4⟩ := M2.out.2.thaw
   obtain ⟨w3, e3⟩ : ∃ W, w2.setCell ⟨B, 0, none⟩ (.int .i64 36) = W := ⟨_, rfl⟩
   have m3 := M2.out.1.set 0 (.int .i64 36)
   have i3_0 := M2.out.2.put0 (.int .i64 36)
   have z3 : w2.heap.size ≤ w3.heap.size := by rw [← e3]; simp
   rw [e3] at m3 i3_0
   have M3 := Lib.hid (And.intro m3 (i3_0))
   clear m3 i3_0
   obtain ⟨x0, x1, x2, x3, x4⟩ := M3.out.2.cells
   obtain ⟨q0, q1, q2, q3, q4⟩ := M3.out.2.thaw
   have HQ0 := tok_any 0 w3 M3.out.1.rd (by omega)
   rw [ht] at HQ0
   unfold tokV at HQ0
   have HQ := Lib.hid HQ0
   clear HQ0
   go_wp2_with fail
   go_at_call 46
   refine (HQ.out).mono ?_
   rintro e w4 ⟨rfl, hb⟩
   have f4 := Fr.of_below (R := R) hb (Nat.le_refl _)
   have h4 := M3.out.1.rd.below hb M3.out.1.rd.lt
   have z4 := f4.size
   clear hb
   have M4 := Lib.hid (And.intro (M3.out.1.call h4 f4) (M3.out.2.fr f4 (by omega)))
   clear h4 f4
   clear HQ
   obtain ⟨w5, e5, m5, f5, b5, zq5⟩ := M4.out.1.tok_ (5) ts tn ln false
   have z5 : w4.heap.size < w5.heap.size := by omega
   clear zq5
   have M5 := Lib.hid (And.intro m5 (And.intro (M4.out.2.fr f5 (by omega)) (b5)))
   have hl5 := heap_lt b5
   clear m5 f5 b5
   obtain ⟨x0, x1, x2, x3, x4⟩ := M5.out.2.1.cells
   obtain ⟨q0, q1, q2, q3, q4⟩ := M5.out.2.1.thaw
   obtain ⟨t0, t1, t2, t3, t4⟩ := (box_facts M5.out.2.2).1
   have hsame := setCell_same (i := 4) (u := .bool false) M5.out.2.2 rfl
   obtain ⟨tq0, tq1, tq2, tq3, tq4⟩ := (box_facts M5.out.2.2).2
   go_wp2_with fail
   go_at_call 65
   refine (H1.out w5 M5.out.1.rd).mono ?_
   rintro e w6 ⟨v6, rfl, h6, f6, t6⟩
   obtain ⟨A6, c6, rfl, -, -⟩ := t6.form
   have z6 := f6.size
   obtain ⟨w7, e7, m7, f7, b7, zq7⟩ := (M5.out.1.call h6 f6).arr #[.int .i64 (hd y).op, .string (bs (hd y).s), .int .i64 (hd y).n, .slice A6 (hd y).l.length c6, .int .i64 (hd y).line]
   have z7 : w6.heap.size < w7.heap.size := by omega
   clear zq7
   have a7 := AccAt.lit_new (b := w.heap.size) (cs := #[.int .i64 (hd y).op, .string (bs (hd y).s), .int .i64 (hd y).n, .slice A6 (hd y).l.length c6, .int .i64 (hd y).line]) t6 rfl (by omega) (by omega)
   rw [e7] at a7
   have M7 := Lib.hid (And.intro m7 (And.intro ((M5.out.2.1.fr f6 (by omega)).fr f7 (by omega)) (And.intro (blk_fr (blk_fr M5.out.2.2 f6 (by omega)) f7 (by omega)) (a7))))
   clear h6 f6 t6 m7 f7 b7 a7
   obtain ⟨x0, x1, x2, x3, x4⟩ := M7.out.2.1.cells
   obtain ⟨q0, q1, q2, q3, q4⟩ := M7.out.2.1.thaw
   obtain ⟨w8, e8⟩ : ∃ W, w7.setCell ⟨B, 3, none⟩ (.slice (some ⟨w6.heap.size, 0, none⟩) 1 1) = W := ⟨_, rfl⟩
   have m8 := M7.out.1.set 3 (.slice (some ⟨w6.heap.size, 0, none⟩) 1 1)
   have i8_0 := M7.out.2.1.put3 (.slice (some ⟨w6.heap.size, 0, none⟩) 1 1)
   have i8_1 := blk_away (B' := B) M7.out.2.2.1 (by omega) 3 (.slice (some ⟨w6.heap.size, 0, none⟩) 1 1)
   have i8_2 := M7.out.2.2.2.away (b := B) (by omega) 3 (.slice (some ⟨w6.heap.size, 0, none⟩) 1 1)
   have z8 : w7.heap.size ≤ w8.heap.size := by rw [← e8]; simp
   rw [e8] at m8 i8_0 i8_1 i8_2
   have M8 := Lib.hid (And.intro m8 (And.intro i8_0 (And.intro i8_1 (i8_2))))
   clear m8 i8_0 i8_1 i8_2
   obtain ⟨x0, x1, x2, x3, x4⟩ := M8.out.2.1.cells
   obtain ⟨q0, q1, q2, q3, q4⟩ := M8.out.2.1.thaw
   have HQ := Lib.hid (end_any w8 M8.out.1.rd)
   go_wp2_with fail
   go_at_call 66
   refine (HQ.out).mono ?_
   rintro e w9 ⟨rfl, h9, f9⟩
   have z9 := f9.size
   have M9 := Lib.hid (And.intro (M8.out.1.call h9 f9) (And.intro (M8.out.2.1.fr f9 (by omega)) (And.intro (blk_fr M8.out.2.2.1 f9 (by omega)) (M8.out.2.2.2.fr f9 (by omega)))))
   clear h9 f9
   clear HQ
   obtain ⟨x0, x1, x2, x3, x4⟩ := M9.out.2.1.cells
   obtain ⟨q0, q1, q2, q3, q4⟩ := M9.out.2.1.thaw
   go_wp2
   go_ret
   exact M9.out.1.told_acc M9.out.2.1 M9.out.2.2.2 ⟨by simp, by omega, by omega⟩
  ·clear kx
   have d5 : (kd == 5) = false := by simpa using k5
   cases e1 : run L F .expr st.next with
   | none => simp [wordedR, funW, one, ht, e1, k0, k5] at hr
   | some y =>
   obtain ⟨y, s3⟩ := y
   obtain ⟨rfl, rfl⟩ : [Tr.mk 36 [] 0 line [hd y]] = l ∧ endR L s3 = st1 := by simpa [wordedR, funW, one, ht, e1, k0, k5] using hr
   have H1 := Lib.hid (ih .expr _ _ _ e1)
   clear hr e1
   clear k0 k5
   have q_return : ((bs [114, 101, 116, 117, 114, 110]).toList == [114, 101, 116, 117, 114, 110]) = true := by rw [bs_eq]; decide
   clear h hB0 H0
   go_enter Try.func85, Try.ntmps85
   obtain ⟨x0, x1, x2, x3, x4⟩ := M0.out.2.cells
   obtain ⟨q0, q1, q2, q3, q4⟩ := M0.out.2.thaw
   obtain ⟨c0, c1, c2, c3⟩ := M0.out.1.rd.cells
   have fR1 := M0.out.1.rd.thaw 1
   have hw := wrap_next hps M0.out.1.rd.len
   obtain ⟨w2, e2, h2, f2⟩ := M0.out.1.next_ hps
   have z2 := f2.size
   have M2 := Lib.hid (And.intro (M0.out.1.call h2 f2) (M0.out.2.fr f2 (by omega)))
   clear h2 f2
   obtain ⟨x0, x1, x2, x3, x4⟩ := M2.out.2.cells
   obtain ⟨q0, q1, q2, q3, q4⟩ := M2.out.2.thaw
   obtain ⟨w3, e3⟩ : ∃ W, w2.setCell ⟨B, 0, none⟩ (.int .i64 36) = W := ⟨_, rfl⟩
   have m3 := M2.out.1.set 0 (.int .i64 36)
   have i3_0 := M2.out.2.put0 (.int .i64 36)
   have z3 : w2.heap.size ≤ w3.heap.size := by rw [← e3]; simp
   rw [e3] at m3 i3_0
   have M3 := Lib.hid (And.intro m3 (i3_0))
   clear m3 i3_0
   obtain ⟨x0, x1, x2, x3, x4⟩ := M3.out.2.cells
   obtain ⟨q0, q1, q2, q3, q4⟩ := M3.out.2.thaw
   have HQ0 := tok_any 0 w3 M3.out.1.rd (by omega)
   rw [ht] at HQ0
   unfold tokV at HQ0
   have HQ := Lib.hid HQ0
   clear HQ0
   go_wp2_with fail
   go_at_call 46
   refine (HQ.out).mono ?_
   rintro e w4 ⟨rfl, hb⟩
   have f4 := Fr.of_below (R := R) hb (Nat.le_refl _)
   have h4 := M3.out.1.rd.below hb M3.out.1.rd.lt
   have z4 := f4.size
   clear hb
   have M4 := Lib.hid (And.intro (M3.out.1.call h4 f4) (M3.out.2.fr f4 (by omega)))
   clear h4 f4
   clear HQ
   obtain ⟨w5, e5, m5, f5, b5, zq5⟩ := M4.out.1.tok_ kd ts tn ln false
   have z5 : w4.heap.size < w5.heap.size := by omega
   clear zq5
   have M5 := Lib.hid (And.intro m5 (And.intro (M4.out.2.fr f5 (by omega)) (b5)))
   have hl5 := heap_lt b5
   clear m5 f5 b5
   obtain ⟨x0, x1, x2, x3, x4⟩ := M5.out.2.1.cells
   obtain ⟨q0, q1, q2, q3, q4⟩ := M5.out.2.1.thaw
   obtain ⟨t0, t1, t2, t3, t4⟩ := (box_facts M5.out.2.2).1
   have hsame := setCell_same (i := 4) (u := .bool false) M5.out.2.2 rfl
   obtain ⟨tq0, tq1, tq2, tq3, tq4⟩ := (box_facts M5.out.2.2).2
   go_wp2_with fail
   go_at_call 65
   refine (H1.out w5 M5.out.1.rd).mono ?_
   rintro e w6 ⟨v6, rfl, h6, f6, t6⟩
   obtain ⟨A6, c6, rfl, -, -⟩ := t6.form
   have z6 := f6.size
   obtain ⟨w7, e7, m7, f7, b7, zq7⟩ := (M5.out.1.call h6 f6).arr #[.int .i64 (hd y).op, .string (bs (hd y).s), .int .i64 (hd y).n, .slice A6 (hd y).l.length c6, .int .i64 (hd y).line]
   have z7 : w6.heap.size < w7.heap.size := by omega
   clear zq7
   have a7 := AccAt.lit_new (b := w.heap.size) (cs := #[.int .i64 (hd y).op, .string (bs (hd y).s), .int .i64 (hd y).n, .slice A6 (hd y).l.length c6, .int .i64 (hd y).line]) t6 rfl (by omega) (by omega)
   rw [e7] at a7
   have M7 := Lib.hid (And.intro m7 (And.intro ((M5.out.2.1.fr f6 (by omega)).fr f7 (by omega)) (And.intro (blk_fr (blk_fr M5.out.2.2 f6 (by omega)) f7 (by omega)) (a7))))
   clear h6 f6 t6 m7 f7 b7 a7
   obtain ⟨x0, x1, x2, x3, x4⟩ := M7.out.2.1.cells
   obtain ⟨q0, q1, q2, q3, q4⟩ := M7.out.2.1.thaw
   obtain ⟨w8, e8⟩ : ∃ W, w7.setCell ⟨B, 3, none⟩ (.slice (some ⟨w6.heap.size, 0, none⟩) 1 1) = W := ⟨_, rfl⟩
   have m8 := M7.out.1.set 3 (.slice (some ⟨w6.heap.size, 0, none⟩) 1 1)
   have i8_0 := M7.out.2.1.put3 (.slice (some ⟨w6.heap.size, 0, none⟩) 1 1)
   have i8_1 := blk_away (B' := B) M7.out.2.2.1 (by omega) 3 (.slice (some ⟨w6.heap.size, 0, none⟩) 1 1)
   have i8_2 := M7.out.2.2.2.away (b := B) (by omega) 3 (.slice (some ⟨w6.heap.size, 0, none⟩) 1 1)
   have z8 : w7.heap.size ≤ w8.heap.size := by rw [← e8]; simp
   rw [e8] at m8 i8_0 i8_1 i8_2
   have M8 := Lib.hid (And.intro m8 (And.intro i8_0 (And.intro i8_1 (i8_2))))
   clear m8 i8_0 i8_1 i8_2
   obtain ⟨x0, x1, x2, x3, x4⟩ := M8.out.2.1.cells
   obtain ⟨q0, q1, q2, q3, q4⟩ := M8.out.2.1.thaw
   have HQ := Lib.hid (end_any w8 M8.out.1.rd)
   go_wp2_with fail
   go_at_call 66
   refine (HQ.out).mono ?_
   rintro e w9 ⟨rfl, h9, f9⟩
   have z9 := f9.size
   have M9 := Lib.hid (And.intro (M8.out.1.call h9 f9) (And.intro (M8.out.2.1.fr f9 (by omega)) (And.intro (blk_fr M8.out.2.2.1 f9 (by omega)) (M8.out.2.2.2.fr f9 (by omega)))))
   clear h9 f9
   clear HQ
   obtain ⟨x0, x1, x2, x3, x4⟩ := M9.out.2.1.cells
   obtain ⟨q0, q1, q2, q3, q4⟩ := M9.out.2.1.thaw
   go_wp2
   go_ret
   exact M9.out.1.told_acc M9.out.2.1 M9.out.2.2.2 ⟨by simp, by omega, by omega⟩
 ·exfalso
  simp [wordedR, funW, one, ht] at hr
  exact hc ⟨hr.1.1, hr.1.2.1, fun ⟨h, h'⟩ => h'.elim (hr.1.2.2 h).1 (hr.1.2.2 h).2⟩
end
end
end Go.Proofs.Ytbpodijcndglgaa
