/- The document's reader: a row behind a row; boxes written as a whole. The document's reader: what is known amid worded and jump. The document's reader: an empty tree behind a row, and a tree written over it. The document's reader: a number's digits. The document's reader: worded. The document's reader: signs, num, closed. -/
import Derived.Deep.RegionLaw
import Derived.Deep.RegionHeldLaw
import Derived.Deep.LoopGhost
import Derived.OwnWalk
import Derived.Deep.OwnRows
import Derived.Deep.DeepCutAuto
import Derived.Test.YtikbfoichhkeaaaGreatVm42
set_option linter.unusedSimpArgs false
set_option linter.unusedVariables false
set_option maxRecDepth 100000
set_option maxHeartbeats 40000000
namespace Go.Proofs.YtikbfoichhkeaaaGreat
section
open Go.RowKit Go.Proofs
section
variable {R cp : Nat} {A : Option Addr} {L : List Tok} {st st1 : St} {w wa wk w' : World} {t : Tr} {l : List Tr} {v : Value} {B : Nat}
theorem AccAt.lit1 {g : Nat} {cs : Array Value} (h : TreeAt wk (fun k => (B ≤ k ∧ k < wk.heap.size) ∧ k ≠ g) t v) (hg : wk.heap[g]? = some (.cells cs 24 (0, 0))) (hcs : cs.toList = cellsT v) (hB : B ≤ g) : AccAt B wk [t] (.slice (some ⟨g, 0, none⟩) 1 1) := by
 obtain ⟨-, hl5⟩ := val_one h
 obtain ⟨x, rfl, rfl, h3⟩ := h
 refine ⟨[x], by rw [trees, trees], ⟨by simp [hl5], .inr ⟨g, 1, cs, rfl, hB, hg, Nat.le_refl _, by simp [maxLen], ?_, ?_⟩⟩, fun y hy => ?_⟩
 ·rw [← Array.length_toList, hcs, hl5]
 ·rw [List.take_of_length_le (by rw [hcs, hl5]; exact Nat.le_refl _), hcs]; simp
 ·rw [List.mem_singleton.1 hy]
  exact h3.frame (fun k hk => ⟨hk.1, by simp [Value.ownBlock]; exact fun e => hk.2 e.symm⟩) (fun k hk => rfl)
theorem AccAt.af {ts : List Tr} {b : Nat} (h : AccAt B wk ts v) (hb : b < B) : RowAt wk (Af b wk) ts v := h.row.keep (fun k hk => ⟨by omega, hk.2⟩) (fun k hk => rfl)
theorem Mid.push {ts : List Tr} (m : Mid R A cp L w wk st) (h : AccAt B wk ts v) (hB : w.heap.size < B) (hon : Only (fun k => v.ownBlock = some k) wk w') : Mid R A cp L w w' st := by
 have hR := m.lt
 refine ⟨m.rd.only hon (fun i hi => by have := own_blk h hi; omega), Fr.own m.fr hon (fun i hi => by have := own_blk h hi; omega), (hon.block _ m.gt (fun e => by have := own_blk h e; omega)).trans m.box, m.lt⟩
theorem Bx.push {ts : List Tr} {v0 v1 v2 v3 v4 : Value} {b : Nat} (h : Bx wk b v0 v1 v2 v3 v4) (ha : AccAt B wk ts v) (hb : b < B) (hon : Only (fun k => v.ownBlock = some k) wk w') : Bx w' b v0 v1 v2 v3 v4 :=
 (hon.block _ (heap_lt h) (fun e => by have := own_blk ha e; omega)).trans h
theorem TreeAt.put5a (h : TreeAt wk (Af B wk) t v) (v0 v1 v2 v3 v4 : Value) : TreeAt (put5 wk B v0 v1 v2 v3 v4) (Af B (put5 wk B v0 v1 v2 v3 v4)) t v := ((((h.set 0 v0).set 1 v1).set 2 v2).set 3 v3).set 4 v4
theorem put5_below {n : Nat} (hB : n ≤ B) (v0 v1 v2 v3 v4 : Value) : Below n wk (put5 wk B v0 v1 v2 v3 v4) :=
 ((((below_set wk hB 0 v0).trans (below_set _ hB 1 v1)).trans (below_set _ hB 2 v2)).trans (below_set _ hB 3 v3)).trans (below_set _ hB 4 v4)
theorem AccAt.away {ts : List Tr} {b : Nat} (h : AccAt B wk ts v) (hb : b < B) (i : Nat) (u : Value) : AccAt B (wk.setCell ⟨b, i, none⟩ u) ts v :=
 h.keep (by simp) (fun k h1 h2 => Below.heap_setCell wk _ _ k (by show k ≠ b; omega))
theorem AccAt.put5 {ts : List Tr} {b : Nat} (h : AccAt B wk ts v) (hb : b < B) (v0 v1 v2 v3 v4 : Value) : AccAt B (put5 wk b v0 v1 v2 v3 v4) ts v := ((((h.away hb 0 v0).away hb 1 v1).away hb 2 v2).away hb 3 v3).away hb 4 v4
end
end
section
open Go.RowKit Go.Proofs
section
variable {R cp : Nat} {A : Option Addr} {L : List Tok} {st : St} {F : Nat}
structure Wd (R B : Nat) (A : Option Addr) (cp : Nat) (L : List Tok) (w wk : World) (st : St) : Prop where
 rd : RdAt wk R A cp L st
 on : Only (fun k => k = R ∨ k = B) w wk
 lt : R < B
 lw : B < w.heap.size
section
variable {B : Nat} {w wa wk w' : World} {st1 : St} {l : List Tr} {t : Tr} {v : Value}
theorem Wd.start (h : RdAt w R A cp L st) (hB : R < B) (hw : B < w.heap.size) : Wd R B A cp L w w st := ⟨h, Only.refl _ _, hB, hw⟩
theorem Wd.size (m : Wd R B A cp L w wk st) : w.heap.size ≤ wk.heap.size := m.on.size
theorem Wd.call (m : Wd R B A cp L w wk st) (h : RdAt w' R A cp L st1) (hf : Fr R wk w') : Wd R B A cp L w w' st1 :=
 ⟨h, m.on.trans' (hf.mono fun i _ hi => .inl hi), m.lt, m.lw⟩
theorem Wd.arr (m : Wd R B A cp L w wk st) (cs : Array Value) :
  ∃ W, wk.alloc (.cells cs 24) = W ∧ Wd R B A cp L w W st ∧ Fr R wk W ∧ W.heap[wk.heap.size]? = some (.cells cs 24 (0, 0)) ∧ W.heap.size = wk.heap.size + 1 :=
 ⟨_, rfl, m.call (m.rd.alloc _) (Only.alloc _ _), Only.alloc _ _, heap_alloc_new _ _, by simp⟩
theorem Wd.tok_ (m : Wd R B A cp L w wk st) (kd : Int) (ts : Bs) (tn : Int) (ln : Nat) (nl : Bool) :
  ∃ W, wk.alloc (.cells #[.int .i64 kd, .string (bs ts), .int .i64 tn, .int .i64 ln, .bool nl] 112) = W ∧ Wd R B A cp L w W st ∧ Fr R wk W ∧
   W.heap[wk.heap.size]? = some (.cells #[.int .i64 kd, .string (bs ts), .int .i64 tn, .int .i64 ln, .bool nl] 112 (0, 0)) ∧ W.heap.size = wk.heap.size + 1 :=
 ⟨_, rfl, m.call (m.rd.alloc _) (Only.alloc _ _), Only.alloc _ _, heap_alloc_new _ _, by simp⟩
theorem Wd.next_ (m : Wd R B A cp L w wk st) (hp : st.pos < L.length) :
  ∃ W, wk.setCell ⟨R, 1, none⟩ (.int .i64 ((st.pos : Int) + 1)) = W ∧ RdAt W R A cp L st.next ∧ Fr R wk W :=
 ⟨_, rfl, (m.rd.put_pos hp).1, (m.rd.put_pos hp).2⟩
theorem Wd.set (m : Wd R B A cp L w wk st) (i : Nat) (u : Value) : Wd R B A cp L w (wk.setCell ⟨B, i, none⟩ u) st := by
 have hs := Only.setCell (F := fun k => k = B) wk (b := B) rfl i u
 have := m.lt
 exact ⟨m.rd.only hs (fun i hi => by omega), m.on.trans' (hs.mono fun i _ hi => .inr hi), m.lt, m.lw⟩
theorem Wd.drew (m : Wd R B A cp L w wk st) : Wd R B A cp L w wk.drew st := m.call (m.rd.keep fun i _ => rfl) ((Only.refl _ _).drew)
theorem Wd.push {ts : List Tr} {b : Nat} (m : Wd R B A cp L w wk st) (h : AccAt b wk ts v) (hB : w.heap.size ≤ b) (hon : Only (fun k => v.ownBlock = some k) wk w') : Wd R B A cp L w w' st := by
 have hR := m.lt
 have hw := m.lw
 exact ⟨m.rd.only hon (fun i hi => by have := own_blk h hi; omega), ⟨hon.os.trans m.on.os, hon.tape.trans m.on.tape, hon.output.trans m.on.output, Nat.le_trans m.on.size hon.size, fun i hi hr => (hon.block i (Nat.lt_of_lt_of_le hi m.on.size) (fun e => by have := own_blk h e; omega)).trans (m.on.block i hi hr)⟩, m.lt, m.lw⟩
def Told (R B : Nat) (A : Option Addr) (cp : Nat) (L : List Tok) (w : World) (l : List Tr) (st1 : St) (e : Ending) (w' : World) : Prop :=
  e = .returned (.bool (!l.isEmpty)) ∧ RdAt w' R A cp L st1 ∧ Only (fun k => k = R ∨ k = B) w w' ∧ (l = [] → w'.heap[B]? = w.heap[B]?) ∧
        (l ≠ [] → ∃ v, w'.heap[B]? = some (.cells #[.int .i64 (hd l).op, .string (bs (hd l).s), .int .i64 (hd l).n, v, .int .i64 (hd l).line] 24 (0, 0)) ∧ RowAt w' (New w w') (hd l).l v ∧ Fine (hd l).op (hd l).s (hd l).n)
theorem Wd.told_acc {o i : Int} {s : Bs} {ls : List Tr} {u : Value} (m : Wd R B A cp L w wk st1) (hb : Bx wk B (.int .i64 o) (.string (bs s)) (.int .i64 0) u (.int .i64 i)) (hr : AccAt w.heap.size wk ls u) (hf : Fine o s 0) : Told R B A cp L w [Tr.mk o s 0 i ls] st1 (.returned (.bool true)) wk :=
 ⟨rfl, m.rd, m.on, fun h => (by cases h), fun _ => ⟨u, hb, hr.row.keep (fun k hk => hk) (fun k hk => rfl), hf⟩⟩
theorem Wd.told_nil {o i : Int} {s : Bs} (m : Wd R B A cp L w wk st1) (hb : Bx wk B (.int .i64 o) (.string (bs s)) (.int .i64 0) (.slice none 0 0) (.int .i64 i)) (hf : Fine o s 0) : Told R B A cp L w [Tr.mk o s 0 i []] st1 (.returned (.bool true)) wk :=
 ⟨rfl, m.rd, m.on, fun h => (by cases h), fun _ => ⟨_, hb, RowAt.nil _ _, hf⟩⟩
theorem AccAt.lit_new {b : Nat} {cs : Array Value} (h : TreeAt wk (New wa wk) t v) (hcs : cs.toList = cellsT v) (hb : b ≤ wa.heap.size) (hw : wa.heap.size ≤ wk.heap.size) : AccAt b (wk.alloc (.cells cs 24)) [t] (.slice (some ⟨wk.heap.size, 0, none⟩) 1 1) :=
 AccAt.lit1 (h.keep (fun k hk => ⟨⟨by have := hk.1; omega, by have := hk.2; simp; omega⟩, by have := hk.2; omega⟩) (fun k hk => Below.heap_alloc wk _ k hk.2)) (heap_alloc_new _ _) hcs (by omega)
theorem setCell_same {w : World} {g i : Nat} {T : TypeId} {cs : Array Value} {u : Value} (h : w.heap[g]? = some (.cells cs T (0, 0))) (hi : cs[i]? = some u) : w.setCell ⟨g, i, none⟩ u = w := by
 have hk : (w.setCell ⟨g, i, none⟩ u).heap = w.heap := by
  unfold World.setCell
  apply Array.ext_getElem?
  intro k
  rw [Array.getElem?_modify]
  split
  ·rename_i e
   subst e
   dsimp only
   rw [h]
   have : cs.setIfInBounds i u = cs := by
    apply Array.ext_getElem?
    intro j
    rw [Array.getElem?_setIfInBounds]
    split
    ·rename_i e
     subst e
     rw [hi]
     simp [(Array.getElem?_eq_some_iff.1 hi).1]
    ·rfl
   simp [this]
  ·rfl
 have : ∀ (a b : World), a.heap = b.heap → a.tape = b.tape → a.drawn = b.drawn → a.os = b.os → a.output = b.output → a = b := by
  rintro ⟨⟩ ⟨⟩ h1 h2 h3 h4 h5
  simp_all
 exact this _ _ hk rfl rfl rfl rfl
theorem Wd.no {l : List Tr} (m : Wd R B A cp L w wk st1) (hb : wk.heap[B]? = w.heap[B]?) (hl : l = []) : Told R B A cp L w l st1 (.returned (.bool false)) wk :=
 ⟨by rw [hl]; rfl, m.rd, m.on, fun _ => hb, fun h => absurd hl h⟩
end
end
end
section
open Go.RowKit Go.Proofs
section
variable {R cp : Nat} {A : Option Addr} {L : List Tok} {st st1 : St} {w wa wk w' : World} {t : Tr} {l ts : List Tr} {v : Value} {B b : Nat}
theorem set_tail {α : Type} (xs r : List α) (k : Nat) (u : α) : (xs ++ r).set (xs.length + k) u = xs ++ r.set k u := by
 rw [List.set_append_right _ _ (by omega), Nat.add_sub_cancel_left]
def zero5 : List Value := [.int .i64 0, .string ⟨#[]⟩, .int .i64 0, .slice none 0 0, .int .i64 0]
theorem own_cur {W : World} {base g n cap : Nat} {xs : List Value} (h : W.ownsRow base 24 5 (.slice (some ⟨g, 0, none⟩) (n + 1) cap) (n + 1) xs) : ∃ cur, base ≤ g ∧ W.heap[g]? = some (.cells cur 24 (0, 0)) ∧ n + 1 ≤ cap ∧ cap ≤ maxLen ∧ cur.size = cap * 5 ∧ cur.toList.take ((n + 1) * 5) = xs := by
 rcases h.2 with ⟨h', _⟩ | ⟨g', cap', cur, h', hb, hg, hnc, hcm, hcs, htake⟩
 ·simp at h'
 ·simp only [Value.slice.injEq, Option.some.injEq, Addr.mk.injEq, and_true, true_and] at h'
  obtain ⟨rfl, rfl⟩ := h'
  exact ⟨cur, hb, hg, hnc, hcm, hcs, htake⟩
theorem own_last {W : World} {base g n cap : Nat} {xs : List Value} (a b c d e : Value) (hx : xs.length = n * 5) (h : W.ownsRow base 24 5 (.slice (some ⟨g, 0, none⟩) (n + 1) cap) (n + 1) (xs ++ zero5)) :
  (((((W.setCell ⟨g, n * 5, none⟩ a).setCell ⟨g, n * 5 + 1, none⟩ b).setCell ⟨g, n * 5 + 2, none⟩ c).setCell ⟨g, n * 5 + 3, none⟩ d).setCell ⟨g, n * 5 + 4, none⟩ e).ownsRow base 24 5 (.slice (some ⟨g, 0, none⟩) (n + 1) cap) (n + 1) (xs ++ [a, b, c, d, e]) ∧ W.grownBy (((((W.setCell ⟨g, n * 5, none⟩ a).setCell ⟨g, n * 5 + 1, none⟩ b).setCell ⟨g, n * 5 + 2, none⟩ c).setCell ⟨g, n * 5 + 3, none⟩ d).setCell ⟨g, n * 5 + 4, none⟩ e) (some g) := by
 have h1 := h.stored (n * 5) a
 have h2 := h1.1.stored (n * 5 + 1) b
 have h3 := h2.1.stored (n * 5 + 2) c
 have h4 := h3.1.stored (n * 5 + 3) d
 have h5 := h4.1.stored (n * 5 + 4) e
 refine ⟨?_, (((h1.2.trans h2.2).trans h3.2).trans h4.2).trans h5.2⟩
 have e5 : (((((xs ++ zero5).set (n * 5) a).set (n * 5 + 1) b).set (n * 5 + 2) c).set (n * 5 + 3) d).set (n * 5 + 4) e = xs ++ [a, b, c, d, e] := by
  rw [show n * 5 + 1 = xs.length + 1 by omega, show n * 5 + 2 = xs.length + 2 by omega, show n * 5 + 3 = xs.length + 3 by omega, show n * 5 + 4 = xs.length + 4 by omega, show n * 5 = xs.length + 0 by omega,
   set_tail, set_tail, set_tail, set_tail, set_tail]
  rfl
 rw [← e5]
 exact h5.1
abbrev put5o (W : World) (g o0 o1 o2 o3 o4 : Nat) (v0 v1 v2 v3 v4 : Value) : World := ((((W.setCell ⟨g, o0, none⟩ v0).setCell ⟨g, o1, none⟩ v1).setCell ⟨g, o2, none⟩ v2).setCell ⟨g, o3, none⟩ v3).setCell ⟨g, o4, none⟩ v4
structure PZ (b : Nat) (wk : World) (ts : List Tr) (v : Value) (n : Nat) (g c : Nat) (W : World) : Prop where
 acc : AccAt b wk ts v
 len : ts.length = n
 lo : b ≤ g
 on : Only (fun k => v.ownBlock = some k) wk W
 lies : v.ownBlock = some g ∨ wk.heap.size ≤ g
 own : ∀ xs, trees xs = ts → wk.ownsRow b 24 5 v ts.length (xs.flatMap fun x => cellsT x.val) → W.ownsRow b 24 5 (.slice (some ⟨g, 0, none⟩) (n + 1) c) (n + 1) ((xs.flatMap fun x => cellsT x.val) ++ zero5)
theorem flat5 (xs : List Lo) : (xs.flatMap fun x => cellsT x.val).length = xs.length * 5 := by
 induction xs with
 | nil => rfl
 | cons y r ih => rw [List.flatMap_cons, List.length_append, ih, cellsT_val, List.length_cons]; simp; omega
theorem PZ.cells {n g c : Nat} {W : World} (p : PZ b wk ts v n g c W) (o0 o1 o2 o3 o4 : Nat) (e0 : n * 5 = o0) (e1 : n * 5 + 1 = o1) (e2 : n * 5 + 2 = o2) (e3 : n * 5 + 3 = o3) (e4 : n * 5 + 4 = o4) :
  g < W.heap.size ∧ (W.cell? ⟨g, o0, none⟩ = some (.int .i64 0) ∧ W.cell? ⟨g, o1, none⟩ = some (.string ⟨#[]⟩) ∧ W.cell? ⟨g, o2, none⟩ = some (.int .i64 0) ∧ W.cell? ⟨g, o3, none⟩ = some (.slice none 0 0) ∧ W.cell? ⟨g, o4, none⟩ = some (.int .i64 0)) ∧
  (W.frozen? ⟨g, o0, none⟩ = false ∧ W.frozen? ⟨g, o1, none⟩ = false ∧ W.frozen? ⟨g, o2, none⟩ = false ∧ W.frozen? ⟨g, o3, none⟩ = false ∧ W.frozen? ⟨g, o4, none⟩ = false) := by
 subst e0 e1 e2 e3 e4
 obtain ⟨xs, h1, h2, h3⟩ := p.acc
 obtain ⟨cur, k1, k2, k3, k4, k5, k6⟩ := own_cur (p.own xs h1 h2)
 have hl : xs.length = n := by rw [← p.len, ← h1, trees_map, List.length_map]
 have hf := flat5 xs
 rw [hl] at hf
 have key : ∀ j u, zero5[j]? = some u → W.cell? ⟨g, n * 5 + j, none⟩ = some u := fun j u hj => by
  have hj5 : j < 5 := by
   have := (List.getElem?_eq_some_iff.1 hj).1
   simpa [zero5] using this
  rw [cell_of_row _ _ _ _ _ _ k2, ← Array.getElem?_toList]
  have := congrArg (fun l => l[n * 5 + j]?) k6
  rw [List.getElem?_take_of_lt (by omega), List.getElem?_append_right (by omega), hf, Nat.add_sub_cancel_left, hj] at this
  exact this
 have fr : ∀ o, W.frozen? ⟨g, o, none⟩ = false := fun o => by simp [World.frozen?, k2]
 exact ⟨heap_lt k2, ⟨key 0 _ rfl, key 1 _ rfl, key 2 _ rfl, key 3 _ rfl, key 4 _ rfl⟩, fr _, fr _, fr _, fr _, fr _⟩
theorem PZ.fin {n g c : Nat} {W W2 : World} (p : PZ b wk ts v n g c W) (o0 o1 o2 o3 o4 n1 : Nat) (e0 : n * 5 = o0) (e1 : n * 5 + 1 = o1) (e2 : n * 5 + 2 = o2) (e3 : n * 5 + 3 = o3) (e4 : n * 5 + 4 = o4) (hn1 : n + 1 = n1) {u0 u1 u2 u3 u4 : Value}
  (ht : TreeAt wk (fun k => (b ≤ k ∧ k < wk.heap.size) ∧ v.ownBlock ≠ some k) t (.agg #[u0, u1, u2, u3, u4])) (hg : W2.heap[g]? = (put5o W g o0 o1 o2 o3 o4 u0 u1 u2 u3 u4).heap[g]?) (hk : ∀ k, b ≤ k → k < W.heap.size → k ≠ g → W2.heap[k]? = W.heap[k]?) (hs : W.heap.size ≤ W2.heap.size) :
  AccAt b W2 (ts ++ [t]) (.slice (some ⟨g, 0, none⟩) n1 c) := by
 subst e0 e1 e2 e3 e4 hn1
 obtain ⟨xs, h1, h2, h3⟩ := p.acc
 have hl : xs.length = n := by rw [← p.len, ← h1, trees_map, List.length_map]
 have hf := flat5 xs
 rw [hl] at hf
 obtain ⟨r1, r2⟩ := own_last u0 u1 u2 u3 u4 hf (p.own xs h1 h2)
 obtain ⟨x, rfl, hx, h4⟩ := ht
 have hsz := p.on.size
 have hlen : (ts ++ [x.tree]).length = n + 1 := by simp [p.len]
 have hgo : ∀ k, v.ownBlock = some k → k < wk.heap.size := fun k hk' => (own_lt h2 hk').2
 have keep : ∀ k, b ≤ k → k < wk.heap.size → v.ownBlock ≠ some k → W2.heap[k]? = wk.heap[k]? := fun k k1 k2 k3 => (hk k k1 (by omega) (fun e => by
  rcases p.lies with q | q
  ·exact k3 (e ▸ q)
  ·omega)).trans (p.on.block k k2 k3)
 have hset : ∀ k, ((b ≤ k ∧ k < wk.heap.size) ∧ v.ownBlock ≠ some k) → (b ≤ k ∧ k < W2.heap.size) ∧ (Value.slice (some ⟨g, 0, none⟩) (n + 1) c).ownBlock ≠ some k := fun k hk' => ⟨⟨hk'.1.1, by have := hk'.1.2; omega⟩, fun e => by
  have e : g = k := by simpa [Value.ownBlock] using e
  subst e
  rcases p.lies with q | q
  ·exact hk'.2 q
  ·have := hk'.1.2; omega⟩
 refine ⟨xs ++ [x], by rw [trees_map, ← h1, trees_map]; simp, ?_, fun y hy => ?_⟩
 ·have hr : W2.ownsRow b 24 5 (.slice (some ⟨g, 0, none⟩) (n + 1) c) (n + 1) ((xs.flatMap fun x => cellsT x.val) ++ [u0, u1, u2, u3, u4]) := by
   refine ⟨r1.1, r1.2.imp id fun ⟨g', cap, cur, q1, q2, q3, q4⟩ => ⟨g', cap, cur, q1, q2, ?_, q4⟩⟩
   simp only [Value.slice.injEq, Option.some.injEq, Addr.mk.injEq, and_true, true_and] at q1
   obtain ⟨rfl, rfl⟩ := q1
   exact hg.trans q3
  rw [hlen, List.flatMap_append]
  have : ([x].flatMap fun x => cellsT x.val) = [u0, u1, u2, u3, u4] := by
   rw [List.flatMap_cons, List.flatMap_nil, List.append_nil, hx]
   rfl
  rw [this]
  exact hr
 ·rcases List.mem_append.1 hy with hy | hy
  ·exact (h3 y hy).frame hset (fun k hk' => keep k hk'.1.1 hk'.1.2 hk'.2)
  ·rw [List.mem_singleton.1 hy]
   exact h4.frame hset (fun k hk' => keep k hk'.1.1 hk'.1.2 hk'.2)
end
end
section
open Go.RowKit Go.Proofs
end
section
open Go.RowKit Go.Proofs
section
variable {R cp : Nat} {A : Option Addr} {L : List Tok} {st : St} {F : Nat}
theorem worded_var (ih : All R A cp L F) (hps : st.pos < L.length) (line : Int) (l : List Tr) (st1 : St) (hr : wordedR L (run L F) line [118, 97, 114] st = some (l, st1)) (w : World) (B : Nat) (h : RdAt w R A cp L st) (hRB : R < B)
  (hB0 : w.heap[B]? = some (.cells #[.int .i64 0, .string ⟨#[]⟩, .int .i64 0, .slice none 0 0, .int .i64 line] 24 (0, 0))) :
  Calls Tryz.prog 116 #[ptr R, ptr B, .string (bs [118, 97, 114])] w (Told R B A cp L w l st1) := by
 have hBw := heap_lt hB0
 have M0 := Lib.hid (And.intro (Wd.start h hRB hBw) (show Bx w B _ _ _ _ _ from hB0))
 have H0 := h
 cases hq : isR L (nameR L st.next).2 [61] with
 | false =>
  obtain ⟨rfl, rfl⟩ : [Tr.mk 30 (nameR L st.next).1 0 line []] = l ∧ endR L (nameR L st.next).2 = st1 := by simpa [wordedR, one, hq] using hr
  clear hr
  have q_var : ((bs [118, 97, 114]).toList == [118, 97, 114]) = true := by rw [bs_eq]; decide
  clear h hB0 H0
  go_enter Tryz.func116, Tryz.ntmps116
  obtain ⟨x0_1, x1_1, x2_1, x3_1, x4_1⟩ := M0.out.2.cells
  obtain ⟨q0_1, q1_1, q2_1, q3_1, q4_1⟩ := M0.out.2.thaw
  obtain ⟨c0, c1, c2, c3⟩ := M0.out.1.rd.cells
  have fR1 := M0.out.1.rd.thaw 1
  have hw := wrap_next hps M0.out.1.rd.len
  obtain ⟨w2, e2, h2, f2⟩ := M0.out.1.next_ hps
  have z2 := f2.size
  have M2 := Lib.hid (And.intro (M0.out.1.call h2 f2) (M0.out.2.fr f2 (by omega)))
  clear h2 f2
  obtain ⟨x0_2, x1_2, x2_2, x3_2, x4_2⟩ := M2.out.2.cells
  obtain ⟨q0_2, q1_2, q2_2, q3_2, q4_2⟩ := M2.out.2.thaw
  obtain ⟨w3, e3⟩ : ∃ W, w2.setCell ⟨B, 0, none⟩ (.int .i64 30) = W := ⟨_, rfl⟩
  have m3 := M2.out.1.set 0 (.int .i64 30)
  have i3_0 := M2.out.2.put0 (.int .i64 30)
  have z3 : w2.heap.size ≤ w3.heap.size := by rw [← e3]; simp
  rw [e3] at m3 i3_0
  have M3 := Lib.hid (And.intro m3 (i3_0))
  clear m3 i3_0
  obtain ⟨x0_3, x1_3, x2_3, x3_3, x4_3⟩ := M3.out.2.cells
  obtain ⟨q0_3, q1_3, q2_3, q3_3, q4_3⟩ := M3.out.2.thaw
  have HQ := Lib.hid (name_any w3 M3.out.1.rd)
  have hnl := name_len M3.out.1.rd
  go_wp2_with fail
  go_at_call 130
  refine (HQ.out).mono ?_
  rintro e w4 ⟨rfl, h4, f4⟩
  have z4 := f4.size
  have M4 := Lib.hid (And.intro (M3.out.1.call h4 f4) (M3.out.2.fr f4 (by omega)))
  clear h4 f4
  clear x0_1 x1_1 x2_1 x3_1 x4_1 q0_1 q1_1 q2_1 q3_1 q4_1 x0_2 x1_2 x2_2 x3_2 x4_2 q0_2 q1_2 q2_2 q3_2 q4_2 x0_3 x1_3 x2_3 x3_3 x4_3 q0_3 q1_3 q2_3 q3_3 q4_3
  clear c0 c1 c2 c3 fR1 hw
  clear HQ
  obtain ⟨x0_4, x1_4, x2_4, x3_4, x4_4⟩ := M4.out.2.cells
  obtain ⟨q0_4, q1_4, q2_4, q3_4, q4_4⟩ := M4.out.2.thaw
  obtain ⟨w5, e5⟩ : ∃ W, w4.setCell ⟨B, 1, none⟩ (.string (bs (nameR L (st.next)).1)) = W := ⟨_, rfl⟩
  have m5 := M4.out.1.set 1 (.string (bs (nameR L (st.next)).1))
  have i5_0 := M4.out.2.put1 (.string (bs (nameR L (st.next)).1))
  have z5 : w4.heap.size ≤ w5.heap.size := by rw [← e5]; simp
  rw [e5] at m5 i5_0
  have M5 := Lib.hid (And.intro m5 (i5_0))
  clear m5 i5_0
  obtain ⟨x0_5, x1_5, x2_5, x3_5, x4_5⟩ := M5.out.2.cells
  obtain ⟨q0_5, q1_5, q2_5, q3_5, q4_5⟩ := M5.out.2.thaw
  have HQ0 := take_any [61] ⟨#[61]⟩ rfl w5 M5.out.1.rd
  unfold takeR at HQ0
  rw [hq] at HQ0
  have HQ := Lib.hid HQ0
  clear HQ0
  go_wp2_with fail
  go_at_call 91
  refine (HQ.out).mono ?_
  rintro e w6 ⟨rfl, h6, f6⟩
  have h6 : RdAt w6 R A cp L ((nameR L st.next).2) := h6
  have z6 := f6.size
  have M6 := Lib.hid (And.intro (M5.out.1.call h6 f6) (M5.out.2.fr f6 (by omega)))
  clear h6 f6
  clear x0_4 x1_4 x2_4 x3_4 x4_4 q0_4 q1_4 q2_4 q3_4 q4_4 x0_5 x1_5 x2_5 x3_5 x4_5 q0_5 q1_5 q2_5 q3_5 q4_5
  clear HQ
  obtain ⟨x0_6, x1_6, x2_6, x3_6, x4_6⟩ := M6.out.2.cells
  obtain ⟨q0_6, q1_6, q2_6, q3_6, q4_6⟩ := M6.out.2.thaw
  have HQ := Lib.hid (end_any w6 M6.out.1.rd)
  go_wp2_with fail
  go_at_call 118
  refine (HQ.out).mono ?_
  rintro e w7 ⟨rfl, h7, f7⟩
  have z7 := f7.size
  have M7 := Lib.hid (And.intro (M6.out.1.call h7 f7) (M6.out.2.fr f7 (by omega)))
  clear h7 f7
  clear x0_6 x1_6 x2_6 x3_6 x4_6 q0_6 q1_6 q2_6 q3_6 q4_6
  clear HQ
  obtain ⟨x0_7, x1_7, x2_7, x3_7, x4_7⟩ := M7.out.2.cells
  obtain ⟨q0_7, q1_7, q2_7, q3_7, q4_7⟩ := M7.out.2.thaw
  go_wp2
  go_ret
  exact M7.out.1.told_nil M7.out.2 (fine_s hnl (by omega))
 | true =>
  cases e1 : run L F .expr (nameR L st.next).2.next with
  | none => simp [wordedR, one, hq, e1] at hr
  | some y =>
  obtain ⟨y, s3⟩ := y
  obtain ⟨rfl, rfl⟩ : [Tr.mk 30 (nameR L st.next).1 0 line [hd y]] = l ∧ endR L s3 = st1 := by simpa [wordedR, one, hq, e1] using hr
  have H1 := Lib.hid (ih .expr _ _ _ e1)
  clear hr e1
  have q_var : ((bs [118, 97, 114]).toList == [118, 97, 114]) = true := by rw [bs_eq]; decide
  clear h hB0 H0
  go_enter Tryz.func116, Tryz.ntmps116
  obtain ⟨x0_1, x1_1, x2_1, x3_1, x4_1⟩ := M0.out.2.cells
  obtain ⟨q0_1, q1_1, q2_1, q3_1, q4_1⟩ := M0.out.2.thaw
  obtain ⟨c0, c1, c2, c3⟩ := M0.out.1.rd.cells
  have fR1 := M0.out.1.rd.thaw 1
  have hw := wrap_next hps M0.out.1.rd.len
  obtain ⟨w2, e2, h2, f2⟩ := M0.out.1.next_ hps
  have z2 := f2.size
  have M2 := Lib.hid (And.intro (M0.out.1.call h2 f2) (M0.out.2.fr f2 (by omega)))
  clear h2 f2
  obtain ⟨x0_2, x1_2, x2_2, x3_2, x4_2⟩ := M2.out.2.cells
  obtain ⟨q0_2, q1_2, q2_2, q3_2, q4_2⟩ := M2.out.2.thaw
  obtain ⟨w3, e3⟩ : ∃ W, w2.setCell ⟨B, 0, none⟩ (.int .i64 30) = W := ⟨_, rfl⟩
  have m3 := M2.out.1.set 0 (.int .i64 30)
  have i3_0 := M2.out.2.put0 (.int .i64 30)
  have z3 : w2.heap.size ≤ w3.heap.size := by rw [← e3]; simp
  rw [e3] at m3 i3_0
  have M3 := Lib.hid (And.intro m3 (i3_0))
  clear m3 i3_0
  obtain ⟨x0_3, x1_3, x2_3, x3_3, x4_3⟩ := M3.out.2.cells
  obtain ⟨q0_3, q1_3, q2_3, q3_3, q4_3⟩ := M3.out.2.thaw
  have HQ := Lib.hid (name_any w3 M3.out.1.rd)
  have hnl := name_len M3.out.1.rd
  go_wp2_with fail
  go_at_call 130
  refine (HQ.out).mono ?_
  rintro e w4 ⟨rfl, h4, f4⟩
  have z4 := f4.size
  have M4 := Lib.hid (And.intro (M3.out.1.call h4 f4) (M3.out.2.fr f4 (by omega)))
  clear h4 f4
  clear x0_1 x1_1 x2_1 x3_1 x4_1 q0_1 q1_1 q2_1 q3_1 q4_1 x0_2 x1_2 x2_2 x3_2 x4_2 q0_2 q1_2 q2_2 q3_2 q4_2 x0_3 x1_3 x2_3 x3_3 x4_3 q0_3 q1_3 q2_3 q3_3 q4_3
  clear c0 c1 c2 c3 fR1 hw
  clear HQ
  obtain ⟨x0_4, x1_4, x2_4, x3_4, x4_4⟩ := M4.out.2.cells
  obtain ⟨q0_4, q1_4, q2_4, q3_4, q4_4⟩ := M4.out.2.thaw
  obtain ⟨w5, e5⟩ : ∃ W, w4.setCell ⟨B, 1, none⟩ (.string (bs (nameR L (st.next)).1)) = W := ⟨_, rfl⟩
  have m5 := M4.out.1.set 1 (.string (bs (nameR L (st.next)).1))
  have i5_0 := M4.out.2.put1 (.string (bs (nameR L (st.next)).1))
  have z5 : w4.heap.size ≤ w5.heap.size := by rw [← e5]; simp
  rw [e5] at m5 i5_0
  have M5 := Lib.hid (And.intro m5 (i5_0))
  clear m5 i5_0
  obtain ⟨x0_5, x1_5, x2_5, x3_5, x4_5⟩ := M5.out.2.cells
  obtain ⟨q0_5, q1_5, q2_5, q3_5, q4_5⟩ := M5.out.2.thaw
  have HQ0 := take_any [61] ⟨#[61]⟩ rfl w5 M5.out.1.rd
  unfold takeR at HQ0
  rw [hq] at HQ0
  have HQ := Lib.hid HQ0
  clear HQ0
  go_wp2_with fail
  go_at_call 91
  refine (HQ.out).mono ?_
  rintro e w6 ⟨rfl, h6, f6⟩
  have h6 : RdAt w6 R A cp L ((nameR L st.next).2.next) := h6
  have z6 := f6.size
  have M6 := Lib.hid (And.intro (M5.out.1.call h6 f6) (M5.out.2.fr f6 (by omega)))
  clear h6 f6
  clear x0_4 x1_4 x2_4 x3_4 x4_4 q0_4 q1_4 q2_4 q3_4 q4_4 x0_5 x1_5 x2_5 x3_5 x4_5 q0_5 q1_5 q2_5 q3_5 q4_5
  clear HQ
  obtain ⟨x0_6, x1_6, x2_6, x3_6, x4_6⟩ := M6.out.2.cells
  obtain ⟨q0_6, q1_6, q2_6, q3_6, q4_6⟩ := M6.out.2.thaw
  go_wp2_with fail
  go_at_call 117
  refine (H1.out w6 M6.out.1.rd).mono ?_
  rintro e w7 ⟨v7, rfl, h7, f7, t7⟩
  obtain ⟨A7, c7, rfl, -, -⟩ := t7.form
  have z7 := f7.size
  obtain ⟨w8, e8, m8, f8, b8, zq8⟩ := (M6.out.1.call h7 f7).arr #[.int .i64 (hd y).op, .string (bs (hd y).s), .int .i64 (hd y).n, .slice A7 (hd y).l.length c7, .int .i64 (hd y).line]
  have z8 : w7.heap.size < w8.heap.size := by omega
  clear zq8
  have a8 := AccAt.lit_new (b := w.heap.size) (cs := #[.int .i64 (hd y).op, .string (bs (hd y).s), .int .i64 (hd y).n, .slice A7 (hd y).l.length c7, .int .i64 (hd y).line]) t7 rfl (by omega) (by omega)
  rw [e8] at a8
  have M8 := Lib.hid (And.intro m8 (And.intro ((M6.out.2.fr f7 (by omega)).fr f8 (by omega)) (a8)))
  clear h7 f7 t7 m8 f8 b8 a8
  clear x0_6 x1_6 x2_6 x3_6 x4_6 q0_6 q1_6 q2_6 q3_6 q4_6
  obtain ⟨x0_7, x1_7, x2_7, x3_7, x4_7⟩ := M8.out.2.1.cells
  obtain ⟨q0_7, q1_7, q2_7, q3_7, q4_7⟩ := M8.out.2.1.thaw
  obtain ⟨w9, e9⟩ : ∃ W, w8.setCell ⟨B, 3, none⟩ (.slice (some ⟨w7.heap.size, 0, none⟩) 1 1) = W := ⟨_, rfl⟩
  have m9 := M8.out.1.set 3 (.slice (some ⟨w7.heap.size, 0, none⟩) 1 1)
  have i9_0 := M8.out.2.1.put3 (.slice (some ⟨w7.heap.size, 0, none⟩) 1 1)
  have i9_1 := M8.out.2.2.away (b := B) (by omega) 3 (.slice (some ⟨w7.heap.size, 0, none⟩) 1 1)
  have z9 : w8.heap.size ≤ w9.heap.size := by rw [← e9]; simp
  rw [e9] at m9 i9_0 i9_1
  have M9 := Lib.hid (And.intro m9 (And.intro i9_0 (i9_1)))
  clear m9 i9_0 i9_1
  obtain ⟨x0_8, x1_8, x2_8, x3_8, x4_8⟩ := M9.out.2.1.cells
  obtain ⟨q0_8, q1_8, q2_8, q3_8, q4_8⟩ := M9.out.2.1.thaw
  have HQ := Lib.hid (end_any w9 M9.out.1.rd)
  go_wp2_with fail
  go_at_call 118
  refine (HQ.out).mono ?_
  rintro e w10 ⟨rfl, h10, f10⟩
  have z10 := f10.size
  have M10 := Lib.hid (And.intro (M9.out.1.call h10 f10) (And.intro (M9.out.2.1.fr f10 (by omega)) (M9.out.2.2.fr f10 (by omega))))
  clear h10 f10
  clear x0_7 x1_7 x2_7 x3_7 x4_7 q0_7 q1_7 q2_7 q3_7 q4_7 x0_8 x1_8 x2_8 x3_8 x4_8 q0_8 q1_8 q2_8 q3_8 q4_8
  clear HQ
  obtain ⟨x0_9, x1_9, x2_9, x3_9, x4_9⟩ := M10.out.2.1.cells
  obtain ⟨q0_9, q1_9, q2_9, q3_9, q4_9⟩ := M10.out.2.1.thaw
  go_wp2
  go_ret
  exact M10.out.1.told_acc M10.out.2.1 M10.out.2.2 (fine_s hnl (by omega))
end
end
section
open Go.RowKit Go.Proofs
section
variable {R cp : Nat} {A : Option Addr} {L : List Tok} {st : St} {F : Nat}
theorem signs_any (k : Nat) (hk : k ≤ 5) (w : World) : Calls Tryz.prog 152 #[.int .i64 k] w fun e w' => ∃ g, e = .returned (.slice (some ⟨g, 0, none⟩) (signsR k).length (signsR k).length) ∧ (∀ i s, (signsR k)[i]? = some s → w'.cell? ⟨g, i, none⟩ = some (.string (bs s))) ∧ w.heap.size ≤ g ∧ g < w'.heap.size ∧ Below w.heap.size w w' := by
  have one_ : ∀ s : ByteArray, w.heap.size < (w.alloc (.cells #[.string s] 9)).heap.size := fun s => by simp
  have fin1 : ∀ (s : Bs), (∀ (i : Nat) (t : Bs), [s][i]? = some t → (w.alloc (.cells #[.string (bs s)] 9)).cell? ⟨w.heap.size, i, none⟩ = some (.string (bs t))) := fun s i t h => by
    match i, h with
    | 0, h => obtain rfl : s = t := by simpa using h
              exact wcell_alloc _ _ _ _ _ rfl
    | i + 1, h => simp at h
  have fin2 : ∀ (s u : Bs), (∀ (i : Nat) (t : Bs), [s, u][i]? = some t → (w.alloc (.cells #[.string (bs s), .string (bs u)] 9)).cell? ⟨w.heap.size, i, none⟩ = some (.string (bs t))) := fun s u i t h => by
    match i, h with
    | 0, h => obtain rfl : s = t := by simpa using h
              exact wcell_alloc _ _ _ _ _ rfl
    | 1, h => obtain rfl : u = t := by simpa using h
              exact wcell_alloc _ _ _ _ _ rfl
    | i + 2, h => simp at h
  have hb : ∀ o, Below w.heap.size w (w.alloc o) := fun o => (Below.refl _ w).alloc (Nat.le_refl _) _
  have F1 := Lib.hid fin1
  have F2 := Lib.hid fin2
  have HB := Lib.hid (And.intro hb one_)
  clear fin1 fin2 hb one_
  match k, hk with
  | 0, _ =>
    go_enter Tryz.func152, Tryz.ntmps152
    go_wp2
    go_ret
    exact ⟨_, rfl, F1.out [124, 124], Nat.le_refl _, by simp, HB.out.1 _⟩
  | 1, _ =>
    go_enter Tryz.func152, Tryz.ntmps152
    go_wp2
    go_ret
    exact ⟨_, rfl, F1.out [38, 38], Nat.le_refl _, by simp, HB.out.1 _⟩
  | 2, _ =>
    go_enter Tryz.func152, Tryz.ntmps152
    go_wp2
    go_ret
    exact ⟨_, rfl, F2.out [61, 61, 61] [33, 61, 61], Nat.le_refl _, by simp, HB.out.1 _⟩
  | 3, _ =>
    go_enter Tryz.func152, Tryz.ntmps152
    go_wp2
    go_ret
    exact ⟨_, rfl, F2.out [60] [60, 61], Nat.le_refl _, by simp, HB.out.1 _⟩
  | 4, _ =>
    go_enter Tryz.func152, Tryz.ntmps152
    go_wp2
    go_ret
    exact ⟨_, rfl, F2.out [43] [45], Nat.le_refl _, by simp, HB.out.1 _⟩
  | 5, _ =>
    go_enter Tryz.func152, Tryz.ntmps152
    go_wp2
    go_ret
    exact ⟨_, rfl, F1.out [42], Nat.le_refl _, by simp, HB.out.1 _⟩
  | n + 6, h => omega
end
end
end Go.Proofs.YtikbfoichhkeaaaGreat
