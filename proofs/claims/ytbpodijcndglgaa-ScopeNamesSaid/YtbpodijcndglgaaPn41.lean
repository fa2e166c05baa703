/- The document's reader: what is known amid parts, whose argument is in a box of its own. The document's reader: parts. -/
import Derived.Deep.RegionLaw
import Derived.Deep.RegionHeldLaw
import Derived.Deep.LoopGhost
import Derived.Test.YtbpodijcndglgaaPn36
set_option linter.unusedSimpArgs false
set_option linter.unusedVariables false
set_option maxRecDepth 100000
set_option maxHeartbeats 40000000
namespace Go.Proofs.Ytbpodijcndglgaa
section
open Go.RowKit Go.Proofs
section
variable {R cp : Nat} {A : Option Addr} {L : List Tok} {st st1 : St} {w wa wk w' : World} {t : Tr} {l : List Tr} {v : Value} {B : Nat} {S : Nat → Prop}
structure MidP (R : Nat) (A : Option Addr) (cp : Nat) (L : List Tok) (w wk : World) (st : St) : Prop where
 rd : RdAt wk R A cp L st
 fr : Fr R w wk
 box : wk.heap[w.heap.size + 1]? = some (.cells #[.int .i64 0, .string ⟨#[]⟩, .int .i64 0, .slice none 0 0, .int .i64 0] 24 (0, 0))
 lt : R < w.heap.size
theorem MidP.gt (m : MidP R A cp L w wk st) : w.heap.size + 1 < wk.heap.size := heap_lt m.box
theorem MidP.call (m : MidP R A cp L w wk st) (h : RdAt w' R A cp L st1) (hf : Fr R wk w') : MidP R A cp L w w' st1 :=
 ⟨h, m.fr.trans' hf, (hf.block _ m.gt (by have := m.lt; omega)).trans m.box, m.lt⟩
theorem MidP.facts (m : MidP R A cp L w wk st) : (wk.cell? ⟨w.heap.size + 1, 0, none⟩ = some (.int .i64 0) ∧ wk.cell? ⟨w.heap.size + 1, 1, none⟩ = some (.string ⟨#[]⟩) ∧ wk.cell? ⟨w.heap.size + 1, 2, none⟩ = some (.int .i64 0) ∧ wk.cell? ⟨w.heap.size + 1, 3, none⟩ = some (.slice none 0 0) ∧ wk.cell? ⟨w.heap.size + 1, 4, none⟩ = some (.int .i64 0)) ∧
  (wk.frozen? ⟨w.heap.size + 1, 0, none⟩ = false ∧ wk.frozen? ⟨w.heap.size + 1, 1, none⟩ = false ∧ wk.frozen? ⟨w.heap.size + 1, 2, none⟩ = false ∧ wk.frozen? ⟨w.heap.size + 1, 3, none⟩ = false ∧ wk.frozen? ⟨w.heap.size + 1, 4, none⟩ = false) := box_facts m.box
theorem MidP.box_ (m : MidP R A cp L w wk st) (v0 v1 v2 v3 v4 : Value) :
  ∃ W, wk.alloc (.cells #[v0, v1, v2, v3, v4] 24) = W ∧ MidP R A cp L w W st ∧ Fr R wk W ∧ Bx W wk.heap.size v0 v1 v2 v3 v4 ∧ W.heap.size = wk.heap.size + 1 :=
 ⟨_, rfl, m.call (m.rd.alloc _) (Only.alloc _ _), Only.alloc _ _, heap_alloc_new _ _, by simp⟩
theorem MidP.arr (m : MidP R A cp L w wk st) (cs : Array Value) :
  ∃ W, wk.alloc (.cells cs 24) = W ∧ MidP R A cp L w W st ∧ Fr R wk W ∧ W.heap[wk.heap.size]? = some (.cells cs 24 (0, 0)) ∧ W.heap.size = wk.heap.size + 1 :=
 ⟨_, rfl, m.call (m.rd.alloc _) (Only.alloc _ _), Only.alloc _ _, heap_alloc_new _ _, by simp⟩
theorem MidP.tok_ (m : MidP R A cp L w wk st) (kd : Int) (ts : Bs) (tn : Int) (ln : Nat) (nl : Bool) :
  ∃ W, wk.alloc (.cells #[.int .i64 kd, .string (bs ts), .int .i64 tn, .int .i64 ln, .bool nl] 83) = W ∧ MidP R A cp L w W st ∧ Fr R wk W ∧
   W.heap[wk.heap.size]? = some (.cells #[.int .i64 kd, .string (bs ts), .int .i64 tn, .int .i64 ln, .bool nl] 83 (0, 0)) ∧ W.heap.size = wk.heap.size + 1 :=
 ⟨_, rfl, m.call (m.rd.alloc _) (Only.alloc _ _), Only.alloc _ _, heap_alloc_new _ _, by simp⟩
theorem MidP.set (m : MidP R A cp L w wk st) (hB : w.heap.size ≤ B) (hB2 : B ≠ w.heap.size + 1) (i : Nat) (u : Value) : MidP R A cp L w (wk.setCell ⟨B, i, none⟩ u) st := by
 have hs := Only.setCell (F := fun k => k = B) wk (b := B) rfl i u
 have := m.lt
 exact ⟨m.rd.only hs (fun i hi => by omega), Fr.own m.fr hs (fun i hi => by omega), (hs.block _ m.gt (fun e => hB2 e.symm)).trans m.box, m.lt⟩
theorem MidP.putAll (m : MidP R A cp L w wk st) (hB : w.heap.size ≤ B) (hB2 : B ≠ w.heap.size + 1) (v0 v1 v2 v3 v4 : Value) : MidP R A cp L w (put5 wk B v0 v1 v2 v3 v4) st := ((((m.set hB hB2 0 v0).set hB hB2 1 v1).set hB hB2 2 v2).set hB hB2 3 v3).set hB hB2 4 v4
theorem MidP.drew (m : MidP R A cp L w wk st) : MidP R A cp L w wk.drew st := m.call (m.rd.keep fun i _ => rfl) ((Only.refl _ _).drew)
theorem MidP.next_ (m : MidP R A cp L w wk st) (hp : st.pos < L.length) :
  ∃ W, wk.setCell ⟨R, 1, none⟩ (.int .i64 ((st.pos : Int) + 1)) = W ∧ RdAt W R A cp L st.next ∧ Fr R wk W :=
 ⟨_, rfl, (m.rd.put_pos hp).1, (m.rd.put_pos hp).2⟩
theorem MidP.push {ts : List Tr} (m : MidP R A cp L w wk st) (h : AccAt B wk ts v) (hB : w.heap.size + 1 < B) (hon : Only (fun k => v.ownBlock = some k) wk w') : MidP R A cp L w w' st := by
 have hR := m.lt
 refine ⟨m.rd.only hon (fun i hi => by have := own_blk h hi; omega), Fr.own m.fr hon (fun i hi => by have := own_blk h hi; omega), (hon.block _ m.gt (fun e => by have := own_blk h e; omega)).trans m.box, m.lt⟩
abbrev AfS (S : Nat → Prop) (w W : World) : Nat → Prop := fun k => S k ∨ (w.heap.size + 1 < k ∧ k < W.heap.size)
theorem TreeAt.ups (h : TreeAt wk (AfS S w wk) t v) (hf : Fr R wk w') (hS : ∀ k, S k → k < w.heap.size ∧ k ≠ R) (hR : R < w.heap.size) (hw : w.heap.size ≤ wk.heap.size) : TreeAt w' (AfS S w w') t v :=
 h.fr hf (fun k hk => hk.imp id fun hk => ⟨hk.1, by have := hf.size; have := hk.2; omega⟩) (fun k hk => by
  rcases hk with hk | hk
  ·exact ⟨by have := (hS k hk).1; omega, (hS k hk).2⟩
  ·exact ⟨hk.2, by have := hk.1; omega⟩)
theorem TreeAt.sets (h : TreeAt wk (AfS S w wk) t v) (hS : ∀ k, S k → k < w.heap.size ∧ k ≠ R) (i : Nat) (u : Value) : TreeAt (wk.setCell ⟨w.heap.size, i, none⟩ u) (AfS S w (wk.setCell ⟨w.heap.size, i, none⟩ u)) t v :=
 h.keep (fun k hk => hk.imp id fun hk => ⟨hk.1, by simp; exact hk.2⟩) (fun k hk => Below.heap_setCell wk _ _ k (by
  show k ≠ w.heap.size
  rcases hk with hk | hk
  ·have := (hS k hk).1; omega
  ·have := hk.1; omega))
theorem TreeAt.put5s (h : TreeAt wk (AfS S w wk) t v) (hS : ∀ k, S k → k < w.heap.size ∧ k ≠ R) (v0 v1 v2 v3 v4 : Value) : TreeAt (put5 wk w.heap.size v0 v1 v2 v3 v4) (AfS S w (put5 wk w.heap.size v0 v1 v2 v3 v4)) t v := ((((h.sets hS 0 v0).sets hS 1 v1).sets hS 2 v2).sets hS 3 v3).sets hS 4 v4
theorem MidP.gives {fn : Func} {a : Act} {v0 v1 v2 v3 v4 : Value} (s : Nat) (m : MidP R A cp L w wk st1) (hS : ∀ k, S k → k < w.heap.size ∧ k ≠ R) (h : TreeAt wk (AfS S w wk) t (.agg #[v0, v1, v2, v3, v4]))
  (hfn : fn.results = #[.cell s 24]) (hs : a.tmps.getD s undef = .pointer (some ⟨w.heap.size + 1, 0, none⟩)) (hd : a.defers = []) :
  bodyPost Try.prog fn (fun e w' => ∃ v', e = .returned v' ∧ RdAt w' R A cp L st1 ∧ Fr R w w' ∧ TreeAt w' (fun k => S k ∨ New w w' k) t v') .ret a (put5 wk (w.heap.size + 1) v0 v1 v2 v3 v4) := by
 have hp := put5_only wk (w.heap.size + 1) v0 v1 v2 v3 v4
 refine ret_node s hfn hs hd m.box ⟨_, rfl, m.rd.only hp (fun i hi => by have := m.lt; omega), Fr.own m.fr hp (fun i hi => by omega), h.keep (fun k hk => hk.imp id fun hk => ⟨by have := hk.1; omega, by have := hk.2; have := hp.size; omega⟩) (fun k hk => hp.block k ?_ (fun e => ?_))⟩
 ·rcases hk with hk | hk
  ·have := (hS k hk).1; have := m.gt; omega
  ·exact hk.2
 ·rcases hk with hk | hk
  ·have := (hS k hk).1; omega
  ·have := hk.1; omega
theorem Bx.cast3 {v0 v1 v2 v3 v4 u3 : Value} (h : Bx wk B v0 v1 v2 v3 v4) (e : v3 = u3) : Bx wk B v0 v1 v2 u3 v4 := by subst e; exact h
theorem TreeAt.castv {u : Value} (h : TreeAt wk S t v) (e : v = u) : TreeAt wk S t u := by subst e; exact h
theorem len_cons (A' : Option Addr) (c : Nat) (x : Tr) (l : List Tr) : Value.slice A' (1 + l.length) c = .slice A' (x :: l).length c := by rw [List.length_cons, Nat.add_comm]
def AccP (P : Nat → Prop) (B : Nat) (W : World) (ts : List Tr) (v : Value) : Prop :=
 ∃ xs : List Lo, trees xs = ts ∧ W.ownsRow B 24 5 v ts.length (xs.flatMap fun x => cellsT x.val) ∧ ∀ x ∈ xs, LoAt W (fun k => (P k ∧ k < W.heap.size) ∧ v.ownBlock ≠ some k) x
section
variable {P : Nat → Prop}
theorem AccP.slice {ts : List Tr} {v : Value} (h : AccP P B w ts v) : ∃ A' c', v = .slice A' ts.length c' ∧ ts.length ≤ c' ∧ c' ≤ maxLen := by
 obtain ⟨xs, -, h2, -⟩ := h
 rcases h2.2 with ⟨rfl, h0⟩ | ⟨g, cap, cur, rfl, h1, h2, h3, h4, h5⟩
 ·rw [h0]; exact ⟨none, 0, rfl, Nat.le_refl _, by simp [maxLen]⟩
 ·exact ⟨_, _, rfl, h3, h4⟩
theorem AccP.blk {ts : List Tr} (h : AccP P B wk ts v) {k : Nat} (hk : v.ownBlock = some k) : B ≤ k ∧ k < wk.heap.size := by
 obtain ⟨xs, -, h2, -⟩ := h
 exact own_lt h2 hk
theorem AccP.keep {ts : List Tr} {v : Value} (h : AccP P B w ts v) (hsz : w.heap.size ≤ w'.heap.size) (hk : ∀ k, (P k ∨ B ≤ k) → k < w.heap.size → w'.heap[k]? = w.heap[k]?) : AccP P B w' ts v := by
 obtain ⟨xs, h1, h2, h3⟩ := h
 refine ⟨xs, h1, ⟨h2.1, h2.2.imp id fun ⟨g, cap, cur, e1, e2, e3, e4⟩ => ⟨g, cap, cur, e1, e2, ?_, e4⟩⟩, fun x hx => (h3 x hx).frame (fun k hk => ⟨⟨hk.1.1, by have := hk.1.2; omega⟩, hk.2⟩) (fun k hk' => hk k (.inl hk'.1.1) hk'.1.2)⟩
 exact (hk g (.inr e2) (heap_lt e3)).trans e3
theorem AccP.row {ts : List Tr} {v : Value} (h : AccP P B w ts v) : RowAt w (fun k => (P k ∨ B ≤ k) ∧ k < w.heap.size) ts v := by
 obtain ⟨xs, rfl, h2, h3⟩ := h
 have hl : (trees xs).length = xs.length := by rw [trees_map, List.length_map]
 rw [hl] at h2
 refine ⟨xs, rfl, ?_⟩
 rcases h2.2 with ⟨rfl, h0⟩ | ⟨g, cap, cur, rfl, h1, h4, h5, h6, h7, h8⟩
 ·exact ⟨none, 0, by rw [h0], ⟨by omega, by simp [maxLen]⟩, fun h => by omega⟩
 ·refine ⟨_, cap, rfl, ⟨h5, h6⟩, fun _ => ⟨g, 0, rfl, ⟨.inr h1, heap_lt h4⟩, ?_⟩⟩
  exact row_cells g (cur.toList.drop (xs.length * 5)) [] xs 0 w rfl ⟨cur, _, h4, by
   rw [List.nil_append]
   conv => lhs; rw [← List.take_append_drop (xs.length * 5) cur.toList]
   rw [h8]
   rfl⟩ (fun x hx => (h3 x hx).frame (fun k hk => ⟨.inl hk.1.1, hk.1.2⟩) (fun k hk => rfl))
theorem AccP.rowO {ts : List Tr} {v : Value} (h : AccP P B w ts v) : RowAt w (fun k => (P k ∨ v.ownBlock = some k) ∧ k < w.heap.size) ts v := by
 obtain ⟨xs, rfl, h2, h3⟩ := h
 have hl : (trees xs).length = xs.length := by rw [trees_map, List.length_map]
 rw [hl] at h2
 refine ⟨xs, rfl, ?_⟩
 rcases h2.2 with ⟨rfl, h0⟩ | ⟨g, cap, cur, rfl, h1, h4, h5, h6, h7, h8⟩
 ·exact ⟨none, 0, by rw [h0], ⟨by omega, by simp [maxLen]⟩, fun h => by omega⟩
 ·refine ⟨_, cap, rfl, ⟨h5, h6⟩, fun _ => ⟨g, 0, rfl, ⟨.inr rfl, heap_lt h4⟩, ?_⟩⟩
  exact row_cells g (cur.toList.drop (xs.length * 5)) [] xs 0 w rfl ⟨cur, _, h4, by
   rw [List.nil_append]
   conv => lhs; rw [← List.take_append_drop (xs.length * 5) cur.toList]
   rw [h8]
   rfl⟩ (fun x hx => (h3 x hx).frame (fun k hk => ⟨.inl hk.1.1, hk.1.2⟩) (fun k hk => rfl))
theorem AccP.lit1 {g : Nat} {cs : Array Value} (h : TreeAt wk (fun k => (P k ∧ k < wk.heap.size) ∧ k ≠ g) t v) (hg : wk.heap[g]? = some (.cells cs 24 (0, 0))) (hcs : cs.toList = cellsT v) (hB : B ≤ g) : AccP P B wk [t] (.slice (some ⟨g, 0, none⟩) 1 1) := by
 obtain ⟨-, hl5⟩ := val_one h
 obtain ⟨x, rfl, rfl, h3⟩ := h
 refine ⟨[x], by rw [trees, trees], ⟨by simp [hl5], .inr ⟨g, 1, cs, rfl, hB, hg, Nat.le_refl _, by simp [maxLen], ?_, ?_⟩⟩, fun y hy => ?_⟩
 ·rw [← Array.length_toList, hcs, hl5]
 ·rw [List.take_of_length_le (by rw [hcs, hl5]; exact Nat.le_refl _), hcs]; simp
 ·rw [List.mem_singleton.1 hy]
  exact h3.frame (fun k hk => ⟨hk.1, by simp [Value.ownBlock]; exact fun e => hk.2 e.symm⟩) (fun k hk => rfl)
theorem AccP.pushL {ts : List Tr} {u : Value} (h : AccP P B w ts v) (hl : RowAt w (fun k => (P k ∧ k < w.heap.size) ∧ v.ownBlock ≠ some k) l u) (hn : ts.length + l.length ≤ 3000000) (hB : B ≤ w.heap.size) (ty : TypeId) :
    ∃ v' w', (Builtin.append_ #[22, 22] ty #[v, u]).run Try.prog w = .ok v' w' ∧
      (AccP P B w' (ts ++ l) v' ∧ Only (fun k => v.ownBlock = some k) w w' ∧ (∃ A' c', v' = .slice A' (ts.length + l.length) c') ∧ (v'.ownBlock = v.ownBlock ∨ v'.ownBlock = some w.heap.size)) := by
  obtain ⟨xs, rfl, h2, h3⟩ := id h
  obtain ⟨ys, rfl, A', c', rfl, ⟨hc1, hc2⟩, h4⟩ := hl
  have hyl : (trees ys).length = ys.length := by rw [trees_map, List.length_map]
  obtain ⟨i0, j0, j1, j2, j3⟩ := info_parts node_info
  by_cases h0 : ys = []
  · subst h0
    obtain ⟨A2, c2, e2, -, -⟩ := h.slice
    have hz : (trees xs ++ trees []) = trees xs := by rw [show trees [] = [] by rw [trees], List.append_nil]
    cases A' with
    | none =>
      refine ⟨v, w, append_nothing B 22 ty 24 i0 5 c' Try.underlying22 j0 v _ _ h2, ?_, Only.refl _ _, ⟨A2, c2, ?_⟩, .inl rfl⟩
      · rw [hz]; exact h
      · rw [e2]; simp [trees]
    | some a =>
      obtain ⟨v', w', r1, r2, r3, -, r5⟩ := run_append_own_at (P := Try.prog) w B 22 ty 24 i0 _ 5 64 Try.underlying22 j0 j1 j2 j3 rfl (by decide) v (trees xs).length _ h2 a 0 c' [] rfl (fun j u hj => by simp at hj) (by simp) (by unfold maxLen; omega) (by omega) hB
      have hon : Only (fun k => v.ownBlock = some k) w w' := Only.grown r3 fun k e => e
      refine ⟨v', w', r1, ⟨xs, hz.symm, by rw [hz]; simpa using r2, fun y hy => (h3 y hy).frame (fun k hk => ⟨⟨hk.1.1, by have := hon.size; omega⟩, fun e => ?_⟩) (fun k hk => hon.block k hk.1.2 hk.2)⟩, hon, ?_, r5⟩
      · rcases r5 with r5 | r5
        · exact hk.2 (r5 ▸ e)
        · rw [r5] at e
          have := hk.1.2
          simp at e
          omega
      · rcases r2.2 with ⟨e, h0⟩ | ⟨g, cap, cur, e, -⟩
        · exact ⟨none, 0, by rw [e]; have : (trees xs).length = 0 := by omega
                             rw [this]; simp [trees]⟩
        · exact ⟨some ⟨g, 0, none⟩, cap, by rw [e]; simp [trees]⟩
  · have hpos : 0 < ys.length := List.length_pos_iff.2 h0
    obtain ⟨g, off, rfl, hg, ha⟩ := h4 hpos
    have h5 : ∀ y ∈ ys, LoAt w (fun k => (P k ∧ k < w.heap.size) ∧ v.ownBlock ≠ some k) y := fun y hy => by
      have := LoAtL.part 0 ys ha (y, 0)
      refine this ?_
      have key : ∀ (zs : List Lo), y ∈ zs → (y, 0) ∈ loLevels 0 zs := by
        intro zs
        induction zs with
        | nil => intro h; cases h
        | cons z r ih =>
          intro h
          rw [loLevels_cons]
          rcases List.mem_cons.1 h with rfl | h
          · rw [lo_levels_eq]; exact List.mem_append_left _ (List.mem_cons_self ..)
          · exact List.mem_append_right _ (ih h)
      exact key ys hy
    have hflat : (ys.flatMap fun x => cellsT x.val).length = ys.length * 5 := by
      clear h5 ha hpos h0 hyl hn h4 hc1
      induction ys with
      | nil => rfl
      | cons y r ih => rw [List.flatMap_cons, List.length_append, ih, cellsT_val, List.length_cons]; simp; omega
    have hone : ∀ u ∈ (ys.flatMap fun x => cellsT x.val), u.oneCell' = true := fun u hu => by
      obtain ⟨y, hy, hu⟩ := List.mem_flatMap.1 hu
      exact (val_one ⟨y, rfl, rfl, h5 y hy⟩).1 u hu
    obtain ⟨v', w', r1, r2, r3, -, r5⟩ := run_append_own_at (P := Try.prog) w B 22 ty 24 i0 _ 5 64 Try.underlying22 j0 j1 j2 j3 rfl (by decide) v (trees xs).length _ h2 ⟨g, off, none⟩ ys.length c' (ys.flatMap fun x => cellsT x.val) hflat (fun j u hj => by
      have e : (⟨g, off, none⟩ : Addr).add j = ⟨g, off + j, none⟩ := by unfold Addr.add; split <;> simp_all
      rw [e]
      exact cells_at ys off ha j u hj) hone (by unfold maxLen; omega) (by omega) hB
    have hon : Only (fun k => v.ownBlock = some k) w w' := Only.grown r3 fun k e => e
    refine ⟨v', w', r1, ⟨xs ++ ys, by rw [trees_map, trees_map, trees_map, List.map_append], by rw [List.length_append, hyl, List.flatMap_append]; exact r2, fun y hy => ?_⟩, hon, ?_, r5⟩
    · have hnew : ∀ k, ((P k ∧ k < w.heap.size) ∧ v.ownBlock ≠ some k) → (P k ∧ k < w'.heap.size) ∧ v'.ownBlock ≠ some k := fun k hk => ⟨⟨hk.1.1, by have := hon.size; omega⟩, fun e => by
        rcases r5 with r5 | r5
        · exact hk.2 (r5 ▸ e)
        · rw [r5] at e
          have := hk.1.2
          simp at e
          omega⟩
      have hky : ∀ k, ((P k ∧ k < w.heap.size) ∧ v.ownBlock ≠ some k) → w'.heap[k]? = w.heap[k]? := fun k hk => hon.block k hk.1.2 hk.2
      rcases List.mem_append.1 hy with hy | hy
      · exact (h3 y hy).frame hnew hky
      · exact (h5 y hy).frame hnew hky
    · rcases r2.2 with ⟨-, h0⟩ | ⟨g, cap, cur, e, -⟩
      · omega
      · exact ⟨_, _, by rw [e, hyl]⟩
theorem AccP.freshL {ts : List Tr} {u : Value} (h : AccP P B wk ts v) (ht : RowAt w' (New wk w') l u) (hP : ∀ k, wk.heap.size ≤ k → P k) : RowAt w' (fun k => (P k ∧ k < w'.heap.size) ∧ v.ownBlock ≠ some k) l u :=
 ht.keep (fun k hk => ⟨⟨hP k hk.1, hk.2⟩, fun e => by have := (h.blk e).2; have := hk.1; omega⟩) (fun k hk => rfl)
theorem MidP.pushP {ts : List Tr} (m : MidP R A cp L w wk st) (h : AccP P B wk ts v) (hB : w.heap.size + 1 < B) (hon : Only (fun k => v.ownBlock = some k) wk w') : MidP R A cp L w w' st := by
 have hR := m.lt
 refine ⟨m.rd.only hon (fun i hi => by have := h.blk hi; omega), Fr.own m.fr hon (fun i hi => by have := h.blk hi; omega), (hon.block _ m.gt (fun e => by have := h.blk e; omega)).trans m.box, m.lt⟩
theorem Bx.pushP {ts : List Tr} {v0 v1 v2 v3 v4 : Value} {b : Nat} (h : Bx wk b v0 v1 v2 v3 v4) (ha : AccP P B wk ts v) (hb : b < B) (hon : Only (fun k => v.ownBlock = some k) wk w') : Bx w' b v0 v1 v2 v3 v4 :=
 (hon.block _ (heap_lt h) (fun e => by have := ha.blk e; omega)).trans h
end
end
end
section
open Go.RowKit Go.Proofs
section
variable {R cp : Nat} {A : Option Addr} {L : List Tok} {st : St} {F : Nat}
theorem parts_ok (ihs : ∀ F', F' ≤ F → All R A cp L F') (hF : F ≤ 2000000) (x0 : Tr) (calls : Bool) (l : List Tr) (st1 : St) (hr : run L (F + 1) (.parts x0 calls) st = some (l, st1)) : Spec R A cp L (.parts x0 calls) st l st1 := by
 intro w S v h hx hS
 have hR := h.lt
 have HS := Lib.hid hS
 obtain ⟨A0, c0', rfl, -, -⟩ := hx.form
 obtain ⟨W1, eW1⟩ : ∃ W, w.alloc (.cells #[.int .i64 x0.op, .string (bs x0.s), .int .i64 x0.n, .slice A0 x0.l.length c0', .int .i64 x0.line] 24) = W := ⟨_, rfl⟩
 obtain ⟨W2, eW2⟩ : ∃ W, W1.alloc (.cells #[.int .i64 0, .string ⟨#[]⟩, .int .i64 0, .slice none 0 0, .int .i64 0] 24) = W := ⟨_, rfl⟩
 have hz1 : W1.heap.size = w.heap.size + 1 := by rw [← eW1]; simp
 have f1 : Fr R w W1 := by rw [← eW1]; exact Only.alloc _ _
 have f2 : Fr R W1 W2 := by rw [← eW2]; exact Only.alloc _ _
 have b1 : Bx W1 w.heap.size (.int .i64 x0.op) (.string (bs x0.s)) (.int .i64 x0.n) (.slice A0 x0.l.length c0') (.int .i64 x0.line) := by rw [← eW1]; exact heap_alloc_new _ _
 have m2 : MidP R A cp L w W2 st := ⟨by rw [← eW2, ← eW1]; exact (h.alloc _).alloc _, f1.trans' f2, by rw [← hz1, ← eW2]; exact heap_alloc_new _ _, hR⟩
 have HI := Lib.hid (And.intro m2 (And.intro (b1.fr f2 hR) (show TreeAt W2 (AfS S w W2) x0 _ from hx.fr (f1.trans' f2) (fun k hk => .inl hk) (fun k hk => hS k hk))))
 have HR0 := Lib.hid hr
 clear h hx hS hr m2 b1 f1 f2
 have hz1' : w.heap.size < W1.heap.size := by omega
 go_enter Try.func101, Try.ntmps101
 go_wp2
 go_loopg [] (F + 1) (fun gn wr => ∃ (x : Tr) (s' : St) (Ax : Option Addr) (cx : Nat), RowKit.Hid (run L gn (.parts x calls) s' = some (l, st1) ∧ gn ≤ F + 1 ∧ MidP R A cp L w wr s' ∧ Bx wr w.heap.size (.int .i64 x.op) (.string (bs x.s)) (.int .i64 x.n) (.slice Ax x.l.length cx) (.int .i64 x.line) ∧ TreeAt wr (AfS S w wr) x (.agg #[.int .i64 x.op, .string (bs x.s), .int .i64 x.n, .slice Ax x.l.length cx, .int .i64 x.line])))
 case atStart => exact ⟨x0, st, A0, c0', Lib.hid ⟨HR0.out, Nat.le_refl _, HI.out.1, HI.out.2.1, HI.out.2.2⟩⟩
 case round =>
  obtain ⟨x, s', Ax, cx, HH⟩ := hrel
  obtain ⟨hrun, hgn, hm, hbx, htx⟩ := HH.out
  obtain ⟨W0, hW0⟩ : ∃ x, x = wr := ⟨_, rfl⟩
  subst hW0
  have hz2 := hm.gt
  obtain ⟨c0, c1, c2, c3⟩ := hm.rd.cells
  have MR := Lib.hid (And.intro hm (And.intro hbx htx))
  clear HH hm hbx htx HR0 HI
  cases gk with
  | zero => simp [run] at hrun
  | succ G =>
  rw [run] at hrun
  by_cases he : s'.e = 0 ∧ calls = true
  ·rw [if_pos he] at hrun
   obtain ⟨he, rfl⟩ := he
   rw [he] at c2
   have d1 : (s'.e == 0) = true := by simpa using he
   have HE := Lib.hid he
   clear he
   cases hd_ : isR L s' [46] with
   | true => rw [hd_] at hrun; cases hrun
   | false =>
    rw [if_neg (show ¬ isR L s' [46] = true by rw [hd_]; decide)] at hrun
    cases hb_ : isR L s' [91] with
    | true => rw [hb_] at hrun; cases hrun
    | false =>
     rw [if_neg (show ¬ isR L s' [91] = true by rw [hb_]; decide)] at hrun
     cases hc_ : isR L s' [40] with
     | false =>
      obtain ⟨rfl, rfl⟩ : [x] = l ∧ s' = st1 := by simpa [one, hc_] using hrun
      clear hrun
      have HQ0 := take_any [46] ⟨#[46]⟩ rfl W0 MR.out.1.rd
      unfold takeR at HQ0
      rw [hd_] at HQ0
      have HQ := Lib.hid HQ0
      clear HQ0
      go_wp2_with fail
      go_at_call 48
      refine (HQ.out).mono ?_
      rintro e w4 ⟨rfl, h4, f4⟩
      have h4 : RdAt w4 R A cp L (s') := h4
      have z4 := f4.size
      have M4 := Lib.hid (And.intro (MR.out.1.call h4 f4) (And.intro (MR.out.2.1.fr f4 (by omega)) (MR.out.2.2.ups f4 HS.out hR (by omega))))
      clear h4 f4
      clear HQ
      have HQ0 := take_any [91] ⟨#[91]⟩ rfl w4 M4.out.1.rd
      unfold takeR at HQ0
      rw [hb_] at HQ0
      have HQ := Lib.hid HQ0
      clear HQ0
      go_wp2_with fail
      go_at_call 48
      refine (HQ.out).mono ?_
      rintro e w5 ⟨rfl, h5, f5⟩
      have h5 : RdAt w5 R A cp L (s') := h5
      have z5 := f5.size
      have M5 := Lib.hid (And.intro (M4.out.1.call h5 f5) (And.intro (M4.out.2.1.fr f5 (by omega)) (M4.out.2.2.ups f5 HS.out hR (by omega))))
      clear h5 f5
      clear HQ
      have HQ0 := take_any [40] ⟨#[40]⟩ rfl w5 M5.out.1.rd
      unfold takeR at HQ0
      rw [hc_] at HQ0
      have HQ := Lib.hid HQ0
      clear HQ0
      go_wp2_with fail
      go_at_call 48
      refine (HQ.out).mono ?_
      rintro e w6 ⟨rfl, h6, f6⟩
      have h6 : RdAt w6 R A cp L (s') := h6
      have z6 := f6.size
      have M6 := Lib.hid (And.intro (M5.out.1.call h6 f6) (And.intro (M5.out.2.1.fr f6 (by omega)) (M5.out.2.2.ups f6 HS.out hR (by omega))))
      clear h6 f6
      clear HQ
      obtain ⟨x0, x1, x2, x3, x4⟩ := M6.out.2.1.cells
      obtain ⟨⟨y0, y1, y2, y3, y4⟩, g0, g1, g2, g3, g4⟩ := M6.out.1.facts
      go_wp2
      exact M6.out.1.gives 6 HS.out M6.out.2.2 rfl rfl rfl
     | true =>
      cases e1 : run L G (.args [] (!isR L s'.next [41])) s'.next with
      | none => simp [hc_, e1] at hrun
      | some lA =>
      obtain ⟨lA, s4⟩ := lA
      have HN := Lib.hid (show run L G (.parts (.mk 15 [] 0 x.line (x :: lA)) true) s4 = some (l, st1) by simpa [hc_, e1] using hrun)
      have H4 := Lib.hid (ihs G (by omega) (.args [] (!isR L s'.next [41])) _ _ _ e1 rfl rfl)
      have HLA := Lib.hid (args_len e1)
      clear hrun e1
      have HQ0 := take_any [46] ⟨#[46]⟩ rfl W0 MR.out.1.rd
      unfold takeR at HQ0
      rw [hd_] at HQ0
      have HQ := Lib.hid HQ0
      clear HQ0
      go_wp2_with fail
      go_at_call 48
      refine (HQ.out).mono ?_
      rintro e w4 ⟨rfl, h4, f4⟩
      have h4 : RdAt w4 R A cp L (s') := h4
      have z4 := f4.size
      have M4 := Lib.hid (And.intro (MR.out.1.call h4 f4) (And.intro (MR.out.2.1.fr f4 (by omega)) (MR.out.2.2.ups f4 HS.out hR (by omega))))
      clear h4 f4
      clear HQ
      have HQ0 := take_any [91] ⟨#[91]⟩ rfl w4 M4.out.1.rd
      unfold takeR at HQ0
      rw [hb_] at HQ0
      have HQ := Lib.hid HQ0
      clear HQ0
      go_wp2_with fail
      go_at_call 48
      refine (HQ.out).mono ?_
      rintro e w5 ⟨rfl, h5, f5⟩
      have h5 : RdAt w5 R A cp L (s') := h5
      have z5 := f5.size
      have M5 := Lib.hid (And.intro (M4.out.1.call h5 f5) (And.intro (M4.out.2.1.fr f5 (by omega)) (M4.out.2.2.ups f5 HS.out hR (by omega))))
      clear h5 f5
      clear HQ
      have HQ0 := take_any [40] ⟨#[40]⟩ rfl w5 M5.out.1.rd
      unfold takeR at HQ0
      rw [hc_] at HQ0
      have HQ := Lib.hid HQ0
      clear HQ0
      go_wp2_with fail
      go_at_call 48
      refine (HQ.out).mono ?_
      rintro e w6 ⟨rfl, h6, f6⟩
      have h6 : RdAt w6 R A cp L (s'.next) := h6
      have z6 := f6.size
      have M6 := Lib.hid (And.intro (M5.out.1.call h6 f6) (And.intro (M5.out.2.1.fr f6 (by omega)) (M5.out.2.2.ups f6 HS.out hR (by omega))))
      clear h6 f6
      clear HQ
      obtain ⟨x0, x1, x2, x3, x4⟩ := M6.out.2.1.cells
      obtain ⟨w7, e7, m7, f7, b7, zq7⟩ := M6.out.1.arr #[.int .i64 x.op, .string (bs x.s), .int .i64 x.n, .slice Ax x.l.length cx, .int .i64 x.line]
      have z7 : w6.heap.size < w7.heap.size := by omega
      clear zq7
      have hb7 : Below w6.heap.size w6 w7 := by rw [← e7]; exact (Below.refl _ _).alloc (Nat.le_refl _) _
      obtain ⟨nB, hnB⟩ : ∃ x, w7.heap.size = x := ⟨_, rfl⟩
      have HnB := Lib.hid hnB
      have zn1 : w6.heap.size < nB := by omega
      have zn2 : nB ≤ w7.heap.size := by omega
      have zn3 : w7.heap.size ≤ nB := by omega
      clear hnB
      have ac := AccP.lit1 (P := fun k => S k ∨ (w.heap.size + 1 < k ∧ k ≠ nB)) (B := w6.heap.size) (M6.out.2.2.keep (S' := fun k => ((S k ∨ (w.heap.size + 1 < k ∧ k ≠ nB)) ∧ k < w7.heap.size) ∧ k ≠ w6.heap.size) (fun k hk => hk.elim (fun hk => ⟨⟨.inl hk, by have := (HS.out k hk).1; omega⟩, by have := (HS.out k hk).1; omega⟩) (fun hk => ⟨⟨.inr ⟨hk.1, by have := hk.2; omega⟩, by have := hk.2; omega⟩, by have := hk.2; omega⟩)) (fun k hk => hb7.block k (hk.elim (fun hk => by have := (HS.out k hk).1; omega) (fun hk => hk.2)))) b7 rfl (Nat.le_refl _)
      have M7 := Lib.hid (And.intro m7 (And.intro (M6.out.2.1.fr f7 (by omega)) ac))
      clear m7 f7 b7 hb7 ac
      obtain ⟨w8, e8, m8, f8, b8, zq8⟩ := M7.out.1.box_ (.int .i64 15) (.string ⟨#[]⟩) (.int .i64 0) (.slice (some ⟨w6.heap.size, 0, none⟩) 1 1) (.int .i64 x.line)
      have z8 : w7.heap.size < w8.heap.size := by omega
      clear zq8
      have M8 := Lib.hid (And.intro m8 (And.intro (M7.out.2.1.fr f8 (by omega)) (And.intro b8 (M7.out.2.2.keep (by omega) (fun k hk hl => f8.block k hl (hk.elim (fun hk => hk.elim (fun hk => (HS.out k hk).2) (fun hk => by have := hk.1; omega)) (fun hk => by omega)))))))
      clear m8 f8 b8
      have zd : w8.heap.size ≤ w8.drew.heap.size := Nat.le_refl _
      have M9 := Lib.hid (And.intro M8.out.1.drew (And.intro (M8.out.2.1.fr ((Only.refl (fun k => k = R) w8).drew) (by omega)) (And.intro (M8.out.2.2.1.fr ((Only.refl (fun k => k = R) w8).drew) (by omega)) (M8.out.2.2.2.keep (Nat.le_refl _) (fun k hk hl => rfl)))))
      obtain ⟨x0, x1, x2, x3, x4⟩ := M9.out.2.2.1.cells
      obtain ⟨q0, q1, q2, q3, q4⟩ := M9.out.2.2.1.thaw
      go_wp2_with fail
      go_region_law (first
       | (refine step_app rfl _ _ 22 rfl _ _ rfl rfl _ HP.out ?_; rintro u w11 ⟨hacc, hon, ⟨A11, c11, rfl⟩, hlie⟩; have z11 := hon.size; have m11 := M10.out.1.pushP M10.out.2.2.2 (by omega) hon; have bx11 := M10.out.2.1.pushP M10.out.2.2.2 (by omega) hon; have bn11 : Bx w11 (w7.heap.size) _ _ _ _ _ := (hon.block _ (heap_lt M10.out.2.2.1) (by simp [Value.ownBlock]; omega)).trans M10.out.2.2.1; obtain ⟨x0, x1, x2, x3, x4⟩ := bn11.cells; obtain ⟨q0, q1, q2, q3, q4⟩ := bn11.thaw; obtain ⟨w12, e12⟩ : ∃ W, w11.setCell ⟨w7.heap.size, 3, none⟩ (.slice A11 (1 + lA.length) c11) = W := ⟨_, rfl⟩; have me := m11.set (B := w7.heap.size) (by omega) (by omega) 3 (.slice A11 (1 + lA.length) c11); have be := bn11.put3 (.slice A11 (1 + lA.length) c11); have ae := bx11.away (B' := w7.heap.size) (by omega) 3 (.slice A11 (1 + lA.length) c11); have ze : w11.heap.size ≤ w12.heap.size := (by rw [← e12]; simp); have re := hacc.rowO.keep (w' := w11.setCell ⟨w7.heap.size, 3, none⟩ (.slice A11 (1 + lA.length) c11)) (S' := AfS S w (w11.setCell ⟨w7.heap.size, 3, none⟩ (.slice A11 (1 + lA.length) c11))) (fun k hk => hk.1.elim (fun h => h.elim (fun h => .inl h) (fun h => .inr ⟨h.1, by simp; exact hk.2⟩)) (fun h => .inr ⟨by rcases hlie with e | e <;> (rw [e] at h; simp [Value.ownBlock] at h; omega), by simp; exact hk.2⟩)) (fun k hk => Below.heap_setCell _ _ _ k (by show k ≠ w7.heap.size; have hz := HnB.out; exact hk.1.elim (fun h => h.elim (fun h => by have := (HS.out k h).1; omega) (fun h => by have := h.2; omega)) (fun h => by rcases hlie with e | e <;> (rw [e] at h; simp [Value.ownBlock] at h; omega)))); rw [e12] at me be ae re; obtain ⟨x0, x1, x2, x3, x4⟩ := be.cells; obtain ⟨p0, p1, p2, p3, p4⟩ := ae.cells; obtain ⟨q0, q1, q2, q3, q4⟩ := ae.thaw; have tr := TreeAt.mk (o := 15) (k := 0) (i := x.line) (s := []) re ⟨by simp, by omega, by omega⟩; have MF := Lib.hid (And.intro (me.putAll (B := w.heap.size) (Nat.le_refl _) (by omega) (.int .i64 15) (.string ⟨#[]⟩) (.int .i64 0) (.slice A11 (1 + lA.length) c11) (.int .i64 x.line)) (And.intro (ae.put5 (.int .i64 15) (.string ⟨#[]⟩) (.int .i64 0) (.slice A11 (1 + lA.length) c11) (.int .i64 x.line)) (tr.put5s HS.out (.int .i64 15) (.string ⟨#[]⟩) (.int .i64 0) (.slice A11 (1 + lA.length) c11) (.int .i64 x.line)))); clear me be ae re tr hacc hon m11 bx11 bn11)
       | (go_simp; go_at_call 103; refine (H4.out w8.drew M9.out.1.rd).mono ?_; rintro e w10 ⟨v10, rfl, h10, f10, t10⟩; obtain ⟨A10, c10, rfl, hlA, -⟩ := t10.slice; have z10 := f10.size; have M10 := Lib.hid (And.intro (M9.out.1.call h10 f10) (And.intro (M9.out.2.1.fr f10 (by omega)) (And.intro (M9.out.2.2.1.fr f10 (by omega)) (M9.out.2.2.2.keep (by omega) (fun k hk hl => f10.block k hl (hk.elim (fun hk => hk.elim (fun hk => (HS.out k hk).2) (fun hk => by have := hk.1; omega)) (fun hk => by omega))))))); have HP := Lib.hid (AccP.pushL M10.out.2.2.2 (M9.out.2.2.2.freshL t10 (fun k hk => .inr ⟨by omega, by omega⟩)) (by have := HLA.out; simp only [List.length_cons, List.length_nil] at this ⊢; omega) (by omega) 22); obtain ⟨x0, x1, x2, x3, x4⟩ := M10.out.2.2.1.cells; obtain ⟨q0, q1, q2, q3, q4⟩ := M10.out.2.2.1.thaw; clear h10 f10 t10))
      all_goals
       go_wp2
       go_roundg G
       case rel => exact ⟨.mk 15 [] 0 x.line (x :: lA), _, A11, c11, Lib.hid ⟨HN.out, by omega, MF.out.1, MF.out.2.1.cast3 (len_cons _ _ x lA), MF.out.2.2.castv (by show Value.agg #[.int .i64 15, .string (bs []), .int .i64 0, .slice A11 (1 + lA.length) c11, .int .i64 x.line] = _; rw [len_cons _ _ x lA]; rfl)⟩⟩
       case measure => omega
  ·rw [if_neg he] at hrun
   cases hrun
end
end
end Go.Proofs.Ytbpodijcndglgaa
