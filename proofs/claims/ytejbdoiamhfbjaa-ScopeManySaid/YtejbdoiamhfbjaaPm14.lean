/- The document's reader: a row behind a row; boxes written as a whole. The document's reader: what is known amid worded and jump. -/
import Derived.Deep.RegionLaw
import Derived.Deep.RegionHeldLaw
import Derived.Deep.LoopGhost
import Derived.Test.YtejbdoiamhfbjaaPm12
set_option linter.unusedSimpArgs false
set_option linter.unusedVariables false
set_option maxRecDepth 100000
set_option maxHeartbeats 4000000
namespace Go.Proofs.Ytejbdoiamhfbjaa
section
open Go.RowKit Go.Proofs
section
variable {R cp : Nat} {A : Option Addr} {L : List Tok} {st st1 : St} {w wa wk w' : World} {t : Tr} {l : List Tr} {v : Value} {B : Nat}
theorem append_nothing {P : Program} (base : Nat) (t ty e : TypeId) (i : TypeInfo) (size c : Nat) (ht : P.underlying t = some (.slice e)) (hi : P.info? e = some i)
  (v : Value) (n : Nat) (xs : List Value) (hown : w.ownsRow base e size v n xs) :
  (Builtin.append_ #[t, t] ty #[v, .slice none 0 c]).run P w = .ok v w := by
 rcases hown.2 with ⟨rfl, rfl⟩ | ⟨g, cap, cur, rfl, _, _, hnc, _⟩
 ·simp [Builtin.append_, run_underlying ht, sizeOf, typeInfo, hi, Builtin.lenOf, Builtin.firstCells]
 ·simp [Builtin.append_, run_underlying ht, sizeOf, typeInfo, hi, Builtin.lenOf, Builtin.firstCells, hnc, storeCells]
theorem AccAt.lit1 {g : Nat} {cs : Array Value} (h : TreeAt wk (fun k => (B ≤ k ∧ k < wk.heap.size) ∧ k ≠ g) t v) (hg : wk.heap[g]? = some (.cells cs 24 (0, 0))) (hcs : cs.toList = cellsT v) (hB : B ≤ g) : AccAt B wk [t] (.slice (some ⟨g, 0, none⟩) 1 1) := by
 obtain ⟨-, hl5⟩ := val_one h
 obtain ⟨x, rfl, rfl, h3⟩ := h
 refine ⟨[x], by rw [trees, trees], ⟨by simp [hl5], .inr ⟨g, 1, cs, rfl, hB, hg, Nat.le_refl _, by simp [maxLen], ?_, ?_⟩⟩, fun y hy => ?_⟩
 ·rw [← Array.length_toList, hcs, hl5]
 ·rw [List.take_of_length_le (by rw [hcs, hl5]; exact Nat.le_refl _), hcs]; simp
 ·rw [List.mem_singleton.1 hy]
  exact h3.frame (fun k hk => ⟨hk.1, by simp [Value.ownBlock]; exact fun e => hk.2 e.symm⟩) (fun k hk => rfl)
theorem cells_at {W : World} {S : Nat → Prop} {g : Nat} : ∀ (xs : List Lo) (off : Nat), LoAtL W S g off xs → ∀ j u, (xs.flatMap fun x => cellsT x.val)[j]? = some u → W.cell? ⟨g, off + j, none⟩ = some u
 | [], off, _, j, u, h => by simp at h
 | x :: r, off, h, j, u, hj => by
  rw [LoAtL_cons] at h
  obtain ⟨⟨-, h0, h1, h2, h3, h4⟩, hr⟩ := h
  rw [List.flatMap_cons, cellsT_val] at hj
  by_cases h5 : j < 5
  ·rw [List.getElem?_append_left (by simpa using h5)] at hj
   match j, h5 with
   | 0, _ => cases hj; exact h0
   | 1, _ => cases hj; exact h1
   | 2, _ => cases hj; exact h2
   | 3, _ => cases hj; exact h3
   | 4, _ => cases hj; exact h4
  ·rw [List.getElem?_append_right (by simp; omega)] at hj
   have := cells_at r (off + 5) hr (j - 5) u (by simpa using hj)
   have e : off + 5 + (j - 5) = off + j := by omega
   rwa [e] at this
theorem AccAt.pushL {ts : List Tr} {u : Value} (h : AccAt B w ts v) (hl : RowAt w (fun k => (B ≤ k ∧ k < w.heap.size) ∧ v.ownBlock ≠ some k) l u) (hn : ts.length + l.length ≤ 3000000) (hB : B ≤ w.heap.size) (ty : TypeId) :
    ∃ v' w', (Builtin.append_ #[22, 22] ty #[v, u]).run Try.prog w = .ok v' w' ∧
      (AccAt B w' (ts ++ l) v' ∧ Only (fun k => v.ownBlock = some k) w w' ∧ ∃ A' c', v' = .slice A' (ts.length + l.length) c') := by
  obtain ⟨xs, rfl, h2, h3⟩ := id h
  obtain ⟨ys, rfl, A', c', rfl, ⟨hc1, hc2⟩, h4⟩ := hl
  have hyl : (trees ys).length = ys.length := by rw [trees_map, List.length_map]
  obtain ⟨i0, j0, j1, j2, j3⟩ := info_parts node_info
  by_cases h0 : ys = []
  · subst h0
    obtain ⟨A2, c2, e2, -, -⟩ := h.slice
    have hz : (trees xs ++ trees []) = trees xs := by rw [show trees [] = [] by rw [trees], List.append_nil]
    cases A' with
    | none =>
      refine ⟨v, w, append_nothing B 22 ty 24 i0 5 c' Try.underlying22 j0 v _ _ h2, ?_, Only.refl _ _, A2, c2, ?_⟩
      · rw [hz]; exact h
      · rw [e2]; simp [trees]
    | some a =>
      obtain ⟨v', w', r1, r2, r3, -, r5⟩ := run_append_own_at (P := Try.prog) w B 22 ty 24 i0 _ 5 64 Try.underlying22 j0 j1 j2 j3 rfl (by decide) v (trees xs).length _ h2 a 0 c' [] rfl (fun j u hj => by simp at hj) (by simp) (by unfold maxLen; omega) (by omega) hB
      have hon : Only (fun k => v.ownBlock = some k) w w' := Only.grown r3 fun k e => e
      refine ⟨v', w', r1, ⟨xs, hz.symm, by rw [hz]; simpa using r2, fun y hy => (h3 y hy).frame (fun k hk => ⟨⟨hk.1.1, by have := hon.size; omega⟩, fun e => ?_⟩) (fun k hk => hon.block k hk.1.2 hk.2)⟩, hon, ?_⟩
      · rcases r5 with r5 | r5
        · exact hk.2 (r5 ▸ e)
        · rw [r5] at e
          have := hk.1.2
          simp at e
          omega
      · rcases r2.2 with ⟨e, h0⟩ | ⟨g, cap, cur, e, -⟩
        · exact ⟨none, 0, by rw [e]; have : (trees xs).length = 0 := by omega
                             rw [this]; simp [trees]⟩
        · exact ⟨some ⟨g, 0, none⟩, cap, by rw [e]; simp [trees]⟩
  · have hpos : 0 < ys.length := List.length_pos_iff.2 h0
    obtain ⟨g, off, rfl, hg, ha⟩ := h4 hpos
    have h5 : ∀ y ∈ ys, LoAt w (fun k => (B ≤ k ∧ k < w.heap.size) ∧ v.ownBlock ≠ some k) y := fun y hy => by
      have := LoAtL.part 0 ys ha (y, 0)
      refine this ?_
      have key : ∀ (zs : List Lo), y ∈ zs → (y, 0) ∈ loLevels 0 zs := by
        intro zs
        induction zs with
        | nil => intro h; cases h
        | cons z r ih =>
          intro h
          rw [loLevels_cons]
          rcases List.mem_cons.1 h with rfl | h
          · rw [lo_levels_eq]; exact List.mem_append_left _ (List.mem_cons_self ..)
          · exact List.mem_append_right _ (ih h)
      exact key ys hy
    have hflat : (ys.flatMap fun x => cellsT x.val).length = ys.length * 5 := by
      clear h5 ha hpos h0 hyl hn h4 hc1
      induction ys with
      | nil => rfl
      | cons y r ih => rw [List.flatMap_cons, List.length_append, ih, cellsT_val, List.length_cons]; simp; omega
    have hone : ∀ u ∈ (ys.flatMap fun x => cellsT x.val), u.oneCell' = true := fun u hu => by
      obtain ⟨y, hy, hu⟩ := List.mem_flatMap.1 hu
      exact (val_one ⟨y, rfl, rfl, h5 y hy⟩).1 u hu
    obtain ⟨v', w', r1, r2, r3, -, r5⟩ := run_append_own_at (P := Try.prog) w B 22 ty 24 i0 _ 5 64 Try.underlying22 j0 j1 j2 j3 rfl (by decide) v (trees xs).length _ h2 ⟨g, off, none⟩ ys.length c' (ys.flatMap fun x => cellsT x.val) hflat (fun j u hj => by
      have e : (⟨g, off, none⟩ : Addr).add j = ⟨g, off + j, none⟩ := by unfold Addr.add; split <;> simp_all
      rw [e]
      exact cells_at ys off ha j u hj) hone (by unfold maxLen; omega) (by omega) hB
    have hon : Only (fun k => v.ownBlock = some k) w w' := Only.grown r3 fun k e => e
    refine ⟨v', w', r1, ⟨xs ++ ys, by rw [trees_map, trees_map, trees_map, List.map_append], by rw [List.length_append, hyl, List.flatMap_append]; exact r2, fun y hy => ?_⟩, hon, ?_⟩
    · have hnew : ∀ k, ((B ≤ k ∧ k < w.heap.size) ∧ v.ownBlock ≠ some k) → (B ≤ k ∧ k < w'.heap.size) ∧ v'.ownBlock ≠ some k := fun k hk => ⟨⟨hk.1.1, by have := hon.size; omega⟩, fun e => by
        rcases r5 with r5 | r5
        · exact hk.2 (r5 ▸ e)
        · rw [r5] at e
          have := hk.1.2
          simp at e
          omega⟩
      have hky : ∀ k, ((B ≤ k ∧ k < w.heap.size) ∧ v.ownBlock ≠ some k) → w'.heap[k]? = w.heap[k]? := fun k hk => hon.block k hk.1.2 hk.2
      rcases List.mem_append.1 hy with hy | hy
      · exact (h3 y hy).frame hnew hky
      · exact (h5 y hy).frame hnew hky
    · rcases r2.2 with ⟨-, h0⟩ | ⟨g, cap, cur, e, -⟩
      · omega
      · exact ⟨_, _, by rw [e, hyl]⟩
theorem AccAt.freshL {ts : List Tr} {u : Value} (h : AccAt B wk ts v) (ht : RowAt w' (New wk w') l u) (hB : B ≤ wk.heap.size) : RowAt w' (fun k => (B ≤ k ∧ k < w'.heap.size) ∧ v.ownBlock ≠ some k) l u :=
 ht.keep (fun k hk => ⟨⟨by have := hk.1; omega, hk.2⟩, fun e => by have := (own_blk h e).2; have := hk.1; omega⟩) (fun k hk => rfl)
theorem AccAt.af {ts : List Tr} {b : Nat} (h : AccAt B wk ts v) (hb : b < B) : RowAt wk (Af b wk) ts v := h.row.keep (fun k hk => ⟨by omega, hk.2⟩) (fun k hk => rfl)
theorem Mid.push {ts : List Tr} (m : Mid R A cp L w wk st) (h : AccAt B wk ts v) (hB : w.heap.size < B) (hon : Only (fun k => v.ownBlock = some k) wk w') : Mid R A cp L w w' st := by
 have hR := m.lt
 refine ⟨m.rd.only hon (fun i hi => by have := own_blk h hi; omega), Fr.own m.fr hon (fun i hi => by have := own_blk h hi; omega), (hon.block _ m.gt (fun e => by have := own_blk h e; omega)).trans m.box, m.lt⟩
theorem Bx.push {ts : List Tr} {v0 v1 v2 v3 v4 : Value} {b : Nat} (h : Bx wk b v0 v1 v2 v3 v4) (ha : AccAt B wk ts v) (hb : b < B) (hon : Only (fun k => v.ownBlock = some k) wk w') : Bx w' b v0 v1 v2 v3 v4 :=
 (hon.block _ (heap_lt h) (fun e => by have := own_blk ha e; omega)).trans h
theorem TreeAt.put5a (h : TreeAt wk (Af B wk) t v) (v0 v1 v2 v3 v4 : Value) : TreeAt (put5 wk B v0 v1 v2 v3 v4) (Af B (put5 wk B v0 v1 v2 v3 v4)) t v := ((((h.set 0 v0).set 1 v1).set 2 v2).set 3 v3).set 4 v4
theorem put5_below {n : Nat} (hB : n ≤ B) (v0 v1 v2 v3 v4 : Value) : Below n wk (put5 wk B v0 v1 v2 v3 v4) :=
 ((((below_set wk hB 0 v0).trans (below_set _ hB 1 v1)).trans (below_set _ hB 2 v2)).trans (below_set _ hB 3 v3)).trans (below_set _ hB 4 v4)
theorem AccAt.away {ts : List Tr} {b : Nat} (h : AccAt B wk ts v) (hb : b < B) (i : Nat) (u : Value) : AccAt B (wk.setCell ⟨b, i, none⟩ u) ts v :=
 h.keep (by simp) (fun k h1 h2 => Below.heap_setCell wk _ _ k (by show k ≠ b; omega))
theorem AccAt.put5 {ts : List Tr} {b : Nat} (h : AccAt B wk ts v) (hb : b < B) (v0 v1 v2 v3 v4 : Value) : AccAt B (put5 wk b v0 v1 v2 v3 v4) ts v := ((((h.away hb 0 v0).away hb 1 v1).away hb 2 v2).away hb 3 v3).away hb 4 v4
theorem TreeAt.ahead {g b : Nat} (h : TreeAt wk (Af b wk) t v) (hg : wk.heap.size ≤ g) (hb : Below wk.heap.size wk w') : TreeAt w' (fun k => (b + 1 ≤ k ∧ k < w'.heap.size) ∧ k ≠ g) t v :=
 h.keep (fun k hk => ⟨⟨by have := hk.1; omega, by have := hk.2; have := hb.size; omega⟩, by have := hk.2; omega⟩) (fun k hk => hb.block k hk.2)
end
end
section
open Go.RowKit Go.Proofs
section
variable {R cp : Nat} {A : Option Addr} {L : List Tok} {st : St} {F : Nat}
structure Wd (R B : Nat) (A : Option Addr) (cp : Nat) (L : List Tok) (w wk : World) (st : St) : Prop where
 rd : RdAt wk R A cp L st
 on : Only (fun k => k = R ∨ k = B) w wk
 lt : R < B
 lw : B < w.heap.size
section
variable {B : Nat} {w wa wk w' : World} {st1 : St} {l : List Tr} {t : Tr} {v : Value}
theorem Wd.start (h : RdAt w R A cp L st) (hB : R < B) (hw : B < w.heap.size) : Wd R B A cp L w w st := ⟨h, Only.refl _ _, hB, hw⟩
theorem Wd.size (m : Wd R B A cp L w wk st) : w.heap.size ≤ wk.heap.size := m.on.size
theorem Wd.call (m : Wd R B A cp L w wk st) (h : RdAt w' R A cp L st1) (hf : Fr R wk w') : Wd R B A cp L w w' st1 :=
 ⟨h, m.on.trans' (hf.mono fun i _ hi => .inl hi), m.lt, m.lw⟩
theorem Wd.arr (m : Wd R B A cp L w wk st) (cs : Array Value) :
  ∃ W, wk.alloc (.cells cs 24) = W ∧ Wd R B A cp L w W st ∧ Fr R wk W ∧ W.heap[wk.heap.size]? = some (.cells cs 24 (0, 0)) ∧ W.heap.size = wk.heap.size + 1 :=
 ⟨_, rfl, m.call (m.rd.alloc _) (Only.alloc _ _), Only.alloc _ _, heap_alloc_new _ _, by simp⟩
theorem Wd.tok_ (m : Wd R B A cp L w wk st) (kd : Int) (ts : Bs) (tn : Int) (ln : Nat) (nl : Bool) :
  ∃ W, wk.alloc (.cells #[.int .i64 kd, .string (bs ts), .int .i64 tn, .int .i64 ln, .bool nl] 85) = W ∧ Wd R B A cp L w W st ∧ Fr R wk W ∧
   W.heap[wk.heap.size]? = some (.cells #[.int .i64 kd, .string (bs ts), .int .i64 tn, .int .i64 ln, .bool nl] 85 (0, 0)) ∧ W.heap.size = wk.heap.size + 1 :=
 ⟨_, rfl, m.call (m.rd.alloc _) (Only.alloc _ _), Only.alloc _ _, heap_alloc_new _ _, by simp⟩
theorem Wd.next_ (m : Wd R B A cp L w wk st) (hp : st.pos < L.length) :
  ∃ W, wk.setCell ⟨R, 1, none⟩ (.int .i64 ((st.pos : Int) + 1)) = W ∧ RdAt W R A cp L st.next ∧ Fr R wk W :=
 ⟨_, rfl, (m.rd.put_pos hp).1, (m.rd.put_pos hp).2⟩
theorem Wd.set (m : Wd R B A cp L w wk st) (i : Nat) (u : Value) : Wd R B A cp L w (wk.setCell ⟨B, i, none⟩ u) st := by
 have hs := Only.setCell (F := fun k => k = B) wk (b := B) rfl i u
 have := m.lt
 exact ⟨m.rd.only hs (fun i hi => by omega), m.on.trans' (hs.mono fun i _ hi => .inr hi), m.lt, m.lw⟩
theorem Wd.drew (m : Wd R B A cp L w wk st) : Wd R B A cp L w wk.drew st := m.call (m.rd.keep fun i _ => rfl) ((Only.refl _ _).drew)
theorem Wd.push {ts : List Tr} {b : Nat} (m : Wd R B A cp L w wk st) (h : AccAt b wk ts v) (hB : w.heap.size ≤ b) (hon : Only (fun k => v.ownBlock = some k) wk w') : Wd R B A cp L w w' st := by
 have hR := m.lt
 have hw := m.lw
 exact ⟨m.rd.only hon (fun i hi => by have := own_blk h hi; omega), ⟨hon.os.trans m.on.os, hon.tape.trans m.on.tape, hon.output.trans m.on.output, Nat.le_trans m.on.size hon.size, fun i hi hr => (hon.block i (Nat.lt_of_lt_of_le hi m.on.size) (fun e => by have := own_blk h e; omega)).trans (m.on.block i hi hr)⟩, m.lt, m.lw⟩
def Told (R B : Nat) (A : Option Addr) (cp : Nat) (L : List Tok) (w : World) (l : List Tr) (st1 : St) (e : Ending) (w' : World) : Prop :=
  e = .returned (.bool (!l.isEmpty)) ∧ RdAt w' R A cp L st1 ∧ Only (fun k => k = R ∨ k = B) w w' ∧ (l = [] → w'.heap[B]? = w.heap[B]?) ∧
        (l ≠ [] → ∃ v, w'.heap[B]? = some (.cells #[.int .i64 (hd l).op, .string (bs (hd l).s), .int .i64 (hd l).n, v, .int .i64 (hd l).line] 24 (0, 0)) ∧ RowAt w' (New w w') (hd l).l v ∧ Fine (hd l).op (hd l).s (hd l).n)
theorem RowAt.setlo {b : Nat} (h : RowAt wk (Af b wk) l v) (hB : B ≤ b) (i : Nat) (u : Value) : RowAt (wk.setCell ⟨B, i, none⟩ u) (Af b (wk.setCell ⟨B, i, none⟩ u)) l v :=
 h.keep (fun k hk => ⟨hk.1, by simp; exact hk.2⟩) (fun k hk => Below.heap_setCell wk _ _ k (by show k ≠ B; have := hk.1; omega))
theorem Wd.told_acc {o i : Int} {s : Bs} {ls : List Tr} {u : Value} (m : Wd R B A cp L w wk st1) (hb : Bx wk B (.int .i64 o) (.string (bs s)) (.int .i64 0) u (.int .i64 i)) (hr : AccAt w.heap.size wk ls u) (hf : Fine o s 0) : Told R B A cp L w [Tr.mk o s 0 i ls] st1 (.returned (.bool true)) wk :=
 ⟨rfl, m.rd, m.on, fun h => (by cases h), fun _ => ⟨u, hb, hr.row.keep (fun k hk => hk) (fun k hk => rfl), hf⟩⟩
theorem Wd.told_nil {o i : Int} {s : Bs} (m : Wd R B A cp L w wk st1) (hb : Bx wk B (.int .i64 o) (.string (bs s)) (.int .i64 0) (.slice none 0 0) (.int .i64 i)) (hf : Fine o s 0) : Told R B A cp L w [Tr.mk o s 0 i []] st1 (.returned (.bool true)) wk :=
 ⟨rfl, m.rd, m.on, fun h => (by cases h), fun _ => ⟨_, hb, RowAt.nil _ _, hf⟩⟩
theorem Wd.told {o i : Int} {s : Bs} {ls : List Tr} {u : Value} {b : Nat} (m : Wd R B A cp L w wk st1) (hb : Bx wk B (.int .i64 o) (.string (bs s)) (.int .i64 0) u (.int .i64 i)) (hr : RowAt wk (Af b wk) ls u) (hbw : w.heap.size ≤ b + 1) (hf : Fine o s 0) : Told R B A cp L w [Tr.mk o s 0 i ls] st1 (.returned (.bool true)) wk :=
 ⟨rfl, m.rd, m.on, fun h => (by cases h), fun _ => ⟨u, hb, hr.keep (fun k hk => ⟨by have := hk.1; omega, hk.2⟩) (fun k hk => rfl), hf⟩⟩
theorem AccAt.lit_new {b : Nat} {cs : Array Value} (h : TreeAt wk (New wa wk) t v) (hcs : cs.toList = cellsT v) (hb : b ≤ wa.heap.size) (hw : wa.heap.size ≤ wk.heap.size) : AccAt b (wk.alloc (.cells cs 24)) [t] (.slice (some ⟨wk.heap.size, 0, none⟩) 1 1) :=
 AccAt.lit1 (h.keep (fun k hk => ⟨⟨by have := hk.1; omega, by have := hk.2; simp; omega⟩, by have := hk.2; omega⟩) (fun k hk => Below.heap_alloc wk _ k hk.2)) (heap_alloc_new _ _) hcs (by omega)
theorem setCell_same {w : World} {g i : Nat} {T : TypeId} {cs : Array Value} {u : Value} (h : w.heap[g]? = some (.cells cs T (0, 0))) (hi : cs[i]? = some u) : w.setCell ⟨g, i, none⟩ u = w := by
 have hk : (w.setCell ⟨g, i, none⟩ u).heap = w.heap := by
  unfold World.setCell
  apply Array.ext_getElem?
  intro k
  rw [Array.getElem?_modify]
  split
  ·rename_i e
   subst e
   dsimp only
   rw [h]
   have : cs.setIfInBounds i u = cs := by
    apply Array.ext_getElem?
    intro j
    rw [Array.getElem?_setIfInBounds]
    split
    ·rename_i e
     subst e
     rw [hi]
     simp [(Array.getElem?_eq_some_iff.1 hi).1]
    ·rfl
   simp [this]
  ·rfl
 have : ∀ (a b : World), a.heap = b.heap → a.tape = b.tape → a.drawn = b.drawn → a.os = b.os → a.output = b.output → a = b := by
  rintro ⟨⟩ ⟨⟩ h1 h2 h3 h4 h5
  simp_all
 exact this _ _ hk rfl rfl rfl rfl
theorem Wd.no {l : List Tr} (m : Wd R B A cp L w wk st1) (hb : wk.heap[B]? = w.heap[B]?) (hl : l = []) : Told R B A cp L w l st1 (.returned (.bool false)) wk :=
 ⟨by rw [hl]; rfl, m.rd, m.on, fun _ => hb, fun h => absurd hl h⟩
end
end
end
end Go.Proofs.Ytejbdoiamhfbjaa
