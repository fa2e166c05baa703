/- The document's reader: a row behind a row; boxes written as a whole. The document's reader: signed. -/
import Derived.Deep.RegionLaw
import Derived.Deep.RegionHeldLaw
import Derived.Deep.LoopGhost
import Derived.Test.YtbpodijcndglgaaPn34
set_option linter.unusedSimpArgs false
set_option linter.unusedVariables false
set_option maxRecDepth 100000
set_option maxHeartbeats 40000000
namespace Go.Proofs.Ytbpodijcndglgaa
section
open Go.RowKit Go.Proofs
section
variable {R cp : Nat} {A : Option Addr} {L : List Tok} {st st1 : St} {w wa wk w' : World} {t : Tr} {l : List Tr} {v : Value} {B : Nat}
theorem append_nothing {P : Program} (base : Nat) (t ty e : TypeId) (i : TypeInfo) (size c : Nat) (ht : P.underlying t = some (.slice e)) (hi : P.info? e = some i)
  (v : Value) (n : Nat) (xs : List Value) (hown : w.ownsRow base e size v n xs) :
  (Builtin.append_ #[t, t] ty #[v, .slice none 0 c]).run P w = .ok v w := by
 rcases hown.2 with ⟨rfl, rfl⟩ | ⟨g, cap, cur, rfl, _, _, hnc, _⟩
 ·simp [Builtin.append_, run_underlying ht, sizeOf, typeInfo, hi, Builtin.lenOf, Builtin.firstCells]
 ·simp [Builtin.append_, run_underlying ht, sizeOf, typeInfo, hi, Builtin.lenOf, Builtin.firstCells, hnc, storeCells]
theorem AccAt.lit1 {g : Nat} {cs : Array Value} (h : TreeAt wk (fun k => (B ≤ k ∧ k < wk.heap.size) ∧ k ≠ g) t v) (hg : wk.heap[g]? = some (.cells cs 24 (0, 0))) (hcs : cs.toList = cellsT v) (hB : B ≤ g) : AccAt B wk [t] (.slice (some ⟨g, 0, none⟩) 1 1) := by
 obtain ⟨-, hl5⟩ := val_one h
 obtain ⟨x, rfl, rfl, h3⟩ := h
 refine ⟨[x], by rw [trees, trees], ⟨by simp [hl5], .inr ⟨g, 1, cs, rfl, hB, hg, Nat.le_refl _, by simp [maxLen], ?_, ?_⟩⟩, fun y hy => ?_⟩
 ·rw [← Array.length_toList, hcs, hl5]
 ·rw [List.take_of_length_le (by rw [hcs, hl5]; exact Nat.le_refl _), hcs]; simp
 ·rw [List.mem_singleton.1 hy]
  exact h3.frame (fun k hk => ⟨hk.1, by simp [Value.ownBlock]; exact fun e => hk.2 e.symm⟩) (fun k hk => rfl)
theorem cells_at {W : World} {S : Nat → Prop} {g : Nat} : ∀ (xs : List Lo) (off : Nat), LoAtL W S g off xs → ∀ j u, (xs.flatMap fun x => cellsT x.val)[j]? = some u → W.cell? ⟨g, off + j, none⟩ = some u
 | [], off, _, j, u, h => by simp at h
 | x :: r, off, h, j, u, hj => by
  rw [LoAtL_cons] at h
  obtain ⟨⟨-, h0, h1, h2, h3, h4⟩, hr⟩ := h
  rw [List.flatMap_cons, cellsT_val] at hj
  by_cases h5 : j < 5
  ·rw [List.getElem?_append_left (by simpa using h5)] at hj
   match j, h5 with
   | 0, _ => cases hj; exact h0
   | 1, _ => cases hj; exact h1
   | 2, _ => cases hj; exact h2
   | 3, _ => cases hj; exact h3
   | 4, _ => cases hj; exact h4
  ·rw [List.getElem?_append_right (by simp; omega)] at hj
   have := cells_at r (off + 5) hr (j - 5) u (by simpa using hj)
   have e : off + 5 + (j - 5) = off + j := by omega
   rwa [e] at this
theorem AccAt.pushL {ts : List Tr} {u : Value} (h : AccAt B w ts v) (hl : RowAt w (fun k => (B ≤ k ∧ k < w.heap.size) ∧ v.ownBlock ≠ some k) l u) (hn : ts.length + l.length ≤ 3000000) (hB : B ≤ w.heap.size) (ty : TypeId) :
    ∃ v' w', (Builtin.append_ #[22, 22] ty #[v, u]).run Try.prog w = .ok v' w' ∧
      (AccAt B w' (ts ++ l) v' ∧ Only (fun k => v.ownBlock = some k) w w' ∧ ∃ A' c', v' = .slice A' (ts.length + l.length) c') := by
  obtain ⟨xs, rfl, h2, h3⟩ := id h
  obtain ⟨ys, rfl, A', c', rfl, ⟨hc1, hc2⟩, h4⟩ := hl
  have hyl : (trees ys).length = ys.length := by rw [trees_map, List.length_map]
  obtain ⟨i0, j0, j1, j2, j3⟩ := info_parts node_info
  by_cases h0 : ys = []
  · subst h0
    obtain ⟨A2, c2, e2, -, -⟩ := h.slice
    have hz : (trees xs ++ trees []) = trees xs := by rw [show trees [] = [] by rw [trees], List.append_nil]
    cases A' with
    | none =>
      refine ⟨v, w, append_nothing B 22 ty 24 i0 5 c' Try.underlying22 j0 v _ _ h2, ?_, Only.refl _ _, A2, c2, ?_⟩
      · rw [hz]; exact h
      · rw [e2]; simp [trees]
    | some a =>
      obtain ⟨v', w', r1, r2, r3, -, r5⟩ := run_append_own_at (P := Try.prog) w B 22 ty 24 i0 _ 5 64 Try.underlying22 j0 j1 j2 j3 rfl (by decide) v (trees xs).length _ h2 a 0 c' [] rfl (fun j u hj => by simp at hj) (by simp) (by unfold maxLen; omega) (by omega) hB
      have hon : Only (fun k => v.ownBlock = some k) w w' := Only.grown r3 fun k e => e
      refine ⟨v', w', r1, ⟨xs, hz.symm, by rw [hz]; simpa using r2, fun y hy => (h3 y hy).frame (fun k hk => ⟨⟨hk.1.1, by have := hon.size; omega⟩, fun e => ?_⟩) (fun k hk => hon.block k hk.1.2 hk.2)⟩, hon, ?_⟩
      · rcases r5 with r5 | r5
        · exact hk.2 (r5 ▸ e)
        · rw [r5] at e
          have := hk.1.2
          simp at e
          omega
      · rcases r2.2 with ⟨e, h0⟩ | ⟨g, cap, cur, e, -⟩
        · exact ⟨none, 0, by rw [e]; have : (trees xs).length = 0 := by omega
                             rw [this]; simp [trees]⟩
        · exact ⟨some ⟨g, 0, none⟩, cap, by rw [e]; simp [trees]⟩
  · have hpos : 0 < ys.length := List.length_pos_iff.2 h0
    obtain ⟨g, off, rfl, hg, ha⟩ := h4 hpos
    have h5 : ∀ y ∈ ys, LoAt w (fun k => (B ≤ k ∧ k < w.heap.size) ∧ v.ownBlock ≠ some k) y := fun y hy => by
      have := LoAtL.part 0 ys ha (y, 0)
      refine this ?_
      have key : ∀ (zs : List Lo), y ∈ zs → (y, 0) ∈ loLevels 0 zs := by
        intro zs
        induction zs with
        | nil => intro h; cases h
        | cons z r ih =>
          intro h
          rw [loLevels_cons]
          rcases List.mem_cons.1 h with rfl | h
          · rw [lo_levels_eq]; exact List.mem_append_left _ (List.mem_cons_self ..)
          · exact List.mem_append_right _ (ih h)
      exact key ys hy
    have hflat : (ys.flatMap fun x => cellsT x.val).length = ys.length * 5 := by
      clear h5 ha hpos h0 hyl hn h4 hc1
      induction ys with
      | nil => rfl
      | cons y r ih => rw [List.flatMap_cons, List.length_append, ih, cellsT_val, List.length_cons]; simp; omega
    have hone : ∀ u ∈ (ys.flatMap fun x => cellsT x.val), u.oneCell' = true := fun u hu => by
      obtain ⟨y, hy, hu⟩ := List.mem_flatMap.1 hu
      exact (val_one ⟨y, rfl, rfl, h5 y hy⟩).1 u hu
    obtain ⟨v', w', r1, r2, r3, -, r5⟩ := run_append_own_at (P := Try.prog) w B 22 ty 24 i0 _ 5 64 Try.underlying22 j0 j1 j2 j3 rfl (by decide) v (trees xs).length _ h2 ⟨g, off, none⟩ ys.length c' (ys.flatMap fun x => cellsT x.val) hflat (fun j u hj => by
      have e : (⟨g, off, none⟩ : Addr).add j = ⟨g, off + j, none⟩ := by unfold Addr.add; split <;> simp_all
      rw [e]
      exact cells_at ys off ha j u hj) hone (by unfold maxLen; omega) (by omega) hB
    have hon : Only (fun k => v.ownBlock = some k) w w' := Only.grown r3 fun k e => e
    refine ⟨v', w', r1, ⟨xs ++ ys, by rw [trees_map, trees_map, trees_map, List.map_append], by rw [List.length_append, hyl, List.flatMap_append]; exact r2, fun y hy => ?_⟩, hon, ?_⟩
    · have hnew : ∀ k, ((B ≤ k ∧ k < w.heap.size) ∧ v.ownBlock ≠ some k) → (B ≤ k ∧ k < w'.heap.size) ∧ v'.ownBlock ≠ some k := fun k hk => ⟨⟨hk.1.1, by have := hon.size; omega⟩, fun e => by
        rcases r5 with r5 | r5
        · exact hk.2 (r5 ▸ e)
        · rw [r5] at e
          have := hk.1.2
          simp at e
          omega⟩
      have hky : ∀ k, ((B ≤ k ∧ k < w.heap.size) ∧ v.ownBlock ≠ some k) → w'.heap[k]? = w.heap[k]? := fun k hk => hon.block k hk.1.2 hk.2
      rcases List.mem_append.1 hy with hy | hy
      · exact (h3 y hy).frame hnew hky
      · exact (h5 y hy).frame hnew hky
    · rcases r2.2 with ⟨-, h0⟩ | ⟨g, cap, cur, e, -⟩
      · omega
      · exact ⟨_, _, by rw [e, hyl]⟩
theorem AccAt.freshL {ts : List Tr} {u : Value} (h : AccAt B wk ts v) (ht : RowAt w' (New wk w') l u) (hB : B ≤ wk.heap.size) : RowAt w' (fun k => (B ≤ k ∧ k < w'.heap.size) ∧ v.ownBlock ≠ some k) l u :=
 ht.keep (fun k hk => ⟨⟨by have := hk.1; omega, hk.2⟩, fun e => by have := (own_blk h e).2; have := hk.1; omega⟩) (fun k hk => rfl)
theorem AccAt.af {ts : List Tr} {b : Nat} (h : AccAt B wk ts v) (hb : b < B) : RowAt wk (Af b wk) ts v := h.row.keep (fun k hk => ⟨by omega, hk.2⟩) (fun k hk => rfl)
theorem Mid.push {ts : List Tr} (m : Mid R A cp L w wk st) (h : AccAt B wk ts v) (hB : w.heap.size < B) (hon : Only (fun k => v.ownBlock = some k) wk w') : Mid R A cp L w w' st := by
 have hR := m.lt
 refine ⟨m.rd.only hon (fun i hi => by have := own_blk h hi; omega), Fr.own m.fr hon (fun i hi => by have := own_blk h hi; omega), (hon.block _ m.gt (fun e => by have := own_blk h e; omega)).trans m.box, m.lt⟩
theorem Bx.push {ts : List Tr} {v0 v1 v2 v3 v4 : Value} {b : Nat} (h : Bx wk b v0 v1 v2 v3 v4) (ha : AccAt B wk ts v) (hb : b < B) (hon : Only (fun k => v.ownBlock = some k) wk w') : Bx w' b v0 v1 v2 v3 v4 :=
 (hon.block _ (heap_lt h) (fun e => by have := own_blk ha e; omega)).trans h
theorem TreeAt.put5a (h : TreeAt wk (Af B wk) t v) (v0 v1 v2 v3 v4 : Value) : TreeAt (put5 wk B v0 v1 v2 v3 v4) (Af B (put5 wk B v0 v1 v2 v3 v4)) t v := ((((h.set 0 v0).set 1 v1).set 2 v2).set 3 v3).set 4 v4
theorem put5_below {n : Nat} (hB : n ≤ B) (v0 v1 v2 v3 v4 : Value) : Below n wk (put5 wk B v0 v1 v2 v3 v4) :=
 ((((below_set wk hB 0 v0).trans (below_set _ hB 1 v1)).trans (below_set _ hB 2 v2)).trans (below_set _ hB 3 v3)).trans (below_set _ hB 4 v4)
theorem AccAt.away {ts : List Tr} {b : Nat} (h : AccAt B wk ts v) (hb : b < B) (i : Nat) (u : Value) : AccAt B (wk.setCell ⟨b, i, none⟩ u) ts v :=
 h.keep (by simp) (fun k h1 h2 => Below.heap_setCell wk _ _ k (by show k ≠ b; omega))
theorem AccAt.put5 {ts : List Tr} {b : Nat} (h : AccAt B wk ts v) (hb : b < B) (v0 v1 v2 v3 v4 : Value) : AccAt B (put5 wk b v0 v1 v2 v3 v4) ts v := ((((h.away hb 0 v0).away hb 1 v1).away hb 2 v2).away hb 3 v3).away hb 4 v4
end
end
section
open Go.RowKit Go.Proofs
section
variable {R cp : Nat} {A : Option Addr} {L : List Tok} {st : St} {F : Nat}
theorem args_len {F : Nat} {acc : List Tr} {m : Bool} {s : St} {l : List Tr} {s' : St} (h : run L F (.args acc m) s = some (l, s')) : l.length ≤ acc.length + F := by
 cases F with
 | zero => cases h
 | succ F =>
  rw [run] at h
  cases m with
  | true => cases h
  | false =>
   cases h
   omega
theorem signed_ok (ih : All R A cp L F) (hF : F ≤ 2000000) (l : List Tr) (st1 : St) (hr : run L (F + 1) .signed st = some (l, st1)) : Spec R A cp L .signed st l st1 := by
 intro w h
 rw [run] at hr
 try dsimp only at hr
 cases ht : tokR L st 0 with | mk kd ts tn ln nl =>
 have m0 := Mid.start h
 obtain ⟨W1, eW1⟩ : ∃ W, w.alloc (.cells #[.int .i64 0, .string ⟨#[]⟩, .int .i64 0, .slice none 0 0, .int .i64 0] 24) = W := ⟨_, rfl⟩
 rw [eW1] at m0
 have hz0 := m0.gt
 have M0 := Lib.hid m0
 have hR := h.lt
 clear h m0
 cases hi : isR L st [33] with
 | true => simp [hi] at hr
 | false =>
  cases hj : isR L st [45] with
  | true => simp [hi, hj] at hr
  | false =>
   cases hn : isR L st [110, 101, 119] with
   | false =>
    cases e1 : run L F .thing st with
    | none => simp [hi, hj, hn, e1] at hr
    | some x =>
    obtain ⟨x, s2⟩ := x
    have e2 : run L F (.parts (hd x) true) s2 = some (l, st1) := by simpa [hi, hj, hn, e1] using hr
    have H1 := Lib.hid (ih .thing _ _ _ e1)
    have H2 := Lib.hid (ih (.parts (hd x) true) _ _ _ e2)
    clear hr e1 e2
    go_enter Try.func99, Try.ntmps99
    have HQ0 := tok_any 0 W1 M0.out.rd (by omega)
    rw [ht] at HQ0
    unfold tokV at HQ0
    have HQ := Lib.hid HQ0
    clear HQ0
    go_wp2_with fail
    go_at_call 46
    refine (HQ.out).mono ?_
    rintro e w2 ⟨rfl, hb⟩
    have f2 := Fr.of_below (R := R) hb (Nat.le_refl _)
    have h2 := M0.out.rd.below hb M0.out.rd.lt
    have z2 := f2.size
    clear hb
    have M2 := Lib.hid ((M0.out.call h2 f2))
    clear h2 f2
    clear HQ
    have fl := tok_line kd ts tn ln nl w2
    have HQ0 := take_any [33] ⟨#[33]⟩ rfl w2 M2.out.rd
    unfold takeR at HQ0
    rw [hi] at HQ0
    have HQ := Lib.hid HQ0
    clear HQ0
    go_wp2_with fail
    go_at_call 48
    refine (HQ.out).mono ?_
    rintro e w3 ⟨rfl, h3, f3⟩
    have h3 : RdAt w3 R A cp L (st) := h3
    have z3 := f3.size
    have M3 := Lib.hid ((M2.out.call h3 f3))
    clear h3 f3
    clear HQ
    have HQ0 := take_any [45] ⟨#[45]⟩ rfl w3 M3.out.rd
    unfold takeR at HQ0
    rw [hj] at HQ0
    have HQ := Lib.hid HQ0
    clear HQ0
    go_wp2_with fail
    go_at_call 48
    refine (HQ.out).mono ?_
    rintro e w4 ⟨rfl, h4, f4⟩
    have h4 : RdAt w4 R A cp L (st) := h4
    have z4 := f4.size
    have M4 := Lib.hid ((M3.out.call h4 f4))
    clear h4 f4
    clear HQ
    obtain ⟨w5, e5, m5, f5, b5, zq5⟩ := M4.out.box_ (.int .i64 0) (.string ⟨#[]⟩) (.int .i64 0) (.slice none 0 0) (.int .i64 0)
    have z5 : w4.heap.size < w5.heap.size := by omega
    clear zq5
    have M5 := Lib.hid (And.intro m5 (b5))
    clear m5 f5 b5
    have HQ0 := take_any [110, 101, 119] ⟨#[110, 101, 119]⟩ rfl w5 M5.out.1.rd
    unfold takeR at HQ0
    rw [hn] at HQ0
    have HQ := Lib.hid HQ0
    clear HQ0
    go_wp2_with fail
    go_at_call 48
    refine (HQ.out).mono ?_
    rintro e w6 ⟨rfl, h6, f6⟩
    have h6 : RdAt w6 R A cp L (st) := h6
    have z6 := f6.size
    have M6 := Lib.hid (And.intro (M5.out.1.call h6 f6) (M5.out.2.fr f6 (by omega)))
    clear h6 f6
    clear HQ
    go_wp2_with fail
    go_at_call 102
    refine (H1.out w6 M6.out.1.rd).mono ?_
    rintro e w7 ⟨v7, rfl, h7, f7, t7⟩
    obtain ⟨A7, c7, rfl, -, -⟩ := t7.form
    have z7 := f7.size
    have M7 := Lib.hid (And.intro (M6.out.1.call h7 f7) (And.intro (M6.out.2.fr f7 (by omega)) (t7.af (B := w4.heap.size) (by omega))))
    clear h7 f7 t7
    obtain ⟨x0, x1, x2, x3, x4⟩ := M7.out.2.1.cells
    obtain ⟨q0, q1, q2, q3, q4⟩ := M7.out.2.1.thaw
    obtain ⟨w8, e8⟩ : ∃ W, put5 w7 w4.heap.size (.int .i64 (hd x).op) (.string (bs (hd x).s)) (.int .i64 (hd x).n) (.slice A7 (hd x).l.length c7) (.int .i64 (hd x).line) = W := ⟨_, rfl⟩
    have m8 := M7.out.1.put5 (B := w4.heap.size) (by omega) (.int .i64 (hd x).op) (.string (bs (hd x).s)) (.int .i64 (hd x).n) (.slice A7 (hd x).l.length c7) (.int .i64 (hd x).line)
    have b8 := M7.out.2.1.put5 (.int .i64 (hd x).op) (.string (bs (hd x).s)) (.int .i64 (hd x).n) (.slice A7 (hd x).l.length c7) (.int .i64 (hd x).line)
    have i8x := M7.out.2.2.put5a (.int .i64 (hd x).op) (.string (bs (hd x).s)) (.int .i64 (hd x).n) (.slice A7 (hd x).l.length c7) (.int .i64 (hd x).line)
    have z8 : w7.heap.size ≤ w8.heap.size := by rw [← e8]; exact (put5_only w7 w4.heap.size (.int .i64 (hd x).op) (.string (bs (hd x).s)) (.int .i64 (hd x).n) (.slice A7 (hd x).l.length c7) (.int .i64 (hd x).line)).size
    rw [e8] at m8 b8 i8x
    dsimp only [put5] at e8
    have M8 := Lib.hid (And.intro m8 (And.intro b8 (i8x)))
    clear m8 b8 i8x
    obtain ⟨x0, x1, x2, x3, x4⟩ := M8.out.2.1.cells
    go_wp2_with fail
    go_at_call 101
    refine (H2.out w8 _ _ M8.out.1.rd (M8.out.2.2.lower (by omega)) (fun k hk => ⟨hk.2, by have := hk.1; omega⟩)).mono ?_
    rintro e w9 ⟨v9, rfl, h9, f9, t9⟩
    have t9 : TreeAt w9 (Af w.heap.size w9) _ _ := t9.keep (fun k hk => by rcases hk with hk | hk <;> exact ⟨by have := hk.1; omega, by have := hk.2; have := f9.size; omega⟩) (fun k hk => rfl)
    obtain ⟨A9, c9, rfl, -, -⟩ := t9.form
    have z9 := f9.size
    have M9 := Lib.hid (And.intro (M8.out.1.call h9 f9) t9)
    clear h9 f9 t9
    obtain ⟨⟨y0, y1, y2, y3, y4⟩, g0, g1, g2, g3, g4⟩ := M9.out.1.facts
    go_wp2
    exact M9.out.1.gives' 2 M9.out.2 rfl rfl rfl
   | true => simp [hi, hj, hn] at hr
end
end
end Go.Proofs.Ytbpodijcndglgaa
