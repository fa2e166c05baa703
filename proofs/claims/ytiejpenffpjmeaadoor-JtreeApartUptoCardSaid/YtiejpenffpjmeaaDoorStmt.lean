/- jtree.page: branches, statement. -/
import Derived.Test.YtiejpenffpjmeaaDoorExpr12
namespace Go.Proofs.YtiejpenffpjmeaaDoor
set_option linter.unusedSimpArgs false
set_option linter.unusedVariables false
open Go.RowKit Go.Proofs

theorem putThree (b k : Nat) (t u s : Bs) (w : World) (L : Bs) (hp : PageAt w b L k) (hlen : (L ++ (t ++ (u ++ s))).length ≤ 100000000) :
    Calls Tryd.prog 46 #[.pointer (some ⟨b, 0, none⟩), .slice (some ⟨w.heap.size, 0, none⟩) 3 3] (w.alloc (.cells #[.string (bs t), .string (bs u), .string (bs s)] 9)) (Put b w (L ++ (t ++ (u ++ s))) k) := by
  have := put_any b [t, u, s] _ _ L k (hp.alloc (.cells #[.string (bs t), .string (bs u), .string (bs s)] 9)) (Strs.mk_ w b hp.lt [t, u, s] 3 rfl (by omega) _ rfl) (by simpa using hlen)
  simp only [List.flatten_cons, List.flatten_nil, List.append_nil] at this
  exact this.mono fun e w' h => h.from_ (Nat.le_of_lt hp.lt)

/-- What a statement's walk is told. -/
structure StmtIn (b k : Nat) (t : Tr) (A : Option Addr) (c : Nat) (w W1 : World) (l R : Bs) : Prop extends ExprIn b k t A c w W1 l R where
  self : t.op = 32 → BraceOK t
def StmtWalk (op : Int) : Prop := ∀ (b k : Nat) (t : Tr) (A : Option Addr) (c : Nat) (w W1 : World) (l R : Bs), t.op = op → StmtIn b k t A c w W1 l R → At w b t (nodeV t (.slice A t.l.length c)) →
  Calls Tryd.prog 45 #[.pointer (some ⟨b, 0, none⟩), .agg #[.int .i64 t.op, .string (bs t.s), .int .i64 t.n, .slice A t.l.length c, .int .i64 t.line]] w (Put b w R k)
theorem row_in {W : World} {b : Nat} {l : List Tr} {A : Option Addr} {n c : Nat} (h : Row W b l (.slice A n c)) (h0 : 0 < l.length) : ∃ g off, A = some ⟨g, off, none⟩ ∧ g < b ∧ AtL W b g off l ∧ l.length ≤ c ∧ c ≤ maxLen := by
  obtain ⟨A', c', e, h1, h2⟩ := h
  cases e
  obtain ⟨g, off, rfl, hg, ha⟩ := h2 h0
  exact ⟨g, off, rfl, hg, ha, h1.1, h1.2⟩
/-- The i-th part, in a later world. -/
theorem part_in {W w2 : World} {b g off : Nat} {l : List Tr} (ha : AtL W b g off l) (hg : g < b) (hp : PG b W w2) (i : Nat) (x : Tr) (hx : l[i]? = some x) :
    ∃ Av cv, At w2 b x (nodeV x (.slice Av x.l.length cv)) ∧ w2.cell? ⟨g, off + i * 5, none⟩ = some (.int .i64 x.op) ∧ w2.cell? ⟨g, off + i * 5 + 1, none⟩ = some (.string (bs x.s)) ∧ w2.cell? ⟨g, off + i * 5 + 2, none⟩ = some (.int .i64 x.n) ∧
      w2.cell? ⟨g, off + i * 5 + 3, none⟩ = some (.slice Av x.l.length cv) ∧ w2.cell? ⟨g, off + i * 5 + 4, none⟩ = some (.int .i64 x.line) := elem_at ha hg hp.below hx
theorem Row.one_ {W : World} {b : Nat} {l : List Tr} {v : Value} {a : Tr} {r : List Tr} (h : Row W b (l.take 1) v) (hl : l = a :: r) : Row W b [a] v := by rw [hl] at h; exact h

set_option maxRecDepth 100000 in
set_option maxHeartbeats 4000000 in
theorem stmt_39 : StmtWalk 39 := by
  intro b k t A c w W1 l R e h hAt
  obtain ⟨g1, g2, hl0⟩ := (inv_39 e).1 h.good
  have htx := txt_form k t (by omega)
  rw [e] at htx
  have hR : R = l ++ ([98, 114, 101, 97, 107, 59]) := by
    rw [h.text, htx]
    first | rfl | simp [form, at_, mixL, mixR, ledL]
  have hroom := h.room
  rw [hR] at hroom
  simp only [mixL, mixR, ledL, List.flatMap_cons, List.flatMap_nil, List.map_cons, List.map_nil, List.take_succ_cons, List.take_zero, List.length_append, List.length_cons, List.length_nil] at hroom
  have hbd := h.bound
  have hlt := h.lt
  have p0 := fun (w2 : World) (M : Bs) (_ : PG b W1 w2) (hp : PageAt w2 b M k) (hM : (M ++ [98, 114, 101, 97, 107, 59]).length ≤ 100000000) => putOne b k [98, 114, 101, 97, 107, 59] w2 M hp hM
  have hfld := fun (w2 : World) (hg : PG b W1 w2) => h.field hg
  have hW : w.alloc (.cells #[.int .i64 39, .string (bs t.s), .int .i64 t.n, .slice A t.l.length c, .int .i64 t.line] 24) = W1 := by rw [← h.world, e]
  have HW := Lib.hid (And.intro hW (And.intro h.pg (And.intro h.page h.size)))
  have HP0 := Lib.hid p0
  have HF := Lib.hid hfld
  have HRt := Lib.hid (And.intro hR hroom)
  rw [e]
  clear htx hR hroom hbd h e hAt hfld hW p0 g1 g2 hl0
  have c0 := HP0.out W1 _ (PG.refl _ _) HW.out.2.2.1 (by have := HRt.out.2; simp only [mixL, mixR, ledL, List.flatMap_cons, List.flatMap_nil, List.map_cons, List.map_nil, List.take_succ_cons, List.take_zero, List.length_append, List.length_cons, List.length_nil] at this ⊢; omega)
  rw [← HW.out.1, World.size_alloc] at c0
  have HC0 := Lib.hid c0
  clear c0
  go_enter Tryd.func45, Tryd.ntmps45
  go_wp2_with fail
  go_at_call 46
  refine HC0.out.mono ?_
  rintro e w2 ⟨⟨v2, rfl⟩, hp2, hg2⟩
  rw [HW.out.1] at hg2
  have G2 := hg2
  have HR := Lib.hid (And.intro hp2 G2)
  clear hp2 G2 hg2
  go_wp2
  refine bodyPost_ret (results_none rfl _ _ _) rfl ?_
  exact ⟨⟨_, rfl⟩, by have := HR.out.1; rw [HRt.out.1]; simpa [mixL, mixR, ledL] using this, HW.out.2.1.trans HR.out.2⟩

set_option maxRecDepth 100000 in
set_option maxHeartbeats 4000000 in
theorem stmt_40 : StmtWalk 40 := by
  intro b k t A c w W1 l R e h hAt
  obtain ⟨g1, g2, hl0⟩ := (inv_40 e).1 h.good
  have htx := txt_form k t (by omega)
  rw [e] at htx
  have hR : R = l ++ ([99, 111, 110, 116, 105, 110, 117, 101, 59]) := by
    rw [h.text, htx]
    first | rfl | simp [form, at_, mixL, mixR, ledL]
  have hroom := h.room
  rw [hR] at hroom
  simp only [mixL, mixR, ledL, List.flatMap_cons, List.flatMap_nil, List.map_cons, List.map_nil, List.take_succ_cons, List.take_zero, List.length_append, List.length_cons, List.length_nil] at hroom
  have hbd := h.bound
  have hlt := h.lt
  have p0 := fun (w2 : World) (M : Bs) (_ : PG b W1 w2) (hp : PageAt w2 b M k) (hM : (M ++ [99, 111, 110, 116, 105, 110, 117, 101, 59]).length ≤ 100000000) => putOne b k [99, 111, 110, 116, 105, 110, 117, 101, 59] w2 M hp hM
  have hfld := fun (w2 : World) (hg : PG b W1 w2) => h.field hg
  have hW : w.alloc (.cells #[.int .i64 40, .string (bs t.s), .int .i64 t.n, .slice A t.l.length c, .int .i64 t.line] 24) = W1 := by rw [← h.world, e]
  have HW := Lib.hid (And.intro hW (And.intro h.pg (And.intro h.page h.size)))
  have HP0 := Lib.hid p0
  have HF := Lib.hid hfld
  have HRt := Lib.hid (And.intro hR hroom)
  rw [e]
  clear htx hR hroom hbd h e hAt hfld hW p0 g1 g2 hl0
  have c0 := HP0.out W1 _ (PG.refl _ _) HW.out.2.2.1 (by have := HRt.out.2; simp only [mixL, mixR, ledL, List.flatMap_cons, List.flatMap_nil, List.map_cons, List.map_nil, List.take_succ_cons, List.take_zero, List.length_append, List.length_cons, List.length_nil] at this ⊢; omega)
  rw [← HW.out.1, World.size_alloc] at c0
  have HC0 := Lib.hid c0
  clear c0
  go_enter Tryd.func45, Tryd.ntmps45
  go_wp2_with fail
  go_at_call 46
  refine HC0.out.mono ?_
  rintro e w2 ⟨⟨v2, rfl⟩, hp2, hg2⟩
  rw [HW.out.1] at hg2
  have G2 := hg2
  have HR := Lib.hid (And.intro hp2 G2)
  clear hp2 G2 hg2
  go_wp2
  refine bodyPost_ret (results_none rfl _ _ _) rfl ?_
  exact ⟨⟨_, rfl⟩, by have := HR.out.1; rw [HRt.out.1]; simpa [mixL, mixR, ledL] using this, HW.out.2.1.trans HR.out.2⟩

set_option maxRecDepth 100000 in
set_option maxHeartbeats 4000000 in
theorem stmt_41 : StmtWalk 41 := by
  intro b k t A c w W1 l R e h hAt
  obtain ⟨g1, g2, g3, xs, bk, hl, g4, g5⟩ := (inv_41 e).1 h.good
  have htx := txt_form k t (by omega)
  rw [e] at htx
  have hR : R = l ++ ([102, 117, 110, 99, 116, 105, 111, 110, 32] ++ (t.s ++ funcB ((xs ++ [bk]).map (Tr.txt k)))) := by
    rw [h.text, htx, hl]
    first | rfl | simp [form, at_, mixL, mixR, ledL]
  have hroom := h.room
  rw [hR] at hroom
  simp only [mixL, mixR, ledL, List.flatMap_cons, List.flatMap_nil, List.map_cons, List.map_nil, List.take_succ_cons, List.take_zero, List.length_append, List.length_cons, List.length_nil] at hroom
  have hbd := h.bound
  have hlt := h.lt
  have p0 := fun (w2 : World) (M : Bs) (_ : PG b W1 w2) (hp : PageAt w2 b M k) (hM : (M ++ ([102, 117, 110, 99, 116, 105, 111, 110, 32] ++ t.s)).length ≤ 100000000) => putTwo b k [102, 117, 110, 99, 116, 105, 111, 110, 32] t.s w2 M hp hM
  have p1 := fun (w2 : World) (M : Bs) (hg : PG b W1 w2) (hp : PageAt w2 b M k) (hM : (M ++ funcB ((xs ++ [bk]).map (Tr.txt k))).length ≤ 100000000) => function_any b k xs bk _ w2 M (by have := h.row; rw [hl] at this; exact this.below hg.below) hp (fun y hy => h.parts y (by rw [hl]; simp [hy]) (by rw [g4 y hy]; decide) (by rw [g4 y hy]; decide)) (h.blocks bk (by rw [hl]; simp) g5) (by have := h.bound; rw [hl] at this; omega) hM (h.env.pg h.one hg)
  have hfld := fun (w2 : World) (hg : PG b W1 w2) => h.field hg
  rw [← hl] at p1
  have hW : w.alloc (.cells #[.int .i64 41, .string (bs t.s), .int .i64 t.n, .slice A t.l.length c, .int .i64 t.line] 24) = W1 := by rw [← h.world, e]
  have HW := Lib.hid (And.intro hW (And.intro h.pg (And.intro h.page h.size)))
  have HP0 := Lib.hid p0
  have HP1 := Lib.hid p1
  have HF := Lib.hid hfld
  rw [← hl] at hR hroom
  have HRt := Lib.hid (And.intro hR hroom)
  rw [e]
  clear htx hR hroom hbd h e hAt hfld hW p0 p1 g1 g2 g3 g4 g5 hl
  have c0 := HP0.out W1 _ (PG.refl _ _) HW.out.2.2.1 (by have := HRt.out.2; simp only [mixL, mixR, ledL, List.flatMap_cons, List.flatMap_nil, List.map_cons, List.map_nil, List.take_succ_cons, List.take_zero, List.length_append, List.length_cons, List.length_nil] at this ⊢; omega)
  rw [← HW.out.1, World.size_alloc] at c0
  have HC0 := Lib.hid c0
  clear c0
  go_enter Tryd.func45, Tryd.ntmps45
  go_wp2_with fail
  go_at_call 46
  refine HC0.out.mono ?_
  rintro e w2 ⟨⟨v2, rfl⟩, hp2, hg2⟩
  rw [HW.out.1] at hg2
  have G2 := hg2
  obtain ⟨-, q0_1, -, q0_3, -⟩ := HF.out w2 G2
  have c1 := HP1.out w2 _ G2 hp2 (by have := HRt.out.2; simp only [mixL, mixR, ledL, List.flatMap_cons, List.flatMap_nil, List.map_cons, List.map_nil, List.take_succ_cons, List.take_zero, List.length_append, List.length_cons, List.length_nil] at this ⊢; omega)
  have HC1 := Lib.hid c1
  have HG2 := Lib.hid G2
  clear c1 G2 hp2 hg2
  go_wp2_with fail
  go_at_call 48
  refine HC1.out.mono ?_
  rintro e w3 ⟨⟨v3, rfl⟩, hp3, hg3⟩
  have G3 := PG.trans HG2.out hg3
  have HR := Lib.hid (And.intro hp3 G3)
  clear hp3 G3 hg3
  go_wp2
  refine bodyPost_ret (results_none rfl _ _ _) rfl ?_
  exact ⟨⟨_, rfl⟩, by have := HR.out.1; rw [HRt.out.1]; simpa [mixL, mixR, ledL] using this, HW.out.2.1.trans HR.out.2⟩

set_option maxRecDepth 100000 in
set_option maxHeartbeats 4000000 in
theorem stmt_31 : StmtWalk 31 := by
  intro b k t A c w W1 l R e h hAt
  obtain ⟨g1, g2, a, hl, g3⟩ := (inv_31 e).1 h.good
  have htx := txt_form k t (by omega)
  rw [e] at htx
  have hall : ∀ y ∈ t.l, ExprOK y := by
    intro y hy
    rw [hl] at hy
    simp only [List.mem_cons, List.not_mem_nil, or_false] at hy
    subst hy; exact h.parts y (by rw [hl]; simp) (eE g3).1 (eE g3).2
  have hR : R = l ++ (mixL [[], [59]] ([a].map (Tr.txt k))) := by
    rw [h.text, htx, hl]
    first | rfl | simp [form, at_, mixL, mixR, ledL]
  rw [show [a] = t.l from hl.symm] at hR
  have hroom := h.room
  rw [hR] at hroom
  simp only [mixL, mixR, ledL, List.flatMap_cons, List.flatMap_nil, List.map_cons, List.map_nil, List.take_succ_cons, List.take_zero, List.length_append, List.length_cons, List.length_nil] at hroom
  have hlen : t.l.length = 1 := by rw [hl]; rfl
  rw [hl] at hroom
  simp only [List.map_cons, List.map_nil, mixL, mixR, List.length_append, List.length_cons, List.length_nil] at hroom
  have hbd := h.bound
  rw [hl] at hbd
  simp only [sizes_cons, sizes_nil] at hbd
  have hlt := h.lt
  have p0 := fun (w2 : World) (M : Bs) (hg : PG b W1 w2) (hp : PageAt w2 b M k) (hM : (M ++ mixL [[], [59]] (t.l.map (Tr.txt k))).length ≤ 100000000) => mixN b k t.l [[], [59]] 2 _ w2 M rfl #[.string ⟨#[]⟩, .string ⟨#[59]⟩] (rfl) (h.row.below hg.below) hp (by rw [hl]; simp) (by omega) hall (by have := h.bound; omega) hM (h.env.pg h.one hg)
  have hfld := fun (w2 : World) (hg : PG b W1 w2) => h.field hg
  have hW : w.alloc (.cells #[.int .i64 31, .string (bs t.s), .int .i64 t.n, .slice A t.l.length c, .int .i64 t.line] 24) = W1 := by rw [← h.world, e]
  have HW := Lib.hid (And.intro hW (And.intro h.pg (And.intro h.page h.size)))
  have HP0 := Lib.hid p0
  have HF := Lib.hid hfld
  have HRt := Lib.hid (And.intro hR (show (l ++ mixL [[], [59]] (t.l.map (Tr.txt k))).length ≤ 100000000 by rw [← hR]; exact h.room))
  rw [e]
  clear htx hR hroom hbd h e hAt hfld hW p0 g1 g2 g3 hall hl hlen
  have c0 := HP0.out W1 _ (PG.refl _ _) HW.out.2.2.1 HRt.out.2
  rw [← HW.out.1, World.size_alloc] at c0
  have HC0 := Lib.hid c0
  clear c0
  go_enter Tryd.func45, Tryd.ntmps45
  go_wp2_with fail
  go_at_call 50
  refine HC0.out.mono ?_
  rintro e w2 ⟨⟨v2, rfl⟩, hp2, hg2⟩
  rw [HW.out.1] at hg2
  have G2 := hg2
  have HR := Lib.hid (And.intro hp2 G2)
  clear hp2 G2 hg2
  go_wp2
  refine bodyPost_ret (results_none rfl _ _ _) rfl ?_
  exact ⟨⟨_, rfl⟩, by rw [HRt.out.1]; exact HR.out.1, HW.out.2.1.trans HR.out.2⟩

set_option maxRecDepth 100000 in
set_option maxHeartbeats 4000000 in
theorem stmt_37 : StmtWalk 37 := by
  intro b k t A c w W1 l R e h hAt
  obtain ⟨g1, g2, a, hl, g3⟩ := (inv_37 e).1 h.good
  have htx := txt_form k t (by omega)
  rw [e] at htx
  have hall : ∀ y ∈ t.l, ExprOK y := by
    intro y hy
    rw [hl] at hy
    simp only [List.mem_cons, List.not_mem_nil, or_false] at hy
    subst hy; exact h.parts y (by rw [hl]; simp) (eE g3).1 (eE g3).2
  have hR : R = l ++ (mixL [[116, 104, 114, 111, 119, 32], [59]] ([a].map (Tr.txt k))) := by
    rw [h.text, htx, hl]
    first | rfl | simp [form, at_, mixL, mixR, ledL]
  rw [show [a] = t.l from hl.symm] at hR
  have hroom := h.room
  rw [hR] at hroom
  simp only [mixL, mixR, ledL, List.flatMap_cons, List.flatMap_nil, List.map_cons, List.map_nil, List.take_succ_cons, List.take_zero, List.length_append, List.length_cons, List.length_nil] at hroom
  have hlen : t.l.length = 1 := by rw [hl]; rfl
  rw [hl] at hroom
  simp only [List.map_cons, List.map_nil, mixL, mixR, List.length_append, List.length_cons, List.length_nil] at hroom
  have hbd := h.bound
  rw [hl] at hbd
  simp only [sizes_cons, sizes_nil] at hbd
  have hlt := h.lt
  have p0 := fun (w2 : World) (M : Bs) (hg : PG b W1 w2) (hp : PageAt w2 b M k) (hM : (M ++ mixL [[116, 104, 114, 111, 119, 32], [59]] (t.l.map (Tr.txt k))).length ≤ 100000000) => mixN b k t.l [[116, 104, 114, 111, 119, 32], [59]] 2 _ w2 M rfl #[.string ⟨#[116, 104, 114, 111, 119, 32]⟩, .string ⟨#[59]⟩] (rfl) (h.row.below hg.below) hp (by rw [hl]; simp) (by omega) hall (by have := h.bound; omega) hM (h.env.pg h.one hg)
  have hfld := fun (w2 : World) (hg : PG b W1 w2) => h.field hg
  have hW : w.alloc (.cells #[.int .i64 37, .string (bs t.s), .int .i64 t.n, .slice A t.l.length c, .int .i64 t.line] 24) = W1 := by rw [← h.world, e]
  have HW := Lib.hid (And.intro hW (And.intro h.pg (And.intro h.page h.size)))
  have HP0 := Lib.hid p0
  have HF := Lib.hid hfld
  have HRt := Lib.hid (And.intro hR (show (l ++ mixL [[116, 104, 114, 111, 119, 32], [59]] (t.l.map (Tr.txt k))).length ≤ 100000000 by rw [← hR]; exact h.room))
  rw [e]
  clear htx hR hroom hbd h e hAt hfld hW p0 g1 g2 g3 hall hl hlen
  have c0 := HP0.out W1 _ (PG.refl _ _) HW.out.2.2.1 HRt.out.2
  rw [← HW.out.1, World.size_alloc] at c0
  have HC0 := Lib.hid c0
  clear c0
  go_enter Tryd.func45, Tryd.ntmps45
  go_wp2_with fail
  go_at_call 50
  refine HC0.out.mono ?_
  rintro e w2 ⟨⟨v2, rfl⟩, hp2, hg2⟩
  rw [HW.out.1] at hg2
  have G2 := hg2
  have HR := Lib.hid (And.intro hp2 G2)
  clear hp2 G2 hg2
  go_wp2
  refine bodyPost_ret (results_none rfl _ _ _) rfl ?_
  exact ⟨⟨_, rfl⟩, by rw [HRt.out.1]; exact HR.out.1, HW.out.2.1.trans HR.out.2⟩

set_option maxRecDepth 100000 in
set_option maxHeartbeats 4000000 in
theorem stmt_30 : StmtWalk 30 := by
  intro b k t A c w W1 l R e h hAt
  obtain ⟨g1, g2, g3⟩ := (inv_30 e).1 h.good
  have htx := txt_form k t (by omega)
  rw [e] at htx
  have hall : ∀ y ∈ t.l, ExprOK y := by
    intro y hy
    rcases g3 with g3 | ⟨a, g3, g4⟩
    · rw [g3] at hy; cases hy
    · rw [g3] at hy
      simp only [List.mem_cons, List.not_mem_nil, or_false] at hy
      subst hy
      exact h.parts y (by rw [g3]; simp) (eE g4).1 (eE g4).2
  have hR : R = l ++ ([118, 97, 114, 32] ++ (t.s ++ (ledL [32, 61, 32] (t.l.map (Tr.txt k)) ++ [59]))) := by
    rw [h.text, htx]
    rcases g3 with g3 | ⟨a, g3, g4⟩ <;> rw [g3] <;> first | rfl | simp [form, at_, mixL, mixR, ledL]
  have hroom := h.room
  rw [hR] at hroom
  simp only [List.flatMap_cons, List.flatMap_nil, List.map_cons, List.map_nil, List.take_succ_cons, List.take_zero, List.length_append, List.length_cons, List.length_nil] at hroom
  have hbd := h.bound
  have hlt := h.lt
  have p0 := fun (w2 : World) (M : Bs) (_ : PG b W1 w2) (hp : PageAt w2 b M k) (hM : (M ++ ([118, 97, 114, 32] ++ t.s)).length ≤ 100000000) => putTwo b k [118, 97, 114, 32] t.s w2 M hp hM
  have p1 := fun (w2 : World) (M : Bs) (hg : PG b W1 w2) (hp : PageAt w2 b M k) (hM : (M ++ ledL [32, 61, 32] (t.l.map (Tr.txt k))).length ≤ 100000000) => led_any b k [32, 61, 32] t.l _ w2 M (h.row.below hg.below) hp hall (by have := h.bound; omega) hM (h.env.pg h.one hg)
  have p2 := fun (w2 : World) (M : Bs) (_ : PG b W1 w2) (hp : PageAt w2 b M k) (hM : (M ++ [59]).length ≤ 100000000) => putOne b k [59] w2 M hp hM
  have hfld := fun (w2 : World) (hg : PG b W1 w2) => h.field hg
  have hW : w.alloc (.cells #[.int .i64 30, .string (bs t.s), .int .i64 t.n, .slice A t.l.length c, .int .i64 t.line] 24) = W1 := by rw [← h.world, e]
  have HW := Lib.hid (And.intro hW (And.intro h.pg (And.intro h.page h.size)))
  have HP0 := Lib.hid p0
  have HP1 := Lib.hid p1
  have HP2 := Lib.hid p2
  have HF := Lib.hid hfld
  have HRt := Lib.hid (And.intro hR hroom)
  rw [e]
  clear htx hR hroom hbd h e hAt hfld hW p0 p1 p2 g1 g2 g3 hall
  have c0 := HP0.out W1 _ (PG.refl _ _) HW.out.2.2.1 (by have := HRt.out.2; simp only [List.flatMap_cons, List.flatMap_nil, List.map_cons, List.map_nil, List.take_succ_cons, List.take_zero, List.length_append, List.length_cons, List.length_nil] at this ⊢; omega)
  rw [← HW.out.1, World.size_alloc] at c0
  have HC0 := Lib.hid c0
  clear c0
  go_enter Tryd.func45, Tryd.ntmps45
  go_wp2_with fail
  go_at_call 46
  refine HC0.out.mono ?_
  rintro e w2 ⟨⟨v2, rfl⟩, hp2, hg2⟩
  rw [HW.out.1] at hg2
  have G2 := hg2
  obtain ⟨-, q0_1, -, q0_3, -⟩ := HF.out w2 G2
  have c1 := HP1.out w2 _ G2 hp2 (by have := HRt.out.2; simp only [List.flatMap_cons, List.flatMap_nil, List.map_cons, List.map_nil, List.take_succ_cons, List.take_zero, List.length_append, List.length_cons, List.length_nil] at this ⊢; omega)
  have HC1 := Lib.hid c1
  have HG2 := Lib.hid G2
  clear c1 G2 hp2 hg2
  go_wp2_with fail
  go_at_call 66
  refine HC1.out.mono ?_
  rintro e w3 ⟨⟨v3, rfl⟩, hp3, hg3⟩
  have G3 := PG.trans HG2.out hg3
  obtain ⟨-, q1_1, -, q1_3, -⟩ := HF.out w3 G3
  have c2 := HP2.out w3 _ G3 hp3 (by have := HRt.out.2; simp only [List.flatMap_cons, List.flatMap_nil, List.map_cons, List.map_nil, List.take_succ_cons, List.take_zero, List.length_append, List.length_cons, List.length_nil] at this ⊢; omega)
  have HC2 := Lib.hid c2
  have HG3 := Lib.hid G3
  clear c2 G3 hp3 hg3
  go_wp2_with fail
  go_at_call 46
  refine HC2.out.mono ?_
  rintro e w4 ⟨⟨v4, rfl⟩, hp4, hg4⟩
  have G4 := PG.trans HG3.out hg4
  have HR := Lib.hid (And.intro hp4 G4)
  clear hp4 G4 hg4
  go_wp2
  refine bodyPost_ret (results_none rfl _ _ _) rfl ?_
  exact ⟨⟨_, rfl⟩, by have := HR.out.1; rw [HRt.out.1]; simpa using this, HW.out.2.1.trans HR.out.2⟩

set_option maxRecDepth 100000 in
set_option maxHeartbeats 4000000 in
theorem stmt_36 : StmtWalk 36 := by
  intro b k t A c w W1 l R e h hAt
  obtain ⟨g1, g2, g3⟩ := (inv_36 e).1 h.good
  have htx := txt_form k t (by omega)
  rw [e] at htx
  have hall : ∀ y ∈ t.l, ExprOK y := by
    intro y hy
    rcases g3 with g3 | ⟨a, g3, g4⟩
    · rw [g3] at hy; cases hy
    · rw [g3] at hy
      simp only [List.mem_cons, List.not_mem_nil, or_false] at hy
      subst hy
      exact h.parts y (by rw [g3]; simp) (eE g4).1 (eE g4).2
  have hR : R = l ++ ([114, 101, 116, 117, 114, 110] ++ (ledL [32] (t.l.map (Tr.txt k)) ++ [59])) := by
    rw [h.text, htx]
    rcases g3 with g3 | ⟨a, g3, g4⟩ <;> rw [g3] <;> first | rfl | simp [form, at_, mixL, mixR, ledL]
  have hroom := h.room
  rw [hR] at hroom
  simp only [List.flatMap_cons, List.flatMap_nil, List.map_cons, List.map_nil, List.take_succ_cons, List.take_zero, List.length_append, List.length_cons, List.length_nil] at hroom
  have hbd := h.bound
  have hlt := h.lt
  have p0 := fun (w2 : World) (M : Bs) (_ : PG b W1 w2) (hp : PageAt w2 b M k) (hM : (M ++ [114, 101, 116, 117, 114, 110]).length ≤ 100000000) => putOne b k [114, 101, 116, 117, 114, 110] w2 M hp hM
  have p1 := fun (w2 : World) (M : Bs) (hg : PG b W1 w2) (hp : PageAt w2 b M k) (hM : (M ++ ledL [32] (t.l.map (Tr.txt k))).length ≤ 100000000) => led_any b k [32] t.l _ w2 M (h.row.below hg.below) hp hall (by have := h.bound; omega) hM (h.env.pg h.one hg)
  have p2 := fun (w2 : World) (M : Bs) (_ : PG b W1 w2) (hp : PageAt w2 b M k) (hM : (M ++ [59]).length ≤ 100000000) => putOne b k [59] w2 M hp hM
  have hfld := fun (w2 : World) (hg : PG b W1 w2) => h.field hg
  have hW : w.alloc (.cells #[.int .i64 36, .string (bs t.s), .int .i64 t.n, .slice A t.l.length c, .int .i64 t.line] 24) = W1 := by rw [← h.world, e]
  have HW := Lib.hid (And.intro hW (And.intro h.pg (And.intro h.page h.size)))
  have HP0 := Lib.hid p0
  have HP1 := Lib.hid p1
  have HP2 := Lib.hid p2
  have HF := Lib.hid hfld
  have HRt := Lib.hid (And.intro hR hroom)
  rw [e]
  clear htx hR hroom hbd h e hAt hfld hW p0 p1 p2 g1 g2 g3 hall
  have c0 := HP0.out W1 _ (PG.refl _ _) HW.out.2.2.1 (by have := HRt.out.2; simp only [List.flatMap_cons, List.flatMap_nil, List.map_cons, List.map_nil, List.take_succ_cons, List.take_zero, List.length_append, List.length_cons, List.length_nil] at this ⊢; omega)
  rw [← HW.out.1, World.size_alloc] at c0
  have HC0 := Lib.hid c0
  clear c0
  go_enter Tryd.func45, Tryd.ntmps45
  go_wp2_with fail
  go_at_call 46
  refine HC0.out.mono ?_
  rintro e w2 ⟨⟨v2, rfl⟩, hp2, hg2⟩
  rw [HW.out.1] at hg2
  have G2 := hg2
  obtain ⟨-, q0_1, -, q0_3, -⟩ := HF.out w2 G2
  have c1 := HP1.out w2 _ G2 hp2 (by have := HRt.out.2; simp only [List.flatMap_cons, List.flatMap_nil, List.map_cons, List.map_nil, List.take_succ_cons, List.take_zero, List.length_append, List.length_cons, List.length_nil] at this ⊢; omega)
  have HC1 := Lib.hid c1
  have HG2 := Lib.hid G2
  clear c1 G2 hp2 hg2
  go_wp2_with fail
  go_at_call 66
  refine HC1.out.mono ?_
  rintro e w3 ⟨⟨v3, rfl⟩, hp3, hg3⟩
  have G3 := PG.trans HG2.out hg3
  obtain ⟨-, q1_1, -, q1_3, -⟩ := HF.out w3 G3
  have c2 := HP2.out w3 _ G3 hp3 (by have := HRt.out.2; simp only [List.flatMap_cons, List.flatMap_nil, List.map_cons, List.map_nil, List.take_succ_cons, List.take_zero, List.length_append, List.length_cons, List.length_nil] at this ⊢; omega)
  have HC2 := Lib.hid c2
  have HG3 := Lib.hid G3
  clear c2 G3 hp3 hg3
  go_wp2_with fail
  go_at_call 46
  refine HC2.out.mono ?_
  rintro e w4 ⟨⟨v4, rfl⟩, hp4, hg4⟩
  have G4 := PG.trans HG3.out hg4
  have HR := Lib.hid (And.intro hp4 G4)
  clear hp4 G4 hg4
  go_wp2
  refine bodyPost_ret (results_none rfl _ _ _) rfl ?_
  exact ⟨⟨_, rfl⟩, by have := HR.out.1; rw [HRt.out.1]; simpa using this, HW.out.2.1.trans HR.out.2⟩

set_option maxRecDepth 100000 in
set_option maxHeartbeats 4000000 in
theorem stmt_38 : StmtWalk 38 := by
  intro b k t A c w W1 l R e h hAt
  obtain ⟨g1, g2, a, y, hl, g3, g4⟩ := (inv_38 e).1 h.good
  have htx := txt_form k t (by omega)
  rw [e] at htx
  have hR : R = l ++ ([116, 114, 121, 32] ++ (a.txt k ++ (([32, 99, 97, 116, 99, 104, 32, 40] ++ (t.s ++ [41, 32])) ++ y.txt k))) := by
    rw [h.text, htx, hl]
    first | rfl | simp [form, at_, mixL, mixR, ledL]
  have hroom := h.room
  rw [hR] at hroom
  simp only [mixL, mixR, ledL, List.flatMap_cons, List.flatMap_nil, List.map_cons, List.map_nil, List.take_succ_cons, List.take_zero, List.length_append, List.length_cons, List.length_nil] at hroom
  have hlen : t.l.length = 2 := by rw [hl]; rfl
  have hbd := h.bound
  rw [hl] at hbd
  simp only [sizes_cons, sizes_nil] at hbd
  obtain ⟨g, off, rfl, hgb, ha, hcl, hcm⟩ := row_in h.row (by rw [hlen]; decide)
  rw [hl] at ha
  rw [hlen] at hcl
  unfold maxLen at hcm
  have hlt := h.lt
  have p0 := fun (w2 : World) (M : Bs) (_ : PG b W1 w2) (hp : PageAt w2 b M k) (hM : (M ++ [116, 114, 121, 32]).length ≤ 100000000) => putOne b k [116, 114, 121, 32] w2 M hp hM
  have p1 := fun (w2 : World) (M : Bs) (hg : PG b W1 w2) (hp : PageAt w2 b M k) (Av : Option Addr) (cv : Nat) (hA : At w2 b a (nodeV a (.slice Av a.l.length cv))) (hM : (M ++ a.txt k).length ≤ 100000000) => h.blocks a (by rw [hl]; simp) g3 b k _ w2 M hA hp (by omega) hM (h.env.pg h.one hg)
  have p2 := fun (w2 : World) (M : Bs) (_ : PG b W1 w2) (hp : PageAt w2 b M k) (hM : (M ++ ([32, 99, 97, 116, 99, 104, 32, 40] ++ (t.s ++ [41, 32]))).length ≤ 100000000) => putThree b k [32, 99, 97, 116, 99, 104, 32, 40] t.s [41, 32] w2 M hp hM
  have p3 := fun (w2 : World) (M : Bs) (hg : PG b W1 w2) (hp : PageAt w2 b M k) (Av : Option Addr) (cv : Nat) (hA : At w2 b y (nodeV y (.slice Av y.l.length cv))) (hM : (M ++ y.txt k).length ≤ 100000000) => h.blocks y (by rw [hl]; simp) g4 b k _ w2 M hA hp (by omega) hM (h.env.pg h.one hg)
  have hfld := fun (w2 : World) (hg : PG b W1 w2) => h.field hg
  have hprt := fun (w2 : World) (hg : PG b W1 w2) (i : Nat) (x : Tr) (hx : [a, y][i]? = some x) => part_in ha hgb hg i x hx
  simp only [hlen] at hfld
  have hW : w.alloc (.cells #[.int .i64 38, .string (bs t.s), .int .i64 t.n, .slice (some ⟨g, off, none⟩) 2 c, .int .i64 t.line] 24) = W1 := by rw [← h.world, e, hlen]
  have HW := Lib.hid (And.intro hW (And.intro h.pg (And.intro h.page h.size)))
  have HP0 := Lib.hid p0
  have HP1 := Lib.hid p1
  have HP2 := Lib.hid p2
  have HP3 := Lib.hid p3
  have HF := Lib.hid hfld
  have HPa := Lib.hid hprt
  have HRt := Lib.hid (And.intro hR hroom)
  rw [e, hlen]
  clear htx hR hroom hbd h e hAt hfld hW p0 p1 p2 p3 g1 g2 g3 g4 hl hlen ha hprt
  have c0 := HP0.out W1 _ (PG.refl _ _) HW.out.2.2.1 (by have := HRt.out.2; simp only [mixL, mixR, ledL, List.flatMap_cons, List.flatMap_nil, List.map_cons, List.map_nil, List.take_succ_cons, List.take_zero, List.length_append, List.length_cons, List.length_nil] at this ⊢; omega)
  rw [← HW.out.1, World.size_alloc] at c0
  have HC0 := Lib.hid c0
  clear c0
  obtain ⟨-, -, -, f3, -⟩ := HF.out W1 (PG.refl _ _)
  go_enter Tryd.func45, Tryd.ntmps45
  go_wp2_with fail
  go_at_call 46
  refine HC0.out.mono ?_
  rintro e w2 ⟨⟨v2, rfl⟩, hp2, hg2⟩
  rw [HW.out.1] at hg2
  have G2 := hg2
  obtain ⟨-, q0_1, -, q0_3, -⟩ := HF.out w2 G2
  obtain ⟨Av0, cv0, hA0, x0_0, x0_1, x0_2, x0_3, x0_4⟩ := HPa.out w2 G2 0 a rfl
  simp only [Nat.zero_mul, Nat.add_zero] at x0_0 x0_1 x0_2 x0_3 x0_4
  have c1 := HP1.out w2 _ G2 hp2 Av0 cv0 hA0 (by have := HRt.out.2; simp only [mixL, mixR, ledL, List.flatMap_cons, List.flatMap_nil, List.map_cons, List.map_nil, List.take_succ_cons, List.take_zero, List.length_append, List.length_cons, List.length_nil] at this ⊢; omega)
  unfold nodeV at c1
  clear hA0
  have HC1 := Lib.hid c1
  have HG2 := Lib.hid G2
  clear c1 G2 hp2 hg2
  go_wp2_with fail
  go_at_call 67
  refine HC1.out.mono ?_
  rintro e w3 ⟨⟨v3, rfl⟩, hp3, hg3⟩
  have G3 := PG.trans HG2.out hg3
  obtain ⟨-, q1_1, -, q1_3, -⟩ := HF.out w3 G3
  have c2 := HP2.out w3 _ G3 hp3 (by have := HRt.out.2; simp only [mixL, mixR, ledL, List.flatMap_cons, List.flatMap_nil, List.map_cons, List.map_nil, List.take_succ_cons, List.take_zero, List.length_append, List.length_cons, List.length_nil] at this ⊢; omega)
  have HC2 := Lib.hid c2
  have HG3 := Lib.hid G3
  clear c2 G3 hp3 hg3
  go_wp2_with fail
  go_at_call 46
  refine HC2.out.mono ?_
  rintro e w4 ⟨⟨v4, rfl⟩, hp4, hg4⟩
  have G4 := PG.trans HG3.out hg4
  obtain ⟨-, q2_1, -, q2_3, -⟩ := HF.out w4 G4
  obtain ⟨Av2, cv2, hA2, x2_0, x2_1, x2_2, x2_3, x2_4⟩ := HPa.out w4 G4 1 y rfl
  simp only [Nat.reduceMul] at x2_0 x2_1 x2_2 x2_3 x2_4
  have c3 := HP3.out w4 _ G4 hp4 Av2 cv2 hA2 (by have := HRt.out.2; simp only [mixL, mixR, ledL, List.flatMap_cons, List.flatMap_nil, List.map_cons, List.map_nil, List.take_succ_cons, List.take_zero, List.length_append, List.length_cons, List.length_nil] at this ⊢; omega)
  unfold nodeV at c3
  clear hA2
  have HC3 := Lib.hid c3
  have HG4 := Lib.hid G4
  clear c3 G4 hp4 hg4
  go_wp2_with fail
  go_at_call 67
  refine HC3.out.mono ?_
  rintro e w5 ⟨⟨v5, rfl⟩, hp5, hg5⟩
  have G5 := PG.trans HG4.out hg5
  have HR := Lib.hid (And.intro hp5 G5)
  clear hp5 G5 hg5
  go_wp2
  refine bodyPost_ret (results_none rfl _ _ _) rfl ?_
  exact ⟨⟨_, rfl⟩, by have := HR.out.1; rw [HRt.out.1]; simpa [mixL, mixR, ledL] using this, HW.out.2.1.trans HR.out.2⟩

set_option maxRecDepth 100000 in
set_option maxHeartbeats 4000000 in
theorem stmt_34 : StmtWalk 34 := by
  intro b k t A c w W1 l R e h hAt
  obtain ⟨g1, g2, a, y, hl, g3, g4⟩ := (inv_34 e).1 h.good
  have htx := txt_form k t (by omega)
  rw [e] at htx
  have hR : R = l ++ (mixL [[119, 104, 105, 108, 101, 32, 40], [41, 32]] ([a].map (Tr.txt k)) ++ y.txt k) := by
    rw [h.text, htx, hl]
    first | rfl | simp [form, at_, mixL, mixR, ledL]
  have hroom := h.room
  rw [hR] at hroom
  simp only [mixL, mixR, ledL, List.flatMap_cons, List.flatMap_nil, List.map_cons, List.map_nil, List.take_succ_cons, List.take_zero, List.length_append, List.length_cons, List.length_nil] at hroom
  have hlen : t.l.length = 2 := by rw [hl]; rfl
  have hbd := h.bound
  rw [hl] at hbd
  simp only [sizes_cons, sizes_nil] at hbd
  obtain ⟨g, off, rfl, hgb, ha, hcl, hcm⟩ := row_in h.row (by rw [hlen]; decide)
  rw [hl] at ha
  rw [hlen] at hcl
  unfold maxLen at hcm
  have hlt := h.lt
  have p0 := fun (w2 : World) (M : Bs) (hg : PG b W1 w2) (hp : PageAt w2 b M k) (hM : (M ++ mixL [[119, 104, 105, 108, 101, 32, 40], [41, 32]] ([a].map (Tr.txt k))).length ≤ 100000000) => mixN b k [a] [[119, 104, 105, 108, 101, 32, 40], [41, 32]] 2 _ w2 M rfl #[.string ⟨#[119, 104, 105, 108, 101, 32, 40]⟩, .string ⟨#[41, 32]⟩] (rfl) (((h.row.below hg.below).take_ (l := t.l) 1 (by rw [hlen]; decide)).one_ hl) hp (by simp) (by omega) (fun y hy => by rw [List.mem_singleton.1 hy]; exact h.parts a (by rw [hl]; simp) (eE g3).1 (eE g3).2) (by simp only [sizes_cons, sizes_nil]; omega) hM (h.env.pg h.one hg)
  have p1 := fun (w2 : World) (M : Bs) (hg : PG b W1 w2) (hp : PageAt w2 b M k) (Av : Option Addr) (cv : Nat) (hA : At w2 b y (nodeV y (.slice Av y.l.length cv))) (hM : (M ++ y.txt k).length ≤ 100000000) => h.blocks y (by rw [hl]; simp) g4 b k _ w2 M hA hp (by omega) hM (h.env.pg h.one hg)
  have hfld := fun (w2 : World) (hg : PG b W1 w2) => h.field hg
  have hprt := fun (w2 : World) (hg : PG b W1 w2) (i : Nat) (x : Tr) (hx : [a, y][i]? = some x) => part_in ha hgb hg i x hx
  simp only [hlen] at hfld
  have hW : w.alloc (.cells #[.int .i64 34, .string (bs t.s), .int .i64 t.n, .slice (some ⟨g, off, none⟩) 2 c, .int .i64 t.line] 24) = W1 := by rw [← h.world, e, hlen]
  have HW := Lib.hid (And.intro hW (And.intro h.pg (And.intro h.page h.size)))
  have HP0 := Lib.hid p0
  have HP1 := Lib.hid p1
  have HF := Lib.hid hfld
  have HPa := Lib.hid hprt
  have HRt := Lib.hid (And.intro hR hroom)
  rw [e, hlen]
  clear htx hR hroom hbd h e hAt hfld hW p0 p1 g1 g2 g3 g4 hl hlen ha hprt
  have c0 := HP0.out W1 _ (PG.refl _ _) HW.out.2.2.1 (by have := HRt.out.2; simp only [mixL, mixR, ledL, List.flatMap_cons, List.flatMap_nil, List.map_cons, List.map_nil, List.take_succ_cons, List.take_zero, List.length_append, List.length_cons, List.length_nil] at this ⊢; omega)
  rw [← HW.out.1, World.size_alloc] at c0
  have HC0 := Lib.hid c0
  clear c0
  obtain ⟨-, -, -, f3, -⟩ := HF.out W1 (PG.refl _ _)
  go_enter Tryd.func45, Tryd.ntmps45
  go_wp2_with fail
  go_at_call 50
  refine HC0.out.mono ?_
  rintro e w2 ⟨⟨v2, rfl⟩, hp2, hg2⟩
  rw [HW.out.1] at hg2
  have G2 := hg2
  obtain ⟨-, q0_1, -, q0_3, -⟩ := HF.out w2 G2
  obtain ⟨Av0, cv0, hA0, x0_0, x0_1, x0_2, x0_3, x0_4⟩ := HPa.out w2 G2 1 y rfl
  simp only [Nat.reduceMul] at x0_0 x0_1 x0_2 x0_3 x0_4
  have c1 := HP1.out w2 _ G2 hp2 Av0 cv0 hA0 (by have := HRt.out.2; simp only [mixL, mixR, ledL, List.flatMap_cons, List.flatMap_nil, List.map_cons, List.map_nil, List.take_succ_cons, List.take_zero, List.length_append, List.length_cons, List.length_nil] at this ⊢; omega)
  unfold nodeV at c1
  clear hA0
  have HC1 := Lib.hid c1
  have HG2 := Lib.hid G2
  clear c1 G2 hp2 hg2
  go_wp2_with fail
  go_at_call 67
  refine HC1.out.mono ?_
  rintro e w3 ⟨⟨v3, rfl⟩, hp3, hg3⟩
  have G3 := PG.trans HG2.out hg3
  have HR := Lib.hid (And.intro hp3 G3)
  clear hp3 G3 hg3
  go_wp2
  refine bodyPost_ret (results_none rfl _ _ _) rfl ?_
  exact ⟨⟨_, rfl⟩, by have := HR.out.1; rw [HRt.out.1]; simpa [mixL, mixR, ledL] using this, HW.out.2.1.trans HR.out.2⟩
end Go.Proofs.YtiejpenffpjmeaaDoor
