/- jtree.page: branches, the rest of statement. -/
import Derived.Test.YtiejpenffpjmeaaDoorStmt
namespace Go.Proofs.YtiejpenffpjmeaaDoor
set_option linter.unusedSimpArgs false
set_option linter.unusedVariables false
open Go.RowKit Go.Proofs

set_option maxRecDepth 100000 in
set_option maxHeartbeats 4000000 in
theorem stmt_32 : StmtWalk 32 := by
  intro b k t A c w W1 l R e h hAt
  have hc := h.self e b k _ W1 l (hAt.below h.pg.below) h.page (by rw [size_eq]; exact h.bound) (by rw [← h.text]; exact h.room) h.env
  rw [← h.text] at hc
  unfold nodeV at hc
  rw [e] at hc
  have hW : w.alloc (.cells #[.int .i64 32, .string (bs t.s), .int .i64 t.n, .slice A t.l.length c, .int .i64 t.line] 24) = W1 := by rw [← h.world, e]
  have hpg := h.pg
  rw [← hW] at hc
  have HW := Lib.hid (And.intro hW hpg)
  have HC := Lib.hid hc
  rw [e]
  clear hc hW hpg h hAt e
  go_enter Tryd.func45, Tryd.ntmps45
  go_wp2_with fail
  go_at_call 67
  refine HC.out.mono ?_
  rintro e w2 ⟨⟨v2, rfl⟩, hp2, hg2⟩
  rw [HW.out.1] at hg2
  have HR := Lib.hid (And.intro hp2 hg2)
  clear hp2 hg2
  go_wp2
  refine bodyPost_ret (results_none rfl _ _ _) rfl ?_
  exact ⟨⟨_, rfl⟩, HR.out.1, HW.out.2.trans HR.out.2⟩

set_option maxRecDepth 100000 in
set_option maxHeartbeats 4000000 in
theorem branches_2 (b k : Nat) (xs : List Tr) (a y : Tr) (A : Option Addr) (c : Nat) (w : World) (l R : Bs) (hl : xs = [a, y]) (hE : ExprOK a) (hBy : BraceOK y) (hrow : Row w b xs (.slice A 2 c)) (hp : PageAt w b l k) (hk : k + sizes xs ≤ 100000) (hroom : R.length ≤ 100000000)
    (hR : R = l ++ (mixL [[105, 102, 32, 40], [41, 32]] ([a].map (Tr.txt k)) ++ y.txt k)) (he : Env w) (h1 : 1 ≤ b) : Calls Tryd.prog 68 #[.pointer (some ⟨b, 0, none⟩), .slice A 2 c] w (Put b w R k) := by
  have hlen : xs.length = 2 := by rw [hl]; rfl
  rw [hR] at hroom
  simp only [mixL, mixR, ledL, List.flatMap_cons, List.flatMap_nil, List.map_cons, List.map_nil, List.take_succ_cons, List.take_zero, List.length_append, List.length_cons, List.length_nil] at hroom
  rw [show Value.slice A 2 c = .slice A xs.length c by rw [hlen]] at hrow
  have hrow2 := hrow
  obtain ⟨g, off, rfl, hgb, ha, hcl, hcm⟩ := row_in hrow2 (by rw [hlen]; decide)
  rw [hl] at ha
  rw [hlen] at hcl
  unfold maxLen at hcm
  rw [hl] at hk
  simp only [sizes_cons, sizes_nil] at hk
  have hlt := hp.lt
  have p0 := fun (w2 : World) (M : Bs) (hg : PG b w w2) (hp : PageAt w2 b M k) (hM : (M ++ mixL [[105, 102, 32, 40], [41, 32]] ([a].map (Tr.txt k))).length ≤ 100000000) => mixN b k [a] [[105, 102, 32, 40], [41, 32]] 2 _ w2 M rfl #[.string ⟨#[105, 102, 32, 40]⟩, .string ⟨#[41, 32]⟩] (rfl) (((hrow.below hg.below).take_ (l := xs) 1 (by rw [hlen]; decide)).one_ hl) hp (by simp) (by omega) (fun y hy => by rw [List.mem_singleton.1 hy]; exact hE) (by simp only [sizes_cons, sizes_nil]; omega) hM (he.pg h1 hg)
  have p1 := fun (w2 : World) (M : Bs) (hg : PG b w w2) (hp : PageAt w2 b M k) (Av : Option Addr) (cv : Nat) (hA : At w2 b y (nodeV y (.slice Av y.l.length cv))) (hM : (M ++ y.txt k).length ≤ 100000000) => hBy b k _ w2 M hA hp (by omega) hM (he.pg h1 hg)
  have hprt := fun (w2 : World) (hg : PG b w w2) (i : Nat) (x : Tr) (hx : [a, y][i]? = some x) => part_in ha hgb hg i x hx
  have HP0 := Lib.hid p0
  have HP1 := Lib.hid p1
  have HPa := Lib.hid hprt
  have HRt := Lib.hid (And.intro hR (And.intro hroom hp))
  clear hl hlen hE hBy hrow hrow2 hk hroom hR he ha hprt hp p0 p1
  have c0 := HP0.out w _ (PG.refl _ _) HRt.out.2.2 (by have := HRt.out.2.1; simp only [mixL, mixR, ledL, List.flatMap_cons, List.flatMap_nil, List.map_cons, List.map_nil, List.take_succ_cons, List.take_zero, List.length_append, List.length_cons, List.length_nil] at this ⊢; omega)
  have HC0 := Lib.hid c0
  clear c0
  go_enter Tryd.func68, Tryd.ntmps68
  go_wp2_with fail
  go_at_call 50
  refine HC0.out.mono ?_
  rintro e w2 ⟨⟨v2, rfl⟩, hp2, hg2⟩
  have G2 := hg2
  obtain ⟨Av0, cv0, hA0, x0_0, x0_1, x0_2, x0_3, x0_4⟩ := HPa.out w2 G2 1 y rfl
  simp only [Nat.reduceMul] at x0_0 x0_1 x0_2 x0_3 x0_4
  have c1 := HP1.out w2 _ G2 hp2 Av0 cv0 hA0 (by have := HRt.out.2.1; simp only [mixL, mixR, ledL, List.flatMap_cons, List.flatMap_nil, List.map_cons, List.map_nil, List.take_succ_cons, List.take_zero, List.length_append, List.length_cons, List.length_nil] at this ⊢; omega)
  unfold nodeV at c1
  clear hA0
  have HC1 := Lib.hid c1
  have HG2 := Lib.hid G2
  clear c1 G2 hp2 hg2
  go_wp2_with fail
  go_at_call 67
  refine HC1.out.mono ?_
  rintro e w3 ⟨⟨v3, rfl⟩, hp3, hg3⟩
  have G3 := PG.trans HG2.out hg3
  have HR := Lib.hid (And.intro hp3 G3)
  clear hp3 G3 hg3
  go_wp2
  refine bodyPost_ret (results_none rfl _ _ _) rfl ?_
  exact ⟨⟨_, rfl⟩, by have := HR.out.1; rw [HRt.out.1]; simpa [mixL, mixR, ledL] using this, HR.out.2⟩

set_option maxRecDepth 100000 in
set_option maxHeartbeats 4000000 in
theorem branches_3 (b k : Nat) (xs : List Tr) (a y z : Tr) (A : Option Addr) (c : Nat) (w : World) (l R : Bs) (hl : xs = [a, y, z]) (hE : ExprOK a) (hBy : BraceOK y) (hBz : BraceOK z) (hrow : Row w b xs (.slice A 3 c)) (hp : PageAt w b l k) (hk : k + sizes xs ≤ 100000) (hroom : R.length ≤ 100000000)
    (hR : R = l ++ (mixL [[105, 102, 32, 40], [41, 32]] ([a].map (Tr.txt k)) ++ (y.txt k ++ ([32, 101, 108, 115, 101, 32] ++ z.txt k)))) (he : Env w) (h1 : 1 ≤ b) : Calls Tryd.prog 68 #[.pointer (some ⟨b, 0, none⟩), .slice A 3 c] w (Put b w R k) := by
  have hlen : xs.length = 3 := by rw [hl]; rfl
  rw [hR] at hroom
  simp only [mixL, mixR, ledL, List.flatMap_cons, List.flatMap_nil, List.map_cons, List.map_nil, List.take_succ_cons, List.take_zero, List.length_append, List.length_cons, List.length_nil] at hroom
  rw [show Value.slice A 3 c = .slice A xs.length c by rw [hlen]] at hrow
  have hrow2 := hrow
  obtain ⟨g, off, rfl, hgb, ha, hcl, hcm⟩ := row_in hrow2 (by rw [hlen]; decide)
  rw [hl] at ha
  rw [hlen] at hcl
  unfold maxLen at hcm
  rw [hl] at hk
  simp only [sizes_cons, sizes_nil] at hk
  have hlt := hp.lt
  have p0 := fun (w2 : World) (M : Bs) (hg : PG b w w2) (hp : PageAt w2 b M k) (hM : (M ++ mixL [[105, 102, 32, 40], [41, 32]] ([a].map (Tr.txt k))).length ≤ 100000000) => mixN b k [a] [[105, 102, 32, 40], [41, 32]] 2 _ w2 M rfl #[.string ⟨#[105, 102, 32, 40]⟩, .string ⟨#[41, 32]⟩] (rfl) (((hrow.below hg.below).take_ (l := xs) 1 (by rw [hlen]; decide)).one_ hl) hp (by simp) (by omega) (fun y hy => by rw [List.mem_singleton.1 hy]; exact hE) (by simp only [sizes_cons, sizes_nil]; omega) hM (he.pg h1 hg)
  have p1 := fun (w2 : World) (M : Bs) (hg : PG b w w2) (hp : PageAt w2 b M k) (Av : Option Addr) (cv : Nat) (hA : At w2 b y (nodeV y (.slice Av y.l.length cv))) (hM : (M ++ y.txt k).length ≤ 100000000) => hBy b k _ w2 M hA hp (by omega) hM (he.pg h1 hg)
  have p2 := fun (w2 : World) (M : Bs) (_ : PG b w w2) (hp : PageAt w2 b M k) (hM : (M ++ [32, 101, 108, 115, 101, 32]).length ≤ 100000000) => putOne b k [32, 101, 108, 115, 101, 32] w2 M hp hM
  have p3 := fun (w2 : World) (M : Bs) (hg : PG b w w2) (hp : PageAt w2 b M k) (Av : Option Addr) (cv : Nat) (hA : At w2 b z (nodeV z (.slice Av z.l.length cv))) (hM : (M ++ z.txt k).length ≤ 100000000) => hBz b k _ w2 M hA hp (by omega) hM (he.pg h1 hg)
  have hprt := fun (w2 : World) (hg : PG b w w2) (i : Nat) (x : Tr) (hx : [a, y, z][i]? = some x) => part_in ha hgb hg i x hx
  have HP0 := Lib.hid p0
  have HP1 := Lib.hid p1
  have HP2 := Lib.hid p2
  have HP3 := Lib.hid p3
  have HPa := Lib.hid hprt
  have HRt := Lib.hid (And.intro hR (And.intro hroom hp))
  clear hl hlen hE hBy hBz hrow hrow2 hk hroom hR he ha hprt hp p0 p1 p2 p3
  have c0 := HP0.out w _ (PG.refl _ _) HRt.out.2.2 (by have := HRt.out.2.1; simp only [mixL, mixR, ledL, List.flatMap_cons, List.flatMap_nil, List.map_cons, List.map_nil, List.take_succ_cons, List.take_zero, List.length_append, List.length_cons, List.length_nil] at this ⊢; omega)
  have HC0 := Lib.hid c0
  clear c0
  go_enter Tryd.func68, Tryd.ntmps68
  go_wp2_with fail
  go_at_call 50
  refine HC0.out.mono ?_
  rintro e w2 ⟨⟨v2, rfl⟩, hp2, hg2⟩
  have G2 := hg2
  obtain ⟨Av0, cv0, hA0, x0_0, x0_1, x0_2, x0_3, x0_4⟩ := HPa.out w2 G2 1 y rfl
  simp only [Nat.reduceMul] at x0_0 x0_1 x0_2 x0_3 x0_4
  have c1 := HP1.out w2 _ G2 hp2 Av0 cv0 hA0 (by have := HRt.out.2.1; simp only [mixL, mixR, ledL, List.flatMap_cons, List.flatMap_nil, List.map_cons, List.map_nil, List.take_succ_cons, List.take_zero, List.length_append, List.length_cons, List.length_nil] at this ⊢; omega)
  unfold nodeV at c1
  clear hA0
  have HC1 := Lib.hid c1
  have HG2 := Lib.hid G2
  clear c1 G2 hp2 hg2
  go_wp2_with fail
  go_at_call 67
  refine HC1.out.mono ?_
  rintro e w3 ⟨⟨v3, rfl⟩, hp3, hg3⟩
  have G3 := PG.trans HG2.out hg3
  have c2 := HP2.out w3 _ G3 hp3 (by have := HRt.out.2.1; simp only [mixL, mixR, ledL, List.flatMap_cons, List.flatMap_nil, List.map_cons, List.map_nil, List.take_succ_cons, List.take_zero, List.length_append, List.length_cons, List.length_nil] at this ⊢; omega)
  have HC2 := Lib.hid c2
  have HG3 := Lib.hid G3
  clear c2 G3 hp3 hg3
  go_wp2_with fail
  go_at_call 46
  refine HC2.out.mono ?_
  rintro e w4 ⟨⟨v4, rfl⟩, hp4, hg4⟩
  have G4 := PG.trans HG3.out hg4
  obtain ⟨Av2, cv2, hA2, x2_0, x2_1, x2_2, x2_3, x2_4⟩ := HPa.out w4 G4 2 z rfl
  simp only [Nat.reduceMul] at x2_0 x2_1 x2_2 x2_3 x2_4
  have c3 := HP3.out w4 _ G4 hp4 Av2 cv2 hA2 (by have := HRt.out.2.1; simp only [mixL, mixR, ledL, List.flatMap_cons, List.flatMap_nil, List.map_cons, List.map_nil, List.take_succ_cons, List.take_zero, List.length_append, List.length_cons, List.length_nil] at this ⊢; omega)
  unfold nodeV at c3
  clear hA2
  have HC3 := Lib.hid c3
  have HG4 := Lib.hid G4
  clear c3 G4 hp4 hg4
  go_wp2_with fail
  go_at_call 67
  refine HC3.out.mono ?_
  rintro e w5 ⟨⟨v5, rfl⟩, hp5, hg5⟩
  have G5 := PG.trans HG4.out hg5
  have HR := Lib.hid (And.intro hp5 G5)
  clear hp5 G5 hg5
  go_wp2
  refine bodyPost_ret (results_none rfl _ _ _) rfl ?_
  exact ⟨⟨_, rfl⟩, by have := HR.out.1; rw [HRt.out.1]; simpa [mixL, mixR, ledL] using this, HR.out.2⟩

set_option maxRecDepth 100000 in
set_option maxHeartbeats 4000000 in
theorem stmt_33 : StmtWalk 33 := by
  intro b k t A c w W1 l R e h hAt
  obtain ⟨g1, g2, g3⟩ := (inv_33 e).1 h.good
  have htx := txt_form k t (by omega)
  rw [e] at htx
  have hc : Calls Tryd.prog 68 #[.pointer (some ⟨b, 0, none⟩), .slice A t.l.length c] W1 (Put b W1 R k) := by
    rcases g3 with ⟨a, y, hl, g3, g4⟩ | ⟨a, y, z, hl, g3, g4, g5⟩
    · have hlen : t.l.length = 2 := by rw [hl]; rfl
      have hrow := h.row
      rw [hlen] at hrow ⊢
      exact branches_2 b k t.l a y A c W1 l R hl (h.parts a (by rw [hl]; simp) (eE g3).1 (eE g3).2) (h.blocks y (by rw [hl]; simp) g4) hrow h.page (by have := h.bound; omega) h.room (by rw [h.text, htx, hl]; simp [form, at_, mixL, mixR]) h.env h.one
    · have hlen : t.l.length = 3 := by rw [hl]; rfl
      have hrow := h.row
      rw [hlen] at hrow ⊢
      exact branches_3 b k t.l a y z A c W1 l R hl (h.parts a (by rw [hl]; simp) (eE g3).1 (eE g3).2) (h.blocks y (by rw [hl]; simp) g4) (h.blocks z (by rw [hl]; simp) g5) hrow h.page (by have := h.bound; omega) h.room (by rw [h.text, htx, hl]; simp [form, at_, mixL, mixR]) h.env h.one
  have hW : w.alloc (.cells #[.int .i64 33, .string (bs t.s), .int .i64 t.n, .slice A t.l.length c, .int .i64 t.line] 24) = W1 := by rw [← h.world, e]
  have hpg := h.pg
  rw [← hW] at hc
  have HW := Lib.hid (And.intro hW hpg)
  have HC := Lib.hid hc
  rw [e]
  clear hc hW hpg h hAt e htx g1 g2 g3
  go_enter Tryd.func45, Tryd.ntmps45
  go_wp2_with fail
  go_at_call 68
  refine HC.out.mono ?_
  rintro e w2 ⟨⟨v2, rfl⟩, hp2, hg2⟩
  rw [HW.out.1] at hg2
  have HR := Lib.hid (And.intro hp2 hg2)
  clear hp2 hg2
  go_wp2
  refine bodyPost_ret (results_none rfl _ _ _) rfl ?_
  exact ⟨⟨_, rfl⟩, HR.out.1, HW.out.2.trans HR.out.2⟩

set_option maxRecDepth 100000 in
set_option maxHeartbeats 4000000 in
theorem stmt_35 : StmtWalk 35 := by
  intro b k t A c w W1 l R e h hAt
  obtain ⟨g1, g2, a, y, hl, g3, g4⟩ := (inv_35 e).1 h.good
  have htx := txt_form k t (by omega)
  rw [e] at htx
  have hR : R = l ++ (mixL [[102, 111, 114, 32, 40, 118, 97, 114, 32] ++ t.s ++ [32, 105, 110, 32], [41, 32]] ([a].map (Tr.txt k)) ++ y.txt k) := by
    rw [h.text, htx, hl]
    simp [form, at_, mixL, mixR]
  have hroom := h.room
  rw [hR] at hroom
  simp only [mixL, mixR, ledL, List.flatMap_cons, List.flatMap_nil, List.map_cons, List.map_nil, List.take_succ_cons, List.take_zero, List.length_append, List.length_cons, List.length_nil] at hroom
  have hlen : t.l.length = 2 := by rw [hl]; rfl
  have hbd := h.bound
  rw [hl] at hbd
  simp only [sizes_cons, sizes_nil] at hbd
  obtain ⟨g, off, rfl, hgb, ha, hcl, hcm⟩ := row_in h.row (by rw [hlen]; decide)
  rw [hl] at ha
  rw [hlen] at hcl
  unfold maxLen at hcm
  have hlt := h.lt
  have hlo := Nat.le_of_lt h.page.lt
  have hm := mixN b k [a] [[102, 111, 114, 32, 40, 118, 97, 114, 32] ++ t.s ++ [32, 105, 110, 32], [41, 32]] 2 _ W1.drew l rfl #[.string (⟨#[102, 111, 114, 32, 40, 118, 97, 114, 32]⟩ ++ bs t.s ++ ⟨#[32, 105, 110, 32]⟩), .string ⟨#[41, 32]⟩] (by rw [show (⟨#[102, 111, 114, 32, 40, 118, 97, 114, 32]⟩ : ByteArray) = bs [102, 111, 114, 32, 40, 118, 97, 114, 32] from rfl, show (⟨#[32, 105, 110, 32]⟩ : ByteArray) = bs [32, 105, 110, 32] from rfl, bs_cat, bs_cat]; rfl) (((h.row.below (Below.refl b W1).drew).take_ (l := t.l) 1 (by rw [hlen]; decide)).one_ hl) (h.page.below (Below.refl W1.heap.size W1).drew) (by simp) (by omega) (fun y hy => by rw [List.mem_singleton.1 hy]; exact h.parts a (by rw [hl]; simp) (eE g3).1 (eE g3).2) (by simp only [sizes_cons, sizes_nil]; omega) (by simp only [mixL, mixR, ledL, List.flatMap_cons, List.flatMap_nil, List.map_cons, List.map_nil, List.take_succ_cons, List.take_zero, List.length_append, List.length_cons, List.length_nil]; omega) (h.env.below (Below.refl W1.heap.size W1).drew)
  have hdr : PG b W1 W1.drew := PG.of_below (Below.refl W1.heap.size W1).drew hlo
  rw [show (W1.drew.alloc (.cells #[.string (⟨#[102, 111, 114, 32, 40, 118, 97, 114, 32]⟩ ++ bs t.s ++ ⟨#[32, 105, 110, 32]⟩), .string ⟨#[41, 32]⟩] 9)) = (W1.alloc (.cells #[.string (⟨#[102, 111, 114, 32, 40, 118, 97, 114, 32]⟩ ++ bs t.s ++ ⟨#[32, 105, 110, 32]⟩), .string ⟨#[41, 32]⟩] 9)).drew from rfl, show W1.drew.heap.size = W1.heap.size from rfl] at hm
  have p1 := fun (w2 : World) (M : Bs) (hg : PG b W1 w2) (hp : PageAt w2 b M k) (Av : Option Addr) (cv : Nat) (hA : At w2 b y (nodeV y (.slice Av y.l.length cv))) (hM : (M ++ y.txt k).length ≤ 100000000) => h.blocks y (by rw [hl]; simp) g4 b k _ w2 M hA hp (by omega) hM (h.env.pg h.one hg)
  have hfld := fun (w2 : World) (hg : PG b W1 w2) => h.field hg
  have hprt := fun (w2 : World) (hg : PG b W1 w2) (i : Nat) (x : Tr) (hx : [a, y][i]? = some x) => part_in ha hgb hg i x hx
  simp only [hlen] at hfld
  have hqs : (bs t.s).size ≤ 100000000 := by rw [bs_size]; omega
  have hfin := fun (w2 : World) (hb : Below W1.heap.size W1 w2) => PG.of_below hb (Nat.le_of_lt h.page.lt)
  have hpg := h.pg
  have hz := h.size
  have HW := Lib.hid (And.intro (show w.alloc (.cells #[.int .i64 35, .string (bs t.s), .int .i64 t.n, .slice (some ⟨g, off, none⟩) 2 c, .int .i64 t.line] 24) = W1 by rw [← h.world, e, hlen]) (And.intro hpg hz))
  obtain ⟨q, eq⟩ : ∃ q, bs t.s = q := ⟨_, rfl⟩
  rw [e, hlen]
  rw [eq] at hqs hm ⊢
  simp only [eq] at hfld HW
  have HM := Lib.hid (And.intro hm hdr)
  have HP1 := Lib.hid p1
  have HF := Lib.hid hfld
  have HPa := Lib.hid hprt
  have HRt := Lib.hid (And.intro hR hroom)
  clear htx hR hroom hbd h e hAt hfld p1 g1 g2 g3 g4 hl hlen ha hprt hm hpg hz eq hfin hdr
  go_enter Tryd.func45, Tryd.ntmps45
  go_wp2
  rw [HW.out.1]
  have f1 := (HF.out W1 (PG.refl _ _)).2.1
  have f3 := (HF.out W1 (PG.refl _ _)).2.2.2.1
  have hc1 : 1 ≤ c := by omega
  have hc2 : (1 : Int) ≤ (c : Int) := by omega
  have hc3 : ¬ ((c : Int) < 1) := by omega
  have hsum : ¬ (9223372036854775807 < 9 + q.size) := by omega
  have hsum2 : 9 + q.size ≤ 9223372036854775807 := by omega
  have hsum3 : ¬ (9223372036854775807 < 9 + q.size + 4) := by omega
  have hsum4 : 9 + q.size + 4 ≤ 9223372036854775807 := by omega
  go_region_held3 (fun w' => w'.cell? ⟨w.heap.size, 1, none⟩ = some (.string q) ∧ w'.cell? ⟨w.heap.size, 3, none⟩ = some (.slice (some ⟨g, off, none⟩) 2 c))
    (first | go_keep | (exact ⟨(HF.out _ hg2).2.1, (HF.out _ hg2).2.2.2.1⟩))
    (first
      | (go_at_call 50; refine HM.out.1.mono ?_; rintro e w2 ⟨⟨v2, rfl⟩, hp2, hg2'⟩; have hg2 : PG b W1 w2 := HM.out.2.trans hg2'; clear hg2'; have HPP := Lib.hid hp2; clear hp2))
  have hp2 := HPP.out
  have G2 := hg2
  obtain ⟨-, -, -, q0_3, -⟩ := HF.out w2 G2
  obtain ⟨Av0, cv0, hA0, x0_0, x0_1, x0_2, x0_3, x0_4⟩ := HPa.out w2 G2 1 y rfl
  simp only [Nat.reduceMul] at x0_0 x0_1 x0_2 x0_3 x0_4
  have c1 := HP1.out w2 _ G2 hp2 Av0 cv0 hA0 (by have := HRt.out.2; simp only [mixL, mixR, ledL, List.flatMap_cons, List.flatMap_nil, List.map_cons, List.map_nil, List.take_succ_cons, List.take_zero, List.length_append, List.length_cons, List.length_nil] at this ⊢; omega)
  unfold nodeV at c1
  clear hA0
  have HC1 := Lib.hid c1
  have HG2 := Lib.hid G2
  clear c1 G2 hp2 hg2
  go_wp2_with fail
  go_at_call 67
  refine HC1.out.mono ?_
  rintro e w3 ⟨⟨v3, rfl⟩, hp3, hg3⟩
  have G3 := PG.trans HG2.out hg3
  have HR := Lib.hid (And.intro hp3 G3)
  clear hp3 G3 hg3
  go_wp2
  refine bodyPost_ret (results_none rfl _ _ _) rfl ?_
  exact ⟨⟨_, rfl⟩, by have := HR.out.1; rw [HRt.out.1]; simpa [mixL, mixR, ledL] using this, HW.out.2.1.trans HR.out.2⟩
end Go.Proofs.YtiejpenffpjmeaaDoor
