/- jtree.page.expr: the other operations. -/
import Derived.Test.YtiejpenffpjmeaaDoorExpr
import Derived.Deep.RegionHeld3
namespace Go.Proofs.YtiejpenffpjmeaaDoor
open Go.RowKit Go.Proofs

theorem ExprIn.field {b k c : Nat} {t : Tr} {A : Option Addr} {w W1 w2 : World} {l R : Bs} (h : ExprIn b k t A c w W1 l R) (hg : PG b W1 w2) :
    w2.cell? ⟨w.heap.size, 0, none⟩ = some (.int .i64 t.op) ∧ w2.cell? ⟨w.heap.size, 1, none⟩ = some (.string (bs t.s)) ∧ w2.cell? ⟨w.heap.size, 2, none⟩ = some (.int .i64 t.n) ∧ w2.cell? ⟨w.heap.size, 3, none⟩ = some (.slice A t.l.length c) ∧ w2.cell? ⟨w.heap.size, 4, none⟩ = some (.int .i64 t.line) := by
  have hb : w.heap.size ≠ b := by have := h.lt; omega
  exact ⟨(hg.cell h.box hb rfl 0).trans (cell_of_row _ _ 0 _ _ _ h.box), (hg.cell h.box hb rfl 1).trans (cell_of_row _ _ 1 _ _ _ h.box), (hg.cell h.box hb rfl 2).trans (cell_of_row _ _ 2 _ _ _ h.box), (hg.cell h.box hb rfl 3).trans (cell_of_row _ _ 3 _ _ _ h.box), (hg.cell h.box hb rfl 4).trans (cell_of_row _ _ 4 _ _ _ h.box)⟩

set_option maxRecDepth 100000 in
set_option maxHeartbeats 4000000 in
theorem expr_13 : ExprWalk 13 := by
  intro b k t A c w W1 l R e h hAt
  obtain ⟨g1, g2, a, hl, g4⟩ := (inv_13 e).1 h.good
  have htx := txt_form k t (by omega)
  rw [e, hl] at htx
  have hR : R = l ++ (if a.op = 2 then [40] ++ (a.txt k ++ ([41, 46] ++ t.s)) else a.txt k ++ ([46] ++ t.s)) := by
    rw [h.text, htx]
    rfl
  have hm := member_any b k t a _ W1 l hl (h.parts a (by rw [hl]; simp) (eE g4).1 (eE g4).2) (hAt.below h.pg.below) h.page (by rw [size_eq]; exact h.bound) (by rw [← hR]; exact h.room) h.env
  rw [← hR, ← h.world] at hm
  unfold nodeV at hm
  have hm2 := hm.mono fun e w' hp => h.done (by rw [h.world] at hp; exact hp)
  rw [e] at hm2 ⊢
  have HC := Lib.hid hm2
  clear hm hm2 htx h hR hl e hAt g1 g2
  go_enter Tryd.func33, Tryd.ntmps33
  go_wp2_with (go_at_call 52; refine HC.out.mono ?_; rintro e w2 ⟨⟨v2, rfl⟩, hp2, hg2⟩; have HR := Lib.hid (And.intro hp2 hg2); clear hp2 hg2)
  refine bodyPost_ret (results_none rfl _ _ _) rfl ?_
  exact ⟨⟨_, rfl⟩, HR.out.1, HR.out.2⟩

set_option maxRecDepth 100000 in
set_option maxHeartbeats 4000000 in
theorem expr_15 : ExprWalk 15 := by
  intro b k t A c w W1 l R e h _
  obtain ⟨g1, g2, g3, a, r, hl, g4⟩ := (inv_15 e).1 h.good
  have htx := txt_form k t (by omega)
  rw [e, hl] at htx
  have hR : R = l ++ (a.txt k ++ ([40] ++ (commas (r.map (Tr.txt k)) ++ [41]))) := by
    rw [h.text, htx]
    rfl
  have hrow := h.row
  rw [hl] at hrow
  have hm := call_any b k a r _ W1 l hrow h.page (fun y hy => h.parts y (by rw [hl]; exact hy) (eE (g4 y hy)).1 (eE (g4 y hy)).2) (by have := h.bound; rw [hl] at this; omega) (by rw [← hR]; exact h.room) h.env
  rw [← hR, ← h.world, ← hl] at hm
  have hm2 := hm.mono fun e w' hp => h.done (by rw [h.world] at hp; exact hp)
  rw [e] at hm2 ⊢
  have HC := Lib.hid hm2
  clear hm hm2 htx h hR hl e hrow g1 g2 g3 g4
  go_enter Tryd.func33, Tryd.ntmps33
  go_wp2_with (go_at_call 53; refine HC.out.mono ?_; rintro e w2 ⟨⟨v2, rfl⟩, hp2, hg2⟩; have HR := Lib.hid (And.intro hp2 hg2); clear hp2 hg2)
  refine bodyPost_ret (results_none rfl _ _ _) rfl ?_
  exact ⟨⟨_, rfl⟩, HR.out.1, HR.out.2⟩

set_option maxRecDepth 100000 in
set_option maxHeartbeats 4000000 in
theorem expr_16 : ExprWalk 16 := by
  intro b k t A c w W1 l R e h _
  obtain ⟨g1, g2, g3, a, r, hl, g4⟩ := (inv_16 e).1 h.good
  have htx := txt_form k t (by omega)
  rw [e, hl] at htx
  have hR : R = l ++ ((if a.op = 1 then [40, 110, 101, 119, 32] ++ a.txt k else [40, 110, 101, 119, 32, 40] ++ (a.txt k ++ [41])) ++ ([40] ++ (commas (r.map (Tr.txt k)) ++ [41, 41]))) := by
    rw [h.text, htx]
    rfl
  have hrow := h.row
  rw [hl] at hrow
  have hm := construction_any b k a r _ W1 l hrow h.page (fun y hy => h.parts y (by rw [hl]; exact hy) (eE (g4 y hy)).1 (eE (g4 y hy)).2) (by have := h.bound; rw [hl] at this; omega) (by rw [← hR]; exact h.room) h.env
  rw [← hR, ← h.world, ← hl] at hm
  have hm2 := hm.mono fun e w' hp => h.done (by rw [h.world] at hp; exact hp)
  rw [e] at hm2 ⊢
  have HC := Lib.hid hm2
  clear hm hm2 htx h hR hl e hrow g1 g2 g3 g4
  go_enter Tryd.func33, Tryd.ntmps33
  go_wp2_with (go_at_call 54; refine HC.out.mono ?_; rintro e w2 ⟨⟨v2, rfl⟩, hp2, hg2⟩; have HR := Lib.hid (And.intro hp2 hg2); clear hp2 hg2)
  refine bodyPost_ret (results_none rfl _ _ _) rfl ?_
  exact ⟨⟨_, rfl⟩, HR.out.1, HR.out.2⟩

set_option maxRecDepth 100000 in
set_option maxHeartbeats 4000000 in
theorem expr_1 : ExprWalk 1 := by
  intro b k t A c w W1 l R e h hAt
  have hroom := h.room
  rw [h.text, List.length_append] at hroom
  have hm := leaf_any k t _ W1 (At.keep (n' := W1.heap.size) t (hAt.below h.pg.below) (by have := h.lt; have := h.size; omega) fun _ _ => rfl) h.good (by omega) (by omega) (by omega) h.env
  have hput := fun (w2 : World) (hb : Below W1.heap.size W1 w2) => putOne b k (t.txt k) w2 l (h.page.below hb) (by rw [← h.text]; exact h.room)
  rw [← h.text] at hput
  have hfin := fun (w2 : World) (hb : Below W1.heap.size W1 w2) => PG.trans h.pg (PG.of_below hb (Nat.le_of_lt h.page.lt))
  rw [← h.world] at hm hput hfin
  unfold nodeV at hm
  rw [e] at hm hput hfin ⊢
  have HC := Lib.hid hm
  have HP := Lib.hid (And.intro hput hfin)
  obtain ⟨T, eT⟩ : ∃ T, t.txt k = T := ⟨_, rfl⟩
  rw [eT] at HC HP
  clear hm hput hfin h e hAt hroom eT
  go_enter Tryd.func33, Tryd.ntmps33
  go_wp2_with (first
    | (go_at_call 55; refine HC.out.mono ?_; rintro e w2 ⟨rfl, hb⟩; have HC2 := Lib.hid (HP.out.1 w2 hb); have HG := Lib.hid (HP.out.2 w2 hb); clear hb)
    | (go_at_call 46; refine HC2.out.mono ?_; rintro e w3 ⟨⟨v3, rfl⟩, hp3, hg3⟩; have HR := Lib.hid (And.intro hp3 hg3); clear hp3 hg3))
  refine bodyPost_ret (results_none rfl _ _ _) rfl ?_
  exact ⟨⟨_, rfl⟩, HR.out.1, HG.out.trans HR.out.2⟩

set_option maxRecDepth 100000 in
set_option maxHeartbeats 4000000 in
theorem expr_2 : ExprWalk 2 := by
  intro b k t A c w W1 l R e h hAt
  have hroom := h.room
  rw [h.text, List.length_append] at hroom
  have hm := leaf_any k t _ W1 (At.keep (n' := W1.heap.size) t (hAt.below h.pg.below) (by have := h.lt; have := h.size; omega) fun _ _ => rfl) h.good (by omega) (by omega) (by omega) h.env
  have hput := fun (w2 : World) (hb : Below W1.heap.size W1 w2) => putOne b k (t.txt k) w2 l (h.page.below hb) (by rw [← h.text]; exact h.room)
  rw [← h.text] at hput
  have hfin := fun (w2 : World) (hb : Below W1.heap.size W1 w2) => PG.trans h.pg (PG.of_below hb (Nat.le_of_lt h.page.lt))
  rw [← h.world] at hm hput hfin
  unfold nodeV at hm
  rw [e] at hm hput hfin ⊢
  have HC := Lib.hid hm
  have HP := Lib.hid (And.intro hput hfin)
  obtain ⟨T, eT⟩ : ∃ T, t.txt k = T := ⟨_, rfl⟩
  rw [eT] at HC HP
  clear hm hput hfin h e hAt hroom eT
  go_enter Tryd.func33, Tryd.ntmps33
  go_wp2_with (first
    | (go_at_call 55; refine HC.out.mono ?_; rintro e w2 ⟨rfl, hb⟩; have HC2 := Lib.hid (HP.out.1 w2 hb); have HG := Lib.hid (HP.out.2 w2 hb); clear hb)
    | (go_at_call 46; refine HC2.out.mono ?_; rintro e w3 ⟨⟨v3, rfl⟩, hp3, hg3⟩; have HR := Lib.hid (And.intro hp3 hg3); clear hp3 hg3))
  refine bodyPost_ret (results_none rfl _ _ _) rfl ?_
  exact ⟨⟨_, rfl⟩, HR.out.1, HG.out.trans HR.out.2⟩

set_option maxRecDepth 100000 in
set_option maxHeartbeats 4000000 in
theorem expr_3 : ExprWalk 3 := by
  intro b k t A c w W1 l R e h hAt
  have hroom := h.room
  rw [h.text, List.length_append] at hroom
  have hm := leaf_any k t _ W1 (At.keep (n' := W1.heap.size) t (hAt.below h.pg.below) (by have := h.lt; have := h.size; omega) fun _ _ => rfl) h.good (by omega) (by omega) (by omega) h.env
  have hput := fun (w2 : World) (hb : Below W1.heap.size W1 w2) => putOne b k (t.txt k) w2 l (h.page.below hb) (by rw [← h.text]; exact h.room)
  rw [← h.text] at hput
  have hfin := fun (w2 : World) (hb : Below W1.heap.size W1 w2) => PG.trans h.pg (PG.of_below hb (Nat.le_of_lt h.page.lt))
  rw [← h.world] at hm hput hfin
  unfold nodeV at hm
  rw [e] at hm hput hfin ⊢
  have HC := Lib.hid hm
  have HP := Lib.hid (And.intro hput hfin)
  obtain ⟨T, eT⟩ : ∃ T, t.txt k = T := ⟨_, rfl⟩
  rw [eT] at HC HP
  clear hm hput hfin h e hAt hroom eT
  go_enter Tryd.func33, Tryd.ntmps33
  go_wp2_with (first
    | (go_at_call 55; refine HC.out.mono ?_; rintro e w2 ⟨rfl, hb⟩; have HC2 := Lib.hid (HP.out.1 w2 hb); have HG := Lib.hid (HP.out.2 w2 hb); clear hb)
    | (go_at_call 46; refine HC2.out.mono ?_; rintro e w3 ⟨⟨v3, rfl⟩, hp3, hg3⟩; have HR := Lib.hid (And.intro hp3 hg3); clear hp3 hg3))
  refine bodyPost_ret (results_none rfl _ _ _) rfl ?_
  exact ⟨⟨_, rfl⟩, HR.out.1, HG.out.trans HR.out.2⟩

set_option maxRecDepth 100000 in
set_option maxHeartbeats 4000000 in
theorem expr_4 : ExprWalk 4 := by
  intro b k t A c w W1 l R e h hAt
  have hroom := h.room
  rw [h.text, List.length_append] at hroom
  have hm := leaf_any k t _ W1 (At.keep (n' := W1.heap.size) t (hAt.below h.pg.below) (by have := h.lt; have := h.size; omega) fun _ _ => rfl) h.good (by omega) (by omega) (by omega) h.env
  have hput := fun (w2 : World) (hb : Below W1.heap.size W1 w2) => putOne b k (t.txt k) w2 l (h.page.below hb) (by rw [← h.text]; exact h.room)
  rw [← h.text] at hput
  have hfin := fun (w2 : World) (hb : Below W1.heap.size W1 w2) => PG.trans h.pg (PG.of_below hb (Nat.le_of_lt h.page.lt))
  rw [← h.world] at hm hput hfin
  unfold nodeV at hm
  rw [e] at hm hput hfin ⊢
  have HC := Lib.hid hm
  have HP := Lib.hid (And.intro hput hfin)
  obtain ⟨T, eT⟩ : ∃ T, t.txt k = T := ⟨_, rfl⟩
  rw [eT] at HC HP
  clear hm hput hfin h e hAt hroom eT
  go_enter Tryd.func33, Tryd.ntmps33
  go_wp2_with (first
    | (go_at_call 55; refine HC.out.mono ?_; rintro e w2 ⟨rfl, hb⟩; have HC2 := Lib.hid (HP.out.1 w2 hb); have HG := Lib.hid (HP.out.2 w2 hb); clear hb)
    | (go_at_call 46; refine HC2.out.mono ?_; rintro e w3 ⟨⟨v3, rfl⟩, hp3, hg3⟩; have HR := Lib.hid (And.intro hp3 hg3); clear hp3 hg3))
  refine bodyPost_ret (results_none rfl _ _ _) rfl ?_
  exact ⟨⟨_, rfl⟩, HR.out.1, HG.out.trans HR.out.2⟩

set_option maxRecDepth 100000 in
set_option maxHeartbeats 4000000 in
theorem expr_5 : ExprWalk 5 := by
  intro b k t A c w W1 l R e h hAt
  have hroom := h.room
  rw [h.text, List.length_append] at hroom
  have hm := leaf_any k t _ W1 (At.keep (n' := W1.heap.size) t (hAt.below h.pg.below) (by have := h.lt; have := h.size; omega) fun _ _ => rfl) h.good (by omega) (by omega) (by omega) h.env
  have hput := fun (w2 : World) (hb : Below W1.heap.size W1 w2) => putOne b k (t.txt k) w2 l (h.page.below hb) (by rw [← h.text]; exact h.room)
  rw [← h.text] at hput
  have hfin := fun (w2 : World) (hb : Below W1.heap.size W1 w2) => PG.trans h.pg (PG.of_below hb (Nat.le_of_lt h.page.lt))
  rw [← h.world] at hm hput hfin
  unfold nodeV at hm
  rw [e] at hm hput hfin ⊢
  have HC := Lib.hid hm
  have HP := Lib.hid (And.intro hput hfin)
  obtain ⟨T, eT⟩ : ∃ T, t.txt k = T := ⟨_, rfl⟩
  rw [eT] at HC HP
  clear hm hput hfin h e hAt hroom eT
  go_enter Tryd.func33, Tryd.ntmps33
  go_wp2_with (first
    | (go_at_call 55; refine HC.out.mono ?_; rintro e w2 ⟨rfl, hb⟩; have HC2 := Lib.hid (HP.out.1 w2 hb); have HG := Lib.hid (HP.out.2 w2 hb); clear hb)
    | (go_at_call 46; refine HC2.out.mono ?_; rintro e w3 ⟨⟨v3, rfl⟩, hp3, hg3⟩; have HR := Lib.hid (And.intro hp3 hg3); clear hp3 hg3))
  refine bodyPost_ret (results_none rfl _ _ _) rfl ?_
  exact ⟨⟨_, rfl⟩, HR.out.1, HG.out.trans HR.out.2⟩

set_option maxRecDepth 100000 in
set_option maxHeartbeats 4000000 in
theorem expr_6 : ExprWalk 6 := by
  intro b k t A c w W1 l R e h hAt
  have hroom := h.room
  rw [h.text, List.length_append] at hroom
  have hm := leaf_any k t _ W1 (At.keep (n' := W1.heap.size) t (hAt.below h.pg.below) (by have := h.lt; have := h.size; omega) fun _ _ => rfl) h.good (by omega) (by omega) (by omega) h.env
  have hput := fun (w2 : World) (hb : Below W1.heap.size W1 w2) => putOne b k (t.txt k) w2 l (h.page.below hb) (by rw [← h.text]; exact h.room)
  rw [← h.text] at hput
  have hfin := fun (w2 : World) (hb : Below W1.heap.size W1 w2) => PG.trans h.pg (PG.of_below hb (Nat.le_of_lt h.page.lt))
  rw [← h.world] at hm hput hfin
  unfold nodeV at hm
  rw [e] at hm hput hfin ⊢
  have HC := Lib.hid hm
  have HP := Lib.hid (And.intro hput hfin)
  obtain ⟨T, eT⟩ : ∃ T, t.txt k = T := ⟨_, rfl⟩
  rw [eT] at HC HP
  clear hm hput hfin h e hAt hroom eT
  go_enter Tryd.func33, Tryd.ntmps33
  go_wp2_with (first
    | (go_at_call 55; refine HC.out.mono ?_; rintro e w2 ⟨rfl, hb⟩; have HC2 := Lib.hid (HP.out.1 w2 hb); have HG := Lib.hid (HP.out.2 w2 hb); clear hb)
    | (go_at_call 46; refine HC2.out.mono ?_; rintro e w3 ⟨⟨v3, rfl⟩, hp3, hg3⟩; have HR := Lib.hid (And.intro hp3 hg3); clear hp3 hg3))
  refine bodyPost_ret (results_none rfl _ _ _) rfl ?_
  exact ⟨⟨_, rfl⟩, HR.out.1, HG.out.trans HR.out.2⟩

set_option maxRecDepth 100000 in
set_option maxHeartbeats 4000000 in
theorem expr_7 : ExprWalk 7 := by
  intro b k t A c w W1 l R e h hAt
  have hroom := h.room
  rw [h.text, List.length_append] at hroom
  have hm := leaf_any k t _ W1 (At.keep (n' := W1.heap.size) t (hAt.below h.pg.below) (by have := h.lt; have := h.size; omega) fun _ _ => rfl) h.good (by omega) (by omega) (by omega) h.env
  have hput := fun (w2 : World) (hb : Below W1.heap.size W1 w2) => putOne b k (t.txt k) w2 l (h.page.below hb) (by rw [← h.text]; exact h.room)
  rw [← h.text] at hput
  have hfin := fun (w2 : World) (hb : Below W1.heap.size W1 w2) => PG.trans h.pg (PG.of_below hb (Nat.le_of_lt h.page.lt))
  rw [← h.world] at hm hput hfin
  unfold nodeV at hm
  rw [e] at hm hput hfin ⊢
  have HC := Lib.hid hm
  have HP := Lib.hid (And.intro hput hfin)
  obtain ⟨T, eT⟩ : ∃ T, t.txt k = T := ⟨_, rfl⟩
  rw [eT] at HC HP
  clear hm hput hfin h e hAt hroom eT
  go_enter Tryd.func33, Tryd.ntmps33
  go_wp2_with (first
    | (go_at_call 55; refine HC.out.mono ?_; rintro e w2 ⟨rfl, hb⟩; have HC2 := Lib.hid (HP.out.1 w2 hb); have HG := Lib.hid (HP.out.2 w2 hb); clear hb)
    | (go_at_call 46; refine HC2.out.mono ?_; rintro e w3 ⟨⟨v3, rfl⟩, hp3, hg3⟩; have HR := Lib.hid (And.intro hp3 hg3); clear hp3 hg3))
  refine bodyPost_ret (results_none rfl _ _ _) rfl ?_
  exact ⟨⟨_, rfl⟩, HR.out.1, HG.out.trans HR.out.2⟩

set_option maxRecDepth 100000 in
set_option maxHeartbeats 4000000 in
theorem expr_8 : ExprWalk 8 := by
  intro b k t A c w W1 l R e h hAt
  have hroom := h.room
  rw [h.text, List.length_append] at hroom
  have hm := leaf_any k t _ W1 (At.keep (n' := W1.heap.size) t (hAt.below h.pg.below) (by have := h.lt; have := h.size; omega) fun _ _ => rfl) h.good (by omega) (by omega) (by omega) h.env
  have hput := fun (w2 : World) (hb : Below W1.heap.size W1 w2) => putOne b k (t.txt k) w2 l (h.page.below hb) (by rw [← h.text]; exact h.room)
  rw [← h.text] at hput
  have hfin := fun (w2 : World) (hb : Below W1.heap.size W1 w2) => PG.trans h.pg (PG.of_below hb (Nat.le_of_lt h.page.lt))
  rw [← h.world] at hm hput hfin
  unfold nodeV at hm
  rw [e] at hm hput hfin ⊢
  have HC := Lib.hid hm
  have HP := Lib.hid (And.intro hput hfin)
  obtain ⟨T, eT⟩ : ∃ T, t.txt k = T := ⟨_, rfl⟩
  rw [eT] at HC HP
  clear hm hput hfin h e hAt hroom eT
  go_enter Tryd.func33, Tryd.ntmps33
  go_wp2_with (first
    | (go_at_call 55; refine HC.out.mono ?_; rintro e w2 ⟨rfl, hb⟩; have HC2 := Lib.hid (HP.out.1 w2 hb); have HG := Lib.hid (HP.out.2 w2 hb); clear hb)
    | (go_at_call 46; refine HC2.out.mono ?_; rintro e w3 ⟨⟨v3, rfl⟩, hp3, hg3⟩; have HR := Lib.hid (And.intro hp3 hg3); clear hp3 hg3))
  refine bodyPost_ret (results_none rfl _ _ _) rfl ?_
  exact ⟨⟨_, rfl⟩, HR.out.1, HG.out.trans HR.out.2⟩

set_option maxRecDepth 100000 in
set_option maxHeartbeats 4000000 in
theorem expr_9 : ExprWalk 9 := by
  intro b k t A c w W1 l R e h hAt
  have hroom := h.room
  rw [h.text, List.length_append] at hroom
  have hm := leaf_any k t _ W1 (At.keep (n' := W1.heap.size) t (hAt.below h.pg.below) (by have := h.lt; have := h.size; omega) fun _ _ => rfl) h.good (by omega) (by omega) (by omega) h.env
  have hput := fun (w2 : World) (hb : Below W1.heap.size W1 w2) => putOne b k (t.txt k) w2 l (h.page.below hb) (by rw [← h.text]; exact h.room)
  rw [← h.text] at hput
  have hfin := fun (w2 : World) (hb : Below W1.heap.size W1 w2) => PG.trans h.pg (PG.of_below hb (Nat.le_of_lt h.page.lt))
  rw [← h.world] at hm hput hfin
  unfold nodeV at hm
  rw [e] at hm hput hfin ⊢
  have HC := Lib.hid hm
  have HP := Lib.hid (And.intro hput hfin)
  obtain ⟨T, eT⟩ : ∃ T, t.txt k = T := ⟨_, rfl⟩
  rw [eT] at HC HP
  clear hm hput hfin h e hAt hroom eT
  go_enter Tryd.func33, Tryd.ntmps33
  go_wp2_with (first
    | (go_at_call 55; refine HC.out.mono ?_; rintro e w2 ⟨rfl, hb⟩; have HC2 := Lib.hid (HP.out.1 w2 hb); have HG := Lib.hid (HP.out.2 w2 hb); clear hb)
    | (go_at_call 46; refine HC2.out.mono ?_; rintro e w3 ⟨⟨v3, rfl⟩, hp3, hg3⟩; have HR := Lib.hid (And.intro hp3 hg3); clear hp3 hg3))
  refine bodyPost_ret (results_none rfl _ _ _) rfl ?_
  exact ⟨⟨_, rfl⟩, HR.out.1, HG.out.trans HR.out.2⟩

set_option maxRecDepth 100000 in
set_option maxHeartbeats 4000000 in
theorem expr_11 : ExprWalk 11 := by
  intro b k t A c w W1 l R e h _
  obtain ⟨g1, g2, g3, g4⟩ := (inv_11 e).1 h.good
  have htx := txt_form k t (by omega)
  rw [e] at htx
  have hR : R = l ++ ([40, 123] ++ (commas (t.l.map (Tr.txt k)) ++ [125, 41])) := by
    rw [h.text, htx]
    rfl
  have hroom := h.room
  rw [hR] at hroom
  simp only [List.length_append, List.length_cons, List.length_nil] at hroom
  have h1 := putOne b k [40, 123] W1 l h.page (by simp only [List.length_append, List.length_cons, List.length_nil]; omega)
  have h2 := fun (w2 : World) (hg : PG b W1 w2) (hp : PageAt w2 b (l ++ [40, 123]) k) => list_any b k t.l _ w2 _ (h.row.below hg.below) hp (fun y hy => h.parts y hy (by rw [g4 y hy]; decide) (by rw [g4 y hy]; decide)) (by have := h.bound; omega) (by simp only [List.length_append, List.length_cons, List.length_nil]; omega) (h.env.pg h.one hg)
  have h3 := fun (w2 : World) (hg : PG b W1 w2) => h.field hg
  rw [← h.world, World.size_alloc] at h1
  rw [e] at h1 ⊢
  have HC := Lib.hid h1
  have HD := Lib.hid (And.intro h2 h3)
  have HW := Lib.hid (And.intro (show _ = W1 by rw [← h.world, e]) h.pg)
  have HRt := Lib.hid (And.intro hR hroom)
  clear h1 h2 h3 hR hroom htx h e g1 g2 g3 g4
  go_enter Tryd.func33, Tryd.ntmps33
  go_wp2_with fail
  go_at_call 46
  refine HC.out.mono ?_
  rintro e w2 ⟨⟨v2, rfl⟩, hp2, hg2⟩
  rw [HW.out.1] at hg2
  obtain ⟨-, -, -, d3, -⟩ := HD.out.2 w2 hg2
  have HC2 := Lib.hid (HD.out.1 w2 hg2 hp2)
  have HG2 := Lib.hid hg2
  clear hp2 hg2
  go_wp2_with (first
    | (go_at_call 49; refine HC2.out.mono ?_; rintro e w3 ⟨⟨v3, rfl⟩, hp3, hg3⟩; have HC3 := Lib.hid (putOne b k [125, 41] w3 _ hp3 (by have := HRt.out.2; simp only [List.length_append, List.length_cons, List.length_nil] at this ⊢; omega)); have HG3 := Lib.hid hg3; clear hp3 hg3)
    | (go_at_call 46; refine HC3.out.mono ?_; rintro e w4 ⟨⟨v4, rfl⟩, hp4, hg4⟩; have HR := Lib.hid (And.intro hp4 hg4); clear hp4 hg4))
  refine bodyPost_ret (results_none rfl _ _ _) rfl ?_
  exact ⟨⟨_, rfl⟩, by have := HR.out.1; rw [HRt.out.1]; simpa using this, ((HW.out.2.trans HG2.out).trans HG3.out).trans HR.out.2⟩

set_option maxRecDepth 100000 in
set_option maxHeartbeats 4000000 in
theorem expr_10 : ExprWalk 10 := by
  intro b k t A c w W1 l R e h _
  obtain ⟨g1, g2, g3, xs, bk, hl, g4, g5⟩ := (inv_10 e).1 h.good
  have htx := txt_form k t (by omega)
  rw [e] at htx
  have hR : R = l ++ ([40, 102, 117, 110, 99, 116, 105, 111, 110] ++ ((if t.s = [] then [] else [32] ++ t.s) ++ (funcB ((xs ++ [bk]).map (Tr.txt k)) ++ [41]))) := by
    rw [h.text, htx, hl]
    rfl
  have hroom := h.room
  rw [hR] at hroom
  simp only [List.length_append, List.length_cons, List.length_nil] at hroom
  have h1 := putOne b k [40, 102, 117, 110, 99, 116, 105, 111, 110] W1 l h.page (by simp only [List.length_append, List.length_cons, List.length_nil]; omega)
  have hrow := h.row
  rw [hl] at hrow
  have h2 := fun (w2 : World) (M : Bs) (hg : PG b W1 w2) (hp : PageAt w2 b M k) (hM : (M ++ funcB ((xs ++ [bk]).map (Tr.txt k))).length ≤ 100000000) => function_any b k xs bk _ w2 M (hrow.below hg.below) hp (fun y hy => h.parts y (by rw [hl]; simp [hy]) (by rw [g4 y hy]; decide) (by rw [g4 y hy]; decide)) (h.blocks bk (by rw [hl]; simp) g5) (by have := h.bound; rw [hl] at this; omega) hM (h.env.pg h.one hg)
  have h3 := fun (w2 : World) (hg : PG b W1 w2) => h.field hg
  rw [← h.world, World.size_alloc] at h1
  rw [← hl] at h2
  rw [e] at h1 ⊢
  have HC := Lib.hid h1
  have HD := Lib.hid (And.intro h2 h3)
  have HW := Lib.hid (And.intro (show _ = W1 by rw [← h.world, e]) h.pg)
  have HLt := Lib.hid h.lt
  rw [← hl] at hR hroom
  have HRt := Lib.hid (And.intro hR hroom)
  clear h1 h2 h3 hR hroom htx h e g1 g2 g3 g4 g5 hl hrow
  go_enter Tryd.func33, Tryd.ntmps33
  go_wp2_with fail
  go_at_call 46
  refine HC.out.mono ?_
  rintro e w2 ⟨⟨v2, rfl⟩, hp2, hg2⟩
  rw [HW.out.1] at hg2
  obtain ⟨-, d1, -, d3, -⟩ := HD.out.2 w2 hg2
  by_cases hs : t.s = []
  · have hd : ((bs t.s).toList == []) = true := by rw [hs, Lib.toList_data, bs_list]; rfl
    have hroom := HRt.out.2
    have hR := HRt.out.1
    rw [if_pos hs] at hroom hR
    have HC2 := Lib.hid (HD.out.1 w2 _ hg2 hp2 (by simp only [List.length_append, List.length_cons, List.length_nil] at hroom ⊢; omega))
    have HG2 := Lib.hid hg2
    have HRt2 := Lib.hid (And.intro hR hroom)
    clear hp2 hg2 hs hroom hR
    go_wp2_with (first
      | (go_at_call 48; refine HC2.out.mono ?_; rintro e w3 ⟨⟨v3, rfl⟩, hp3, hg3⟩; have HC3 := Lib.hid (putOne b k [41] w3 _ hp3 (by have := HRt2.out.2; simp only [List.length_append, List.length_cons, List.length_nil] at this ⊢; omega)); have HG3 := Lib.hid hg3; clear hp3 hg3)
      | (go_at_call 46; refine HC3.out.mono ?_; rintro e w4 ⟨⟨v4, rfl⟩, hp4, hg4⟩; have HR := Lib.hid (And.intro hp4 hg4); clear hp4 hg4))
    refine bodyPost_ret (results_none rfl _ _ _) rfl ?_
    exact ⟨⟨_, rfl⟩, by have := HR.out.1; rw [HRt2.out.1]; simpa using this, ((HW.out.2.trans HG2.out).trans HG3.out).trans HR.out.2⟩
  · have hd : ((bs t.s).toList == []) = false := by rw [Lib.toList_data, bs_list, beq_eq_false_iff_ne]; exact hs
    have hroom := HRt.out.2
    have hR := HRt.out.1
    rw [if_neg hs] at hroom hR
    have HCp := Lib.hid (putTwo b k [32] t.s w2 _ hp2 (by simp only [List.length_append, List.length_cons, List.length_nil] at hroom ⊢; omega))
    have HG2 := Lib.hid hg2
    have HRt2 := Lib.hid (And.intro hR hroom)
    clear hp2 hg2 hs hroom hR
    go_wp2_with fail
    go_at_call 46
    refine HCp.out.mono ?_
    rintro e w3 ⟨⟨v3, rfl⟩, hp3, hg3⟩
    have hg23 := HG2.out.trans hg3
    obtain ⟨-, e1, -, e3, -⟩ := HD.out.2 w3 hg23
    have HC2 := Lib.hid (HD.out.1 w3 _ hg23 hp3 (by have := HRt2.out.2; simp only [List.length_append, List.length_cons, List.length_nil] at this ⊢; omega))
    have HG23 := Lib.hid hg23
    clear hp3 hg3 hg23
    go_wp2_with (first
      | (go_at_call 48; refine HC2.out.mono ?_; rintro e w4 ⟨⟨v4, rfl⟩, hp4, hg4⟩; have HC3 := Lib.hid (putOne b k [41] w4 _ hp4 (by have := HRt2.out.2; simp only [List.length_append, List.length_cons, List.length_nil] at this ⊢; omega)); have HG4 := Lib.hid hg4; clear hp4 hg4)
      | (go_at_call 46; refine HC3.out.mono ?_; rintro e w5 ⟨⟨v5, rfl⟩, hp5, hg5⟩; have HR := Lib.hid (And.intro hp5 hg5); clear hp5 hg5))
    refine bodyPost_ret (results_none rfl _ _ _) rfl ?_
    exact ⟨⟨_, rfl⟩, by have := HR.out.1; rw [HRt2.out.1]; simpa using this, ((HW.out.2.trans HG23.out).trans HG4.out).trans HR.out.2⟩
end Go.Proofs.YtiejpenffpjmeaaDoor
