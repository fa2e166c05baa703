/- jtree.page.expr: a pair. -/
import Derived.Test.YtiejpenffpjmeaaDoorExpr2
import Derived.Deep.RegionHeld3
namespace Go.Proofs.YtiejpenffpjmeaaDoor
open Go.RowKit Go.Proofs

theorem le_quote (l : Bs) : l.length ≤ (quoteL l).length := by
  have h : ∀ l : Bs, l.length ≤ (l.flatMap quoteB).length := by
    intro l
    induction l with
    | nil => simp
    | cons c r ih =>
      have : 1 ≤ (quoteB c).length := by
        unfold quoteB
        repeat (first | split | simp)
      simp only [List.flatMap_cons, List.length_append, List.length_cons]
      omega
  have := h l
  unfold quoteL
  simp only [List.length_append, List.length_cons, List.length_nil]
  omega

set_option maxRecDepth 100000 in
set_option maxHeartbeats 4000000 in
theorem expr_12 : ExprWalk 12 := by
  intro b k t A c w W1 l R e h _
  obtain ⟨g2, a, hl, g4⟩ := (inv_12 e).1 h.good
  have htx := txt_form k t (by omega)
  rw [e] at htx
  have hR : R = l ++ mixL [quoteL t.s ++ [58, 32], []] (t.l.map (Tr.txt k)) := by
    rw [h.text, htx, hl]
    simp [form, at_, mixL, mixR]
  have hroom := h.room
  have hroom2 := hroom
  rw [hR, hl] at hroom2
  simp only [mixL, mixR, List.map_cons, List.map_nil, List.length_append, List.length_cons, List.length_nil] at hroom2
  have hql := le_quote t.s
  have hQ := fun w => quote_any (bs t.s) w (by rw [bs_size]; omega)
  rw [bs_list] at hQ
  have hall : ∀ y ∈ t.l, ExprOK y := by
    intro y hy
    rw [hl] at hy
    simp only [List.mem_cons, List.not_mem_nil, or_false] at hy
    subst hy
    exact h.parts y (by rw [hl]; simp) (eE g4).1 (eE g4).2
  have hm := fun (w2 : World) (hb : Below W1.heap.size W1 w2) => mixN b k t.l [quoteL t.s ++ [58, 32], []] 2 _ w2 l rfl #[.string (bs (quoteL t.s) ++ ⟨#[58, 32]⟩), .string ⟨#[]⟩] (by rw [show (⟨#[58, 32]⟩ : ByteArray) = bs [58, 32] from rfl, bs_cat]; rfl) (h.row.below (hb.mono (Nat.le_of_lt h.page.lt))) (h.page.below hb) (by rw [hl]; simp) (by omega) hall (by have := h.bound; omega) (by rw [← hR]; exact h.room) (h.env.below hb)
  rw [← hR] at hm
  have hf := fun (w2 : World) (hg : PG b W1 w2) => h.field hg
  have hlo := Nat.le_of_lt h.page.lt
  have hqs : (bs (quoteL t.s)).size ≤ 100000000 := by rw [bs_size]; omega
  have hfin := fun (w2 : World) (hb : Below W1.heap.size W1 w2) => PG.trans h.pg (PG.of_below hb (Nat.le_of_lt h.page.lt))
  have hz := h.size
  have HW := Lib.hid (And.intro (show w.alloc (.cells #[.int .i64 12, .string (bs t.s), .int .i64 t.n, .slice A t.l.length c, .int .i64 t.line] 24) = W1 by rw [← h.world, e]) hz)
  rw [e]
  obtain ⟨q, eq⟩ : ∃ q, bs (quoteL t.s) = q := ⟨_, rfl⟩
  rw [eq] at hqs hQ
  simp only [eq] at hm
  have HQ := Lib.hid hQ
  have HM := Lib.hid (And.intro hm (And.intro hf hfin))
  clear hm hf hfin hQ hR htx hroom hroom2 hql hall h hl e g2 g4 eq hz
  go_enter Tryd.func33, Tryd.ntmps33
  go_wp2
  rw [HW.out.1]
  have f1 := (HM.out.2.1 W1 (PG.refl _ _)).2.1
  have f3 := (HM.out.2.1 W1 (PG.refl _ _)).2.2.2.1
  have hsum : ¬ (9223372036854775807 < q.size + 2) := by omega
  have hsum2 : q.size + 2 ≤ 9223372036854775807 := by omega
  go_region_held3 (fun w' => w'.cell? ⟨w.heap.size, 1, none⟩ = some (.string (bs t.s)) ∧ w'.cell? ⟨w.heap.size, 3, none⟩ = some (.slice A t.l.length c))
    (first | go_keep | (exact ⟨(HM.out.2.1 _ hg3).2.1, (HM.out.2.1 _ hg3).2.2.2.1⟩) | (exact ⟨(HM.out.2.1 _ hg2).2.1, (HM.out.2.1 _ hg2).2.2.2.1⟩))
    (first
      | (go_at_call 51; refine (HQ.out _).mono ?_; rintro e w2 ⟨rfl, hb2⟩; have hb2' : Below W1.heap.size W1 w2 := (Below.refl _ W1).drew.trans hb2; have hg2 : PG b W1 w2 := PG.of_below hb2' hlo; have HC := Lib.hid (HM.out.1 w2 hb2'); have HG2 := Lib.hid (HM.out.2.2 w2 hb2'); clear hb2 hb2')
      | (go_at_call 50; refine HC.out.mono ?_; rintro e w3 ⟨⟨v3, rfl⟩, hp3, hg3'⟩; have hg3 : PG b W1 w3 := hg2.trans hg3'; have HR := Lib.hid (And.intro hp3 hg3'); clear hp3 hg3'))
  go_wp2
  refine bodyPost_ret (results_none rfl _ _ _) rfl ?_
  exact ⟨⟨_, rfl⟩, HR.out.1, HG2.out.trans HR.out.2⟩
end Go.Proofs.YtiejpenffpjmeaaDoor
