/- jtree.page: expr. -/
import Derived.Test.YtiejpenffpjmeaaDoorLeaf
namespace Go.Proofs.YtiejpenffpjmeaaDoor
open Go.RowKit Go.Proofs

/-- What an expression's walk is told. -/
structure ExprIn (b k : Nat) (t : Tr) (A : Option Addr) (c : Nat) (w W1 : World) (l R : Bs) : Prop where
  world : w.alloc (.cells #[.int .i64 t.op, .string (bs t.s), .int .i64 t.n, .slice A t.l.length c, .int .i64 t.line] 24) = W1
  page : PageAt W1 b l k
  pg : PG b w W1
  size : W1.heap.size = w.heap.size + 1
  box : W1.heap[w.heap.size]? = some (.cells #[.int .i64 t.op, .string (bs t.s), .int .i64 t.n, .slice A t.l.length c, .int .i64 t.line] 24 (0, 0))
  row : Row W1 b t.l (.slice A t.l.length c)
  env : Env W1
  bound : k + (1 + sizes t.l) ≤ 100000
  room : R.length ≤ 100000000
  good : soundOne t = true
  text : R = l ++ t.txt k
  parts : ∀ y ∈ t.l, 1 ≤ y.op → y.op ≤ 23 → ExprOK y
  blocks : ∀ y ∈ t.l, y.op = 32 → BraceOK y
  lt : b < w.heap.size
  one : 1 ≤ b
theorem ExprIn.done {b k c : Nat} {t : Tr} {A : Option Addr} {w W1 : World} {l R : Bs} (h : ExprIn b k t A c w W1 l R) {e : Ending} {w' : World} (hp : Put b W1 R k e w') : Put b w R k e w' := ⟨hp.1, hp.2.1, h.pg.trans hp.2.2⟩
/-- The walk of one operation. -/
def ExprWalk (op : Int) : Prop := ∀ (b k : Nat) (t : Tr) (A : Option Addr) (c : Nat) (w W1 : World) (l R : Bs), t.op = op → ExprIn b k t A c w W1 l R → At w b t (nodeV t (.slice A t.l.length c)) →
  Calls Tryd.prog 33 #[.pointer (some ⟨b, 0, none⟩), .agg #[.int .i64 t.op, .string (bs t.s), .int .i64 t.n, .slice A t.l.length c, .int .i64 t.line]] w (Put b w R k)
theorem eE {y : Tr} (h : isE y) : 1 ≤ y.op ∧ y.op ≤ 23 := by
  unfold isE hasB at h
  simp at h
  omega

set_option maxRecDepth 100000 in
set_option maxHeartbeats 4000000 in
theorem expr_14 : ExprWalk 14 := by
  intro b k t A c w W1 l R e h hAt
  have hi := (inv_14 e).1 h.good
  have htx := txt_form k t (by omega)
  rw [e] at htx
  obtain ⟨g1, g2, a, b_, hl, g4, g5⟩ := hi
  have e_a : ExprOK a := h.parts a (by rw [hl]; simp) (eE g4).1 (eE g4).2
  have e_b_ : ExprOK b_ := h.parts b_ (by rw [hl]; simp) (eE g5).1 (eE g5).2
  have hall : ∀ y ∈ t.l, ExprOK y := by
    intro y hy
    rw [hl] at hy
    simp only [List.mem_cons, List.not_mem_nil, or_false] at hy
    rcases hy with rfl | rfl
    · exact e_a
    · exact e_b_
  have hR : R = l ++ mixL [[], [91], [93]] (t.l.map (Tr.txt k)) := by
    rw [h.text, htx, hl]
    simp [form, at_, mixL, mixR]
  have hm := mixN b k t.l [[], [91], [93]] 3 _ W1 l rfl #[.string ⟨#[]⟩, .string ⟨#[91]⟩, .string ⟨#[93]⟩] (rfl) h.row h.page (by rw [hl]; simp) (by omega) hall (by have := h.bound; omega) (by rw [← hR]; exact h.room) h.env
  rw [← hR, ← h.world, World.size_alloc] at hm
  have hm2 := hm.mono fun e w' hp => h.done (by rw [h.world] at hp; exact hp)
  rw [e] at hm2 ⊢
  have HC := Lib.hid hm2
  clear hm hm2 htx h hR hl e hAt hall g1 g2 e_a e_b_
  go_enter Tryd.func33, Tryd.ntmps33
  go_wp2_with (go_at_call 50; refine HC.out.mono ?_; rintro e w2 ⟨⟨v2, rfl⟩, hp2, hg2⟩; have HR := Lib.hid (And.intro hp2 hg2); clear hp2 hg2)
  refine bodyPost_ret (results_none rfl _ _ _) rfl ?_
  exact ⟨⟨_, rfl⟩, HR.out.1, HR.out.2⟩
theorem e5 {y : Tr} (h : hasB 5 y.op = true) : 1 ≤ y.op ∧ y.op ≤ 23 := by
  unfold hasB at h
  simp at h
  omega

set_option maxRecDepth 100000 in
set_option maxHeartbeats 4000000 in
theorem expr_17 : ExprWalk 17 := by
  intro b k t A c w W1 l R e h hAt
  have hi := (inv_17 e).1 h.good
  have htx := txt_form k t (by omega)
  rw [e] at htx
  obtain ⟨g1, g2, a, b_, hl, g4, g5⟩ := hi
  have e_a : ExprOK a := h.parts a (by rw [hl]; simp) (e5 g4).1 (e5 g4).2
  have e_b_ : ExprOK b_ := h.parts b_ (by rw [hl]; simp) (eE g5).1 (eE g5).2
  have hall : ∀ y ∈ t.l, ExprOK y := by
    intro y hy
    rw [hl] at hy
    simp only [List.mem_cons, List.not_mem_nil, or_false] at hy
    rcases hy with rfl | rfl
    · exact e_a
    · exact e_b_
  have hR : R = l ++ mixL [[40], [32, 61, 32], [41]] (t.l.map (Tr.txt k)) := by
    rw [h.text, htx, hl]
    simp [form, at_, mixL, mixR]
  have hm := mixN b k t.l [[40], [32, 61, 32], [41]] 3 _ W1 l rfl #[.string ⟨#[40]⟩, .string ⟨#[32, 61, 32]⟩, .string ⟨#[41]⟩] (rfl) h.row h.page (by rw [hl]; simp) (by omega) hall (by have := h.bound; omega) (by rw [← hR]; exact h.room) h.env
  rw [← hR, ← h.world, World.size_alloc] at hm
  have hm2 := hm.mono fun e w' hp => h.done (by rw [h.world] at hp; exact hp)
  rw [e] at hm2 ⊢
  have HC := Lib.hid hm2
  clear hm hm2 htx h hR hl e hAt hall g1 g2 e_a e_b_
  go_enter Tryd.func33, Tryd.ntmps33
  go_wp2_with (go_at_call 50; refine HC.out.mono ?_; rintro e w2 ⟨⟨v2, rfl⟩, hp2, hg2⟩; have HR := Lib.hid (And.intro hp2 hg2); clear hp2 hg2)
  refine bodyPost_ret (results_none rfl _ _ _) rfl ?_
  exact ⟨⟨_, rfl⟩, HR.out.1, HR.out.2⟩

set_option maxRecDepth 100000 in
set_option maxHeartbeats 4000000 in
theorem expr_18 : ExprWalk 18 := by
  intro b k t A c w W1 l R e h hAt
  have hi := (inv_18 e).1 h.good
  have htx := txt_form k t (by omega)
  rw [e] at htx
  obtain ⟨g1, g2, a, b_, hl, g4, g5⟩ := hi
  have e_a : ExprOK a := h.parts a (by rw [hl]; simp) (eE g4).1 (eE g4).2
  have e_b_ : ExprOK b_ := h.parts b_ (by rw [hl]; simp) (eE g5).1 (eE g5).2
  have hall : ∀ y ∈ t.l, ExprOK y := by
    intro y hy
    rw [hl] at hy
    simp only [List.mem_cons, List.not_mem_nil, or_false] at hy
    rcases hy with rfl | rfl
    · exact e_a
    · exact e_b_
  have hR : R = l ++ mixL [[40], [32] ++ (t.s ++ [32]), [41]] (t.l.map (Tr.txt k)) := by
    rw [h.text, htx, hl]
    simp [form, at_, mixL, mixR]
  have hm := mixN b k t.l [[40], [32] ++ (t.s ++ [32]), [41]] 3 _ W1 l rfl #[.string ⟨#[40]⟩, .string (⟨#[32]⟩ ++ bs t.s ++ ⟨#[32]⟩), .string ⟨#[41]⟩] (by rw [show (⟨#[32]⟩ : ByteArray) = bs [32] from rfl, bs_cat, bs_cat, List.append_assoc]; rfl) h.row h.page (by rw [hl]; simp) (by omega) hall (by have := h.bound; omega) (by rw [← hR]; exact h.room) h.env
  rw [← hR, ← h.world, World.size_alloc] at hm
  have hm2 := hm.mono fun e w' hp => h.done (by rw [h.world] at hp; exact hp)
  have hsz : (bs t.s).size ≤ 100000000 := by
    have h1 := h.room
    rw [h.text, htx, hl] at h1
    simp [form, at_] at h1
    rw [bs_size]
    omega
  rw [e] at hm2 ⊢
  have HC := Lib.hid hm2
  clear hm hm2 htx h hR hl e hAt hall g1 g2 e_a e_b_
  go_enter Tryd.func33, Tryd.ntmps33
  go_wp2_with (go_at_call 50; refine HC.out.mono ?_; rintro e w2 ⟨⟨v2, rfl⟩, hp2, hg2⟩; have HR := Lib.hid (And.intro hp2 hg2); clear hp2 hg2)
  refine bodyPost_ret (results_none rfl _ _ _) rfl ?_
  exact ⟨⟨_, rfl⟩, HR.out.1, HR.out.2⟩

set_option maxRecDepth 100000 in
set_option maxHeartbeats 4000000 in
theorem expr_19 : ExprWalk 19 := by
  intro b k t A c w W1 l R e h hAt
  have hi := (inv_19 e).1 h.good
  have htx := txt_form k t (by omega)
  rw [e] at htx
  obtain ⟨g1, g2, a, hl, g4⟩ := hi
  have e_a : ExprOK a := h.parts a (by rw [hl]; simp) (eE g4).1 (eE g4).2
  have hall : ∀ y ∈ t.l, ExprOK y := by
    intro y hy
    rw [hl] at hy
    simp only [List.mem_cons, List.not_mem_nil, or_false] at hy
    subst hy
    exact e_a
  have hR : R = l ++ mixL [[40, 33], [41]] (t.l.map (Tr.txt k)) := by
    rw [h.text, htx, hl]
    simp [form, at_, mixL, mixR]
  have hm := mixN b k t.l [[40, 33], [41]] 2 _ W1 l rfl #[.string ⟨#[40, 33]⟩, .string ⟨#[41]⟩] (rfl) h.row h.page (by rw [hl]; simp) (by omega) hall (by have := h.bound; omega) (by rw [← hR]; exact h.room) h.env
  rw [← hR, ← h.world, World.size_alloc] at hm
  have hm2 := hm.mono fun e w' hp => h.done (by rw [h.world] at hp; exact hp)
  rw [e] at hm2 ⊢
  have HC := Lib.hid hm2
  clear hm hm2 htx h hR hl e hAt hall g1 g2 e_a
  go_enter Tryd.func33, Tryd.ntmps33
  go_wp2_with (go_at_call 50; refine HC.out.mono ?_; rintro e w2 ⟨⟨v2, rfl⟩, hp2, hg2⟩; have HR := Lib.hid (And.intro hp2 hg2); clear hp2 hg2)
  refine bodyPost_ret (results_none rfl _ _ _) rfl ?_
  exact ⟨⟨_, rfl⟩, HR.out.1, HR.out.2⟩

set_option maxRecDepth 100000 in
set_option maxHeartbeats 4000000 in
theorem expr_20 : ExprWalk 20 := by
  intro b k t A c w W1 l R e h hAt
  have hi := (inv_20 e).1 h.good
  have htx := txt_form k t (by omega)
  rw [e] at htx
  obtain ⟨g1, g2, a, hl, g4⟩ := hi
  have e_a : ExprOK a := h.parts a (by rw [hl]; simp) (eE g4).1 (eE g4).2
  have hall : ∀ y ∈ t.l, ExprOK y := by
    intro y hy
    rw [hl] at hy
    simp only [List.mem_cons, List.not_mem_nil, or_false] at hy
    subst hy
    exact e_a
  have hR : R = l ++ mixL [[40, 45], [41]] (t.l.map (Tr.txt k)) := by
    rw [h.text, htx, hl]
    simp [form, at_, mixL, mixR]
  have hm := mixN b k t.l [[40, 45], [41]] 2 _ W1 l rfl #[.string ⟨#[40, 45]⟩, .string ⟨#[41]⟩] (rfl) h.row h.page (by rw [hl]; simp) (by omega) hall (by have := h.bound; omega) (by rw [← hR]; exact h.room) h.env
  rw [← hR, ← h.world, World.size_alloc] at hm
  have hm2 := hm.mono fun e w' hp => h.done (by rw [h.world] at hp; exact hp)
  rw [e] at hm2 ⊢
  have HC := Lib.hid hm2
  clear hm hm2 htx h hR hl e hAt hall g1 g2 e_a
  go_enter Tryd.func33, Tryd.ntmps33
  go_wp2_with (go_at_call 50; refine HC.out.mono ?_; rintro e w2 ⟨⟨v2, rfl⟩, hp2, hg2⟩; have HR := Lib.hid (And.intro hp2 hg2); clear hp2 hg2)
  refine bodyPost_ret (results_none rfl _ _ _) rfl ?_
  exact ⟨⟨_, rfl⟩, HR.out.1, HR.out.2⟩

set_option maxRecDepth 100000 in
set_option maxHeartbeats 4000000 in
theorem expr_21 : ExprWalk 21 := by
  intro b k t A c w W1 l R e h hAt
  have hi := (inv_21 e).1 h.good
  have htx := txt_form k t (by omega)
  rw [e] at htx
  obtain ⟨g1, g2, a, b_, hl, g4, g5⟩ := hi
  have e_a : ExprOK a := h.parts a (by rw [hl]; simp) (eE g4).1 (eE g4).2
  have e_b_ : ExprOK b_ := h.parts b_ (by rw [hl]; simp) (eE g5).1 (eE g5).2
  have hall : ∀ y ∈ t.l, ExprOK y := by
    intro y hy
    rw [hl] at hy
    simp only [List.mem_cons, List.not_mem_nil, or_false] at hy
    rcases hy with rfl | rfl
    · exact e_a
    · exact e_b_
  have hR : R = l ++ mixL [[40], [32, 38, 38, 32], [41]] (t.l.map (Tr.txt k)) := by
    rw [h.text, htx, hl]
    simp [form, at_, mixL, mixR]
  have hm := mixN b k t.l [[40], [32, 38, 38, 32], [41]] 3 _ W1 l rfl #[.string ⟨#[40]⟩, .string ⟨#[32, 38, 38, 32]⟩, .string ⟨#[41]⟩] (rfl) h.row h.page (by rw [hl]; simp) (by omega) hall (by have := h.bound; omega) (by rw [← hR]; exact h.room) h.env
  rw [← hR, ← h.world, World.size_alloc] at hm
  have hm2 := hm.mono fun e w' hp => h.done (by rw [h.world] at hp; exact hp)
  rw [e] at hm2 ⊢
  have HC := Lib.hid hm2
  clear hm hm2 htx h hR hl e hAt hall g1 g2 e_a e_b_
  go_enter Tryd.func33, Tryd.ntmps33
  go_wp2_with (go_at_call 50; refine HC.out.mono ?_; rintro e w2 ⟨⟨v2, rfl⟩, hp2, hg2⟩; have HR := Lib.hid (And.intro hp2 hg2); clear hp2 hg2)
  refine bodyPost_ret (results_none rfl _ _ _) rfl ?_
  exact ⟨⟨_, rfl⟩, HR.out.1, HR.out.2⟩

set_option maxRecDepth 100000 in
set_option maxHeartbeats 4000000 in
theorem expr_22 : ExprWalk 22 := by
  intro b k t A c w W1 l R e h hAt
  have hi := (inv_22 e).1 h.good
  have htx := txt_form k t (by omega)
  rw [e] at htx
  obtain ⟨g1, g2, a, b_, hl, g4, g5⟩ := hi
  have e_a : ExprOK a := h.parts a (by rw [hl]; simp) (eE g4).1 (eE g4).2
  have e_b_ : ExprOK b_ := h.parts b_ (by rw [hl]; simp) (eE g5).1 (eE g5).2
  have hall : ∀ y ∈ t.l, ExprOK y := by
    intro y hy
    rw [hl] at hy
    simp only [List.mem_cons, List.not_mem_nil, or_false] at hy
    rcases hy with rfl | rfl
    · exact e_a
    · exact e_b_
  have hR : R = l ++ mixL [[40], [32, 124, 124, 32], [41]] (t.l.map (Tr.txt k)) := by
    rw [h.text, htx, hl]
    simp [form, at_, mixL, mixR]
  have hm := mixN b k t.l [[40], [32, 124, 124, 32], [41]] 3 _ W1 l rfl #[.string ⟨#[40]⟩, .string ⟨#[32, 124, 124, 32]⟩, .string ⟨#[41]⟩] (rfl) h.row h.page (by rw [hl]; simp) (by omega) hall (by have := h.bound; omega) (by rw [← hR]; exact h.room) h.env
  rw [← hR, ← h.world, World.size_alloc] at hm
  have hm2 := hm.mono fun e w' hp => h.done (by rw [h.world] at hp; exact hp)
  rw [e] at hm2 ⊢
  have HC := Lib.hid hm2
  clear hm hm2 htx h hR hl e hAt hall g1 g2 e_a e_b_
  go_enter Tryd.func33, Tryd.ntmps33
  go_wp2_with (go_at_call 50; refine HC.out.mono ?_; rintro e w2 ⟨⟨v2, rfl⟩, hp2, hg2⟩; have HR := Lib.hid (And.intro hp2 hg2); clear hp2 hg2)
  refine bodyPost_ret (results_none rfl _ _ _) rfl ?_
  exact ⟨⟨_, rfl⟩, HR.out.1, HR.out.2⟩

set_option maxRecDepth 100000 in
set_option maxHeartbeats 4000000 in
theorem expr_23 : ExprWalk 23 := by
  intro b k t A c w W1 l R e h hAt
  have hi := (inv_23 e).1 h.good
  have htx := txt_form k t (by omega)
  rw [e] at htx
  obtain ⟨g1, g2, a, b_, c_, hl, g4, g5, g6⟩ := hi
  have e_a : ExprOK a := h.parts a (by rw [hl]; simp) (eE g4).1 (eE g4).2
  have e_b_ : ExprOK b_ := h.parts b_ (by rw [hl]; simp) (eE g5).1 (eE g5).2
  have e_c_ : ExprOK c_ := h.parts c_ (by rw [hl]; simp) (eE g6).1 (eE g6).2
  have hall : ∀ y ∈ t.l, ExprOK y := by
    intro y hy
    rw [hl] at hy
    simp only [List.mem_cons, List.not_mem_nil, or_false] at hy
    rcases hy with rfl | rfl | rfl
    · exact e_a
    · exact e_b_
    · exact e_c_
  have hR : R = l ++ mixL [[40], [32, 63, 32], [32, 58, 32], [41]] (t.l.map (Tr.txt k)) := by
    rw [h.text, htx, hl]
    simp [form, at_, mixL, mixR]
  have hm := mixN b k t.l [[40], [32, 63, 32], [32, 58, 32], [41]] 4 _ W1 l rfl #[.string ⟨#[40]⟩, .string ⟨#[32, 63, 32]⟩, .string ⟨#[32, 58, 32]⟩, .string ⟨#[41]⟩] (rfl) h.row h.page (by rw [hl]; simp) (by omega) hall (by have := h.bound; omega) (by rw [← hR]; exact h.room) h.env
  rw [← hR, ← h.world, World.size_alloc] at hm
  have hm2 := hm.mono fun e w' hp => h.done (by rw [h.world] at hp; exact hp)
  rw [e] at hm2 ⊢
  have HC := Lib.hid hm2
  clear hm hm2 htx h hR hl e hAt hall g1 g2 e_a e_b_ e_c_
  go_enter Tryd.func33, Tryd.ntmps33
  go_wp2_with (go_at_call 50; refine HC.out.mono ?_; rintro e w2 ⟨⟨v2, rfl⟩, hp2, hg2⟩; have HR := Lib.hid (And.intro hp2 hg2); clear hp2 hg2)
  refine bodyPost_ret (results_none rfl _ _ _) rfl ?_
  exact ⟨⟨_, rfl⟩, HR.out.1, HR.out.2⟩
end Go.Proofs.YtiejpenffpjmeaaDoor
