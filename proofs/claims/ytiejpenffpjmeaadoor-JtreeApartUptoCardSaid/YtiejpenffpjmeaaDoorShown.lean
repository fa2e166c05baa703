/- jtree.Show, jtree.ShowExpr. -/
import Derived.Test.YtiejpenffpjmeaaDoorAll
import Derived.Test.YtiejpenffpjmeaaDoorSound
namespace Go.Proofs.YtiejpenffpjmeaaDoor
set_option linter.unusedSimpArgs false
set_option linter.unusedVariables false
open Go.RowKit Go.Proofs

theorem page_new (w : World) (h : 1 ≤ w.heap.size) : PageAt (w.alloc (.cells #[.slice none 0 0, .int .i64 0] 41)) w.heap.size [] 0 :=
  ⟨h, _, heap_alloc_new w _, World.ownsRow_nil _ _ _ _⟩

/-- What a call that hands back a text, and an error, hands back. -/
def Tells (w : World) (ok : Bool) (s : Bs) (e : Ending) (w' : World) : Prop :=
  e = .returned (.tuple #[.string (if ok then bs s else ⟨#[]⟩), .int .i64 (if ok then 0 else 30)]) ∧ Below w.heap.size w w'

set_option maxRecDepth 100000 in
set_option maxHeartbeats 4000000 in
theorem showE_any (t : Tr) (v : Value) (w : World) (hAt : At w w.heap.size t v) (hk : t.size ≤ 100000) (hlen : rightE t = true → (showE t).length ≤ 100000000) (he : Env w) :
    Calls Tryd.prog 18 #[v] w (Tells w (rightE t) (showE t)) := by
  have hAt' := hAt
  rw [At_iff] at hAt'
  obtain ⟨u, rfl, hrow, -⟩ := hAt'
  obtain ⟨A, c, rfl, _, _⟩ := row_at hrow
  obtain ⟨W1, hW1⟩ : ∃ W, (w.alloc (.cells #[.int .i64 t.op, .string (bs t.s), .int .i64 t.n, .slice A t.l.length c, .int .i64 t.line] 24)) = W := ⟨_, rfl⟩
  have hb1 : Below w.heap.size w W1 := by rw [← hW1]; exact (Below.refl _ w).alloc (Nat.le_refl _) _
  have hz1 : W1.heap.size = w.heap.size + 1 := by rw [← hW1]; simp
  have hA1 : At W1 W1.heap.size t (nodeV t (.slice A t.l.length c)) := At.keep t hAt (by omega) fun p hp => hb1.cell hp
  have hbox : W1.heap[w.heap.size]? = some (.cells #[.int .i64 t.op, .string (bs t.s), .int .i64 t.n, .slice A t.l.length c, .int .i64 t.line] 24 (0, 0)) := by rw [← hW1]; exact heap_alloc_new w _
  have hcall := rightE_any t _ W1 hA1 (by omega)
  have he1 : Env W1 := he.below hb1
  have hcells : ∀ w2, Below W1.heap.size W1 w2 → w2.cell? ⟨w.heap.size, 0, none⟩ = some (.int .i64 t.op) ∧ w2.cell? ⟨w.heap.size, 1, none⟩ = some (.string (bs t.s)) ∧ w2.cell? ⟨w.heap.size, 2, none⟩ = some (.int .i64 t.n) ∧ w2.cell? ⟨w.heap.size, 3, none⟩ = some (.slice A t.l.length c) ∧ w2.cell? ⟨w.heap.size, 4, none⟩ = some (.int .i64 t.line) := by
    intro w2 hb
    have hx : w2.heap[w.heap.size]? = some (.cells #[.int .i64 t.op, .string (bs t.s), .int .i64 t.n, .slice A t.l.length c, .int .i64 t.line] 24 (0, 0)) := by rw [hb.block _ (by omega)]; exact hbox
    exact ⟨cell_of_row _ _ 0 _ _ _ hx, cell_of_row _ _ 1 _ _ _ hx, cell_of_row _ _ 2 _ _ _ hx, cell_of_row _ _ 3 _ _ _ hx, cell_of_row _ _ 4 _ _ _ hx⟩
  have hE : rightE t = true → ∀ w2, Below W1.heap.size W1 w2 → Calls Tryd.prog 33 #[.pointer (some ⟨w2.heap.size, 0, none⟩), nodeV t (.slice A t.l.length c)] (w2.alloc (.cells #[.slice none 0 0, .int .i64 0] 41)) (Put w2.heap.size (w2.alloc (.cells #[.slice none 0 0, .int .i64 0] 41)) (showE t) 0) := by
    intro hr w2 hb
    have hr' := hr
    unfold rightE at hr'
    rw [Bool.and_eq_true] at hr'
    have hb' : Below W1.heap.size W1 (w2.alloc (.cells #[.slice none 0 0, .int .i64 0] 41)) := hb.alloc hb.size _
    have := (all_ok t (good_of hr'.2)).1 (eE hr'.1).1 (eE hr'.1).2 w2.heap.size 0 _ (w2.alloc (.cells #[.slice none 0 0, .int .i64 0] 41)) [] (At.keep t hA1 hb.size fun p hp => hb'.cell hp) (page_new w2 (by have := hb.size; omega)) (by omega) (by have := hlen hr; unfold showE at this; rw [List.nil_append]; exact this) (he1.below hb')
    simpa [showE] using this
  obtain ⟨f0, f1, f2, f3, f4⟩ := hcells W1 (Below.refl _ _)
  have HW := Lib.hid (And.intro hW1 (And.intro hb1 hz1))
  unfold nodeV at hcall hE ⊢
  have HE := Lib.hid (And.intro hE hcells)
  rw [← hW1] at hcall
  have HC := Lib.hid hcall
  obtain ⟨r, er⟩ : ∃ r, rightE t = r := ⟨_, rfl⟩
  rw [er] at HC HE ⊢
  obtain ⟨S, eS⟩ : ∃ S, showE t = S := ⟨_, rfl⟩
  rw [eS] at HE ⊢
  clear hrow hAt hA1 hb1 hz1 hbox hcall he he1 hcells hE hlen hk hW1 eS er f0 f1 f2 f3 f4
  cases r with
  | false =>
    go_enter Tryd.func18, Tryd.ntmps18
    go_wp2_with (go_at_call 14; refine HC.out.mono ?_; rintro e w2 ⟨rfl, hb2⟩; rw [HW.out.1] at hb2; have HB := Lib.hid hb2; clear hb2)
    go_ret2
    exact ⟨by simp, HW.out.2.1.trans (HB.out.mono (by have := HW.out.2.2; omega))⟩
  | true =>
    go_enter Tryd.func18, Tryd.ntmps18
    go_wp2_with fail
    go_at_call 14
    refine HC.out.mono ?_
    rintro e w2 ⟨rfl, hb2⟩
    rw [HW.out.1] at hb2
    have hc3 := HE.out.1 trivial w2 hb2
    have hb3 : Below W1.heap.size W1 (w2.alloc (.cells #[.slice none 0 0, .int .i64 0] 41)) := hb2.alloc hb2.size _
    obtain ⟨f0, f1, f2, f3, f4⟩ := HE.out.2 w2 hb2
    obtain ⟨f5, f6, f7, f8, f9⟩ := HE.out.2 _ hb3
    have HB := Lib.hid (And.intro hb2 hb3)
    have HC3 := Lib.hid hc3
    have hlt : w.heap.size < w2.heap.size := by have := hb2.size; have := HW.out.2.2; omega
    clear hb2 hb3 hc3
    go_wp2_with fail
    go_at_call 33
    refine HC3.out.mono ?_
    rintro e w4 ⟨⟨v4, rfl⟩, hp4, hg4⟩
    obtain ⟨A4, c4, hpg, hown⟩ := hp4.cells
    have hcv := byteRow_str hown
    have hc0 := cell_of_row w4 w2.heap.size 0 _ _ _ hpg
    have HG := Lib.hid hg4
    clear hp4 hg4 hpg hown f0 f1 f2 f3 f4 f5 f6 f7 f8 f9
    go_wp2
    go_ret2
    refine ⟨by simp, ?_⟩
    exact (HW.out.2.1.trans (HB.out.2.mono (by have := HW.out.2.2; omega))).trans (HG.out.below.mono (by have := hlt; omega))
set_option maxRecDepth 100000 in
set_option maxHeartbeats 4000000 in
theorem show_any (t : Tr) (v : Value) (w : World) (hAt : At w w.heap.size t v) (hk : t.size ≤ 100000) (hlen : rightP t = true → (showP t).length ≤ 100000000) (he : Env w) :
    Calls Tryd.prog 16 #[v] w (Tells w (rightP t) (showP t)) := by
  have hAt' := hAt
  rw [At_iff] at hAt'
  obtain ⟨u, rfl, hrow, -⟩ := hAt'
  obtain ⟨A, c, rfl, _, _⟩ := row_at hrow
  obtain ⟨W1, hW1⟩ : ∃ W, (w.alloc (.cells #[.int .i64 t.op, .string (bs t.s), .int .i64 t.n, .slice A t.l.length c, .int .i64 t.line] 24)) = W := ⟨_, rfl⟩
  have hb1 : Below w.heap.size w W1 := by rw [← hW1]; exact (Below.refl _ w).alloc (Nat.le_refl _) _
  have hz1 : W1.heap.size = w.heap.size + 1 := by rw [← hW1]; simp
  have hA1 : At W1 W1.heap.size t (nodeV t (.slice A t.l.length c)) := At.keep t hAt (by omega) fun p hp => hb1.cell hp
  have hbox : W1.heap[w.heap.size]? = some (.cells #[.int .i64 t.op, .string (bs t.s), .int .i64 t.n, .slice A t.l.length c, .int .i64 t.line] 24 (0, 0)) := by rw [← hW1]; exact heap_alloc_new w _
  have hcall := right_any t _ W1 hA1 (by omega)
  have he1 : Env W1 := he.below hb1
  have hcells : ∀ w2, Below W1.heap.size W1 w2 → w2.cell? ⟨w.heap.size, 0, none⟩ = some (.int .i64 t.op) ∧ w2.cell? ⟨w.heap.size, 1, none⟩ = some (.string (bs t.s)) ∧ w2.cell? ⟨w.heap.size, 2, none⟩ = some (.int .i64 t.n) ∧ w2.cell? ⟨w.heap.size, 3, none⟩ = some (.slice A t.l.length c) ∧ w2.cell? ⟨w.heap.size, 4, none⟩ = some (.int .i64 t.line) := by
    intro w2 hb
    have hx : w2.heap[w.heap.size]? = some (.cells #[.int .i64 t.op, .string (bs t.s), .int .i64 t.n, .slice A t.l.length c, .int .i64 t.line] 24 (0, 0)) := by rw [hb.block _ (by omega)]; exact hbox
    exact ⟨cell_of_row _ _ 0 _ _ _ hx, cell_of_row _ _ 1 _ _ _ hx, cell_of_row _ _ 2 _ _ _ hx, cell_of_row _ _ 3 _ _ _ hx, cell_of_row _ _ 4 _ _ _ hx⟩
  have hE : rightP t = true → ∀ w2, Below W1.heap.size W1 w2 → Calls Tryd.prog 31 #[.pointer (some ⟨w2.heap.size, 0, none⟩), .slice A t.l.length c] (w2.alloc (.cells #[.slice none 0 0, .int .i64 0] 41)) (Put w2.heap.size (w2.alloc (.cells #[.slice none 0 0, .int .i64 0] 41)) (showP t) 0) := by
    intro hr w2 hb
    have hr' := hr
    unfold rightP at hr'
    rw [Bool.and_eq_true] at hr'
    have hb' : Below W1.heap.size W1 (w2.alloc (.cells #[.slice none 0 0, .int .i64 0] 41)) := hb.alloc hb.size _
    have h32 : t.op = 32 := by
      have := hr'.1
      unfold hasB at this
      simpa using this
    have hst : ∀ y ∈ t.l, StmtOK y := fun y hy => (all_ok y ((good_of hr'.2).part hy)).2.1 (eS (((inv_32 h32).1 (good_of hr'.2).self).2.2.2 y hy)).1 (eS (((inv_32 h32).1 (good_of hr'.2).self).2.2.2 y hy)).2
    have hA2 := At.keep (n' := w2.heap.size) t hA1 hb.size fun p hp => hb'.cell hp
    rw [At_iff] at hA2
    obtain ⟨u, eu, hrow2, -⟩ := hA2
    have eu' : (Value.slice A t.l.length c) = u := by
      unfold nodeV at eu
      simp only [Value.agg.injEq, Array.mk.injEq, List.cons.injEq, and_true, true_and] at eu
      exact eu
    subst eu'
    have := lines_any w2.heap.size 0 t.l _ (w2.alloc (.cells #[.slice none 0 0, .int .i64 0] 41)) [] hrow2 (page_new w2 (by have := hb.size; omega)) hst (by rw [size_eq] at hk; omega) (by have := hlen hr; unfold showP at this; rw [List.nil_append]; exact this) (he1.below hb')
    simpa only [showP, List.nil_append] using this
  obtain ⟨f0, f1, f2, f3, f4⟩ := hcells W1 (Below.refl _ _)
  have HW := Lib.hid (And.intro hW1 (And.intro hb1 hz1))
  unfold nodeV at hcall hE ⊢
  have HE := Lib.hid (And.intro hE hcells)
  rw [← hW1] at hcall
  have HC := Lib.hid hcall
  obtain ⟨r, er⟩ : ∃ r, rightP t = r := ⟨_, rfl⟩
  rw [er] at HC HE ⊢
  obtain ⟨S, eS⟩ : ∃ S, showP t = S := ⟨_, rfl⟩
  rw [eS] at HE ⊢
  clear hrow hAt hA1 hb1 hz1 hbox hcall he he1 hcells hE hlen hk hW1 eS er f0 f1 f2 f3 f4
  cases r with
  | false =>
    go_enter Tryd.func16, Tryd.ntmps16
    go_wp2_with (go_at_call 12; refine HC.out.mono ?_; rintro e w2 ⟨rfl, hb2⟩; rw [HW.out.1] at hb2; have HB := Lib.hid hb2; clear hb2)
    go_ret2
    exact ⟨by simp, HW.out.2.1.trans (HB.out.mono (by have := HW.out.2.2; omega))⟩
  | true =>
    go_enter Tryd.func16, Tryd.ntmps16
    go_wp2_with fail
    go_at_call 12
    refine HC.out.mono ?_
    rintro e w2 ⟨rfl, hb2⟩
    rw [HW.out.1] at hb2
    have hc3 := HE.out.1 trivial w2 hb2
    have hb3 : Below W1.heap.size W1 (w2.alloc (.cells #[.slice none 0 0, .int .i64 0] 41)) := hb2.alloc hb2.size _
    obtain ⟨f0, f1, f2, f3, f4⟩ := HE.out.2 w2 hb2
    obtain ⟨f5, f6, f7, f8, f9⟩ := HE.out.2 _ hb3
    have HB := Lib.hid (And.intro hb2 hb3)
    have HC3 := Lib.hid hc3
    have hlt : w.heap.size < w2.heap.size := by have := hb2.size; have := HW.out.2.2; omega
    clear hb2 hb3 hc3
    go_wp2_with fail
    go_at_call 31
    refine HC3.out.mono ?_
    rintro e w4 ⟨⟨v4, rfl⟩, hp4, hg4⟩
    obtain ⟨A4, c4, hpg, hown⟩ := hp4.cells
    have hcv := byteRow_str hown
    have hc0 := cell_of_row w4 w2.heap.size 0 _ _ _ hpg
    have HG := Lib.hid hg4
    clear hp4 hg4 hpg hown f0 f1 f2 f3 f4 f5 f6 f7 f8 f9
    go_wp2
    go_ret2
    refine ⟨by simp, ?_⟩
    exact (HW.out.2.1.trans (HB.out.2.mono (by have := HW.out.2.2; omega))).trans (HG.out.below.mono (by have := hlt; omega))
end Go.Proofs.YtiejpenffpjmeaaDoor
