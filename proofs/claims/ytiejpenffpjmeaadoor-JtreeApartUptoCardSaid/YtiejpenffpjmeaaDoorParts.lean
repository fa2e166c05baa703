/- jtree.page: arguments, function, call, construction, member. -/
import Derived.Test.YtiejpenffpjmeaaDoorLines
namespace Go.Proofs.YtiejpenffpjmeaaDoor
open Go.RowKit Go.Proofs

theorem AtL.take_ : ∀ {W : World} {n g off : Nat} (l : List Tr) (k : Nat), AtL W n g off l → AtL W n g off (l.take k)
  | _, _, _, _, [], k, _ => by rw [List.take_nil]; exact AtL_nil _ _ _ _
  | _, _, _, _, _ :: _, 0, _ => AtL_nil _ _ _ _
  | _, _, _, _, t :: r, k + 1, h => by
    rw [List.take_succ_cons, AtL_cons] at *
    exact ⟨h.1, AtL.take_ r k h.2⟩
theorem Row.take_ {W : World} {n cap : Nat} {A : Option Addr} {l : List Tr} (h : Row W n l (.slice A l.length cap)) (k : Nat) (hk : k ≤ l.length) : Row W n (l.take k) (.slice A k cap) := by
  obtain ⟨A', cap', e, h1, h2⟩ := h
  cases e
  refine ⟨A, cap, by rw [List.length_take, Nat.min_eq_left hk], ⟨by rw [List.length_take]; omega, h1.2⟩, fun hl => ?_⟩
  rw [List.length_take] at hl
  obtain ⟨g, off, rfl, hg, ha⟩ := h2 (by omega)
  exact ⟨g, off, rfl, hg, AtL.take_ l k ha⟩
/-- The first of a row, and what is behind it. -/
theorem Row.cons_ {W : World} {n : Nat} {x : Tr} {l : List Tr} {v : Value} (h : Row W n (x :: l) v) :
    ∃ g off cap, v = .slice (some ⟨g, off, none⟩) (l.length + 1) cap ∧ g < n ∧ l.length + 1 ≤ cap ∧ cap ≤ maxLen ∧ AtL W n g off (x :: l) ∧
      ∃ A c, (A = some ⟨g, off, none⟩ ∧ c = 0 ∧ cap = 1 ∧ l.length = 0 ∨ A = some ⟨g, off + 5, none⟩ ∧ c = cap - 1 ∧ cap ≠ 1) ∧ Row W n l (.slice A l.length c) := by
  obtain ⟨A, cap, rfl, h1, h2⟩ := h
  obtain ⟨g, off, rfl, hg, ha⟩ := h2 (by simp)
  have h1l := h1.1
  rw [List.length_cons] at h1l
  have ha2 := ha
  rw [AtL_cons] at ha2
  refine ⟨g, off, cap, by simp, hg, h1l, h1.2, ha, ?_⟩
  by_cases hc : cap = 1
  · exact ⟨some ⟨g, off, none⟩, 0, .inl ⟨rfl, rfl, hc, by omega⟩, some ⟨g, off, none⟩, 0, rfl, ⟨by omega, by unfold maxLen; omega⟩, fun h => absurd h (by omega)⟩
  · exact ⟨some ⟨g, off + 5, none⟩, cap - 1, .inr ⟨rfl, rfl, hc⟩, some ⟨g, off + 5, none⟩, cap - 1, rfl, ⟨by omega, by have := h1.2; omega⟩, fun _ => ⟨g, off + 5, rfl, hg, ha2.2⟩⟩

set_option maxRecDepth 100000 in
set_option maxHeartbeats 4000000 in
theorem arguments_any (b k : Nat) (xs : List Tr) (v : Value) (w : World) (l : Bs) (hx : Row w b xs v) (hp : PageAt w b l k) (hE : ∀ x ∈ xs, ExprOK x) (hk : k + sizes xs ≤ 100000)
    (hlen : (l ++ ([40] ++ (commas (xs.map (Tr.txt k)) ++ [41]))).length ≤ 100000000) (he : Env w) :
    Calls Tryd.prog 70 #[.pointer (some ⟨b, 0, none⟩), v] w (Put b w (l ++ ([40] ++ (commas (xs.map (Tr.txt k)) ++ [41]))) k) := by
  have hlen2 := hlen
  simp only [List.length_append, List.length_cons, List.length_nil] at hlen2
  have HC1 := Lib.hid (putOne b k [40] w l hp (by simp only [List.length_append, List.length_cons, List.length_nil]; omega))
  have hcall := fun (w1 : World) (h : PG b w w1) (h2 : PageAt w1 b (l ++ [40]) k) => list_any b k xs v w1 _ (hx.below h.below) h2 hE hk (by simp only [List.length_append, List.length_cons, List.length_nil]; omega) (he.pg hp.1 h)
  have HC2 := Lib.hid hcall
  obtain ⟨Ax, cx, rfl, -, -⟩ := row_at hx
  have HLen := Lib.hid hlen2
  obtain ⟨R, eR⟩ : ∃ R, l ++ ([40] ++ (commas (xs.map (Tr.txt k)) ++ [41])) = R := ⟨_, rfl⟩
  rw [eR]
  have HRt := Lib.hid eR
  clear hlen hlen2 hcall hx hp hE hk he eR
  go_enter Tryd.func70, Tryd.ntmps70
  go_wp2_with fail
  go_at_call 46
  refine HC1.out.mono ?_
  rintro e w1 ⟨⟨v1, rfl⟩, hp1, hg1⟩
  have HC3 := Lib.hid (HC2.out w1 hg1 hp1)
  have HG1 := Lib.hid hg1
  clear hp1 hg1
  go_wp2_with (first
    | (go_at_call 49; refine HC3.out.mono ?_; rintro e w2 ⟨⟨v2, rfl⟩, hp2, hg2⟩; have HC4 := Lib.hid (putOne b k [41] w2 _ hp2 (by have := HLen.out; simp only [List.length_append, List.length_cons, List.length_nil] at this ⊢; omega)); have HG2 := Lib.hid hg2; clear hp2 hg2)
    | (go_at_call 46; refine HC4.out.mono ?_; rintro e w3 ⟨⟨v3, rfl⟩, hp3, hg3⟩; have HR := Lib.hid (And.intro hp3 hg3); clear hp3 hg3))
  refine bodyPost_ret (results_none rfl _ _ _) rfl ?_
  exact ⟨⟨_, rfl⟩, by have := HR.out.1; rw [← HRt.out]; simpa using this, (HG1.out.trans HG2.out).trans HR.out.2⟩

set_option maxRecDepth 100000 in
set_option maxHeartbeats 4000000 in
theorem call_any (b k : Nat) (x : Tr) (xs : List Tr) (v : Value) (w : World) (l : Bs) (hx : Row w b (x :: xs) v) (hp : PageAt w b l k) (hE : ∀ y ∈ x :: xs, ExprOK y) (hk : k + sizes (x :: xs) ≤ 100000)
    (hlen : (l ++ (x.txt k ++ ([40] ++ (commas (xs.map (Tr.txt k)) ++ [41])))).length ≤ 100000000) (he : Env w) :
    Calls Tryd.prog 53 #[.pointer (some ⟨b, 0, none⟩), v] w (Put b w (l ++ (x.txt k ++ ([40] ++ (commas (xs.map (Tr.txt k)) ++ [41])))) k) := by
  have hlen2 := hlen
  simp only [List.length_append, List.length_cons, List.length_nil] at hlen2
  rw [sizes_cons] at hk
  obtain ⟨g, off, cap, rfl, hg, hc1, hc2, ha, A, c, hAc, hrow⟩ := Row.cons_ hx
  obtain ⟨Av, cv, hAt, x0, x1, x2, x3, x4⟩ := elem_at (i := 0) ha hg (Below.refl b w) rfl
  simp only [Nat.zero_mul, Nat.add_zero] at x0 x1 x2 x3 x4
  have hc := hE x (by simp) b k _ w l hAt hp (by omega) (by simp only [List.length_append]; omega) he
  unfold nodeV at hc
  have HC1 := Lib.hid hc
  have hcall := fun (w1 : World) (h : PG b w w1) (h2 : PageAt w1 b (l ++ x.txt k) k) => arguments_any b k xs _ w1 _ (hrow.below h.below) h2 (fun y hy => hE y (by simp [hy])) (by omega) (by simp only [List.length_append, List.length_cons, List.length_nil]; omega) (he.pg hp.1 h)
  have HC2 := Lib.hid hcall
  obtain ⟨R, eR⟩ : ∃ R, l ++ (x.txt k ++ ([40] ++ (commas (xs.map (Tr.txt k)) ++ [41]))) = R := ⟨_, rfl⟩
  rw [eR]
  have HRt := Lib.hid eR
  unfold maxLen at hc2
  clear hlen hlen2 hcall hx hp hE hk he eR hc hAt ha hrow
  rcases hAc with ⟨rfl, rfl, rfl, h0⟩ | ⟨rfl, rfl, hcap⟩
  · rw [h0] at HC2 hc1 ⊢
    clear h0
    go_enter Tryd.func53, Tryd.ntmps53
    go_wp2_with (first
      | (go_at_call 33; refine HC1.out.mono ?_; rintro e w1 ⟨⟨v1, rfl⟩, hp1, hg1⟩; have HC3 := Lib.hid (HC2.out w1 hg1 hp1); have HG1 := Lib.hid hg1; clear hp1 hg1)
      | (go_at_call 70; refine HC3.out.mono ?_; rintro e w2 ⟨⟨v2, rfl⟩, hp2, hg2⟩; have HR := Lib.hid (And.intro hp2 hg2); clear hp2 hg2))
    refine bodyPost_ret (results_none rfl _ _ _) rfl ?_
    exact ⟨⟨_, rfl⟩, by have := HR.out.1; rw [← HRt.out]; simpa using this, HG1.out.trans HR.out.2⟩
  · go_enter Tryd.func53, Tryd.ntmps53
    go_wp2_with (first
      | (go_at_call 33; refine HC1.out.mono ?_; rintro e w1 ⟨⟨v1, rfl⟩, hp1, hg1⟩; have HC3 := Lib.hid (HC2.out w1 hg1 hp1); have HG1 := Lib.hid hg1; clear hp1 hg1)
      | (go_at_call 70; refine HC3.out.mono ?_; rintro e w2 ⟨⟨v2, rfl⟩, hp2, hg2⟩; have HR := Lib.hid (And.intro hp2 hg2); clear hp2 hg2))
    refine bodyPost_ret (results_none rfl _ _ _) rfl ?_
    exact ⟨⟨_, rfl⟩, by have := HR.out.1; rw [← HRt.out]; simpa using this, HG1.out.trans HR.out.2⟩

set_option maxRecDepth 100000 in
set_option maxHeartbeats 4000000 in
theorem function_any (b k : Nat) (xs : List Tr) (x : Tr) (v : Value) (w : World) (l : Bs) (hx : Row w b (xs ++ [x]) v) (hp : PageAt w b l k) (hE : ∀ y ∈ xs, ExprOK y) (hB : BraceOK x) (hk : k + sizes (xs ++ [x]) ≤ 100000)
    (hlen : (l ++ funcB ((xs ++ [x]).map (Tr.txt k))).length ≤ 100000000) (he : Env w) :
    Calls Tryd.prog 48 #[.pointer (some ⟨b, 0, none⟩), v] w (Put b w (l ++ funcB ((xs ++ [x]).map (Tr.txt k))) k) := by
  have hfb : funcB ((xs ++ [x]).map (Tr.txt k)) = [40] ++ (commas (xs.map (Tr.txt k)) ++ ([41, 32] ++ x.txt k)) := by
    rw [List.map_append]
    simp [funcB]
  rw [hfb] at hlen ⊢
  have hlen2 := hlen
  simp only [List.length_append, List.length_cons, List.length_nil] at hlen2
  rw [sizes_app, sizes_cons, sizes_nil] at hk
  obtain ⟨A, cap, rfl, ⟨h1, h2⟩, h3⟩ := hx
  have hrow0 : Row w b (xs ++ [x]) (.slice A (xs ++ [x]).length cap) := ⟨A, cap, rfl, ⟨h1, h2⟩, h3⟩
  have hrow := hrow0.take_ xs.length (by simp)
  rw [List.take_left] at hrow
  obtain ⟨g, off, rfl, hg, ha⟩ := h3 (by simp)
  have hcall := fun (w1 : World) (h : PG b w w1) => elem_at (i := xs.length) (x := x) ha hg h.below (by simp)
  have HX := Lib.hid hcall
  have hc := arguments_any b k xs _ w l hrow hp hE (by omega) (by simp only [List.length_append, List.length_cons, List.length_nil]; omega) he
  have HC1 := Lib.hid hc
  have HB := Lib.hid (And.intro hB (And.intro hp.1 he))
  have HLen := Lib.hid (And.intro hlen2 hk)
  obtain ⟨R, eR⟩ : ∃ R, l ++ ([40] ++ (commas (xs.map (Tr.txt k)) ++ ([41, 32] ++ x.txt k))) = R := ⟨_, rfl⟩
  rw [eR]
  have HRt := Lib.hid eR
  unfold maxLen at h2
  rw [show (xs ++ [x]).length = xs.length + 1 by simp] at h1 ⊢
  obtain ⟨n, en⟩ : ∃ n, xs.length = n := ⟨_, rfl⟩
  rw [en] at HC1 HX h1 ⊢
  clear hfb hlen hlen2 hcall hp hE hB hk he eR hc ha hrow hrow0 h3 en
  go_enter Tryd.func48, Tryd.ntmps48
  go_wp2_with fail
  go_at_call 70
  refine HC1.out.mono ?_
  rintro e w1 ⟨⟨v1, rfl⟩, hp1, hg1⟩
  have HC2 := Lib.hid (putOne b k [32] w1 _ hp1 (by have := HLen.out.1; simp only [List.length_append, List.length_cons, List.length_nil] at this ⊢; omega))
  have HG1 := Lib.hid hg1
  clear hp1 hg1
  go_wp2_with fail
  go_at_call 46
  refine HC2.out.mono ?_
  rintro e w2 ⟨⟨v2, rfl⟩, hp2, hg2⟩
  have hg02 := HG1.out.trans hg2
  obtain ⟨Av, cv, hAt, x0, x1, x2, x3, x4⟩ := HX.out w2 hg02
  have hcb := HB.out.1 b k _ w2 _ hAt hp2 (by have := HLen.out.2; omega) (by have := HLen.out.1; simp only [List.length_append, List.length_cons, List.length_nil] at this ⊢; omega) (HB.out.2.2.pg HB.out.2.1 hg02)
  unfold nodeV at hcb
  have HC3 := Lib.hid hcb
  have HG2 := Lib.hid hg02
  clear hcb hp2 hg2 hg02 hAt
  go_wp2_with (go_at_call 67; refine HC3.out.mono ?_; rintro e w3 ⟨⟨v3, rfl⟩, hp3, hg3⟩; have HR := Lib.hid (And.intro hp3 hg3); clear hp3 hg3)
  refine bodyPost_ret (results_none rfl _ _ _) rfl ?_
  exact ⟨⟨_, rfl⟩, by have := HR.out.1; rw [← HRt.out]; simpa using this, HG2.out.trans HR.out.2⟩
end Go.Proofs.YtiejpenffpjmeaaDoor
