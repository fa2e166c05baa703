/- jtree.page: construction; leaf. -/
import Derived.Test.YtiejpenffpjmeaaDoorMember
namespace Go.Proofs.YtiejpenffpjmeaaDoor
open Go.RowKit Go.Proofs

theorem txt_id (k : Nat) (a : Tr) (h : a.op = 1) : a.txt k = a.s := by
  rw [txt_form k a (by omega), h]
  rfl

set_option maxRecDepth 100000 in
set_option maxHeartbeats 4000000 in
theorem construction_any (b k : Nat) (a : Tr) (xs : List Tr) (v : Value) (w : World) (l : Bs) (hx : Row w b (a :: xs) v) (hp : PageAt w b l k) (hE : ∀ y ∈ a :: xs, ExprOK y) (hk : k + sizes (a :: xs) ≤ 100000)
    (hlen : (l ++ ((if a.op = 1 then [40, 110, 101, 119, 32] ++ a.txt k else [40, 110, 101, 119, 32, 40] ++ (a.txt k ++ [41])) ++ ([40] ++ (commas (xs.map (Tr.txt k)) ++ [41, 41])))).length ≤ 100000000) (he : Env w) :
    Calls Tryd.prog 54 #[.pointer (some ⟨b, 0, none⟩), v] w (Put b w (l ++ ((if a.op = 1 then [40, 110, 101, 119, 32] ++ a.txt k else [40, 110, 101, 119, 32, 40] ++ (a.txt k ++ [41])) ++ ([40] ++ (commas (xs.map (Tr.txt k)) ++ [41, 41])))) k) := by
  obtain ⟨R, eR⟩ : ∃ R, l ++ ((if a.op = 1 then [40, 110, 101, 119, 32] ++ a.txt k else [40, 110, 101, 119, 32, 40] ++ (a.txt k ++ [41])) ++ ([40] ++ (commas (xs.map (Tr.txt k)) ++ [41, 41]))) = R := ⟨_, rfl⟩
  have hlenR := hlen
  rw [eR] at hlenR ⊢
  rw [sizes_cons] at hk
  obtain ⟨g, off, cap, rfl, hg, hc1, hc2, ha, A, c, hAc, hrow⟩ := Row.cons_ hx
  obtain ⟨Av, cv, -, x0, x1, x2, x3, x4⟩ := elem_at (i := 0) ha hg (Below.refl b w) rfl
  have hgl : g < w.heap.size := by have := hp.lt; omega
  simp only [Nat.zero_mul, Nat.add_zero] at x0 x1 x2 x3 x4
  unfold maxLen at hc2
  have hbl := hp.lt
  -- what follows the head
  have htail : ∀ (w1 : World) (M : Bs), PG b w w1 → PageAt w1 b M k → (M ++ ([40] ++ (commas (xs.map (Tr.txt k)) ++ [41]))).length ≤ 100000000 → Calls Tryd.prog 70 #[.pointer (some ⟨b, 0, none⟩), .slice A xs.length c] w1 (Put b w1 (M ++ ([40] ++ (commas (xs.map (Tr.txt k)) ++ [41]))) k) :=
    fun w1 M h h2 h3 => arguments_any b k xs _ w1 M (hrow.below h.below) h2 (fun y hy => hE y (by simp [hy])) (by omega) h3 (he.pg hp.1 h)
  have HT := Lib.hid htail
  have hrow1 : Row w b [a] (.slice (some ⟨g, off, none⟩) 1 cap) := hx.take_ (l := a :: xs) 1 (by simp)
  by_cases h1 : a.op = 1
  · rw [if_pos h1, txt_id k a h1] at eR
    have hRl : R.length = l.length + (5 + a.s.length + (1 + (commas (xs.map (Tr.txt k))).length + 2)) := by rw [← eR]; simp only [List.length_append, List.length_cons, List.length_nil]; omega
    have HC1 := Lib.hid (putTwo b k [40, 110, 101, 119, 32] a.s w l hp (by simp only [List.length_append, List.length_cons, List.length_nil]; omega))
    have HRt := Lib.hid eR
    have HRl := Lib.hid (And.intro hRl hlenR)
    rw [h1] at x0
    clear hx hp hE hk he ha hrow hrow1 hlen hlenR htail h1 eR hRl
    rcases hAc with ⟨rfl, rfl, rfl, h0⟩ | ⟨rfl, rfl, hcap⟩
    case' inl =>
      rw [h0] at HT hc1 ⊢
      clear h0
    all_goals
      go_enter Tryd.func54, Tryd.ntmps54
      go_wp2_with fail
      go_at_call 46
      refine HC1.out.mono ?_
      rintro e w1 ⟨⟨v1, rfl⟩, hp1, hg1⟩
      have HC2 := Lib.hid (HT.out w1 _ hg1 hp1 (by have := HRl.out; simp only [List.length_append, List.length_cons, List.length_nil] at this ⊢; omega))
      have HG1 := Lib.hid hg1
      clear hp1 hg1
      go_wp2_with (first
        | (go_at_call 70; refine HC2.out.mono ?_; rintro e w2 ⟨⟨v2, rfl⟩, hp2, hg2⟩; have HC3 := Lib.hid (putOne b k [41] w2 _ hp2 (by have := HRl.out; simp only [List.length_append, List.length_cons, List.length_nil] at this ⊢; omega)); have HG2 := Lib.hid hg2; clear hp2 hg2)
        | (go_at_call 46; refine HC3.out.mono ?_; rintro e w3 ⟨⟨v3, rfl⟩, hp3, hg3⟩; have HR := Lib.hid (And.intro hp3 hg3); clear hp3 hg3))
      refine bodyPost_ret (results_none rfl _ _ _) rfl ?_
      exact ⟨⟨_, rfl⟩, by have := HR.out.1; rw [← HRt.out]; simpa using this, (HG1.out.trans HG2.out).trans HR.out.2⟩
  · rw [if_neg h1] at eR
    have hRl : R.length = l.length + (6 + ((a.txt k).length + 1) + (1 + (commas (xs.map (Tr.txt k))).length + 2)) := by rw [← eR]; simp only [List.length_append, List.length_cons, List.length_nil]; omega
    have hm := mixN b k [a] [[40, 110, 101, 119, 32, 40], [41]] 2 _ w l rfl #[.string ⟨#[40, 110, 101, 119, 32, 40]⟩, .string ⟨#[41]⟩] rfl hrow1 hp (by simp) (by omega) (fun x hx => hE x (by simp [List.mem_singleton.1 hx])) (by rw [sizes_cons, sizes_nil]; omega) (by simp only [mixL, mixR, List.map_cons, List.map_nil, List.length_append, List.length_cons, List.length_nil]; omega) he
    have HC1 := Lib.hid hm
    have HRt := Lib.hid eR
    have HRl := Lib.hid (And.intro hRl hlenR)
    have hd : (a.op == 1) = false := by simpa using h1
    clear hm hx hp hE hk he ha hrow hrow1 hlen hlenR htail h1 eR hRl
    rcases hAc with ⟨rfl, rfl, rfl, h0⟩ | ⟨rfl, rfl, hcap⟩
    case' inl =>
      rw [h0] at HT hc1 ⊢
      clear h0
    all_goals
      go_enter Tryd.func54, Tryd.ntmps54
      go_wp2_with fail
      go_at_call 50
      refine HC1.out.mono ?_
      rintro e w1 ⟨⟨v1, rfl⟩, hp1, hg1⟩
      have HC2 := Lib.hid (HT.out w1 _ hg1 hp1 (by have := HRl.out; simp only [mixL, mixR, List.map_cons, List.map_nil, List.length_append, List.length_cons, List.length_nil] at this ⊢; omega))
      have HG1 := Lib.hid hg1
      clear hp1 hg1
      go_wp2_with (first
        | (go_at_call 70; refine HC2.out.mono ?_; rintro e w2 ⟨⟨v2, rfl⟩, hp2, hg2⟩; have HC3 := Lib.hid (putOne b k [41] w2 _ hp2 (by have := HRl.out; simp only [mixL, mixR, List.map_cons, List.map_nil, List.length_append, List.length_cons, List.length_nil] at this ⊢; omega)); have HG2 := Lib.hid hg2; clear hp2 hg2)
        | (go_at_call 46; refine HC3.out.mono ?_; rintro e w3 ⟨⟨v3, rfl⟩, hp3, hg3⟩; have HR := Lib.hid (And.intro hp3 hg3); clear hp3 hg3))
      refine bodyPost_ret (results_none rfl _ _ _) rfl ?_
      exact ⟨⟨_, rfl⟩, by have := HR.out.1; rw [← HRt.out]; simpa [mixL, mixR] using this, (HG1.out.trans HG2.out).trans HR.out.2⟩
end Go.Proofs.YtiejpenffpjmeaaDoor
