/- graph.order, graph.from: how edges are compared. -/
import Derived.Test.YtfiockconbaniaaGrCallers
import Derived.Shelf.SlSortCmp.WholeK
import Derived.Deep.RegionHeld3
namespace Go.Proofs.Ytfiockconbaniaa
set_option linter.unusedSimpArgs false
set_option linter.unusedVariables false
open Go.RowKit Go.Proofs Go.Lib Go.Sort

/-- The first that is not 0. -/
def orL : List Int → Int
  | [] => 0
  | x :: r => if x = 0 then orL r else x
set_option maxHeartbeats 1000000 in
theorem or_any (A : Option Addr) (n c : Nat) (l : List Int) (w : World) (hr : Ints9 w (.slice A n c) l) :
    Calls Try.prog 49 #[.slice A n c] w fun e w' => e = .returned (.int .i64 (orL l)) ∧ w = w' := by
  obtain ⟨hnl, hnc, hcm, -⟩ := SlAt.get hr
  have hcm' : c ≤ 9223372036854775807 := hcm
  have HL := Lib.hid hnl.symm
  clear hnl hcm
  go_enter Try.func49, Try.ntmps49
  go_wp2
  go_loop [8] (fun i => ∃ k : Nat, k ≤ n ∧ i = .int .i64 k ∧ orL (l.drop k) = orL l) (fun i => n - (intOf i).toNat)
  case atStart => exact ⟨0, Nat.zero_le _, rfl, by simp⟩
  case round =>
    obtain ⟨k, hk, rfl, hs⟩ := hrel
    have HS := Lib.hid hs
    clear hs
    by_cases hlt : k < n
    · obtain ⟨g, off, z, rfl, -, hz, hb, hc⟩ := int_get hr k hlt
      have g1 : (k : Int) < n := by omega
      have HD := Lib.hid (drop_at hz)
      clear hz
      by_cases hA : z = 0
      · have hA' : (z != 0) = false := by simpa using hA
        have HE := Lib.hid hA
        clear hA
        go_wp2
        go_round
        case rel => exact ⟨k + 1, by omega, by go_num, by rw [← HS.out, HD.out, orL, if_pos HE.out]⟩
        case measure => simp [intOf]; omega
      · have hA' : (z != 0) = true := by simpa using hA
        have HE := Lib.hid (show orL l = z by rw [← HS.out, HD.out, orL, if_neg hA])
        clear hA
        go_wp2
        go_ret
        exact ⟨by rw [HE.out]; rfl, rfl⟩
    · have g1 : ¬ (k : Int) < n := by omega
      have HE := Lib.hid (show orL l = 0 by rw [← HS.out, drop_nil_of HL.out hlt]; rfl)
      go_wp2
      go_ret
      exact ⟨by rw [HE.out]; rfl, rfl⟩
/-- How two edges compare. -/
def cfE (x y : Ed) : Int := orL [compareInt x.fr y.fr, compareInt x.mark y.mark, compareInt x.to y.to]
theorem cfE_lt (x y : Ed) : ltOf cfE x y = decide (befE x y) := by
  unfold ltOf cfE compareInt befE orL orL orL orL
  rw [Bool.eq_iff_iff]
  simp only [decide_eq_true_eq]
  by_cases h1 : x.fr < y.fr <;> by_cases h2 : y.fr < x.fr <;> by_cases h3 : x.mark < y.mark <;> by_cases h4 : y.mark < x.mark <;> by_cases h5 : x.to < y.to <;> by_cases h6 : y.to < x.to <;> simp [h1, h2, h3, h4, h5, h6] <;> omega
/-- compareInt's own sign. -/
theorem cmp_zero (x y : Int) : compareInt x y = 0 ↔ x = y := by
  unfold compareInt
  split
  · omega
  · split <;> omega
theorem cmp_i64 (x y : Int) : I64 (compareInt x y) := by
  unfold compareInt I64
  split
  · omega
  · split <;> omega
theorem three_at {W : World} {g : Nat} {q1 q2 q3 : Int} (h : W.heap[g]? = some (.cells #[.int .i64 q1, .int .i64 q2, .int .i64 q3] 3 (0, 0))) (h1 : I64 q1) (h2 : I64 q2) (h3 : I64 q3) : Ints9 W (.slice (some ⟨g, 0, none⟩) 3 3) [q1, q2, q3] := by
  obtain ⟨c0, c1, c2⟩ := box3 h
  refine ⟨_, _, rfl, ⟨by simp, by unfold maxLen; omega⟩, fun _ => ⟨g, 0, rfl, (Array.getElem?_eq_some_iff.1 h).1, fun i x hx => ?_⟩⟩
  match i, hx with
  | 0, hx => cases hx; exact ⟨_, ⟨rfl, h1⟩, fun j hj => by obtain rfl : j = 0 := by omega
                                                           simpa using c0⟩
  | 1, hx => cases hx; exact ⟨_, ⟨rfl, h2⟩, fun j hj => by obtain rfl : j = 0 := by omega
                                                           simpa using c1⟩
  | 2, hx => cases hx; exact ⟨_, ⟨rfl, h3⟩, fun j hj => by obtain rfl : j = 0 := by omega
                                                           simpa using c2⟩
  | i + 3, hx => simp at hx
theorem grow2 (w : World) (o1 o2 o3 : Obj) : ∃ q os, (((w.alloc o1).alloc o2).drew).alloc o3 = grow (w.drewN q) os :=
  ⟨1, _, by rw [alloc_eq_grow, alloc_eq_grow, alloc_eq_grow, grow_grow]; exact grow_grow (w.drewN 1) _ _⟩
set_option maxRecDepth 100000 in
set_option maxHeartbeats 4000000 in
theorem order_any (x y : Ed) (W : World) : Calls Try.prog 31 #[.agg #[.int .i64 x.fr, .int .i64 x.mark, .int .i64 x.to], .agg #[.int .i64 y.fr, .int .i64 y.mark, .int .i64 y.to]] W fun e w' => e = .returned (.int .i64 (cfE x y)) ∧ ∃ q os', w' = grow (W.drewN q) os' := by
  have b0 := heap_alloc_new W (.cells #[.int .i64 x.fr, .int .i64 x.mark, .int .i64 x.to] 44)
  have b1 := (Below.heap_alloc _ (.cells #[.int .i64 y.fr, .int .i64 y.mark, .int .i64 y.to] 44) _ (by simp)).trans b0
  have b2 := heap_alloc_new (W.alloc (.cells #[.int .i64 x.fr, .int .i64 x.mark, .int .i64 x.to] 44)) (.cells #[.int .i64 y.fr, .int .i64 y.mark, .int .i64 y.to] 44)
  rw [World.size_alloc] at b2
  obtain ⟨W0, hW0⟩ : ∃ W0, (W.alloc (.cells #[.int .i64 x.fr, .int .i64 x.mark, .int .i64 x.to] 44)).alloc (.cells #[.int .i64 y.fr, .int .i64 y.mark, .int .i64 y.to] 44) = W0 := ⟨_, rfl⟩
  have hz : W0.heap.size = W.heap.size + 2 := by rw [← hW0]; simp
  rw [hW0] at b1 b2
  obtain ⟨N, hN⟩ : ∃ N, W.heap.size = N := ⟨_, rfl⟩
  rw [hN] at b1 b2 hz
  obtain ⟨x0, x1, x2⟩ := box3 b1
  obtain ⟨y0, y1, y2⟩ := box3 b2
  have c1 := fun w => Try.cmp_Compare_int x.fr y.fr w
  have c2 := fun w => Try.cmp_Compare_int x.mark y.mark w
  have c3 := fun w => Try.cmp_Compare_int x.to y.to w
  obtain ⟨q1, e1⟩ : ∃ q, compareInt x.fr y.fr = q := ⟨_, rfl⟩
  obtain ⟨q2, e2⟩ : ∃ q, compareInt x.mark y.mark = q := ⟨_, rfl⟩
  obtain ⟨q3, e3⟩ : ∃ q, compareInt x.to y.to = q := ⟨_, rfl⟩
  have hi1 : I64 q1 := e1 ▸ cmp_i64 _ _
  have hi2 : I64 q2 := e2 ▸ cmp_i64 _ _
  have hi3 : I64 q3 := e3 ▸ cmp_i64 _ _
  have HO := Lib.hid (or_any (some ⟨N + 2, 0, none⟩) 3 3 [q1, q2, q3] (W0.drew.alloc (.cells #[.int .i64 q1, .int .i64 q2, .int .i64 q3] 3)) (three_at (by have := heap_alloc_new W0.drew (.cells #[.int .i64 q1, .int .i64 q2, .int .i64 q3] 3); rw [show W0.drew.heap.size = N + 2 from hz] at this; exact this) hi1 hi2 hi3))
  have HC := Lib.hid (show cfE x y = orL [q1, q2, q3] by rw [← e1, ← e2, ← e3]; rfl)
  rw [e1] at c1
  rw [e2] at c2
  rw [e3] at c3
  have C1 := Lib.hid c1
  have C2 := Lib.hid c2
  have C3 := Lib.hid c3
  have HW := Lib.hid (And.intro hW0 hN)
  rw [HC.out]
  clear c1 c2 c3 e1 e2 e3 hW0 b0 b1 b2 hN
  have t1 : True := trivial
  have t2 : True := trivial
  have t3 : True := trivial
  go_enter Try.func31, Try.ntmps31
  go_upto_region 1 with fail
  rw [HW.out.1, HW.out.2]
  go_region_held3 (fun w' => w'.cell? ⟨N, 0, none⟩ = some (.int .i64 x.fr) ∧ w'.cell? ⟨N, 1, none⟩ = some (.int .i64 x.mark) ∧ w'.cell? ⟨N, 2, none⟩ = some (.int .i64 x.to) ∧ w'.cell? ⟨N + 1, 0, none⟩ = some (.int .i64 y.fr) ∧ w'.cell? ⟨N + 1, 1, none⟩ = some (.int .i64 y.mark) ∧ w'.cell? ⟨N + 1, 2, none⟩ = some (.int .i64 y.to))
    (first | go_keep | exact ⟨x0, x1, x2, y0, y1, y2⟩)
    (first
      | (have _t := t1; go_at_call 50; refine (C1.out _).mono ?_; rintro e w1 ⟨rfl, rfl⟩; clear t1)
      | (have _t := t2; go_at_call 50; refine (C2.out _).mono ?_; rintro e w1 ⟨rfl, rfl⟩; clear t2)
      | (have _t := t3; go_at_call 50; refine (C3.out _).mono ?_; rintro e w1 ⟨rfl, rfl⟩; clear t3)
      | (go_at_call 49; refine (HO.out).mono ?_; rintro e w1 ⟨rfl, rfl⟩))
  all_goals
    go_wp2
    go_ret
    refine ⟨rfl, ?_⟩
    rw [← HW.out.1]
    exact grow2 _ _ _ _
end Go.Proofs.Ytfiockconbaniaa
