/- What all seven laws begin with: shown, cut. -/
import Derived.Test.YtpfmncdodcbamaaBits
import Derived.Test.YtpfmncdodcbamaaQueue
namespace Go.Proofs.Ytpfmncdodcbamaa
open Go.RowKit Go.Proofs

theorem below2 {B : Nat} {a b c : World} (h : Below B a b) (k : Below b.heap.size b c) (hB : B ≤ b.heap.size) : Below B a c := h.trans (k.mono hB)

theorem uni_shown {r : List Int} (h : UniOf r [[1, 3], [2, 3], []]) : r = [1, 2, 3] := by
  refine h.unique ⟨by decide, fun x => ?_⟩
  simp
  omega

theorem ints_two (w : World) (x y : Int) (hx : I64 x) (hy : I64 y) : Ints (w.alloc (.cells #[.int .i64 x, .int .i64 y] 3)) (w.heap.size + 1) (some ⟨w.heap.size, 0, none⟩) 2 2 [x, y] := by
  refine ⟨rfl, Nat.le_refl _, ⟨by omega, by omega⟩, by simp [hx, hy], fun _ => ⟨_, rfl, Nat.lt_succ_self _, fun j z hj => ?_⟩⟩
  match j, hj with
  | 0, hj => simp at hj; subst hj; rw [add_lit, cell_of_row _ _ _ _ _ _ (heap_alloc_new w _)]; rfl
  | 1, hj => simp at hj; subst hj; rw [add_lit, cell_of_row _ _ _ _ _ _ (heap_alloc_new w _)]; rfl
theorem ints_three (w : World) (x y q : Int) (hx : I64 x) (hy : I64 y) (hq : I64 q) : Ints (w.alloc (.cells #[.int .i64 x, .int .i64 y, .int .i64 q] 3)) (w.heap.size + 1) (some ⟨w.heap.size, 0, none⟩) 3 3 [x, y, q] := by
  refine ⟨rfl, Nat.le_refl _, ⟨by omega, by omega⟩, by simp [hx, hy, hq], fun _ => ⟨_, rfl, Nat.lt_succ_self _, fun j z hj => ?_⟩⟩
  match j, hj with
  | 0, hj => simp at hj; subst hj; rw [add_lit, cell_of_row _ _ _ _ _ _ (heap_alloc_new w _)]; rfl
  | 1, hj => simp at hj; subst hj; rw [add_lit, cell_of_row _ _ _ _ _ _ (heap_alloc_new w _)]; rfl
  | 2, hj => simp at hj; subst hj; rw [add_lit, cell_of_row _ _ _ _ _ _ (heap_alloc_new w _)]; rfl
theorem i64_small {x : Int} (h : -1000000 ≤ x ∧ x ≤ 1000000) : I64 x := by unfold I64; omega

set_option maxHeartbeats 1000000 in
theorem shown_any (w : World) : Calls Try.prog 10 #[] w fun e w' => e = .returned (.bool true) ∧ Below w.heap.size w w' := by
  -- the slices
  obtain ⟨w1, hw1⟩ : ∃ w1, w1 = (w.alloc (.cells #[.int .i64 1, .int .i64 3] 3)).alloc (.cells #[.int .i64 2, .int .i64 3] 3) := ⟨_, rfl⟩
  have hi1 : Ints w1 w1.heap.size (some ⟨w.heap.size, 0, none⟩) 2 2 [1, 3] := by
    rw [hw1]
    exact ((ints_two w 1 3 (i64_small (by omega)) (i64_small (by omega))).alloc (by simp) _).more (by simp)
  have hi2 : Ints w1 w1.heap.size (some ⟨w.heap.size + 1, 0, none⟩) 2 2 [2, 3] := by
    rw [hw1]
    have := ints_two (w.alloc (.cells #[.int .i64 1, .int .i64 3] 3)) 2 3 (i64_small (by omega)) (i64_small (by omega))
    simpa using this
  have HU := Lib.hid (union_any _ 3 3 [[1, 3], [2, 3], []] (w1.alloc (.cells #[.slice (some ⟨w.heap.size, 0, none⟩) 2 2, .slice (some ⟨w.heap.size + 1, 0, none⟩) 2 2, .slice none 0 0] 22)) ((mat3 (A2 := none) (n2 := 0) (c2 := 0) (d := []) (t := 22) hi1 hi2 Ints.nil_).more (by simp)))
  have hB1 : Below w.heap.size w (w1.alloc (.cells #[.slice (some ⟨w.heap.size, 0, none⟩) 2 2, .slice (some ⟨w.heap.size + 1, 0, none⟩) 2 2, .slice none 0 0] 22)) := by
    rw [hw1]
    exact (((Below.refl _ w).alloc (Nat.le_refl _) _).alloc (by simp) _).alloc (by simp; omega) _
  have HB1 := Lib.hid hB1
  rw [hw1] at HU HB1
  simp only [World.size_alloc] at HU
  clear hi1 hi2 hB1 hw1
  go_enter Try.func10, Try.ntmps10
  go_wp2_with fail
  go_at_call 19
  (with_reducible refine (HU.out).mono ?_)
  rintro e w2 ⟨hu, hb2⟩
  obtain ⟨A2, n2, c2, r, rfl, hi2, huni⟩ := hu.yes rfl
  obtain rfl := uni_shown huni
  have hb2' : Below w.heap.size w w2 := HB1.out.trans (hb2.mono (by omega))
  have HB2 := Lib.hid hb2'
  have HI2 := Lib.hid hi2
  clear hu huni hb2 hi2 hb2'
  go_wp2_with fail
  go_at_call 25
  refine (new_any w2).mono ?_
  rintro e w3 ⟨rfl, hq3, hb3⟩
  have HP := Lib.hid (push_new w2.heap.size (w2.heap.size + 1) 0 5 [] w3 (i64_small (by omega)) hq3 (by simp) (by unfold maxLen; omega) (by simp))
  have HK3 := Lib.hid hb3
  clear hq3 hb3
  go_wp2_with fail
  go_at_call 27
  refine (HP.out).mono ?_
  rintro e w4 ⟨rfl, hq4, hb4⟩
  have HP4 := Lib.hid (push_old w2.heap.size (w2.heap.size + 1) 1 5 [5] w4 (i64_small (by omega)) hq4 (by simp))
  have HK4 := Lib.hid (HK3.out.trans hb4)
  clear hq4 hb4
  go_wp2_with fail
  go_at_call 27
  refine (HP4.out).mono ?_
  rintro e w5 ⟨rfl, hq5, hb5⟩
  have HP5 := Lib.hid (pop_cons w2.heap.size (w2.heap.size + 1) 1 5 [] w5 hq5)
  have HK5 := Lib.hid (HK4.out.trans (hb5.mono HK4.out.size))
  clear hq5 hb5
  go_wp2_with fail
  go_at_call 26
  refine (HP5.out).mono ?_
  rintro e w6 ⟨rfl, hq6, hb6⟩
  have HP6 := Lib.hid (pop_empty w2.heap.size (w2.heap.size + 1) 1 w6 hq6)
  have HK6 := Lib.hid (HK5.out.trans hb6)
  clear hq6 hb6
  go_wp2_with fail
  go_at_call 26
  refine (HP6.out).mono ?_
  rintro e w7 ⟨rfl, rfl⟩
  have HS := Lib.hid (same_any A2 _ n2 c2 3 3 _ _ [1, 2, 3] [1, 2, 3] _ (((HI2.out.below HK6.out).alloc HK6.out.size (.cells #[.int .i64 1, .int .i64 2, .int .i64 3] 3))) (ints_three w6 1 2 3 (i64_small (by omega)) (i64_small (by omega)) (i64_small (by omega))))
  go_wp2_with (go_at_call 18; refine (HS.out).mono ?_; rintro e w8 ⟨rfl, hdr⟩)
  go_ret
  exact ⟨by simp, (HB2.out.trans (HK6.out.mono HB2.out.size)).trans ((((below1 w6 _).trans ((below_drewn hdr).mono (by simp))).mono (by have := HB2.out.size; have := HK6.out.size; omega)))⟩
end Go.Proofs.Ytpfmncdodcbamaa
