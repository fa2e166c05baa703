/- The law HeapKeeps' walk. -/
import Derived.Test.YtpbbinppikaamaaLawKeeps
namespace Go.Proofs.Ytpbbinppikaamaa
open Go.RowKit Go.Proofs Go.Maps

set_option maxRecDepth 100000 in
set_option maxHeartbeats 4000000 in
theorem keeps_good (key other : ByteArray) (vk vn : Int) (vs : ByteArray) (w : World) (hk : key.size ≤ maxLen) (hot : other.size ≤ maxLen) (hok : okPut (L6 [] []) ⟨vk, vn, vs⟩ = true) : Calls Try.prog 5 #[.string key, .string other, .agg #[.int .i64 vk, .int .i64 vn, .string vs]] w fun e w' => e = .returned (.bool true) ∧ Below w.heap.size w w' := by
  have HS := Lib.hid (shown_any (w.alloc (.cells #[.int .i64 vk, .int .i64 vn, .string vs] 32)))
  have HN := Lib.hid (fun w => New_any w)
  have HP := Lib.hid (put4 [] [] key ⟨vk, vn, vs⟩ hok)
  have hgood : rightB vk vn vs = true ∧ (vk = 5 → 0 ≤ vn ∧ vn ≤ 5) := by
    unfold okPut at hok
    rw [show (L6 [] []).length = 6 from rfl] at hok
    cases hr : rightB vk vn vs with
    | false => rw [hr] at hok; simp at hok
    | true =>
      rw [hr] at hok
      simp at hok
      exact ⟨rfl, fun h => by
        rcases hok with h' | h'
        · exact absurd h h'
        · omega⟩
  clear hok
  have hkk : keysOf (pt [] key (⟨vk, vn, vs⟩ : V)) = [key] := by simp [pt, keysOf]
  go_enter Try.func5, Try.ntmps5
  go_wp2_with fail
  go_at_call 11
  refine (HS.out).mono ?_
  rintro e w1 ⟨rfl, hb0⟩
  have hv1 : VBox w1 w.heap.size ⟨vk, vn, vs⟩ := (hb0.block _ (by simp)).trans (heap_alloc_new w _)
  have hl1 : w.heap.size < w1.heap.size := heap_lt hv1
  have HB := Lib.hid ((below_box w (.cells #[.int .i64 vk, .int .i64 vn, .string vs] 32)).trans (hb0.mono (by simp)))
  clear hb0 HS
  go_wp2_with fail
  go_at_call 12
  refine (HN.out _).mono ?_
  rintro e w2 ⟨B, rfl, hI, hB⟩
  have S := Lib.hid ((St.start hI hB).add (B := w.heap.size) (x := ⟨vk, vn, vs⟩) ((hB.block _ hl1).trans hv1) hl1)
  have HC := Lib.hid (Alloc_any 0 0 0 0 _ S.out.heap)
  rw [alloc5.2.1, alloc5.2.2, alloc5.1] at HC
  clear hI hB HN hv1 hl1
  go_wp2_with fail
  go_at_call 23
  refine (HC.out).mono ?_
  rintro e w3 ⟨rfl, hI, ho⟩
  replace S := Lib.hid (S.out.turn hI ho)
  replace HC := Lib.hid (Alloc_any 0 4 0 0 _ S.out.heap)
  rw [alloc6.2.1, alloc6.2.2, alloc6.1] at HC
  clear hI ho
  go_wp2_with fail
  go_at_call 23
  refine (HC.out).mono ?_
  rintro e w4 ⟨rfl, hI, ho⟩
  replace S := Lib.hid (S.out.turn hI ho)
  replace HC := Lib.hid (Get_any 5 other _ S.out.heap hot)
  rw [get5] at HC
  simp only [lk, ans, V.v, V.zero, Option.getD_none, Option.isSome_none] at HC
  clear hI ho
  go_wp2_with fail
  go_at_call 25
  refine (HC.out).mono ?_
  rintro e w5 ⟨rfl, hb⟩
  replace S := Lib.hid ((S.out.move hb).box V.zero)
  replace HC := Lib.hid (Put_any 4 key ⟨vk, vn, vs⟩ _ S.out.heap hk (by omega))
  rw [HP.out.1, HP.out.2] at HC
  simp only [V.v, V.zero] at HC S
  obtain ⟨a0, a1, a2⟩ := S.out.cells_at (i := 1) rfl
  clear hb
  go_wp2_with fail
  go_at_call 26
  refine (HC.out).mono ?_
  rintro e w6 ⟨rfl, hI, ho⟩
  replace S := Lib.hid (S.out.turn hI ho)
  replace HC := Lib.hid (rright_any vk vn vs w6)
  clear hI ho a0 a1 a2
  obtain ⟨a0, a1, a2⟩ := S.out.cells_at (i := 1) rfl
  go_wp2_with fail
  go_at_call 27
  refine (HC.out).mono ?_
  rintro e w7 ⟨rfl, hb⟩
  replace S := Lib.hid (S.out.move hb)
  clear hb a0 a1 a2
  obtain ⟨a0, a1, a2⟩ := S.out.cells_at (i := 1) rfl
  clear HC
  rw [hgood.1]
  have hcase : (vk == 5) = false ∨ ((vk == 5) = true ∧ decide (vn < 0) = false ∧ decide (5 < vn) = false) := by
    by_cases h5 : vk = 5
    · exact .inr ⟨by simpa using h5, decide_eq_false (by have := hgood.2 h5; omega), decide_eq_false (by have := hgood.2 h5; omega)⟩
    · exact .inl (by simpa using h5)
  replace HC := Lib.hid (Own_any 4 key _ S.out.heap hk)
  rw [own4, lk_pt_same] at HC
  simp only [ans, V.v, Option.getD_some, Option.isSome_some] at HC
  have HG := Lib.hid hgood
  clear hgood
  rcases hcase with d9 | ⟨d7, d8, d9⟩
  · clear HG HP
    go_wp2_with fail
    go_at_call 24
    refine (HC.out).mono ?_
    rintro e w8 ⟨rfl, hb⟩
    replace S := Lib.hid ((S.out.move hb).box ⟨vk, vn, vs⟩)
    replace HC := Lib.hid (Get_any 5 key _ S.out.heap hk)
    rw [get5] at HC
    simp only [lk, lk_pt_same, ans, V.v, Option.getD_some, Option.isSome_some] at HC S
    clear hb
    go_wp2_with fail
    go_at_call 25
    refine (HC.out).mono ?_
    rintro e w9 ⟨rfl, hb⟩
    replace S := Lib.hid ((S.out.move hb).box ⟨vk, vn, vs⟩)
    replace HC := Lib.hid (Own_any 5 key _ S.out.heap hk)
    rw [own5] at HC
    simp only [lk, ans, V.v, V.zero, Option.getD_none, Option.isSome_none] at HC S
    clear hb
    go_wp2_with fail
    go_at_call 24
    refine (HC.out).mono ?_
    rintro e wa ⟨rfl, hb⟩
    replace S := Lib.hid ((S.out.move hb).box V.zero)
    replace HC := Lib.hid (Get_any 5 other _ S.out.heap hot)
    rw [get5, lk_one] at HC
    simp only [lk, V.zero] at HC S
    clear hb
    by_cases he : key = other
    · subst he
      rw [if_pos rfl] at HC
      simp only [ans, V.v, V.zero, Option.getD_some, Option.isSome_some] at HC
      go_wp2_with fail
      go_at_call 25
      refine (HC.out).mono ?_
      rintro e wb ⟨rfl, hb⟩
      replace S := Lib.hid ((S.out.move hb).box ⟨vk, vn, vs⟩)
      simp only at S
      obtain ⟨a0, a1, a2⟩ := S.out.cells_at (i := 5) rfl
      obtain ⟨b0, b1, b2⟩ := S.out.cells_at (i := 4) rfl
      obtain ⟨c0, c1, c2⟩ := S.out.cells_at (i := 3) rfl
      obtain ⟨d0, d1, d2⟩ := S.out.cells_at (i := 2) rfl
      obtain ⟨e0, e1, e2⟩ := S.out.cells_at (i := 0) rfl
      replace HC := Lib.hid (Keys_any 4 _ S.out.heap (by omega))
      rw [keys4, hkk] at HC
      clear hb
      go_wp2_with fail
      go_at_call 19
      refine (HC.out).mono ?_
      rintro e wc ⟨v, rfl, hv, hb⟩
      replace S := Lib.hid (S.out.move hb)
      have hsr := (SRead.strs hv).below (below_box wc (.cells #[.string key] 9))
      replace HC := Lib.hid (same_any _ _ _ _ _ hsr (one_read wc key) (by simp) (by simp))
      replace S := Lib.hid (S.out.move (below_box wc (.cells #[.string key] 9)))
      obtain ⟨Av, Cv, rfl, -⟩ := (SRead.strs hv).form
      have ed : decide (([key] : List ByteArray) = [key]) = true := by simp
      rw [ed] at HC
      clear hb hv hsr ed a0 a1 a2 b0 b1 b2 c0 c1 c2 d0 d1 d2 e0 e1 e2
      go_wp2_with fail
      go_at_call 18
      refine (HC.out).mono ?_
      rintro e wd ⟨rfl, hb⟩
      replace S := Lib.hid (S.out.move hb)
      clear hb
      go_wp2
      go_ret
      exact ⟨rfl, HB.out.trans (S.out.below.mono HB.out.size)⟩
    · have ht : (other.toList == key.toList) = false := str_ne (Ne.symm he)
      rw [if_neg he] at HC
      simp only [ans, V.v, V.zero, Option.getD_none, Option.isSome_none] at HC
      go_wp2_with fail
      go_at_call 25
      refine (HC.out).mono ?_
      rintro e wb ⟨rfl, hb⟩
      replace S := Lib.hid ((S.out.move hb).box V.zero)
      simp only [V.zero] at S
      obtain ⟨a0, a1, a2⟩ := S.out.cells_at (i := 5) rfl
      obtain ⟨b0, b1, b2⟩ := S.out.cells_at (i := 4) rfl
      obtain ⟨c0, c1, c2⟩ := S.out.cells_at (i := 3) rfl
      obtain ⟨d0, d1, d2⟩ := S.out.cells_at (i := 2) rfl
      obtain ⟨e0, e1, e2⟩ := S.out.cells_at (i := 0) rfl
      replace HC := Lib.hid (Keys_any 4 _ S.out.heap (by omega))
      rw [keys4, hkk] at HC
      clear hb
      go_wp2_with fail
      go_at_call 19
      refine (HC.out).mono ?_
      rintro e wc ⟨v, rfl, hv, hb⟩
      replace S := Lib.hid (S.out.move hb)
      have hsr := (SRead.strs hv).below (below_box wc (.cells #[.string key] 9))
      replace HC := Lib.hid (same_any _ _ _ _ _ hsr (one_read wc key) (by simp) (by simp))
      replace S := Lib.hid (S.out.move (below_box wc (.cells #[.string key] 9)))
      obtain ⟨Av, Cv, rfl, -⟩ := (SRead.strs hv).form
      have ed : decide (([key] : List ByteArray) = [key]) = true := by simp
      rw [ed] at HC
      clear hb hv hsr ed a0 a1 a2 b0 b1 b2 c0 c1 c2 d0 d1 d2 e0 e1 e2
      go_wp2_with fail
      go_at_call 18
      refine (HC.out).mono ?_
      rintro e wd ⟨rfl, hb⟩
      replace S := Lib.hid (S.out.move hb)
      clear hb
      go_wp2
      go_ret
      exact ⟨rfl, HB.out.trans (S.out.below.mono HB.out.size)⟩
  · clear HG HP
    go_wp2_with fail
    go_at_call 24
    refine (HC.out).mono ?_
    rintro e w8 ⟨rfl, hb⟩
    replace S := Lib.hid ((S.out.move hb).box ⟨vk, vn, vs⟩)
    replace HC := Lib.hid (Get_any 5 key _ S.out.heap hk)
    rw [get5] at HC
    simp only [lk, lk_pt_same, ans, V.v, Option.getD_some, Option.isSome_some] at HC S
    clear hb
    go_wp2_with fail
    go_at_call 25
    refine (HC.out).mono ?_
    rintro e w9 ⟨rfl, hb⟩
    replace S := Lib.hid ((S.out.move hb).box ⟨vk, vn, vs⟩)
    replace HC := Lib.hid (Own_any 5 key _ S.out.heap hk)
    rw [own5] at HC
    simp only [lk, ans, V.v, V.zero, Option.getD_none, Option.isSome_none] at HC S
    clear hb
    go_wp2_with fail
    go_at_call 24
    refine (HC.out).mono ?_
    rintro e wa ⟨rfl, hb⟩
    replace S := Lib.hid ((S.out.move hb).box V.zero)
    replace HC := Lib.hid (Get_any 5 other _ S.out.heap hot)
    rw [get5, lk_one] at HC
    simp only [lk, V.zero] at HC S
    clear hb
    by_cases he : key = other
    · subst he
      rw [if_pos rfl] at HC
      simp only [ans, V.v, V.zero, Option.getD_some, Option.isSome_some] at HC
      go_wp2_with fail
      go_at_call 25
      refine (HC.out).mono ?_
      rintro e wb ⟨rfl, hb⟩
      replace S := Lib.hid ((S.out.move hb).box ⟨vk, vn, vs⟩)
      simp only at S
      obtain ⟨a0, a1, a2⟩ := S.out.cells_at (i := 5) rfl
      obtain ⟨b0, b1, b2⟩ := S.out.cells_at (i := 4) rfl
      obtain ⟨c0, c1, c2⟩ := S.out.cells_at (i := 3) rfl
      obtain ⟨d0, d1, d2⟩ := S.out.cells_at (i := 2) rfl
      obtain ⟨e0, e1, e2⟩ := S.out.cells_at (i := 0) rfl
      replace HC := Lib.hid (Keys_any 4 _ S.out.heap (by omega))
      rw [keys4, hkk] at HC
      clear hb
      go_wp2_with fail
      go_at_call 19
      refine (HC.out).mono ?_
      rintro e wc ⟨v, rfl, hv, hb⟩
      replace S := Lib.hid (S.out.move hb)
      have hsr := (SRead.strs hv).below (below_box wc (.cells #[.string key] 9))
      replace HC := Lib.hid (same_any _ _ _ _ _ hsr (one_read wc key) (by simp) (by simp))
      replace S := Lib.hid (S.out.move (below_box wc (.cells #[.string key] 9)))
      obtain ⟨Av, Cv, rfl, -⟩ := (SRead.strs hv).form
      have ed : decide (([key] : List ByteArray) = [key]) = true := by simp
      rw [ed] at HC
      clear hb hv hsr ed a0 a1 a2 b0 b1 b2 c0 c1 c2 d0 d1 d2 e0 e1 e2
      go_wp2_with fail
      go_at_call 18
      refine (HC.out).mono ?_
      rintro e wd ⟨rfl, hb⟩
      replace S := Lib.hid (S.out.move hb)
      clear hb
      go_wp2
      go_ret
      exact ⟨rfl, HB.out.trans (S.out.below.mono HB.out.size)⟩
    · have ht : (other.toList == key.toList) = false := str_ne (Ne.symm he)
      rw [if_neg he] at HC
      simp only [ans, V.v, V.zero, Option.getD_none, Option.isSome_none] at HC
      go_wp2_with fail
      go_at_call 25
      refine (HC.out).mono ?_
      rintro e wb ⟨rfl, hb⟩
      replace S := Lib.hid ((S.out.move hb).box V.zero)
      simp only [V.zero] at S
      obtain ⟨a0, a1, a2⟩ := S.out.cells_at (i := 5) rfl
      obtain ⟨b0, b1, b2⟩ := S.out.cells_at (i := 4) rfl
      obtain ⟨c0, c1, c2⟩ := S.out.cells_at (i := 3) rfl
      obtain ⟨d0, d1, d2⟩ := S.out.cells_at (i := 2) rfl
      obtain ⟨e0, e1, e2⟩ := S.out.cells_at (i := 0) rfl
      replace HC := Lib.hid (Keys_any 4 _ S.out.heap (by omega))
      rw [keys4, hkk] at HC
      clear hb
      go_wp2_with fail
      go_at_call 19
      refine (HC.out).mono ?_
      rintro e wc ⟨v, rfl, hv, hb⟩
      replace S := Lib.hid (S.out.move hb)
      have hsr := (SRead.strs hv).below (below_box wc (.cells #[.string key] 9))
      replace HC := Lib.hid (same_any _ _ _ _ _ hsr (one_read wc key) (by simp) (by simp))
      replace S := Lib.hid (S.out.move (below_box wc (.cells #[.string key] 9)))
      obtain ⟨Av, Cv, rfl, -⟩ := (SRead.strs hv).form
      have ed : decide (([key] : List ByteArray) = [key]) = true := by simp
      rw [ed] at HC
      clear hb hv hsr ed a0 a1 a2 b0 b1 b2 c0 c1 c2 d0 d1 d2 e0 e1 e2
      go_wp2_with fail
      go_at_call 18
      refine (HC.out).mono ?_
      rintro e wd ⟨rfl, hb⟩
      replace S := Lib.hid (S.out.move hb)
      clear hb
      go_wp2
      go_ret
      exact ⟨rfl, HB.out.trans (S.out.below.mono HB.out.size)⟩
theorem keeps_walk (key other : ByteArray) (v : V) (w : World) (hk : key.size ≤ maxLen) (hot : other.size ≤ maxLen) : Calls Try.prog 5 #[.string key, .string other, v.v] w fun e w' => e = .returned (.bool true) ∧ Below w.heap.size w w' := by
  obtain ⟨vk, vn, vs⟩ := v
  cases hok : okPut (L6 [] []) ⟨vk, vn, vs⟩ with
  | false => exact keeps_bad key other vk vn vs w hk hot hok
  | true => exact keeps_good key other vk vn vs w hk hot hok

end Go.Proofs.Ytpbbinppikaamaa
