/- The law HeapKeeps' walk, where the value may not be put. -/
import Derived.Test.YtpbbinppikaamaaLawHides
namespace Go.Proofs.Ytpbbinppikaamaa
open Go.RowKit Go.Proofs Go.Maps

theorem St.add {w W : World} {F : Nat → Prop} {b T : Nat} {L : Hp} {bx : List (Nat × V)} (h : St w W F b T L bx) {B : Nat} {x : V} (hB : VBox W B x) (hl : B < w.heap.size) : St w W F b T L ((B, x) :: bx) :=
  ⟨h.below, h.heap, h.low, fun p hp => by
    rcases List.mem_cons.1 hp with rfl | hp
    · exact ⟨hB, fun hf => by have := h.low _ hf; omega⟩
    · exact h.boxes p hp⟩
theorem St.cells_at {w W : World} {F : Nat → Prop} {b T : Nat} {L : Hp} {bx : List (Nat × V)} (h : St w W F b T L bx) {i B : Nat} {x : V} (hp : bx[i]? = some (B, x)) : W.cell? ⟨B, 0, none⟩ = some (.int .i64 x.k) ∧ W.cell? ⟨B, 1, none⟩ = some (.int .i64 x.n) ∧ W.cell? ⟨B, 2, none⟩ = some (.string x.s) :=
  h.cells (List.mem_of_getElem? hp)
theorem lk_one (key other : ByteArray) (v : V) : lk (pt [] key v) other = if key = other then some v else none := by simp [pt, lk]
set_option maxRecDepth 100000 in
set_option maxHeartbeats 4000000 in
theorem keeps_bad (key other : ByteArray) (vk vn : Int) (vs : ByteArray) (w : World) (hk : key.size ≤ maxLen) (hot : other.size ≤ maxLen) (hok : okPut (L6 [] []) ⟨vk, vn, vs⟩ = false) : Calls Try.prog 5 #[.string key, .string other, .agg #[.int .i64 vk, .int .i64 vn, .string vs]] w fun e w' => e = .returned (.bool true) ∧ Below w.heap.size w w' := by
  have HS := Lib.hid (shown_any (w.alloc (.cells #[.int .i64 vk, .int .i64 vn, .string vs] 32)))
  have HN := Lib.hid (fun w => New_any w)
  have HP := Lib.hid (And.intro (show putE (L6 [] []) 4 ⟨vk, vn, vs⟩ = 2 by simp [putE, hok, show at? (L6 [] []) 4 = some ⟨0, 0, 0, 0, []⟩ from rfl]) (show putL (L6 [] []) 4 key ⟨vk, vn, vs⟩ = L6 [] [] by simp [putL, putE, hok, show at? (L6 [] []) 4 = some ⟨0, 0, 0, 0, []⟩ from rfl]))
  have hbad : rightB vk vn vs = false ∨ (rightB vk vn vs = true ∧ vk = 5 ∧ (vn < 0 ∨ 5 < vn)) := by
    unfold okPut at hok
    rw [show (L6 [] []).length = 6 from rfl] at hok
    cases hr : rightB vk vn vs with
    | false => exact .inl rfl
    | true =>
      rw [hr] at hok
      simp at hok
      exact .inr ⟨rfl, hok.1, by omega⟩
  clear hok
  go_enter Try.func5, Try.ntmps5
  go_wp2_with fail
  go_at_call 11
  refine (HS.out).mono ?_
  rintro e w1 ⟨rfl, hb0⟩
  have hv1 : VBox w1 w.heap.size ⟨vk, vn, vs⟩ := (hb0.block _ (by simp)).trans (heap_alloc_new w _)
  have hl1 : w.heap.size < w1.heap.size := heap_lt hv1
  have HB := Lib.hid ((below_box w (.cells #[.int .i64 vk, .int .i64 vn, .string vs] 32)).trans (hb0.mono (by simp)))
  clear hb0 HS
  go_wp2_with fail
  go_at_call 12
  refine (HN.out _).mono ?_
  rintro e w2 ⟨B, rfl, hI, hB⟩
  have S := Lib.hid ((St.start hI hB).add (B := w.heap.size) (x := ⟨vk, vn, vs⟩) ((hB.block _ hl1).trans hv1) hl1)
  have HC := Lib.hid (Alloc_any 0 0 0 0 _ S.out.heap)
  rw [alloc5.2.1, alloc5.2.2, alloc5.1] at HC
  clear hI hB HN hv1 hl1
  go_wp2_with fail
  go_at_call 23
  refine (HC.out).mono ?_
  rintro e w3 ⟨rfl, hI, ho⟩
  replace S := Lib.hid (S.out.turn hI ho)
  replace HC := Lib.hid (Alloc_any 0 4 0 0 _ S.out.heap)
  rw [alloc6.2.1, alloc6.2.2, alloc6.1] at HC
  clear hI ho
  go_wp2_with fail
  go_at_call 23
  refine (HC.out).mono ?_
  rintro e w4 ⟨rfl, hI, ho⟩
  replace S := Lib.hid (S.out.turn hI ho)
  replace HC := Lib.hid (Get_any 5 other _ S.out.heap hot)
  rw [get5] at HC
  simp only [lk, ans, V.v, V.zero, Option.getD_none, Option.isSome_none] at HC
  clear hI ho
  go_wp2_with fail
  go_at_call 25
  refine (HC.out).mono ?_
  rintro e w5 ⟨rfl, hb⟩
  replace S := Lib.hid ((S.out.move hb).box V.zero)
  replace HC := Lib.hid (Put_any 4 key ⟨vk, vn, vs⟩ _ S.out.heap hk (by omega))
  rw [HP.out.1, HP.out.2] at HC
  simp only [V.v, V.zero] at HC S
  obtain ⟨a0, a1, a2⟩ := S.out.cells_at (i := 1) rfl
  clear hb
  go_wp2_with fail
  go_at_call 26
  refine (HC.out).mono ?_
  rintro e w6 ⟨rfl, hI, ho⟩
  replace S := Lib.hid (S.out.turn hI ho)
  replace HC := Lib.hid (rright_any vk vn vs w6)
  clear hI ho a0 a1 a2
  obtain ⟨a0, a1, a2⟩ := S.out.cells_at (i := 1) rfl
  go_wp2_with fail
  go_at_call 27
  refine (HC.out).mono ?_
  rintro e w7 ⟨rfl, hb⟩
  replace S := Lib.hid (S.out.move hb)
  clear hb a0 a1 a2
  obtain ⟨a0, a1, a2⟩ := S.out.cells_at (i := 1) rfl
  clear HC
  replace HC := Lib.hid (Keys_any 4 _ S.out.heap (by omega))
  rw [keys4] at HC
  have fin : ∀ (v : Value) (w' : World), Strs w' w7.heap.size v (keysOf []) → Below w7.heap.size w7 w' → (∃ A c, v = .slice A 0 c) ∧ Below w.heap.size w w' := fun v w' h1 h2 => ⟨strs_len0 h1, HB.out.trans (((S.out.move h2).below).mono HB.out.size)⟩
  have HF := Lib.hid fin
  clear fin
  rcases hbad with hr | ⟨hr, rfl, hn⟩
  · rw [hr]
    go_wp2_with (go_at_call 19; (with_reducible refine (HC.out).mono ?_); rintro e wa ⟨v, rfl, hv, hb⟩; obtain ⟨⟨A, c, rfl⟩, hbw⟩ := HF.out _ _ hv hb)
    go_ret
    exact ⟨rfl, hbw⟩
  · rw [hr]
    by_cases h1 : vn < 0
    · have d1 : decide (vn < 0) = true := decide_eq_true h1
      go_wp2_with (go_at_call 19; (with_reducible refine (HC.out).mono ?_); rintro e wa ⟨v, rfl, hv, hb⟩; obtain ⟨⟨A, c, rfl⟩, hbw⟩ := HF.out _ _ hv hb)
      go_ret
      exact ⟨rfl, hbw⟩
    · have h2 : 5 < vn := by omega
      have d1 : decide (vn < 0) = false := decide_eq_false h1
      have d2 : decide (5 < vn) = true := decide_eq_true h2
      go_wp2_with (go_at_call 19; (with_reducible refine (HC.out).mono ?_); rintro e wa ⟨v, rfl, hv, hb⟩; obtain ⟨⟨A, c, rfl⟩, hbw⟩ := HF.out _ _ hv hb)
      go_ret
      exact ⟨rfl, hbw⟩

end Go.Proofs.Ytpbbinppikaamaa
