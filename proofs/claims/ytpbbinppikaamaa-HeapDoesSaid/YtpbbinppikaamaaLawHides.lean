/- The law HeapHides' walk. -/
import Derived.Test.YtpbbinppikaamaaTwo
namespace Go.Proofs.Ytpbbinppikaamaa
open Go.RowKit Go.Proofs Go.Maps

theorem one_read (W : World) (key : ByteArray) : SRead (W.alloc (.cells #[.string key] 9)) (.slice (some ⟨W.heap.size, 0, none⟩) 1 1) [key] := by
  refine .inr ⟨W.heap.size, 1, rfl, by simp, Nat.le_refl _, fun j x hj => ?_⟩
  match j, hj with
  | 0, hj =>
    simp at hj
    subst hj
    exact World.cell?_alloc_new W _ _ 0
set_option maxRecDepth 100000 in
set_option maxHeartbeats 4000000 in
theorem hides_walk (key : ByteArray) (a b c : Int) (w : World) (hk : key.size ≤ maxLen) : Calls Try.prog 6 #[.string key, .int .i64 a, .int .i64 b, .int .i64 c] w fun e w' => e = .returned (.bool true) ∧ Below w.heap.size w w' := by
  have HS := Lib.hid (shown_any w)
  have HN := Lib.hid (fun w => New_any w)
  go_enter Try.func6, Try.ntmps6
  go_wp2_with fail
  go_at_call 11
  refine (HS.out).mono ?_
  rintro e w1 ⟨rfl, hb0⟩
  have HB := Lib.hid hb0
  clear hb0 HS
  go_wp2_with fail
  go_at_call 12
  refine (HN.out _).mono ?_
  rintro e w2 ⟨B, rfl, hI, hB⟩
  have S := Lib.hid (St.start hI hB)
  have HC := Lib.hid (Alloc_any 0 0 0 0 _ S.out.heap)
  rw [alloc5.2.1, alloc5.2.2, alloc5.1] at HC
  clear hI hB HN
  go_wp2_with fail
  go_at_call 23
  refine (HC.out).mono ?_
  rintro e w3 ⟨rfl, hI, ho⟩
  replace S := Lib.hid (S.out.turn hI ho)
  replace HC := Lib.hid (Alloc_any 0 4 0 0 _ S.out.heap)
  rw [alloc6.2.1, alloc6.2.2, alloc6.1] at HC
  clear hI ho
  go_wp2_with fail
  go_at_call 23
  refine (HC.out).mono ?_
  rintro e w4 ⟨rfl, hI, ho⟩
  replace S := Lib.hid (S.out.turn hI ho)
  obtain ⟨p1, p2⟩ := put4 [] [] key ⟨3, a, ⟨#[]⟩⟩ (okNum a)
  replace HC := Lib.hid (Put_any 4 key ⟨3, a, ⟨#[]⟩⟩ _ S.out.heap hk (by omega))
  rw [p1, p2] at HC
  simp only [V.v] at HC
  clear hI ho p1 p2
  go_wp2_with fail
  go_at_call 26
  refine (HC.out).mono ?_
  rintro e w5 ⟨rfl, hI, ho⟩
  replace S := Lib.hid (S.out.turn hI ho)
  obtain ⟨p1, p2⟩ := put5 (pt [] key ⟨3, a, ⟨#[]⟩⟩) [] key ⟨3, b, ⟨#[]⟩⟩ (okNum b)
  replace HC := Lib.hid (Put_any 5 key ⟨3, b, ⟨#[]⟩⟩ _ S.out.heap hk (by omega))
  rw [p1, p2] at HC
  simp only [V.v] at HC
  clear hI ho p1 p2
  go_wp2_with fail
  go_at_call 26
  refine (HC.out).mono ?_
  rintro e w6 ⟨rfl, hI, ho⟩
  replace S := Lib.hid (S.out.turn hI ho)
  obtain ⟨p1, p2⟩ := put4 (pt [] key ⟨3, a, ⟨#[]⟩⟩) (pt [] key ⟨3, b, ⟨#[]⟩⟩) key ⟨3, c, ⟨#[]⟩⟩ (okNum c)
  replace HC := Lib.hid (Put_any 4 key ⟨3, c, ⟨#[]⟩⟩ _ S.out.heap hk (by omega))
  rw [p1, p2] at HC
  simp only [V.v] at HC
  clear hI ho p1 p2
  go_wp2_with fail
  go_at_call 26
  refine (HC.out).mono ?_
  rintro e w7 ⟨rfl, hI, ho⟩
  replace S := Lib.hid (S.out.turn hI ho)
  have hk4 : keysOf (pt (pt [] key ⟨3, a, ⟨#[]⟩⟩) key ⟨3, c, ⟨#[]⟩⟩) = [key] := by simp [pt, keysOf]
  have hk5 : keysOf (pt [] key (⟨3, b, ⟨#[]⟩⟩ : V)) = [key] := by simp [pt, keysOf]
  replace HC := Lib.hid (Get_any 5 key _ S.out.heap hk)
  rw [get5, lk_pt_same] at HC
  simp only [ans, V.v, Option.getD_some, Option.isSome_some] at HC
  clear hI ho
  go_wp2_with fail
  go_at_call 25
  refine (HC.out).mono ?_
  rintro e w8 ⟨rfl, hb⟩
  replace S := Lib.hid ((S.out.move hb).box ⟨3, b, ⟨#[]⟩⟩)
  replace HC := Lib.hid (Get_any 4 key _ S.out.heap hk)
  rw [get4, lk_pt_same] at HC
  simp only [ans, V.v, Option.getD_some, Option.isSome_some] at HC S
  clear hb
  go_wp2_with fail
  go_at_call 25
  refine (HC.out).mono ?_
  rintro e w9 ⟨rfl, hb⟩
  replace S := Lib.hid ((S.out.move hb).box ⟨3, c, ⟨#[]⟩⟩)
  simp only at S
  obtain ⟨c0, c1, c2⟩ := S.out.cells List.mem_cons_self
  obtain ⟨d0, d1, d2⟩ := S.out.cells (List.mem_cons_of_mem _ List.mem_cons_self)
  replace HC := Lib.hid (All_any 5 _ S.out.heap (show 6 * 5 ≤ 1000000 by decide))
  rw [all5, hk4, hk5] at HC
  have ea : addL (addL [] [key]) [key] = [key] := by simp [addL]
  rw [ea] at HC
  clear hb ea hk4 hk5
  go_wp2_with fail
  go_at_call 21
  refine (HC.out).mono ?_
  rintro e wa ⟨v, rfl, hv, hb⟩
  replace S := Lib.hid (S.out.move hb)
  have hsr := (SRead.strs hv).below (below_box wa (.cells #[.string key] 9))
  replace HC := Lib.hid (same_any _ _ _ _ _ hsr (one_read wa key) (by simp) (by simp))
  replace S := Lib.hid (S.out.move (below_box wa (.cells #[.string key] 9)))
  obtain ⟨Av, Cv, rfl, -⟩ := (SRead.strs hv).form
  have ed : decide (([key] : List ByteArray) = [key]) = true := by simp
  rw [ed] at HC
  clear hb hv hsr ed
  go_wp2_with fail
  go_at_call 18
  refine (HC.out).mono ?_
  rintro e wb ⟨rfl, hb⟩
  replace S := Lib.hid (S.out.move hb)
  clear hb
  go_wp2
  go_ret
  exact ⟨rfl, HB.out.trans (S.out.below.mono HB.out.size)⟩

end Go.Proofs.Ytpbbinppikaamaa
