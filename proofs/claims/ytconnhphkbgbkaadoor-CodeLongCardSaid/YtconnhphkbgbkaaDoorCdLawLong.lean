/- The law CodeLong's walk. -/
import Derived.Test.YtconnhphkbgbkaaDoorCdHead
namespace Go.Proofs.YtconnhphkbgbkaaDoor
open Go.RowKit Go.Proofs

def retI (a : Int) : Ins := ⟨20, 0, a, 0, 0, nilB, 0, []⟩
def retC (a : Int) : List Value := [.int .i64 20, .int .i64 0, .int .i64 a, .int .i64 0, .int .i64 0, .string ⟨#[]⟩, .int .i64 0, .slice none 0 0]
def retsC : Nat → List Value
  | 0 => []
  | k + 1 => retsC k ++ retC 0
theorem retsC_len : ∀ k, (retsC k).length = k * 8
  | 0 => rfl
  | k + 1 => by rw [retsC, List.length_append, retsC_len k]; simp [retC]; omega
theorem retsC_at : ∀ (k i j : Nat), i < k → j < 8 → (retsC k)[i * 8 + j]? = (retC 0)[j]?
  | 0, i, j, h, _ => by omega
  | k + 1, i, j, h, hj => by
    rw [retsC]
    by_cases hi : i < k
    · rw [List.getElem?_append_left (by rw [retsC_len]; omega)]
      exact retsC_at k i j hi hj
    · rw [List.getElem?_append_right (by rw [retsC_len]; omega), retsC_len, show i * 8 + j - k * 8 = j by omega]
theorem ret_fine (a : Int) (ha : I64 a) : (retI a).Fine := ⟨⟨i64c _ rfl, i64c _ rfl, ha, i64c _ rfl, i64c _ rfl, i64c _ rfl⟩, fine_nil⟩
theorem rets_at {w : World} {B k : Nat} {v : Value} (h : w.ownsRow B 37 8 v k (retsC k)) : SlAt 8 InsP w v (List.replicate k (retI 0)) := by
  rcases h.2 with ⟨rfl, rfl⟩ | ⟨g, cap, cur, rfl, h1, h2, h3, h4, h5⟩
  · exact SlAt.nil _ _ _
  · refine ⟨_, cap, by simp, ⟨by simpa using h3, h4⟩, fun _ => ⟨g, 0, rfl, heap_lt h2, fun i x hx => ?_⟩⟩
    obtain ⟨hi, rfl⟩ := List.getElem?_eq_some_iff.1 hx
    rw [List.getElem_replicate]
    simp at hi
    refine ⟨retC 0, ⟨.slice none 0 0, rfl, SlAt.nil _ _ _, ret_fine 0 (i64c _ rfl)⟩, fun j hj => ?_⟩
    have := World.ownsRow.cellAt (cap := cap) (g := g) ⟨h.1, .inr ⟨g, cap, cur, rfl, h1, h2, h3, h4, h5⟩⟩ (i * 8 + j) (by omega)
    rw [Nat.zero_add, this]
    exact retsC_at k i j hi hj
theorem infoI : (Tryd.prog.info? 37).map (fun i => (i.zero, i.size, i.bytes)) = some (some (.agg #[.int .i64 0, .int .i64 0, .int .i64 0, .int .i64 0, .int .i64 0, .string ⟨#[]⟩, .int .i64 0, .slice none 0 0]), 8, 88) := by kernel_rfl
theorem insB_ret (R : Room) (a : Int) : insB R (retI a) = decide (-1 ≤ a ∧ a < R.regs) := by
  have hd : dms 20 = some [.reg (-1) .a] := rfl
  unfold insB
  rw [show (retI a).op = 20 from rfl, hd]
  simp only [fitsB, Dm.ok, Dm.next, Fld.get, Fld.zero, retI, bareI]
  simp
  exact Bool.decide_and _ _
theorem right_p (n : Nat) (hn : 1 ≤ n) : rightC [⟨1, List.replicate n (retI 0)⟩] = decide (n ≤ 60000) := by
  have hlast : lastOp ⟨1, List.replicate n (retI 0)⟩ = 20 := by
    obtain ⟨m, rfl⟩ : ∃ m, n = m + 1 := ⟨n - 1, by omega⟩
    exact lastOp_at (x := retI 0) (by simp; rfl) (by simp)
  unfold rightC
  by_cases h : n ≤ 60000
  · have e1 : missB ⟨1, List.replicate n (retI 0)⟩ = false := by
      unfold missB
      rw [decide_eq_false_iff_not, hlast]
      simp
      omega
    rw [decide_eq_true h]
    simp only [List.isEmpty_cons, List.any_cons, e1, List.any_nil, pairsL, List.flatMap_cons, List.flatMap_nil, List.append_nil, List.all_map, Bool.not_false, Bool.or_false, Bool.true_and, List.all_eq_true]
    intro x hx
    obtain rfl := List.eq_of_mem_replicate hx
    show insB _ (retI 0) = true
    rw [insB_ret]
    simp [roomOf]
  · have e1 : missB ⟨1, List.replicate n (retI 0)⟩ = true := by
      unfold missB
      rw [decide_eq_true_iff]
      simp
      omega
    rw [decide_eq_false h]
    simp [e1]
theorem right_q (r : Int) (hr : 1 ≤ r) : rightC [⟨r, [retI (r - 1)]⟩] = decide (r ≤ 60000) := by
  have hlast : lastOp ⟨r, [retI (r - 1)]⟩ = 20 := rfl
  unfold rightC
  by_cases h : r ≤ 60000
  · have e1 : missB ⟨r, [retI (r - 1)]⟩ = false := by
      unfold missB
      rw [decide_eq_false_iff_not, hlast]
      simp
      omega
    rw [decide_eq_true h]
    simp only [List.isEmpty_cons, List.any_cons, e1, List.any_nil, pairsL, List.flatMap_cons, List.flatMap_nil, List.append_nil, Bool.not_false, Bool.or_false, Bool.true_and, List.map_cons, List.map_nil, List.all_cons, List.all_nil, Bool.and_true]
    rw [insB_ret]
    simp [roomOf]
    omega
  · have e1 : missB ⟨r, [retI (r - 1)]⟩ = true := by
      unfold missB
      rw [decide_eq_true_iff]
      simp
      omega
    rw [decide_eq_false h]
    simp [e1]

theorem row_form9 {W : World} {B e size n : Nat} {v : Value} {xs : List Value} (h : W.ownsRow B e size v n xs) : ∃ A c, v = .slice A n c := by
  rcases h.2 with ⟨rfl, rfl⟩ | ⟨g, cap, cur, rfl, _⟩
  · exact ⟨none, 0, rfl⟩
  · exact ⟨_, cap, rfl⟩
theorem row_set9 {W : World} {b e size n j : Nat} {v u : Value} {xs : List Value} (h : W.ownsRow (b + 1) e size v n xs) : (W.setCell ⟨b, j, none⟩ u).ownsRow (b + 1) e size v n xs := by
  refine ⟨h.1, ?_⟩
  rcases h.2 with h | ⟨g, cap, cur, rfl, h1, h2, h3⟩
  · exact .inl h
  · exact .inr ⟨g, cap, cur, rfl, h1, (heap_setCell_other W ⟨b, j, none⟩ g u (by show g ≠ b; omega)).trans h2, h3⟩
set_option maxRecDepth 100000 in
set_option maxHeartbeats 4000000 in
theorem long_any (n r : Int) (w : World) (hE : Env w) :
    Calls Tryd.prog 8 #[.int .i64 n, .int .i64 r] w fun e w' => e = .returned (.bool true) ∧ Below w.heap.size w w' := by
  have HS := Lib.hid (shown_any w hE)
  by_cases h1 : n < 59990
  · go_enter Tryd.func8, Tryd.ntmps8
    go_wp2_with (go_at_call 9; refine HS.out.mono ?_; rintro e w1 ⟨rfl, hb1⟩)
    go_ret
    exact ⟨rfl, hb1⟩
  by_cases h2 : 60010 < n
  · go_enter Tryd.func8, Tryd.ntmps8
    go_wp2_with (go_at_call 9; refine HS.out.mono ?_; rintro e w1 ⟨rfl, hb1⟩)
    go_ret
    exact ⟨rfl, hb1⟩
  by_cases h3 : r < 59990
  · go_enter Tryd.func8, Tryd.ntmps8
    go_wp2_with (go_at_call 9; refine HS.out.mono ?_; rintro e w1 ⟨rfl, hb1⟩)
    go_ret
    exact ⟨rfl, hb1⟩
  by_cases h4 : 60010 < r
  · go_enter Tryd.func8, Tryd.ntmps8
    go_wp2_with (go_at_call 9; refine HS.out.mono ?_; rintro e w1 ⟨rfl, hb1⟩)
    go_ret
    exact ⟨rfl, hb1⟩
  obtain ⟨N, rfl⟩ : ∃ N : Nat, n = N := ⟨n.toNat, by omega⟩
  obtain ⟨i0, hi, hz0, hz1, hz2⟩ := info_parts infoI
  have HI := Lib.hid (And.intro hi (And.intro hz0 (And.intro hz1 hz2)))
  have HN := Lib.hid (show 59990 ≤ N ∧ N ≤ 60010 by omega)
  have HRP := Lib.hid (right_p N (by omega))
  have HRQ := Lib.hid (right_q r (by omega))
  clear hi hz0 hz1 hz2 hE
  go_enter Tryd.func8, Tryd.ntmps8
  go_wp2_with (go_at_call 9; refine HS.out.mono ?_; rintro e w1 ⟨rfl, hb1⟩; have HB1 := Lib.hid hb1; clear hb1)
  go_loopw [7] (fun i wr => ∃ (k : Nat) (v : Value), k ≤ N ∧ i = .int .i64 k ∧ wr.heap[w1.heap.size]? = some (.cells #[.int .i64 1, v] 35 (0, 0)) ∧ wr.ownsRow (w1.heap.size + 1) 37 8 v k (retsC k) ∧ Below w1.heap.size w1 wr) (fun i _ => N - (intOf i).toNat)
  case atStart => exact ⟨0, .slice none 0 0, Nat.zero_le _, rfl, heap_alloc_new w1 _, ⟨rfl, .inl ⟨rfl, rfl⟩⟩, below_box _ _⟩
  case round =>
    obtain ⟨k, v, hk, rfl, hbox, hrow, hB⟩ := hrel
    obtain ⟨A, c, rfl⟩ : ∃ A c, v = .slice A k c := by
      rcases hrow.2 with ⟨rfl, rfl⟩ | ⟨g, cap, cur, rfl, _⟩
      · exact ⟨none, 0, rfl⟩
      · exact ⟨_, cap, rfl⟩
    have c0 := cell_of_row wr _ 0 _ _ _ hbox
    have c1 := cell_of_row wr _ 1 _ _ _ hbox
    simp at c0 c1
    have HO := Lib.hid (And.intro hbox (And.intro hrow hB))
    have hlt1 := heap_lt hbox
    clear hbox hrow hB
    by_cases hlt : k < N
    · have g1 : (k : Int) < N := by omega
      have hal := below_box wr (.cells (retC 0).toArray 37)
      have hrun := run_append_own (P := Tryd.prog) (w := wr.alloc (.cells (retC 0).toArray 37)) (w1.heap.size + 1) 33 33 37 i0 _ 8 88 Tryd.underlying33 HI.out.1 HI.out.2.1 HI.out.2.2.1 HI.out.2.2.2 rfl (by decide) (.slice A k c) k (retsC k) (ownsRow_below HO.out.2.1 hal) ⟨wr.heap.size, 0, none⟩ 1 1 (retC 0) rfl (fun j u hj => cells_row wr (retC 0) 37 j u hj) (fun u hu => by
        simp only [retC, List.mem_cons, List.not_mem_nil, or_false] at hu
        rcases hu with rfl | rfl | rfl | rfl | rfl | rfl | rfl | rfl <;> rfl) (by unfold maxLen; omega) (by omega) (by simp; omega)
      have HRun := Lib.hid (show ∃ v' w', (Builtin.append_ #[33, 33] 33 #[.slice A k c, .slice (some ⟨wr.heap.size, 0, none⟩) 1 1]).run Tryd.prog (wr.alloc (.cells (retC 0).toArray 37)) = .ok v' w' ∧ ((∃ A' c', v' = .slice A' (k + 1) c') ∧ w'.ownsRow (w1.heap.size + 1) 37 8 v' (k + 1) (retsC (k + 1)) ∧ Below (w1.heap.size + 1) (wr.alloc (.cells (retC 0).toArray 37)) w') by
        obtain ⟨v', w', hr, ho, hg, -⟩ := hrun
        exact ⟨v', w', hr, row_form9 ho, ho, (Below.refl _ _).grown hg (by simp; omega) (own_row_ge HO.out.2.1)⟩)
      have HAl := Lib.hid hal
      clear hrun hal
      unfold retC at HRun HAl
      go_wp2_with (at_builtin; refine wl_app rfl _ _ 33 rfl _ _ rfl rfl _ HRun.out ?_; rintro v' w' ⟨⟨A9, c9, rfl⟩, ho, hb'⟩; have hbx := (hb'.block w1.heap.size (by omega)).trans ((HAl.out.block _ (heap_lt HO.out.1)).trans HO.out.1); have d1 := cell_of_row w' _ 1 _ _ _ hbx; have fr := frozen_of_row w' _ 1 _ _ hbx; have HA := Lib.hid (And.intro hbx (And.intro ho (HO.out.2.2.trans ((HAl.out.mono HO.out.2.2.size).trans (hb'.mono (by omega)))))); clear ho hb' hbx)
      go_roundw
      case rel => exact ⟨k + 1, _, by omega, by go_num, by have := blk_set HA.out.1 1 (.slice A9 (k + 1) c9); simpa using this, row_set9 HA.out.2.1, HA.out.2.2.setCell (by simp) _⟩
      case measure => simp [intOf]; omega
    · obtain rfl : k = N := by omega
      have g1 : ¬ (k : Int) < k := by omega
      have HSl := Lib.hid (rets_at HO.out.2.1)
      have hal := below_box wr (.cells #[.int .i64 20, .int .i64 0, .int .i64 (r - 1), .int .i64 0, .int .i64 0, .string ⟨#[]⟩, .int .i64 0, .slice none 0 0] 37)
      have hal2 := below_box (wr.alloc (.cells #[.int .i64 20, .int .i64 0, .int .i64 (r - 1), .int .i64 0, .int .i64 0, .string ⟨#[]⟩, .int .i64 0, .slice none 0 0] 37)) (.cells #[.int .i64 r, .slice (some ⟨wr.heap.size, 0, none⟩) 1 1] 35)
      have hq := ins_lit wr (retI (r - 1)) (.slice none 0 0) 37 (SlAt.nil _ _ _) (ret_fine _ (by unfold I64; omega))
      have x0 := fun o p => ((below_box _ p).cell (p := ⟨w1.heap.size, 0, none⟩) (Nat.lt_of_lt_of_le hlt1 (below_box wr o).size)).trans (((below_box wr o).cell (p := ⟨w1.heap.size, 0, none⟩) hlt1).trans c0)
      have x1 := fun o p => ((below_box _ p).cell (p := ⟨w1.heap.size, 1, none⟩) (Nat.lt_of_lt_of_le hlt1 (below_box wr o).size)).trans (((below_box wr o).cell (p := ⟨w1.heap.size, 1, none⟩) hlt1).trans c1)
      have hqb := heap_alloc_new (wr.alloc (.cells #[.int .i64 20, .int .i64 0, .int .i64 (r - 1), .int .i64 0, .int .i64 0, .string ⟨#[]⟩, .int .i64 0, .slice none 0 0] 37)) (.cells #[.int .i64 r, .slice (some ⟨wr.heap.size, 0, none⟩) 1 1] 35)
      rw [World.size_alloc] at hqb
      have hWq := hal.trans (hal2.mono (by simp))
      have hcode := proc_lit ((wr.alloc (.cells #[.int .i64 20, .int .i64 0, .int .i64 (r - 1), .int .i64 0, .int .i64 0, .string ⟨#[]⟩, .int .i64 0, .slice none 0 0] 37)).alloc (.cells #[.int .i64 r, .slice (some ⟨wr.heap.size, 0, none⟩) 1 1] 35)) ⟨1, List.replicate k (retI 0)⟩ (.slice A k c) 35 (HSl.out.below InsP.keeps hWq) (i64c _ rfl)
      have hal3 := below_box ((wr.alloc (.cells #[.int .i64 20, .int .i64 0, .int .i64 (r - 1), .int .i64 0, .int .i64 0, .string ⟨#[]⟩, .int .i64 0, .slice none 0 0] 37)).alloc (.cells #[.int .i64 r, .slice (some ⟨wr.heap.size, 0, none⟩) 1 1] 35)) (.cells #[.int .i64 1, .slice A k c] 35)
      simp only [World.size_alloc] at hcode
      have HR := Lib.hid (right_any _ _ _ hcode)
      rw [HRP.out] at HR
      have hqb3 := (hal3.block _ (heap_lt hqb)).trans hqb
      have hq3 := (hq.below InsP.keeps hal2).below InsP.keeps hal3
      have hBw := HO.out.2.2.trans ((hWq.trans (hal3.mono hWq.size)).mono HO.out.2.2.size)
      have HQ := Lib.hid (And.intro hqb3 (And.intro hq3 hBw))
      clear hal hal2 hq hqb hWq hcode hal3 hqb3 hq3 hBw
      obtain ⟨q1, hq1⟩ : ∃ q, decide (k ≤ 60000) = q := ⟨_, rfl⟩
      obtain ⟨q2, hq2⟩ : ∃ q, decide (r ≤ 60000) = q := ⟨_, rfl⟩
      rw [hq1] at HR
      rw [hq2] at HRQ
      have HK := Lib.hid (And.intro hq1 hq2)
      clear hq1 hq2
      go_wp2_with fail
      go_at_call 11
      refine HR.out.mono ?_
      rintro e w2 ⟨rfl, hb2⟩
      have hqb4 := (hb2.block _ (heap_lt HQ.out.1)).trans HQ.out.1
      have y0 := cell_of_row w2 _ 0 _ _ _ hqb4
      have y1 := cell_of_row w2 _ 1 _ _ _ hqb4
      simp at y0 y1
      have hcode2 := proc_lit w2 ⟨r, [retI (r - 1)]⟩ (.slice (some ⟨wr.heap.size, 0, none⟩) 1 1) 35 (HQ.out.2.1.below InsP.keeps hb2) (by show I64 r; unfold I64; omega)
      have HR2 := Lib.hid (right_any _ _ _ hcode2)
      rw [HRQ.out] at HR2
      have hB2 := (HQ.out.2.2.trans (hb2.mono HQ.out.2.2.size))
      have HB2 := Lib.hid (hB2.alloc hB2.size (.cells #[.int .i64 r, .slice (some ⟨wr.heap.size, 0, none⟩) 1 1] 35))
      clear hcode2 hb2 hB2 hqb4 HR x0 x1 c0 c1 h1 h2 h3 h4
      have hcase : (q1 = true ∧ decide ((k : Int) ≤ 60000) = true ∨ q1 = false ∧ decide ((k : Int) ≤ 60000) = false) ∧ (q2 = true ∧ decide (r ≤ 60000) = true ∨ q2 = false ∧ decide (r ≤ 60000) = false) := by
        refine ⟨?_, ?_⟩
        · by_cases h : k ≤ 60000
          · exact .inl ⟨HK.out.1.symm.trans (decide_eq_true h), decide_eq_true (by omega)⟩
          · exact .inr ⟨HK.out.1.symm.trans (decide_eq_false h), decide_eq_false (by omega)⟩
        · by_cases h : r ≤ 60000
          · exact .inl ⟨HK.out.2.symm.trans (decide_eq_true h), decide_eq_true h⟩
          · exact .inr ⟨HK.out.2.symm.trans (decide_eq_false h), decide_eq_false h⟩
      clear HK
      obtain ⟨hc1, hc2⟩ := hcase
      rcases hc1 with ⟨rfl, hk7⟩ | ⟨rfl, hk7⟩
      all_goals rcases hc2 with ⟨rfl, hr7⟩ | ⟨rfl, hr7⟩
      all_goals
        go_wp2_with (go_at_call 11; refine HR2.out.mono ?_; rintro e w3 ⟨rfl, hb3⟩)
        go_ret
        exact ⟨rfl, HB1.out.trans ((HB2.out.trans (hb3.mono HB2.out.size)).mono HB1.out.size)⟩
end Go.Proofs.YtconnhphkbgbkaaDoor
