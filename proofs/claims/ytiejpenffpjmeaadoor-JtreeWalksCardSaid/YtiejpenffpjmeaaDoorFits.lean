/- jtree.group.has, wanted, oneOf, wording.allows, shape.fits. -/
import Derived.Test.YtiejpenffpjmeaaDoorShapes
import Derived.Test.YtiejpenffpjmeaaDoorNodes
import Derived.Test.YtiejpenffpjmeaaDoorName
namespace Go.Proofs.YtiejpenffpjmeaaDoor
open Go.RowKit Go.Proofs

set_option maxHeartbeats 4000000 in
theorem has_any (g op : Int) (w : World) : Calls Tryd.prog 27 #[.int .i64 g, .int .i64 op] w fun e w' => e = .returned (.bool (hasB g op)) ∧ w = w' := by
  by_cases g1 : g = 1
  · subst g1
    go_enter Tryd.func27, Tryd.ntmps27
    go_wp2
    all_goals
      go_ret
      exact ⟨ret_b (by simp [hasB]; first | done | rfl | omega), rfl⟩
  by_cases g2 : g = 2
  · subst g2
    go_enter Tryd.func27, Tryd.ntmps27
    go_wp2
    all_goals
      go_ret
      exact ⟨ret_b (by simp [hasB]; try rfl), rfl⟩
  by_cases g3 : g = 3
  · subst g3
    go_enter Tryd.func27, Tryd.ntmps27
    go_wp2
    all_goals
      go_ret
      exact ⟨ret_b (by simp [hasB]; try rfl), rfl⟩
  by_cases g5 : g = 5
  · subst g5
    by_cases a1 : op = 13
    · subst a1
      go_enter Tryd.func27, Tryd.ntmps27
      go_wp2
      go_ret
      exact ⟨ret_b (by simp [hasB]), rfl⟩
    · by_cases a2 : op = 14
      · subst a2
        go_enter Tryd.func27, Tryd.ntmps27
        go_wp2
        go_ret
        exact ⟨ret_b (by simp [hasB]), rfl⟩
      · have d1 : (op == 13) = false := by simpa using a1
        have d2 : (op == 14) = false := by simpa using a2
        have H := Lib.hid (show hasB 5 op = decide (op = 1) by simp [hasB, a1, a2])
        clear a1 a2
        go_enter Tryd.func27, Tryd.ntmps27
        go_wp2
        go_ret
        exact ⟨ret_b (by rw [H.out]; rfl), rfl⟩
  by_cases g4 : g = 4
  · subst g4
    go_enter Tryd.func27, Tryd.ntmps27
    go_wp2
    all_goals
      go_ret
      exact ⟨ret_b (by simp [hasB]; try rfl), rfl⟩
  have e1 : (g == 1) = false := by simpa using g1
  have e2 : (g == 2) = false := by simpa using g2
  have e3 : (g == 3) = false := by simpa using g3
  have e5 : (g == 5) = false := by simpa using g5
  have e4 : (g == 4) = false := by simpa using g4
  have HH := Lib.hid (show hasB g op = (decide (1 ≤ op) && (decide (op ≤ 23) && !decide (op = 12))) by unfold hasB; rw [if_neg g1, if_neg g2, if_neg g3, if_neg g5, if_neg g4])
  clear g1 g2 g3 g4 g5
  go_enter Tryd.func27, Tryd.ntmps27
  go_wp2
  all_goals
    go_ret
    exact ⟨ret_b (by rw [HH.out, Bool.eq_iff_iff]; simp <;> omega), rfl⟩

set_option maxHeartbeats 4000000 in
theorem wanted_any (op i count : Int) (w : World) (h0 : 0 ≤ count) (h1 : count ≤ 9223372036854775807) : Calls Tryd.prog 62 #[.int .i64 op, .int .i64 i, .int .i64 count] w fun e w' => e = .returned (.int .i64 (wantedB op i count)) ∧ w = w' := by
  by_cases o11 : op = 11
  · subst o11
    go_enter Tryd.func62, Tryd.ntmps62
    go_wp2
    go_ret
    exact ⟨ret_i (by first | rfl | (simp [wantedB])), rfl⟩
  by_cases o32 : op = 32
  · subst o32
    go_enter Tryd.func62, Tryd.ntmps62
    go_wp2
    go_ret
    exact ⟨ret_i (by first | rfl | (simp [wantedB])), rfl⟩
  by_cases o38 : op = 38
  · subst o38
    go_enter Tryd.func62, Tryd.ntmps62
    go_wp2
    go_ret
    exact ⟨ret_i (by first | rfl | (simp [wantedB])), rfl⟩
  by_cases o17 : op = 17
  · subst o17
    by_cases hi : i = 0
    · subst hi
      go_enter Tryd.func62, Tryd.ntmps62
      go_wp2
      go_ret
      exact ⟨ret_i (by first | rfl | (simp [wantedB])), rfl⟩
    · have d : (i == 0) = false := by simpa using hi
      have H := Lib.hid hi
      clear hi
      go_enter Tryd.func62, Tryd.ntmps62
      go_wp2
      go_ret
      exact ⟨ret_i (by first | rfl | (simp [wantedB, H.out])), rfl⟩
  by_cases o33 : op = 33
  · subst o33
    by_cases hi : 0 < i
    · have H := Lib.hid hi
      go_enter Tryd.func62, Tryd.ntmps62
      go_wp2
      go_ret
      exact ⟨ret_i (by first | rfl | (simp [wantedB, H.out])), rfl⟩
    · have H := Lib.hid hi
      go_enter Tryd.func62, Tryd.ntmps62
      go_wp2
      go_ret
      exact ⟨ret_i (by first | rfl | (simp [wantedB, H.out])), rfl⟩
  by_cases o34 : op = 34
  · subst o34
    by_cases hi : 0 < i
    · have H := Lib.hid hi
      go_enter Tryd.func62, Tryd.ntmps62
      go_wp2
      go_ret
      exact ⟨ret_i (by first | rfl | (simp [wantedB, H.out])), rfl⟩
    · have H := Lib.hid hi
      go_enter Tryd.func62, Tryd.ntmps62
      go_wp2
      go_ret
      exact ⟨ret_i (by first | rfl | (simp [wantedB, H.out])), rfl⟩
  by_cases o35 : op = 35
  · subst o35
    by_cases hi : 0 < i
    · have H := Lib.hid hi
      go_enter Tryd.func62, Tryd.ntmps62
      go_wp2
      go_ret
      exact ⟨ret_i (by first | rfl | (simp [wantedB, H.out])), rfl⟩
    · have H := Lib.hid hi
      go_enter Tryd.func62, Tryd.ntmps62
      go_wp2
      go_ret
      exact ⟨ret_i (by first | rfl | (simp [wantedB, H.out])), rfl⟩
  by_cases o10 : op = 10
  · subst o10
    by_cases hi : i < count - 1
    · have H := Lib.hid hi
      go_enter Tryd.func62, Tryd.ntmps62
      go_wp2
      go_ret
      exact ⟨ret_i (by first | rfl | (simp [wantedB, H.out])), rfl⟩
    · have H := Lib.hid hi
      go_enter Tryd.func62, Tryd.ntmps62
      go_wp2
      go_ret
      exact ⟨ret_i (by first | rfl | (simp [wantedB, H.out])), rfl⟩
  by_cases o41 : op = 41
  · subst o41
    by_cases hi : i < count - 1
    · have H := Lib.hid hi
      go_enter Tryd.func62, Tryd.ntmps62
      go_wp2
      go_ret
      exact ⟨ret_i (by first | rfl | (simp [wantedB, H.out])), rfl⟩
    · have H := Lib.hid hi
      go_enter Tryd.func62, Tryd.ntmps62
      go_wp2
      go_ret
      exact ⟨ret_i (by first | rfl | (simp [wantedB, H.out])), rfl⟩
  have d11 : (op == 11) = false := by simpa using o11
  have d32 : (op == 32) = false := by simpa using o32
  have d17 : (op == 17) = false := by simpa using o17
  have d33 : (op == 33) = false := by simpa using o33
  have d34 : (op == 34) = false := by simpa using o34
  have d35 : (op == 35) = false := by simpa using o35
  have d10 : (op == 10) = false := by simpa using o10
  have d41 : (op == 41) = false := by simpa using o41
  have d38 : (op == 38) = false := by simpa using o38
  have H := Lib.hid (show wantedB op i count = 0 by unfold wantedB; simp [o11, o32, o38, o17, o33, o34, o35, o10, o41])
  clear o11 o32 o38 o17 o33 o34 o35 o10 o41
  go_enter Tryd.func62, Tryd.ntmps62
  go_wp2
  go_ret
  exact ⟨ret_i (by first | rfl | (rw [H.out])), rfl⟩

/-- Texts that lie in a row. -/
def StrRow (W : World) (v : Value) (ts : List Bs) : Prop :=
  ∃ A cap, v = .slice A ts.length cap ∧ (ts.length ≤ cap ∧ cap ≤ maxLen) ∧ (0 < ts.length → ∃ g, A = some ⟨g, 0, none⟩ ∧ g < W.heap.size ∧ ∀ (j : Nat) t, ts[j]? = some t → W.cell? ⟨g, j, none⟩ = some (.string (bs t)))
theorem bs_eq_iff (a b : Bs) : ((bs a).toList == (bs b).toList) = decide (a = b) := by
  rw [Lib.toList_data, Lib.toList_data, bs_list, bs_list, Bool.eq_iff_iff]
  simp

set_option maxHeartbeats 4000000 in
theorem oneOf_any (s : Bs) (v : Value) (ts : List Bs) (w : World) (hv : StrRow w v ts) : Calls Tryd.prog 74 #[.string (bs s), v] w fun e w' => e = .returned (.bool (ts.contains s)) ∧ w = w' := by
  obtain ⟨A, cap, rfl, ⟨hc1, hc2⟩, hA⟩ := hv
  unfold maxLen at hc2
  have HA := Lib.hid hA
  clear hA
  obtain ⟨len, hl⟩ : ∃ k, ts.length = k := ⟨_, rfl⟩
  have HL := Lib.hid hl
  rw [hl] at hc1 ⊢
  clear hl
  go_enter Tryd.func74, Tryd.ntmps74
  go_wp2
  go_loop [9] (fun i => ∃ k : Nat, k ≤ len ∧ i = .int .i64 k ∧ s ∉ ts.take k) (fun i => len - (intOf i).toNat)
  case atStart => exact ⟨0, Nat.zero_le _, rfl, by simp⟩
  case round =>
    obtain ⟨k, hk, rfl, hno⟩ := hrel
    have HN := Lib.hid hno
    clear hno
    by_cases hlt : k < len
    · obtain ⟨g, rfl, hg, hcell⟩ := HA.out (by rw [HL.out]; omega)
      obtain ⟨t, et⟩ : ∃ t, ts[k]? = some t := ⟨_, List.getElem?_eq_getElem (by rw [HL.out]; exact hlt)⟩
      have c := hcell k t et
      have HT := Lib.hid et
      clear et hcell
      by_cases h : s = t
      · have d : ((bs s).toList == (bs t).toList) = true := by rw [bs_eq_iff]; simpa using h
        have HH := Lib.hid (show ts.contains s = true by
          rw [List.contains_iff_mem, h]
          exact List.mem_of_getElem? HT.out)
        clear h
        go_wp2
        go_ret
        exact ⟨ret_b (by have := HH.out; simpa using this), rfl⟩
      · have d : ((bs s).toList == (bs t).toList) = false := by rw [bs_eq_iff]; simpa using h
        have HH := Lib.hid h
        clear h
        go_wp2
        go_round
        case rel => exact ⟨k + 1, by omega, by go_num, by
          rw [List.take_add_one, HT.out]
          intro hm
          rcases List.mem_append.1 hm with hm | hm
          · exact HN.out hm
          · simp at hm
            exact HH.out hm⟩
        case measure => simp [intOf]; omega
    · obtain rfl : k = len := by omega
      go_wp2
      go_ret
      exact ⟨ret_b (by
        have := HN.out
        rw [List.take_of_length_le (by rw [HL.out]; exact Nat.le_refl _)] at this
        simpa using this), rfl⟩
end Go.Proofs.YtiejpenffpjmeaaDoor
