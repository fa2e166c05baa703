/- jlex.gap: how many bytes stand ahead of the first token. -/
import Derived.Test.YtfjfbpmlohgghaaDoorBlank
namespace Go.Proofs.YtfjfbpmlohgghaaDoor
open Go.RowKit Go.Proofs

theorem blankL_cases (l : Bs) : (blankL l).2 = 0 ∨ ((blankL l).1 = 0 ∧ (blankL l).2 = 23) := by
  unfold blankL
  split
  · exact .inl rfl
  · split
    · split
      · exact .inr ⟨rfl, rfl⟩
      · exact .inl rfl
    · split
      · exact .inl rfl
      · exact .inl rfl
theorem blankL_le (l : Bs) : (blankL l).1 ≤ l.length := by
  unfold blankL
  split
  · exact runL_le _ _
  · split
    · rename_i h2
      split
      · simp
      · have := prefix_len h2
        rcases index_le (l.drop 2) with h | ⟨h, h'⟩
        · omega
        · rw [List.length_drop] at h'
          simp
          omega
    · split
      · rename_i hl
        rcases longestL_mem l [[32], [9], [13], [10]] with h | ⟨h, h'⟩
        · rw [h] at hl; simp at hl
        · have := prefix_len h'
          have e : (longestL l [[32], [9], [13], [10]]).length = 1 := (by decide : ∀ x ∈ ([[32], [9], [13], [10]] : List Bs), x.length = 1) _ h
          show 1 ≤ _
          omega
      · simp
def gapL (l : Bs) : Nat × Int :=
  if _h : (blankL l).1 = 0 then (0, (blankL l).2)
  else ((blankL l).1 + (gapL (l.drop (blankL l).1)).1, (gapL (l.drop (blankL l).1)).2)
termination_by l.length
decreasing_by all_goals (rw [List.length_drop]; have := blankL_le l; omega)
theorem gapL_stop {l : Bs} (h : (blankL l).1 = 0) : gapL l = (0, (blankL l).2) := by rw [gapL, dif_pos h]
theorem gapL_more {l : Bs} (h : (blankL l).1 ≠ 0) : gapL l = ((blankL l).1 + (gapL (l.drop (blankL l).1)).1, (gapL (l.drop (blankL l).1)).2) := by rw [gapL, dif_neg h]
theorem gapL_le : ∀ (n : Nat) (l : Bs), l.length ≤ n → (gapL l).1 ≤ l.length := by
  intro n
  induction n with
  | zero =>
    intro l hl
    have hb := blankL_le l
    rw [gapL_stop (by omega)]
    simp
  | succ n ih =>
    intro l hl
    have hb := blankL_le l
    by_cases h : (blankL l).1 = 0
    · rw [gapL_stop h]; simp
    · rw [gapL_more h]
      have := ih (l.drop (blankL l).1) (by rw [List.length_drop]; omega)
      rw [List.length_drop] at this
      simp only
      omega
theorem gapL_e : ∀ (n : Nat) (l : Bs), l.length ≤ n → (gapL l).2 = 0 ∨ (gapL l).2 = 23 := by
  intro n
  induction n with
  | zero =>
    intro l hl
    have hb := blankL_le l
    rw [gapL_stop (by omega)]
    rcases blankL_cases l with h | h
    · exact .inl h
    · exact .inr h.2
  | succ n ih =>
    intro l hl
    have hb := blankL_le l
    by_cases h : (blankL l).1 = 0
    · rw [gapL_stop h]
      rcases blankL_cases l with h | h
      · exact .inl h
      · exact .inr h.2
    · rw [gapL_more h]
      exact ih (l.drop (blankL l).1) (by rw [List.length_drop]; omega)

set_option maxRecDepth 100000 in
set_option maxHeartbeats 2000000 in
theorem gap_any (s : ByteArray) (w : World) (hE : Env w) (hs : s.size ≤ 1000000) :
    Calls Tryd.prog 32 #[.string s] w fun e w' => e = .returned (.tuple #[.int .i64 (gapL s.data.toList).1, .int .i64 (gapL s.data.toList).2]) ∧ Below w.heap.size w w' := by
  have HE := Lib.hid hE
  clear hE
  go_enter Tryd.func32, Tryd.ntmps32
  go_wp2
  go_loopw [4] (fun va wr => ∃ k : Nat, va = .int .i64 k ∧ k ≤ s.size ∧ Below w.heap.size w wr ∧ k + (gapL (s.data.toList.drop k)).1 = (gapL s.data.toList).1 ∧ (gapL (s.data.toList.drop k)).2 = (gapL s.data.toList).2) (fun va _ => s.size - (intOf va).toNat)
  case atStart => exact ⟨0, rfl, by omega, Below.refl _ _, by simp, by simp⟩
  case round =>
    obtain ⟨k, rfl, hk, hB, h1, h2⟩ := hrel
    have H := Lib.hid (And.intro h1 h2)
    clear h1 h2
    have hb := blank_any (s.extract k s.size) wr (HE.out.kept hB) (by rw [ext_size]; omega)
    rw [ext_drop] at hb
    have hle := blankL_le (s.data.toList.drop k)
    rw [List.length_drop, len_toList] at hle
    have hst := fun h => gapL_stop (l := s.data.toList.drop k) h
    have hmo := fun h => gapL_more (l := s.data.toList.drop k) h
    obtain ⟨⟨n, er⟩, hbl⟩ : ∃ x, blankL (s.data.toList.drop k) = x := ⟨_, rfl⟩
    rw [hbl] at hb hle hst hmo
    have HB := Lib.hid hb
    have HS := Lib.hid hst
    have HM := Lib.hid hmo
    clear hb hst hmo hbl
    by_cases hn : n = 0
    · subst hn
      go_wp2_with (go_at_call 35; refine HB.out.mono ?_; rintro e w1 ⟨rfl, hb1⟩)
      go_ret2
      have e := HS.out trivial
      have h1 := H.out.1
      have h2 := H.out.2
      rw [e] at h1 h2
      exact ⟨ret_pair (by rw [← h1]; simp) h2, hB.trans (hb1.mono hB.size)⟩
    · have e2 : ((n : Int) == 0) = false := by simpa using hn
      have H3 := Lib.hid hn
      have hn1 : 1 ≤ n := by omega
      simp only at hle
      clear hn
      go_wp2_with (go_at_call 35; refine HB.out.mono ?_; rintro e w1 ⟨rfl, hb1⟩)
      go_roundw
      case rel =>
        have e := HM.out H3.out
        have h1 := H.out.1
        have h2 := H.out.2
        rw [e, List.drop_drop] at h1 h2
        exact ⟨k + n, by go_num, by omega, hB.trans (hb1.mono hB.size), by rw [← h1]; simp; omega, h2⟩
      case measure => simp [intOf]; omega
end Go.Proofs.YtfjfbpmlohgghaaDoor
