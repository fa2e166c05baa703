/- jlex.blank: the blank or comment that stands first. -/
import Derived.Test.YtfjfbpmlohgghaaDoorFirst
namespace Go.Proofs.YtfjfbpmlohgghaaDoor
open Go.RowKit Go.Proofs

def blankA : List ByteArray := [⟨#[32]⟩, ⟨#[9]⟩, ⟨#[13]⟩, ⟨#[10]⟩]
theorem blanks_is (s : ByteArray) (l : Bs) (h : longestL s.data.toList [[32], [9], [13], [10]] = l) (w : World) (B : Nat) (hB : B = w.heap.size) :
    Calls Tryd.prog 45 #[.string s, .slice (some ⟨B, 0, none⟩) 4 4] (w.alloc (.cells #[.string ⟨#[32]⟩, .string ⟨#[9]⟩, .string ⟨#[13]⟩, .string ⟨#[10]⟩] 9)) fun e w' => e = .returned (.string (bs l)) ∧ (w.alloc (.cells #[.string ⟨#[32]⟩, .string ⟨#[9]⟩, .string ⟨#[13]⟩, .string ⟨#[10]⟩] 9)) = w' := by
  subst hB
  have Q := longest_any s ⟨w.heap.size, 0, none⟩ 4 4 blankA (w.alloc (.cells (blankA.map Value.string).toArray 9)) rfl (by omega) (by decide) (cells_new w blankA 9)
  rw [← h]
  exact Q
theorem index_is (s : ByteArray) (w : World) (hE : Env w) (hs : s.size ≤ 1000000) (i : Int) (h : Lib.index s.data.toList [42, 47] = i) :
    Calls Tryd.prog 38 #[.string s, .string ⟨#[42, 47]⟩] w fun e w' => e = .returned (.int .i64 i) ∧ w = w' := by
  obtain ⟨⟨m, hm⟩, _⟩ := hE
  refine (Tryd.strings_Index s ⟨#[42, 47]⟩ m w (by omega) hm).mono fun e w' hh => ⟨?_, hh.2.symm⟩
  rw [hh.1, ← h]
theorem index_le (l : Bs) : Lib.index l [42, 47] = -1 ∨ 0 ≤ Lib.index l [42, 47] ∧ Lib.index l [42, 47] + 2 ≤ l.length := by
  induction l with
  | nil => left; rfl
  | cons b r ih =>
    unfold Lib.index
    split
    · rename_i h
      have := prefix_len h
      right
      simp at this ⊢
      omega
    · rcases ih with h | ⟨h1, h2⟩
      · left; rw [h]; rfl
      · right
        have : (Lib.index r [42, 47] == -1) = false := by simp; omega
        rw [this]
        simp
        omega

set_option maxRecDepth 100000 in
set_option maxHeartbeats 2000000 in
theorem blank_a (s : ByteArray) (w : World) (hs : s.size ≤ 1000000) (h1 : Lib.hasPrefix s.data.toList [47, 47] = true) (n : Nat) (hn : runL noEndB s.data.toList = n) :
    Calls Tryd.prog 35 #[.string s] w fun e w' => e = .returned (.tuple #[.int .i64 n, .int .i64 0]) ∧ Below w.heap.size w w' := by
  have Q1 := Lib.hid (pref_is s [47, 47] _ h1)
  have Q2 := run44_any s
  rw [hn] at Q2
  have Q2 := Lib.hid (fun w => Q2 w (by unfold maxLen; omega))
  clear h1 hn
  go_enter Tryd.func35, Tryd.ntmps35
  go_wp2_with (first | (go_at_call 43; refine (Q1.out _).mono ?_; rintro e w' ⟨rfl, rfl⟩) | (go_at_call 23; refine (Q2.out _).mono ?_; rintro e w' ⟨rfl, rfl⟩))
  go_ret2
  exact ⟨rfl, Below.refl _ _⟩

set_option maxRecDepth 100000 in
set_option maxHeartbeats 2000000 in
theorem blank_b (s : ByteArray) (w : World) (hE : Env w) (hs : s.size ≤ 1000000) (h1 : Lib.hasPrefix s.data.toList [47, 47] = false) (h2 : Lib.hasPrefix s.data.toList [47, 42] = true) (hz : 2 ≤ s.size) (i : Int) (hi : Lib.index (s.data.toList.drop 2) [42, 47] = i) (h0 : i < 0) :
    Calls Tryd.prog 35 #[.string s] w fun e w' => e = .returned (.tuple #[.int .i64 0, .int .i64 23]) ∧ Below w.heap.size w w' := by
  have Q1 := Lib.hid (pref_is s [47, 47] _ h1)
  have Q2 := Lib.hid (pref_is s [47, 42] _ h2)
  have Q3 := Lib.hid (index_is (s.extract 2 s.size) w hE (by rw [ext_size]; omega) i (by rw [ext_drop]; exact hi))
  clear h1 h2 hi hE
  go_enter Tryd.func35, Tryd.ntmps35
  go_wp2_with (first | (go_at_call 43; first | ((with_reducible refine (Q1.out _).mono ?_); rintro e w' ⟨rfl, rfl⟩) | ((with_reducible refine (Q2.out _).mono ?_); rintro e w' ⟨rfl, rfl⟩)) | (go_at_call 38; refine Q3.out.mono ?_; rintro e w' ⟨rfl, rfl⟩))
  go_ret2
  exact ⟨rfl, Below.refl _ _⟩

set_option maxRecDepth 100000 in
set_option maxHeartbeats 2000000 in
theorem blank_c (s : ByteArray) (w : World) (hE : Env w) (hs : s.size ≤ 1000000) (h1 : Lib.hasPrefix s.data.toList [47, 47] = false) (h2 : Lib.hasPrefix s.data.toList [47, 42] = true) (hz : 2 ≤ s.size) (i : Nat) (hi : Lib.index (s.data.toList.drop 2) [42, 47] = i) (h0 : i ≤ 1000000) :
    Calls Tryd.prog 35 #[.string s] w fun e w' => e = .returned (.tuple #[.int .i64 (2 + i + 2), .int .i64 0]) ∧ Below w.heap.size w w' := by
  have Q1 := Lib.hid (pref_is s [47, 47] _ h1)
  have Q2 := Lib.hid (pref_is s [47, 42] _ h2)
  have Q3 := Lib.hid (index_is (s.extract 2 s.size) w hE (by rw [ext_size]; omega) i (by rw [ext_drop]; exact hi))
  clear h1 h2 hi hE
  go_enter Tryd.func35, Tryd.ntmps35
  go_wp2_with (first | (go_at_call 43; first | ((with_reducible refine (Q1.out _).mono ?_); rintro e w' ⟨rfl, rfl⟩) | ((with_reducible refine (Q2.out _).mono ?_); rintro e w' ⟨rfl, rfl⟩)) | (go_at_call 38; refine Q3.out.mono ?_; rintro e w' ⟨rfl, rfl⟩))
  go_ret2
  exact ⟨rfl, Below.refl _ _⟩

set_option maxRecDepth 100000 in
set_option maxHeartbeats 2000000 in
theorem blank_d (s : ByteArray) (w : World) (h1 : Lib.hasPrefix s.data.toList [47, 47] = false) (h2 : Lib.hasPrefix s.data.toList [47, 42] = false) (c : UInt8) (r : Bs) (h3 : longestL s.data.toList [[32], [9], [13], [10]] = c :: r) :
    Calls Tryd.prog 35 #[.string s] w fun e w' => e = .returned (.tuple #[.int .i64 1, .int .i64 0]) ∧ Below w.heap.size w w' := by
  have Q1 := Lib.hid (pref_is s [47, 47] _ h1)
  have Q2 := Lib.hid (pref_is s [47, 42] _ h2)
  have Q3 := Lib.hid (blanks_is s _ h3)
  have hE := bs_cons c r
  clear h1 h2 h3
  go_enter Tryd.func35, Tryd.ntmps35
  go_wp2_with (first | (go_at_call 43; first | ((with_reducible refine (Q1.out _).mono ?_); rintro e w' ⟨rfl, rfl⟩) | ((with_reducible refine (Q2.out _).mono ?_); rintro e w' ⟨rfl, rfl⟩)) | (go_at_call 45; (refine (Q3.out _ _ (by simp)).mono ?_); rintro e w' ⟨rfl, rfl⟩))
  go_ret2
  exact ⟨rfl, (Below.refl _ w).alloc (Nat.le_refl _) _⟩

set_option maxRecDepth 100000 in
set_option maxHeartbeats 2000000 in
theorem blank_e (s : ByteArray) (w : World) (h1 : Lib.hasPrefix s.data.toList [47, 47] = false) (h2 : Lib.hasPrefix s.data.toList [47, 42] = false) (h3 : longestL s.data.toList [[32], [9], [13], [10]] = []) :
    Calls Tryd.prog 35 #[.string s] w fun e w' => e = .returned (.tuple #[.int .i64 0, .int .i64 0]) ∧ Below w.heap.size w w' := by
  have Q1 := Lib.hid (pref_is s [47, 47] _ h1)
  have Q2 := Lib.hid (pref_is s [47, 42] _ h2)
  have Q3 := Lib.hid (blanks_is s _ h3)
  have hE := bs_nil
  clear h1 h2 h3
  go_enter Tryd.func35, Tryd.ntmps35
  go_wp2_with (first | (go_at_call 43; first | ((with_reducible refine (Q1.out _).mono ?_); rintro e w' ⟨rfl, rfl⟩) | ((with_reducible refine (Q2.out _).mono ?_); rintro e w' ⟨rfl, rfl⟩)) | (go_at_call 45; (refine (Q3.out _ _ (by simp)).mono ?_); rintro e w' ⟨rfl, rfl⟩))
  go_ret2
  exact ⟨rfl, (Below.refl _ w).alloc (Nat.le_refl _) _⟩

theorem blank_any (s : ByteArray) (w : World) (hE : Env w) (hs : s.size ≤ 1000000) :
    Calls Tryd.prog 35 #[.string s] w fun e w' => e = .returned (.tuple #[.int .i64 (blankL s.data.toList).1, .int .i64 (blankL s.data.toList).2]) ∧ Below w.heap.size w w' := by
  cases h1 : Lib.hasPrefix s.data.toList [47, 47] with
  | true =>
    have e : blankL s.data.toList = (runL noEndB s.data.toList, 0) := by unfold blankL; exact if_pos h1
    rw [e]
    exact blank_a s w hs h1 _ rfl
  | false =>
    have n1 : ¬ ([47, 47] : Bs).isPrefixOf s.data.toList = true := by unfold Lib.hasPrefix at h1; simp [h1]
    cases h2 : Lib.hasPrefix s.data.toList [47, 42] with
    | true =>
      have hz : 2 ≤ s.size := by
        have := prefix_len h2
        rw [len_toList] at this
        exact this
      rcases index_le (s.data.toList.drop 2) with h | ⟨h, h'⟩
      · have e : blankL s.data.toList = (0, 23) := by
          unfold blankL
          rw [if_neg n1, h]
          exact if_pos h2
        rw [e]
        exact blank_b s w hE hs h1 h2 hz _ h (by omega)
      · have e : blankL s.data.toList = ((Lib.index (s.data.toList.drop 2) [42, 47]).toNat + 4, 0) := by
          unfold blankL
          rw [if_neg n1]
          have hn : ¬ Lib.index (s.data.toList.drop 2) [42, 47] < 0 := by omega
          rw [if_neg hn]
          exact if_pos h2
        rw [e]
        rw [List.length_drop, len_toList] at h'
        refine (blank_c s w hE hs h1 h2 hz _ (by rw [Int.toNat_of_nonneg h]) (by omega)).mono fun e w' hh => ⟨?_, hh.2⟩
        rw [hh.1]
        exact ret_pair (by simp; omega) rfl
    | false =>
      have n2 : ¬ ([47, 42] : Bs).isPrefixOf s.data.toList = true := by unfold Lib.hasPrefix at h2; simp [h2]
      cases h3 : longestL s.data.toList [[32], [9], [13], [10]] with
      | nil =>
        have e : blankL s.data.toList = (0, 0) := by
          unfold blankL
          rw [if_neg n1, if_neg n2, h3]
          rfl
        rw [e]
        exact blank_e s w h1 h2 h3
      | cons c r =>
        have e : blankL s.data.toList = (1, 0) := by
          unfold blankL
          rw [if_neg n1, if_neg n2, h3]
          rfl
        rw [e]
        exact blank_d s w h1 h2 c r h3
end Go.Proofs.YtfjfbpmlohgghaaDoor
