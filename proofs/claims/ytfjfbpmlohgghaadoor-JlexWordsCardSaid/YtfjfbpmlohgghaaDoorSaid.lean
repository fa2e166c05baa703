/- jlex.said: the byte that the beginning of a text says within quotes. -/
import Derived.Test.YtfjfbpmlohgghaaDoorHex
namespace Go.Proofs.YtfjfbpmlohgghaaDoor
open Go.RowKit Go.Proofs

theorem cells_new (w : World) (ts : List ByteArray) (T : TypeId) (j : Nat) (t : ByteArray) (h : ts[j]? = some t) :
    (w.alloc (.cells (ts.map Value.string).toArray T)).cell? ((⟨w.heap.size, 0, none⟩ : Addr).add j) = some (.string t) := by
  have e : (⟨w.heap.size, 0, none⟩ : Addr).add j = ⟨w.heap.size, j, none⟩ := by unfold Addr.add; split <;> simp_all
  rw [e, cell_of_row _ _ j _ T _ (heap_alloc_new w _)]
  simp [h]
theorem Drewn.below {w w' : World} (h : Drewn w w') : Below w.heap.size w w' := by
  obtain ⟨k, rfl⟩ := h
  exact ⟨rfl, rfl, rfl, Nat.le_refl _, fun _ _ => rfl⟩
theorem bs_cons (c : UInt8) (r : Bs) : (bs (c :: r)).toList.isEmpty = false := by
  rw [Lib.toList_data, bs_list]
  rfl
theorem bs_nil : (bs []).toList.isEmpty = true := by
  rw [Lib.toList_data, bs_list]
  rfl
/-- strings.HasPrefix at a constant, its answer known. -/
theorem pref_is (s : ByteArray) (p : Bs) (b : Bool) (h : Lib.hasPrefix s.data.toList p = b) (w : World) :
    Calls Tryd.prog 43 #[.string s, .string ⟨p.toArray⟩] w fun e w' => e = .returned (.bool b) ∧ w = w' := by
  refine (Tryd.strings_HasPrefix s ⟨p.toArray⟩ w).mono fun e w' hh => ⟨?_, hh.2.symm⟩
  rw [hh.1, ← h]
def escL : List ByteArray := [⟨#[92, 92]⟩, ⟨#[92, 34]⟩, ⟨#[92, 39]⟩]
theorem esc_is (s : ByteArray) (l : Bs) (h : longestL s.data.toList [[92, 92], [92, 34], [92, 39]] = l) (w : World) :
    Calls Tryd.prog 45 #[.string s, .slice (some ⟨w.heap.size, 0, none⟩) 3 3] (w.alloc (.cells #[.string ⟨#[92, 92]⟩, .string ⟨#[92, 34]⟩, .string ⟨#[92, 39]⟩] 9)) fun e w' => e = .returned (.string (bs l)) ∧ (w.alloc (.cells #[.string ⟨#[92, 92]⟩, .string ⟨#[92, 34]⟩, .string ⟨#[92, 39]⟩] 9)) = w' := by
  have Q := longest_any s ⟨w.heap.size, 0, none⟩ 3 3 escL (w.alloc (.cells (escL.map Value.string).toArray 9)) rfl (by omega) (by decide) (cells_new w escL 9)
  rw [← h]
  exact Q

set_option maxHeartbeats 1000000 in
theorem said_a (s : ByteArray) (w : World) (h1 : Lib.hasPrefix s.data.toList [92, 110] = true) :
    Calls Tryd.prog 49 #[.string s] w fun e w' => e = .returned (.tuple #[.int .u8 10, .int .i64 2]) ∧ Below w.heap.size w w' := by
  have Q1 := Lib.hid (pref_is s [92, 110] _ h1)
  clear h1
  go_enter Tryd.func49, Tryd.ntmps49
  go_wp2_with ((go_at_call 43; first | ((with_reducible refine (Q1.out _).mono ?_); rintro e w' ⟨rfl, rfl⟩)))
  go_ret2
  exact ⟨rfl, Below.refl _ _⟩

set_option maxHeartbeats 1000000 in
theorem said_b (s : ByteArray) (w : World) (h1 : Lib.hasPrefix s.data.toList [92, 110] = false) (h2 : Lib.hasPrefix s.data.toList [92, 116] = true) :
    Calls Tryd.prog 49 #[.string s] w fun e w' => e = .returned (.tuple #[.int .u8 9, .int .i64 2]) ∧ Below w.heap.size w w' := by
  have Q1 := Lib.hid (pref_is s [92, 110] _ h1)
  have Q2 := Lib.hid (pref_is s [92, 116] _ h2)
  clear h1 h2
  go_enter Tryd.func49, Tryd.ntmps49
  go_wp2_with ((go_at_call 43; first | ((with_reducible refine (Q1.out _).mono ?_); rintro e w' ⟨rfl, rfl⟩) | ((with_reducible refine (Q2.out _).mono ?_); rintro e w' ⟨rfl, rfl⟩)))
  go_ret2
  exact ⟨rfl, Below.refl _ _⟩

set_option maxHeartbeats 1000000 in
theorem said_c (s : ByteArray) (w : World) (h1 : Lib.hasPrefix s.data.toList [92, 110] = false) (h2 : Lib.hasPrefix s.data.toList [92, 116] = false) (c : UInt8) (r : Bs) (h3 : longestL s.data.toList [[92, 92], [92, 34], [92, 39]] = c :: r) (g5 : 1 < s.size) :
    Calls Tryd.prog 49 #[.string s] w fun e w' => e = .returned (.tuple #[.int .u8 s[1].toNat, .int .i64 2]) ∧ Below w.heap.size w w' := by
  have Q1 := Lib.hid (pref_is s [92, 110] _ h1)
  have Q2 := Lib.hid (pref_is s [92, 116] _ h2)
  have Q3 := Lib.hid (esc_is s _ h3)
  have g4 : (1 : Int) < s.size := by omega
  have hE := bs_cons c r
  clear h1 h2 h3
  go_enter Tryd.func49, Tryd.ntmps49
  go_wp2_with (first | (go_at_call 43; first | ((with_reducible refine (Q1.out _).mono ?_); rintro e w' ⟨rfl, rfl⟩) | ((with_reducible refine (Q2.out _).mono ?_); rintro e w' ⟨rfl, rfl⟩)) | (go_at_call 45; (refine (Q3.out _).mono ?_); rintro e w' ⟨rfl, rfl⟩))
  go_ret2
  exact ⟨rfl, (Below.refl _ w).alloc (Nat.le_refl _) _⟩

set_option maxHeartbeats 1000000 in
theorem said_d (s : ByteArray) (w : World) (hs : s.size ≤ maxLen) (h1 : Lib.hasPrefix s.data.toList [92, 110] = false) (h2 : Lib.hasPrefix s.data.toList [92, 116] = false) (h3 : longestL s.data.toList [[92, 92], [92, 34], [92, 39]] = []) (h4 : Lib.hasPrefix s.data.toList [92, 120] = true) :
    Calls Tryd.prog 49 #[.string s] w fun e w' => e = .returned (.tuple #[.int .u8 (hexL s.data.toList).1.toNat, .int .i64 (hexL s.data.toList).2]) ∧ Below w.heap.size w w' := by
  have Q1 := Lib.hid (pref_is s [92, 110] _ h1)
  have Q2 := Lib.hid (pref_is s [92, 116] _ h2)
  have Q3 := Lib.hid (esc_is s _ h3)
  have Q4 := Lib.hid (pref_is s [92, 120] _ h4)
  have hE := bs_nil
  have Q5 := Lib.hid (fun w => hex_any s w hs)
  clear h1 h2 h3 h4
  go_enter Tryd.func49, Tryd.ntmps49
  go_wp2_with (first | (go_at_call 43; first | ((with_reducible refine (Q1.out _).mono ?_); rintro e w' ⟨rfl, rfl⟩) | ((with_reducible refine (Q2.out _).mono ?_); rintro e w' ⟨rfl, rfl⟩) | ((with_reducible refine (Q4.out _).mono ?_); rintro e w' ⟨rfl, rfl⟩)) | (go_at_call 45; (refine (Q3.out _).mono ?_); rintro e w' ⟨rfl, rfl⟩) | (go_at_call 57; (refine (Q5.out _).mono ?_); rintro e w' ⟨rfl, hD⟩; have hB := hD.below))
  go_ret2
  exact ⟨rfl, ((Below.refl _ w).alloc (Nat.le_refl _) _).trans (hB.mono (by simp))⟩

set_option maxHeartbeats 1000000 in
theorem said_e (s : ByteArray) (w : World) (h1 : Lib.hasPrefix s.data.toList [92, 110] = false) (h2 : Lib.hasPrefix s.data.toList [92, 116] = false) (h3 : longestL s.data.toList [[92, 92], [92, 34], [92, 39]] = []) (h4 : Lib.hasPrefix s.data.toList [92, 120] = false) (g5 : 0 < s.size) (h5 : s[0].toNat = 92) :
    Calls Tryd.prog 49 #[.string s] w fun e w' => e = .returned (.tuple #[.int .u8 0, .int .i64 0]) ∧ Below w.heap.size w w' := by
  have Q1 := Lib.hid (pref_is s [92, 110] _ h1)
  have Q2 := Lib.hid (pref_is s [92, 116] _ h2)
  have Q3 := Lib.hid (esc_is s _ h3)
  have Q4 := Lib.hid (pref_is s [92, 120] _ h4)
  have hE := bs_nil
  have g4 : (0 : Int) < s.size := by omega
  have h6 : ((s[0].toNat : Int) == 92) = true := by simp; omega
  clear h5
  clear h1 h2 h3 h4
  go_enter Tryd.func49, Tryd.ntmps49
  go_wp2_with (first | (go_at_call 43; first | ((with_reducible refine (Q1.out _).mono ?_); rintro e w' ⟨rfl, rfl⟩) | ((with_reducible refine (Q2.out _).mono ?_); rintro e w' ⟨rfl, rfl⟩) | ((with_reducible refine (Q4.out _).mono ?_); rintro e w' ⟨rfl, rfl⟩)) | (go_at_call 45; (refine (Q3.out _).mono ?_); rintro e w' ⟨rfl, rfl⟩))
  go_ret2
  exact ⟨rfl, (Below.refl _ w).alloc (Nat.le_refl _) _⟩

set_option maxHeartbeats 1000000 in
theorem said_f (s : ByteArray) (w : World) (h1 : Lib.hasPrefix s.data.toList [92, 110] = false) (h2 : Lib.hasPrefix s.data.toList [92, 116] = false) (h3 : longestL s.data.toList [[92, 92], [92, 34], [92, 39]] = []) (h4 : Lib.hasPrefix s.data.toList [92, 120] = false) (g5 : 0 < s.size) (h5 : s[0].toNat ≠ 92) (h7 : plainB s[0] = false) :
    Calls Tryd.prog 49 #[.string s] w fun e w' => e = .returned (.tuple #[.int .u8 0, .int .i64 0]) ∧ Below w.heap.size w w' := by
  have Q1 := Lib.hid (pref_is s [92, 110] _ h1)
  have Q2 := Lib.hid (pref_is s [92, 116] _ h2)
  have Q3 := Lib.hid (esc_is s _ h3)
  have Q4 := Lib.hid (pref_is s [92, 120] _ h4)
  have hE := bs_nil
  have g4 : (0 : Int) < s.size := by omega
  have h6 : ((s[0].toNat : Int) == 92) = false := by simp; omega
  have Q5 := plain_any s[0]
  rw [h7] at Q5
  have Q5 := Lib.hid Q5
  clear h5 h7
  clear h1 h2 h3 h4
  go_enter Tryd.func49, Tryd.ntmps49
  go_wp2_with (first | (go_at_call 43; first | ((with_reducible refine (Q1.out _).mono ?_); rintro e w' ⟨rfl, rfl⟩) | ((with_reducible refine (Q2.out _).mono ?_); rintro e w' ⟨rfl, rfl⟩) | ((with_reducible refine (Q4.out _).mono ?_); rintro e w' ⟨rfl, rfl⟩)) | (go_at_call 45; (refine (Q3.out _).mono ?_); rintro e w' ⟨rfl, rfl⟩) | (go_at_call 30; (refine (Q5.out _).mono ?_); rintro e w' ⟨rfl, rfl⟩))
  go_ret2
  exact ⟨rfl, (Below.refl _ w).alloc (Nat.le_refl _) _⟩

set_option maxHeartbeats 1000000 in
theorem said_g (s : ByteArray) (w : World) (h1 : Lib.hasPrefix s.data.toList [92, 110] = false) (h2 : Lib.hasPrefix s.data.toList [92, 116] = false) (h3 : longestL s.data.toList [[92, 92], [92, 34], [92, 39]] = []) (h4 : Lib.hasPrefix s.data.toList [92, 120] = false) (g5 : 0 < s.size) (h5 : s[0].toNat ≠ 92) (h7 : plainB s[0] = true) :
    Calls Tryd.prog 49 #[.string s] w fun e w' => e = .returned (.tuple #[.int .u8 s[0].toNat, .int .i64 1]) ∧ Below w.heap.size w w' := by
  have Q1 := Lib.hid (pref_is s [92, 110] _ h1)
  have Q2 := Lib.hid (pref_is s [92, 116] _ h2)
  have Q3 := Lib.hid (esc_is s _ h3)
  have Q4 := Lib.hid (pref_is s [92, 120] _ h4)
  have hE := bs_nil
  have g4 : (0 : Int) < s.size := by omega
  have h6 : ((s[0].toNat : Int) == 92) = false := by simp; omega
  have Q5 := plain_any s[0]
  rw [h7] at Q5
  have Q5 := Lib.hid Q5
  clear h5 h7
  clear h1 h2 h3 h4
  go_enter Tryd.func49, Tryd.ntmps49
  go_wp2_with (first | (go_at_call 43; first | ((with_reducible refine (Q1.out _).mono ?_); rintro e w' ⟨rfl, rfl⟩) | ((with_reducible refine (Q2.out _).mono ?_); rintro e w' ⟨rfl, rfl⟩) | ((with_reducible refine (Q4.out _).mono ?_); rintro e w' ⟨rfl, rfl⟩)) | (go_at_call 45; (refine (Q3.out _).mono ?_); rintro e w' ⟨rfl, rfl⟩) | (go_at_call 30; (refine (Q5.out _).mono ?_); rintro e w' ⟨rfl, rfl⟩))
  go_ret2
  exact ⟨rfl, (Below.refl _ w).alloc (Nat.le_refl _) _⟩

/-- What is found is one of the signs, and stands first. -/
theorem fold_mem (s : Bs) : ∀ (ts : List Bs) (b : Bs), b = [] ∨ b.isPrefixOf s = true → ts.foldl (stepL s) b = b ∨ (ts.foldl (stepL s) b ∈ ts ∧ (ts.foldl (stepL s) b).isPrefixOf s = true)
  | [], b, _ => .inl rfl
  | t :: r, b, h => by
    rw [List.foldl_cons]
    by_cases hc : (decide (b.length < t.length) && t.isPrefixOf s) = true
    · have e : stepL s b t = t := by unfold stepL; rw [if_pos hc]
      rw [Bool.and_eq_true] at hc
      rw [e]
      rcases fold_mem s r t (.inr hc.2) with h1 | ⟨h1, h2⟩
      · right; rw [h1]; exact ⟨by simp, hc.2⟩
      · right; exact ⟨by simp [h1], h2⟩
    · have e : stepL s b t = b := by unfold stepL; rw [if_neg hc]
      rw [e]
      rcases fold_mem s r b h with h1 | ⟨h1, h2⟩
      · left; exact h1
      · right; exact ⟨by simp [h1], h2⟩
theorem longestL_mem (s : Bs) (ts : List Bs) : longestL s ts = [] ∨ (longestL s ts ∈ ts ∧ (longestL s ts).isPrefixOf s = true) := fold_mem s ts [] (.inl rfl)
theorem prefix_len {p s : Bs} (h : p.isPrefixOf s = true) : p.length ≤ s.length := (List.isPrefixOf_iff_prefix.1 h).length_le
theorem getD_at (s : ByteArray) (k : Nat) (h : k < s.size) : s.data.toList.getD k 0 = s[k] := by
  rw [List.getD_eq_getElem?_getD, get_toList s k h]; rfl

/-- For each text that is not empty. -/
theorem said_any (s : ByteArray) (w : World) (hs : s.size ≤ maxLen) (h0 : 0 < s.size) :
    Calls Tryd.prog 49 #[.string s] w fun e w' => e = .returned (.tuple #[.int .u8 (saidL s.data.toList).1.toNat, .int .i64 (saidL s.data.toList).2]) ∧ Below w.heap.size w w' := by
  cases h1 : Lib.hasPrefix s.data.toList [92, 110] with
  | true =>
    have e : saidL s.data.toList = (10, 2) := by unfold saidL; exact if_pos h1
    rw [e]
    exact said_a s w h1
  | false =>
    cases h2 : Lib.hasPrefix s.data.toList [92, 116] with
    | true =>
      have e : saidL s.data.toList = (9, 2) := by unfold saidL; rw [if_neg (by unfold Lib.hasPrefix at h1; simp [h1])]; exact if_pos h2
      rw [e]
      exact said_b s w h1 h2
    | false =>
      have n1 : ¬ ([92, 110] : Bs).isPrefixOf s.data.toList = true := by unfold Lib.hasPrefix at h1; simp [h1]
      have n2 : ¬ ([92, 116] : Bs).isPrefixOf s.data.toList = true := by unfold Lib.hasPrefix at h2; simp [h2]
      cases h3 : longestL s.data.toList [[92, 92], [92, 34], [92, 39]] with
      | cons c r =>
        have hz : 1 < s.size := by
          rcases longestL_mem s.data.toList [[92, 92], [92, 34], [92, 39]] with h | ⟨h, h'⟩
          · rw [h3] at h; cases h
          · have hl := prefix_len h'
            rw [len_toList] at hl
            have : (longestL s.data.toList [[92, 92], [92, 34], [92, 39]]).length = 2 := by
              rcases List.mem_cons.1 h with h | h
              · rw [h]; rfl
              · rcases List.mem_cons.1 h with h | h
                · rw [h]; rfl
                · rw [List.mem_singleton.1 h]; rfl
            omega
        have e : saidL s.data.toList = (s[1], 2) := by
          unfold saidL
          rw [if_neg n1, if_neg n2, h3, getD_at s 1 hz]
          exact if_pos rfl
        rw [e]
        exact said_c s w h1 h2 c r h3 hz
      | nil =>
        cases h4 : Lib.hasPrefix s.data.toList [92, 120] with
        | true =>
          have e : saidL s.data.toList = hexL s.data.toList := by
            unfold saidL
            rw [if_neg n1, if_neg n2, h3, if_neg (by simp)]
            exact if_pos h4
          rw [e]
          exact said_d s w hs h1 h2 h3 h4
        | false =>
          have n4 : ¬ ([92, 120] : Bs).isPrefixOf s.data.toList = true := by unfold Lib.hasPrefix at h4; simp [h4]
          by_cases h5 : s[0].toNat = 92
          · have e : saidL s.data.toList = (0, 0) := by
              unfold saidL
              rw [if_neg n1, if_neg n2, h3, if_neg (by simp), if_neg n4, getD_at s 0 h0, if_pos (by simp [← UInt8.toNat_inj, h5])]
            rw [e]
            exact said_e s w h1 h2 h3 h4 h0 h5
          · cases h7 : plainB s[0] with
            | false =>
              have e : saidL s.data.toList = (0, 0) := by
                unfold saidL
                rw [if_neg n1, if_neg n2, h3, if_neg (by simp), if_neg n4, getD_at s 0 h0, if_pos (by simp [h7])]
              rw [e]
              exact said_f s w h1 h2 h3 h4 h0 h5 h7
            | true =>
              have e : saidL s.data.toList = (s[0], 1) := by
                unfold saidL
                rw [if_neg n1, if_neg n2, h3, if_neg (by simp), if_neg n4, getD_at s 0 h0, if_neg (by simp [h7, ← UInt8.toNat_inj, h5])]
              rw [e]
              exact said_g s w h1 h2 h3 h4 h0 h5 h7
end Go.Proofs.YtfjfbpmlohgghaaDoor
