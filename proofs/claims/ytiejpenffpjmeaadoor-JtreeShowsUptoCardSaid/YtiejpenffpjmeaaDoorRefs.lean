/- gumshoeref02: letter, digit, words, IsWord, IsName, Quote. -/
import Derived.Test.YtiejpenffpjmeaaDoorName
import Derived.Test.YtiejpenffpjmeaaDoorQuote
namespace Go.Proofs.YtiejpenffpjmeaaDoor
open Go.RowKit Go.Proofs

/-- The words, in a row. -/
def wordRow : Bs := [98, 114, 101, 97, 107, 32, 99, 97, 115, 101, 32, 99, 97, 116, 99, 104, 32, 99, 111, 110, 116, 105, 110, 117, 101, 32, 100, 101, 98, 117, 103, 103, 101, 114, 32, 100, 101, 102, 97, 117, 108, 116, 32, 100, 101, 108] ++ [101, 116, 101, 32, 100, 111, 32, 101, 108, 115, 101, 32, 102, 105, 110, 97, 108, 108, 121, 32, 102, 111, 114, 32, 102, 117, 110, 99, 116, 105, 111, 110, 32, 105, 102, 32, 105, 110, 32, 105, 110, 115, 116, 97, 110, 99, 101] ++ ([111, 102, 32, 110, 101, 119, 32, 114, 101, 116, 117, 114, 110, 32, 115, 119, 105, 116, 99, 104, 32, 116, 104, 105, 115, 32, 116, 104, 114, 111, 119, 32, 116, 114, 121, 32, 116, 121, 112, 101, 111, 102, 32, 118, 97, 114, 32] ++ [118, 111, 105, 100, 32, 119, 104, 105, 108, 101, 32, 119, 105, 116, 104, 32, 110, 117, 108, 108, 32, 116, 114, 117, 101, 32, 102, 97, 108, 115, 101, 32, 117, 110, 100, 101, 102, 105, 110, 101, 100, 32, 105, 110, 112, 117, 116])
/-- Where the word begins that the k-th byte ends or goes on. -/
def fromW : Nat → Nat
  | 0 => 0
  | k + 1 => if k < wordRow.length ∧ wordRow.getD k 0 ≠ 32 then fromW k else k + 1
/-- The words that end ahead of the k-th byte. -/
def piecesW : Nat → List Bs
  | 0 => []
  | k + 1 => if k < wordRow.length ∧ wordRow.getD k 0 ≠ 32 then piecesW k else piecesW k ++ [(wordRow.take k).drop (fromW k)]
theorem piecesW_all : piecesW (wordRow.length + 1) = wordsL := by kernel_rfl
theorem fromW_le : ∀ k, fromW k ≤ k
  | 0 => Nat.le_refl _
  | k + 1 => by
    have := fromW_le k
    unfold fromW
    split <;> omega
theorem piecesW_mono : ∀ (k j : Nat) (x : Bs), x ∈ piecesW k → x ∈ piecesW (k + j)
  | k, 0, x, h => h
  | k, j + 1, x, h => by
    have := piecesW_mono k j x h
    show x ∈ piecesW (k + j + 1)
    unfold piecesW
    split
    · exact this
    · exact List.mem_append_left _ this

set_option maxRecDepth 100000 in
theorem rwords_any (w : World) : Calls Tryd.prog 65 #[] w fun e w' => e = .returned (.string (bs wordRow)) ∧ w = w' := by
  go_enter Tryd.func65, Tryd.ntmps65
  go_wp2
  go_ret
  exact ⟨by kernel_rfl, rfl⟩

theorem fromW_on {k : Nat} (h : k < wordRow.length) (h2 : wordRow.getD k 0 ≠ 32) : fromW (k + 1) = fromW k ∧ piecesW (k + 1) = piecesW k := by
  constructor
  · show (if _ then _ else _) = _
    rw [if_pos ⟨h, h2⟩]
  · show (if _ then _ else _) = _
    rw [if_pos ⟨h, h2⟩]
theorem fromW_cut {k : Nat} (h : ¬ (k < wordRow.length ∧ wordRow.getD k 0 ≠ 32)) : fromW (k + 1) = k + 1 ∧ piecesW (k + 1) = piecesW k ++ [(wordRow.take k).drop (fromW k)] := by
  constructor
  · show (if _ then _ else _) = _
    rw [if_neg h]
  · show (if _ then _ else _) = _
    rw [if_neg h]

set_option maxRecDepth 100000 in
set_option maxHeartbeats 2000000 in
theorem risWord_any (s : ByteArray) (w : World) : Calls Tryd.prog 40 #[.string s] w fun e w' => e = .returned (.bool (isWordL s.data.toList)) ∧ w = w' := by
  obtain ⟨Wd, hWd⟩ : ∃ x, bs wordRow = x := ⟨_, rfl⟩
  obtain ⟨L, hL⟩ : ∃ x, wordRow.length = x := ⟨_, rfl⟩
  have hLn : L ≤ 1000 := by rw [← hL]; exact of_decide_eq_true (by kernel_rfl)
  have hz : Wd.size = L := by rw [← hWd, bs_size, hL]
  have hlist : Wd.data.toList = wordRow := by rw [← hWd, bs_list]
  have hall := piecesW_all
  rw [hL] at hall
  have HA := Lib.hid hall
  have HL := Lib.hid hL
  have HLi := Lib.hid hlist
  have HWd := Lib.hid (fun w => by have := rwords_any w; rwa [hWd] at this : ∀ w, Calls Tryd.prog 65 #[] w fun e w' => e = .returned (.string Wd) ∧ w = w')
  clear hall hL hlist hWd
  go_enter Tryd.func40, Tryd.ntmps40
  go_wp2_with (go_at_call 65; refine (HWd.out _).mono ?_; rintro e w' ⟨rfl, rfl⟩)
  go_loopw [4, 5] (fun a i wr => ∃ k : Nat, k ≤ L + 1 ∧ i = .int .i64 k ∧ a = .int .i64 (fromW k) ∧ s.data.toList ∉ piecesW k ∧ wr = w) (fun _ i _ => L + 1 - (intOf i).toNat)
  case atStart => exact ⟨0, Nat.zero_le _, rfl, rfl, by simp [piecesW], rfl⟩
  case round =>
    obtain ⟨k, hk, rfl, rfl, hno, rfl⟩ := hrel
    have HNo := Lib.hid hno
    have hfr := fromW_le k
    clear hno
    by_cases hlt : k < L + 1
    · have g0 : (k : Int) ≤ Wd.size := by omega
      by_cases hc : k < wordRow.length ∧ wordRow.getD k 0 ≠ 32
      · obtain ⟨e1, e2⟩ := fromW_on hc.1 hc.2
        have hk2 : k < Wd.size := by have := hc.1; rw [HL.out] at this; omega
        have g1 : (k : Int) < Wd.size := by omega
        have h32 : Wd[k] ≠ 32 := by
          intro e
          apply hc.2
          rw [← HLi.out]
          have := get_toList Wd k hk2
          rw [e] at this
          simp [List.getD, this]
        have d : ((Wd[k].toNat : Int) != 32) = true := by
          rw [bne_iff_ne]
          intro e
          apply h32
          rw [← UInt8.toNat_inj]
          have e2 : Wd[k].toNat = 32 := by omega
          exact e2
        have HE1 := Lib.hid e1
        have HE2 := Lib.hid e2
        clear hc h32 e1 e2
        go_wp2
        go_roundw
        case rel => exact ⟨k + 1, by omega, by go_num, by rw [HE1.out], by rw [HE2.out]; exact HNo.out, trivial⟩
        case measure => simp [intOf]; omega
      · obtain ⟨e1, e2⟩ := fromW_cut hc
        have HE1 := Lib.hid e1
        have HE2 := Lib.hid e2
        have hsl : (Wd.extract (fromW k) k).data.toList = (wordRow.take k).drop (fromW k) := by
          rw [← Lib.toList_data, Lib.extract_toList, HLi.out, List.drop_take]
        obtain ⟨a, ha⟩ : ∃ a, fromW k = a := ⟨_, rfl⟩
        rw [ha] at hsl hfr ⊢
        have g2 : (a : Int) ≤ k := by omega
        by_cases heq : (Wd.extract a k).data.toList = s.data.toList
        · have d2 : ((Wd.extract a k).toList == s.toList) = true := by rw [Lib.toList_data, Lib.toList_data, heq]; simp
          have HT := Lib.hid (show isWordL s.data.toList = true by
            unfold isWordL
            rw [← HA.out]
            have h1 : s.data.toList ∈ piecesW (k + 1) := by
              rw [HE2.out, ha, ← hsl, heq]
              simp
            have h2 := piecesW_mono (k + 1) (L - k) _ h1
            rw [show k + 1 + (L - k) = L + 1 by omega] at h2
            simpa using h2)
          by_cases hk2 : k < Wd.size
          · have g1 : (k : Int) < Wd.size := by omega
            have h32 : Wd[k] = 32 := by
              by_cases h : Wd[k] = 32
              · exact h
              · exfalso
                apply hc
                refine ⟨by rw [HL.out]; omega, ?_⟩
                rw [← HLi.out]
                have := get_toList Wd k hk2
                simp [List.getD, this, h]
            have d : ((Wd[k].toNat : Int) != 32) = false := by rw [h32]; rfl
            clear hc hsl heq e1 e2
            go_wp2
            go_ret
            exact ⟨ret_b HT.out.symm, rfl⟩
          · have g1 : ¬ (k : Int) < Wd.size := by omega
            clear hc hsl heq e1 e2
            go_wp2
            go_ret
            exact ⟨ret_b HT.out.symm, rfl⟩
        · have d2 : ((Wd.extract a k).toList == s.toList) = false := by
            rw [Lib.toList_data, Lib.toList_data, beq_eq_false_iff_ne]
            exact heq
          have HT := Lib.hid (show s.data.toList ∉ piecesW (k + 1) by
            rw [HE2.out, ha, ← hsl]
            intro h
            rcases List.mem_append.1 h with h | h
            · exact HNo.out h
            · exact heq (List.mem_singleton.1 h).symm)
          by_cases hk2 : k < Wd.size
          · have g1 : (k : Int) < Wd.size := by omega
            have h32 : Wd[k] = 32 := by
              by_cases h : Wd[k] = 32
              · exact h
              · exfalso
                apply hc
                refine ⟨by rw [HL.out]; omega, ?_⟩
                rw [← HLi.out]
                have := get_toList Wd k hk2
                simp [List.getD, this, h]
            have d : ((Wd[k].toNat : Int) != 32) = false := by rw [h32]; rfl
            clear hc hsl heq e1 e2
            go_wp2
            go_roundw
            case rel => exact ⟨k + 1, by omega, by go_num, by rw [HE1.out]; go_num, HT.out, trivial⟩
            case measure => simp [intOf]; omega
          · have g1 : ¬ (k : Int) < Wd.size := by omega
            clear hc hsl heq e1 e2
            go_wp2
            go_roundw
            case rel => exact ⟨k + 1, by omega, by go_num, by rw [HE1.out]; go_num, HT.out, trivial⟩
            case measure => simp [intOf]; omega
    · obtain rfl : k = L + 1 := by omega
      have g0 : ¬ ((L + 1 : Nat) : Int) ≤ Wd.size := by omega
      have g0' : ¬ (L : Int) + 1 ≤ Wd.size := by omega
      have HT := Lib.hid (show isWordL s.data.toList = false by
        unfold isWordL
        rw [← HA.out]
        simpa using HNo.out)
      go_wp2
      go_ret
      exact ⟨ret_b HT.out.symm, rfl⟩

theorem not_name {c : UInt8} {r : Bs} (h : letterB c = false) : isNameL (c :: r) = false := by
  show (letterB c && _) = false
  rw [h]
  rfl
theorem name_part {c : UInt8} {r : Bs} {x : UInt8} (hx : x ∈ r) (h : nameB x = false) : isNameL (c :: r) = false := by
  show (letterB c && (r.all nameB && _)) = false
  have : r.all nameB = false := by
    rw [← Bool.not_eq_true]
    intro e
    have := List.all_eq_true.1 e x hx
    rw [h] at this
    cases this
  rw [this]
  simp
theorem name_end_ {c : UInt8} {r : Bs} (h : letterB c = true) (h2 : ∀ x ∈ r, nameB x = true) : isNameL (c :: r) = !isWordL (c :: r) := by
  show (letterB c && (r.all nameB && !isWordL (c :: r))) = _
  rw [h, List.all_eq_true.2 h2]
  rfl

set_option maxRecDepth 100000 in
set_option maxHeartbeats 2000000 in
theorem risName_any (s : ByteArray) (w : World) (hs : s.size ≤ maxLen) : Calls Tryd.prog 39 #[.string s] w fun e w' => e = .returned (.bool (isNameL s.data.toList)) ∧ w = w' := by
  have HW := Lib.hid (fun w => risWord_any s w)
  unfold maxLen at hs
  by_cases h0 : s.size = 0
  · have hl : s.data.toList = [] := List.eq_nil_of_length_eq_zero (by rw [len_toList]; exact h0)
    have hN := Lib.hid (show isNameL s.data.toList = false by rw [hl]; rfl)
    have he : (s.toList == []) = true := by rw [Lib.toList_data, hl]; rfl
    clear hl
    go_enter Tryd.func39, Tryd.ntmps39
    go_wp2
    go_ret
    exact ⟨ret_b hN.out.symm, rfl⟩
  · have h1 : 0 < s.size := by omega
    have g1 : (0 : Int) < s.size := by omega
    have hl : s.data.toList = s[0] :: s.data.toList.drop 1 := by
      have := drop_toList s 0 h1
      simpa using this
    have he : (s.toList == []) = false := by rw [Lib.toList_data, hl]; rfl
    have HL := Lib.hid (rletter_any s[0])
    have Hl := Lib.hid hl
    clear hl
    cases hc : letterB s[0] with
    | false =>
      have hN := Lib.hid (show isNameL s.data.toList = false by rw [Hl.out]; exact not_name hc)
      rw [hc] at HL
      clear hc
      go_enter Tryd.func39, Tryd.ntmps39
      go_wp2_with (go_at_call 63; refine (HL.out _).mono ?_; rintro e w' ⟨rfl, rfl⟩)
      go_ret
      exact ⟨ret_b hN.out.symm, rfl⟩
    | true =>
      rw [hc] at HL
      have HC := Lib.hid hc
      clear hc
      go_enter Tryd.func39, Tryd.ntmps39
      go_wp2_with (go_at_call 63; refine (HL.out _).mono ?_; rintro e w' ⟨rfl, rfl⟩)
      go_loopw [3] (fun i wr => ∃ k : Nat, k + 1 ≤ s.size ∧ i = .int .i64 ((k + 1 : Nat) : Int) ∧ (∀ x ∈ (s.data.toList.drop 1).take k, nameB x = true) ∧ wr = w) (fun i _ => s.size - (intOf i).toNat)
      case atStart => exact ⟨0, h1, rfl, by simp, rfl⟩
      case round =>
        obtain ⟨k, hk, rfl, hall, rfl⟩ := hrel
        have HA := Lib.hid hall
        clear hall
        by_cases hlt : k + 1 < s.size
        · have g2 : (k : Int) + 1 < s.size := by omega
          have hnext : (s.data.toList.drop 1).take (k + 1) = (s.data.toList.drop 1).take k ++ [s[k + 1]] := by
            rw [List.take_add_one, List.getElem?_drop, show 1 + k = k + 1 by omega, get_toList s (k + 1) hlt]
            rfl
          have hmem : s[k + 1] ∈ s.data.toList.drop 1 := by
            have : s[k + 1] ∈ (s.data.toList.drop 1).take (k + 1) := by rw [hnext]; simp
            exact List.mem_of_mem_take this
          obtain ⟨x, hx⟩ : ∃ x, s[k + 1] = x := ⟨_, rfl⟩
          have HX := Lib.hid hnext
          have HM := Lib.hid hmem
          rw [hx] at HX HM
          have HL2 := Lib.hid (rletter_any x)
          have HD2 := Lib.hid (rdigit_any x)
          clear hnext hmem
          cases ha : letterB x with
          | true =>
            have HP := Lib.hid (show nameB x = true from nameB_letter ha)
            rw [ha] at HL2
            clear ha
            go_wp2_with (go_at_call 63; refine (HL2.out _).mono ?_; rintro e w' ⟨rfl, rfl⟩)
            go_roundw
            case rel => exact ⟨k + 1, by omega, by go_num, fun y hy => by
              rw [HX.out] at hy
              rcases List.mem_append.1 hy with h | h
              · exact HA.out y h
              · rw [List.mem_singleton.1 h]; exact HP.out, trivial⟩
            case measure => simp [intOf]; omega
          | false =>
            cases hb : digitB x with
            | true =>
              have HP := Lib.hid (show nameB x = true by unfold nameB; rw [hb]; simp)
              rw [ha] at HL2
              rw [hb] at HD2
              clear ha hb
              go_wp2_with (first | (go_at_call 63; refine (HL2.out _).mono ?_; rintro e w' ⟨rfl, rfl⟩) | (go_at_call 64; refine (HD2.out _).mono ?_; rintro e w' ⟨rfl, rfl⟩))
              go_roundw
              case rel => exact ⟨k + 1, by omega, by go_num, fun y hy => by
                rw [HX.out] at hy
                rcases List.mem_append.1 hy with h | h
                · exact HA.out y h
                · rw [List.mem_singleton.1 h]; exact HP.out, trivial⟩
              case measure => simp [intOf]; omega
            | false =>
              have hN := Lib.hid (show isNameL s.data.toList = false by
                rw [Hl.out]
                exact name_part HM.out (by unfold nameB; rw [ha, hb]; rfl))
              rw [ha] at HL2
              rw [hb] at HD2
              clear ha hb
              go_wp2_with (first | (go_at_call 63; refine (HL2.out _).mono ?_; rintro e w' ⟨rfl, rfl⟩) | (go_at_call 64; refine (HD2.out _).mono ?_; rintro e w' ⟨rfl, rfl⟩))
              go_ret
              exact ⟨ret_b hN.out.symm, rfl⟩
        · obtain hke : k + 1 = s.size := by omega
          have g2 : ¬ (k : Int) + 1 < s.size := by omega
          have hN := Lib.hid (show isNameL s.data.toList = !isWordL s.data.toList by
            rw [Hl.out]
            refine name_end_ HC.out (fun x hx => HA.out x ?_)
            rw [List.take_of_length_le (by rw [List.length_drop, len_toList]; omega)]
            exact hx)
          go_wp2_with (go_at_call 40; refine (HW.out _).mono ?_; rintro e w' ⟨rfl, rfl⟩)
          go_ret
          exact ⟨ret_b hN.out.symm, rfl⟩
end Go.Proofs.YtiejpenffpjmeaaDoor
