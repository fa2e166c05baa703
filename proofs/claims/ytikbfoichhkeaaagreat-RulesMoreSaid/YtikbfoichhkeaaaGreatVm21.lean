/- gumshoeref02: letter, digit, words, IsWord, IsName, Quote. The document's tokens: run, half, escape, sign. The document's tokens: number. -/
import Derived.Test.YtikbfoichhkeaaaGreatProg
import Derived.Test.YtikbfoichhkeaaaGreatVm01
set_option linter.unusedSimpArgs false
set_option linter.unusedVariables false
set_option maxRecDepth 100000
set_option maxHeartbeats 40000000
namespace Go.Proofs.YtikbfoichhkeaaaGreat
section
open Go.RowKit Go.Proofs
def wordRow : Bs := [98, 114, 101, 97, 107, 32, 99, 97, 115, 101, 32, 99, 97, 116, 99, 104, 32, 99, 111, 110, 116, 105, 110, 117, 101, 32, 100, 101, 98, 117, 103, 103, 101, 114, 32, 100, 101, 102, 97, 117, 108, 116, 32, 100, 101, 108] ++ [101, 116, 101, 32, 100, 111, 32, 101, 108, 115, 101, 32, 102, 105, 110, 97, 108, 108, 121, 32, 102, 111, 114, 32, 102, 117, 110, 99, 116, 105, 111, 110, 32, 105, 102, 32, 105, 110, 32, 105, 110, 115, 116, 97, 110, 99, 101] ++ ([111, 102, 32, 110, 101, 119, 32, 114, 101, 116, 117, 114, 110, 32, 115, 119, 105, 116, 99, 104, 32, 116, 104, 105, 115, 32, 116, 104, 114, 111, 119, 32, 116, 114, 121, 32, 116, 121, 112, 101, 111, 102, 32, 118, 97, 114, 32] ++ [118, 111, 105, 100, 32, 119, 104, 105, 108, 101, 32, 119, 105, 116, 104, 32, 110, 117, 108, 108, 32, 116, 114, 117, 101, 32, 102, 97, 108, 115, 101, 32, 117, 110, 100, 101, 102, 105, 110, 101, 100, 32, 105, 110, 112, 117, 116])
def fromW : Nat → Nat
 | 0 => 0
 | k + 1 => if k < wordRow.length ∧ wordRow.getD k 0 ≠ 32 then fromW k else k + 1
def piecesW : Nat → List Bs
 | 0 => []
 | k + 1 => if k < wordRow.length ∧ wordRow.getD k 0 ≠ 32 then piecesW k else piecesW k ++ [(wordRow.take k).drop (fromW k)]
theorem piecesW_all : piecesW (wordRow.length + 1) = wordsL := by kernel_rfl
theorem fromW_le : ∀ k, fromW k ≤ k
 | 0 => Nat.le_refl _
 | k + 1 => by
  have := fromW_le k
  unfold fromW
  split <;> omega
theorem piecesW_mono : ∀ (k j : Nat) (x : Bs), x ∈ piecesW k → x ∈ piecesW (k + j)
 | k, 0, x, h => h
 | k, j + 1, x, h => by
  have := piecesW_mono k j x h
  show x ∈ piecesW (k + j + 1)
  unfold piecesW
  split
  ·exact this
  ·exact List.mem_append_left _ this
theorem rwords_any (w : World) : Calls Tryz.prog 128 #[] w fun e w' => e = .returned (.string (bs wordRow)) ∧ w = w' := by
 go_enter Tryz.func128, Tryz.ntmps128
 go_wp2
 go_ret
 exact ⟨by kernel_rfl, rfl⟩
theorem fromW_on {k : Nat} (h : k < wordRow.length) (h2 : wordRow.getD k 0 ≠ 32) : fromW (k + 1) = fromW k ∧ piecesW (k + 1) = piecesW k := by
 constructor
 ·show (if _ then _ else _) = _
  rw [if_pos ⟨h, h2⟩]
 ·show (if _ then _ else _) = _
  rw [if_pos ⟨h, h2⟩]
theorem fromW_cut {k : Nat} (h : ¬ (k < wordRow.length ∧ wordRow.getD k 0 ≠ 32)) : fromW (k + 1) = k + 1 ∧ piecesW (k + 1) = piecesW k ++ [(wordRow.take k).drop (fromW k)] := by
 constructor
 ·show (if _ then _ else _) = _
  rw [if_neg h]
 ·show (if _ then _ else _) = _
  rw [if_neg h]
theorem risWord_any (s : ByteArray) (w : World) : Calls Tryz.prog 113 #[.string s] w fun e w' => e = .returned (.bool (isWordL s.data.toList)) ∧ w = w' := by
 obtain ⟨Wd, hWd⟩ : ∃ x, bs wordRow = x := ⟨_, rfl⟩
 obtain ⟨L, hL⟩ : ∃ x, wordRow.length = x := ⟨_, rfl⟩
 have hLn : L ≤ 1000 := by rw [← hL]; exact of_decide_eq_true (by kernel_rfl)
 have hz : Wd.size = L := by rw [← hWd, bs_size, hL]
 have hlist : Wd.data.toList = wordRow := by rw [← hWd, bs_list]
 have hall := piecesW_all
 rw [hL] at hall
 have HA := Lib.hid hall
 have HL := Lib.hid hL
 have HLi := Lib.hid hlist
 have HWd := Lib.hid (fun w => by have := rwords_any w; rwa [hWd] at this : ∀ w, Calls Tryz.prog 128 #[] w fun e w' => e = .returned (.string Wd) ∧ w = w')
 clear hall hL hlist hWd
 go_enter Tryz.func113, Tryz.ntmps113
 go_wp2_with (go_at_call 128; refine (HWd.out _).mono ?_; rintro e w' ⟨rfl, rfl⟩)
 go_loopw [4, 5] (fun a i wr => ∃ k : Nat, k ≤ L + 1 ∧ i = .int .i64 k ∧ a = .int .i64 (fromW k) ∧ s.data.toList ∉ piecesW k ∧ wr = w) (fun _ i _ => L + 1 - (intOf i).toNat)
 case atStart => exact ⟨0, Nat.zero_le _, rfl, rfl, by simp [piecesW], rfl⟩
 case round =>
  obtain ⟨k, hk, rfl, rfl, hno, rfl⟩ := hrel
  have HNo := Lib.hid hno
  have hfr := fromW_le k
  clear hno
  by_cases hlt : k < L + 1
  ·have g0 : (k : Int) ≤ Wd.size := by omega
   by_cases hc : k < wordRow.length ∧ wordRow.getD k 0 ≠ 32
   ·obtain ⟨e1, e2⟩ := fromW_on hc.1 hc.2
    have hk2 : k < Wd.size := by have := hc.1; rw [HL.out] at this; omega
    have g1 : (k : Int) < Wd.size := by omega
    have h32 : Wd[k] ≠ 32 := by
     intro e
     apply hc.2
     rw [← HLi.out]
     have := get_toList Wd k hk2
     rw [e] at this
     simp [List.getD, this]
    have d : ((Wd[k].toNat : Int) != 32) = true := by
     rw [bne_iff_ne]
     intro e
     apply h32
     rw [← UInt8.toNat_inj]
     have e2 : Wd[k].toNat = 32 := by omega
     exact e2
    have HE1 := Lib.hid e1
    have HE2 := Lib.hid e2
    clear hc h32 e1 e2
    go_wp2
    go_roundw
    case rel => exact ⟨k + 1, by omega, by go_num, by rw [HE1.out], by rw [HE2.out]; exact HNo.out, trivial⟩
    case measure => simp [intOf]; omega
   ·obtain ⟨e1, e2⟩ := fromW_cut hc
    have HE1 := Lib.hid e1
    have HE2 := Lib.hid e2
    have hsl : (Wd.extract (fromW k) k).data.toList = (wordRow.take k).drop (fromW k) := by
     rw [← Lib.toList_data, Lib.extract_toList, HLi.out, List.drop_take]
    obtain ⟨a, ha⟩ : ∃ a, fromW k = a := ⟨_, rfl⟩
    rw [ha] at hsl hfr ⊢
    have g2 : (a : Int) ≤ k := by omega
    by_cases heq : (Wd.extract a k).data.toList = s.data.toList
    ·have d2 : ((Wd.extract a k).toList == s.toList) = true := by rw [Lib.toList_data, Lib.toList_data, heq]; simp
     have HT := Lib.hid (show isWordL s.data.toList = true by
      unfold isWordL
      rw [← HA.out]
      have h1 : s.data.toList ∈ piecesW (k + 1) := by
       rw [HE2.out, ha, ← hsl, heq]
       simp
      have h2 := piecesW_mono (k + 1) (L - k) _ h1
      rw [show k + 1 + (L - k) = L + 1 by omega] at h2
      simpa using h2)
     by_cases hk2 : k < Wd.size
     ·have g1 : (k : Int) < Wd.size := by omega
      have h32 : Wd[k] = 32 := by
       by_cases h : Wd[k] = 32
       ·exact h
       ·exfalso
        apply hc
        refine ⟨by rw [HL.out]; omega, ?_⟩
        rw [← HLi.out]
        have := get_toList Wd k hk2
        simp [List.getD, this, h]
      have d : ((Wd[k].toNat : Int) != 32) = false := by rw [h32]; rfl
      clear hc hsl heq e1 e2
      go_wp2
      go_ret
      exact ⟨ret_b HT.out.symm, rfl⟩
     ·have g1 : ¬ (k : Int) < Wd.size := by omega
      clear hc hsl heq e1 e2
      go_wp2
      go_ret
      exact ⟨ret_b HT.out.symm, rfl⟩
    ·have d2 : ((Wd.extract a k).toList == s.toList) = false := by
      rw [Lib.toList_data, Lib.toList_data, beq_eq_false_iff_ne]
      exact heq
     have HT := Lib.hid (show s.data.toList ∉ piecesW (k + 1) by
      rw [HE2.out, ha, ← hsl]
      intro h
      rcases List.mem_append.1 h with h | h
      ·exact HNo.out h
      ·exact heq (List.mem_singleton.1 h).symm)
     by_cases hk2 : k < Wd.size
     ·have g1 : (k : Int) < Wd.size := by omega
      have h32 : Wd[k] = 32 := by
       by_cases h : Wd[k] = 32
       ·exact h
       ·exfalso
        apply hc
        refine ⟨by rw [HL.out]; omega, ?_⟩
        rw [← HLi.out]
        have := get_toList Wd k hk2
        simp [List.getD, this, h]
      have d : ((Wd[k].toNat : Int) != 32) = false := by rw [h32]; rfl
      clear hc hsl heq e1 e2
      go_wp2
      go_roundw
      case rel => exact ⟨k + 1, by omega, by go_num, by rw [HE1.out]; go_num, HT.out, trivial⟩
      case measure => simp [intOf]; omega
     ·have g1 : ¬ (k : Int) < Wd.size := by omega
      clear hc hsl heq e1 e2
      go_wp2
      go_roundw
      case rel => exact ⟨k + 1, by omega, by go_num, by rw [HE1.out]; go_num, HT.out, trivial⟩
      case measure => simp [intOf]; omega
  ·obtain rfl : k = L + 1 := by omega
   have g0 : ¬ ((L + 1 : Nat) : Int) ≤ Wd.size := by omega
   have g0' : ¬ (L : Int) + 1 ≤ Wd.size := by omega
   have HT := Lib.hid (show isWordL s.data.toList = false by
    unfold isWordL
    rw [← HA.out]
    simpa using HNo.out)
   go_wp2
   go_ret
   exact ⟨ret_b HT.out.symm, rfl⟩
theorem not_name {c : UInt8} {r : Bs} (h : letterB c = false) : isNameL (c :: r) = false := by
 show (letterB c && _) = false
 rw [h]
 rfl
theorem name_part {c : UInt8} {r : Bs} {x : UInt8} (hx : x ∈ r) (h : nameB x = false) : isNameL (c :: r) = false := by
 show (letterB c && (r.all nameB && _)) = false
 have : r.all nameB = false := by
  rw [← Bool.not_eq_true]
  intro e
  have := List.all_eq_true.1 e x hx
  rw [h] at this
  cases this
 rw [this]
 simp
theorem name_end_ {c : UInt8} {r : Bs} (h : letterB c = true) (h2 : ∀ x ∈ r, nameB x = true) : isNameL (c :: r) = !isWordL (c :: r) := by
 show (letterB c && (r.all nameB && !isWordL (c :: r))) = _
 rw [h, List.all_eq_true.2 h2]
 rfl
theorem risName_any (s : ByteArray) (w : World) (hs : s.size ≤ maxLen) : Calls Tryz.prog 85 #[.string s] w fun e w' => e = .returned (.bool (isNameL s.data.toList)) ∧ w = w' := by
 have HW := Lib.hid (fun w => risWord_any s w)
 unfold maxLen at hs
 by_cases h0 : s.size = 0
 ·have hl : s.data.toList = [] := List.eq_nil_of_length_eq_zero (by rw [len_toList]; exact h0)
  have hN := Lib.hid (show isNameL s.data.toList = false by rw [hl]; rfl)
  have he : (s.toList == []) = true := by rw [Lib.toList_data, hl]; rfl
  clear hl
  go_enter Tryz.func85, Tryz.ntmps85
  go_wp2
  go_ret
  exact ⟨ret_b hN.out.symm, rfl⟩
 ·have h1 : 0 < s.size := by omega
  have g1 : (0 : Int) < s.size := by omega
  have hl : s.data.toList = s[0] :: s.data.toList.drop 1 := by
   have := drop_toList s 0 h1
   simpa using this
  have he : (s.toList == []) = false := by rw [Lib.toList_data, hl]; rfl
  have HL := Lib.hid (rletter_any s[0])
  have Hl := Lib.hid hl
  clear hl
  cases hc : letterB s[0] with
  | false =>
   have hN := Lib.hid (show isNameL s.data.toList = false by rw [Hl.out]; exact not_name hc)
   rw [hc] at HL
   clear hc
   go_enter Tryz.func85, Tryz.ntmps85
   go_wp2_with (go_at_call 111; refine (HL.out _).mono ?_; rintro e w' ⟨rfl, rfl⟩)
   go_ret
   exact ⟨ret_b hN.out.symm, rfl⟩
  | true =>
   rw [hc] at HL
   have HC := Lib.hid hc
   clear hc
   go_enter Tryz.func85, Tryz.ntmps85
   go_wp2_with (go_at_call 111; refine (HL.out _).mono ?_; rintro e w' ⟨rfl, rfl⟩)
   go_loopw [3] (fun i wr => ∃ k : Nat, k + 1 ≤ s.size ∧ i = .int .i64 ((k + 1 : Nat) : Int) ∧ (∀ x ∈ (s.data.toList.drop 1).take k, nameB x = true) ∧ wr = w) (fun i _ => s.size - (intOf i).toNat)
   case atStart => exact ⟨0, h1, rfl, by simp, rfl⟩
   case round =>
    obtain ⟨k, hk, rfl, hall, rfl⟩ := hrel
    have HA := Lib.hid hall
    clear hall
    by_cases hlt : k + 1 < s.size
    ·have g2 : (k : Int) + 1 < s.size := by omega
     have hnext : (s.data.toList.drop 1).take (k + 1) = (s.data.toList.drop 1).take k ++ [s[k + 1]] := by
      rw [List.take_add_one, List.getElem?_drop, show 1 + k = k + 1 by omega, get_toList s (k + 1) hlt]
      rfl
     have hmem : s[k + 1] ∈ s.data.toList.drop 1 := by
      have : s[k + 1] ∈ (s.data.toList.drop 1).take (k + 1) := by rw [hnext]; simp
      exact List.mem_of_mem_take this
     obtain ⟨x, hx⟩ : ∃ x, s[k + 1] = x := ⟨_, rfl⟩
     have HX := Lib.hid hnext
     have HM := Lib.hid hmem
     rw [hx] at HX HM
     have HL2 := Lib.hid (rletter_any x)
     have HD2 := Lib.hid (rdigit_any x)
     clear hnext hmem
     cases ha : letterB x with
     | true =>
      have HP := Lib.hid (show nameB x = true from nameB_letter ha)
      rw [ha] at HL2
      clear ha
      go_wp2_with (go_at_call 111; refine (HL2.out _).mono ?_; rintro e w' ⟨rfl, rfl⟩)
      go_roundw
      case rel => exact ⟨k + 1, by omega, by go_num, fun y hy => by
       rw [HX.out] at hy
       rcases List.mem_append.1 hy with h | h
       ·exact HA.out y h
       ·rw [List.mem_singleton.1 h]; exact HP.out, trivial⟩
      case measure => simp [intOf]; omega
     | false =>
      cases hb : digitB x with
      | true =>
       have HP := Lib.hid (show nameB x = true by unfold nameB; rw [hb]; simp)
       rw [ha] at HL2
       rw [hb] at HD2
       clear ha hb
       go_wp2_with (first | (go_at_call 111; refine (HL2.out _).mono ?_; rintro e w' ⟨rfl, rfl⟩) | (go_at_call 112; refine (HD2.out _).mono ?_; rintro e w' ⟨rfl, rfl⟩))
       go_roundw
       case rel => exact ⟨k + 1, by omega, by go_num, fun y hy => by
        rw [HX.out] at hy
        rcases List.mem_append.1 hy with h | h
        ·exact HA.out y h
        ·rw [List.mem_singleton.1 h]; exact HP.out, trivial⟩
       case measure => simp [intOf]; omega
      | false =>
       have hN := Lib.hid (show isNameL s.data.toList = false by
        rw [Hl.out]
        exact name_part HM.out (by unfold nameB; rw [ha, hb]; rfl))
       rw [ha] at HL2
       rw [hb] at HD2
       clear ha hb
       go_wp2_with (first | (go_at_call 111; refine (HL2.out _).mono ?_; rintro e w' ⟨rfl, rfl⟩) | (go_at_call 112; refine (HD2.out _).mono ?_; rintro e w' ⟨rfl, rfl⟩))
       go_ret
       exact ⟨ret_b hN.out.symm, rfl⟩
    ·obtain hke : k + 1 = s.size := by omega
     have g2 : ¬ (k : Int) + 1 < s.size := by omega
     have hN := Lib.hid (show isNameL s.data.toList = !isWordL s.data.toList by
      rw [Hl.out]
      refine name_end_ HC.out (fun x hx => HA.out x ?_)
      rw [List.take_of_length_le (by rw [List.length_drop, len_toList]; omega)]
      exact hx)
     go_wp2_with (go_at_call 113; refine (HW.out _).mono ?_; rintro e w' ⟨rfl, rfl⟩)
     go_ret
     exact ⟨ret_b hN.out.symm, rfl⟩
end
section
open Go.RowKit Go.Proofs
def runP (all : Bool) (c : UInt8) : Bool := digitB c || (all && letterB c)
theorem runP_true : runP true = nameB := by funext c; unfold runP nameB; rw [Bool.true_and, Bool.or_comm]
theorem runP_false : runP false = digitB := by funext c; unfold runP; simp
theorem rrun_any (all : Bool) (s : ByteArray) (w : World) (hs : s.size ≤ maxLen) :
  Calls Tryz.prog 119 #[.string s, .bool all] w fun e w' => e = .returned (.int .i64 (runL (runP all) s.data.toList)) ∧ w = w' := by
 unfold maxLen at hs
 go_enter Tryz.func119, Tryz.ntmps119
 go_wp2
 go_loop [5] (fun i => ∃ k : Nat, k ≤ s.size ∧ i = .int .i64 k ∧ ∀ c ∈ s.data.toList.take k, runP all c = true) (fun i => s.size - (intOf i).toNat)
 case atStart => exact ⟨0, Nat.zero_le _, rfl, by simp⟩
 case round =>
  obtain ⟨k, hk, rfl, hall⟩ := hrel
  have HA := Lib.hid hall
  clear hall
  by_cases hlt : k < s.size
  ·have HN := rdigit_any s[k]
   have HL := rletter_any s[k]
   have hgo : ∀ h : runP all s[k] = true, ∀ c ∈ s.data.toList.take (k + 1), runP all c = true := fun h c hc => by
    rw [take_snoc s k hlt] at hc
    rcases List.mem_append.1 hc with h' | h'
    ·exact HA.out c h'
    ·obtain rfl : c = s[k] := by simpa using h'
     exact h
   have hst : ∀ h : runP all s[k] = false, (k : Int) = runL (runP all) s.data.toList := fun h => runL_at _ s k hlt HA.out h
   unfold runP at hgo hst
   cases hd : digitB s[k] with
   | true =>
    rw [hd] at HN hgo
    have HG := Lib.hid (hgo rfl)
    have HN := Lib.hid HN
    clear hd hgo hst HL
    go_wp2_with (go_at_call 112; refine (HN.out _).mono ?_; rintro e w' ⟨rfl, rfl⟩)
    go_round
    case rel => exact ⟨k + 1, by omega, by go_num, HG.out⟩
    case measure => simp [intOf]; omega
   | false =>
    rw [hd] at HN hgo hst
    have HN := Lib.hid HN
    cases all with
    | false =>
     have HS := Lib.hid (hst rfl)
     clear hd hgo hst HL
     go_wp2_with (go_at_call 112; refine (HN.out _).mono ?_; rintro e w' ⟨rfl, rfl⟩)
     go_ret
     exact ⟨ret_i HS.out, rfl⟩
    | true =>
     cases hl : letterB s[k] with
     | true =>
      rw [hl] at HL hgo
      have HG := Lib.hid (hgo rfl)
      have HL := Lib.hid HL
      clear hd hgo hst hl
      go_wp2_with (first | (go_at_call 112; refine (HN.out _).mono ?_; rintro e w' ⟨rfl, rfl⟩) | (go_at_call 111; refine (HL.out _).mono ?_; rintro e w' ⟨rfl, rfl⟩))
      go_round
      case rel => exact ⟨k + 1, by omega, by go_num, HG.out⟩
      case measure => simp [intOf]; omega
     | false =>
      rw [hl] at HL hst
      have HS := Lib.hid (hst rfl)
      have HL := Lib.hid HL
      clear hd hgo hst hl
      go_wp2_with (first | (go_at_call 112; refine (HN.out _).mono ?_; rintro e w' ⟨rfl, rfl⟩) | (go_at_call 111; refine (HL.out _).mono ?_; rintro e w' ⟨rfl, rfl⟩))
      go_ret
      exact ⟨ret_i HS.out, rfl⟩
  ·have HS := Lib.hid (show (k : Int) = runL (runP all) s.data.toList by have := runL_all (runP all) s k hk hlt HA.out; omega)
   go_wp2
   go_ret
   exact ⟨ret_i HS.out, rfl⟩
theorem half_any (c : UInt8) (w : World) : Calls Tryz.prog 144 #[.int .u8 c.toNat] w fun e w' => e = .returned (.int .i64 (halfM c)) ∧ w = w' := by
 have HN := rdigit_any c
 have hc : c.toNat < 256 := UInt8.toNat_lt c
 unfold halfM
 cases hd : digitB c with
 | true =>
  rw [hd] at HN
  have HN := Lib.hid HN
  have h2 := (digitB_iff c).1 hd
  rw [if_pos rfl]
  clear hd
  go_enter Tryz.func144, Tryz.ntmps144
  go_wp2_with (go_at_call 112; refine (HN.out _).mono ?_; rintro e w' ⟨rfl, rfl⟩)
  go_ret
  exact ⟨ret_i (by first | rfl | omega | (simp; omega)), rfl⟩
 | false =>
  rw [hd] at HN
  have HN := Lib.hid HN
  rw [if_neg (by decide)]
  clear hd
  by_cases h : 97 ≤ c.toNat ∧ c.toNat ≤ 102
  ·rw [if_pos h]
   obtain ⟨h1, h2⟩ := h
   go_enter Tryz.func144, Tryz.ntmps144
   go_wp2_with (go_at_call 112; refine (HN.out _).mono ?_; rintro e w' ⟨rfl, rfl⟩)
   go_ret
   exact ⟨ret_i (by first | rfl | omega | (simp; omega)), rfl⟩
  ·rw [if_neg h]
   go_enter Tryz.func144, Tryz.ntmps144
   go_wp2_with (go_at_call 112; refine (HN.out _).mono ?_; rintro e w' ⟨rfl, rfl⟩)
   all_goals first
    | (go_ret; exact ⟨rfl, rfl⟩)
    | (exfalso; omega)
end
section
open Go.RowKit Go.Proofs
theorem valM_cons (n : Nat) (c : UInt8) (r : Bs) : valM n (c :: r) = valM (10 * n + (c.toNat - 48)) r := by unfold valM; rw [List.foldl_cons]
theorem valM_snoc (l : Bs) (n : Nat) (c : UInt8) : valM n (l ++ [c]) = 10 * valM n l + (c.toNat - 48) := by unfold valM; rw [List.foldl_append, List.foldl_cons, List.foldl_nil]
theorem valM_lt : ∀ (l : Bs) (n : Nat), (∀ c ∈ l, digitB c = true) → valM n l < (n + 1) * 10 ^ l.length
 | [], n, _ => by unfold valM; rw [List.foldl_nil]; simp
 | a :: r, n, h => by
  have ha := (digitB_iff a).1 (h a List.mem_cons_self)
  have := valM_lt r (10 * n + (a.toNat - 48)) (fun c hc => h c (List.mem_cons_of_mem _ hc))
  rw [valM_cons]
  refine Nat.lt_of_lt_of_le this ?_
  rw [List.length_cons, Nat.pow_succ, ← Nat.mul_assoc]
  calc (10 * n + (a.toNat - 48) + 1) * 10 ^ r.length ≤ ((n + 1) * 10) * 10 ^ r.length := Nat.mul_le_mul (by omega) (Nat.le_refl _)
   _ = (n + 1) * 10 ^ r.length * 10 := by rw [Nat.mul_assoc, Nat.mul_comm 10, ← Nat.mul_assoc]
theorem valM_take {s : ByteArray} (hd : ∀ c ∈ s.data.toList, digitB c = true) (k : Nat) (hk : k ≤ 15) : valM 0 (s.data.toList.take k) < 10 ^ 15 := by
 have h := valM_lt (s.data.toList.take k) 0 (fun c hc => hd c (List.mem_of_mem_take hc))
 refine Nat.lt_of_lt_of_le h ?_
 rw [Nat.zero_add, Nat.one_mul]
 exact Nat.pow_le_pow_right (by decide) (by rw [List.length_take]; omega)
theorem number_any (s : ByteArray) (w : World) (h0 : 0 < s.size) (hs : s.size ≤ maxLen) (hd : ∀ c ∈ s.data.toList, digitB c = true) :
  Calls Tryz.prog 120 #[.string s] w fun e w' => e = .returned (.tuple #[.int .i64 (((numberM s.data.toList).getD 0 : Nat) : Int), .bool (numberM s.data.toList).isSome]) ∧ w = w' := by
 unfold maxLen at hs
 have hl : s.data.toList.length = s.size := len_toList s
 have hh := get_toList s 0 h0
 have hh' : s.data.toList.headD 0 = s[0] := by
  cases hc : s.data.toList with
  | nil => rw [hc] at hh; simp at hh
  | cons a r => rw [hc] at hh; simpa using hh
 unfold numberM
 rw [hl, hh']
 by_cases h1 : 15 < s.size
 ·rw [if_pos (.inl h1)]
  have f1 : (15 : Int) < s.size := by omega
  clear hh hh' hd hl
  go_enter Tryz.func120, Tryz.ntmps120
  go_wp2
  exact bodyPost_ret (results_tmp2 rfl _ _ _) rfl ⟨rfl, rfl⟩
 have f1 : ¬ (15 : Int) < s.size := by omega
 by_cases h2 : 1 < s.size ∧ s[0] = 48
 ·rw [if_pos (.inr h2)]
  have f2 : (1 : Int) < s.size := by omega
  have f3 : ((s[0].toNat : Int) == 48) = true := by rw [h2.2]; decide
  clear hh hh' hd hl h2
  go_enter Tryz.func120, Tryz.ntmps120
  go_wp2
  exact bodyPost_ret (results_tmp2 rfl _ _ _) rfl ⟨rfl, rfl⟩
 rw [if_neg (fun h => h.elim h1 h2)]
 have hend : s.data.toList.take s.size = s.data.toList := by rw [← hl]; exact List.take_length
 have HB := Lib.hid (And.intro (fun k hk => valM_take hd k hk) (And.intro hend hd))
 have key : ∀ (f2 : (1 : Int) < s.size → ((s[0].toNat : Int) == 48) = false), Calls Tryz.prog 120 #[.string s] w fun e w' => e = .returned (.tuple #[.int .i64 (valM 0 s.data.toList), .bool true]) ∧ w = w' := by
  intro f2
  clear hh hh' hd hl h2 hend
  go_enter Tryz.func120, Tryz.ntmps120
  by_cases g1 : (1 : Int) < s.size
  all_goals
   try (have f3 := f2 g1)
   clear f2
   go_wp2
   go_loop [4, 5] (fun n i => ∃ k : Nat, k ≤ s.size ∧ i = .int .i64 k ∧ n = .int .i64 (valM 0 (s.data.toList.take k))) (fun _ i => s.size - (intOf i).toNat)
   case atStart => exact ⟨0, Nat.zero_le _, rfl, rfl⟩
   case round =>
    obtain ⟨k, hk, rfl, rfl⟩ := hrel
    obtain ⟨v, hv⟩ : ∃ v, valM 0 (s.data.toList.take k) = v := ⟨_, rfl⟩
    have hvb := HB.out.1 k (by omega)
    rw [hv] at hvb
    have HV := Lib.hid hv
    rw [hv]
    clear hv
    by_cases hlt : k < s.size
    ·have hc := (digitB_iff s[k]).1 (HB.out.2.2 _ (List.mem_of_getElem? (get_toList s k hlt)))
     have e1 : IntKind.u8.wrap ((s[k].toNat : Int) - 48) = (s[k].toNat : Int) - 48 := IntWalk.u8_in _ (by omega)
     have e2 : IntKind.i64.wrap (10 * (v : Int)) = 10 * (v : Int) := IntWalk.i64_in _ (by omega)
     have e3 : IntKind.i64.wrap (10 * (v : Int) + ((s[k].toNat : Int) - 48)) = 10 * (v : Int) + ((s[k].toNat : Int) - 48) := IntWalk.i64_in _ (by omega)
     go_wp2
     go_round
     case rel => exact ⟨k + 1, by omega, by go_num, by rw [take_snoc s k hlt, valM_snoc, HV.out]; congr 1; omega⟩
     case measure => simp [intOf]; omega
    ·go_wp2
     obtain rfl : k = s.size := by omega
     exact bodyPost_ret (results_tmp2 rfl _ _ _) rfl ⟨by rw [← HV.out, HB.out.2.1]; rfl, rfl⟩
 refine (key fun g1 => ?_).mono (fun e w' h => ?_)
 ·rw [beq_eq_false_iff_ne]
  intro e
  exact h2 ⟨by omega, by rw [← UInt8.toNat_inj]; simp; omega⟩
 ·simpa using h
end
end Go.Proofs.YtikbfoichhkeaaaGreat
