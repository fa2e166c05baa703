/- Numbers in digits, and the one token that they are. -/
import Derived.Test.YtfjfbpmlohgghaaDoorMathL
namespace Go.Proofs.YtfjfbpmlohgghaaDoor
open Go.RowKit Go.Proofs

def digitB10 (n : Nat) : UInt8 := UInt8.ofNat (48 + n % 10)
theorem digitB10_nat (n : Nat) : (digitB10 n).toNat = 48 + n % 10 := by
  unfold digitB10
  rw [UInt8.toNat_ofNat_of_lt' (by show 48 + n % 10 < 256; omega)]
theorem digitB10_is (n : Nat) : digitB (digitB10 n) = true := by
  rw [digitB_iff, digitB10_nat]
  omega
/-- The digits of a number. -/
def digitsL (n : Nat) : Bs := if n < 10 then [digitB10 n] else digitsL (n / 10) ++ [digitB10 n]
termination_by n
theorem digitsL_one {n : Nat} (h : n < 10) : digitsL n = [digitB10 n] := by rw [digitsL, if_pos h]
theorem digitsL_more {n : Nat} (h : ¬ n < 10) : digitsL n = digitsL (n / 10) ++ [digitB10 n] := by rw [digitsL, if_neg h]
theorem valL_snoc (l : Bs) (c : UInt8) : valL (l ++ [c]) = valL l * 10 + (c.toNat - 48) := by
  unfold valL
  rw [List.foldl_append]
  rfl
theorem digitsL_val : ∀ n : Nat, valL (digitsL n) = n := by
  intro n
  induction n using Nat.strongRecOn with
  | _ n ih =>
    by_cases h : n < 10
    · rw [digitsL_one h]
      show 0 * 10 + ((digitB10 n).toNat - 48) = n
      rw [digitB10_nat]
      omega
    · rw [digitsL_more h, valL_snoc, ih (n / 10) (by omega), digitB10_nat]
      omega
theorem digitsL_all : ∀ n : Nat, ∀ c ∈ digitsL n, digitB c = true := by
  intro n
  induction n using Nat.strongRecOn with
  | _ n ih =>
    intro c hc
    by_cases h : n < 10
    · rw [digitsL_one h] at hc
      obtain rfl : c = digitB10 n := by simpa using hc
      exact digitB10_is n
    · rw [digitsL_more h] at hc
      rcases List.mem_append.1 hc with hc | hc
      · exact ih (n / 10) (by omega) c hc
      · obtain rfl : c = digitB10 n := by simpa using hc
        exact digitB10_is n
theorem digitsL_head : ∀ n : Nat, 1 ≤ n → ∃ c r, digitsL n = c :: r ∧ c ≠ 48 := by
  intro n
  induction n using Nat.strongRecOn with
  | _ n ih =>
    intro h1
    by_cases h : n < 10
    · refine ⟨digitB10 n, [], digitsL_one h, fun e => ?_⟩
      have := congrArg UInt8.toNat e
      rw [digitB10_nat] at this
      have e48 : (48 : UInt8).toNat = 48 := rfl
      omega
    · obtain ⟨c, r, hr, hc⟩ := ih (n / 10) (by omega) (by omega)
      exact ⟨c, r ++ [digitB10 n], by rw [digitsL_more h, hr]; rfl, hc⟩
theorem digitsL_len : ∀ (k n : Nat), n < 10 ^ (k + 1) → (digitsL n).length ≤ k + 1 := by
  intro k
  induction k with
  | zero =>
    intro n h
    rw [digitsL_one (by simpa using h)]
    simp
  | succ k ih =>
    intro n h
    by_cases h1 : n < 10
    · rw [digitsL_one h1]
      simp
    · rw [digitsL_more h1]
      have := ih (n / 10) (by rw [Nat.div_lt_iff_lt_mul (by decide)]; rw [Nat.pow_succ] at h; exact h)
      simp
      omega
theorem amountL_digits (n : Nat) (h : n ≤ 999999999999999) : amountL (digitsL n) = some n := by
  unfold amountL
  have h0 : (decide (1 < (digitsL n).length) && (digitsL n).getD 0 0 == 48) = false := by
    by_cases h1 : 1 ≤ n
    · obtain ⟨c, r, hr, hc⟩ := digitsL_head n h1
      rw [hr]
      simp [hc]
    · obtain rfl : n = 0 := by omega
      rw [digitsL_one (by decide)]
      rfl
  rw [h0, digitsL_val, if_pos h]
  simp
theorem digit_ne {c : UInt8} (h : digitB c = true) : c ≠ 47 ∧ c ≠ 32 ∧ c ≠ 9 ∧ c ≠ 13 ∧ c ≠ 10 ∧ letterB c = false := by
  have h2 := (digitB_iff c).1 h
  refine ⟨?_, ?_, ?_, ?_, ?_, ?_⟩
  · intro e; subst e; revert h2; decide
  · intro e; subst e; revert h2; decide
  · intro e; subst e; revert h2; decide
  · intro e; subst e; revert h2; decide
  · intro e; subst e; revert h2; decide
  · rw [← Bool.not_eq_true, letterB_iff]
    omega
/-- A number's digits are one token. -/
theorem lex_digits (n : Nat) (h : n ≤ 999999999999999) : lexE (digitsL n) = ⟨[⟨3, [], n, 1, false⟩], 0, 0⟩ := by
  have hall := digitsL_all n
  have ham := amountL_digits n h
  have hne : digitsL n ≠ [] := by
    by_cases h1 : n < 10
    · rw [digitsL_one h1]; simp
    · rw [digitsL_more h1]; simp
  obtain ⟨l, hl⟩ : ∃ l, digitsL n = l := ⟨_, rfl⟩
  rw [hl] at hall ham hne ⊢
  cases l with
  | nil => exact absurd rfl hne
  | cons c r =>
    have hc := hall c (by simp)
    obtain ⟨h1, h2, h3, h4, h5, h6⟩ := digit_ne hc
    have hrun : runL digitB (c :: r) = (c :: r).length := runL_all_such _ _ hall
    have hf : firstL (c :: r) = ⟨⟨3, [], n, 0, false⟩, (c :: r).length, 0⟩ := by
      unfold firstL
      simp only [List.getD_cons_zero]
      rw [if_neg (by rw [h6]; decide), if_pos hc]
      unfold numberL
      rw [hrun, List.drop_length, List.take_length, ham]
      rfl
    unfold lexE
    rw [evs_now (gap_no h1 h2 h3 h4 h5) (by simp) hf (by simp), List.drop_length, evs_nil]
    simp [gathered]

/-- A name, or a word, is one token. -/
theorem lex_isName (l : Bs) (h : isNameL l = true) : lexE l = ⟨[⟨1, l, 0, 1, false⟩], 0, 0⟩ ∧ isWordL l = false := by
  cases l with
  | nil => cases h
  | cons c r =>
    have h : (letterB c && (r.all nameB && !isWordL (c :: r))) = true := h
    simp only [Bool.and_eq_true, Bool.not_eq_true'] at h
    have hn : nameB c = true := by unfold nameB; rw [h.1]; rfl
    rw [lex_name h.1 (fun x hx => by
      rcases List.mem_cons.1 hx with rfl | hx
      · exact hn
      · exact List.all_eq_true.1 h.2.1 x hx), h.2.2]
    exact ⟨rfl, rfl⟩
theorem words_letters : wordsL.all (fun l => match l with | [] => false | c :: r => letterB c && (c :: r).all nameB) = true := by decide
theorem lex_isWord (l : Bs) (h : isWordL l = true) : lexE l = ⟨[⟨2, l, 0, 1, false⟩], 0, 0⟩ ∧ isNameL l = false := by
  have hm : l ∈ wordsL := by
    unfold isWordL at h
    simpa using h
  have := List.all_eq_true.1 words_letters l hm
  cases l with
  | nil => cases this
  | cons c r =>
    simp only [Bool.and_eq_true] at this
    rw [lex_name this.1 (fun x hx => List.all_eq_true.1 this.2 x hx), h]
    refine ⟨rfl, ?_⟩
    show (letterB c && (r.all nameB && !isWordL (c :: r))) = false
    rw [h]
    simp
end Go.Proofs.YtfjfbpmlohgghaaDoor
