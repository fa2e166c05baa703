/- Long names, and many signs. -/
import Derived.Test.YtfjfbpmlohgghaaDoorMathQ
namespace Go.Proofs.YtfjfbpmlohgghaaDoor
open Go.RowKit Go.Proofs

theorem blank_no {c : UInt8} {r : Bs} (h1 : c ≠ 47) (h2 : c ≠ 32) (h3 : c ≠ 9) (h4 : c ≠ 13) (h5 : c ≠ 10) : blankL (c :: r) = (0, 0) := by
  unfold blankL
  rw [pre2_no h1, pre2_no h1]
  simp [longestL, Ne.symm h2, Ne.symm h3, Ne.symm h4, Ne.symm h5]
theorem gap_no {c : UInt8} {r : Bs} (h1 : c ≠ 47) (h2 : c ≠ 32) (h3 : c ≠ 9) (h4 : c ≠ 13) (h5 : c ≠ 10) : gapL (c :: r) = (0, 0) := by
  have h := blank_no (r := r) h1 h2 h3 h4 h5
  rw [gapL_stop (by rw [h]), h]
theorem evs_nil (line : Nat) : evs line [] = [] := by
  have h : gapL [] = (0, 0) := by kernel_rfl
  exact evs_end (by rw [h]) (by rw [h]; rfl)
/-- A token that stands first of all. -/
theorem evs_now {line : Nat} {l : Bs} {t : Tok} {n : Nat} (hg : gapL l = (0, 0)) (h0 : l ≠ []) (hf : firstL l = ⟨t, n, 0⟩) (hn : 1 ≤ n) : evs line l = ({ t with line := line, nl := false }, 0) :: evs line (l.drop n) := by
  have hd : l.drop (gapL l).1 = l := by rw [hg]; rfl
  have he : endsL l = 0 := by unfold endsL; rw [hg]; simp
  rw [evs_tok (by rw [hg]) (by rw [hd]; exact h0) (by rw [hd, hf]) (by rw [hd, hf]; exact hn), hd, hf, he]
  simp
theorem first_semi (r : Bs) : firstL (59 :: r) = ⟨⟨5, [59], 0, 0, false⟩, 1, 0⟩ := by
  have hs : signL (59 :: r) = [59] := by simp [signL, signsL, longestL]
  unfold firstL
  simp only [List.getD_cons_zero]
  rw [if_neg (by decide), if_neg (by decide), if_neg (by decide)]
  unfold signOneL
  rw [hs]
  rfl
theorem evs_semis (line : Nat) : ∀ m : Nat, evs line (List.replicate m 59) = List.replicate m (⟨5, [59], 0, line, false⟩, 0)
  | 0 => evs_nil line
  | m + 1 => by
    rw [List.replicate_succ, List.replicate_succ, evs_now (gap_no (by decide) (by decide) (by decide) (by decide) (by decide)) (by simp) (first_semi _) (Nat.le_refl _)]
    rw [List.drop_succ_cons, List.drop_zero, evs_semis line m]
theorem lex_semis (m : Nat) (h : m ≤ 20000) : (lexE (List.replicate m 59)).line = 0 ∧ (lexE (List.replicate m 59)).e = 0 := by
  unfold lexE
  rw [evs_semis, gathered_all _ (fun x hx => by rw [List.eq_of_mem_replicate hx]) (by simp; omega)]
  exact ⟨rfl, rfl⟩
theorem replicate_split {α : Type} (K m : Nat) (h : K < m) (x : α) : (List.replicate K x ++ [x]) ++ List.replicate (m - (K + 1)) x = List.replicate m x := by
  rw [← List.replicate_succ', List.replicate_append_replicate]
  congr 1
  omega
theorem lex_semis_long (m : Nat) (h : 20000 < m) : (lexE (List.replicate m 59)).line = 1 ∧ (lexE (List.replicate m 59)).e = 20 := by
  unfold lexE
  rw [evs_semis, gathered_stop (q := List.replicate 20000 (⟨5, [59], 0, 1, false⟩, 0)) (t := ⟨5, [59], 0, 1, false⟩) (e := 0) (er := 20) ⟨_, replicate_split 20000 m h _⟩ (fun x hx => by rw [List.eq_of_mem_replicate hx]) (.inr ⟨rfl, rfl, List.length_replicate⟩)]
  exact ⟨rfl, rfl⟩
theorem runL_all_such (p : UInt8 → Bool) (l : Bs) (h : ∀ c ∈ l, p c = true) : runL p l = l.length := by
  exact runL_stop p l.length l (fun c hc => h c (by rwa [List.take_length] at hc)) (fun c hc => by rw [List.drop_length] at hc; cases hc) (Nat.le_refl _)
/-- A text of letters and digits, a letter first. -/
theorem first_name_all {c : UInt8} {r : Bs} (hc : letterB c = true) (h : ∀ x ∈ c :: r, nameB x = true) : firstL (c :: r) = ⟨⟨if isWordL (c :: r) then 2 else 1, c :: r, 0, 0, false⟩, (c :: r).length, 0⟩ := by
  unfold firstL
  simp only [List.getD_cons_zero]
  rw [if_pos hc]
  unfold nameL
  rw [runL_all_such _ _ h, List.take_length]
theorem letter_ne {c : UInt8} (h : letterB c = true) : c ≠ 47 ∧ c ≠ 32 ∧ c ≠ 9 ∧ c ≠ 13 ∧ c ≠ 10 := by
  have := (letterB_iff c).1 h
  refine ⟨?_, ?_, ?_, ?_, ?_⟩ <;> (intro e; subst e; revert this; decide)
theorem lex_name {c : UInt8} {r : Bs} (hc : letterB c = true) (h : ∀ x ∈ c :: r, nameB x = true) : lexE (c :: r) = ⟨[⟨if isWordL (c :: r) then 2 else 1, c :: r, 0, 1, false⟩], 0, 0⟩ := by
  obtain ⟨h1, h2, h3, h4, h5⟩ := letter_ne hc
  unfold lexE
  rw [evs_now (gap_no h1 h2 h3 h4 h5) (by simp) (first_name_all hc h) (by simp), List.drop_length, evs_nil]
  simp [gathered]
theorem lex_as (n : Nat) (h : 0 < n) : (lexE (List.replicate n 97)).line = 0 ∧ (lexE (List.replicate n 97)).e = 0 := by
  obtain ⟨m, rfl⟩ : ∃ m, n = m + 1 := ⟨n - 1, by omega⟩
  rw [List.replicate_succ, lex_name (by decide) (fun x hx => by
    rw [← List.replicate_succ] at hx
    rw [List.eq_of_mem_replicate hx]
    decide)]
  exact ⟨rfl, rfl⟩
end Go.Proofs.YtfjfbpmlohgghaaDoor
