/- Which texts are signs. -/
import Derived.Test.YtpgclgfaiklpoaaDoorSigns
import Derived.Test.YtpgclgfaiklpoaaDoorSays
namespace Go.Proofs.YtpgclgfaiklpoaaDoor
open Go.RowKit Go.Proofs

theorem sign_cases (l : Bs) : isSign l = false ∨ l = [43] ∨ l = [45] ∨ l = [42] ∨ l = [60] ∨ l = [60, 61] ∨ l = [61, 61, 61] ∨ l = [33, 61, 61] := by
  cases h : isSign l with
  | false => exact .inl rfl
  | true =>
    simp [isSign, signsL] at h
    refine .inr ?_
    rcases h with h | h | h | h | h | h | h <;> simp [← h]
theorem make_none (l : Bs) (a b : J) (h : isSign l = false) : makeJ l a b = none := by
  simp [isSign, signsL] at h
  obtain ⟨h1, h2, h3, h4, h5, h6, h7⟩ := h
  unfold makeJ
  rw [if_neg (fun e => h1 e.symm), if_neg (fun e => h2 e.symm), if_neg (fun e => h3 e.symm), if_neg (fun e => h4 e.symm), if_neg (fun e => h5 e.symm), if_neg (fun e => h6 e.symm), if_neg (fun e => h7 e.symm)]
end Go.Proofs.YtpgclgfaiklpoaaDoor
