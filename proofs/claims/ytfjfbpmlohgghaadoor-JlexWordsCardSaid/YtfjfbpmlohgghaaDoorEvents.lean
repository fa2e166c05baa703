/- What jlex.tokens hands over, one by one. -/
import Derived.Test.YtfjfbpmlohgghaaDoorGap
namespace Go.Proofs.YtfjfbpmlohgghaaDoor
open Go.RowKit Go.Proofs

/-- How many lines end ahead of the first token. -/
def endsL (l : Bs) : Nat := (l.take (gapL l).1).count 10
def evs (line : Nat) (l : Bs) : List Ev :=
  if (gapL l).2 = 0 then
    match _h : l.drop (gapL l).1 with
    | [] => []
    | c :: r =>
      if (firstL (c :: r)).e = 0 then
        ({ (firstL (c :: r)).t with line := line + endsL l, nl := decide (0 < endsL l) }, 0) :: evs (line + endsL l) (r.drop ((firstL (c :: r)).len - 1))
      else [({ (firstL (c :: r)).t with line := line + endsL l, nl := decide (0 < endsL l) }, (firstL (c :: r)).e)]
  else [({ Tok.zero with line := line + endsL l, nl := decide (0 < endsL l) }, (gapL l).2)]
termination_by l.length
decreasing_by
  have : (l.drop (gapL l).1).length = r.length + 1 := by rw [_h]; rfl
  rw [List.length_drop] at this
  rw [List.length_drop]
  omega
theorem evs_bad {line : Nat} {l : Bs} (h : (gapL l).2 ≠ 0) : evs line l = [({ Tok.zero with line := line + endsL l, nl := decide (0 < endsL l) }, (gapL l).2)] := by rw [evs, if_neg h]
theorem evs_end {line : Nat} {l : Bs} (h : (gapL l).2 = 0) (h2 : l.drop (gapL l).1 = []) : evs line l = [] := by
  rw [evs, if_pos h]
  split
  · rfl
  · rename_i hd; rw [h2] at hd; cases hd
theorem evs_err {line : Nat} {l : Bs} (h : (gapL l).2 = 0) (h2 : l.drop (gapL l).1 ≠ []) (h3 : (firstL (l.drop (gapL l).1)).e ≠ 0) :
    evs line l = [({ (firstL (l.drop (gapL l).1)).t with line := line + endsL l, nl := decide (0 < endsL l) }, (firstL (l.drop (gapL l).1)).e)] := by
  rw [evs, if_pos h]
  split
  · rename_i hd; exact absurd hd h2
  · rename_i c r hd
    rw [hd] at h3 ⊢
    rw [if_neg h3]
theorem evs_tok {line : Nat} {l : Bs} (h : (gapL l).2 = 0) (h2 : l.drop (gapL l).1 ≠ []) (h3 : (firstL (l.drop (gapL l).1)).e = 0) (h4 : 1 ≤ (firstL (l.drop (gapL l).1)).len) :
    evs line l = ({ (firstL (l.drop (gapL l).1)).t with line := line + endsL l, nl := decide (0 < endsL l) }, 0) :: evs (line + endsL l) ((l.drop (gapL l).1).drop (firstL (l.drop (gapL l).1)).len) := by
  rw [evs, if_pos h]
  split
  · rename_i hd; exact absurd hd h2
  · rename_i c r hd
    rw [hd] at h3 h4 ⊢
    rw [if_pos h3]
    obtain ⟨m, hm⟩ : ∃ m, (firstL (c :: r)).len = m + 1 := ⟨_, (Nat.sub_add_cancel h4).symm⟩
    rw [hm]
    rfl

theorem quotedL_len (q : UInt8) : ∀ (n : Nat) (l : Bs) (o : Bs × Nat), l.length ≤ n → quotedL q l = some o → o.2 ≤ l.length ∧ 1 ≤ o.2 := by
  intro n
  induction n with
  | zero =>
    intro l o hl h
    obtain rfl : l = [] := List.eq_nil_of_length_eq_zero (by omega)
    rw [quoted_end] at h; cases h
  | succ n ih =>
    intro l o hl h
    cases l with
    | nil => rw [quoted_end] at h; cases h
    | cons c r =>
      by_cases hc : c = q
      · subst hc
        rw [quoted_close] at h
        injection h with h
        subst h
        simp
      · by_cases hz : (saidL (c :: r)).2 = 0
        · rw [quoted_bad hc hz] at h; cases h
        · rw [quoted_more hc hz] at h
          have hle := saidL_len (c :: r) (by simp)
          cases hq : quotedL q ((c :: r).drop (saidL (c :: r)).2) with
          | none => rw [hq] at h; cases h
          | some o' =>
            rw [hq] at h
            injection h with h
            subst h
            have := ih _ o' (by rw [List.length_drop]; omega) hq
            rw [List.length_drop] at this
            simp only
            omega
theorem run_pos (p : UInt8 → Bool) (l : Bs) (h : l ≠ []) (hp : p (l.getD 0 0) = true) : 1 ≤ runL p l := by
  obtain ⟨c, r, rfl⟩ := List.exists_cons_of_ne_nil h
  have hp : p c = true := hp
  unfold runL
  rw [List.takeWhile_cons, if_pos hp]
  simp
theorem signOne_len (l : Bs) (he : (signOneL l).e = 0) : 1 ≤ (signOneL l).len ∧ (signOneL l).len ≤ l.length := by
  cases hl : signL l with
  | nil =>
    have e : signOneL l = ⟨.zero, 0, 21⟩ := by unfold signOneL; rw [hl]; rfl
    rw [e] at he
    cases he
  | cons c r =>
    have e : (signOneL l).len = r.length + 1 := by unfold signOneL; rw [hl]; rfl
    rw [e]
    refine ⟨by omega, ?_⟩
    rcases longestL_mem l signsL with h5 | ⟨_, h5⟩
    · have h6 : signL l = [] := h5
      rw [hl] at h6; cases h6
    · have h6 : (signL l).isPrefixOf l = true := h5
      rw [hl] at h6
      exact prefix_len h6
theorem firstL_len (l : Bs) (h : l ≠ []) (he : (firstL l).e = 0) : 1 ≤ (firstL l).len ∧ (firstL l).len ≤ l.length := by
  unfold firstL at he ⊢
  split at he
  · rename_i h1
    rw [if_pos h1]
    exact ⟨run_pos _ _ h (by unfold nameB; rw [h1]; rfl), runL_le _ _⟩
  · rename_i h1
    rw [if_neg h1]
    split at he
    · rename_i h2
      rw [if_pos h2]
      unfold numberL at he ⊢
      split at he
      · cases he
      · rename_i h3
        rw [if_neg h3]
        split at he
        · cases he
        · split at he
          · cases he
          · rename_i v hv h4
            rw [if_neg h4]
            exact ⟨run_pos _ _ h h2, runL_le _ _⟩
    · rename_i h2
      rw [if_neg h2]
      split at he
      · rename_i h3
        rw [if_pos h3]
        obtain ⟨q, r, rfl⟩ := List.exists_cons_of_ne_nil h
        unfold textL at he ⊢
        simp only at he ⊢
        split at he
        · cases he
        · rename_i o ho
          have := quotedL_len q _ r o (Nat.le_refl _) ho
          simp only [List.length_cons]
          omega
      · rename_i h3
        rw [if_neg h3]
        exact signOne_len l he
theorem firstL_t (l : Bs) : (firstL l).t.line = 0 ∧ (firstL l).t.nl = false := by
  unfold firstL
  split
  · exact ⟨rfl, rfl⟩
  · split
    · unfold numberL
      split
      · exact ⟨rfl, rfl⟩
      · split
        · exact ⟨rfl, rfl⟩
        · split
          · exact ⟨rfl, rfl⟩
          · exact ⟨rfl, rfl⟩
    · split
      · unfold textL
        split
        · exact ⟨rfl, rfl⟩
        · split
          · exact ⟨rfl, rfl⟩
          · exact ⟨rfl, rfl⟩
      · unfold signOneL
        split
        · exact ⟨rfl, rfl⟩
        · exact ⟨rfl, rfl⟩
end Go.Proofs.YtfjfbpmlohgghaaDoor
