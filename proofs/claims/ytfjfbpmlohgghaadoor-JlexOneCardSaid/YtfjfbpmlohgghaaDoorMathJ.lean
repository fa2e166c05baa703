/- Tokens of texts that are parted by a line's end. -/
import Derived.Test.YtfjfbpmlohgghaaDoorMathL
namespace Go.Proofs.YtfjfbpmlohgghaaDoor
open Go.RowKit Go.Proofs

theorem pre_end : ∀ (p l u : Bs), 10 ∉ p → p.isPrefixOf (l ++ 10 :: u) = p.isPrefixOf l
  | [], _, _, _ => by simp
  | a :: p, [], u, h => by
    have e : (a == 10) = false := by
      rw [beq_eq_false_iff_ne]
      intro e; subst e; simp at h
    rw [List.nil_append, List.isPrefixOf_cons_cons, e]
    rfl
  | a :: p, b :: l, u, h => by
    rw [List.cons_append, List.isPrefixOf_cons_cons, List.isPrefixOf_cons_cons, pre_end p l u (fun hh => h (by simp [hh]))]
theorem run_end (p : UInt8 → Bool) (hp : p 10 = false) : ∀ l u : Bs, runL p (l ++ 10 :: u) = runL p l
  | [], u => by unfold runL; simp [hp]
  | c :: l, u => by
    have ih := run_end p hp l u
    unfold runL at *
    rw [List.cons_append, List.takeWhile_cons, List.takeWhile_cons]
    cases h : p c with
    | true => simp [ih]
    | false => simp
theorem longest_end (l u : Bs) (signs : List Bs) (h : ∀ p ∈ signs, 10 ∉ p) : longestL (l ++ 10 :: u) signs = longestL l signs := by
  have key : ∀ (ts : List Bs) (b : Bs), (∀ p ∈ ts, 10 ∉ p) → ts.foldl (stepL (l ++ 10 :: u)) b = ts.foldl (stepL l) b := by
    intro ts
    induction ts with
    | nil => intro b _; rfl
    | cons t r ih =>
      intro b h
      rw [List.foldl_cons, List.foldl_cons]
      have e : stepL (l ++ 10 :: u) b t = stepL l b t := by unfold stepL; rw [pre_end t l u (h t (by simp))]
      rw [e]
      exact ih _ (fun p hp => h p (by simp [hp]))
  exact key signs [] h
theorem one_end (c : UInt8) (r u : Bs) : longestL ((c :: r) ++ 10 :: u) [[32], [9], [13], [10]] = longestL (c :: r) [[32], [9], [13], [10]] := by
  simp [longestL]
theorem index_end : ∀ (l u : Bs), 0 ≤ Lib.index l [42, 47] → Lib.index (l ++ u) [42, 47] = Lib.index l [42, 47]
  | [], u, h => by simp [Lib.index] at h
  | c :: l, u, h => by
    have ih := index_end l u
    rw [List.cons_append]
    unfold Lib.index at h ⊢
    by_cases hp : ([42, 47] : Bs).isPrefixOf (c :: l) = true
    · have hp2 : ([42, 47] : Bs).isPrefixOf (c :: (l ++ u)) = true := by
        rw [List.isPrefixOf_iff_prefix] at hp ⊢
        exact hp.trans (List.prefix_append (c :: l) u)
      rw [if_pos hp, if_pos hp2]
    · rw [if_neg hp] at h ⊢
      have hi : 0 ≤ Lib.index l [42, 47] := by
        rcases index_le l with h1 | ⟨h1, _⟩
        · rw [h1] at h; simp at h
        · exact h1
      have hp2 : ¬ ([42, 47] : Bs).isPrefixOf (c :: (l ++ u)) = true := by
        intro h2
        apply hp
        cases l with
        | nil => simp [Lib.index] at hi
        | cons d l => simpa using h2
      rw [if_neg hp2, ih hi]
theorem blank_end (c : UInt8) (r u : Bs) (h : (blankL (c :: r)).2 ≠ 23) : blankL ((c :: r) ++ 10 :: u) = blankL (c :: r) := by
  unfold blankL at h ⊢
  rw [pre_end _ (c :: r) u (by decide), pre_end _ (c :: r) u (by decide), one_end, run_end noEndB (by decide)]
  by_cases h1 : ([47, 47] : Bs).isPrefixOf (c :: r) = true
  · rw [if_pos h1, if_pos h1]
  · rw [if_neg h1] at h ⊢
    rw [if_neg h1]
    by_cases h2 : ([47, 42] : Bs).isPrefixOf (c :: r) = true
    · rw [if_pos h2] at h ⊢
      rw [if_pos h2]
      have hl := prefix_len h2
      have hd : ((c :: r) ++ 10 :: u).drop 2 = (c :: r).drop 2 ++ 10 :: u := List.drop_append_of_le_length hl
      by_cases h3 : Lib.index ((c :: r).drop 2) [42, 47] < 0
      · rw [if_pos h3] at h; exact absurd rfl h
      · rw [hd, index_end _ _ (by omega)]
    · rw [if_neg h2, if_neg h2]
theorem hex_end (l u : Bs) (h : 2 ≤ l.length) : hexL (l ++ 10 :: u) = hexL l := by
  have h10 : Lib.indexByte hexDigitsL 10 < 0 := by decide
  match l, h with
  | [a, b], _ =>
    match u with
    | [] => rfl
    | x :: u => simp [hexL, h10]
  | [a, b, c], _ => simp [hexL, h10]
  | _ :: _ :: _ :: _ :: _, _ => rfl
theorem getD_end (l u : Bs) (k : Nat) (h : k < l.length) : (l ++ 10 :: u).getD k 0 = l.getD k 0 := by
  simp [List.getElem?_append_left h]
theorem said_end (l u : Bs) (h : l ≠ []) : saidL (l ++ 10 :: u) = saidL l := by
  have h0 : 0 < l.length := List.length_pos_iff.2 h
  unfold saidL
  rw [pre_end _ l u (by decide), pre_end _ l u (by decide), pre_end _ l u (by decide), longest_end l u _ (by decide), getD_end l u 0 h0]
  by_cases h1 : ([92, 110] : Bs).isPrefixOf l = true
  · rw [if_pos h1, if_pos h1]
  · rw [if_neg h1, if_neg h1]
    by_cases h2 : ([92, 116] : Bs).isPrefixOf l = true
    · rw [if_pos h2, if_pos h2]
    · rw [if_neg h2, if_neg h2]
      by_cases h3 : (!(longestL l [[92, 92], [92, 34], [92, 39]]).isEmpty) = true
      · rw [if_pos h3, if_pos h3]
        have hl : 1 < l.length := by
          rcases longestL_mem l [[92, 92], [92, 34], [92, 39]] with h | ⟨h, h'⟩
          · rw [h] at h3; simp at h3
          · have := prefix_len h'
            have e : (longestL l [[92, 92], [92, 34], [92, 39]]).length = 2 := (by decide : ∀ x ∈ ([[92, 92], [92, 34], [92, 39]] : List Bs), x.length = 2) _ h
            omega
        rw [getD_end l u 1 hl]
      · rw [if_neg h3, if_neg h3]
        by_cases h4 : ([92, 120] : Bs).isPrefixOf l = true
        · rw [if_pos h4, if_pos h4, hex_end l u (prefix_len h4)]
        · rw [if_neg h4, if_neg h4]
theorem said_10 (u : Bs) : (saidL (10 :: u)).2 = 0 := by
  unfold saidL
  rw [pre2_no (by decide), pre2_no (by decide), esc_no (by decide), pre2_no (by decide)]
  rfl
theorem quoted_endl (q : UInt8) (hq : q ≠ 10) (u : Bs) : ∀ (n : Nat) (l : Bs), l.length ≤ n → quotedL q (l ++ 10 :: u) = quotedL q l := by
  intro n
  induction n with
  | zero =>
    intro l hl
    obtain rfl : l = [] := List.eq_nil_of_length_eq_zero (by omega)
    rw [List.nil_append, quoted_bad (Ne.symm hq) (said_10 u), quoted_end]
  | succ n ih =>
    intro l hl
    cases l with
    | nil => rw [List.nil_append, quoted_bad (Ne.symm hq) (said_10 u), quoted_end]
    | cons c r =>
      have hs := said_end (c :: r) u (by simp)
      rw [List.cons_append] at hs ⊢
      by_cases hc : c = q
      · subst hc
        rw [quoted_close, quoted_close]
      · by_cases hz : (saidL (c :: r)).2 = 0
        · rw [quoted_bad hc (by rw [hs]; exact hz), quoted_bad hc hz]
        · rw [quoted_more hc (by rw [hs]; exact hz), quoted_more hc hz, hs]
          have hle := saidL_len (c :: r) (by simp)
          have hd : (c :: (r ++ 10 :: u)).drop (saidL (c :: r)).2 = (c :: r).drop (saidL (c :: r)).2 ++ 10 :: u := List.drop_append_of_le_length (l₁ := c :: r) hle
          rw [hd, ih _ (by rw [List.length_drop]; omega)]
theorem take_end (l u : Bs) (n : Nat) (h : n ≤ l.length) : (l ++ 10 :: u).take n = l.take n := List.take_append_of_le_length h
theorem number_end (l u : Bs) : numberL (l ++ 10 :: u) = numberL l := by
  have hn := runL_le digitB l
  unfold numberL
  rw [run_end digitB (by decide), take_end l u _ hn, List.drop_append_of_le_length hn]
  cases hd : l.drop (runL digitB l) with
  | nil =>
    simp only [List.nil_append, List.head?_cons, List.head?_nil]
    cases amountL (l.take (runL digitB l)) with
    | none => simp
    | some v => simp [show letterB 10 = false by decide]
  | cons c r => rfl
theorem name_end (l u : Bs) : nameL (l ++ 10 :: u) = nameL l := by
  unfold nameL
  rw [run_end nameB (by decide), take_end l u _ (runL_le _ _)]
theorem text_end (c : UInt8) (r u : Bs) (hc : c ≠ 10) : textL ((c :: r) ++ 10 :: u) = textL (c :: r) := by
  rw [List.cons_append]
  unfold textL
  simp only [quoted_endl c hc u _ r (Nat.le_refl _)]
theorem sign_end (l u : Bs) : signOneL (l ++ 10 :: u) = signOneL l := by
  unfold signOneL signL
  rw [longest_end l u signsL (by decide)]
theorem first_end (c : UInt8) (r u : Bs) : firstL ((c :: r) ++ 10 :: u) = firstL (c :: r) := by
  unfold firstL
  rw [getD_end (c :: r) u 0 (by simp), name_end, number_end, sign_end]
  by_cases h : ((c :: r).getD 0 0 == 34 || (c :: r).getD 0 0 == 39) = true
  · have hc : c ≠ 10 := by
      intro e; subst e
      have h : ((10 : UInt8) == 34 || (10 : UInt8) == 39) = true := h
      exact absurd h (by decide)
    rw [text_end c r u hc]
  · rw [if_neg h, if_neg h]
end Go.Proofs.YtfjfbpmlohgghaaDoor
