/- A quoted text is one token, that says it. -/
import Derived.Test.YtfjfbpmlohgghaaDoorLex
import Derived.Test.YtfjfbpmlohgghaaDoorQuote
namespace Go.Proofs.YtfjfbpmlohgghaaDoor
open Go.RowKit Go.Proofs

theorem u8_ne {a b : UInt8} (h : a.toNat ≠ b.toNat) : a ≠ b := fun e => h (by rw [e])
theorem pre2_no {a b c : UInt8} {r : Bs} (h : c ≠ a) : ([a, b] : Bs).isPrefixOf (c :: r) = false := by
  simp [List.isPrefixOf, Ne.symm h]
theorem esc_no {c : UInt8} {r : Bs} (h : c ≠ 92) : longestL (c :: r) [[92, 92], [92, 34], [92, 39]] = [] := by
  simp [longestL, Ne.symm h]
theorem said_plain {c : UInt8} {r : Bs} (h1 : c ≠ 92) (h2 : plainB c = true) : saidL (c :: r) = (c, 1) := by
  unfold saidL
  rw [pre2_no h1, pre2_no h1, esc_no h1, pre2_no h1]
  simp [h1, h2]
theorem said_n (r : Bs) : saidL (92 :: 110 :: r) = (10, 2) := by
  unfold saidL
  rw [if_pos (by simp [List.isPrefixOf])]
theorem said_t (r : Bs) : saidL (92 :: 116 :: r) = (9, 2) := by
  unfold saidL
  rw [if_neg (by simp [List.isPrefixOf]), if_pos (by simp [List.isPrefixOf])]
theorem said_esc (c : UInt8) (r : Bs) (h : c = 34 ∨ c = 92) : saidL (92 :: c :: r) = (c, 2) := by
  unfold saidL
  rcases h with rfl | rfl
  · rw [if_neg (by simp [List.isPrefixOf]), if_neg (by simp [List.isPrefixOf]), if_pos (by simp [longestL])]
    rfl
  · rw [if_neg (by simp [List.isPrefixOf]), if_neg (by simp [List.isPrefixOf]), if_pos (by simp [longestL])]
    rfl
theorem ix_hexD : ∀ k : Fin 16, ixB (hexD k.val) = (k.val : Int) := by decide
theorem said_hex (c : UInt8) (r : Bs) : saidL (92 :: 120 :: hexD (c.toNat / 16) :: hexD (c.toNat % 16) :: r) = (c, 4) := by
  have hlt : c.toNat < 256 := c.toNat_lt
  unfold saidL
  rw [if_neg (by simp [List.isPrefixOf]), if_neg (by simp [List.isPrefixOf]), if_neg (by simp [longestL]), if_pos (by simp [List.isPrefixOf])]
  have e1 : Lib.indexByte hexDigitsL (hexD (c.toNat / 16)) = ((c.toNat / 16 : Nat) : Int) := ix_hexD ⟨c.toNat / 16, by omega⟩
  have e2 : Lib.indexByte hexDigitsL (hexD (c.toNat % 16)) = ((c.toNat % 16 : Nat) : Int) := ix_hexD ⟨c.toNat % 16, by omega⟩
  unfold hexL
  simp only [e1, e2]
  rw [if_neg (by omega)]
  have : 16 * ((c.toNat / 16 : Nat) : Int).toNat + ((c.toNat % 16 : Nat) : Int).toNat = c.toNat := by omega
  rw [this, UInt8.ofNat_toNat]
/-- What a byte within quotes says. -/
theorem said_quoted (c : UInt8) (r : Bs) : saidL (quoteB c ++ r) = (c, (quoteB c).length) ∧ (quoteB c ++ r).head? ≠ some 34 ∧ quoteB c ≠ [] := by
  unfold quoteB
  by_cases h1 : c.toNat = 10
  · rw [if_pos h1]
    obtain rfl : c = 10 := UInt8.toNat_inj.1 h1
    exact ⟨said_n r, by simp, by simp⟩
  · rw [if_neg h1]
    by_cases h2 : c.toNat = 9
    · rw [if_pos h2]
      obtain rfl : c = 9 := UInt8.toNat_inj.1 h2
      exact ⟨said_t r, by simp, by simp⟩
    · rw [if_neg h2]
      by_cases h3 : c.toNat = 34 ∨ c.toNat = 92
      · rw [if_pos h3]
        exact ⟨said_esc c r (h3.imp (fun h => UInt8.toNat_inj.1 h) (fun h => UInt8.toNat_inj.1 h)), by simp, by simp⟩
      · rw [if_neg h3]
        have n34 : c ≠ 34 := u8_ne (fun h => h3 (.inl h))
        have n92 : c ≠ 92 := u8_ne (fun h => h3 (.inr h))
        cases hp : plainB c with
        | true =>
          rw [if_pos rfl]
          exact ⟨said_plain n92 hp, by simp [n34], by simp⟩
        | false =>
          rw [if_neg (by simp)]
          exact ⟨said_hex c r, by simp, by simp⟩
theorem quoted_back : ∀ l : Bs, quotedL 34 (l.flatMap quoteB ++ [34]) = some (l, (l.flatMap quoteB).length + 1)
  | [] => by
    show quotedL 34 [34] = some ([], 1)
    exact quoted_close 34 []
  | c :: r => by
    obtain ⟨h1, h2, h3⟩ := said_quoted c (r.flatMap quoteB ++ [34])
    rw [List.flatMap_cons, List.append_assoc]
    obtain ⟨x, y, hx⟩ := List.exists_cons_of_ne_nil h3
    have hlen : (quoteB c).length ≠ 0 := by rw [hx]; simp
    have e : quoteB c ++ (r.flatMap quoteB ++ [34]) = x :: (y ++ (r.flatMap quoteB ++ [34])) := by rw [hx]; rfl
    rw [e] at h1 h2 ⊢
    have hx34 : x ≠ 34 := fun he => h2 (by rw [he]; rfl)
    rw [quoted_more hx34 (by rw [h1]; exact hlen), h1]
    have hd : (x :: (y ++ (r.flatMap quoteB ++ [34]))).drop (quoteB c).length = r.flatMap quoteB ++ [34] := by
      rw [← e, List.drop_left]
    rw [hd, quoted_back r]
    simp
    omega
theorem gap_quote (l : Bs) : gapL (quoteL l) = (0, 0) := by
  have h : blankL (quoteL l) = (0, 0) := by
    unfold quoteL blankL
    rw [pre2_no (by decide), pre2_no (by decide)]
    simp [longestL]
  rw [gapL_stop (by rw [h]), h]
theorem first_quote (l : Bs) : firstL (quoteL l) = ⟨⟨4, l, 0, 0, false⟩, (quoteL l).length, 0⟩ := by
  unfold firstL quoteL
  simp only [List.getD_cons_zero]
  rw [if_neg (by decide), if_neg (by decide), if_pos (by decide)]
  unfold textL
  simp only [quoted_back]
  simp
  omega
theorem lex_quote (l : Bs) : lexE (quoteL l) = ⟨[⟨4, l, 0, 1, false⟩], 0, 0⟩ := by
  have hg := gap_quote l
  have hf := first_quote l
  have hd : (quoteL l).drop (gapL (quoteL l)).1 = quoteL l := by rw [hg]; rfl
  have hn : endsL (quoteL l) = 0 := by unfold endsL; rw [hg]; simp
  unfold lexE
  rw [evs_tok (by rw [hg]) (by rw [hd]; unfold quoteL; simp) (by rw [hd, hf]) (by rw [hd, hf]; unfold quoteL; simp), hd, hf, hn]
  simp only [List.drop_length]
  have he : evs (1 + 0) [] = [] := by kernel_rfl
  rw [he]
  simp [gathered]
end Go.Proofs.YtfjfbpmlohgghaaDoor
