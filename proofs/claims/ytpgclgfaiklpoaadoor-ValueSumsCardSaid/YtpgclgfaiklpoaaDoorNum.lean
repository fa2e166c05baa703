/- Numbers' digits as list functions (no program). -/
import Derived.Lib.ItoaLen
namespace Go.Proofs.YtpgclgfaiklpoaaDoor
open Go.Lib

abbrev Bs := List UInt8
def I64 (n : Int) : Prop := -9223372036854775808 ≤ n ∧ n ≤ 9223372036854775807
def valF (a : Nat) (l : Bs) : Nat := l.foldl (fun n c => n * 10 + (c.toNat - 48)) a
def valL (l : Bs) : Nat := valF 0 l

theorem valL_snoc (l : Bs) (c : UInt8) : valL (l ++ [c]) = valL l * 10 + (c.toNat - 48) := by
  simp [valL, valF]
theorem valF_mono : ∀ (l : Bs) (a b : Nat), a ≤ b → a ≤ valF b l
  | [], _, _, h => h
  | x :: r, a, b, h => valF_mono r a _ (by show a ≤ b * 10 + (x.toNat - 48); omega)
theorem valL_append (a b : Bs) : valL (a ++ b) = valF (valL a) b := by simp [valL, valF]
theorem valL_take_le (l : Bs) (k : Nat) : valL (l.take k) ≤ valL l := by
  conv => rhs; rw [← List.take_append_drop k l]
  rw [valL_append]
  exact valF_mono _ _ _ (Nat.le_refl _)
theorem valL_take_succ (l : Bs) (k : Nat) (h : k < l.length) : valL (l.take (k + 1)) = valL (l.take k) * 10 + (l[k].toNat - 48) := by
  rw [List.take_succ_eq_append_getElem h, valL_snoc]

def Digs (l : Bs) : Prop := ∀ c ∈ l, 48 ≤ c.toNat ∧ c.toNat ≤ 57
theorem dec_digs : ∀ (u : Nat), Digs (decDigits u) := fun u => by
  induction u using Nat.strongRecOn with
  | _ u ih =>
    rw [decDigits]
    split
    · intro c hc
      rw [List.mem_singleton] at hc
      subst hc
      rw [UInt8.toNat_ofNat']
      omega
    · intro c hc
      rcases List.mem_append.1 hc with h | h
      · exact ih _ (by omega) c h
      · rw [List.mem_singleton] at h
        subst h
        rw [UInt8.toNat_ofNat']
        omega
theorem dec_val : ∀ (u : Nat), valL (decDigits u) = u := fun u => by
  induction u using Nat.strongRecOn with
  | _ u ih =>
    rw [decDigits]
    split
    · rename_i h
      show 0 * 10 + ((UInt8.ofNat (48 + u)).toNat - 48) = u
      rw [UInt8.toNat_ofNat']
      omega
    · rw [valL_snoc, ih _ (by omega), UInt8.toNat_ofNat']
      omega
theorem dec_ne_nil (u : Nat) : decDigits u ≠ [] := fun h => by
  have := decDigits_length u
  rw [h] at this
  have h1 := nDigits_pos u
  simp at this
  omega
theorem nDigits_le19 (u : Nat) (h : u ≤ 9223372036854775808) : nDigits u ≤ 19 := by
  by_cases h1 : u < 10
  · rw [nDigits_small h1]; omega
  · have := lt_pow_nDigits u
    by_cases h2 : nDigits u ≤ 19
    · exact h2
    · exfalso
      have low : ∀ (k v : Nat), nDigits v = k + 1 → 1 ≤ v → 10 ^ k ≤ v := by
        intro k
        induction k with
        | zero => intro v _ h; simpa using h
        | succ k ih =>
          intro v hv h
          have hb : ¬ v < 10 := fun hh => by rw [nDigits_small hh] at hv; omega
          rw [nDigits_big hb] at hv
          have := ih (v / 10) (by omega) (by omega)
          rw [Nat.pow_succ]
          omega
      have h3 := low (nDigits u - 1) u (by omega) (by omega)
      have h4 : 10 ^ 19 ≤ 10 ^ (nDigits u - 1) := Nat.pow_le_pow_right (by omega) (by omega)
      omega
theorem dec_len (u : Nat) (h : u ≤ 9223372036854775808) : 1 ≤ (decDigits u).length ∧ (decDigits u).length ≤ 19 := by
  rw [decDigits_length]
  exact ⟨nDigits_pos u, nDigits_le19 u h⟩

/-- What a text's digits would give. -/
def numV : Bs → Int
  | 45 :: r => -(valL r : Int)
  | l => (valL l : Int)
theorem numV_neg (r : Bs) : numV (45 :: r) = -(valL r : Int) := rfl
theorem numV_digs (l : Bs) (h : Digs l) : numV l = (valL l : Int) := by
  unfold numV
  split
  · have := h 45 (by simp)
    simp at this
  · rfl
theorem numV_itoa (n : Int) : numV (itoa n) = n := by
  unfold itoa
  split
  · rw [numV_neg, dec_val]
    omega
  · rw [numV_digs _ (dec_digs _), dec_val]
    omega
/-- The number whose key a text is; 0, if there is none. -/
def numL (l : Bs) : Int := if (-9223372036854775808 ≤ numV l ∧ numV l ≤ 9223372036854775807) ∧ itoa (numV l) = l then numV l else 0
theorem numL_itoa (n : Int) (h : I64 n) : numL (itoa n) = n := by
  unfold numL
  rw [numV_itoa]
  exact if_pos ⟨h, rfl⟩
theorem numL_none (l : Bs) (h : ∀ n, I64 n → itoa n ≠ l) : numL l = 0 := if_neg (fun hh => h _ hh.1 hh.2)
theorem numL_i64 (l : Bs) : I64 (numL l) := by
  unfold numL
  split
  · rename_i h
    exact h.1
  · exact ⟨by omega, by omega⟩
theorem itoa_inj {a b : Int} (ha : I64 a) (hb : I64 b) (h : itoa a = itoa b) : a = b := by
  rw [← numL_itoa a ha, h, numL_itoa b hb]
theorem itoa_len (n : Int) (h : I64 n) : 1 ≤ (itoa n).length ∧ (itoa n).length ≤ 20 := by
  obtain ⟨h1, h2⟩ := h
  unfold itoa
  split
  · have := dec_len n.natAbs (by omega)
    simp
    omega
  · have := dec_len n.toNat (by omega)
    omega
end Go.Proofs.YtpgclgfaiklpoaaDoor
