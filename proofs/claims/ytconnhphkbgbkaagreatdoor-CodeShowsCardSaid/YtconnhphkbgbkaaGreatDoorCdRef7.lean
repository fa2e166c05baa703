/- What the document's ins asks is what the operations ask. -/
import Derived.Test.YtconnhphkbgbkaaGreatDoorCdRef6
namespace Go.Proofs.YtconnhphkbgbkaaGreatDoor
set_option linter.unusedSimpArgs false
open Go.RowKit Go.Proofs

theorem ins_ext9 (o1 d1 a1 b1 c1 n1 o2 d2 a2 b2 c2 n2 : Int) (s1 s2 : ByteArray) (l1 l2 : List Int) : (Ins.mk o1 d1 a1 b1 c1 s1 n1 l1 = Ins.mk o2 d2 a2 b2 c2 s2 n2 l2) ↔ (o1 = o2 ∧ d1 = d2 ∧ a1 = a2 ∧ b1 = b2 ∧ c1 = c2 ∧ s1 = s2 ∧ n1 = n2 ∧ l1 = l2) := by
  rw [Ins.mk.injEq]
theorem args_ok (x : Ins) (R : Room) : Dm.ok .args x R = x.l.all (within R.regs) := rfl
theorem ins_eq_1 (d a b c : Int) (s : ByteArray) (n : Int) (l : List Int) (p : Proc) (f : Nat) : insD f p ⟨1, d, a, b, c, s, n, l⟩ = insB (roomOf p f) ⟨1, d, a, b, c, s, n, l⟩ := by
  have e1 : insD f p ⟨1, d, a, b, c, s, n, l⟩ = rinsB (⟨#[68, 97, 78, 83]⟩ : ByteArray) ⟨1, d, a, b, c, s, n, l⟩ p f := if_neg (by show (⟨#[68, 97, 78, 83]⟩ : ByteArray) ≠ ⟨#[45]⟩; decide)
  have e2 : insB (roomOf p f) ⟨1, d, a, b, c, s, n, l⟩ = fitsB (roomOf p f) [rD, .val] ⟨1, d, a, b, c, s, n, l⟩ := rfl
  rw [e1, e2]
  have h65 : hasN (⟨#[68, 97, 78, 83]⟩ : ByteArray) 65 = false := by decide
  have h97 : hasN (⟨#[68, 97, 78, 83]⟩ : ByteArray) 97 = true := by decide
  have h114 : hasN (⟨#[68, 97, 78, 83]⟩ : ByteArray) 114 = false := by decide
  have h66 : hasN (⟨#[68, 97, 78, 83]⟩ : ByteArray) 66 = false := by decide
  have h98 : hasN (⟨#[68, 97, 78, 83]⟩ : ByteArray) 98 = false := by decide
  have h83 : hasN (⟨#[68, 97, 78, 83]⟩ : ByteArray) 83 = true := by decide
  have h115 : hasN (⟨#[68, 97, 78, 83]⟩ : ByteArray) 115 = false := by decide
  have h76 : hasN (⟨#[68, 97, 78, 83]⟩ : ByteArray) 76 = false := by decide
  have h68 : hasN (⟨#[68, 97, 78, 83]⟩ : ByteArray) 68 = true := by decide
  have h67 : hasN (⟨#[68, 97, 78, 83]⟩ : ByteArray) 67 = false := by decide
  have h78 : hasN (⟨#[68, 97, 78, 83]⟩ : ByteArray) 78 = true := by decide
  have h118 : hasN (⟨#[68, 97, 78, 83]⟩ : ByteArray) 118 = false := by decide
  have h109 : hasN (⟨#[68, 97, 78, 83]⟩ : ByteArray) 109 = false := by decide
  have h102 : hasN (⟨#[68, 97, 78, 83]⟩ : ByteArray) 102 = false := by decide
  have h106 : hasN (⟨#[68, 97, 78, 83]⟩ : ByteArray) 106 = false := by decide
  simp only [rinsB, rL1, rA2, rA1, rB2, rT2, rT1, rnumB, regB, h65, h97, h114, h66, h98, h83, h115, h76, h68, h67, h78, h118, h109, h102, h106, fitsB, Dm.ok, Dm.next, Knd.ok, Fld.get, Fld.zero, bareI, roomOf, rD, rA, rB, rC, ins_ext9, if_true, Bool.false_eq_true, if_false]
  cases l with
  | cons y r => simp
  | nil =>
  rw [Bool.eq_iff_iff]
  simp only [Bool.and_eq_true, Bool.or_eq_true, Bool.not_eq_true', decide_eq_true_eq, Bool.and_false, Bool.not_true, Bool.or_true, Bool.or_false, Bool.not_false, true_and, and_true]
  grind
theorem ins_eq_2 (d a b c : Int) (s : ByteArray) (n : Int) (l : List Int) (p : Proc) (f : Nat) : insD f p ⟨2, d, a, b, c, s, n, l⟩ = insB (roomOf p f) ⟨2, d, a, b, c, s, n, l⟩ := by
  have e1 : insD f p ⟨2, d, a, b, c, s, n, l⟩ = rinsB (⟨#[68, 118]⟩ : ByteArray) ⟨2, d, a, b, c, s, n, l⟩ p f := if_neg (by show (⟨#[68, 118]⟩ : ByteArray) ≠ ⟨#[45]⟩; decide)
  have e2 : insB (roomOf p f) ⟨2, d, a, b, c, s, n, l⟩ = fitsB (roomOf p f) [rD, .num .var_] ⟨2, d, a, b, c, s, n, l⟩ := rfl
  rw [e1, e2]
  have h65 : hasN (⟨#[68, 118]⟩ : ByteArray) 65 = false := by decide
  have h97 : hasN (⟨#[68, 118]⟩ : ByteArray) 97 = false := by decide
  have h114 : hasN (⟨#[68, 118]⟩ : ByteArray) 114 = false := by decide
  have h66 : hasN (⟨#[68, 118]⟩ : ByteArray) 66 = false := by decide
  have h98 : hasN (⟨#[68, 118]⟩ : ByteArray) 98 = false := by decide
  have h83 : hasN (⟨#[68, 118]⟩ : ByteArray) 83 = false := by decide
  have h115 : hasN (⟨#[68, 118]⟩ : ByteArray) 115 = false := by decide
  have h76 : hasN (⟨#[68, 118]⟩ : ByteArray) 76 = false := by decide
  have h68 : hasN (⟨#[68, 118]⟩ : ByteArray) 68 = true := by decide
  have h67 : hasN (⟨#[68, 118]⟩ : ByteArray) 67 = false := by decide
  have h78 : hasN (⟨#[68, 118]⟩ : ByteArray) 78 = false := by decide
  have h118 : hasN (⟨#[68, 118]⟩ : ByteArray) 118 = true := by decide
  have h109 : hasN (⟨#[68, 118]⟩ : ByteArray) 109 = false := by decide
  have h102 : hasN (⟨#[68, 118]⟩ : ByteArray) 102 = false := by decide
  have h106 : hasN (⟨#[68, 118]⟩ : ByteArray) 106 = false := by decide
  simp only [rinsB, rL1, rA2, rA1, rB2, rT2, rT1, rnumB, regB, h65, h97, h114, h66, h98, h83, h115, h76, h68, h67, h78, h118, h109, h102, h106, fitsB, Dm.ok, Dm.next, Knd.ok, Fld.get, Fld.zero, bareI, roomOf, rD, rA, rB, rC, ins_ext9, if_true, Bool.false_eq_true, if_false]
  cases l with
  | cons y r => simp
  | nil =>
  rw [Bool.eq_iff_iff]
  simp only [Bool.and_eq_true, Bool.or_eq_true, Bool.not_eq_true', decide_eq_true_eq, Bool.and_false, Bool.not_true, Bool.or_true, Bool.or_false, Bool.not_false, true_and, and_true]
  grind
theorem ins_eq_3 (d a b c : Int) (s : ByteArray) (n : Int) (l : List Int) (p : Proc) (f : Nat) : insD f p ⟨3, d, a, b, c, s, n, l⟩ = insB (roomOf p f) ⟨3, d, a, b, c, s, n, l⟩ := by
  have e1 : insD f p ⟨3, d, a, b, c, s, n, l⟩ = rinsB (⟨#[65, 118]⟩ : ByteArray) ⟨3, d, a, b, c, s, n, l⟩ p f := if_neg (by show (⟨#[65, 118]⟩ : ByteArray) ≠ ⟨#[45]⟩; decide)
  have e2 : insB (roomOf p f) ⟨3, d, a, b, c, s, n, l⟩ = fitsB (roomOf p f) [rA, .num .var_] ⟨3, d, a, b, c, s, n, l⟩ := rfl
  rw [e1, e2]
  have h65 : hasN (⟨#[65, 118]⟩ : ByteArray) 65 = true := by decide
  have h97 : hasN (⟨#[65, 118]⟩ : ByteArray) 97 = false := by decide
  have h114 : hasN (⟨#[65, 118]⟩ : ByteArray) 114 = false := by decide
  have h66 : hasN (⟨#[65, 118]⟩ : ByteArray) 66 = false := by decide
  have h98 : hasN (⟨#[65, 118]⟩ : ByteArray) 98 = false := by decide
  have h83 : hasN (⟨#[65, 118]⟩ : ByteArray) 83 = false := by decide
  have h115 : hasN (⟨#[65, 118]⟩ : ByteArray) 115 = false := by decide
  have h76 : hasN (⟨#[65, 118]⟩ : ByteArray) 76 = false := by decide
  have h68 : hasN (⟨#[65, 118]⟩ : ByteArray) 68 = false := by decide
  have h67 : hasN (⟨#[65, 118]⟩ : ByteArray) 67 = false := by decide
  have h78 : hasN (⟨#[65, 118]⟩ : ByteArray) 78 = false := by decide
  have h118 : hasN (⟨#[65, 118]⟩ : ByteArray) 118 = true := by decide
  have h109 : hasN (⟨#[65, 118]⟩ : ByteArray) 109 = false := by decide
  have h102 : hasN (⟨#[65, 118]⟩ : ByteArray) 102 = false := by decide
  have h106 : hasN (⟨#[65, 118]⟩ : ByteArray) 106 = false := by decide
  simp only [rinsB, rL1, rA2, rA1, rB2, rT2, rT1, rnumB, regB, h65, h97, h114, h66, h98, h83, h115, h76, h68, h67, h78, h118, h109, h102, h106, fitsB, Dm.ok, Dm.next, Knd.ok, Fld.get, Fld.zero, bareI, roomOf, rD, rA, rB, rC, ins_ext9, if_true, Bool.false_eq_true, if_false]
  cases l with
  | cons y r => simp
  | nil =>
  rw [Bool.eq_iff_iff]
  simp only [Bool.and_eq_true, Bool.or_eq_true, Bool.not_eq_true', decide_eq_true_eq, Bool.and_false, Bool.not_true, Bool.or_true, Bool.or_false, Bool.not_false, true_and, and_true]
  grind
theorem ins_eq_4 (d a b c : Int) (s : ByteArray) (n : Int) (l : List Int) (p : Proc) (f : Nat) : insD f p ⟨4, d, a, b, c, s, n, l⟩ = insB (roomOf p f) ⟨4, d, a, b, c, s, n, l⟩ := by
  have e1 : insD f p ⟨4, d, a, b, c, s, n, l⟩ = rinsB (⟨#[68]⟩ : ByteArray) ⟨4, d, a, b, c, s, n, l⟩ p f := if_neg (by show (⟨#[68]⟩ : ByteArray) ≠ ⟨#[45]⟩; decide)
  have e2 : insB (roomOf p f) ⟨4, d, a, b, c, s, n, l⟩ = fitsB (roomOf p f) [rD] ⟨4, d, a, b, c, s, n, l⟩ := rfl
  rw [e1, e2]
  have h65 : hasN (⟨#[68]⟩ : ByteArray) 65 = false := by decide
  have h97 : hasN (⟨#[68]⟩ : ByteArray) 97 = false := by decide
  have h114 : hasN (⟨#[68]⟩ : ByteArray) 114 = false := by decide
  have h66 : hasN (⟨#[68]⟩ : ByteArray) 66 = false := by decide
  have h98 : hasN (⟨#[68]⟩ : ByteArray) 98 = false := by decide
  have h83 : hasN (⟨#[68]⟩ : ByteArray) 83 = false := by decide
  have h115 : hasN (⟨#[68]⟩ : ByteArray) 115 = false := by decide
  have h76 : hasN (⟨#[68]⟩ : ByteArray) 76 = false := by decide
  have h68 : hasN (⟨#[68]⟩ : ByteArray) 68 = true := by decide
  have h67 : hasN (⟨#[68]⟩ : ByteArray) 67 = false := by decide
  have h78 : hasN (⟨#[68]⟩ : ByteArray) 78 = false := by decide
  have h118 : hasN (⟨#[68]⟩ : ByteArray) 118 = false := by decide
  have h109 : hasN (⟨#[68]⟩ : ByteArray) 109 = false := by decide
  have h102 : hasN (⟨#[68]⟩ : ByteArray) 102 = false := by decide
  have h106 : hasN (⟨#[68]⟩ : ByteArray) 106 = false := by decide
  simp only [rinsB, rL1, rA2, rA1, rB2, rT2, rT1, rnumB, regB, h65, h97, h114, h66, h98, h83, h115, h76, h68, h67, h78, h118, h109, h102, h106, fitsB, Dm.ok, Dm.next, Knd.ok, Fld.get, Fld.zero, bareI, roomOf, rD, rA, rB, rC, ins_ext9, if_true, Bool.false_eq_true, if_false]
  cases l with
  | cons y r => simp
  | nil =>
  rw [Bool.eq_iff_iff]
  simp only [Bool.and_eq_true, Bool.or_eq_true, Bool.not_eq_true', decide_eq_true_eq, Bool.and_false, Bool.not_true, Bool.or_true, Bool.or_false, Bool.not_false, true_and, and_true]
  grind
theorem ins_eq_5 (d a b c : Int) (s : ByteArray) (n : Int) (l : List Int) (p : Proc) (f : Nat) : insD f p ⟨5, d, a, b, c, s, n, l⟩ = insB (roomOf p f) ⟨5, d, a, b, c, s, n, l⟩ := by
  have e1 : insD f p ⟨5, d, a, b, c, s, n, l⟩ = rinsB (⟨#[68]⟩ : ByteArray) ⟨5, d, a, b, c, s, n, l⟩ p f := if_neg (by show (⟨#[68]⟩ : ByteArray) ≠ ⟨#[45]⟩; decide)
  have e2 : insB (roomOf p f) ⟨5, d, a, b, c, s, n, l⟩ = fitsB (roomOf p f) [rD] ⟨5, d, a, b, c, s, n, l⟩ := rfl
  rw [e1, e2]
  have h65 : hasN (⟨#[68]⟩ : ByteArray) 65 = false := by decide
  have h97 : hasN (⟨#[68]⟩ : ByteArray) 97 = false := by decide
  have h114 : hasN (⟨#[68]⟩ : ByteArray) 114 = false := by decide
  have h66 : hasN (⟨#[68]⟩ : ByteArray) 66 = false := by decide
  have h98 : hasN (⟨#[68]⟩ : ByteArray) 98 = false := by decide
  have h83 : hasN (⟨#[68]⟩ : ByteArray) 83 = false := by decide
  have h115 : hasN (⟨#[68]⟩ : ByteArray) 115 = false := by decide
  have h76 : hasN (⟨#[68]⟩ : ByteArray) 76 = false := by decide
  have h68 : hasN (⟨#[68]⟩ : ByteArray) 68 = true := by decide
  have h67 : hasN (⟨#[68]⟩ : ByteArray) 67 = false := by decide
  have h78 : hasN (⟨#[68]⟩ : ByteArray) 78 = false := by decide
  have h118 : hasN (⟨#[68]⟩ : ByteArray) 118 = false := by decide
  have h109 : hasN (⟨#[68]⟩ : ByteArray) 109 = false := by decide
  have h102 : hasN (⟨#[68]⟩ : ByteArray) 102 = false := by decide
  have h106 : hasN (⟨#[68]⟩ : ByteArray) 106 = false := by decide
  simp only [rinsB, rL1, rA2, rA1, rB2, rT2, rT1, rnumB, regB, h65, h97, h114, h66, h98, h83, h115, h76, h68, h67, h78, h118, h109, h102, h106, fitsB, Dm.ok, Dm.next, Knd.ok, Fld.get, Fld.zero, bareI, roomOf, rD, rA, rB, rC, ins_ext9, if_true, Bool.false_eq_true, if_false]
  cases l with
  | cons y r => simp
  | nil =>
  rw [Bool.eq_iff_iff]
  simp only [Bool.and_eq_true, Bool.or_eq_true, Bool.not_eq_true', decide_eq_true_eq, Bool.and_false, Bool.not_true, Bool.or_true, Bool.or_false, Bool.not_false, true_and, and_true]
  grind
theorem ins_eq_26 (d a b c : Int) (s : ByteArray) (n : Int) (l : List Int) (p : Proc) (f : Nat) : insD f p ⟨26, d, a, b, c, s, n, l⟩ = insB (roomOf p f) ⟨26, d, a, b, c, s, n, l⟩ := by
  have e1 : insD f p ⟨26, d, a, b, c, s, n, l⟩ = rinsB (⟨#[68]⟩ : ByteArray) ⟨26, d, a, b, c, s, n, l⟩ p f := if_neg (by show (⟨#[68]⟩ : ByteArray) ≠ ⟨#[45]⟩; decide)
  have e2 : insB (roomOf p f) ⟨26, d, a, b, c, s, n, l⟩ = fitsB (roomOf p f) [rD] ⟨26, d, a, b, c, s, n, l⟩ := rfl
  rw [e1, e2]
  have h65 : hasN (⟨#[68]⟩ : ByteArray) 65 = false := by decide
  have h97 : hasN (⟨#[68]⟩ : ByteArray) 97 = false := by decide
  have h114 : hasN (⟨#[68]⟩ : ByteArray) 114 = false := by decide
  have h66 : hasN (⟨#[68]⟩ : ByteArray) 66 = false := by decide
  have h98 : hasN (⟨#[68]⟩ : ByteArray) 98 = false := by decide
  have h83 : hasN (⟨#[68]⟩ : ByteArray) 83 = false := by decide
  have h115 : hasN (⟨#[68]⟩ : ByteArray) 115 = false := by decide
  have h76 : hasN (⟨#[68]⟩ : ByteArray) 76 = false := by decide
  have h68 : hasN (⟨#[68]⟩ : ByteArray) 68 = true := by decide
  have h67 : hasN (⟨#[68]⟩ : ByteArray) 67 = false := by decide
  have h78 : hasN (⟨#[68]⟩ : ByteArray) 78 = false := by decide
  have h118 : hasN (⟨#[68]⟩ : ByteArray) 118 = false := by decide
  have h109 : hasN (⟨#[68]⟩ : ByteArray) 109 = false := by decide
  have h102 : hasN (⟨#[68]⟩ : ByteArray) 102 = false := by decide
  have h106 : hasN (⟨#[68]⟩ : ByteArray) 106 = false := by decide
  simp only [rinsB, rL1, rA2, rA1, rB2, rT2, rT1, rnumB, regB, h65, h97, h114, h66, h98, h83, h115, h76, h68, h67, h78, h118, h109, h102, h106, fitsB, Dm.ok, Dm.next, Knd.ok, Fld.get, Fld.zero, bareI, roomOf, rD, rA, rB, rC, ins_ext9, if_true, Bool.false_eq_true, if_false]
  cases l with
  | cons y r => simp
  | nil =>
  rw [Bool.eq_iff_iff]
  simp only [Bool.and_eq_true, Bool.or_eq_true, Bool.not_eq_true', decide_eq_true_eq, Bool.and_false, Bool.not_true, Bool.or_true, Bool.or_false, Bool.not_false, true_and, and_true]
  grind
theorem ins_eq_6 (d a b c : Int) (s : ByteArray) (n : Int) (l : List Int) (p : Proc) (f : Nat) : insD f p ⟨6, d, a, b, c, s, n, l⟩ = insB (roomOf p f) ⟨6, d, a, b, c, s, n, l⟩ := by
  have e1 : insD f p ⟨6, d, a, b, c, s, n, l⟩ = rinsB (⟨#[68, 109]⟩ : ByteArray) ⟨6, d, a, b, c, s, n, l⟩ p f := if_neg (by show (⟨#[68, 109]⟩ : ByteArray) ≠ ⟨#[45]⟩; decide)
  have e2 : insB (roomOf p f) ⟨6, d, a, b, c, s, n, l⟩ = fitsB (roomOf p f) [rD, .num .mark] ⟨6, d, a, b, c, s, n, l⟩ := rfl
  rw [e1, e2]
  have h65 : hasN (⟨#[68, 109]⟩ : ByteArray) 65 = false := by decide
  have h97 : hasN (⟨#[68, 109]⟩ : ByteArray) 97 = false := by decide
  have h114 : hasN (⟨#[68, 109]⟩ : ByteArray) 114 = false := by decide
  have h66 : hasN (⟨#[68, 109]⟩ : ByteArray) 66 = false := by decide
  have h98 : hasN (⟨#[68, 109]⟩ : ByteArray) 98 = false := by decide
  have h83 : hasN (⟨#[68, 109]⟩ : ByteArray) 83 = false := by decide
  have h115 : hasN (⟨#[68, 109]⟩ : ByteArray) 115 = false := by decide
  have h76 : hasN (⟨#[68, 109]⟩ : ByteArray) 76 = false := by decide
  have h68 : hasN (⟨#[68, 109]⟩ : ByteArray) 68 = true := by decide
  have h67 : hasN (⟨#[68, 109]⟩ : ByteArray) 67 = false := by decide
  have h78 : hasN (⟨#[68, 109]⟩ : ByteArray) 78 = false := by decide
  have h118 : hasN (⟨#[68, 109]⟩ : ByteArray) 118 = false := by decide
  have h109 : hasN (⟨#[68, 109]⟩ : ByteArray) 109 = true := by decide
  have h102 : hasN (⟨#[68, 109]⟩ : ByteArray) 102 = false := by decide
  have h106 : hasN (⟨#[68, 109]⟩ : ByteArray) 106 = false := by decide
  simp only [rinsB, rL1, rA2, rA1, rB2, rT2, rT1, rnumB, regB, h65, h97, h114, h66, h98, h83, h115, h76, h68, h67, h78, h118, h109, h102, h106, fitsB, Dm.ok, Dm.next, Knd.ok, Fld.get, Fld.zero, bareI, roomOf, rD, rA, rB, rC, ins_ext9, if_true, Bool.false_eq_true, if_false]
  cases l with
  | cons y r => simp
  | nil =>
  rw [Bool.eq_iff_iff]
  simp only [Bool.and_eq_true, Bool.or_eq_true, Bool.not_eq_true', decide_eq_true_eq, Bool.and_false, Bool.not_true, Bool.or_true, Bool.or_false, Bool.not_false, true_and, and_true]
  grind
theorem ins_eq_7 (d a b c : Int) (s : ByteArray) (n : Int) (l : List Int) (p : Proc) (f : Nat) : insD f p ⟨7, d, a, b, c, s, n, l⟩ = insB (roomOf p f) ⟨7, d, a, b, c, s, n, l⟩ := by
  have e1 : insD f p ⟨7, d, a, b, c, s, n, l⟩ = rinsB (⟨#[68, 102]⟩ : ByteArray) ⟨7, d, a, b, c, s, n, l⟩ p f := if_neg (by show (⟨#[68, 102]⟩ : ByteArray) ≠ ⟨#[45]⟩; decide)
  have e2 : insB (roomOf p f) ⟨7, d, a, b, c, s, n, l⟩ = fitsB (roomOf p f) [rD, .num .fun_] ⟨7, d, a, b, c, s, n, l⟩ := rfl
  rw [e1, e2]
  have h65 : hasN (⟨#[68, 102]⟩ : ByteArray) 65 = false := by decide
  have h97 : hasN (⟨#[68, 102]⟩ : ByteArray) 97 = false := by decide
  have h114 : hasN (⟨#[68, 102]⟩ : ByteArray) 114 = false := by decide
  have h66 : hasN (⟨#[68, 102]⟩ : ByteArray) 66 = false := by decide
  have h98 : hasN (⟨#[68, 102]⟩ : ByteArray) 98 = false := by decide
  have h83 : hasN (⟨#[68, 102]⟩ : ByteArray) 83 = false := by decide
  have h115 : hasN (⟨#[68, 102]⟩ : ByteArray) 115 = false := by decide
  have h76 : hasN (⟨#[68, 102]⟩ : ByteArray) 76 = false := by decide
  have h68 : hasN (⟨#[68, 102]⟩ : ByteArray) 68 = true := by decide
  have h67 : hasN (⟨#[68, 102]⟩ : ByteArray) 67 = false := by decide
  have h78 : hasN (⟨#[68, 102]⟩ : ByteArray) 78 = false := by decide
  have h118 : hasN (⟨#[68, 102]⟩ : ByteArray) 118 = false := by decide
  have h109 : hasN (⟨#[68, 102]⟩ : ByteArray) 109 = false := by decide
  have h102 : hasN (⟨#[68, 102]⟩ : ByteArray) 102 = true := by decide
  have h106 : hasN (⟨#[68, 102]⟩ : ByteArray) 106 = false := by decide
  simp only [rinsB, rL1, rA2, rA1, rB2, rT2, rT1, rnumB, regB, h65, h97, h114, h66, h98, h83, h115, h76, h68, h67, h78, h118, h109, h102, h106, fitsB, Dm.ok, Dm.next, Knd.ok, Fld.get, Fld.zero, bareI, roomOf, rD, rA, rB, rC, ins_ext9, if_true, Bool.false_eq_true, if_false]
  cases l with
  | cons y r => simp
  | nil =>
  rw [Bool.eq_iff_iff]
  simp only [Bool.and_eq_true, Bool.or_eq_true, Bool.not_eq_true', decide_eq_true_eq, Bool.and_false, Bool.not_true, Bool.or_true, Bool.or_false, Bool.not_false, true_and, and_true]
  grind
theorem ins_eq_8 (d a b c : Int) (s : ByteArray) (n : Int) (l : List Int) (p : Proc) (f : Nat) : insD f p ⟨8, d, a, b, c, s, n, l⟩ = insB (roomOf p f) ⟨8, d, a, b, c, s, n, l⟩ := by
  have e1 : insD f p ⟨8, d, a, b, c, s, n, l⟩ = rinsB (⟨#[68, 65, 83]⟩ : ByteArray) ⟨8, d, a, b, c, s, n, l⟩ p f := if_neg (by show (⟨#[68, 65, 83]⟩ : ByteArray) ≠ ⟨#[45]⟩; decide)
  have e2 : insB (roomOf p f) ⟨8, d, a, b, c, s, n, l⟩ = fitsB (roomOf p f) [rD, rA, .key] ⟨8, d, a, b, c, s, n, l⟩ := rfl
  rw [e1, e2]
  have h65 : hasN (⟨#[68, 65, 83]⟩ : ByteArray) 65 = true := by decide
  have h97 : hasN (⟨#[68, 65, 83]⟩ : ByteArray) 97 = false := by decide
  have h114 : hasN (⟨#[68, 65, 83]⟩ : ByteArray) 114 = false := by decide
  have h66 : hasN (⟨#[68, 65, 83]⟩ : ByteArray) 66 = false := by decide
  have h98 : hasN (⟨#[68, 65, 83]⟩ : ByteArray) 98 = false := by decide
  have h83 : hasN (⟨#[68, 65, 83]⟩ : ByteArray) 83 = true := by decide
  have h115 : hasN (⟨#[68, 65, 83]⟩ : ByteArray) 115 = false := by decide
  have h76 : hasN (⟨#[68, 65, 83]⟩ : ByteArray) 76 = false := by decide
  have h68 : hasN (⟨#[68, 65, 83]⟩ : ByteArray) 68 = true := by decide
  have h67 : hasN (⟨#[68, 65, 83]⟩ : ByteArray) 67 = false := by decide
  have h78 : hasN (⟨#[68, 65, 83]⟩ : ByteArray) 78 = false := by decide
  have h118 : hasN (⟨#[68, 65, 83]⟩ : ByteArray) 118 = false := by decide
  have h109 : hasN (⟨#[68, 65, 83]⟩ : ByteArray) 109 = false := by decide
  have h102 : hasN (⟨#[68, 65, 83]⟩ : ByteArray) 102 = false := by decide
  have h106 : hasN (⟨#[68, 65, 83]⟩ : ByteArray) 106 = false := by decide
  simp only [rinsB, rL1, rA2, rA1, rB2, rT2, rT1, rnumB, regB, h65, h97, h114, h66, h98, h83, h115, h76, h68, h67, h78, h118, h109, h102, h106, fitsB, Dm.ok, Dm.next, Knd.ok, Fld.get, Fld.zero, bareI, roomOf, rD, rA, rB, rC, ins_ext9, if_true, Bool.false_eq_true, if_false]
  cases l with
  | cons y r => simp
  | nil =>
  rw [Bool.eq_iff_iff]
  simp only [Bool.and_eq_true, Bool.or_eq_true, Bool.not_eq_true', decide_eq_true_eq, Bool.and_false, Bool.not_true, Bool.or_true, Bool.or_false, Bool.not_false, true_and, and_true]
  grind
theorem ins_eq_9 (d a b c : Int) (s : ByteArray) (n : Int) (l : List Int) (p : Proc) (f : Nat) : insD f p ⟨9, d, a, b, c, s, n, l⟩ = insB (roomOf p f) ⟨9, d, a, b, c, s, n, l⟩ := by
  have e1 : insD f p ⟨9, d, a, b, c, s, n, l⟩ = rinsB (⟨#[65, 83, 66]⟩ : ByteArray) ⟨9, d, a, b, c, s, n, l⟩ p f := if_neg (by show (⟨#[65, 83, 66]⟩ : ByteArray) ≠ ⟨#[45]⟩; decide)
  have e2 : insB (roomOf p f) ⟨9, d, a, b, c, s, n, l⟩ = fitsB (roomOf p f) [rA, .key, rB] ⟨9, d, a, b, c, s, n, l⟩ := rfl
  rw [e1, e2]
  have h65 : hasN (⟨#[65, 83, 66]⟩ : ByteArray) 65 = true := by decide
  have h97 : hasN (⟨#[65, 83, 66]⟩ : ByteArray) 97 = false := by decide
  have h114 : hasN (⟨#[65, 83, 66]⟩ : ByteArray) 114 = false := by decide
  have h66 : hasN (⟨#[65, 83, 66]⟩ : ByteArray) 66 = true := by decide
  have h98 : hasN (⟨#[65, 83, 66]⟩ : ByteArray) 98 = false := by decide
  have h83 : hasN (⟨#[65, 83, 66]⟩ : ByteArray) 83 = true := by decide
  have h115 : hasN (⟨#[65, 83, 66]⟩ : ByteArray) 115 = false := by decide
  have h76 : hasN (⟨#[65, 83, 66]⟩ : ByteArray) 76 = false := by decide
  have h68 : hasN (⟨#[65, 83, 66]⟩ : ByteArray) 68 = false := by decide
  have h67 : hasN (⟨#[65, 83, 66]⟩ : ByteArray) 67 = false := by decide
  have h78 : hasN (⟨#[65, 83, 66]⟩ : ByteArray) 78 = false := by decide
  have h118 : hasN (⟨#[65, 83, 66]⟩ : ByteArray) 118 = false := by decide
  have h109 : hasN (⟨#[65, 83, 66]⟩ : ByteArray) 109 = false := by decide
  have h102 : hasN (⟨#[65, 83, 66]⟩ : ByteArray) 102 = false := by decide
  have h106 : hasN (⟨#[65, 83, 66]⟩ : ByteArray) 106 = false := by decide
  simp only [rinsB, rL1, rA2, rA1, rB2, rT2, rT1, rnumB, regB, h65, h97, h114, h66, h98, h83, h115, h76, h68, h67, h78, h118, h109, h102, h106, fitsB, Dm.ok, Dm.next, Knd.ok, Fld.get, Fld.zero, bareI, roomOf, rD, rA, rB, rC, ins_ext9, if_true, Bool.false_eq_true, if_false]
  cases l with
  | cons y r => simp
  | nil =>
  rw [Bool.eq_iff_iff]
  simp only [Bool.and_eq_true, Bool.or_eq_true, Bool.not_eq_true', decide_eq_true_eq, Bool.and_false, Bool.not_true, Bool.or_true, Bool.or_false, Bool.not_false, true_and, and_true]
  grind
theorem ins_eq_10 (d a b c : Int) (s : ByteArray) (n : Int) (l : List Int) (p : Proc) (f : Nat) : insD f p ⟨10, d, a, b, c, s, n, l⟩ = insB (roomOf p f) ⟨10, d, a, b, c, s, n, l⟩ := by
  have e1 : insD f p ⟨10, d, a, b, c, s, n, l⟩ = rinsB (⟨#[68, 65, 66]⟩ : ByteArray) ⟨10, d, a, b, c, s, n, l⟩ p f := if_neg (by show (⟨#[68, 65, 66]⟩ : ByteArray) ≠ ⟨#[45]⟩; decide)
  have e2 : insB (roomOf p f) ⟨10, d, a, b, c, s, n, l⟩ = fitsB (roomOf p f) [rD, rA, rB] ⟨10, d, a, b, c, s, n, l⟩ := rfl
  rw [e1, e2]
  have h65 : hasN (⟨#[68, 65, 66]⟩ : ByteArray) 65 = true := by decide
  have h97 : hasN (⟨#[68, 65, 66]⟩ : ByteArray) 97 = false := by decide
  have h114 : hasN (⟨#[68, 65, 66]⟩ : ByteArray) 114 = false := by decide
  have h66 : hasN (⟨#[68, 65, 66]⟩ : ByteArray) 66 = true := by decide
  have h98 : hasN (⟨#[68, 65, 66]⟩ : ByteArray) 98 = false := by decide
  have h83 : hasN (⟨#[68, 65, 66]⟩ : ByteArray) 83 = false := by decide
  have h115 : hasN (⟨#[68, 65, 66]⟩ : ByteArray) 115 = false := by decide
  have h76 : hasN (⟨#[68, 65, 66]⟩ : ByteArray) 76 = false := by decide
  have h68 : hasN (⟨#[68, 65, 66]⟩ : ByteArray) 68 = true := by decide
  have h67 : hasN (⟨#[68, 65, 66]⟩ : ByteArray) 67 = false := by decide
  have h78 : hasN (⟨#[68, 65, 66]⟩ : ByteArray) 78 = false := by decide
  have h118 : hasN (⟨#[68, 65, 66]⟩ : ByteArray) 118 = false := by decide
  have h109 : hasN (⟨#[68, 65, 66]⟩ : ByteArray) 109 = false := by decide
  have h102 : hasN (⟨#[68, 65, 66]⟩ : ByteArray) 102 = false := by decide
  have h106 : hasN (⟨#[68, 65, 66]⟩ : ByteArray) 106 = false := by decide
  simp only [rinsB, rL1, rA2, rA1, rB2, rT2, rT1, rnumB, regB, h65, h97, h114, h66, h98, h83, h115, h76, h68, h67, h78, h118, h109, h102, h106, fitsB, Dm.ok, Dm.next, Knd.ok, Fld.get, Fld.zero, bareI, roomOf, rD, rA, rB, rC, ins_ext9, if_true, Bool.false_eq_true, if_false]
  cases l with
  | cons y r => simp
  | nil =>
  rw [Bool.eq_iff_iff]
  simp only [Bool.and_eq_true, Bool.or_eq_true, Bool.not_eq_true', decide_eq_true_eq, Bool.and_false, Bool.not_true, Bool.or_true, Bool.or_false, Bool.not_false, true_and, and_true]
  grind
theorem ins_eq_11 (d a b c : Int) (s : ByteArray) (n : Int) (l : List Int) (p : Proc) (f : Nat) : insD f p ⟨11, d, a, b, c, s, n, l⟩ = insB (roomOf p f) ⟨11, d, a, b, c, s, n, l⟩ := by
  have e1 : insD f p ⟨11, d, a, b, c, s, n, l⟩ = rinsB (⟨#[65, 66, 67]⟩ : ByteArray) ⟨11, d, a, b, c, s, n, l⟩ p f := if_neg (by show (⟨#[65, 66, 67]⟩ : ByteArray) ≠ ⟨#[45]⟩; decide)
  have e2 : insB (roomOf p f) ⟨11, d, a, b, c, s, n, l⟩ = fitsB (roomOf p f) [rA, rB, rC] ⟨11, d, a, b, c, s, n, l⟩ := rfl
  rw [e1, e2]
  have h65 : hasN (⟨#[65, 66, 67]⟩ : ByteArray) 65 = true := by decide
  have h97 : hasN (⟨#[65, 66, 67]⟩ : ByteArray) 97 = false := by decide
  have h114 : hasN (⟨#[65, 66, 67]⟩ : ByteArray) 114 = false := by decide
  have h66 : hasN (⟨#[65, 66, 67]⟩ : ByteArray) 66 = true := by decide
  have h98 : hasN (⟨#[65, 66, 67]⟩ : ByteArray) 98 = false := by decide
  have h83 : hasN (⟨#[65, 66, 67]⟩ : ByteArray) 83 = false := by decide
  have h115 : hasN (⟨#[65, 66, 67]⟩ : ByteArray) 115 = false := by decide
  have h76 : hasN (⟨#[65, 66, 67]⟩ : ByteArray) 76 = false := by decide
  have h68 : hasN (⟨#[65, 66, 67]⟩ : ByteArray) 68 = false := by decide
  have h67 : hasN (⟨#[65, 66, 67]⟩ : ByteArray) 67 = true := by decide
  have h78 : hasN (⟨#[65, 66, 67]⟩ : ByteArray) 78 = false := by decide
  have h118 : hasN (⟨#[65, 66, 67]⟩ : ByteArray) 118 = false := by decide
  have h109 : hasN (⟨#[65, 66, 67]⟩ : ByteArray) 109 = false := by decide
  have h102 : hasN (⟨#[65, 66, 67]⟩ : ByteArray) 102 = false := by decide
  have h106 : hasN (⟨#[65, 66, 67]⟩ : ByteArray) 106 = false := by decide
  simp only [rinsB, rL1, rA2, rA1, rB2, rT2, rT1, rnumB, regB, h65, h97, h114, h66, h98, h83, h115, h76, h68, h67, h78, h118, h109, h102, h106, fitsB, Dm.ok, Dm.next, Knd.ok, Fld.get, Fld.zero, bareI, roomOf, rD, rA, rB, rC, ins_ext9, if_true, Bool.false_eq_true, if_false]
  cases l with
  | cons y r => simp
  | nil =>
  rw [Bool.eq_iff_iff]
  simp only [Bool.and_eq_true, Bool.or_eq_true, Bool.not_eq_true', decide_eq_true_eq, Bool.and_false, Bool.not_true, Bool.or_true, Bool.or_false, Bool.not_false, true_and, and_true]
  grind
theorem ins_eq_12 (d a b c : Int) (s : ByteArray) (n : Int) (l : List Int) (p : Proc) (f : Nat) : insD f p ⟨12, d, a, b, c, s, n, l⟩ = insB (roomOf p f) ⟨12, d, a, b, c, s, n, l⟩ := by
  have e1 : insD f p ⟨12, d, a, b, c, s, n, l⟩ = rinsB (⟨#[68, 65, 98, 76, 109]⟩ : ByteArray) ⟨12, d, a, b, c, s, n, l⟩ p f := if_neg (by show (⟨#[68, 65, 98, 76, 109]⟩ : ByteArray) ≠ ⟨#[45]⟩; decide)
  have e2 : insB (roomOf p f) ⟨12, d, a, b, c, s, n, l⟩ = fitsB (roomOf p f) [rD, rA, .reg (-1) .b, .args, .num .mark] ⟨12, d, a, b, c, s, n, l⟩ := rfl
  rw [e1, e2]
  have h65 : hasN (⟨#[68, 65, 98, 76, 109]⟩ : ByteArray) 65 = true := by decide
  have h97 : hasN (⟨#[68, 65, 98, 76, 109]⟩ : ByteArray) 97 = false := by decide
  have h114 : hasN (⟨#[68, 65, 98, 76, 109]⟩ : ByteArray) 114 = false := by decide
  have h66 : hasN (⟨#[68, 65, 98, 76, 109]⟩ : ByteArray) 66 = false := by decide
  have h98 : hasN (⟨#[68, 65, 98, 76, 109]⟩ : ByteArray) 98 = true := by decide
  have h83 : hasN (⟨#[68, 65, 98, 76, 109]⟩ : ByteArray) 83 = false := by decide
  have h115 : hasN (⟨#[68, 65, 98, 76, 109]⟩ : ByteArray) 115 = false := by decide
  have h76 : hasN (⟨#[68, 65, 98, 76, 109]⟩ : ByteArray) 76 = true := by decide
  have h68 : hasN (⟨#[68, 65, 98, 76, 109]⟩ : ByteArray) 68 = true := by decide
  have h67 : hasN (⟨#[68, 65, 98, 76, 109]⟩ : ByteArray) 67 = false := by decide
  have h78 : hasN (⟨#[68, 65, 98, 76, 109]⟩ : ByteArray) 78 = false := by decide
  have h118 : hasN (⟨#[68, 65, 98, 76, 109]⟩ : ByteArray) 118 = false := by decide
  have h109 : hasN (⟨#[68, 65, 98, 76, 109]⟩ : ByteArray) 109 = true := by decide
  have h102 : hasN (⟨#[68, 65, 98, 76, 109]⟩ : ByteArray) 102 = false := by decide
  have h106 : hasN (⟨#[68, 65, 98, 76, 109]⟩ : ByteArray) 106 = false := by decide
  simp only [fitsB, args_ok, rD, rA, Dm.next, Fld.zero, roomOf]
  simp only [rinsB, rL1, rA2, rA1, rB2, rT2, rT1, rnumB, regB, h65, h97, h114, h66, h98, h83, h115, h76, h68, h67, h78, h118, h109, h102, h106, fitsB, Dm.ok, Dm.next, Knd.ok, Fld.get, Fld.zero, bareI, roomOf, rD, rA, rB, rC, ins_ext9, if_true, Bool.false_eq_true, if_false]
  generalize hl : l.all (within p.regs) = q
  clear hl
  rw [Bool.eq_iff_iff]
  simp only [Bool.and_eq_true, Bool.or_eq_true, Bool.not_eq_true', decide_eq_true_eq, Bool.and_false, Bool.not_true, Bool.or_true, Bool.or_false, Bool.not_false, true_and, and_true]
  grind
theorem ins_eq_13 (d a b c : Int) (s : ByteArray) (n : Int) (l : List Int) (p : Proc) (f : Nat) : insD f p ⟨13, d, a, b, c, s, n, l⟩ = insB (roomOf p f) ⟨13, d, a, b, c, s, n, l⟩ := by
  have e1 : insD f p ⟨13, d, a, b, c, s, n, l⟩ = rinsB (⟨#[68, 65, 76, 109]⟩ : ByteArray) ⟨13, d, a, b, c, s, n, l⟩ p f := if_neg (by show (⟨#[68, 65, 76, 109]⟩ : ByteArray) ≠ ⟨#[45]⟩; decide)
  have e2 : insB (roomOf p f) ⟨13, d, a, b, c, s, n, l⟩ = fitsB (roomOf p f) [rD, rA, .args, .num .mark] ⟨13, d, a, b, c, s, n, l⟩ := rfl
  rw [e1, e2]
  have h65 : hasN (⟨#[68, 65, 76, 109]⟩ : ByteArray) 65 = true := by decide
  have h97 : hasN (⟨#[68, 65, 76, 109]⟩ : ByteArray) 97 = false := by decide
  have h114 : hasN (⟨#[68, 65, 76, 109]⟩ : ByteArray) 114 = false := by decide
  have h66 : hasN (⟨#[68, 65, 76, 109]⟩ : ByteArray) 66 = false := by decide
  have h98 : hasN (⟨#[68, 65, 76, 109]⟩ : ByteArray) 98 = false := by decide
  have h83 : hasN (⟨#[68, 65, 76, 109]⟩ : ByteArray) 83 = false := by decide
  have h115 : hasN (⟨#[68, 65, 76, 109]⟩ : ByteArray) 115 = false := by decide
  have h76 : hasN (⟨#[68, 65, 76, 109]⟩ : ByteArray) 76 = true := by decide
  have h68 : hasN (⟨#[68, 65, 76, 109]⟩ : ByteArray) 68 = true := by decide
  have h67 : hasN (⟨#[68, 65, 76, 109]⟩ : ByteArray) 67 = false := by decide
  have h78 : hasN (⟨#[68, 65, 76, 109]⟩ : ByteArray) 78 = false := by decide
  have h118 : hasN (⟨#[68, 65, 76, 109]⟩ : ByteArray) 118 = false := by decide
  have h109 : hasN (⟨#[68, 65, 76, 109]⟩ : ByteArray) 109 = true := by decide
  have h102 : hasN (⟨#[68, 65, 76, 109]⟩ : ByteArray) 102 = false := by decide
  have h106 : hasN (⟨#[68, 65, 76, 109]⟩ : ByteArray) 106 = false := by decide
  simp only [fitsB, args_ok, rD, rA, Dm.next, Fld.zero, roomOf]
  simp only [rinsB, rL1, rA2, rA1, rB2, rT2, rT1, rnumB, regB, h65, h97, h114, h66, h98, h83, h115, h76, h68, h67, h78, h118, h109, h102, h106, fitsB, Dm.ok, Dm.next, Knd.ok, Fld.get, Fld.zero, bareI, roomOf, rD, rA, rB, rC, ins_ext9, if_true, Bool.false_eq_true, if_false]
  generalize hl : l.all (within p.regs) = q
  clear hl
  rw [Bool.eq_iff_iff]
  simp only [Bool.and_eq_true, Bool.or_eq_true, Bool.not_eq_true', decide_eq_true_eq, Bool.and_false, Bool.not_true, Bool.or_true, Bool.or_false, Bool.not_false, true_and, and_true]
  grind
theorem ins_eq_14 (d a b c : Int) (s : ByteArray) (n : Int) (l : List Int) (p : Proc) (f : Nat) : insD f p ⟨14, d, a, b, c, s, n, l⟩ = insB (roomOf p f) ⟨14, d, a, b, c, s, n, l⟩ := by
  have e1 : insD f p ⟨14, d, a, b, c, s, n, l⟩ = rinsB (⟨#[68, 65, 66, 115]⟩ : ByteArray) ⟨14, d, a, b, c, s, n, l⟩ p f := if_neg (by show (⟨#[68, 65, 66, 115]⟩ : ByteArray) ≠ ⟨#[45]⟩; decide)
  have e2 : insB (roomOf p f) ⟨14, d, a, b, c, s, n, l⟩ = fitsB (roomOf p f) [rD, rA, .sign, rB] ⟨14, d, a, b, c, s, n, l⟩ := rfl
  rw [e1, e2]
  have h65 : hasN (⟨#[68, 65, 66, 115]⟩ : ByteArray) 65 = true := by decide
  have h97 : hasN (⟨#[68, 65, 66, 115]⟩ : ByteArray) 97 = false := by decide
  have h114 : hasN (⟨#[68, 65, 66, 115]⟩ : ByteArray) 114 = false := by decide
  have h66 : hasN (⟨#[68, 65, 66, 115]⟩ : ByteArray) 66 = true := by decide
  have h98 : hasN (⟨#[68, 65, 66, 115]⟩ : ByteArray) 98 = false := by decide
  have h83 : hasN (⟨#[68, 65, 66, 115]⟩ : ByteArray) 83 = false := by decide
  have h115 : hasN (⟨#[68, 65, 66, 115]⟩ : ByteArray) 115 = true := by decide
  have h76 : hasN (⟨#[68, 65, 66, 115]⟩ : ByteArray) 76 = false := by decide
  have h68 : hasN (⟨#[68, 65, 66, 115]⟩ : ByteArray) 68 = true := by decide
  have h67 : hasN (⟨#[68, 65, 66, 115]⟩ : ByteArray) 67 = false := by decide
  have h78 : hasN (⟨#[68, 65, 66, 115]⟩ : ByteArray) 78 = false := by decide
  have h118 : hasN (⟨#[68, 65, 66, 115]⟩ : ByteArray) 118 = false := by decide
  have h109 : hasN (⟨#[68, 65, 66, 115]⟩ : ByteArray) 109 = false := by decide
  have h102 : hasN (⟨#[68, 65, 66, 115]⟩ : ByteArray) 102 = false := by decide
  have h106 : hasN (⟨#[68, 65, 66, 115]⟩ : ByteArray) 106 = false := by decide
  simp only [rinsB, rL1, rA2, rA1, rB2, rT2, rT1, rnumB, regB, h65, h97, h114, h66, h98, h83, h115, h76, h68, h67, h78, h118, h109, h102, h106, fitsB, Dm.ok, Dm.next, Knd.ok, Fld.get, Fld.zero, bareI, roomOf, rD, rA, rB, rC, ins_ext9, if_true, Bool.false_eq_true, if_false]
  cases l with
  | cons y r => simp
  | nil =>
  rw [Bool.eq_iff_iff]
  simp only [Bool.and_eq_true, Bool.or_eq_true, Bool.not_eq_true', decide_eq_true_eq, Bool.and_false, Bool.not_true, Bool.or_true, Bool.or_false, Bool.not_false, true_and, and_true]
  grind
theorem ins_eq_15 (d a b c : Int) (s : ByteArray) (n : Int) (l : List Int) (p : Proc) (f : Nat) : insD f p ⟨15, d, a, b, c, s, n, l⟩ = insB (roomOf p f) ⟨15, d, a, b, c, s, n, l⟩ := by
  have e1 : insD f p ⟨15, d, a, b, c, s, n, l⟩ = rinsB (⟨#[68, 65]⟩ : ByteArray) ⟨15, d, a, b, c, s, n, l⟩ p f := if_neg (by show (⟨#[68, 65]⟩ : ByteArray) ≠ ⟨#[45]⟩; decide)
  have e2 : insB (roomOf p f) ⟨15, d, a, b, c, s, n, l⟩ = fitsB (roomOf p f) [rD, rA] ⟨15, d, a, b, c, s, n, l⟩ := rfl
  rw [e1, e2]
  have h65 : hasN (⟨#[68, 65]⟩ : ByteArray) 65 = true := by decide
  have h97 : hasN (⟨#[68, 65]⟩ : ByteArray) 97 = false := by decide
  have h114 : hasN (⟨#[68, 65]⟩ : ByteArray) 114 = false := by decide
  have h66 : hasN (⟨#[68, 65]⟩ : ByteArray) 66 = false := by decide
  have h98 : hasN (⟨#[68, 65]⟩ : ByteArray) 98 = false := by decide
  have h83 : hasN (⟨#[68, 65]⟩ : ByteArray) 83 = false := by decide
  have h115 : hasN (⟨#[68, 65]⟩ : ByteArray) 115 = false := by decide
  have h76 : hasN (⟨#[68, 65]⟩ : ByteArray) 76 = false := by decide
  have h68 : hasN (⟨#[68, 65]⟩ : ByteArray) 68 = true := by decide
  have h67 : hasN (⟨#[68, 65]⟩ : ByteArray) 67 = false := by decide
  have h78 : hasN (⟨#[68, 65]⟩ : ByteArray) 78 = false := by decide
  have h118 : hasN (⟨#[68, 65]⟩ : ByteArray) 118 = false := by decide
  have h109 : hasN (⟨#[68, 65]⟩ : ByteArray) 109 = false := by decide
  have h102 : hasN (⟨#[68, 65]⟩ : ByteArray) 102 = false := by decide
  have h106 : hasN (⟨#[68, 65]⟩ : ByteArray) 106 = false := by decide
  simp only [rinsB, rL1, rA2, rA1, rB2, rT2, rT1, rnumB, regB, h65, h97, h114, h66, h98, h83, h115, h76, h68, h67, h78, h118, h109, h102, h106, fitsB, Dm.ok, Dm.next, Knd.ok, Fld.get, Fld.zero, bareI, roomOf, rD, rA, rB, rC, ins_ext9, if_true, Bool.false_eq_true, if_false]
  cases l with
  | cons y r => simp
  | nil =>
  rw [Bool.eq_iff_iff]
  simp only [Bool.and_eq_true, Bool.or_eq_true, Bool.not_eq_true', decide_eq_true_eq, Bool.and_false, Bool.not_true, Bool.or_true, Bool.or_false, Bool.not_false, true_and, and_true]
  grind
theorem ins_eq_16 (d a b c : Int) (s : ByteArray) (n : Int) (l : List Int) (p : Proc) (f : Nat) : insD f p ⟨16, d, a, b, c, s, n, l⟩ = insB (roomOf p f) ⟨16, d, a, b, c, s, n, l⟩ := by
  have e1 : insD f p ⟨16, d, a, b, c, s, n, l⟩ = rinsB (⟨#[68, 65]⟩ : ByteArray) ⟨16, d, a, b, c, s, n, l⟩ p f := if_neg (by show (⟨#[68, 65]⟩ : ByteArray) ≠ ⟨#[45]⟩; decide)
  have e2 : insB (roomOf p f) ⟨16, d, a, b, c, s, n, l⟩ = fitsB (roomOf p f) [rD, rA] ⟨16, d, a, b, c, s, n, l⟩ := rfl
  rw [e1, e2]
  have h65 : hasN (⟨#[68, 65]⟩ : ByteArray) 65 = true := by decide
  have h97 : hasN (⟨#[68, 65]⟩ : ByteArray) 97 = false := by decide
  have h114 : hasN (⟨#[68, 65]⟩ : ByteArray) 114 = false := by decide
  have h66 : hasN (⟨#[68, 65]⟩ : ByteArray) 66 = false := by decide
  have h98 : hasN (⟨#[68, 65]⟩ : ByteArray) 98 = false := by decide
  have h83 : hasN (⟨#[68, 65]⟩ : ByteArray) 83 = false := by decide
  have h115 : hasN (⟨#[68, 65]⟩ : ByteArray) 115 = false := by decide
  have h76 : hasN (⟨#[68, 65]⟩ : ByteArray) 76 = false := by decide
  have h68 : hasN (⟨#[68, 65]⟩ : ByteArray) 68 = true := by decide
  have h67 : hasN (⟨#[68, 65]⟩ : ByteArray) 67 = false := by decide
  have h78 : hasN (⟨#[68, 65]⟩ : ByteArray) 78 = false := by decide
  have h118 : hasN (⟨#[68, 65]⟩ : ByteArray) 118 = false := by decide
  have h109 : hasN (⟨#[68, 65]⟩ : ByteArray) 109 = false := by decide
  have h102 : hasN (⟨#[68, 65]⟩ : ByteArray) 102 = false := by decide
  have h106 : hasN (⟨#[68, 65]⟩ : ByteArray) 106 = false := by decide
  simp only [rinsB, rL1, rA2, rA1, rB2, rT2, rT1, rnumB, regB, h65, h97, h114, h66, h98, h83, h115, h76, h68, h67, h78, h118, h109, h102, h106, fitsB, Dm.ok, Dm.next, Knd.ok, Fld.get, Fld.zero, bareI, roomOf, rD, rA, rB, rC, ins_ext9, if_true, Bool.false_eq_true, if_false]
  cases l with
  | cons y r => simp
  | nil =>
  rw [Bool.eq_iff_iff]
  simp only [Bool.and_eq_true, Bool.or_eq_true, Bool.not_eq_true', decide_eq_true_eq, Bool.and_false, Bool.not_true, Bool.or_true, Bool.or_false, Bool.not_false, true_and, and_true]
  grind
theorem ins_eq_17 (d a b c : Int) (s : ByteArray) (n : Int) (l : List Int) (p : Proc) (f : Nat) : insD f p ⟨17, d, a, b, c, s, n, l⟩ = insB (roomOf p f) ⟨17, d, a, b, c, s, n, l⟩ := by
  have e1 : insD f p ⟨17, d, a, b, c, s, n, l⟩ = rinsB (⟨#[68, 65]⟩ : ByteArray) ⟨17, d, a, b, c, s, n, l⟩ p f := if_neg (by show (⟨#[68, 65]⟩ : ByteArray) ≠ ⟨#[45]⟩; decide)
  have e2 : insB (roomOf p f) ⟨17, d, a, b, c, s, n, l⟩ = fitsB (roomOf p f) [rD, rA] ⟨17, d, a, b, c, s, n, l⟩ := rfl
  rw [e1, e2]
  have h65 : hasN (⟨#[68, 65]⟩ : ByteArray) 65 = true := by decide
  have h97 : hasN (⟨#[68, 65]⟩ : ByteArray) 97 = false := by decide
  have h114 : hasN (⟨#[68, 65]⟩ : ByteArray) 114 = false := by decide
  have h66 : hasN (⟨#[68, 65]⟩ : ByteArray) 66 = false := by decide
  have h98 : hasN (⟨#[68, 65]⟩ : ByteArray) 98 = false := by decide
  have h83 : hasN (⟨#[68, 65]⟩ : ByteArray) 83 = false := by decide
  have h115 : hasN (⟨#[68, 65]⟩ : ByteArray) 115 = false := by decide
  have h76 : hasN (⟨#[68, 65]⟩ : ByteArray) 76 = false := by decide
  have h68 : hasN (⟨#[68, 65]⟩ : ByteArray) 68 = true := by decide
  have h67 : hasN (⟨#[68, 65]⟩ : ByteArray) 67 = false := by decide
  have h78 : hasN (⟨#[68, 65]⟩ : ByteArray) 78 = false := by decide
  have h118 : hasN (⟨#[68, 65]⟩ : ByteArray) 118 = false := by decide
  have h109 : hasN (⟨#[68, 65]⟩ : ByteArray) 109 = false := by decide
  have h102 : hasN (⟨#[68, 65]⟩ : ByteArray) 102 = false := by decide
  have h106 : hasN (⟨#[68, 65]⟩ : ByteArray) 106 = false := by decide
  simp only [rinsB, rL1, rA2, rA1, rB2, rT2, rT1, rnumB, regB, h65, h97, h114, h66, h98, h83, h115, h76, h68, h67, h78, h118, h109, h102, h106, fitsB, Dm.ok, Dm.next, Knd.ok, Fld.get, Fld.zero, bareI, roomOf, rD, rA, rB, rC, ins_ext9, if_true, Bool.false_eq_true, if_false]
  cases l with
  | cons y r => simp
  | nil =>
  rw [Bool.eq_iff_iff]
  simp only [Bool.and_eq_true, Bool.or_eq_true, Bool.not_eq_true', decide_eq_true_eq, Bool.and_false, Bool.not_true, Bool.or_true, Bool.or_false, Bool.not_false, true_and, and_true]
  grind
theorem ins_eq_24 (d a b c : Int) (s : ByteArray) (n : Int) (l : List Int) (p : Proc) (f : Nat) : insD f p ⟨24, d, a, b, c, s, n, l⟩ = insB (roomOf p f) ⟨24, d, a, b, c, s, n, l⟩ := by
  have e1 : insD f p ⟨24, d, a, b, c, s, n, l⟩ = rinsB (⟨#[68, 65]⟩ : ByteArray) ⟨24, d, a, b, c, s, n, l⟩ p f := if_neg (by show (⟨#[68, 65]⟩ : ByteArray) ≠ ⟨#[45]⟩; decide)
  have e2 : insB (roomOf p f) ⟨24, d, a, b, c, s, n, l⟩ = fitsB (roomOf p f) [rD, rA] ⟨24, d, a, b, c, s, n, l⟩ := rfl
  rw [e1, e2]
  have h65 : hasN (⟨#[68, 65]⟩ : ByteArray) 65 = true := by decide
  have h97 : hasN (⟨#[68, 65]⟩ : ByteArray) 97 = false := by decide
  have h114 : hasN (⟨#[68, 65]⟩ : ByteArray) 114 = false := by decide
  have h66 : hasN (⟨#[68, 65]⟩ : ByteArray) 66 = false := by decide
  have h98 : hasN (⟨#[68, 65]⟩ : ByteArray) 98 = false := by decide
  have h83 : hasN (⟨#[68, 65]⟩ : ByteArray) 83 = false := by decide
  have h115 : hasN (⟨#[68, 65]⟩ : ByteArray) 115 = false := by decide
  have h76 : hasN (⟨#[68, 65]⟩ : ByteArray) 76 = false := by decide
  have h68 : hasN (⟨#[68, 65]⟩ : ByteArray) 68 = true := by decide
  have h67 : hasN (⟨#[68, 65]⟩ : ByteArray) 67 = false := by decide
  have h78 : hasN (⟨#[68, 65]⟩ : ByteArray) 78 = false := by decide
  have h118 : hasN (⟨#[68, 65]⟩ : ByteArray) 118 = false := by decide
  have h109 : hasN (⟨#[68, 65]⟩ : ByteArray) 109 = false := by decide
  have h102 : hasN (⟨#[68, 65]⟩ : ByteArray) 102 = false := by decide
  have h106 : hasN (⟨#[68, 65]⟩ : ByteArray) 106 = false := by decide
  simp only [rinsB, rL1, rA2, rA1, rB2, rT2, rT1, rnumB, regB, h65, h97, h114, h66, h98, h83, h115, h76, h68, h67, h78, h118, h109, h102, h106, fitsB, Dm.ok, Dm.next, Knd.ok, Fld.get, Fld.zero, bareI, roomOf, rD, rA, rB, rC, ins_ext9, if_true, Bool.false_eq_true, if_false]
  cases l with
  | cons y r => simp
  | nil =>
  rw [Bool.eq_iff_iff]
  simp only [Bool.and_eq_true, Bool.or_eq_true, Bool.not_eq_true', decide_eq_true_eq, Bool.and_false, Bool.not_true, Bool.or_true, Bool.or_false, Bool.not_false, true_and, and_true]
  grind
theorem ins_eq_18 (d a b c : Int) (s : ByteArray) (n : Int) (l : List Int) (p : Proc) (f : Nat) : insD f p ⟨18, d, a, b, c, s, n, l⟩ = insB (roomOf p f) ⟨18, d, a, b, c, s, n, l⟩ := by
  have e1 : insD f p ⟨18, d, a, b, c, s, n, l⟩ = rinsB (⟨#[106]⟩ : ByteArray) ⟨18, d, a, b, c, s, n, l⟩ p f := if_neg (by show (⟨#[106]⟩ : ByteArray) ≠ ⟨#[45]⟩; decide)
  have e2 : insB (roomOf p f) ⟨18, d, a, b, c, s, n, l⟩ = fitsB (roomOf p f) [.num .place] ⟨18, d, a, b, c, s, n, l⟩ := rfl
  rw [e1, e2]
  have h65 : hasN (⟨#[106]⟩ : ByteArray) 65 = false := by decide
  have h97 : hasN (⟨#[106]⟩ : ByteArray) 97 = false := by decide
  have h114 : hasN (⟨#[106]⟩ : ByteArray) 114 = false := by decide
  have h66 : hasN (⟨#[106]⟩ : ByteArray) 66 = false := by decide
  have h98 : hasN (⟨#[106]⟩ : ByteArray) 98 = false := by decide
  have h83 : hasN (⟨#[106]⟩ : ByteArray) 83 = false := by decide
  have h115 : hasN (⟨#[106]⟩ : ByteArray) 115 = false := by decide
  have h76 : hasN (⟨#[106]⟩ : ByteArray) 76 = false := by decide
  have h68 : hasN (⟨#[106]⟩ : ByteArray) 68 = false := by decide
  have h67 : hasN (⟨#[106]⟩ : ByteArray) 67 = false := by decide
  have h78 : hasN (⟨#[106]⟩ : ByteArray) 78 = false := by decide
  have h118 : hasN (⟨#[106]⟩ : ByteArray) 118 = false := by decide
  have h109 : hasN (⟨#[106]⟩ : ByteArray) 109 = false := by decide
  have h102 : hasN (⟨#[106]⟩ : ByteArray) 102 = false := by decide
  have h106 : hasN (⟨#[106]⟩ : ByteArray) 106 = true := by decide
  simp only [rinsB, rL1, rA2, rA1, rB2, rT2, rT1, rnumB, regB, h65, h97, h114, h66, h98, h83, h115, h76, h68, h67, h78, h118, h109, h102, h106, fitsB, Dm.ok, Dm.next, Knd.ok, Fld.get, Fld.zero, bareI, roomOf, rD, rA, rB, rC, ins_ext9, if_true, Bool.false_eq_true, if_false]
  cases l with
  | cons y r => simp
  | nil =>
  rw [Bool.eq_iff_iff]
  simp only [Bool.and_eq_true, Bool.or_eq_true, Bool.not_eq_true', decide_eq_true_eq, Bool.and_false, Bool.not_true, Bool.or_true, Bool.or_false, Bool.not_false, true_and, and_true]
  grind
theorem ins_eq_19 (d a b c : Int) (s : ByteArray) (n : Int) (l : List Int) (p : Proc) (f : Nat) : insD f p ⟨19, d, a, b, c, s, n, l⟩ = insB (roomOf p f) ⟨19, d, a, b, c, s, n, l⟩ := by
  have e1 : insD f p ⟨19, d, a, b, c, s, n, l⟩ = rinsB (⟨#[65, 106]⟩ : ByteArray) ⟨19, d, a, b, c, s, n, l⟩ p f := if_neg (by show (⟨#[65, 106]⟩ : ByteArray) ≠ ⟨#[45]⟩; decide)
  have e2 : insB (roomOf p f) ⟨19, d, a, b, c, s, n, l⟩ = fitsB (roomOf p f) [rA, .num .place] ⟨19, d, a, b, c, s, n, l⟩ := rfl
  rw [e1, e2]
  have h65 : hasN (⟨#[65, 106]⟩ : ByteArray) 65 = true := by decide
  have h97 : hasN (⟨#[65, 106]⟩ : ByteArray) 97 = false := by decide
  have h114 : hasN (⟨#[65, 106]⟩ : ByteArray) 114 = false := by decide
  have h66 : hasN (⟨#[65, 106]⟩ : ByteArray) 66 = false := by decide
  have h98 : hasN (⟨#[65, 106]⟩ : ByteArray) 98 = false := by decide
  have h83 : hasN (⟨#[65, 106]⟩ : ByteArray) 83 = false := by decide
  have h115 : hasN (⟨#[65, 106]⟩ : ByteArray) 115 = false := by decide
  have h76 : hasN (⟨#[65, 106]⟩ : ByteArray) 76 = false := by decide
  have h68 : hasN (⟨#[65, 106]⟩ : ByteArray) 68 = false := by decide
  have h67 : hasN (⟨#[65, 106]⟩ : ByteArray) 67 = false := by decide
  have h78 : hasN (⟨#[65, 106]⟩ : ByteArray) 78 = false := by decide
  have h118 : hasN (⟨#[65, 106]⟩ : ByteArray) 118 = false := by decide
  have h109 : hasN (⟨#[65, 106]⟩ : ByteArray) 109 = false := by decide
  have h102 : hasN (⟨#[65, 106]⟩ : ByteArray) 102 = false := by decide
  have h106 : hasN (⟨#[65, 106]⟩ : ByteArray) 106 = true := by decide
  simp only [rinsB, rL1, rA2, rA1, rB2, rT2, rT1, rnumB, regB, h65, h97, h114, h66, h98, h83, h115, h76, h68, h67, h78, h118, h109, h102, h106, fitsB, Dm.ok, Dm.next, Knd.ok, Fld.get, Fld.zero, bareI, roomOf, rD, rA, rB, rC, ins_ext9, if_true, Bool.false_eq_true, if_false]
  cases l with
  | cons y r => simp
  | nil =>
  rw [Bool.eq_iff_iff]
  simp only [Bool.and_eq_true, Bool.or_eq_true, Bool.not_eq_true', decide_eq_true_eq, Bool.and_false, Bool.not_true, Bool.or_true, Bool.or_false, Bool.not_false, true_and, and_true]
  grind
theorem ins_eq_20 (d a b c : Int) (s : ByteArray) (n : Int) (l : List Int) (p : Proc) (f : Nat) : insD f p ⟨20, d, a, b, c, s, n, l⟩ = insB (roomOf p f) ⟨20, d, a, b, c, s, n, l⟩ := by
  have e1 : insD f p ⟨20, d, a, b, c, s, n, l⟩ = rinsB (⟨#[114]⟩ : ByteArray) ⟨20, d, a, b, c, s, n, l⟩ p f := if_neg (by show (⟨#[114]⟩ : ByteArray) ≠ ⟨#[45]⟩; decide)
  have e2 : insB (roomOf p f) ⟨20, d, a, b, c, s, n, l⟩ = fitsB (roomOf p f) [.reg (-1) .a] ⟨20, d, a, b, c, s, n, l⟩ := rfl
  rw [e1, e2]
  have h65 : hasN (⟨#[114]⟩ : ByteArray) 65 = false := by decide
  have h97 : hasN (⟨#[114]⟩ : ByteArray) 97 = false := by decide
  have h114 : hasN (⟨#[114]⟩ : ByteArray) 114 = true := by decide
  have h66 : hasN (⟨#[114]⟩ : ByteArray) 66 = false := by decide
  have h98 : hasN (⟨#[114]⟩ : ByteArray) 98 = false := by decide
  have h83 : hasN (⟨#[114]⟩ : ByteArray) 83 = false := by decide
  have h115 : hasN (⟨#[114]⟩ : ByteArray) 115 = false := by decide
  have h76 : hasN (⟨#[114]⟩ : ByteArray) 76 = false := by decide
  have h68 : hasN (⟨#[114]⟩ : ByteArray) 68 = false := by decide
  have h67 : hasN (⟨#[114]⟩ : ByteArray) 67 = false := by decide
  have h78 : hasN (⟨#[114]⟩ : ByteArray) 78 = false := by decide
  have h118 : hasN (⟨#[114]⟩ : ByteArray) 118 = false := by decide
  have h109 : hasN (⟨#[114]⟩ : ByteArray) 109 = false := by decide
  have h102 : hasN (⟨#[114]⟩ : ByteArray) 102 = false := by decide
  have h106 : hasN (⟨#[114]⟩ : ByteArray) 106 = false := by decide
  simp only [rinsB, rL1, rA2, rA1, rB2, rT2, rT1, rnumB, regB, h65, h97, h114, h66, h98, h83, h115, h76, h68, h67, h78, h118, h109, h102, h106, fitsB, Dm.ok, Dm.next, Knd.ok, Fld.get, Fld.zero, bareI, roomOf, rD, rA, rB, rC, ins_ext9, if_true, Bool.false_eq_true, if_false]
  cases l with
  | cons y r => simp
  | nil =>
  rw [Bool.eq_iff_iff]
  simp only [Bool.and_eq_true, Bool.or_eq_true, Bool.not_eq_true', decide_eq_true_eq, Bool.and_false, Bool.not_true, Bool.or_true, Bool.or_false, Bool.not_false, true_and, and_true]
  grind
theorem ins_eq_21 (d a b c : Int) (s : ByteArray) (n : Int) (l : List Int) (p : Proc) (f : Nat) : insD f p ⟨21, d, a, b, c, s, n, l⟩ = insB (roomOf p f) ⟨21, d, a, b, c, s, n, l⟩ := by
  have e1 : insD f p ⟨21, d, a, b, c, s, n, l⟩ = rinsB (⟨#[65]⟩ : ByteArray) ⟨21, d, a, b, c, s, n, l⟩ p f := if_neg (by show (⟨#[65]⟩ : ByteArray) ≠ ⟨#[45]⟩; decide)
  have e2 : insB (roomOf p f) ⟨21, d, a, b, c, s, n, l⟩ = fitsB (roomOf p f) [rA] ⟨21, d, a, b, c, s, n, l⟩ := rfl
  rw [e1, e2]
  have h65 : hasN (⟨#[65]⟩ : ByteArray) 65 = true := by decide
  have h97 : hasN (⟨#[65]⟩ : ByteArray) 97 = false := by decide
  have h114 : hasN (⟨#[65]⟩ : ByteArray) 114 = false := by decide
  have h66 : hasN (⟨#[65]⟩ : ByteArray) 66 = false := by decide
  have h98 : hasN (⟨#[65]⟩ : ByteArray) 98 = false := by decide
  have h83 : hasN (⟨#[65]⟩ : ByteArray) 83 = false := by decide
  have h115 : hasN (⟨#[65]⟩ : ByteArray) 115 = false := by decide
  have h76 : hasN (⟨#[65]⟩ : ByteArray) 76 = false := by decide
  have h68 : hasN (⟨#[65]⟩ : ByteArray) 68 = false := by decide
  have h67 : hasN (⟨#[65]⟩ : ByteArray) 67 = false := by decide
  have h78 : hasN (⟨#[65]⟩ : ByteArray) 78 = false := by decide
  have h118 : hasN (⟨#[65]⟩ : ByteArray) 118 = false := by decide
  have h109 : hasN (⟨#[65]⟩ : ByteArray) 109 = false := by decide
  have h102 : hasN (⟨#[65]⟩ : ByteArray) 102 = false := by decide
  have h106 : hasN (⟨#[65]⟩ : ByteArray) 106 = false := by decide
  simp only [rinsB, rL1, rA2, rA1, rB2, rT2, rT1, rnumB, regB, h65, h97, h114, h66, h98, h83, h115, h76, h68, h67, h78, h118, h109, h102, h106, fitsB, Dm.ok, Dm.next, Knd.ok, Fld.get, Fld.zero, bareI, roomOf, rD, rA, rB, rC, ins_ext9, if_true, Bool.false_eq_true, if_false]
  cases l with
  | cons y r => simp
  | nil =>
  rw [Bool.eq_iff_iff]
  simp only [Bool.and_eq_true, Bool.or_eq_true, Bool.not_eq_true', decide_eq_true_eq, Bool.and_false, Bool.not_true, Bool.or_true, Bool.or_false, Bool.not_false, true_and, and_true]
  grind
theorem ins_eq_22 (d a b c : Int) (s : ByteArray) (n : Int) (l : List Int) (p : Proc) (f : Nat) : insD f p ⟨22, d, a, b, c, s, n, l⟩ = insB (roomOf p f) ⟨22, d, a, b, c, s, n, l⟩ := by
  have e1 : insD f p ⟨22, d, a, b, c, s, n, l⟩ = rinsB (⟨#[68, 106]⟩ : ByteArray) ⟨22, d, a, b, c, s, n, l⟩ p f := if_neg (by show (⟨#[68, 106]⟩ : ByteArray) ≠ ⟨#[45]⟩; decide)
  have e2 : insB (roomOf p f) ⟨22, d, a, b, c, s, n, l⟩ = fitsB (roomOf p f) [rD, .num .place] ⟨22, d, a, b, c, s, n, l⟩ := rfl
  rw [e1, e2]
  have h65 : hasN (⟨#[68, 106]⟩ : ByteArray) 65 = false := by decide
  have h97 : hasN (⟨#[68, 106]⟩ : ByteArray) 97 = false := by decide
  have h114 : hasN (⟨#[68, 106]⟩ : ByteArray) 114 = false := by decide
  have h66 : hasN (⟨#[68, 106]⟩ : ByteArray) 66 = false := by decide
  have h98 : hasN (⟨#[68, 106]⟩ : ByteArray) 98 = false := by decide
  have h83 : hasN (⟨#[68, 106]⟩ : ByteArray) 83 = false := by decide
  have h115 : hasN (⟨#[68, 106]⟩ : ByteArray) 115 = false := by decide
  have h76 : hasN (⟨#[68, 106]⟩ : ByteArray) 76 = false := by decide
  have h68 : hasN (⟨#[68, 106]⟩ : ByteArray) 68 = true := by decide
  have h67 : hasN (⟨#[68, 106]⟩ : ByteArray) 67 = false := by decide
  have h78 : hasN (⟨#[68, 106]⟩ : ByteArray) 78 = false := by decide
  have h118 : hasN (⟨#[68, 106]⟩ : ByteArray) 118 = false := by decide
  have h109 : hasN (⟨#[68, 106]⟩ : ByteArray) 109 = false := by decide
  have h102 : hasN (⟨#[68, 106]⟩ : ByteArray) 102 = false := by decide
  have h106 : hasN (⟨#[68, 106]⟩ : ByteArray) 106 = true := by decide
  simp only [rinsB, rL1, rA2, rA1, rB2, rT2, rT1, rnumB, regB, h65, h97, h114, h66, h98, h83, h115, h76, h68, h67, h78, h118, h109, h102, h106, fitsB, Dm.ok, Dm.next, Knd.ok, Fld.get, Fld.zero, bareI, roomOf, rD, rA, rB, rC, ins_ext9, if_true, Bool.false_eq_true, if_false]
  cases l with
  | cons y r => simp
  | nil =>
  rw [Bool.eq_iff_iff]
  simp only [Bool.and_eq_true, Bool.or_eq_true, Bool.not_eq_true', decide_eq_true_eq, Bool.and_false, Bool.not_true, Bool.or_true, Bool.or_false, Bool.not_false, true_and, and_true]
  grind
theorem ins_eq_23 (d a b c : Int) (s : ByteArray) (n : Int) (l : List Int) (p : Proc) (f : Nat) : insD f p ⟨23, d, a, b, c, s, n, l⟩ = insB (roomOf p f) ⟨23, d, a, b, c, s, n, l⟩ := by
  have e1 : insD f p ⟨23, d, a, b, c, s, n, l⟩ = rinsB (⟨#[]⟩ : ByteArray) ⟨23, d, a, b, c, s, n, l⟩ p f := if_neg (by show (⟨#[]⟩ : ByteArray) ≠ ⟨#[45]⟩; decide)
  have e2 : insB (roomOf p f) ⟨23, d, a, b, c, s, n, l⟩ = fitsB (roomOf p f) [] ⟨23, d, a, b, c, s, n, l⟩ := rfl
  rw [e1, e2]
  have h65 : hasN (⟨#[]⟩ : ByteArray) 65 = false := by decide
  have h97 : hasN (⟨#[]⟩ : ByteArray) 97 = false := by decide
  have h114 : hasN (⟨#[]⟩ : ByteArray) 114 = false := by decide
  have h66 : hasN (⟨#[]⟩ : ByteArray) 66 = false := by decide
  have h98 : hasN (⟨#[]⟩ : ByteArray) 98 = false := by decide
  have h83 : hasN (⟨#[]⟩ : ByteArray) 83 = false := by decide
  have h115 : hasN (⟨#[]⟩ : ByteArray) 115 = false := by decide
  have h76 : hasN (⟨#[]⟩ : ByteArray) 76 = false := by decide
  have h68 : hasN (⟨#[]⟩ : ByteArray) 68 = false := by decide
  have h67 : hasN (⟨#[]⟩ : ByteArray) 67 = false := by decide
  have h78 : hasN (⟨#[]⟩ : ByteArray) 78 = false := by decide
  have h118 : hasN (⟨#[]⟩ : ByteArray) 118 = false := by decide
  have h109 : hasN (⟨#[]⟩ : ByteArray) 109 = false := by decide
  have h102 : hasN (⟨#[]⟩ : ByteArray) 102 = false := by decide
  have h106 : hasN (⟨#[]⟩ : ByteArray) 106 = false := by decide
  simp only [rinsB, rL1, rA2, rA1, rB2, rT2, rT1, rnumB, regB, h65, h97, h114, h66, h98, h83, h115, h76, h68, h67, h78, h118, h109, h102, h106, fitsB, Dm.ok, Dm.next, Knd.ok, Fld.get, Fld.zero, bareI, roomOf, rD, rA, rB, rC, ins_ext9, if_true, Bool.false_eq_true, if_false]
  cases l with
  | cons y r => simp
  | nil =>
  rw [Bool.eq_iff_iff]
  simp only [Bool.and_eq_true, Bool.or_eq_true, Bool.not_eq_true', decide_eq_true_eq, Bool.and_false, Bool.not_true, Bool.or_true, Bool.or_false, Bool.not_false, true_and, and_true]
  grind
theorem ins_eq_25 (d a b c : Int) (s : ByteArray) (n : Int) (l : List Int) (p : Proc) (f : Nat) : insD f p ⟨25, d, a, b, c, s, n, l⟩ = insB (roomOf p f) ⟨25, d, a, b, c, s, n, l⟩ := by
  have e1 : insD f p ⟨25, d, a, b, c, s, n, l⟩ = rinsB (⟨#[68, 65, 106]⟩ : ByteArray) ⟨25, d, a, b, c, s, n, l⟩ p f := if_neg (by show (⟨#[68, 65, 106]⟩ : ByteArray) ≠ ⟨#[45]⟩; decide)
  have e2 : insB (roomOf p f) ⟨25, d, a, b, c, s, n, l⟩ = fitsB (roomOf p f) [rD, rA, .num .place] ⟨25, d, a, b, c, s, n, l⟩ := rfl
  rw [e1, e2]
  have h65 : hasN (⟨#[68, 65, 106]⟩ : ByteArray) 65 = true := by decide
  have h97 : hasN (⟨#[68, 65, 106]⟩ : ByteArray) 97 = false := by decide
  have h114 : hasN (⟨#[68, 65, 106]⟩ : ByteArray) 114 = false := by decide
  have h66 : hasN (⟨#[68, 65, 106]⟩ : ByteArray) 66 = false := by decide
  have h98 : hasN (⟨#[68, 65, 106]⟩ : ByteArray) 98 = false := by decide
  have h83 : hasN (⟨#[68, 65, 106]⟩ : ByteArray) 83 = false := by decide
  have h115 : hasN (⟨#[68, 65, 106]⟩ : ByteArray) 115 = false := by decide
  have h76 : hasN (⟨#[68, 65, 106]⟩ : ByteArray) 76 = false := by decide
  have h68 : hasN (⟨#[68, 65, 106]⟩ : ByteArray) 68 = true := by decide
  have h67 : hasN (⟨#[68, 65, 106]⟩ : ByteArray) 67 = false := by decide
  have h78 : hasN (⟨#[68, 65, 106]⟩ : ByteArray) 78 = false := by decide
  have h118 : hasN (⟨#[68, 65, 106]⟩ : ByteArray) 118 = false := by decide
  have h109 : hasN (⟨#[68, 65, 106]⟩ : ByteArray) 109 = false := by decide
  have h102 : hasN (⟨#[68, 65, 106]⟩ : ByteArray) 102 = false := by decide
  have h106 : hasN (⟨#[68, 65, 106]⟩ : ByteArray) 106 = true := by decide
  simp only [rinsB, rL1, rA2, rA1, rB2, rT2, rT1, rnumB, regB, h65, h97, h114, h66, h98, h83, h115, h76, h68, h67, h78, h118, h109, h102, h106, fitsB, Dm.ok, Dm.next, Knd.ok, Fld.get, Fld.zero, bareI, roomOf, rD, rA, rB, rC, ins_ext9, if_true, Bool.false_eq_true, if_false]
  cases l with
  | cons y r => simp
  | nil =>
  rw [Bool.eq_iff_iff]
  simp only [Bool.and_eq_true, Bool.or_eq_true, Bool.not_eq_true', decide_eq_true_eq, Bool.and_false, Bool.not_true, Bool.or_true, Bool.or_false, Bool.not_false, true_and, and_true]
  grind
theorem ins_eq_all (x : Ins) (p : Proc) (f : Nat) : insD f p x = insB (roomOf p f) x := by
  obtain ⟨o, d, a, b, c, s, n, l⟩ := x
  by_cases h1 : o = 1
  · subst h1; exact ins_eq_1 d a b c s n l p f
  by_cases h2 : o = 2
  · subst h2; exact ins_eq_2 d a b c s n l p f
  by_cases h3 : o = 3
  · subst h3; exact ins_eq_3 d a b c s n l p f
  by_cases h4 : o = 4
  · subst h4; exact ins_eq_4 d a b c s n l p f
  by_cases h5 : o = 5
  · subst h5; exact ins_eq_5 d a b c s n l p f
  by_cases h26 : o = 26
  · subst h26; exact ins_eq_26 d a b c s n l p f
  by_cases h6 : o = 6
  · subst h6; exact ins_eq_6 d a b c s n l p f
  by_cases h7 : o = 7
  · subst h7; exact ins_eq_7 d a b c s n l p f
  by_cases h8 : o = 8
  · subst h8; exact ins_eq_8 d a b c s n l p f
  by_cases h9 : o = 9
  · subst h9; exact ins_eq_9 d a b c s n l p f
  by_cases h10 : o = 10
  · subst h10; exact ins_eq_10 d a b c s n l p f
  by_cases h11 : o = 11
  · subst h11; exact ins_eq_11 d a b c s n l p f
  by_cases h12 : o = 12
  · subst h12; exact ins_eq_12 d a b c s n l p f
  by_cases h13 : o = 13
  · subst h13; exact ins_eq_13 d a b c s n l p f
  by_cases h14 : o = 14
  · subst h14; exact ins_eq_14 d a b c s n l p f
  by_cases h15 : o = 15
  · subst h15; exact ins_eq_15 d a b c s n l p f
  by_cases h16 : o = 16
  · subst h16; exact ins_eq_16 d a b c s n l p f
  by_cases h17 : o = 17
  · subst h17; exact ins_eq_17 d a b c s n l p f
  by_cases h24 : o = 24
  · subst h24; exact ins_eq_24 d a b c s n l p f
  by_cases h18 : o = 18
  · subst h18; exact ins_eq_18 d a b c s n l p f
  by_cases h19 : o = 19
  · subst h19; exact ins_eq_19 d a b c s n l p f
  by_cases h20 : o = 20
  · subst h20; exact ins_eq_20 d a b c s n l p f
  by_cases h21 : o = 21
  · subst h21; exact ins_eq_21 d a b c s n l p f
  by_cases h22 : o = 22
  · subst h22; exact ins_eq_22 d a b c s n l p f
  by_cases h23 : o = 23
  · subst h23; exact ins_eq_23 d a b c s n l p f
  by_cases h25 : o = 25
  · subst h25; exact ins_eq_25 d a b c s n l p f
  have e1 : nm o = ⟨#[45]⟩ := by simp [nm, nmL, List.find?, Ne.symm h1, Ne.symm h2, Ne.symm h3, Ne.symm h4, Ne.symm h5, Ne.symm h26, Ne.symm h6, Ne.symm h7, Ne.symm h8, Ne.symm h9, Ne.symm h10, Ne.symm h11, Ne.symm h12, Ne.symm h13, Ne.symm h14, Ne.symm h15, Ne.symm h16, Ne.symm h17, Ne.symm h24, Ne.symm h18, Ne.symm h19, Ne.symm h20, Ne.symm h21, Ne.symm h22, Ne.symm h23, Ne.symm h25]
  have e2 : dms o = none := by simp [dms, tabL, List.find?, Ne.symm h1, Ne.symm h2, Ne.symm h3, Ne.symm h4, Ne.symm h5, Ne.symm h26, Ne.symm h6, Ne.symm h7, Ne.symm h8, Ne.symm h9, Ne.symm h10, Ne.symm h11, Ne.symm h12, Ne.symm h13, Ne.symm h14, Ne.symm h15, Ne.symm h16, Ne.symm h17, Ne.symm h24, Ne.symm h18, Ne.symm h19, Ne.symm h20, Ne.symm h21, Ne.symm h22, Ne.symm h23, Ne.symm h25]
  have e3 : insD f p ⟨o, d, a, b, c, s, n, l⟩ = false := if_pos e1
  rw [e3]
  unfold insB
  rw [e2]
theorem refOk_all (l : List Proc) : (l.all (refOk l.length) && decide (0 < l.length)) = rightC l := by
  have h : ∀ (f : Nat) (r : List Proc), r.all (refOk f) = (!r.any missB && (pairsL r).all fun q => insB (roomOf q.1 f) q.2) := by
    intro f r
    induction r with
    | nil => rfl
    | cons p t ih =>
      have e : pairsL (p :: t) = (p.ins.map fun x => (p, x)) ++ pairsL t := by simp [pairsL]
      have e2 : ((p.ins.map fun x => (p, x)).all fun q => insB (roomOf q.1 f) q.2) = p.ins.all (insD f p) := by
        rw [List.all_map]
        congr 1
        funext x
        exact (ins_eq_all x p f).symm
      rw [List.all_cons, ih, List.any_cons, e, List.all_append, e2, refOk]
      cases missB p <;> cases t.any missB <;> cases p.ins.all (insD f p) <;> simp
  rw [h]
  unfold rightC
  cases l with
  | nil => rfl
  | cons p t => simp
end Go.Proofs.YtconnhphkbgbkaaGreatDoor
