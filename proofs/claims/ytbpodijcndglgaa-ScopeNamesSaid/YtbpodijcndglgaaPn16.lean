/- The leaves: is a byte a letter, a digit, a plain one. jlex.run with each of its three tests; strings as lists of bytes. jtree.shapes: the map of shapes. jlex.words: the map of words; jlex.IsWord. jlex.IsName. -/
import Derived.WalkKit
import Derived.WalkSpells
import Derived.WalkLawsBesides
import Derived.BigQuiet
import Derived.Deep.QuietTactic
import Derived.BigGuard
import Derived.Lib.Hide
import Derived.Outline
import Derived.Test.YtbpodijcndglgaaProg
import Derived.Maps.Own
import Derived.Maps.OwnSet
import Derived.Maps.OwnIn
import Derived.Test.YtbpodijcndglgaaPn01
set_option linter.unusedSimpArgs false
set_option linter.unusedVariables false
set_option maxRecDepth 100000
set_option maxHeartbeats 40000000
namespace Go.Proofs.Ytbpodijcndglgaa
section
open Go.RowKit Go.Proofs
theorem digit_any (c : UInt8) (w : World) : Calls Try.prog 98 #[.int .u8 c.toNat] w fun e w' => e = .returned (.bool (digitB c)) ∧ w = w' := by
 go_enter Try.func98, Try.ntmps98
 go_wp2
 all_goals
  go_ret
  exact ⟨ret_b (by rw [Bool.eq_iff_iff, digitB_iff]; simp; omega), rfl⟩
theorem letter_any (c : UInt8) (w : World) : Calls Try.prog 90 #[.int .u8 c.toNat] w fun e w' => e = .returned (.bool (letterB c)) ∧ w = w' := by
 go_enter Try.func90, Try.ntmps90
 go_wp2
 all_goals
  go_ret
  exact ⟨ret_b (by rw [Bool.eq_iff_iff, letterB_iff]; simp; omega), rfl⟩
theorem rletter_any (c : UInt8) (w : World) : Calls Try.prog 67 #[.int .u8 c.toNat] w fun e w' => e = .returned (.bool (letterB c)) ∧ w = w' := by
 go_enter Try.func67, Try.ntmps67
 go_wp2
 all_goals
  go_ret
  exact ⟨ret_b (by rw [Bool.eq_iff_iff, letterB_iff]; simp; omega), rfl⟩
theorem rdigit_any (c : UInt8) (w : World) : Calls Try.prog 70 #[.int .u8 c.toNat] w fun e w' => e = .returned (.bool (digitB c)) ∧ w = w' := by
 go_enter Try.func70, Try.ntmps70
 go_wp2
 all_goals
  go_ret
  exact ⟨ret_b (by rw [Bool.eq_iff_iff, digitB_iff]; simp; omega), rfl⟩
theorem jname_any (c : UInt8) (w : World) : Calls Try.prog 92 #[.int .u8 c.toNat] w fun e w' => e = .returned (.bool (nameB c)) ∧ w = w' := by
 have H1 := Lib.hid (letter_any c)
 have H2 := Lib.hid (digit_any c)
 unfold nameB
 cases h : letterB c with
 | true =>
  rw [h] at H1
  clear h
  go_enter Try.func92, Try.ntmps92
  go_wp2_with (go_at_call 90; refine (H1.out _).mono ?_; rintro e w' ⟨rfl, rfl⟩)
  go_ret
  exact ⟨ret_b (by simp), rfl⟩
 | false =>
  rw [h] at H1
  clear h
  go_enter Try.func92, Try.ntmps92
  go_wp2_with (first | (go_at_call 90; refine (H1.out _).mono ?_; rintro e w' ⟨rfl, rfl⟩) | (go_at_call 98; refine (H2.out _).mono ?_; rintro e w' ⟨rfl, rfl⟩))
  go_ret
  exact ⟨ret_b (by simp), rfl⟩
end
section
open Go.RowKit Go.Proofs
theorem run24_any (s : ByteArray) (w : World) (hs : s.size ≤ maxLen) :
  Calls Try.prog 91 #[.string s, .func (.func 92) #[] #[]] w fun e w' => e = .returned (.int .i64 (runL nameB s.data.toList)) ∧ w = w' := by
 unfold maxLen at hs
 go_enter Try.func91, Try.ntmps91
 go_wp2
 go_loop [8] (fun i => ∃ k : Nat, k ≤ s.size ∧ i = .int .i64 k ∧ ∀ c ∈ s.data.toList.take k, nameB c = true) (fun i => s.size - (intOf i).toNat)
 case atStart => exact ⟨0, Nat.zero_le _, rfl, by simp⟩
 case round =>
  obtain ⟨k, hk, rfl, hall⟩ := hrel
  have HA := Lib.hid hall
  clear hall
  by_cases hlt : k < s.size
  ·have HN := Lib.hid (jname_any s[k])
   cases hp : nameB s[k] with
   | true =>
    have HP := Lib.hid hp
    rw [hp] at HN
    clear hp
    go_wp2_with (go_at_call 92; refine (HN.out _).mono ?_; rintro e w' ⟨rfl, rfl⟩)
    go_round
    case rel => exact ⟨k + 1, by omega, by go_num, fun c hc => by
     rw [take_snoc s k hlt] at hc
     rcases List.mem_append.1 hc with h | h
     ·exact HA.out c h
     ·obtain rfl : c = s[k] := by simpa using h
      exact HP.out⟩
    case measure => simp [intOf]; omega
   | false =>
    have HP := Lib.hid hp
    rw [hp] at HN
    clear hp
    go_wp2_with (go_at_call 92; refine (HN.out _).mono ?_; rintro e w' ⟨rfl, rfl⟩)
    go_ret
    exact ⟨ret_i (runL_at _ s k hlt HA.out HP.out), rfl⟩
  ·go_wp2
   go_ret
   exact ⟨ret_i (runL_all _ s k hk hlt HA.out), rfl⟩
end
section
open Go.RowKit Go.Proofs Go.Maps
abbrev Sh := Int × Int × Int × Int
def shV (s : Sh) : Value := .agg #[.int .i64 s.1, .int .i64 s.2.1, .int .i64 s.2.2.1, .int .i64 s.2.2.2]
def shD (s : Sh) : DataW Unit := .agg [.lit (.int .i64 s.1), .lit (.int .i64 s.2.1), .lit (.int .i64 s.2.2.1), .lit (.int .i64 s.2.2.2)]
def shElem : Value → Option (DataW Unit × List MemPlace)
 | .agg cs => match cs.toList with
  | [.int .i64 a, .int .i64 b, .int .i64 c, .int .i64 d] => some (shD (a, b, c, d), [])
  | _ => none
 | _ => none
theorem shElem_mk (s : Sh) : shElem (shV s) = some (shD s, []) := rfl
theorem shElem_inv {v : Value} {s : Sh} {ps : List MemPlace} (h : shElem v = some (shD s, ps)) : v = shV s := by
 unfold shElem at h
 split at h
 ·rename_i cs
  split at h
  ·rename_i a b c d hl
   simp only [shD, Option.some.injEq, Prod.mk.injEq, DataW.agg.injEq, List.cons.injEq, DataW.lit.injEq, Lit.int.injEq, true_and, and_true] at h
   obtain ⟨⟨h1, h2, h3, h4⟩, -⟩ := h
   obtain ⟨l⟩ := cs
   simp only at hl
   subst hl h1 h2 h3 h4
   rfl
  ·cases h
 ·cases h
theorem intKey : Keyed Try.prog 3 := int_keyed Try.underlying3
theorem zero53 (w : World) : (zeroValue 93).run Try.prog w = .ok (shV (0, 0, 0, 0)) w := by kernel_rfl
def mapR : List (Int × Sh) → DataW Unit
 | [] => .map []
 | p :: r => (mapR r).put (.int .i64 p.1) (shD p.2)
theorem key_is {k : Int} (h : -9223372036854775808 ≤ k ∧ k ≤ 9223372036854775807) : keyOf Try.prog 3 (.int .i64 k) = some (.int .i64 k) :=
 keyOf_int_mk Try.underlying3 (by simp [Lit.wf, IntKind.min, IntKind.max, IntKind.bits, IntKind.signed]; omega)
def SM (w : World) (b : Nat) (acc : List (Int × Sh)) : Prop := w.ownsMap (H := Unit) Try.prog 3 shElem b acc.length (mapR acc)
theorem SM.below {w w' : World} {B b : Nat} {acc : List (Int × Sh)} (h : SM w b acc) (hb : b < B) (hg : Below B w w') : SM w' b acc := by
 obtain ⟨es, clock, h1, h2⟩ := h
 exact ⟨es, clock, (hg.block b hb).trans h1, h2⟩
theorem SM.same {w w' : World} {b : Nat} {acc : List (Int × Sh)} (h : SM w b acc) (hg : w'.heap[b]? = w.heap[b]?) : SM w' b acc := by
 obtain ⟨es, clock, h1, h2⟩ := h
 exact ⟨es, clock, hg.trans h1, h2⟩
theorem SM.lt {w : World} {b : Nat} {acc : List (Int × Sh)} (h : SM w b acc) : b < w.heap.size := World.ownsMap.lt h
theorem SM.put {w0 w : World} {B b : Nat} {acc : List (Int × Sh)} (h : SM w b acc ∧ Below B w0 w) (hn : decide (acc.length < 100) = true) (hBb : B ≤ b) (k : Int) (s : Sh) (hk : decide (0 ≤ k ∧ k ≤ 100) = true) :
  ∃ w', (Instr.mapUpdate 86 (.map (some b)) (.int .i64 k) (shV s)).run Try.prog w = .ok () w' ∧ (SM w' b ((k, s) :: acc) ∧ Below B w0 w') := by
 have hn := of_decide_eq_true hn
 have hk := of_decide_eq_true hk
 obtain ⟨w', hrun, r1, r2⟩ := World.ownsMap.update h.1 intKey Try.underlying86 (by unfold maxLen; omega) (key_is (k := k) (by omega)) (shElem_mk s)
 refine ⟨w', hrun, r1, h.2.trans ?_⟩
 exact ⟨r2.os, r2.tape, r2.output, r2.size, fun i hi => r2.block i (by have := World.ownsMap.lt h.1; omega) (fun e => by cases e; omega)⟩
theorem shapes_any (w : World) : Calls Try.prog 39 #[] w fun e w' => ∃ b, e = .returned (.map (some b)) ∧ SM w' b shapesL.reverse ∧ w.heap.size ≤ b ∧ Below w.heap.size w w' := by
 have hmm := @run_makeMap Try.prog
 have H0 : SM (w.alloc (.map #[] 0)) w.heap.size [] ∧ Below w.heap.size w (w.alloc (.map #[] 0)) := ⟨World.ownsMap_made w _ _ _, (Below.refl _ w).alloc (Nat.le_refl _) _⟩
 obtain ⟨w1, e1, H1⟩ := SM.put H0 rfl (Nat.le_refl _) 1 (3, 0, 0, 0) rfl
 unfold shV at e1
 clear H0
 obtain ⟨w2, e2, H2⟩ := SM.put H1 rfl (Nat.le_refl _) 2 (0, 999999999999999, 0, 0) rfl
 unfold shV at e2
 clear H1
 obtain ⟨w3, e3, H3⟩ := SM.put H2 rfl (Nat.le_refl _) 3 (1, 0, 0, 0) rfl
 unfold shV at e3
 clear H2
 obtain ⟨w4, e4, H4⟩ := SM.put H3 rfl (Nat.le_refl _) 4 (0, 0, 0, 0) rfl
 unfold shV at e4
 clear H3
 obtain ⟨w5, e5, H5⟩ := SM.put H4 rfl (Nat.le_refl _) 5 (0, 0, 0, 0) rfl
 unfold shV at e5
 clear H4
 obtain ⟨w6, e6, H6⟩ := SM.put H5 rfl (Nat.le_refl _) 6 (0, 0, 0, 0) rfl
 unfold shV at e6
 clear H5
 obtain ⟨w7, e7, H7⟩ := SM.put H6 rfl (Nat.le_refl _) 7 (0, 0, 0, 0) rfl
 unfold shV at e7
 clear H6
 obtain ⟨w8, e8, H8⟩ := SM.put H7 rfl (Nat.le_refl _) 8 (0, 0, 0, 0) rfl
 unfold shV at e8
 clear H7
 obtain ⟨w9, e9, H9⟩ := SM.put H8 rfl (Nat.le_refl _) 9 (0, 0, 0, 0) rfl
 unfold shV at e9
 clear H8
 obtain ⟨w10, e10, H10⟩ := SM.put H9 rfl (Nat.le_refl _) 10 (4, 0, 1, 201) rfl
 unfold shV at e10
 clear H9
 obtain ⟨w11, e11, H11⟩ := SM.put H10 rfl (Nat.le_refl _) 11 (0, 0, 0, 200) rfl
 unfold shV at e11
 clear H10
 obtain ⟨w12, e12, H12⟩ := SM.put H11 rfl (Nat.le_refl _) 12 (1, 0, 1, 1) rfl
 unfold shV at e12
 clear H11
 obtain ⟨w13, e13, H13⟩ := SM.put H12 rfl (Nat.le_refl _) 13 (5, 0, 1, 1) rfl
 unfold shV at e13
 clear H12
 obtain ⟨w14, e14, H14⟩ := SM.put H13 rfl (Nat.le_refl _) 14 (0, 0, 2, 2) rfl
 unfold shV at e14
 clear H13
 obtain ⟨w15, e15, H15⟩ := SM.put H14 rfl (Nat.le_refl _) 15 (0, 0, 1, 200) rfl
 unfold shV at e15
 clear H14
 obtain ⟨w16, e16, H16⟩ := SM.put H15 rfl (Nat.le_refl _) 16 (0, 0, 1, 200) rfl
 unfold shV at e16
 clear H15
 obtain ⟨w17, e17, H17⟩ := SM.put H16 rfl (Nat.le_refl _) 17 (0, 0, 2, 2) rfl
 unfold shV at e17
 clear H16
 obtain ⟨w18, e18, H18⟩ := SM.put H17 rfl (Nat.le_refl _) 18 (2, 0, 2, 2) rfl
 unfold shV at e18
 clear H17
 obtain ⟨w19, e19, H19⟩ := SM.put H18 rfl (Nat.le_refl _) 19 (0, 0, 1, 1) rfl
 unfold shV at e19
 clear H18
 obtain ⟨w20, e20, H20⟩ := SM.put H19 rfl (Nat.le_refl _) 20 (0, 0, 1, 1) rfl
 unfold shV at e20
 clear H19
 obtain ⟨w21, e21, H21⟩ := SM.put H20 rfl (Nat.le_refl _) 21 (0, 0, 2, 2) rfl
 unfold shV at e21
 clear H20
 obtain ⟨w22, e22, H22⟩ := SM.put H21 rfl (Nat.le_refl _) 22 (0, 0, 2, 2) rfl
 unfold shV at e22
 clear H21
 obtain ⟨w23, e23, H23⟩ := SM.put H22 rfl (Nat.le_refl _) 23 (0, 0, 3, 3) rfl
 unfold shV at e23
 clear H22
 obtain ⟨w24, e24, H24⟩ := SM.put H23 rfl (Nat.le_refl _) 30 (3, 0, 0, 1) rfl
 unfold shV at e24
 clear H23
 obtain ⟨w25, e25, H25⟩ := SM.put H24 rfl (Nat.le_refl _) 31 (0, 0, 1, 1) rfl
 unfold shV at e25
 clear H24
 obtain ⟨w26, e26, H26⟩ := SM.put H25 rfl (Nat.le_refl _) 32 (0, 0, 0, 9223372036854775807) rfl
 unfold shV at e26
 clear H25
 obtain ⟨w27, e27, H27⟩ := SM.put H26 rfl (Nat.le_refl _) 33 (0, 0, 2, 3) rfl
 unfold shV at e27
 clear H26
 obtain ⟨w28, e28, H28⟩ := SM.put H27 rfl (Nat.le_refl _) 34 (0, 0, 2, 2) rfl
 unfold shV at e28
 clear H27
 obtain ⟨w29, e29, H29⟩ := SM.put H28 rfl (Nat.le_refl _) 35 (3, 0, 2, 2) rfl
 unfold shV at e29
 clear H28
 obtain ⟨w30, e30, H30⟩ := SM.put H29 rfl (Nat.le_refl _) 36 (0, 0, 0, 1) rfl
 unfold shV at e30
 clear H29
 obtain ⟨w31, e31, H31⟩ := SM.put H30 rfl (Nat.le_refl _) 37 (0, 0, 1, 1) rfl
 unfold shV at e31
 clear H30
 obtain ⟨w32, e32, H32⟩ := SM.put H31 rfl (Nat.le_refl _) 38 (3, 0, 2, 2) rfl
 unfold shV at e32
 clear H31
 obtain ⟨w33, e33, H33⟩ := SM.put H32 rfl (Nat.le_refl _) 39 (0, 0, 0, 0) rfl
 unfold shV at e33
 clear H32
 obtain ⟨w34, e34, H34⟩ := SM.put H33 rfl (Nat.le_refl _) 40 (0, 0, 0, 0) rfl
 unfold shV at e34
 clear H33
 obtain ⟨w35, e35, H35⟩ := SM.put H34 rfl (Nat.le_refl _) 41 (3, 0, 1, 201) rfl
 unfold shV at e35
 clear H34
 have H := Lib.hid H35
 clear H35
 go_enter Try.func39, Try.ntmps39
 go_wp2
 go_ret
 exact ⟨_, rfl, H.out.1, Nat.le_refl _, H.out.2⟩
theorem mapR_isMap : ∀ l, IsMap (mapR l)
 | [] => isMap_empty
 | _ :: r => (mapR_isMap r).put _ _
theorem shapeIn_hit (p : Int × Sh) (r : List (Int × Sh)) : shapeIn (p :: r) p.1 = some p.2 := by simp [shapeIn]
theorem shapeIn_miss {p : Int × Sh} {k : Int} (h : p.1 ≠ k) (r : List (Int × Sh)) : shapeIn (p :: r) k = shapeIn r k := by simp [shapeIn, h]
theorem key_lit (k : Int) : WideAt.IsKeyLit (.int .i64 k) := by simp [WideAt.IsKeyLit]
theorem lit_ne {a b : Int} (h : a ≠ b) : Lit.int .i64 b ≠ Lit.int .i64 a := fun e => h (by injection e with _ e; exact e.symm)
theorem mapR_has : ∀ (l : List (Int × Sh)) (k : Int), Maps.has (mapR l) (.int .i64 k) = (shapeIn l k).isSome
 | [], _ => rfl
 | p :: r, k => by
  by_cases h : p.1 = k
  ·subst h
   rw [mapR, has_put_same (mapR_isMap r) (key_lit _), shapeIn_hit]
   rfl
  ·rw [mapR, has_put_other (lit_ne h), shapeIn_miss h, mapR_has r k]
theorem mapR_at (z : Sh) : ∀ (l : List (Int × Sh)) (k : Int), (mapR l).atKey (.int .i64 k) (shD z) = shD ((shapeIn l k).getD z)
 | [], _ => rfl
 | p :: r, k => by
  by_cases h : p.1 = k
  ·subst h
   rw [mapR, atKey_put_same (mapR_isMap r) (key_lit _), shapeIn_hit]
   rfl
  ·rw [mapR, atKey_put_other (lit_ne h), shapeIn_miss h, mapR_at z r k]
theorem SM.look {w : World} {b : Nat} (h : SM w b shapesL.reverse) (k : Int) (hk : -9223372036854775808 ≤ k ∧ k ≤ 9223372036854775807) :
  (Instr.lookup 86 (.map (some b)) (.int .i64 k) true).run Try.prog w = .ok (.tuple #[shV ((shapeOf k).getD (0, 0, 0, 0)), .bool (shapeOf k).isSome]) w := by
 obtain ⟨v, ps, hrun, hv⟩ := World.ownsMap.look_ok h intKey Try.underlying86 (zero53 w) (zd := shD (0, 0, 0, 0)) (zp := []) (shElem_mk _) (key_is hk)
 rw [mapR_at] at hv
 obtain rfl := shElem_inv hv
 rw [mapR_has] at hrun
 exact hrun
end
section
open Go.RowKit Go.Proofs Go.Maps
theorem strKey : Keyed Try.prog 9 := string_keyed Try.underlying9
theorem zero74 (w : World) : (zeroValue 126).run Try.prog w = .ok (.agg #[]) w := by kernel_rfl
def WM (w : World) (b : Nat) (acc : List Bs) : Prop :=
 w.ownsMap (H := Unit) Try.prog 9 unitElem b acc.length (setOf (.agg []) (acc.map Lit.string))
theorem WM.below {w w' : World} {B b : Nat} {acc : List Bs} (h : WM w b acc) (hb : b < B) (hg : Below B w w') : WM w' b acc := by
 obtain ⟨es, clock, h1, h2⟩ := h
 exact ⟨es, clock, (hg.block b hb).trans h1, h2⟩
theorem WM.lt {w : World} {b : Nat} {acc : List Bs} (h : WM w b acc) : b < w.heap.size := World.ownsMap.lt h
theorem WM.put {w0 w : World} {B b : Nat} {acc : List Bs} (h : WM w b acc ∧ Below B w0 w) (hn : decide (acc.length < 100) = true) (hBb : B ≤ b) (s : ByteArray) (hs : decide (s.size ≤ 100) = true) :
  ∃ w', (Instr.mapUpdate 128 (.map (some b)) (.string s) (.agg #[])).run Try.prog w = .ok () w' ∧ (WM w' b (acc ++ [s.data.toList]) ∧ Below B w0 w') := by
 have hn := of_decide_eq_true hn
 have hs := of_decide_eq_true hs
 obtain ⟨w', hrun, r1, r2⟩ := World.ownsMap.update h.1 strKey Try.underlying128 (by unfold maxLen; omega) (WideMaps.keyOf_string_mk Try.underlying9 (s := s) (by unfold maxLen; omega)) unitElem_mk
 refine ⟨w', hrun, ?_, h.2.trans ?_⟩
 ·unfold WM
  rw [List.map_append, List.length_append, List.map_singleton, setOf_snoc]
  exact r1
 ·exact ⟨r2.os, r2.tape, r2.output, r2.size, fun i hi => r2.block i (by have := World.ownsMap.lt h.1; omega) (fun e => by cases e; omega)⟩
theorem words_any (w : World) : Calls Try.prog 93 #[] w fun e w' => ∃ b, e = .returned (.map (some b)) ∧ WM w' b wordsL ∧ w.heap.size ≤ b ∧ Below w.heap.size w w' := by
 have hmm := @run_makeMap Try.prog
 have H0 : WM (w.alloc (.map #[] 0)) w.heap.size [] ∧ Below w.heap.size w (w.alloc (.map #[] 0)) := ⟨World.ownsMap_made w _ _ _, (Below.refl _ w).alloc (Nat.le_refl _) _⟩
 obtain ⟨w1, e1, H1⟩ := WM.put H0 rfl (Nat.le_refl _) ⟨#[98, 114, 101, 97, 107]⟩ rfl
 clear H0
 obtain ⟨w2, e2, H2⟩ := WM.put H1 rfl (Nat.le_refl _) ⟨#[99, 97, 115, 101]⟩ rfl
 clear H1
 obtain ⟨w3, e3, H3⟩ := WM.put H2 rfl (Nat.le_refl _) ⟨#[99, 97, 116, 99, 104]⟩ rfl
 clear H2
 obtain ⟨w4, e4, H4⟩ := WM.put H3 rfl (Nat.le_refl _) ⟨#[99, 111, 110, 116, 105, 110, 117, 101]⟩ rfl
 clear H3
 obtain ⟨w5, e5, H5⟩ := WM.put H4 rfl (Nat.le_refl _) ⟨#[100, 101, 98, 117, 103, 103, 101, 114]⟩ rfl
 clear H4
 obtain ⟨w6, e6, H6⟩ := WM.put H5 rfl (Nat.le_refl _) ⟨#[100, 101, 102, 97, 117, 108, 116]⟩ rfl
 clear H5
 obtain ⟨w7, e7, H7⟩ := WM.put H6 rfl (Nat.le_refl _) ⟨#[100, 101, 108, 101, 116, 101]⟩ rfl
 clear H6
 obtain ⟨w8, e8, H8⟩ := WM.put H7 rfl (Nat.le_refl _) ⟨#[100, 111]⟩ rfl
 clear H7
 obtain ⟨w9, e9, H9⟩ := WM.put H8 rfl (Nat.le_refl _) ⟨#[101, 108, 115, 101]⟩ rfl
 clear H8
 obtain ⟨w10, e10, H10⟩ := WM.put H9 rfl (Nat.le_refl _) ⟨#[102, 105, 110, 97, 108, 108, 121]⟩ rfl
 clear H9
 obtain ⟨w11, e11, H11⟩ := WM.put H10 rfl (Nat.le_refl _) ⟨#[102, 111, 114]⟩ rfl
 clear H10
 obtain ⟨w12, e12, H12⟩ := WM.put H11 rfl (Nat.le_refl _) ⟨#[102, 117, 110, 99, 116, 105, 111, 110]⟩ rfl
 clear H11
 obtain ⟨w13, e13, H13⟩ := WM.put H12 rfl (Nat.le_refl _) ⟨#[105, 102]⟩ rfl
 clear H12
 obtain ⟨w14, e14, H14⟩ := WM.put H13 rfl (Nat.le_refl _) ⟨#[105, 110]⟩ rfl
 clear H13
 obtain ⟨w15, e15, H15⟩ := WM.put H14 rfl (Nat.le_refl _) ⟨#[105, 110, 115, 116, 97, 110, 99, 101, 111, 102]⟩ rfl
 clear H14
 obtain ⟨w16, e16, H16⟩ := WM.put H15 rfl (Nat.le_refl _) ⟨#[110, 101, 119]⟩ rfl
 clear H15
 obtain ⟨w17, e17, H17⟩ := WM.put H16 rfl (Nat.le_refl _) ⟨#[114, 101, 116, 117, 114, 110]⟩ rfl
 clear H16
 obtain ⟨w18, e18, H18⟩ := WM.put H17 rfl (Nat.le_refl _) ⟨#[115, 119, 105, 116, 99, 104]⟩ rfl
 clear H17
 obtain ⟨w19, e19, H19⟩ := WM.put H18 rfl (Nat.le_refl _) ⟨#[116, 104, 105, 115]⟩ rfl
 clear H18
 obtain ⟨w20, e20, H20⟩ := WM.put H19 rfl (Nat.le_refl _) ⟨#[116, 104, 114, 111, 119]⟩ rfl
 clear H19
 obtain ⟨w21, e21, H21⟩ := WM.put H20 rfl (Nat.le_refl _) ⟨#[116, 114, 121]⟩ rfl
 clear H20
 obtain ⟨w22, e22, H22⟩ := WM.put H21 rfl (Nat.le_refl _) ⟨#[116, 121, 112, 101, 111, 102]⟩ rfl
 clear H21
 obtain ⟨w23, e23, H23⟩ := WM.put H22 rfl (Nat.le_refl _) ⟨#[118, 97, 114]⟩ rfl
 clear H22
 obtain ⟨w24, e24, H24⟩ := WM.put H23 rfl (Nat.le_refl _) ⟨#[118, 111, 105, 100]⟩ rfl
 clear H23
 obtain ⟨w25, e25, H25⟩ := WM.put H24 rfl (Nat.le_refl _) ⟨#[119, 104, 105, 108, 101]⟩ rfl
 clear H24
 obtain ⟨w26, e26, H26⟩ := WM.put H25 rfl (Nat.le_refl _) ⟨#[119, 105, 116, 104]⟩ rfl
 clear H25
 obtain ⟨w27, e27, H27⟩ := WM.put H26 rfl (Nat.le_refl _) ⟨#[110, 117, 108, 108]⟩ rfl
 clear H26
 obtain ⟨w28, e28, H28⟩ := WM.put H27 rfl (Nat.le_refl _) ⟨#[116, 114, 117, 101]⟩ rfl
 clear H27
 obtain ⟨w29, e29, H29⟩ := WM.put H28 rfl (Nat.le_refl _) ⟨#[102, 97, 108, 115, 101]⟩ rfl
 clear H28
 obtain ⟨w30, e30, H30⟩ := WM.put H29 rfl (Nat.le_refl _) ⟨#[117, 110, 100, 101, 102, 105, 110, 101, 100]⟩ rfl
 clear H29
 obtain ⟨w31, e31, H31⟩ := WM.put H30 rfl (Nat.le_refl _) ⟨#[105, 110, 112, 117, 116]⟩ rfl
 clear H30
 have H := Lib.hid H31
 clear H31
 go_enter Try.func93, Try.ntmps93
 go_wp2
 go_ret
 exact ⟨_, rfl, H.out.1, Nat.le_refl _, H.out.2⟩
theorem words_has (l : Bs) : Maps.has (setOf (H := Unit) (.agg []) (wordsL.map Lit.string)) (.string l) = isWordL l := by
 rw [has_setOf _ _ _ (fun x hx => by
  obtain ⟨y, _, rfl⟩ := List.mem_map.1 hx
  exact strKey.key (WideMaps.keyOf_string_mk (s := ⟨#[]⟩) Try.underlying9 (by unfold maxLen; decide)) |> fun _ => trivial)]
 unfold isWordL
 rw [List.any_map]
 rw [Bool.eq_iff_iff]
 simp [Lit.sameKey]
theorem WM.look {w : World} {b : Nat} (h : WM w b wordsL) (s : ByteArray) (hs : s.size ≤ maxLen) :
  (Instr.lookup 128 (.map (some b)) (.string s) true).run Try.prog w = .ok (.tuple #[.agg #[], .bool (isWordL s.data.toList)]) w := by
 obtain ⟨v, ps, hrun, hv⟩ := World.ownsMap.look_ok h strKey Try.underlying128 (zero74 w) (zd := .agg []) (zp := []) unitElem_mk (WideMaps.keyOf_string_mk Try.underlying9 hs)
 obtain ⟨rfl, _⟩ := unitElem_inv hv
 rw [words_has] at hrun
 exact hrun
theorem isWord_any (s : ByteArray) (w : World) (hs : s.size ≤ maxLen) : Calls Try.prog 77 #[.string s] w fun e w' => e = .returned (.bool (isWordL s.data.toList)) ∧ Below w.heap.size w w' := by
 go_enter Try.func77, Try.ntmps77
 go_wp2_with (go_at_call 93; refine (words_any _).mono ?_; rintro e w' ⟨b, rfl, hW, hb, hB⟩; have hL := hW.look s hs)
 go_ret
 exact ⟨rfl, hB.alloc hB.size _⟩
end
section
open Go.RowKit Go.Proofs
theorem nameB_letter {c : UInt8} (h : letterB c = true) : nameB c = true := by unfold nameB; rw [h]; rfl
theorem run_all {p : UInt8 → Bool} : ∀ {l : Bs}, runL p l = l.length → l.all p = true
 | [], _ => rfl
 | c :: r, h => by
  unfold runL at h
  rw [List.takeWhile_cons] at h
  cases hc : p c with
  | false => rw [hc] at h; simp at h
  | true =>
   rw [hc] at h
   simp at h
   have := run_all (p := p) (l := r) h
   rw [List.all_cons, hc, this]
   rfl
theorem isName_any (s : ByteArray) (w : World) (hs : s.size ≤ maxLen) :
  Calls Try.prog 76 #[.string s] w fun e w' => e = .returned (.bool (isNameL s.data.toList)) ∧ Below w.heap.size w w' := by
 have HR := Lib.hid (fun w => run24_any s w hs)
 have HW := Lib.hid (fun w => isWord_any s w hs)
 unfold maxLen at hs
 by_cases h0 : s.size = 0
 ·have hl : s.data.toList = [] := List.eq_nil_of_length_eq_zero (by rw [len_toList]; exact h0)
  have hN := Lib.hid (show isNameL s.data.toList = false by rw [hl]; rfl)
  have he : (s.toList == []) = true := by rw [Lib.toList_data, hl]; rfl
  clear hl
  go_enter Try.func76, Try.ntmps76
  go_wp2
  go_ret
  exact ⟨ret_b hN.out.symm, Below.refl _ _⟩
 ·have h1 : 0 < s.size := by omega
  have g1 : (0 : Int) < s.size := by omega
  have hl : s.data.toList = s[0] :: s.data.toList.drop 1 := by
   have := drop_toList s 0 h1
   simpa using this
  have he : (s.toList == []) = false := by rw [Lib.toList_data, hl]; rfl
  have hN : isNameL s.data.toList = (letterB s[0] && (decide (runL nameB s.data.toList = s.data.toList.length) && !isWordL s.data.toList)) := by
   have key : ∀ c r, isNameL (c :: r) = (letterB c && (decide (runL nameB (c :: r) = (c :: r).length) && !isWordL (c :: r))) := by
    intro c r
    show (letterB c && (r.all nameB && !isWordL (c :: r))) = _
    cases hc : letterB c with
    | false => rfl
    | true =>
     by_cases ha : r.all nameB = true
     ·rw [ha, decide_eq_true (runL_all_such _ _ (fun x hx => by
       rcases List.mem_cons.1 hx with rfl | hx
       ·exact nameB_letter hc
       ·exact List.all_eq_true.1 ha x hx))]
     ·rw [decide_eq_false (fun e => ha (by
       have := run_all e
       rw [List.all_cons] at this
       exact (Bool.and_eq_true _ _ ▸ this).2))]
      simp only [Bool.not_eq_true] at ha
      rw [ha]
   rw [hl]
   exact key _ _
  rw [len_toList] at hN
  obtain ⟨n, hn⟩ : ∃ n, runL nameB s.data.toList = n := ⟨_, rfl⟩
  obtain ⟨b, hb⟩ : ∃ b, isWordL s.data.toList = b := ⟨_, rfl⟩
  have HR := fun w => HR.out w
  have HW := fun w => HW.out w
  rw [hn] at hN HR
  rw [hb] at hN HW
  have HR := Lib.hid HR
  have HW := Lib.hid HW
  have HL := Lib.hid (letter_any s[0])
  cases hc : letterB s[0] with
  | false =>
   rw [hc] at hN HL
   have hN := Lib.hid hN
   clear hl hn hb hc
   go_enter Try.func76, Try.ntmps76
   go_wp2_with (go_at_call 90; refine (HL.out _).mono ?_; rintro e w' ⟨rfl, rfl⟩)
   go_ret
   exact ⟨ret_b (by rw [hN.out]; rfl), Below.refl _ _⟩
  | true =>
   rw [hc] at hN HL
   by_cases hz : n = s.size
   ·have hN2 : isNameL s.data.toList = !b := by rw [hN, decide_eq_true hz]; simp
    clear hl hn hb hc hN
    have hM := Lib.hid hN2
    clear hN2
    subst hz
    go_enter Try.func76, Try.ntmps76
    go_wp2_with (first | (go_at_call 90; refine (HL.out _).mono ?_; rintro e w' ⟨rfl, rfl⟩) | (go_at_call 91; refine (HR.out _).mono ?_; rintro e w' ⟨rfl, rfl⟩) | (go_at_call 77; refine (HW.out _).mono ?_; rintro e w1 ⟨rfl, hB1⟩))
    go_ret
    exact ⟨ret_b (by rw [hM.out]), hB1⟩
   ·have hN : isNameL s.data.toList = false := by rw [hN, decide_eq_false hz]; simp
    have hN := Lib.hid hN
    have d : ((n : Int) == s.size) = false := by
     rw [beq_eq_false_iff_ne]
     omega
    have d2 : (n == s.size) = false := by simpa using hz
    clear hl hn hb hc
    go_enter Try.func76, Try.ntmps76
    go_wp2_with (first | (go_at_call 90; refine (HL.out _).mono ?_; rintro e w' ⟨rfl, rfl⟩) | (go_at_call 91; refine (HR.out _).mono ?_; rintro e w' ⟨rfl, rfl⟩))
    go_ret
    exact ⟨ret_b hN.out.symm, Below.refl _ _⟩
end
end Go.Proofs.Ytbpodijcndglgaa
