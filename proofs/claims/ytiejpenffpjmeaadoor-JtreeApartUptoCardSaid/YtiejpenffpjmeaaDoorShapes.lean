/- jtree.shapes: the map of shapes. -/
import Derived.Test.YtiejpenffpjmeaaDoorShape
import Derived.Test.YtiejpenffpjmeaaDoorRun
import Derived.Maps.Own
import Derived.Maps.OwnSet
import Derived.Maps.OwnIn
namespace Go.Proofs.YtiejpenffpjmeaaDoor
open Go.RowKit Go.Proofs Go.Maps

abbrev Sh := Int × Int × Int × Int
def shV (s : Sh) : Value := .agg #[.int .i64 s.1, .int .i64 s.2.1, .int .i64 s.2.2.1, .int .i64 s.2.2.2]
def shD (s : Sh) : DataW Unit := .agg [.lit (.int .i64 s.1), .lit (.int .i64 s.2.1), .lit (.int .i64 s.2.2.1), .lit (.int .i64 s.2.2.2)]
def shElem : Value → Option (DataW Unit × List MemPlace)
  | .agg cs => match cs.toList with
    | [.int .i64 a, .int .i64 b, .int .i64 c, .int .i64 d] => some (shD (a, b, c, d), [])
    | _ => none
  | _ => none
theorem shElem_mk (s : Sh) : shElem (shV s) = some (shD s, []) := rfl
theorem shElem_inv {v : Value} {s : Sh} {ps : List MemPlace} (h : shElem v = some (shD s, ps)) : v = shV s := by
  unfold shElem at h
  split at h
  · rename_i cs
    split at h
    · rename_i a b c d hl
      simp only [shD, Option.some.injEq, Prod.mk.injEq, DataW.agg.injEq, List.cons.injEq, DataW.lit.injEq, Lit.int.injEq, true_and, and_true] at h
      obtain ⟨⟨h1, h2, h3, h4⟩, -⟩ := h
      obtain ⟨l⟩ := cs
      simp only at hl
      subst hl h1 h2 h3 h4
      rfl
    · cases h
  · cases h
theorem intKey : Keyed Tryd.prog 3 := int_keyed Tryd.underlying3
theorem zero53 (w : World) : (zeroValue 53).run Tryd.prog w = .ok (shV (0, 0, 0, 0)) w := by kernel_rfl
/-- The map's datum, the last one first. -/
def mapR : List (Int × Sh) → DataW Unit
  | [] => .map []
  | p :: r => (mapR r).put (.int .i64 p.1) (shD p.2)
theorem key_is {k : Int} (h : -9223372036854775808 ≤ k ∧ k ≤ 9223372036854775807) : keyOf Tryd.prog 3 (.int .i64 k) = some (.int .i64 k) :=
  keyOf_int_mk Tryd.underlying3 (by simp [Lit.wf, IntKind.min, IntKind.max, IntKind.bits, IntKind.signed]; omega)

/-- Block b is a map that has just these shapes. -/
def SM (w : World) (b : Nat) (acc : List (Int × Sh)) : Prop := w.ownsMap (H := Unit) Tryd.prog 3 shElem b acc.length (mapR acc)
theorem SM.below {w w' : World} {B b : Nat} {acc : List (Int × Sh)} (h : SM w b acc) (hb : b < B) (hg : Below B w w') : SM w' b acc := by
  obtain ⟨es, clock, h1, h2⟩ := h
  exact ⟨es, clock, (hg.block b hb).trans h1, h2⟩
theorem SM.same {w w' : World} {b : Nat} {acc : List (Int × Sh)} (h : SM w b acc) (hg : w'.heap[b]? = w.heap[b]?) : SM w' b acc := by
  obtain ⟨es, clock, h1, h2⟩ := h
  exact ⟨es, clock, hg.trans h1, h2⟩
theorem SM.lt {w : World} {b : Nat} {acc : List (Int × Sh)} (h : SM w b acc) : b < w.heap.size := World.ownsMap.lt h
theorem SM.put {w0 w : World} {B b : Nat} {acc : List (Int × Sh)} (h : SM w b acc ∧ Below B w0 w) (hn : decide (acc.length < 100) = true) (hBb : B ≤ b) (k : Int) (s : Sh) (hk : decide (0 ≤ k ∧ k ≤ 100) = true) :
    ∃ w', (Instr.mapUpdate 49 (.map (some b)) (.int .i64 k) (shV s)).run Tryd.prog w = .ok () w' ∧ (SM w' b ((k, s) :: acc) ∧ Below B w0 w') := by
  have hn := of_decide_eq_true hn
  have hk := of_decide_eq_true hk
  obtain ⟨w', hrun, r1, r2⟩ := World.ownsMap.update h.1 intKey Tryd.underlying49 (by unfold maxLen; omega) (key_is (k := k) (by omega)) (shElem_mk s)
  refine ⟨w', hrun, r1, h.2.trans ?_⟩
  exact ⟨r2.os, r2.tape, r2.output, r2.size, fun i hi => r2.block i (by have := World.ownsMap.lt h.1; omega) (fun e => by cases e; omega)⟩

set_option maxRecDepth 100000 in
set_option maxHeartbeats 4000000 in
theorem shapes_any (w : World) : Calls Tryd.prog 36 #[] w fun e w' => ∃ b, e = .returned (.map (some b)) ∧ SM w' b shapesL.reverse ∧ w.heap.size ≤ b ∧ Below w.heap.size w w' := by
  have hmm := @run_makeMap Tryd.prog
  have H0 : SM (w.alloc (.map #[] 0)) w.heap.size [] ∧ Below w.heap.size w (w.alloc (.map #[] 0)) := ⟨World.ownsMap_made w _ _ _, (Below.refl _ w).alloc (Nat.le_refl _) _⟩
  obtain ⟨w1, e1, H1⟩ := SM.put H0 rfl (Nat.le_refl _) 1 (3, 0, 0, 0) rfl
  unfold shV at e1
  clear H0
  obtain ⟨w2, e2, H2⟩ := SM.put H1 rfl (Nat.le_refl _) 2 (0, 999999999999999, 0, 0) rfl
  unfold shV at e2
  clear H1
  obtain ⟨w3, e3, H3⟩ := SM.put H2 rfl (Nat.le_refl _) 3 (1, 0, 0, 0) rfl
  unfold shV at e3
  clear H2
  obtain ⟨w4, e4, H4⟩ := SM.put H3 rfl (Nat.le_refl _) 4 (0, 0, 0, 0) rfl
  unfold shV at e4
  clear H3
  obtain ⟨w5, e5, H5⟩ := SM.put H4 rfl (Nat.le_refl _) 5 (0, 0, 0, 0) rfl
  unfold shV at e5
  clear H4
  obtain ⟨w6, e6, H6⟩ := SM.put H5 rfl (Nat.le_refl _) 6 (0, 0, 0, 0) rfl
  unfold shV at e6
  clear H5
  obtain ⟨w7, e7, H7⟩ := SM.put H6 rfl (Nat.le_refl _) 7 (0, 0, 0, 0) rfl
  unfold shV at e7
  clear H6
  obtain ⟨w8, e8, H8⟩ := SM.put H7 rfl (Nat.le_refl _) 8 (0, 0, 0, 0) rfl
  unfold shV at e8
  clear H7
  obtain ⟨w9, e9, H9⟩ := SM.put H8 rfl (Nat.le_refl _) 9 (0, 0, 0, 0) rfl
  unfold shV at e9
  clear H8
  obtain ⟨w10, e10, H10⟩ := SM.put H9 rfl (Nat.le_refl _) 10 (4, 0, 1, 201) rfl
  unfold shV at e10
  clear H9
  obtain ⟨w11, e11, H11⟩ := SM.put H10 rfl (Nat.le_refl _) 11 (0, 0, 0, 200) rfl
  unfold shV at e11
  clear H10
  obtain ⟨w12, e12, H12⟩ := SM.put H11 rfl (Nat.le_refl _) 12 (1, 0, 1, 1) rfl
  unfold shV at e12
  clear H11
  obtain ⟨w13, e13, H13⟩ := SM.put H12 rfl (Nat.le_refl _) 13 (5, 0, 1, 1) rfl
  unfold shV at e13
  clear H12
  obtain ⟨w14, e14, H14⟩ := SM.put H13 rfl (Nat.le_refl _) 14 (0, 0, 2, 2) rfl
  unfold shV at e14
  clear H13
  obtain ⟨w15, e15, H15⟩ := SM.put H14 rfl (Nat.le_refl _) 15 (0, 0, 1, 200) rfl
  unfold shV at e15
  clear H14
  obtain ⟨w16, e16, H16⟩ := SM.put H15 rfl (Nat.le_refl _) 16 (0, 0, 1, 200) rfl
  unfold shV at e16
  clear H15
  obtain ⟨w17, e17, H17⟩ := SM.put H16 rfl (Nat.le_refl _) 17 (0, 0, 2, 2) rfl
  unfold shV at e17
  clear H16
  obtain ⟨w18, e18, H18⟩ := SM.put H17 rfl (Nat.le_refl _) 18 (2, 0, 2, 2) rfl
  unfold shV at e18
  clear H17
  obtain ⟨w19, e19, H19⟩ := SM.put H18 rfl (Nat.le_refl _) 19 (0, 0, 1, 1) rfl
  unfold shV at e19
  clear H18
  obtain ⟨w20, e20, H20⟩ := SM.put H19 rfl (Nat.le_refl _) 20 (0, 0, 1, 1) rfl
  unfold shV at e20
  clear H19
  obtain ⟨w21, e21, H21⟩ := SM.put H20 rfl (Nat.le_refl _) 21 (0, 0, 2, 2) rfl
  unfold shV at e21
  clear H20
  obtain ⟨w22, e22, H22⟩ := SM.put H21 rfl (Nat.le_refl _) 22 (0, 0, 2, 2) rfl
  unfold shV at e22
  clear H21
  obtain ⟨w23, e23, H23⟩ := SM.put H22 rfl (Nat.le_refl _) 23 (0, 0, 3, 3) rfl
  unfold shV at e23
  clear H22
  obtain ⟨w24, e24, H24⟩ := SM.put H23 rfl (Nat.le_refl _) 30 (3, 0, 0, 1) rfl
  unfold shV at e24
  clear H23
  obtain ⟨w25, e25, H25⟩ := SM.put H24 rfl (Nat.le_refl _) 31 (0, 0, 1, 1) rfl
  unfold shV at e25
  clear H24
  obtain ⟨w26, e26, H26⟩ := SM.put H25 rfl (Nat.le_refl _) 32 (0, 0, 0, 9223372036854775807) rfl
  unfold shV at e26
  clear H25
  obtain ⟨w27, e27, H27⟩ := SM.put H26 rfl (Nat.le_refl _) 33 (0, 0, 2, 3) rfl
  unfold shV at e27
  clear H26
  obtain ⟨w28, e28, H28⟩ := SM.put H27 rfl (Nat.le_refl _) 34 (0, 0, 2, 2) rfl
  unfold shV at e28
  clear H27
  obtain ⟨w29, e29, H29⟩ := SM.put H28 rfl (Nat.le_refl _) 35 (3, 0, 2, 2) rfl
  unfold shV at e29
  clear H28
  obtain ⟨w30, e30, H30⟩ := SM.put H29 rfl (Nat.le_refl _) 36 (0, 0, 0, 1) rfl
  unfold shV at e30
  clear H29
  obtain ⟨w31, e31, H31⟩ := SM.put H30 rfl (Nat.le_refl _) 37 (0, 0, 1, 1) rfl
  unfold shV at e31
  clear H30
  obtain ⟨w32, e32, H32⟩ := SM.put H31 rfl (Nat.le_refl _) 38 (3, 0, 2, 2) rfl
  unfold shV at e32
  clear H31
  obtain ⟨w33, e33, H33⟩ := SM.put H32 rfl (Nat.le_refl _) 39 (0, 0, 0, 0) rfl
  unfold shV at e33
  clear H32
  obtain ⟨w34, e34, H34⟩ := SM.put H33 rfl (Nat.le_refl _) 40 (0, 0, 0, 0) rfl
  unfold shV at e34
  clear H33
  obtain ⟨w35, e35, H35⟩ := SM.put H34 rfl (Nat.le_refl _) 41 (3, 0, 1, 201) rfl
  unfold shV at e35
  clear H34
  have H := Lib.hid H35
  clear H35
  go_enter Tryd.func36, Tryd.ntmps36
  go_wp2
  go_ret
  exact ⟨_, rfl, H.out.1, Nat.le_refl _, H.out.2⟩

theorem mapR_isMap : ∀ l, IsMap (mapR l)
  | [] => isMap_empty
  | _ :: r => (mapR_isMap r).put _ _
theorem shapeIn_hit (p : Int × Sh) (r : List (Int × Sh)) : shapeIn (p :: r) p.1 = some p.2 := by simp [shapeIn]
theorem shapeIn_miss {p : Int × Sh} {k : Int} (h : p.1 ≠ k) (r : List (Int × Sh)) : shapeIn (p :: r) k = shapeIn r k := by simp [shapeIn, h]
theorem key_lit (k : Int) : WideAt.IsKeyLit (.int .i64 k) := by simp [WideAt.IsKeyLit]
theorem lit_ne {a b : Int} (h : a ≠ b) : Lit.int .i64 b ≠ Lit.int .i64 a := fun e => h (by injection e with _ e; exact e.symm)
theorem mapR_has : ∀ (l : List (Int × Sh)) (k : Int), Maps.has (mapR l) (.int .i64 k) = (shapeIn l k).isSome
  | [], _ => rfl
  | p :: r, k => by
    by_cases h : p.1 = k
    · subst h
      rw [mapR, has_put_same (mapR_isMap r) (key_lit _), shapeIn_hit]
      rfl
    · rw [mapR, has_put_other (lit_ne h), shapeIn_miss h, mapR_has r k]
theorem mapR_at (z : Sh) : ∀ (l : List (Int × Sh)) (k : Int), (mapR l).atKey (.int .i64 k) (shD z) = shD ((shapeIn l k).getD z)
  | [], _ => rfl
  | p :: r, k => by
    by_cases h : p.1 = k
    · subst h
      rw [mapR, atKey_put_same (mapR_isMap r) (key_lit _), shapeIn_hit]
      rfl
    · rw [mapR, atKey_put_other (lit_ne h), shapeIn_miss h, mapR_at z r k]
/-- The map is asked for an operation. -/
theorem SM.look {w : World} {b : Nat} (h : SM w b shapesL.reverse) (k : Int) (hk : -9223372036854775808 ≤ k ∧ k ≤ 9223372036854775807) :
    (Instr.lookup 49 (.map (some b)) (.int .i64 k) true).run Tryd.prog w = .ok (.tuple #[shV ((shapeOf k).getD (0, 0, 0, 0)), .bool (shapeOf k).isSome]) w := by
  obtain ⟨v, ps, hrun, hv⟩ := World.ownsMap.look_ok h intKey Tryd.underlying49 (zero53 w) (zd := shD (0, 0, 0, 0)) (zp := []) (shElem_mk _) (key_is hk)
  rw [mapR_at] at hv
  obtain rfl := shElem_inv hv
  rw [mapR_has] at hrun
  exact hrun
end Go.Proofs.YtiejpenffpjmeaaDoor
