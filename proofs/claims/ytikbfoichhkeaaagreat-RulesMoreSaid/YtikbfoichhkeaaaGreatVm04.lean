/- What a tree of an operation has: which text, number, parts. No program. jtree.shapes: the map of shapes. What each operation asks for, one by one. No program. Marks rise, without a gap. No program. What scope's answers have in common with the program: bare, lined. No program. Names that are written otherwise, all alike, resolve to the same. No program. What is told of a whole program. No program. A good tree has no numbers but those of numbers. No program. -/
import Derived.Test.YtikbfoichhkeaaaGreatProg
import Derived.Maps.Own
import Derived.Maps.OwnSet
import Derived.Maps.OwnIn
import Derived.Test.YtikbfoichhkeaaaGreatVm03
set_option linter.unusedSimpArgs false
set_option linter.unusedVariables false
set_option maxRecDepth 100000
set_option maxHeartbeats 40000000
namespace Go.Proofs.YtikbfoichhkeaaaGreat
def shapesL : List (Int × Int × Int × Int × Int) :=
  [(1, 3, 0, 0, 0),
   (2, 0, 999999999999999, 0, 0),
   (3, 1, 0, 0, 0),
   (4, 0, 0, 0, 0),
   (5, 0, 0, 0, 0),
   (6, 0, 0, 0, 0),
   (7, 0, 0, 0, 0),
   (8, 0, 0, 0, 0),
   (9, 0, 0, 0, 0),
   (10, 4, 0, 1, 201),
   (11, 0, 0, 0, 200),
   (12, 1, 0, 1, 1),
   (13, 5, 0, 1, 1),
   (14, 0, 0, 2, 2),
   (15, 0, 0, 1, 200),
   (16, 0, 0, 1, 200),
   (17, 0, 0, 2, 2),
   (18, 2, 0, 2, 2),
   (19, 0, 0, 1, 1),
   (20, 0, 0, 1, 1),
   (21, 0, 0, 2, 2),
   (22, 0, 0, 2, 2),
   (23, 0, 0, 3, 3),
   (30, 3, 0, 0, 1),
   (31, 0, 0, 1, 1),
   (32, 0, 0, 0, 9223372036854775807),
   (33, 0, 0, 2, 3),
   (34, 0, 0, 2, 2),
   (35, 3, 0, 2, 2),
   (36, 0, 0, 0, 1),
   (37, 0, 0, 1, 1),
   (38, 3, 0, 2, 2),
   (39, 0, 0, 0, 0),
   (40, 0, 0, 0, 0),
   (41, 3, 0, 1, 201)]
def shapeIn (l : List (Int × Int × Int × Int × Int)) (op : Int) : Option (Int × Int × Int × Int) := (l.find? (fun p => decide (p.1 = op))).map (·.2)
def shapeOf (op : Int) : Option (Int × Int × Int × Int) := shapeIn shapesL.reverse op
def signsB : List Bs := [[43], [45], [42], [60], [60, 61], [61, 61, 61], [33, 61, 61]]
def allowsB (w : Int) (s : Bs) : Bool :=
 if w = 1 then true else if w = 2 then signsB.contains s else if w = 4 then (s.isEmpty || isNameL s) else if w = 5 then (isWordL s || isNameL s) else if w = 3 then isNameL s else s.isEmpty
def hasB (g op : Int) : Bool :=
 if g = 1 then decide (30 ≤ op) && decide (op ≤ 41) else if g = 2 then decide (op = 32) else if g = 3 then decide (op = 12)
 else if g = 5 then (decide (op = 13) || (decide (op = 14) || decide (op = 1))) else if g = 4 then decide (op = 1) else decide (1 ≤ op) && (decide (op ≤ 23) && !decide (op = 12))
def wantedB (op i count : Int) : Int :=
 if op = 11 then 3 else if op = 32 then 1 else if op = 17 then (if i = 0 then 5 else 0) else if op = 33 ∨ op = 34 ∨ op = 35 then (if 0 < i then 2 else 0)
 else if op = 10 ∨ op = 41 then (if i < count - 1 then 4 else 2) else if op = 38 then 2 else 0
def partsB (op count : Int) : Int → List Tr → Bool
 | _, [] => true
 | i, t :: r => hasB (wantedB op i count) t.op && partsB op count (i + 1) r
def fitsB (s : Int × Int × Int × Int) (t : Tr) : Bool :=
 allowsB s.1 t.s && (decide (0 ≤ t.n) && (decide (t.n ≤ s.2.1) && (decide (s.2.2.1 ≤ t.l.length) && (decide ((t.l.length : Int) ≤ s.2.2.2) && partsB t.op t.l.length 0 t.l))))
def soundOne (t : Tr) : Bool := match shapeOf t.op with
 | none => false
 | some s => fitsB s t
def goodB (p : Tr × Nat) : Bool := soundOne p.1 && decide (p.2 ≤ 100)
def soundT (t : Tr) : Bool := (t.levels 1).all goodB
def rightP (t : Tr) : Bool := hasB 2 t.op && soundT t
theorem partsB_get : ∀ {op count : Int} (l : List Tr) (i : Int), partsB op count i l = true ↔ ∀ (k : Nat) t, l[k]? = some t → hasB (wantedB op (i + k) count) t.op = true
 | op, count, [], i => by simp [partsB]
 | op, count, a :: r, i => by
  rw [partsB, Bool.and_eq_true, partsB_get r (i + 1)]
  constructor
  ·rintro ⟨h1, h2⟩ k t hk
   cases k with
   | zero => simp at hk; subst hk; simpa using h1
   | succ k =>
    have := h2 k t (by simpa using hk)
    rw [show i + 1 + (k : Int) = i + ((k + 1 : Nat) : Int) by omega] at this
    exact this
  ·intro h
   refine ⟨by simpa using h 0 a rfl, fun k t hk => ?_⟩
   have := h (k + 1) t (by simpa using hk)
   rw [show i + 1 + (k : Int) = i + ((k + 1 : Nat) : Int) by omega]
   exact this
section
open Go.RowKit Go.Proofs Go.Maps
abbrev Sh := Int × Int × Int × Int
def shV (s : Sh) : Value := .agg #[.int .i64 s.1, .int .i64 s.2.1, .int .i64 s.2.2.1, .int .i64 s.2.2.2]
def shD (s : Sh) : DataW Unit := .agg [.lit (.int .i64 s.1), .lit (.int .i64 s.2.1), .lit (.int .i64 s.2.2.1), .lit (.int .i64 s.2.2.2)]
def shElem : Value → Option (DataW Unit × List MemPlace)
 | .agg cs => match cs.toList with
  | [.int .i64 a, .int .i64 b, .int .i64 c, .int .i64 d] => some (shD (a, b, c, d), [])
  | _ => none
 | _ => none
theorem shElem_mk (s : Sh) : shElem (shV s) = some (shD s, []) := rfl
theorem shElem_inv {v : Value} {s : Sh} {ps : List MemPlace} (h : shElem v = some (shD s, ps)) : v = shV s := by
 unfold shElem at h
 split at h
 ·rename_i cs
  split at h
  ·rename_i a b c d hl
   simp only [shD, Option.some.injEq, Prod.mk.injEq, DataW.agg.injEq, List.cons.injEq, DataW.lit.injEq, Lit.int.injEq, true_and, and_true] at h
   obtain ⟨⟨h1, h2, h3, h4⟩, -⟩ := h
   obtain ⟨l⟩ := cs
   simp only at hl
   subst hl h1 h2 h3 h4
   rfl
  ·cases h
 ·cases h
theorem intKey : Keyed Tryz.prog 3 := int_keyed Tryz.underlying3
theorem zero53 (w : World) : (zeroValue 151).run Tryz.prog w = .ok (shV (0, 0, 0, 0)) w := by kernel_rfl
def mapR : List (Int × Sh) → DataW Unit
 | [] => .map []
 | p :: r => (mapR r).put (.int .i64 p.1) (shD p.2)
theorem key_is {k : Int} (h : -9223372036854775808 ≤ k ∧ k ≤ 9223372036854775807) : keyOf Tryz.prog 3 (.int .i64 k) = some (.int .i64 k) :=
 keyOf_int_mk Tryz.underlying3 (by simp [Lit.wf, IntKind.min, IntKind.max, IntKind.bits, IntKind.signed]; omega)
def SM (w : World) (b : Nat) (acc : List (Int × Sh)) : Prop := w.ownsMap (H := Unit) Tryz.prog 3 shElem b acc.length (mapR acc)
theorem SM.below {w w' : World} {B b : Nat} {acc : List (Int × Sh)} (h : SM w b acc) (hb : b < B) (hg : Below B w w') : SM w' b acc := by
 obtain ⟨es, clock, h1, h2⟩ := h
 exact ⟨es, clock, (hg.block b hb).trans h1, h2⟩
theorem SM.same {w w' : World} {b : Nat} {acc : List (Int × Sh)} (h : SM w b acc) (hg : w'.heap[b]? = w.heap[b]?) : SM w' b acc := by
 obtain ⟨es, clock, h1, h2⟩ := h
 exact ⟨es, clock, hg.trans h1, h2⟩
theorem SM.lt {w : World} {b : Nat} {acc : List (Int × Sh)} (h : SM w b acc) : b < w.heap.size := World.ownsMap.lt h
theorem SM.put {w0 w : World} {B b : Nat} {acc : List (Int × Sh)} (h : SM w b acc ∧ Below B w0 w) (hn : decide (acc.length < 100) = true) (hBb : B ≤ b) (k : Int) (s : Sh) (hk : decide (0 ≤ k ∧ k ≤ 100) = true) :
  ∃ w', (Instr.mapUpdate 144 (.map (some b)) (.int .i64 k) (shV s)).run Tryz.prog w = .ok () w' ∧ (SM w' b ((k, s) :: acc) ∧ Below B w0 w') := by
 have hn := of_decide_eq_true hn
 have hk := of_decide_eq_true hk
 obtain ⟨w', hrun, r1, r2⟩ := World.ownsMap.update h.1 intKey Tryz.underlying144 (by unfold maxLen; omega) (key_is (k := k) (by omega)) (shElem_mk s)
 refine ⟨w', hrun, r1, h.2.trans ?_⟩
 exact ⟨r2.os, r2.tape, r2.output, r2.size, fun i hi => r2.block i (by have := World.ownsMap.lt h.1; omega) (fun e => by cases e; omega)⟩
theorem shapes_any (w : World) : Calls Tryz.prog 97 #[] w fun e w' => ∃ b, e = .returned (.map (some b)) ∧ SM w' b shapesL.reverse ∧ w.heap.size ≤ b ∧ Below w.heap.size w w' := by
 have hmm := @run_makeMap Tryz.prog
 have H0 : SM (w.alloc (.map #[] 0)) w.heap.size [] ∧ Below w.heap.size w (w.alloc (.map #[] 0)) := ⟨World.ownsMap_made w _ _ _, (Below.refl _ w).alloc (Nat.le_refl _) _⟩
 obtain ⟨w1, e1, H1⟩ := SM.put H0 rfl (Nat.le_refl _) 1 (3, 0, 0, 0) rfl
 unfold shV at e1
 clear H0
 obtain ⟨w2, e2, H2⟩ := SM.put H1 rfl (Nat.le_refl _) 2 (0, 999999999999999, 0, 0) rfl
 unfold shV at e2
 clear H1
 obtain ⟨w3, e3, H3⟩ := SM.put H2 rfl (Nat.le_refl _) 3 (1, 0, 0, 0) rfl
 unfold shV at e3
 clear H2
 obtain ⟨w4, e4, H4⟩ := SM.put H3 rfl (Nat.le_refl _) 4 (0, 0, 0, 0) rfl
 unfold shV at e4
 clear H3
 obtain ⟨w5, e5, H5⟩ := SM.put H4 rfl (Nat.le_refl _) 5 (0, 0, 0, 0) rfl
 unfold shV at e5
 clear H4
 obtain ⟨w6, e6, H6⟩ := SM.put H5 rfl (Nat.le_refl _) 6 (0, 0, 0, 0) rfl
 unfold shV at e6
 clear H5
 obtain ⟨w7, e7, H7⟩ := SM.put H6 rfl (Nat.le_refl _) 7 (0, 0, 0, 0) rfl
 unfold shV at e7
 clear H6
 obtain ⟨w8, e8, H8⟩ := SM.put H7 rfl (Nat.le_refl _) 8 (0, 0, 0, 0) rfl
 unfold shV at e8
 clear H7
 obtain ⟨w9, e9, H9⟩ := SM.put H8 rfl (Nat.le_refl _) 9 (0, 0, 0, 0) rfl
 unfold shV at e9
 clear H8
 obtain ⟨w10, e10, H10⟩ := SM.put H9 rfl (Nat.le_refl _) 10 (4, 0, 1, 201) rfl
 unfold shV at e10
 clear H9
 obtain ⟨w11, e11, H11⟩ := SM.put H10 rfl (Nat.le_refl _) 11 (0, 0, 0, 200) rfl
 unfold shV at e11
 clear H10
 obtain ⟨w12, e12, H12⟩ := SM.put H11 rfl (Nat.le_refl _) 12 (1, 0, 1, 1) rfl
 unfold shV at e12
 clear H11
 obtain ⟨w13, e13, H13⟩ := SM.put H12 rfl (Nat.le_refl _) 13 (5, 0, 1, 1) rfl
 unfold shV at e13
 clear H12
 obtain ⟨w14, e14, H14⟩ := SM.put H13 rfl (Nat.le_refl _) 14 (0, 0, 2, 2) rfl
 unfold shV at e14
 clear H13
 obtain ⟨w15, e15, H15⟩ := SM.put H14 rfl (Nat.le_refl _) 15 (0, 0, 1, 200) rfl
 unfold shV at e15
 clear H14
 obtain ⟨w16, e16, H16⟩ := SM.put H15 rfl (Nat.le_refl _) 16 (0, 0, 1, 200) rfl
 unfold shV at e16
 clear H15
 obtain ⟨w17, e17, H17⟩ := SM.put H16 rfl (Nat.le_refl _) 17 (0, 0, 2, 2) rfl
 unfold shV at e17
 clear H16
 obtain ⟨w18, e18, H18⟩ := SM.put H17 rfl (Nat.le_refl _) 18 (2, 0, 2, 2) rfl
 unfold shV at e18
 clear H17
 obtain ⟨w19, e19, H19⟩ := SM.put H18 rfl (Nat.le_refl _) 19 (0, 0, 1, 1) rfl
 unfold shV at e19
 clear H18
 obtain ⟨w20, e20, H20⟩ := SM.put H19 rfl (Nat.le_refl _) 20 (0, 0, 1, 1) rfl
 unfold shV at e20
 clear H19
 obtain ⟨w21, e21, H21⟩ := SM.put H20 rfl (Nat.le_refl _) 21 (0, 0, 2, 2) rfl
 unfold shV at e21
 clear H20
 obtain ⟨w22, e22, H22⟩ := SM.put H21 rfl (Nat.le_refl _) 22 (0, 0, 2, 2) rfl
 unfold shV at e22
 clear H21
 obtain ⟨w23, e23, H23⟩ := SM.put H22 rfl (Nat.le_refl _) 23 (0, 0, 3, 3) rfl
 unfold shV at e23
 clear H22
 obtain ⟨w24, e24, H24⟩ := SM.put H23 rfl (Nat.le_refl _) 30 (3, 0, 0, 1) rfl
 unfold shV at e24
 clear H23
 obtain ⟨w25, e25, H25⟩ := SM.put H24 rfl (Nat.le_refl _) 31 (0, 0, 1, 1) rfl
 unfold shV at e25
 clear H24
 obtain ⟨w26, e26, H26⟩ := SM.put H25 rfl (Nat.le_refl _) 32 (0, 0, 0, 9223372036854775807) rfl
 unfold shV at e26
 clear H25
 obtain ⟨w27, e27, H27⟩ := SM.put H26 rfl (Nat.le_refl _) 33 (0, 0, 2, 3) rfl
 unfold shV at e27
 clear H26
 obtain ⟨w28, e28, H28⟩ := SM.put H27 rfl (Nat.le_refl _) 34 (0, 0, 2, 2) rfl
 unfold shV at e28
 clear H27
 obtain ⟨w29, e29, H29⟩ := SM.put H28 rfl (Nat.le_refl _) 35 (3, 0, 2, 2) rfl
 unfold shV at e29
 clear H28
 obtain ⟨w30, e30, H30⟩ := SM.put H29 rfl (Nat.le_refl _) 36 (0, 0, 0, 1) rfl
 unfold shV at e30
 clear H29
 obtain ⟨w31, e31, H31⟩ := SM.put H30 rfl (Nat.le_refl _) 37 (0, 0, 1, 1) rfl
 unfold shV at e31
 clear H30
 obtain ⟨w32, e32, H32⟩ := SM.put H31 rfl (Nat.le_refl _) 38 (3, 0, 2, 2) rfl
 unfold shV at e32
 clear H31
 obtain ⟨w33, e33, H33⟩ := SM.put H32 rfl (Nat.le_refl _) 39 (0, 0, 0, 0) rfl
 unfold shV at e33
 clear H32
 obtain ⟨w34, e34, H34⟩ := SM.put H33 rfl (Nat.le_refl _) 40 (0, 0, 0, 0) rfl
 unfold shV at e34
 clear H33
 obtain ⟨w35, e35, H35⟩ := SM.put H34 rfl (Nat.le_refl _) 41 (3, 0, 1, 201) rfl
 unfold shV at e35
 clear H34
 have H := Lib.hid H35
 clear H35
 go_enter Tryz.func97, Tryz.ntmps97
 go_wp2
 go_ret
 exact ⟨_, rfl, H.out.1, Nat.le_refl _, H.out.2⟩
theorem mapR_isMap : ∀ l, IsMap (mapR l)
 | [] => isMap_empty
 | _ :: r => (mapR_isMap r).put _ _
theorem shapeIn_hit (p : Int × Sh) (r : List (Int × Sh)) : shapeIn (p :: r) p.1 = some p.2 := by simp [shapeIn]
theorem shapeIn_miss {p : Int × Sh} {k : Int} (h : p.1 ≠ k) (r : List (Int × Sh)) : shapeIn (p :: r) k = shapeIn r k := by simp [shapeIn, h]
theorem key_lit (k : Int) : WideAt.IsKeyLit (.int .i64 k) := by simp [WideAt.IsKeyLit]
theorem lit_ne {a b : Int} (h : a ≠ b) : Lit.int .i64 b ≠ Lit.int .i64 a := fun e => h (by injection e with _ e; exact e.symm)
theorem mapR_has : ∀ (l : List (Int × Sh)) (k : Int), Maps.has (mapR l) (.int .i64 k) = (shapeIn l k).isSome
 | [], _ => rfl
 | p :: r, k => by
  by_cases h : p.1 = k
  ·subst h
   rw [mapR, has_put_same (mapR_isMap r) (key_lit _), shapeIn_hit]
   rfl
  ·rw [mapR, has_put_other (lit_ne h), shapeIn_miss h, mapR_has r k]
theorem mapR_at (z : Sh) : ∀ (l : List (Int × Sh)) (k : Int), (mapR l).atKey (.int .i64 k) (shD z) = shD ((shapeIn l k).getD z)
 | [], _ => rfl
 | p :: r, k => by
  by_cases h : p.1 = k
  ·subst h
   rw [mapR, atKey_put_same (mapR_isMap r) (key_lit _), shapeIn_hit]
   rfl
  ·rw [mapR, atKey_put_other (lit_ne h), shapeIn_miss h, mapR_at z r k]
theorem SM.look {w : World} {b : Nat} (h : SM w b shapesL.reverse) (k : Int) (hk : -9223372036854775808 ≤ k ∧ k ≤ 9223372036854775807) :
  (Instr.lookup 144 (.map (some b)) (.int .i64 k) true).run Tryz.prog w = .ok (.tuple #[shV ((shapeOf k).getD (0, 0, 0, 0)), .bool (shapeOf k).isSome]) w := by
 obtain ⟨v, ps, hrun, hv⟩ := World.ownsMap.look_ok h intKey Tryz.underlying144 (zero53 w) (zd := shD (0, 0, 0, 0)) (zp := []) (shElem_mk _) (key_is hk)
 rw [mapR_at] at hv
 obtain rfl := shElem_inv hv
 rw [mapR_has] at hrun
 exact hrun
end
theorem sound_at {t : Tr} {c : Int} {s : Int × Int × Int × Int} (e : t.op = c) (hs : shapeOf c = some s) : soundOne t = true ↔ fitsB s t = true := by
 unfold soundOne
 rw [e, hs]
theorem fits_iff (k num lo hi : Int) (t : Tr) : fitsB (k, num, lo, hi) t = true ↔ allowsB k t.s = true ∧ 0 ≤ t.n ∧ t.n ≤ num ∧ lo ≤ t.l.length ∧ (t.l.length : Int) ≤ hi ∧ partsB t.op t.l.length 0 t.l = true := by
 unfold fitsB
 simp [Bool.and_eq_true]
theorem len0 {l : List Tr} : l.length = 0 ↔ l = [] := List.length_eq_zero_iff
theorem len1 {l : List Tr} (h : l.length = 1) : ∃ a, l = [a] := List.length_eq_one_iff.1 h
def isE (t : Tr) : Prop := hasB 0 t.op = true
def isS (t : Tr) : Prop := hasB 1 t.op = true
theorem empty_iff (s : Bs) : s.isEmpty = true ↔ s = [] := by cases s <;> simp
theorem inv_1 {t : Tr} (e : t.op = 1) : soundOne t = true ↔ isNameL t.s = true ∧ t.n = 0 ∧ t.l = [] := by
 rw [sound_at e (s := (3, 0, 0, 0)) (by rfl), fits_iff, e]
 constructor
 ·rintro ⟨h1, h2, h3, h4, h5, h6⟩
  have hl : t.l = [] := len0.1 (by omega)
  rw [hl] at h6 ⊢
  exact ⟨by first | exact h1 | (simp [allowsB, empty_iff] at h1; simp_all), by omega, rfl⟩
 ·rintro ⟨g1, g2, hl⟩
  rw [hl]
  refine ⟨by first | (simp [allowsB, empty_iff, *]; done) | (simp [allowsB]; simpa using g1), by omega, by omega, by simp, by simp, by simp [partsB, wantedB, *] <;> (try simp_all [isE, isS, hasB])⟩
theorem inv_10 {t : Tr} (e : t.op = 10) : soundOne t = true ↔ (t.s = [] ∨ isNameL t.s = true) ∧ t.n = 0 ∧ t.l.length ≤ 201 ∧ ∃ xs b, t.l = xs ++ [b] ∧ (∀ x ∈ xs, x.op = 1) ∧ b.op = 32 := by
 rw [sound_at e (s := (4, 0, 1, 201)) (by rfl), fits_iff, e]
 constructor
 ·rintro ⟨h1, h2, h3, h4, h5, h6⟩
  rw [partsB_get] at h6
  obtain ⟨xs, b, hl⟩ : ∃ xs b, t.l = xs ++ [b] := by
   cases hr : t.l.reverse with
   | nil => rw [List.reverse_eq_nil_iff] at hr; rw [hr] at h4; simp at h4
   | cons b r => exact ⟨r.reverse, b, by rw [← List.reverse_reverse t.l, hr, List.reverse_cons]⟩
  rw [hl] at h6 ⊢
  have hlen : (xs ++ [b]).length = xs.length + 1 := by simp
  rw [hl] at h5
  refine ⟨by simpa [allowsB, empty_iff] using h1, by omega, by omega, xs, b, rfl, fun x hx => ?_, ?_⟩
  ·obtain ⟨i, hi⟩ := List.mem_iff_getElem?.1 hx
   have hil := (List.getElem?_eq_some_iff.1 hi).1
   have := h6 i x (by rw [List.getElem?_append_left hil]; exact hi)
   rw [hlen] at this
   unfold wantedB at this
   simp only [Int.zero_add] at this
   rw [if_neg (by decide), if_neg (by decide), if_neg (by decide), if_neg (by decide), if_pos (by decide), if_pos (by omega)] at this
   simpa [hasB] using this
  ·have := h6 xs.length b (by simp)
   rw [hlen] at this
   unfold wantedB at this
   simp only [Int.zero_add] at this
   rw [if_neg (by decide), if_neg (by decide), if_neg (by decide), if_neg (by decide), if_pos (by decide), if_neg (by omega)] at this
   simpa [hasB] using this
 ·rintro ⟨h1, h2, h5, xs, b, hl, h6, h7⟩
  have hlen : (xs ++ [b]).length = xs.length + 1 := by simp
  rw [hl] at h5 ⊢
  refine ⟨by simpa [allowsB, empty_iff] using h1, by omega, by omega, by omega, by omega, ?_⟩
  rw [partsB_get]
  intro i x hx
  have hil := (List.getElem?_eq_some_iff.1 hx).1
  rw [hlen] at hil ⊢
  unfold wantedB
  simp only [Int.zero_add]
  rw [if_neg (by decide), if_neg (by decide), if_neg (by decide), if_neg (by decide), if_pos (by decide)]
  by_cases hi : i < xs.length
  ·rw [List.getElem?_append_left hi] at hx
   have := h6 x (List.mem_of_getElem? hx)
   rw [if_pos (by omega)]
   simp [hasB, this]
  ·obtain rfl : i = xs.length := by omega
   simp at hx
   subst hx
   rw [if_neg (by omega)]
   simp [hasB, h7]
theorem inv_11 {t : Tr} (e : t.op = 11) : soundOne t = true ↔ t.s = [] ∧ t.n = 0 ∧ t.l.length ≤ 200 ∧ ∀ x ∈ t.l, x.op = 12 := by
 rw [sound_at e (s := (0, 0, 0, 200)) (by rfl), fits_iff, e]
 constructor
 ·rintro ⟨h1, h2, h3, h4, h5, h6⟩
  rw [partsB_get] at h6
  refine ⟨by simpa [allowsB, empty_iff] using h1, by omega, by omega, fun x hx => ?_⟩
  obtain ⟨i, hi⟩ := List.mem_iff_getElem?.1 hx
  have := h6 i x hi
  simpa [wantedB, hasB, isS] using this
 ·rintro ⟨h1, h2, h5, h6⟩
  refine ⟨by simpa [allowsB, empty_iff] using h1, by omega, by omega, by omega, by omega, ?_⟩
  rw [partsB_get]
  intro i x hx
  have := h6 x (List.mem_of_getElem? hx)
  simpa [wantedB, hasB, isS] using this
theorem inv_30 {t : Tr} (e : t.op = 30) : soundOne t = true ↔ isNameL t.s = true ∧ t.n = 0 ∧ (t.l = [] ∨ ∃ a, t.l = [a] ∧ isE a) := by
 rw [sound_at e (s := (3, 0, 0, 1)) (by rfl), fits_iff, e]
 constructor
 ·rintro ⟨h1, h2, h3, h4, h5, h6⟩
  have hc : t.l.length = 0 ∨ t.l.length = 1 := by omega
  rcases hc with hc | hc
  ·have hl : t.l = [] := len0.1 hc
   rw [hl] at h6 ⊢
   exact ⟨by first | exact h1 | (simp [allowsB, empty_iff] at h1; simp_all), by omega, .inl rfl⟩
  ·obtain ⟨a, hl⟩ := len1 hc
   rw [hl] at h6 ⊢
   simp [partsB, wantedB, hasB] at h6
   exact ⟨by first | exact h1 | (simp [allowsB, empty_iff] at h1; simp_all), by omega, .inr ⟨a, rfl, by simp_all [isE, isS, hasB]⟩⟩
 ·rintro ⟨g1, g2, hl | ⟨a, hl, g4⟩⟩
  all_goals
   rw [hl]
   refine ⟨by first | (simp [allowsB, empty_iff, *]; done) | (simp [allowsB]; simpa using g1), by omega, by omega, by simp, by simp, by simp [partsB, wantedB, *] <;> (try simp_all [isE, isS, hasB])⟩
theorem inv_31 {t : Tr} (e : t.op = 31) : soundOne t = true ↔ t.s = [] ∧ t.n = 0 ∧ ∃ a, t.l = [a] ∧ isE a := by
 rw [sound_at e (s := (0, 0, 1, 1)) (by rfl), fits_iff, e]
 constructor
 ·rintro ⟨h1, h2, h3, h4, h5, h6⟩
  obtain ⟨a, hl⟩ := len1 (l := t.l) (by omega)
  rw [hl] at h6 ⊢
  simp [partsB, wantedB, hasB] at h6
  exact ⟨by first | exact h1 | (simp [allowsB, empty_iff] at h1; simp_all), by omega, a, rfl, by simp_all [isE, isS, hasB]⟩
 ·rintro ⟨g1, g2, a, hl, g4⟩
  rw [hl]
  refine ⟨by first | (simp [allowsB, empty_iff, *]; done) | (simp [allowsB]; simpa using g1), by omega, by omega, by simp, by simp, by simp [partsB, wantedB, *] <;> (try simp_all [isE, isS, hasB])⟩
theorem inv_32 {t : Tr} (e : t.op = 32) : soundOne t = true ↔ t.s = [] ∧ t.n = 0 ∧ t.l.length ≤ 9223372036854775807 ∧ ∀ x ∈ t.l, isS x := by
 rw [sound_at e (s := (0, 0, 0, 9223372036854775807)) (by rfl), fits_iff, e]
 constructor
 ·rintro ⟨h1, h2, h3, h4, h5, h6⟩
  rw [partsB_get] at h6
  refine ⟨by simpa [allowsB, empty_iff] using h1, by omega, by omega, fun x hx => ?_⟩
  obtain ⟨i, hi⟩ := List.mem_iff_getElem?.1 hx
  have := h6 i x hi
  simpa [wantedB, hasB, isS] using this
 ·rintro ⟨h1, h2, h5, h6⟩
  refine ⟨by simpa [allowsB, empty_iff] using h1, by omega, by omega, by omega, by omega, ?_⟩
  rw [partsB_get]
  intro i x hx
  have := h6 x (List.mem_of_getElem? hx)
  simpa [wantedB, hasB, isS] using this
theorem inv_41 {t : Tr} (e : t.op = 41) : soundOne t = true ↔ isNameL t.s = true ∧ t.n = 0 ∧ t.l.length ≤ 201 ∧ ∃ xs b, t.l = xs ++ [b] ∧ (∀ x ∈ xs, x.op = 1) ∧ b.op = 32 := by
 rw [sound_at e (s := (3, 0, 1, 201)) (by rfl), fits_iff, e]
 constructor
 ·rintro ⟨h1, h2, h3, h4, h5, h6⟩
  rw [partsB_get] at h6
  obtain ⟨xs, b, hl⟩ : ∃ xs b, t.l = xs ++ [b] := by
   cases hr : t.l.reverse with
   | nil => rw [List.reverse_eq_nil_iff] at hr; rw [hr] at h4; simp at h4
   | cons b r => exact ⟨r.reverse, b, by rw [← List.reverse_reverse t.l, hr, List.reverse_cons]⟩
  rw [hl] at h6 ⊢
  have hlen : (xs ++ [b]).length = xs.length + 1 := by simp
  rw [hl] at h5
  refine ⟨by simpa [allowsB, empty_iff] using h1, by omega, by omega, xs, b, rfl, fun x hx => ?_, ?_⟩
  ·obtain ⟨i, hi⟩ := List.mem_iff_getElem?.1 hx
   have hil := (List.getElem?_eq_some_iff.1 hi).1
   have := h6 i x (by rw [List.getElem?_append_left hil]; exact hi)
   rw [hlen] at this
   unfold wantedB at this
   simp only [Int.zero_add] at this
   rw [if_neg (by decide), if_neg (by decide), if_neg (by decide), if_neg (by decide), if_pos (by decide), if_pos (by omega)] at this
   simpa [hasB] using this
  ·have := h6 xs.length b (by simp)
   rw [hlen] at this
   unfold wantedB at this
   simp only [Int.zero_add] at this
   rw [if_neg (by decide), if_neg (by decide), if_neg (by decide), if_neg (by decide), if_pos (by decide), if_neg (by omega)] at this
   simpa [hasB] using this
 ·rintro ⟨h1, h2, h5, xs, b, hl, h6, h7⟩
  have hlen : (xs ++ [b]).length = xs.length + 1 := by simp
  rw [hl] at h5 ⊢
  refine ⟨by simpa [allowsB, empty_iff] using h1, by omega, by omega, by omega, by omega, ?_⟩
  rw [partsB_get]
  intro i x hx
  have hil := (List.getElem?_eq_some_iff.1 hx).1
  rw [hlen] at hil ⊢
  unfold wantedB
  simp only [Int.zero_add]
  rw [if_neg (by decide), if_neg (by decide), if_neg (by decide), if_neg (by decide), if_pos (by decide)]
  by_cases hi : i < xs.length
  ·rw [List.getElem?_append_left hi] at hx
   have := h6 x (List.mem_of_getElem? hx)
   rw [if_pos (by omega)]
   simp [hasB, this]
  ·obtain rfl : i = xs.length := by omega
   simp at hx
   subst hx
   rw [if_neg (by omega)]
   simp [hasB, h7]
mutual
def chkT (F : List Fn) : Tr → Int → Option Int
 | .mk op _ n _ l, next =>
  if isFun op then (if 1 ≤ n ∧ n < F.length ∧ (F[n.toNat]?).map Fn.mark = some next then chkL F l (next + 2) else none)
  else if op = 11 ∨ op = 15 ∨ op = 16 then (if n = next then chkL F l (next + 1) else none)
  else chkL F l next
def chkL (F : List Fn) : List Tr → Int → Option Int
 | [], next => some next
 | t :: r, next => match chkT F t next with
  | none => none
  | some k => chkL F r k
end
def Adds (w w' : WS) (chk : List Fn → Option Int) : Prop := (∃ more, w'.funs = w.funs ++ more) ∧ ∀ m, chk (w'.funs ++ m) = some w'.mark
mutual
theorem resT_marks : ∀ (t : Tr) (a : Int) (loop : Bool) (w : WS) (t' : Tr) (w' : WS), resT t a loop w = .ok (t', w') → 0 < w.funs.length → Adds w w' (fun F => chkT F t' w.mark)
 | .mk op s n line l, a, loop, w, t', w', h, h0 => by
  unfold resT at h
  split at h
  ·rename_i hf
   simp only at h
   split at h
   ·cases h
   ·obtain ⟨l', hL, rfl⟩ := nodeE_ok h
    rw [if_neg (by omega)] at hL
    obtain ⟨⟨more, e⟩, h2⟩ := resL_marks l _ _ _ _ _ hL (by simp)
    refine ⟨⟨_, by rw [e, List.append_assoc]⟩, fun m => ?_⟩
    have hm : (w'.funs ++ m)[w.funs.length]? = some (openF op s l a w.mark) := by
     rw [e]
     simp
    have hl : w.funs.length < (w'.funs ++ m).length := (List.getElem?_eq_some_iff.1 hm).1
    simp only [chkT]
    rw [if_pos hf, if_pos ⟨by omega, by omega, by rw [Int.toNat_natCast, hm]; rfl⟩]
    exact h2 m
  ·rename_i hf
   split at h
   ·rename_i ho
    obtain ⟨l', hL, rfl⟩ := nodeE_ok h
    obtain ⟨h1, h2⟩ := resL_marks l _ _ _ _ _ hL h0
    refine ⟨h1, fun m => ?_⟩
    simp only [chkT]
    rw [if_neg hf, if_pos ho, if_pos trivial]
    exact h2 m
   ·rename_i ho
    split at h
    ·split at h
     ·cases h
     ·obtain ⟨l', hL, rfl⟩ := nodeE_ok h
      obtain ⟨h1, h2⟩ := resL_marks l _ _ _ _ _ hL h0
      refine ⟨h1, fun m => ?_⟩
      simp only [chkT]
      rw [if_neg hf, if_neg ho]
      exact h2 m
    ·split at h
     ·cases h
     ·obtain ⟨l', hL, rfl⟩ := nodeE_ok h
      obtain ⟨h1, h2⟩ := resL_marks l _ _ _ _ _ hL h0
      refine ⟨h1, fun m => ?_⟩
      simp only [chkT]
      rw [if_neg hf, if_neg ho]
      exact h2 m
theorem resL_marks : ∀ (l : List Tr) (a : Int) (loop : Bool) (w : WS) (l' : List Tr) (w' : WS), resL l a loop w = .ok (l', w') → 0 < w.funs.length → Adds w w' (fun F => chkL F l' w.mark)
 | [], _, _, w, l', w', h, _ => by
  unfold resL at h
  cases h
  exact ⟨⟨[], by simp⟩, fun m => rfl⟩
 | t :: r, a, loop, w, l', w', h, h0 => by
  unfold resL at h
  split at h
  ·cases h
  ·rename_i t1 w1 hT
   split at h
   ·cases h
   ·rename_i l1 w2 hL
    cases h
    obtain ⟨⟨m1, e1⟩, h1⟩ := resT_marks t _ _ _ _ _ hT h0
    obtain ⟨⟨m2, e2⟩, h2⟩ := resL_marks r _ _ _ _ _ hL (by rw [e1]; simp; omega)
    refine ⟨⟨m1 ++ m2, by rw [e2, e1, List.append_assoc]⟩, fun m => ?_⟩
    have q := h1 (m2 ++ m)
    rw [← List.append_assoc, ← e2] at q
    simp only [chkL, q]
    exact h2 m
end
mutual
def bareT : Tr → Tr
 | .mk op s n line l => .mk op s (if op = 2 then n else 0) line (bareL l)
def bareL : List Tr → List Tr
 | [] => []
 | t :: r => bareT t :: bareL r
end
theorem fun_two {op : Int} (h : isFun op = true) : op ≠ 2 := by
 unfold isFun at h
 rintro rfl
 simp at h
mutual
theorem resT_bare : ∀ (t : Tr) (a : Int) (loop : Bool) (w : WS) (t' : Tr) (w' : WS), resT t a loop w = .ok (t', w') → bareT t' = bareT t
 | .mk op s n line l, a, loop, w, t', w', h => by
  unfold resT at h
  split at h
  ·rename_i hf
   have h2 := fun_two hf
   simp only at h
   split at h
   ·cases h
   ·obtain ⟨l', hL, rfl⟩ := nodeE_ok h
    simp [bareT, h2, resL_bare l _ _ _ _ _ hL]
  ·split at h
   ·rename_i ho
    have h2 : op ≠ 2 := by omega
    obtain ⟨l', hL, rfl⟩ := nodeE_ok h
    simp [bareT, h2, resL_bare l _ _ _ _ _ hL]
   ·split at h
    ·rename_i ho
     have h2 : op ≠ 2 := by omega
     split at h
     ·cases h
     ·obtain ⟨l', hL, rfl⟩ := nodeE_ok h
      simp [bareT, h2, resL_bare l _ _ _ _ _ hL]
    ·split at h
     ·cases h
     ·obtain ⟨l', hL, rfl⟩ := nodeE_ok h
      simp [bareT, resL_bare l _ _ _ _ _ hL]
theorem resL_bare : ∀ (l : List Tr) (a : Int) (loop : Bool) (w : WS) (l' : List Tr) (w' : WS), resL l a loop w = .ok (l', w') → bareL l' = bareL l
 | [], _, _, _, l', w', h => by
  unfold resL at h
  cases h
  rfl
 | t :: r, a, loop, w, l', w', h => by
  unfold resL at h
  split at h
  ·cases h
  ·rename_i hT
   split at h
   ·cases h
   ·rename_i hL
    cases h
    simp [bareL, resT_bare t _ _ _ _ _ hT, resL_bare r _ _ _ _ _ hL]
end
section
section
variable {f : Bs → Bs}
def key (x : Fn) : Int × Nat × List Bs × Int := (x.around, x.params, x.vars, x.mark)
def keyR (f : Bs → Bs) (x : Fn) : Int × Nat × List Bs × Int := (x.around, x.params, x.vars.map f, x.mark)
def RelW (f : Bs → Bs) (w w' : WS) : Prop := w'.funs.map key = w.funs.map (keyR f) ∧ w'.mark = w.mark
theorem RelW.len {w w' : WS} (h : RelW f w w') : w'.funs.length = w.funs.length := by
 have := congrArg List.length h.1
 simpa using this
theorem RelW.get {w w' : WS} (h : RelW f w w') (i : Nat) : (w'.funs[i]?).map key = (w.funs[i]?).map (keyR f) := by
 have := congrArg (fun l => l[i]?) h.1
 simpa using this
end
end
def rootF (p : Tr) : Fn := openF 41 [] [p] (-1) 0
theorem root_vars (p : Tr) : (rootF p).vars = decl p [] ∧ (rootF p).around = -1 ∧ (rootF p).params = 0 ∧ (rootF p).mark = 0 ∧ (rootF p).name = [] := ⟨rfl, rfl, rfl, rfl, rfl⟩
theorem resolve_eq (p : Tr) : resolveT p = if 200 < (decl p []).length then .error (p.line, 52) else match resT p 0 false ⟨[rootF p], 4⟩ with
  | .error x => .error x
  | .ok (q, w) => .ok (w.funs, q) := by
 unfold resolveT
 have e : resT (.mk 41 [] 0 p.line [p]) (-1) false ⟨[], 0⟩ = if 200 < (decl p []).length then .error (p.line, 52) else nodeE 41 [] 0 p.line (resL [p] 0 false ⟨[rootF p], 4⟩) := by
  rw [resT]
  rw [if_pos (show isFun 41 = true from rfl)]
  simp only
  by_cases h : 200 < (decl p []).length
  ·rw [if_pos (.inr h), if_pos h]
  ·rw [if_neg (fun h' => by
    rcases h' with h' | h'
    ·simp at h'
    ·exact h h'), if_neg h]
   rfl
 rw [e]
 by_cases h : 200 < (decl p []).length
 ·rw [if_pos h, if_pos h]
 ·rw [if_neg h, if_neg h]
  simp only [resL]
  cases resT p 0 false ⟨[rootF p], 4⟩ with
  | error x => rfl
  | ok x => rfl
theorem root_inv (p : Tr) (h : ¬ 200 < (decl p []).length) : Inv ⟨[rootF p], 4⟩ := by
 refine ⟨Int.le_refl _, fun i f hf => ?_⟩
 have hi := (List.getElem?_eq_some_iff.1 hf).1
 simp at hi
 subst hi
 simp at hf
 subst hf
 exact ⟨by rw [(root_vars p).2.1]; decide, Nat.zero_le _, by rw [(root_vars p).1]; omega, by rw [(root_vars p).2.2.2.1]; exact (show (0 : Int) < 4 by decide), fun h' => by omega⟩
theorem resolve_told {p q : Tr} {F : List Fn} (h : resolveT p = .ok (F, q)) : bareT q = bareT p ∧ okT F q ∧ (∃ m, chkT F q 4 = some m ∧ Inv ⟨F, m⟩) := by
 rw [resolve_eq] at h
 split at h
 ·cases h
 ·rename_i hv
  split at h
  ·cases h
  ·rename_i q1 w hr
   cases h
   have h1 := resT_bare p _ _ _ _ _ hr
   have h2 := (resT_ok p _ _ _ _ _ hr (by simp)).2 []
   have h3 := (resT_marks p _ _ _ _ _ hr (by simp)).2 []
   rw [List.append_nil] at h2 h3
   exact ⟨h1, h2, w.mark, h3, resT_inv p _ _ _ _ _ hr (by decide) (by simp) (root_inv p hv)⟩
theorem shape_num {op : Int} {s : Int × Int × Int × Int} (h : shapeOf op = some s) (h2 : op ≠ 2) : s.2.1 = 0 := by
 unfold shapeOf shapeIn at h
 cases hf : shapesL.reverse.find? (fun p => decide (p.1 = op)) with
 | none => rw [hf] at h; cases h
 | some p =>
  rw [hf] at h
  cases h
  have h1 : p.1 = op := by simpa using List.find?_some hf
  have h3 : ∀ p ∈ shapesL.reverse, p.1 ≠ 2 → p.2.2.1 = 0 := by decide
  exact h3 p (List.mem_of_find?_eq_some hf) (by rw [h1]; exact h2)
theorem sound_num {t : Tr} (h : soundOne t = true) : (if t.op = 2 then t.n else 0) = t.n := by
 by_cases h2 : t.op = 2
 ·rw [if_pos h2]
 ·rw [if_neg h2]
  unfold soundOne at h
  cases hs : shapeOf t.op with
  | none => rw [hs] at h; cases h
  | some s =>
   rw [hs] at h
   have h0 := shape_num hs h2
   simp only [fitsB, Bool.and_eq_true, decide_eq_true_eq] at h
   omega
mutual
theorem levels_bare : ∀ (t : Tr) (n : Nat), (t.levels n).all goodB = true → bareT t = t
 | .mk op s k i l, n, h => by
  rw [Tr.levels, List.all_cons, Bool.and_eq_true] at h
  have h1 : soundOne (.mk op s k i l) = true := by
   have := h.1
   unfold goodB at this
   simp only [Bool.and_eq_true] at this
   exact this.1
  have h3 := sound_num h1
  rw [bareT, levelsL_bare l _ h.2]
  have h4 : (if op = 2 then k else 0) = k := h3
  rw [h4]
theorem levelsL_bare : ∀ (l : List Tr) (n : Nat), (levelsL n l).all goodB = true → bareL l = l
 | [], n, h => by rw [bareL]
 | t :: r, n, h => by
  rw [levelsL, List.all_append, Bool.and_eq_true] at h
  rw [bareL, levels_bare t n h.1, levelsL_bare r n h.2]
end
theorem right_bare {t : Tr} (h : rightP t = true) : bareT t = t := by
 unfold rightP soundT at h
 simp only [Bool.and_eq_true] at h
 exact levels_bare t 1 h.2
end Go.Proofs.YtikbfoichhkeaaaGreat
