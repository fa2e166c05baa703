/- What a tree of an operation has: which text, number, parts. No program. -/
import Derived.Test.YtiejpenffpjmeaaDoorTree
namespace Go.Proofs.YtiejpenffpjmeaaDoor

/-- Of each operation: which text, which number at most, how many parts at least, at most. -/
def shapesL : List (Int × Int × Int × Int × Int) :=
  [(1, 3, 0, 0, 0),
   (2, 0, 999999999999999, 0, 0),
   (3, 1, 0, 0, 0),
   (4, 0, 0, 0, 0),
   (5, 0, 0, 0, 0),
   (6, 0, 0, 0, 0),
   (7, 0, 0, 0, 0),
   (8, 0, 0, 0, 0),
   (9, 0, 0, 0, 0),
   (10, 4, 0, 1, 201),
   (11, 0, 0, 0, 200),
   (12, 1, 0, 1, 1),
   (13, 5, 0, 1, 1),
   (14, 0, 0, 2, 2),
   (15, 0, 0, 1, 200),
   (16, 0, 0, 1, 200),
   (17, 0, 0, 2, 2),
   (18, 2, 0, 2, 2),
   (19, 0, 0, 1, 1),
   (20, 0, 0, 1, 1),
   (21, 0, 0, 2, 2),
   (22, 0, 0, 2, 2),
   (23, 0, 0, 3, 3),
   (30, 3, 0, 0, 1),
   (31, 0, 0, 1, 1),
   (32, 0, 0, 0, 9223372036854775807),
   (33, 0, 0, 2, 3),
   (34, 0, 0, 2, 2),
   (35, 3, 0, 2, 2),
   (36, 0, 0, 0, 1),
   (37, 0, 0, 1, 1),
   (38, 3, 0, 2, 2),
   (39, 0, 0, 0, 0),
   (40, 0, 0, 0, 0),
   (41, 3, 0, 1, 201)]
def shapeIn (l : List (Int × Int × Int × Int × Int)) (op : Int) : Option (Int × Int × Int × Int) := (l.find? (fun p => decide (p.1 = op))).map (·.2)
def shapeOf (op : Int) : Option (Int × Int × Int × Int) := shapeIn shapesL.reverse op
def signsB : List Bs := [[43], [45], [42], [60], [60, 61], [61, 61, 61], [33, 61, 61]]
def allowsB (w : Int) (s : Bs) : Bool :=
  if w = 1 then true else if w = 2 then signsB.contains s else if w = 4 then (s.isEmpty || isNameL s) else if w = 5 then (isWordL s || isNameL s) else if w = 3 then isNameL s else s.isEmpty
def hasB (g op : Int) : Bool :=
  if g = 1 then decide (30 ≤ op) && decide (op ≤ 41) else if g = 2 then decide (op = 32) else if g = 3 then decide (op = 12)
  else if g = 5 then (decide (op = 13) || (decide (op = 14) || decide (op = 1))) else if g = 4 then decide (op = 1) else decide (1 ≤ op) && (decide (op ≤ 23) && !decide (op = 12))
def wantedB (op i count : Int) : Int :=
  if op = 11 then 3 else if op = 32 then 1 else if op = 17 then (if i = 0 then 5 else 0) else if op = 33 ∨ op = 34 ∨ op = 35 then (if 0 < i then 2 else 0)
  else if op = 10 ∨ op = 41 then (if i < count - 1 then 4 else 2) else if op = 38 then 2 else 0
/-- Are the parts, from the i-th on, of the right operations. -/
def partsB (op count : Int) : Int → List Tr → Bool
  | _, [] => true
  | i, t :: r => hasB (wantedB op i count) t.op && partsB op count (i + 1) r
def fitsB (s : Int × Int × Int × Int) (t : Tr) : Bool :=
  allowsB s.1 t.s && (decide (0 ≤ t.n) && (decide (t.n ≤ s.2.1) && (decide (s.2.2.1 ≤ t.l.length) && (decide ((t.l.length : Int) ≤ s.2.2.2) && partsB t.op t.l.length 0 t.l))))
/-- Has the tree what its operation asks for. -/
def soundOne (t : Tr) : Bool := match shapeOf t.op with
  | none => false
  | some s => fitsB s t
/-- Has each of these, at its level, what it should have. -/
def goodB (p : Tr × Nat) : Bool := soundOne p.1 && decide (p.2 ≤ 100)
def soundT (t : Tr) : Bool := (t.levels 1).all goodB
def rightP (t : Tr) : Bool := hasB 2 t.op && soundT t
def rightE (t : Tr) : Bool := hasB 0 t.op && soundT t
theorem partsB_get : ∀ {op count : Int} (l : List Tr) (i : Int), partsB op count i l = true ↔ ∀ (k : Nat) t, l[k]? = some t → hasB (wantedB op (i + k) count) t.op = true
  | op, count, [], i => by simp [partsB]
  | op, count, a :: r, i => by
    rw [partsB, Bool.and_eq_true, partsB_get r (i + 1)]
    constructor
    · rintro ⟨h1, h2⟩ k t hk
      cases k with
      | zero => simp at hk; subst hk; simpa using h1
      | succ k =>
        have := h2 k t (by simpa using hk)
        rw [show i + 1 + (k : Int) = i + ((k + 1 : Nat) : Int) by omega] at this
        exact this
    · intro h
      refine ⟨by simpa using h 0 a rfl, fun k t hk => ?_⟩
      have := h (k + 1) t (by simpa using hk)
      rw [show i + 1 + (k : Int) = i + ((k + 1 : Nat) : Int) by omega]
      exact this
end Go.Proofs.YtiejpenffpjmeaaDoor
