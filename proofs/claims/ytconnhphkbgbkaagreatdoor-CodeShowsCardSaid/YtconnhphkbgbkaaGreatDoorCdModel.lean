/- Instructions and codes as plain data; what is asked of them. No program. -/
import Derived.Test.YtconnhphkbgbkaaGreatDoorBytes
import Derived.Lib.ItoaLen
namespace Go.Proofs.YtconnhphkbgbkaaGreatDoor

def I64 (n : Int) : Prop := -9223372036854775808 ≤ n ∧ n ≤ 9223372036854775807
structure Ins where
  op : Int
  d : Int
  a : Int
  b : Int
  c : Int
  s : ByteArray
  n : Int
  l : List Int
deriving DecidableEq
structure Proc where
  regs : Int
  ins : List Ins
deriving DecidableEq
/-- What an instruction stands in. -/
structure Room where
  regs : Int
  places : Int
  procs : Int
inductive Fld where
  | d
  | a
  | b
  | c
inductive Knd where
  | mark
  | place
  | fun_
  | var_
inductive Dm where
  | reg (least : Int) (f : Fld)
  | num (k : Knd)
  | key
  | sign
  | val
  | args

def Fld.get : Fld → Ins → Int
  | .d, x => x.d
  | .a, x => x.a
  | .b, x => x.b
  | .c, x => x.c
def Fld.zero : Fld → Ins → Ins
  | .d, x => { x with d := 0 }
  | .a, x => { x with a := 0 }
  | .b, x => { x with b := 0 }
  | .c, x => { x with c := 0 }
def Knd.ok : Knd → Int → Room → Bool
  | .mark, n, _ => decide (4 ≤ n ∧ n ≤ 1000000)
  | .place, n, R => decide (0 ≤ n ∧ n < R.places)
  | .fun_, n, R => decide (0 < n ∧ n < R.procs)
  | .var_, n, R => decide (0 ≤ n ∧ n / 1000 < R.procs ∧ n % 1000 < 200)
def nilB : ByteArray := ⟨#[]⟩
/-- Is a value one that may be. -/
def vrightB (k n : Int) (s : ByteArray) : Bool :=
  if k = 0 ∨ k = 1 then n == 0 && s.toList.isEmpty
  else if k = 2 then (n == 0 || n == 1) && s.toList.isEmpty
  else if k = 3 ∨ k = 5 then s.toList.isEmpty
  else if k = 4 then n == 0 else false
def signL9 : List Bs := [[43], [45], [42], [60], [60, 61], [61, 61, 61], [33, 61, 61]]
def isSignB (s : ByteArray) : Bool := signL9.contains s.data.toList
def Dm.ok : Dm → Ins → Room → Bool
  | .reg least f, x, R => decide (least ≤ f.get x ∧ f.get x < R.regs)
  | .num k, x, R => k.ok x.n R
  | .key, _, _ => true
  | .sign, x, _ => isSignB x.s
  | .val, x, _ => !decide (x.a = 5) && vrightB x.a x.n x.s
  | .args, x, R => x.l.all fun n => decide (0 ≤ n ∧ n < R.regs)
def Dm.next : Dm → Ins → Ins
  | .reg _ f, x => f.zero x
  | .num _, x => { x with n := 0 }
  | .key, x => { x with s := nilB }
  | .sign, x => { x with s := nilB }
  | .val, x => { x with a := 0, n := 0, s := nilB }
  | .args, x => { x with l := [] }
def bareI (op : Int) : Ins := ⟨op, 0, 0, 0, 0, nilB, 0, []⟩
def fitsB (R : Room) : List Dm → Ins → Bool
  | [], x => decide (x = bareI x.op)
  | m :: r, x => m.ok x R && fitsB R r (m.next x)

def rD : Dm := .reg 0 .d
def rA : Dm := .reg 0 .a
def rB : Dm := .reg 0 .b
def rC : Dm := .reg 0 .c
/-- What each operation asks for. -/
def tabL : List (Int × List Dm) := [
  (1, [rD, .val]), (2, [rD, .num .var_]), (3, [rA, .num .var_]), (4, [rD]), (5, [rD]), (6, [rD, .num .mark]), (7, [rD, .num .fun_]),
  (8, [rD, rA, .key]), (9, [rA, .key, rB]), (10, [rD, rA, rB]), (11, [rA, rB, rC]), (12, [rD, rA, .reg (-1) .b, .args, .num .mark]), (13, [rD, rA, .args, .num .mark]),
  (14, [rD, rA, .sign, rB]), (15, [rD, rA]), (16, [rD, rA]), (17, [rD, rA]), (18, [.num .place]), (19, [rA, .num .place]), (20, [.reg (-1) .a]), (21, [rA]),
  (22, [rD, .num .place]), (23, []), (26, [rD]), (24, [rD, rA]), (25, [rD, rA, .num .place])]
def dms (op : Int) : Option (List Dm) := (tabL.reverse.find? (fun p => decide (p.1 = op))).map (·.2)
def insB (R : Room) (x : Ins) : Bool := match dms x.op with
  | none => false
  | some ds => fitsB R ds x
/-- The last one's operation. -/
def lastOp (p : Proc) : Int := (p.ins.getLast?.map (·.op)).getD 0
/-- A proc is wrong, be its instructions as they may. -/
def missB (p : Proc) : Bool := decide (p.regs < 0 ∨ 60000 < p.regs ∨ p.ins.length < 1 ∨ 60000 < p.ins.length ∨ lastOp p ≠ 20)
def pairsL (l : List Proc) : List (Proc × Ins) := l.flatMap fun p => p.ins.map fun x => (p, x)
def roomOf (p : Proc) (n : Nat) : Room := ⟨p.regs, p.ins.length, n⟩
def rightC (l : List Proc) : Bool := !l.isEmpty && (!l.any missB && (pairsL l).all fun q => insB (roomOf q.1 l.length) q.2)

/-- What is marked. -/
def marked (x : Ins) : Bool := decide (x.op = 6 ∨ x.op = 12 ∨ x.op = 13)
def marksC (l : List Proc) : List Int := ((pairsL l).filter fun q => marked q.2).map fun q => q.2.n
theorem marksC_append (a b : List Proc) : marksC (a ++ b) = marksC a ++ marksC b := by simp [marksC, pairsL]

/-- The texts. -/
def hexD (k : Nat) : UInt8 := hexDigitsL.getD k 0
def quoteB (c : UInt8) : Bs :=
  if c.toNat = 10 then [92, 110] else if c.toNat = 9 then [92, 116] else if c.toNat = 34 ∨ c.toNat = 92 then [92, c] else if plainB c then [c] else [92, 120, hexD (c.toNat / 16), hexD (c.toNat % 16)]
def quoteL (l : Bs) : Bs := 34 :: (l.flatMap quoteB ++ [34])
def spaced (l : List Int) : Bs := l.flatMap fun n => Lib.itoa n ++ [32]
def insT (x : Ins) : Bs := spaced ([x.op, x.d, x.a, x.b, x.c, x.n] ++ x.l) ++ (quoteL x.s.data.toList ++ [10])
def procT (p : Proc) : Bs := [112, 114, 111, 99, 32] ++ (Lib.itoa p.regs ++ 10 :: p.ins.flatMap insT)
def codeT (l : List Proc) : Bs := l.flatMap procT
theorem codeT_append (a b : List Proc) : codeT (a ++ b) = codeT a ++ codeT b := by simp [codeT]
end Go.Proofs.YtconnhphkbgbkaaGreatDoor
