/- The tokens of a text, as plain functions of lists of bytes. No program. -/
import Derived.Lib.Strings
import Derived.Lib.Bytealg
import Derived.Lib.Index
namespace Go.Proofs.YtconnhphkbgbkaaGreatDoor

abbrev Bs := List UInt8

def letterB (c : UInt8) : Bool := (97 ≤ c && c ≤ 122) || (65 ≤ c && c ≤ 90) || c == 95 || c == 36
def digitB (c : UInt8) : Bool := 48 ≤ c && c ≤ 57
def nameB (c : UInt8) : Bool := letterB c || digitB c
def plainB (c : UInt8) : Bool := 32 ≤ c && c ≤ 126
def noEndB (c : UInt8) : Bool := !(c == 10)
/-- How many of the first bytes are such ones. -/
def runL (p : UInt8 → Bool) (l : Bs) : Nat := (l.takeWhile p).length

def wordsL : List Bs :=
  [[98, 114, 101, 97, 107], [99, 97, 115, 101], [99, 97, 116, 99, 104], [99, 111, 110, 116, 105, 110, 117, 101], [100, 101, 98, 117, 103, 103, 101, 114], [100, 101, 102, 97, 117, 108, 116], [100, 101, 108, 101, 116, 101], [100, 111], [101, 108, 115, 101], [102, 105, 110, 97, 108, 108, 121], [102, 111, 114], [102, 117, 110, 99, 116, 105, 111, 110], [105, 102], [105, 110], [105, 110, 115, 116, 97, 110, 99, 101, 111, 102], [110, 101, 119], [114, 101, 116, 117, 114, 110], [115, 119, 105, 116, 99, 104], [116, 104, 105, 115], [116, 104, 114, 111, 119], [116, 114, 121], [116, 121, 112, 101, 111, 102], [118, 97, 114], [118, 111, 105, 100], [119, 104, 105, 108, 101], [119, 105, 116, 104], [110, 117, 108, 108], [116, 114, 117, 101], [102, 97, 108, 115, 101], [117, 110, 100, 101, 102, 105, 110, 101, 100], [105, 110, 112, 117, 116]]
def isWordL (l : Bs) : Bool := wordsL.contains l
def isNameL : Bs → Bool
  | [] => false
  | c :: r => letterB c && (r.all nameB && !isWordL (c :: r))

/-- The longest one of some signs with which s begins. -/
def longestL (s : Bs) (signs : List Bs) : Bs := signs.foldl (fun best t => if decide (best.length < t.length) && t.isPrefixOf s then t else best) []
def signsL : List Bs := [[123], [125], [40], [41], [91], [93], [46], [59], [44], [58], [63], [60], [60, 61], [61, 61, 61], [33, 61, 61], [61], [33], [43], [45], [42], [47], [38, 38], [124, 124]]
def signL (s : Bs) : Bs := longestL s signsL

def hexDigitsL : Bs := [48, 49, 50, 51, 52, 53, 54, 55, 56, 57, 97, 98, 99, 100, 101, 102]
/-- The byte that two digits say behind '\x', and how many bytes say it. -/
def hexL : Bs → UInt8 × Nat
  | _ :: _ :: a :: b :: _ =>
    if Lib.indexByte hexDigitsL a < 0 ∨ Lib.indexByte hexDigitsL b < 0 then (0, 0)
    else (UInt8.ofNat (16 * (Lib.indexByte hexDigitsL a).toNat + (Lib.indexByte hexDigitsL b).toNat), 4)
  | _ => (0, 0)
/-- The byte that the beginning of a list says within a text, and how many bytes say it. -/
def saidL (l : Bs) : UInt8 × Nat :=
  if [92, 110].isPrefixOf l then (10, 2)
  else if [92, 116].isPrefixOf l then (9, 2)
  else if !(longestL l [[92, 92], [92, 34], [92, 39]]).isEmpty then (l.getD 1 0, 2)
  else if [92, 120].isPrefixOf l then hexL l
  else if l.getD 0 0 == 92 || !plainB (l.getD 0 0) then (0, 0)
  else (l.getD 0 0, 1)
/-- What stands in quotes up to q, and how many bytes it takes, with the sign behind. -/
def quotedL (q : UInt8) : Bs → Option (Bs × Nat)
  | [] => none
  | c :: r =>
    if c = q then some ([], 1)
    else match saidL (c :: r) with
      | (_, 0) => none
      | (b, n + 1) => (quotedL q (r.drop n)).map fun o => (b :: o.1, n + 1 + o.2)
termination_by l => l.length
decreasing_by simp; omega

structure Tok where
  kind : Int
  s : Bs
  n : Int
  line : Nat
  nl : Bool
def Tok.zero : Tok := ⟨0, [], 0, 0, false⟩

def valL (l : Bs) : Nat := l.foldl (fun n c => n * 10 + (c.toNat - 48)) 0
/-- The number that digits write, if they may. -/
def amountL (l : Bs) : Option Nat :=
  if decide (1 < l.length) && l.getD 0 0 == 48 then none
  else if valL l ≤ 999999999999999 then some (valL l) else none

/-- A token, how many bytes it has, an error. -/
structure One where
  t : Tok
  len : Nat
  e : Int

def numberL (l : Bs) : One :=
  if (l.drop (runL digitB l)).head? = some 46 then ⟨.zero, 0, 25⟩
  else match amountL (l.take (runL digitB l)) with
    | none => ⟨.zero, 0, 24⟩
    | some v => if (l.drop (runL digitB l)).head?.any letterB then ⟨.zero, 0, 24⟩ else ⟨⟨3, [], v, 0, false⟩, runL digitB l, 0⟩
def nameL (l : Bs) : One := ⟨⟨if isWordL (l.take (runL nameB l)) then 2 else 1, l.take (runL nameB l), 0, 0, false⟩, runL nameB l, 0⟩
def textL : Bs → One
  | [] => ⟨.zero, 0, 22⟩
  | q :: r => match quotedL q r with
    | none => ⟨.zero, 0, 22⟩
    | some o => ⟨⟨4, o.1, 0, 0, false⟩, 1 + o.2, 0⟩
def signOneL (l : Bs) : One := if (signL l).isEmpty then ⟨.zero, 0, 21⟩ else ⟨⟨5, signL l, 0, 0, false⟩, (signL l).length, 0⟩
def firstL (l : Bs) : One :=
  if letterB (l.getD 0 0) then nameL l
  else if digitB (l.getD 0 0) then numberL l
  else if l.getD 0 0 == 34 || l.getD 0 0 == 39 then textL l
  else signOneL l

/-- How many bytes the blank or comment has that stands first; an error. -/
def blankL (l : Bs) : Nat × Int :=
  if [47, 47].isPrefixOf l then (runL noEndB l, 0)
  else if [47, 42].isPrefixOf l then
    if Lib.index (l.drop 2) [42, 47] < 0 then (0, 23) else ((Lib.index (l.drop 2) [42, 47]).toNat + 4, 0)
  else if !(longestL l [[32], [9], [13], [10]]).isEmpty then (1, 0)
  else (0, 0)

abbrev Ev := Tok × Int
/-- What a text is gone through in, from the line on. -/
def scan (line : Nat) (nl : Bool) : Bs → List Ev
  | [] => []
  | c :: r =>
    match blankL (c :: r) with
    | (n + 1, _) => scan (line + ((c :: r).take (n + 1)).count 10) (nl || decide (0 < ((c :: r).take (n + 1)).count 10)) (r.drop n)
    | (0, e) =>
      if e = 0 then
        if (firstL (c :: r)).e = 0 then
          ({ (firstL (c :: r)).t with line := line, nl := nl }, 0) :: scan line false (r.drop ((firstL (c :: r)).len - 1))
        else [({ (firstL (c :: r)).t with line := line, nl := nl }, (firstL (c :: r)).e)]
      else [({ Tok.zero with line := line, nl := nl }, e)]
termination_by l => l.length
decreasing_by all_goals (simp; omega)

structure Lexed where
  toks : List Tok
  line : Nat
  e : Int
def gathered (out : List Tok) : List Ev → Lexed
  | [] => ⟨out, 0, 0⟩
  | (t, e) :: r => if e = 0 then if out.length = 20000 then ⟨[], t.line, 20⟩ else gathered (out ++ [t]) r else ⟨[], t.line, e⟩
def lexL (l : Bs) : Lexed := if 65536 < l.length then ⟨[], 0, 20⟩ else gathered [] (scan 1 false l)

end Go.Proofs.YtconnhphkbgbkaaGreatDoor
