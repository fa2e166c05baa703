/- A tree's text. No program. -/
import Derived.Test.YtiejpenffpjmeaaDoorShape
import Derived.Test.YtiejpenffpjmeaaDoorQuoteP
import Derived.Lib.ItoaNum
namespace Go.Proofs.YtiejpenffpjmeaaDoor

def indentB (k : Nat) : Bs := List.replicate (2 * k) 32
/-- Texts, parted by commas. -/
def commas : List Bs → Bs
  | [] => []
  | [a] => a
  | a :: b :: r => a ++ ([44, 32] ++ commas (b :: r))
/-- Lines so far in. -/
def linesL (k : Nat) (ts : List Bs) : Bs := ts.flatMap fun t => indentB k ++ (t ++ [10])
def at_ (ts : List Bs) (i : Nat) : Bs := ts.getD i []
/-- A function's text from its names on. -/
def funcB (ts : List Bs) : Bs := [40] ++ (commas ts.dropLast ++ ([41, 32] ++ ts.getLastD []))
/-- A tree's text out of its parts'. -/
def form (op : Nat) (s : Bs) (n : Int) (o0 : Int) (ts : List Bs) : Bs :=
  match op with
  | 1 => s
  | 2 => Lib.decDigits n.toNat
  | 3 => quoteL s
  | 4 => [116, 114, 117, 101]
  | 5 => [102, 97, 108, 115, 101]
  | 6 => [110, 117, 108, 108]
  | 7 => [117, 110, 100, 101, 102, 105, 110, 101, 100]
  | 8 => [116, 104, 105, 115]
  | 9 => [105, 110, 112, 117, 116]
  | 10 => [40, 102, 117, 110, 99, 116, 105, 111, 110] ++ ((if s = [] then [] else [32] ++ s) ++ (funcB ts ++ [41]))
  | 11 => [40, 123] ++ (commas ts ++ [125, 41])
  | 12 => quoteL s ++ ([58, 32] ++ at_ ts 0)
  | 13 => if o0 = 2 then [40] ++ (at_ ts 0 ++ ([41, 46] ++ s)) else at_ ts 0 ++ ([46] ++ s)
  | 14 => at_ ts 0 ++ ([91] ++ (at_ ts 1 ++ [93]))
  | 15 => at_ ts 0 ++ ([40] ++ (commas (ts.drop 1) ++ [41]))
  | 16 => (if o0 = 1 then [40, 110, 101, 119, 32] ++ at_ ts 0 else [40, 110, 101, 119, 32, 40] ++ (at_ ts 0 ++ [41])) ++ ([40] ++ (commas (ts.drop 1) ++ [41, 41]))
  | 17 => [40] ++ (at_ ts 0 ++ ([32, 61, 32] ++ (at_ ts 1 ++ [41])))
  | 18 => [40] ++ (at_ ts 0 ++ (([32] ++ (s ++ [32])) ++ (at_ ts 1 ++ [41])))
  | 19 => [40, 33] ++ (at_ ts 0 ++ [41])
  | 20 => [40, 45] ++ (at_ ts 0 ++ [41])
  | 21 => [40] ++ (at_ ts 0 ++ ([32, 38, 38, 32] ++ (at_ ts 1 ++ [41])))
  | 22 => [40] ++ (at_ ts 0 ++ ([32, 124, 124, 32] ++ (at_ ts 1 ++ [41])))
  | 23 => [40] ++ (at_ ts 0 ++ ([32, 63, 32] ++ (at_ ts 1 ++ ([32, 58, 32] ++ (at_ ts 2 ++ [41])))))
  | 30 => [118, 97, 114, 32] ++ (s ++ ((match ts with | [] => [] | a :: _ => [32, 61, 32] ++ a) ++ [59]))
  | 31 => at_ ts 0 ++ [59]
  | 33 => [105, 102, 32, 40] ++ (at_ ts 0 ++ ([41, 32] ++ (at_ ts 1 ++ (if 2 < ts.length then [32, 101, 108, 115, 101, 32] ++ at_ ts 2 else []))))
  | 34 => [119, 104, 105, 108, 101, 32, 40] ++ (at_ ts 0 ++ ([41, 32] ++ at_ ts 1))
  | 35 => [102, 111, 114, 32, 40, 118, 97, 114, 32] ++ (s ++ ([32, 105, 110, 32] ++ (at_ ts 0 ++ ([41, 32] ++ at_ ts 1))))
  | 36 => [114, 101, 116, 117, 114, 110] ++ ((match ts with | [] => [] | a :: _ => [32] ++ a) ++ [59])
  | 37 => [116, 104, 114, 111, 119, 32] ++ (at_ ts 0 ++ [59])
  | 38 => [116, 114, 121, 32] ++ (at_ ts 0 ++ ([32, 99, 97, 116, 99, 104, 32, 40] ++ (s ++ ([41, 32] ++ at_ ts 1))))
  | 39 => [98, 114, 101, 97, 107, 59]
  | 40 => [99, 111, 110, 116, 105, 110, 117, 101, 59]
  | 41 => [102, 117, 110, 99, 116, 105, 111, 110, 32] ++ (s ++ funcB ts)
  | _ => []
def op0 (l : List Tr) : Int := match l with
  | [] => 0
  | t :: _ => t.op
mutual
/-- A tree's text, in a line so far in. -/
def Tr.txt : Nat → Tr → Bs
  | k, .mk o s n _ l => if o = 32 then [123, 10] ++ (linesL (k + 1) (txts (k + 1) l) ++ (indentB k ++ [125])) else form o.toNat s n (op0 l) (txts k l)
def txts : Nat → List Tr → List Bs
  | _, [] => []
  | k, t :: r => t.txt k :: txts k r
end
theorem txts_map (k : Nat) : ∀ l, txts k l = l.map (Tr.txt k)
  | [] => by rw [txts]; rfl
  | t :: r => by rw [txts, txts_map k r]; rfl
theorem txt_block (k : Nat) (t : Tr) (h : t.op = 32) : t.txt k = [123, 10] ++ (linesL (k + 1) (t.l.map (Tr.txt (k + 1))) ++ (indentB k ++ [125])) := by
  cases t with | mk o s n i l =>
  rw [Tr.txt, if_pos (show o = 32 from h), txts_map]
  rfl
theorem txt_form (k : Nat) (t : Tr) (h : t.op ≠ 32) : t.txt k = form t.op.toNat t.s t.n (op0 t.l) (t.l.map (Tr.txt k)) := by
  cases t with | mk o s n i l =>
  rw [Tr.txt, if_neg (show o ≠ 32 from h), txts_map]
  rfl
def showP (t : Tr) : Bs := linesL 0 (t.l.map (Tr.txt 0))
def showE (t : Tr) : Bs := t.txt 0
theorem linesL_nil (k : Nat) : linesL k [] = [] := rfl
theorem linesL_snoc (k : Nat) (ts : List Bs) (t : Bs) : linesL k (ts ++ [t]) = linesL k ts ++ (indentB k ++ (t ++ [10])) := by simp [linesL]
theorem commas_snoc : ∀ (ts : List Bs) (t : Bs), ts ≠ [] → commas (ts ++ [t]) = commas ts ++ ([44, 32] ++ t)
  | [], t, h => absurd rfl h
  | [a], t, _ => rfl
  | a :: b :: r, t, _ => by
    show a ++ ([44, 32] ++ commas ((b :: r) ++ [t])) = (a ++ ([44, 32] ++ commas (b :: r))) ++ ([44, 32] ++ t)
    rw [commas_snoc (b :: r) t (by simp)]
    simp
/-- Texts with expressions between them. -/
def mixR : List Bs → List Bs → Bs
  | t :: r, x :: xs => x ++ (t ++ mixR r xs)
  | _, _ => []
def mixL : List Bs → List Bs → Bs
  | [], _ => []
  | t :: r, xs => t ++ mixR r xs
theorem mixR_snoc : ∀ (ts xs : List Bs) (t x : Bs), xs[ts.length]? = some x → mixR (ts ++ [t]) xs = mixR ts xs ++ (x ++ t)
  | [], [], t, x, h => by simp at h
  | [], y :: xs, t, x, h => by simp at h; subst h; simp [mixR]
  | a :: ts, [], t, x, h => by simp at h
  | a :: ts, y :: xs, t, x, h => by
    show y ++ (a ++ mixR (ts ++ [t]) xs) = (y ++ (a ++ mixR ts xs)) ++ (x ++ t)
    rw [mixR_snoc ts xs t x (by simpa using h)]
    simp
theorem mixL_snoc (ts xs : List Bs) (t x : Bs) (h0 : 0 < ts.length) (h : xs[ts.length - 1]? = some x) : mixL (ts ++ [t]) xs = mixL ts xs ++ (x ++ t) := by
  cases ts with
  | nil => simp at h0
  | cons a r =>
    show a ++ mixR (r ++ [t]) xs = (a ++ mixR r xs) ++ (x ++ t)
    rw [mixR_snoc r xs t x (by simpa using h)]
    simp
end Go.Proofs.YtiejpenffpjmeaaDoor
