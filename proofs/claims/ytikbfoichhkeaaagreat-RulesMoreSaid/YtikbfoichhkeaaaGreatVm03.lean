/- What scope gives a program, as a Lean function. No program. A program's rules, as Lean functions. No program. What scope meets, one tree after the other, as its walk does: the same as the answer by trees. No program. The names that a block declares, one by one. No program. Variables' numbers are of places that there are; functions are numbered. No program. What the functions of a resolved program are. No program. -/
import Derived.Test.YtikbfoichhkeaaaGreatVm02
set_option linter.unusedSimpArgs false
set_option linter.unusedVariables false
set_option maxRecDepth 100000
set_option maxHeartbeats 40000000
namespace Go.Proofs.YtikbfoichhkeaaaGreat
structure Fn where
 around : Int
 name : Bs
 params : Nat
 vars : List Bs
 mark : Int
structure WS where
 funs : List Fn
 mark : Int
def withN (l : List Bs) (s : Bs) : List Bs := if s ∈ l then l else l ++ [s]
def isFun (op : Int) : Bool := op == 41 || op == 10
mutual
def decl : Tr → List Bs → List Bs
 | .mk op s _ _ l, out =>
  let out := if op = 30 ∨ op = 35 ∨ op = 38 ∨ op = 41 then withN out s else out
  if isFun op then out else decls l out
def decls : List Tr → List Bs → List Bs
 | [], out => out
 | t :: r, out => decls r (decl t out)
end
def findN (funs : List Fn) : Nat → Int → Bs → Option Int
 | 0, _, _ => none
 | k + 1, a, s =>
  if a < 0 then none
  else match funs[a.toNat]? with
   | none => none
   | some f => match f.vars.idxOf? s with
    | some i => some (1000 * a + i)
    | none => findN funs k f.around s
def openF (op : Int) (s : Bs) (l : List Tr) (a m : Int) : Fn :=
 let ps := l.dropLast.foldl (fun o t => withN o t.s) []
 let own := if op = 10 ∧ s ≠ [] then withN ps s else ps
 ⟨a, s, ps.length, (match l.getLast? with | some b => decl b own | none => own), m⟩
def nodeE (op : Int) (s : Bs) (n line : Int) : Except (Int × Int) (List Tr × WS) → Except (Int × Int) (Tr × WS)
 | .error x => .error x
 | .ok (l', w') => .ok (.mk op s n line l', w')
mutual
def resT : Tr → Int → Bool → WS → Except (Int × Int) (Tr × WS)
 | .mk op s n line l, a, loop, w =>
  if isFun op then
   let f := openF op s l a w.mark
   if w.funs.length = 500 ∨ 200 < f.vars.length then .error (line, 52)
   else nodeE op s w.funs.length line (resL l w.funs.length false ⟨w.funs ++ [f], if w.funs.length = 0 then 4 else w.mark + 2⟩)
  else if op = 11 ∨ op = 15 ∨ op = 16 then
   nodeE op s w.mark line (resL l a loop ⟨w.funs, w.mark + 1⟩)
  else if op = 1 ∨ op = 30 ∨ op = 35 ∨ op = 38 then
   match findN w.funs w.funs.length a s with
   | none => .error (line, 50)
   | some v => nodeE op s v line (resL l a (loop || op == 35) w)
  else if (op = 36 ∧ a = 0) ∨ ((op = 39 ∨ op = 40) ∧ loop = false) then .error (line, 51)
  else nodeE op s n line (resL l a (loop || op == 34) w)
def resL : List Tr → Int → Bool → WS → Except (Int × Int) (List Tr × WS)
 | [], _, _, w => .ok ([], w)
 | t :: r, a, loop, w => match resT t a loop w with
  | .error x => .error x
  | .ok (t', w') => match resL r a loop w' with
   | .error x => .error x
   | .ok (r', w'') => .ok (t' :: r', w'')
end
theorem nodeE_ok {op : Int} {s : Bs} {n line : Int} {A : Except (Int × Int) (List Tr × WS)} {t : Tr} {w : WS} (h : nodeE op s n line A = .ok (t, w)) : ∃ l', A = .ok (l', w) ∧ t = .mk op s n line l' := by
 cases A with
 | error x => cases h
 | ok x => obtain ⟨l', w'⟩ := x; cases h; exact ⟨l', rfl, rfl⟩
def resolveT (p : Tr) : Except (Int × Int) (List Fn × Tr) :=
 match resT (.mk 41 [] 0 p.line [p]) (-1) false ⟨[], 0⟩ with
 | .error x => .error x
 | .ok (t, w) => .ok (w.funs, t.l.headD p)
structure FS where
 mark : Int
 pars : List Int
 this : Int
 ret : Int
 thr : Int
structure Ru where
 kd : Int
 f : Int
 x : Int
 y : Int
 z : Int
 n : Int
 m : Int
 s : Bs
 l : List Int
structure Pl9 where
 fn : Int
 th : Int
 tg : Bool
def risingL (a : Int) : Nat → List Int
 | 0 => []
 | n + 1 => risingL a n ++ [a + n]
def fsOf (f : Fn) (s : Int) : FS := ⟨f.mark, risingL s f.params, s + f.vars.length, s + f.vars.length + 1, s + f.vars.length + 2⟩
def laidF : List Fn → Int → List FS × Int
 | [], s => ([], s)
 | f :: r, s => (fsOf f s :: (laidF r (s + f.vars.length + 3)).1, (laidF r (s + f.vars.length + 3)).2)
structure Cx where
 F : List Fn
 fs : List FS
 sets : Int
def varSet (X : Cx) (n : Int) : Int × Int :=
 if n < 0 ∨ X.F.length ≠ X.fs.length then (0, 2)
 else match X.F[(n / 1000).toNat]?, X.fs[(n / 1000).toNat]? with
  | some f, some s =>
   if (f.vars.length : Int) ≤ n % 1000 then (0, 2)
   else if s.this - f.vars.length + n % 1000 < 0 ∨ X.sets ≤ s.this - f.vars.length + n % 1000 then (0, 2)
   else (s.this - f.vars.length + n % 1000, 0)
  | _, _ => (0, 2)
def Cx.var (X : Cx) (n : Int) : Int := (varSet X n).1
def Cx.fsAt (X : Cx) (i : Int) : FS := (X.fs[i.toNat]?).getD ⟨0, [], 0, 0, 0⟩
def Cx.varsAt (X : Cx) (i : Int) : List Bs := ((X.F[i.toNat]?).map (·.vars)).getD []
def Cx.parsAt (X : Cx) (i : Int) : Nat := ((X.F[i.toNat]?).map (·.params)).getD 0
def idxS (l : List Bs) (s : Bs) : Int := match l.idxOf? s with
 | some i => i
 | none => -1
def withinP (X : Cx) (op n : Int) (len : Nat) (p : Pl9) (i : Nat) : Pl9 :=
 if op = 41 ∨ op = 10 then ⟨n, (X.fsAt n).thr, decide ((i : Int) < len - 1)⟩
 else if op = 38 then ⟨p.fn, if i = 0 then X.var n else p.th, false⟩
 else if op = 17 then ⟨p.fn, p.th, decide (i = 0)⟩
 else ⟨p.fn, p.th, false⟩
def partK (t : Tr) (k i : Nat) : Int := ((k + 1 + sizes (t.l.take i) : Nat) : Int)
def Tr.part (t : Tr) (i : Nat) : Tr := (t.l[i]?).getD Tr.zero
def setsK : List Tr → Nat → List Int
 | [], _ => []
 | t :: r, k => (k : Int) :: setsK r (k + t.size)
def subR (x y : Int) : Ru := ⟨3, 0, x, y, 0, 0, 0, [], []⟩
def pairsR (k : Int) : List Tr → Nat → List Ru
 | [], _ => []
 | t :: r, j => ⟨6, 0, k, ((j + 1 : Nat) : Int), 0, 0, 0, t.s, []⟩ :: pairsR k r (j + t.size)
def ruleOf (X : Cx) (t : Tr) (k : Nat) (p : Pl9) : List Ru :=
  if t.op = 1 then [subR (X.var t.n) k]
  else if t.op = 8 then [subR (X.fsAt p.fn).this k]
  else if t.op = 10 then ⟨2, 0, k, 0, 0, t.n, 0, [], []⟩ :: (if (X.parsAt t.n : Int) ≤ idxS (X.varsAt t.n) t.s then [⟨2, 0, X.var (t.n * 1000 + idxS (X.varsAt t.n) t.s), 0, 0, t.n, 0, [], []⟩] else [])
  else if t.op = 41 then [⟨2, 0, X.var (p.fn * 1000 + idxS (X.varsAt p.fn) t.s), 0, 0, t.n, 0, [], []⟩]
  else if t.op = 11 then ⟨1, 0, k, 0, 0, 0, t.n, [], []⟩ :: pairsR k t.l (k + 1)
  else if t.op = 13 then [⟨4, 0, partK t k 0, k, 0, 0, 0, t.s, []⟩]
  else if t.op = 14 then [⟨5, 0, partK t k 0, k, 0, 0, 0, [], []⟩]
  else if t.op = 17 then
    (if (t.part 0).op = 1 then [subR (partK t k 1) (X.var (t.part 0).n)]
     else if (t.part 0).op = 13 then [⟨6, 0, partK t k 0 + 1, partK t k 1, 0, 0, 0, (t.part 0).s, []⟩]
     else if (t.part 0).op = 14 then [⟨7, 0, partK t k 0 + 1, partK t k 1, 0, 0, 0, [], []⟩] else []) ++ [subR (partK t k 1) k]
  else if t.op = 21 then [subR (partK t k 1) k]
  else if t.op = 22 then [subR (partK t k 0) k, subR (partK t k 1) k]
  else if t.op = 23 then [subR (partK t k 1) k, subR (partK t k 2) k]
  else if t.op = 15 then [⟨8, 0, partK t k 0, k, if (t.part 0).op = 13 ∨ (t.part 0).op = 14 then partK t k 0 + 1 else -1, p.th, t.n, [], setsK (t.l.drop 1) (k + 1 + (t.part 0).size)⟩]
  else if t.op = 16 then [⟨9, 0, partK t k 0, k, 0, p.th, t.n, [], setsK (t.l.drop 1) (k + 1 + (t.part 0).size)⟩]
  else if t.op = 30 then (setsK t.l (k + 1)).map fun a => subR a (X.var t.n)
  else if t.op = 36 then (setsK t.l (k + 1)).map fun a => subR a (X.fsAt p.fn).ret
  else if t.op = 37 then [subR (partK t k 0) p.th]
  else []
def Ru.at_ (r : Ru) (f : Int) : Ru := { r with f := f }
def rulesAt (X : Cx) (t : Tr) (k : Nat) (p : Pl9) : List Ru := if p.tg then [] else (ruleOf X t k p).map (·.at_ p.fn)
structure Ev9 where
 t : Tr
 k : Nat
 p : Pl9
mutual
def evR (X : Cx) : Tr → Nat → Pl9 → List Ev9
 | .mk o s n li l, k, p => ⟨.mk o s n li l, k, p⟩ :: evRL X o n l.length p l 0 (k + 1)
def evRL (X : Cx) (o n : Int) (len : Nat) (p : Pl9) : List Tr → Nat → Nat → List Ev9
 | [], _, _ => []
 | c :: r, i, k => evR X c k (withinP X o n len p i) ++ evRL X o n len p r (i + 1) (k + c.size)
end
def rulesE (X : Cx) (l : List Ev9) : List Ru := l.flatMap fun e => rulesAt X e.t e.k e.p
def cxOf (F : List Fn) (q : Tr) : Cx := ⟨F, (laidF F q.size).1, (laidF F q.size).2 + 9⟩
def rulesOut (out : List Fn × Tr × Int × Int) : List Fn × Int × List FS × List Ru × Int × Int :=
 if out.2.2.2 ≠ 0 then ([], 0, [], [], out.2.2.1, out.2.2.2)
 else
  let X := cxOf out.1 out.2.1
  if 100000 < X.sets then ([], 0, [], [], 0, 52)
  else (X.F, X.sets, X.fs, rulesE X (evR X out.2.1 0 ⟨0, (X.fsAt 0).thr, false⟩), 0, 0)
structure Ev5 where
 t : Tr
 fn : Int
 loop : Bool
 no : Nat
mutual
def nfunT : Tr → Nat
 | .mk op _ _ _ l => (if isFun op then 1 else 0) + nfunL l
def nfunL : List Tr → Nat
 | [] => 0
 | t :: r => nfunT t + nfunL r
end
mutual
def evT : Tr → Int → Bool → Nat → List Ev5
 | .mk op s n line l, a, loop, k => ⟨.mk op s n line l, a, loop, k⟩ :: (if isFun op then evL l k false (k + 1) else evL l a (loop || (op == 34 || op == 35)) k)
def evL : List Tr → Int → Bool → Nat → List Ev5
 | [], _, _, _ => []
 | t :: r, a, loop, k => evT t a loop k ++ evL r a loop (k + nfunT t)
end
def stepE (w : WS) (e : Ev5) : Except (Int × Int) (WS × Int) :=
 if isFun e.t.op then
  let f := openF e.t.op e.t.s e.t.l e.fn w.mark
  if w.funs.length = 500 ∨ 200 < f.vars.length then .error (e.t.line, 52)
  else .ok (⟨w.funs ++ [f], if w.funs.length = 0 then 4 else w.mark + 2⟩, w.funs.length)
 else if e.t.op = 11 ∨ e.t.op = 15 ∨ e.t.op = 16 then .ok (⟨w.funs, w.mark + 1⟩, w.mark)
 else if e.t.op = 1 ∨ e.t.op = 30 ∨ e.t.op = 35 ∨ e.t.op = 38 then
  match findN w.funs w.funs.length e.fn e.t.s with
  | none => .error (e.t.line, 50)
  | some v => .ok (w, v)
 else if (e.t.op = 36 ∧ e.fn = 0) ∨ ((e.t.op = 39 ∨ e.t.op = 40) ∧ e.loop = false) then .error (e.t.line, 51)
 else .ok (w, e.t.n)
def runE : WS → List Ev5 → Except (Int × Int) (WS × List Int)
 | w, [] => .ok (w, [])
 | w, e :: r => match stepE w e with
  | .error x => .error x
  | .ok (w', n) => match runE w' r with
   | .error x => .error x
   | .ok (w'', ns) => .ok (w'', n :: ns)
mutual
def numsT : Tr → List Int
 | .mk _ _ n _ l => n :: numsL l
def numsL : List Tr → List Int
 | [] => []
 | t :: r => numsT t ++ numsL r
end
mutual
def numT : Tr → List Int → Tr × List Int
 | .mk op s n line l, [] => (.mk op s n line l, [])
 | .mk op s _ line l, k :: r => (.mk op s k line (numL l r).1, (numL l r).2)
def numL : List Tr → List Int → List Tr × List Int
 | [], r => ([], r)
 | t :: ts, r => ((numT t r).1 :: (numL ts (numT t r).2).1, (numL ts (numT t r).2).2)
end
def andE (A : Except (Int × Int) (List Int × WS)) (rest : WS → Except (Int × Int) (WS × List Int)) : Except (Int × Int) (WS × List Int) :=
 match A with
 | .error x => .error x
 | .ok (ns, w) => match rest w with
  | .error x => .error x
  | .ok (w', ms) => .ok (w', ns ++ ms)
def numsE (A : Except (Int × Int) (Tr × WS)) : Except (Int × Int) (List Int × WS) := match A with
 | .error x => .error x
 | .ok (t, w) => .ok (numsT t, w)
def numsEL (A : Except (Int × Int) (List Tr × WS)) : Except (Int × Int) (List Int × WS) := match A with
 | .error x => .error x
 | .ok (l, w) => .ok (numsL l, w)
theorem runE_cons (w : WS) (e : Ev5) (r : List Ev5) : runE w (e :: r) = match stepE w e with
  | .error x => .error x
  | .ok (w', n) => match runE w' r with
   | .error x => .error x
   | .ok (w'', ns) => .ok (w'', n :: ns) := rfl
theorem node_step {op : Int} {s : Bs} {n line : Int} {A : Except (Int × Int) (List Tr × WS)} {rest : WS → Except (Int × Int) (WS × List Int)} :
  (match andE (numsEL A) rest with
   | .error x => .error x
   | .ok (w'', ns) => .ok (w'', n :: ns)) = andE (numsE (nodeE op s n line A)) rest := by
 cases A with
 | error x => rfl
 | ok p =>
  obtain ⟨l, w⟩ := p
  simp only [numsEL, numsE, nodeE, andE, numsT]
  cases rest w with
  | error x => rfl
  | ok q => rfl
mutual
theorem resT_len : ∀ (t : Tr) (a : Int) (loop : Bool) (w w' : WS) (t' : Tr), resT t a loop w = .ok (t', w') → w'.funs.length = w.funs.length + nfunT t
 | .mk op s n line l, a, loop, w, w', t', h => by
  rw [resT] at h
  rw [nfunT]
  split at h
  ·rename_i hf
   simp only at h
   split at h
   ·cases h
   ·obtain ⟨l', hl, -⟩ := nodeE_ok h
    have := resL_len l _ _ _ _ _ hl
    rw [if_pos hf]
    simp only [List.length_append, List.length_cons, List.length_nil] at this
    omega
  ·rename_i hf
   rw [if_neg hf]
   split at h
   ·obtain ⟨l', hl, -⟩ := nodeE_ok h
    have := resL_len l _ _ _ _ _ hl
    simp only at this
    omega
   ·split at h
    ·split at h
     ·cases h
     ·obtain ⟨l', hl, -⟩ := nodeE_ok h
      have := resL_len l _ _ _ _ _ hl
      omega
    ·split at h
     ·cases h
     ·obtain ⟨l', hl, -⟩ := nodeE_ok h
      have := resL_len l _ _ _ _ _ hl
      omega
theorem resL_len : ∀ (l : List Tr) (a : Int) (loop : Bool) (w w' : WS) (l' : List Tr), resL l a loop w = .ok (l', w') → w'.funs.length = w.funs.length + nfunL l
 | [], a, loop, w, w', l', h => by
  rw [resL] at h
  cases h
  rfl
 | t :: r, a, loop, w, w', l', h => by
  rw [resL] at h
  rw [nfunL]
  split at h
  ·cases h
  ·rename_i t1 w1 h1
   split at h
   ·cases h
   ·rename_i r1 w2 h2
    cases h
    have e1 := resT_len t _ _ _ _ _ h1
    have e2 := resL_len r _ _ _ _ _ h2
    omega
end
mutual
theorem runT_eq : ∀ (t : Tr) (a : Int) (loop : Bool) (w : WS) (rest : List Ev5), runE w (evT t a loop w.funs.length ++ rest) = andE (numsE (resT t a loop w)) (fun w' => runE w' rest)
 | .mk op s n line l, a, loop, w, rest => by
  by_cases hf : isFun op = true
  ·have he : evT (.mk op s n line l) a loop w.funs.length = ⟨.mk op s n line l, a, loop, w.funs.length⟩ :: evL l w.funs.length false (w.funs.length + 1) := by rw [evT, if_pos hf]
   rw [he, List.cons_append, runE_cons]
   by_cases hm : w.funs.length = 500 ∨ 200 < (openF op s l a w.mark).vars.length
   ·have hs : stepE w ⟨.mk op s n line l, a, loop, w.funs.length⟩ = .error (line, 52) := (if_pos hf).trans (if_pos hm)
    have hr : resT (.mk op s n line l) a loop w = .error (line, 52) := by rw [resT]; exact (if_pos hf).trans (if_pos hm)
    rw [hs, hr]
    rfl
   ·have hs : stepE w ⟨.mk op s n line l, a, loop, w.funs.length⟩ = .ok (⟨w.funs ++ [openF op s l a w.mark], if w.funs.length = 0 then 4 else w.mark + 2⟩, w.funs.length) := (if_pos hf).trans (if_neg hm)
    have hr : resT (.mk op s n line l) a loop w = nodeE op s w.funs.length line (resL l w.funs.length false ⟨w.funs ++ [openF op s l a w.mark], if w.funs.length = 0 then 4 else w.mark + 2⟩) := by rw [resT]; exact (if_pos hf).trans (if_neg hm)
    have h := runL_eq l w.funs.length false ⟨w.funs ++ [openF op s l a w.mark], if w.funs.length = 0 then 4 else w.mark + 2⟩ rest
    simp only [List.length_append, List.length_cons, List.length_nil, Nat.zero_add] at h
    rw [hs, hr]
    simp only
    rw [h]
    exact node_step
  ·have he : evT (.mk op s n line l) a loop w.funs.length = ⟨.mk op s n line l, a, loop, w.funs.length⟩ :: evL l a (loop || (op == 34 || op == 35)) w.funs.length := by rw [evT, if_neg hf]
   rw [he, List.cons_append, runE_cons]
   by_cases ho : op = 11 ∨ op = 15 ∨ op = 16
   ·have hs : stepE w ⟨.mk op s n line l, a, loop, w.funs.length⟩ = .ok (⟨w.funs, w.mark + 1⟩, w.mark) := (if_neg hf).trans (if_pos ho)
    have hr : resT (.mk op s n line l) a loop w = nodeE op s w.mark line (resL l a loop ⟨w.funs, w.mark + 1⟩) := by rw [resT]; exact (if_neg hf).trans (if_pos ho)
    have hl : (loop || (op == 34 || op == 35)) = loop := by rcases ho with rfl | rfl | rfl <;> simp
    have h := runL_eq l a loop ⟨w.funs, w.mark + 1⟩ rest
    simp only at h
    rw [hs, hr, hl]
    simp only
    rw [h]
    exact node_step
   ·by_cases hn : op = 1 ∨ op = 30 ∨ op = 35 ∨ op = 38
    ·have hl : (loop || (op == 34 || op == 35)) = (loop || op == 35) := by rcases hn with rfl | rfl | rfl | rfl <;> simp
     cases hv : findN w.funs w.funs.length a s with
     | none =>
      have hs : stepE w ⟨.mk op s n line l, a, loop, w.funs.length⟩ = .error (line, 50) := (if_neg hf).trans ((if_neg ho).trans ((if_pos hn).trans (by simp only [Tr.s_mk, hv]; rfl)))
      have hr : resT (.mk op s n line l) a loop w = .error (line, 50) := by rw [resT]; exact (if_neg hf).trans ((if_neg ho).trans ((if_pos hn).trans (by rw [hv])))
      rw [hs, hr]
      rfl
     | some v =>
      have hs : stepE w ⟨.mk op s n line l, a, loop, w.funs.length⟩ = .ok (w, v) := (if_neg hf).trans ((if_neg ho).trans ((if_pos hn).trans (by simp only [Tr.s_mk, hv])))
      have hr : resT (.mk op s n line l) a loop w = nodeE op s v line (resL l a (loop || op == 35) w) := by rw [resT]; exact (if_neg hf).trans ((if_neg ho).trans ((if_pos hn).trans (by rw [hv])))
      rw [hs, hr, hl]
      simp only
      rw [runL_eq l a (loop || op == 35) w rest]
      exact node_step
    ·by_cases hj : (op = 36 ∧ a = 0) ∨ ((op = 39 ∨ op = 40) ∧ loop = false)
     ·have hs : stepE w ⟨.mk op s n line l, a, loop, w.funs.length⟩ = .error (line, 51) := (if_neg hf).trans ((if_neg ho).trans ((if_neg hn).trans (if_pos hj)))
      have hr : resT (.mk op s n line l) a loop w = .error (line, 51) := by rw [resT]; exact (if_neg hf).trans ((if_neg ho).trans ((if_neg hn).trans (if_pos hj)))
      rw [hs, hr]
      rfl
     ·have hs : stepE w ⟨.mk op s n line l, a, loop, w.funs.length⟩ = .ok (w, n) := (if_neg hf).trans ((if_neg ho).trans ((if_neg hn).trans (if_neg hj)))
      have hr : resT (.mk op s n line l) a loop w = nodeE op s n line (resL l a (loop || op == 34) w) := by rw [resT]; exact (if_neg hf).trans ((if_neg ho).trans ((if_neg hn).trans (if_neg hj)))
      have hl : (loop || (op == 34 || op == 35)) = (loop || op == 34) := by
       have : (op == 35) = false := by rw [beq_eq_false_iff_ne]; exact fun e => hn (.inr (.inr (.inl e)))
       rw [this]
       simp
      rw [hs, hr, hl]
      simp only
      rw [runL_eq l a (loop || op == 34) w rest]
      exact node_step
theorem runL_eq : ∀ (l : List Tr) (a : Int) (loop : Bool) (w : WS) (rest : List Ev5), runE w (evL l a loop w.funs.length ++ rest) = andE (numsEL (resL l a loop w)) (fun w' => runE w' rest)
 | [], a, loop, w, rest => by
  rw [evL, resL, List.nil_append]
  simp only [numsEL, andE, numsL]
  cases runE w rest with
  | error x => rfl
  | ok q => rfl
 | t :: r, a, loop, w, rest => by
  rw [evL, List.append_assoc, runT_eq t a loop w, resL]
  cases ht : resT t a loop w with
  | error x => rfl
  | ok p =>
   obtain ⟨t', w'⟩ := p
   have hlen := resT_len t a loop w w' t' ht
   simp only [numsE, andE]
   rw [← hlen, runL_eq r a loop w' rest]
   cases hr : resL r a loop w' with
   | error x => rfl
   | ok q =>
    obtain ⟨r', w''⟩ := q
    simp only [numsEL, andE, numsL]
    cases runE w'' rest with
    | error x => rfl
    | ok z => simp
end
mutual
theorem numT_res : ∀ (t : Tr) (a : Int) (loop : Bool) (w w' : WS) (t' : Tr), resT t a loop w = .ok (t', w') → ∀ r, numT t (numsT t' ++ r) = (t', r)
 | .mk op s n line l, a, loop, w, w', t', h, r => by
  have key : ∀ (k : Int) (A : Except (Int × Int) (List Tr × WS)), (∃ b lp w1, A = resL l b lp w1) → nodeE op s k line A = .ok (t', w') → numT (.mk op s n line l) (numsT t' ++ r) = (t', r) := by
   rintro k A ⟨b, lp, w1, rfl⟩ hA
   obtain ⟨l', hl, rfl⟩ := nodeE_ok hA
   have := numL_res l b lp w1 w' l' hl r
   rw [numsT, List.cons_append, numT, this]
  rw [resT] at h
  split at h
  ·simp only at h
   split at h
   ·cases h
   ·exact key _ _ ⟨_, _, _, rfl⟩ h
  ·split at h
   ·exact key _ _ ⟨_, _, _, rfl⟩ h
   ·split at h
    ·split at h
     ·cases h
     ·exact key _ _ ⟨_, _, _, rfl⟩ h
    ·split at h
     ·cases h
     ·exact key _ _ ⟨_, _, _, rfl⟩ h
theorem numL_res : ∀ (l : List Tr) (a : Int) (loop : Bool) (w w' : WS) (l' : List Tr), resL l a loop w = .ok (l', w') → ∀ r, numL l (numsL l' ++ r) = (l', r)
 | [], a, loop, w, w', l', h, r => by
  rw [resL] at h
  cases h
  rw [numsL, List.nil_append, numL]
 | t :: ts, a, loop, w, w', l', h, r => by
  rw [resL] at h
  split at h
  ·cases h
  ·rename_i t1 w1 h1
   split at h
   ·cases h
   ·rename_i r1 w2 h2
    cases h
    rw [numsL, List.append_assoc, numL, numT_res t _ _ _ _ _ h1, numL_res ts _ _ _ _ _ h2]
end
section
open Go.RowKit
mutual
def declS : Tr → List Bs
 | .mk op s _ _ l => if op = 10 then [] else if op = 41 then [s] else (if op = 30 ∨ op = 35 ∨ op = 38 then [s] else []) ++ declSL l
def declSL : List Tr → List Bs
 | [] => []
 | t :: r => declS t ++ declSL r
end
mutual
theorem decl_eq : ∀ (t : Tr) (out : List Bs), decl t out = (declS t).foldl withN out
 | .mk op s n line l, out => by
  rw [decl, declS]
  by_cases h10 : op = 10
  ·subst h10
   simp [isFun]
  ·by_cases h41 : op = 41
   ·subst h41
    simp [isFun]
   ·have hf : isFun op = false := by simp [isFun, h10, h41]
    simp only [hf, h10, h41, if_false, or_false, Bool.false_eq_true]
    rw [decls_eq l, List.foldl_append]
    by_cases h : op = 30 ∨ op = 35 ∨ op = 38
    ·simp only [if_pos h]
     rfl
    ·simp only [if_neg h]
     rfl
theorem decls_eq : ∀ (l : List Tr) (out : List Bs), decls l out = (declSL l).foldl withN out
 | [], out => by rw [decls, declSL]; rfl
 | t :: r, out => by rw [decls, declSL, List.foldl_append, decl_eq t, decls_eq r]
end
theorem yieldAt_any {m m' : Nat} {P : Program} {l : Nat} {args : Array Value} {W : World} {R : Ending → World → Prop} (h : YieldAt Fence.wide m P l args W R) : YieldAt Fence.wide m' P l args W R := by
 obtain ⟨fn, tmps, assign, body, h1, h2, h3⟩ := h
 exact ⟨fn, tmps, assign, body, h1, h2, fun c cs _ => h3 c cs (room_wide _)⟩
end
theorem idx_some : ∀ (l : List Bs) (s : Bs) (i : Nat), l.idxOf? s = some i → l[i]? = some s := by
 intro l s i h
 unfold List.idxOf? at h
 obtain ⟨hl, h1, -⟩ := List.findIdx?_eq_some_iff_getElem.1 h
 rw [List.getElem?_eq_getElem hl]
 exact congrArg some (eq_of_beq h1)
theorem findN_some (funs : List Fn) (s : Bs) : ∀ (k : Nat) (a v : Int), findN funs k a s = some v → ∃ (j i : Nat) (f : Fn), v = 1000 * (j : Int) + (i : Int) ∧ funs[j]? = some f ∧ f.vars[i]? = some s
 | 0, _, _, h => by cases h
 | k + 1, a, v, h => by
  unfold findN at h
  split at h
  ·cases h
  ·split at h
   ·cases h
   ·rename_i f hf
    split at h
    ·rename_i i hi
     cases h
     exact ⟨a.toNat, i, f, by omega, hf, idx_some _ _ _ hi⟩
    ·exact findN_some funs s k _ v h
mutual
def okT (F : List Fn) : Tr → Prop
 | .mk op s n _ l => (op = 1 ∨ op = 30 ∨ op = 35 ∨ op = 38 → ∃ (j i : Nat) (f : Fn), n = 1000 * (j : Int) + (i : Int) ∧ F[j]? = some f ∧ f.vars[i]? = some s) ∧
  (isFun op = true → ∃ (j : Nat) (f : Fn), n = j ∧ 1 ≤ j ∧ F[j]? = some f ∧ f.name = s) ∧ okL F l
def okL (F : List Fn) : List Tr → Prop
 | [] => True
 | t :: r => okT F t ∧ okL F r
end
theorem get_more {F : List Fn} {m : List Fn} {j : Nat} {f : Fn} (h : F[j]? = some f) : (F ++ m)[j]? = some f := by
 rw [List.getElem?_append_left (List.getElem?_eq_some_iff.1 h).1]
 exact h
theorem fun_four {op : Int} (h : isFun op = true) : op = 41 ∨ op = 10 := by
 unfold isFun at h
 simpa using h
mutual
theorem resT_ok : ∀ (t : Tr) (a : Int) (loop : Bool) (w : WS) (t' : Tr) (w' : WS), resT t a loop w = .ok (t', w') → 0 < w.funs.length → (∃ more, w'.funs = w.funs ++ more) ∧ ∀ m, okT (w'.funs ++ m) t'
 | .mk op s n line l, a, loop, w, t', w', h, h0 => by
  unfold resT at h
  split at h
  ·rename_i hf
   have h4 := fun_four hf
   simp only at h
   split at h
   ·cases h
   ·obtain ⟨l', hL, rfl⟩ := nodeE_ok h
    obtain ⟨⟨more, e⟩, h2⟩ := resL_ok l _ _ _ _ _ hL (by simp)
    refine ⟨⟨_, by rw [e, List.append_assoc]⟩, fun m => ⟨fun ho => by omega, fun _ => ⟨w.funs.length, openF op s l a w.mark, rfl, by omega, ?_, rfl⟩, h2 m⟩⟩
    rw [e]
    simp
  ·rename_i hf
   split at h
   ·rename_i ho
    obtain ⟨l', hL, rfl⟩ := nodeE_ok h
    obtain ⟨h1, h2⟩ := resL_ok l _ _ _ _ _ hL h0
    exact ⟨h1, fun m => ⟨fun ho' => by omega, fun hf' => absurd hf' hf, h2 m⟩⟩
   ·split at h
    ·split at h
     ·cases h
     ·rename_i v hv
      obtain ⟨l', hL, rfl⟩ := nodeE_ok h
      obtain ⟨⟨more, e⟩, h2⟩ := resL_ok l _ _ _ _ _ hL h0
      obtain ⟨j, i, f, e1, e2, e3⟩ := findN_some _ _ _ _ _ hv
      exact ⟨⟨more, e⟩, fun m => ⟨fun _ => ⟨j, i, f, e1, by rw [e, List.append_assoc]; exact get_more e2, e3⟩, fun hf' => absurd hf' hf, h2 m⟩⟩
    ·rename_i ho
     split at h
     ·cases h
     ·obtain ⟨l', hL, rfl⟩ := nodeE_ok h
      obtain ⟨h1, h2⟩ := resL_ok l _ _ _ _ _ hL h0
      exact ⟨h1, fun m => ⟨fun ho' => absurd ho' ho, fun hf' => absurd hf' hf, h2 m⟩⟩
theorem resL_ok : ∀ (l : List Tr) (a : Int) (loop : Bool) (w : WS) (l' : List Tr) (w' : WS), resL l a loop w = .ok (l', w') → 0 < w.funs.length → (∃ more, w'.funs = w.funs ++ more) ∧ ∀ m, okL (w'.funs ++ m) l'
 | [], _, _, w, l', w', h, _ => by
  unfold resL at h
  cases h
  exact ⟨⟨[], by simp⟩, fun m => trivial⟩
 | t :: r, a, loop, w, l', w', h, h0 => by
  unfold resL at h
  split at h
  ·cases h
  ·rename_i t1 w1 hT
   split at h
   ·cases h
   ·rename_i l1 w2 hL
    cases h
    obtain ⟨⟨m1, e1⟩, h1⟩ := resT_ok t _ _ _ _ _ hT h0
    obtain ⟨⟨m2, e2⟩, h2⟩ := resL_ok r _ _ _ _ _ hL (by rw [e1]; simp; omega)
    refine ⟨⟨m1 ++ m2, by rw [e2, e1, List.append_assoc]⟩, fun m => ⟨?_, h2 m⟩⟩
    have q := h1 (m2 ++ m)
    rw [← List.append_assoc, ← e2] at q
    exact q
end
theorem withN_grow (l : List Bs) (s : Bs) : l.length ≤ (withN l s).length := by
 unfold withN
 split <;> simp
mutual
theorem decl_len : ∀ (t : Tr) (out : List Bs), out.length ≤ (decl t out).length
 | .mk op s n line l, out => by
  simp only [decl]
  have h1 : out.length ≤ (if op = 30 ∨ op = 35 ∨ op = 38 ∨ op = 41 then withN out s else out).length := by
   split
   ·exact withN_grow _ _
   ·exact Nat.le_refl _
  split
  ·exact h1
  ·exact Nat.le_trans h1 (decls_len l _)
theorem decls_len : ∀ (l : List Tr) (out : List Bs), out.length ≤ (decls l out).length
 | [], _ => Nat.le_refl _
 | t :: r, out => by
  simp only [decls]
  exact Nat.le_trans (decl_len t out) (decls_len r _)
end
theorem openF_params (op : Int) (s : Bs) (l : List Tr) (a m : Int) : (openF op s l a m).params ≤ (openF op s l a m).vars.length := by
 unfold openF
 simp only
 generalize l.dropLast.foldl (fun o t => withN o t.s) [] = ps
 have h1 : ps.length ≤ (if op = 10 ∧ s ≠ [] then withN ps s else ps).length := by
  split
  ·exact withN_grow _ _
  ·exact Nat.le_refl _
 cases l.getLast? with
 | none => exact h1
 | some b => exact Nat.le_trans h1 (decl_len b _)
def Inv (w : WS) : Prop := 4 ≤ w.mark ∧ ∀ (i : Nat) (f : Fn), w.funs[i]? = some f →
 f.around < i ∧ f.params ≤ f.vars.length ∧ f.vars.length ≤ 200 ∧ f.mark < w.mark ∧ (0 < i → 0 ≤ f.around ∧ 4 ≤ f.mark ∧ ∀ g, w.funs[i - 1]? = some g → g.mark < f.mark)
theorem Inv.bump {w : WS} (h : Inv w) (m : Int) (hm : w.mark ≤ m) : Inv ⟨w.funs, m⟩ :=
 ⟨Int.le_trans h.1 hm, fun i f hf => by
  obtain ⟨h1, h2, h3, h4, h5⟩ := h.2 i f hf
  exact ⟨h1, h2, h3, Int.lt_of_lt_of_le h4 hm, h5⟩⟩
theorem Inv.push {w : WS} (h : Inv w) (f : Fn) (h0 : 0 < w.funs.length) (ha : 0 ≤ f.around) (ha2 : f.around < w.funs.length) (hp : f.params ≤ f.vars.length) (hv : f.vars.length ≤ 200) (hm : f.mark = w.mark) : Inv ⟨w.funs ++ [f], w.mark + 2⟩ := by
 refine ⟨by have := h.1; simp; omega, fun i g hg => ?_⟩
 by_cases hi : i < w.funs.length
 ·simp only at hg
  rw [List.getElem?_append_left hi] at hg
  obtain ⟨h1, h2, h3, h4, h5⟩ := h.2 i g hg
  refine ⟨h1, h2, h3, by simp; omega, fun hi0 => ⟨(h5 hi0).1, (h5 hi0).2.1, fun q hq => ?_⟩⟩
  simp only at hq
  rw [List.getElem?_append_left (by omega)] at hq
  exact (h5 hi0).2.2 q hq
 ·simp only at hg
  rw [List.getElem?_append_right (by omega)] at hg
  have h1 := (List.getElem?_eq_some_iff.1 hg).1
  simp at h1
  obtain rfl : i = w.funs.length := by omega
  simp at hg
  subst hg
  refine ⟨ha2, hp, hv, by simp; omega, fun hi0 => ⟨ha, by rw [hm]; exact h.1, fun q hq => ?_⟩⟩
  simp only at hq
  rw [List.getElem?_append_left (by omega)] at hq
  rw [hm]
  exact (h.2 _ q hq).2.2.2.1
theorem len_more {w w' : WS} (h : ∃ more, w'.funs = w.funs ++ more) : w.funs.length ≤ w'.funs.length := by
 obtain ⟨m, e⟩ := h
 rw [e]
 simp
mutual
theorem resT_inv : ∀ (t : Tr) (a : Int) (loop : Bool) (w : WS) (t' : Tr) (w' : WS), resT t a loop w = .ok (t', w') → 0 ≤ a → a < w.funs.length → Inv w → Inv w'
 | .mk op s n line l, a, loop, w, t', w', h, ha, ha2, hI => by
  unfold resT at h
  split at h
  ·simp only at h
   split at h
   ·cases h
   ·rename_i hv
    obtain ⟨l', hL, rfl⟩ := nodeE_ok h
    rw [if_neg (by omega)] at hL
    exact resL_inv l _ _ _ _ _ hL (by omega) (by simp; omega) (hI.push _ (by omega) ha ha2 (openF_params ..) (by omega) rfl)
  ·split at h
   ·obtain ⟨l', hL, rfl⟩ := nodeE_ok h
    exact resL_inv l _ _ _ _ _ hL ha ha2 (hI.bump _ (by omega))
   ·split at h
    ·split at h
     ·cases h
     ·obtain ⟨l', hL, rfl⟩ := nodeE_ok h
      exact resL_inv l _ _ _ _ _ hL ha ha2 hI
    ·split at h
     ·cases h
     ·obtain ⟨l', hL, rfl⟩ := nodeE_ok h
      exact resL_inv l _ _ _ _ _ hL ha ha2 hI
theorem resL_inv : ∀ (l : List Tr) (a : Int) (loop : Bool) (w : WS) (l' : List Tr) (w' : WS), resL l a loop w = .ok (l', w') → 0 ≤ a → a < w.funs.length → Inv w → Inv w'
 | [], _, _, w, l', w', h, _, _, hI => by
  unfold resL at h
  cases h
  exact hI
 | t :: r, a, loop, w, l', w', h, ha, ha2, hI => by
  unfold resL at h
  split at h
  ·cases h
  ·rename_i t1 w1 hT
   split at h
   ·cases h
   ·rename_i l1 w2 hL
    cases h
    have h1 := len_more (resT_ok t _ _ _ _ _ hT (by omega)).1
    exact resL_inv r _ _ _ _ _ hL ha (by omega) (resT_inv t _ _ _ _ _ hT ha ha2 hI)
end
end Go.Proofs.YtikbfoichhkeaaaGreat
