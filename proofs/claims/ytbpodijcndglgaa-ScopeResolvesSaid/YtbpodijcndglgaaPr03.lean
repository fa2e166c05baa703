/- The document's reader as a Lean function with fuel, over tokens as plain data. No program. What scope gives a program, as a Lean function. No program. What scope meets, one tree after the other, as its walk does: the same as the answer by trees. No program. The names that a block declares, one by one. No program. Marks rise, without a gap. No program. -/
import Derived.Test.YtbpodijcndglgaaPr02
set_option linter.unusedSimpArgs false
set_option linter.unusedVariables false
set_option maxRecDepth 100000
set_option maxHeartbeats 4000000
namespace Go.Proofs.Ytbpodijcndglgaa
def Tr.zero : Tr := .mk 0 [] 0 0 []
structure St where
 pos : Nat
 e : Int
 line : Int
def tokR (L : List Tok) (st : St) (k : Nat) : Tok := (L[st.pos + k]?).getD Tok.zero
def lastLine (L : List Tok) (d : Int) : Int := match L.getLast? with
 | some t => t.line
 | none => d
def failR (L : List Tok) (st : St) (e : Int) : St :=
 if st.e = 0 then
  match L[st.pos]? with
  | some t => ⟨st.pos, e, t.line⟩
  | none => ⟨st.pos, e, lastLine L st.line⟩
 else st
def bytes (s : List Nat) : Bs := s.map UInt8.ofNat
def otherL : List Bs := [[99, 97, 115, 101], [100, 101, 98, 117, 103, 103, 101, 114], [100, 101, 102, 97, 117, 108, 116], [100, 101, 108, 101, 116, 101], [100, 111], [102, 105, 110, 97, 108, 108, 121], [105, 110, 115, 116, 97, 110, 99, 101, 111, 102], [115, 119, 105, 116, 99, 104], [116, 121, 112, 101, 111, 102], [118, 111, 105, 100]]
def withW : Bs := [119, 105, 116, 104]
def stopR (L : List Tok) (st : St) (thing : Bool) : St :=
 let t := tokR L st 0
 if t.kind = 2 ∧ t.s = withW then failR L st 42
 else if t.kind = 5 ∧ t.s = [47] ∧ thing = true then failR L st 44
 else if (t.kind = 5 ∧ t.s = [47]) ∨ (t.kind = 2 ∧ t.s ∈ otherL) then failR L st 47
 else failR L st 40
def isR (L : List Tok) (st : St) (s : Bs) : Bool :=
 let t := tokR L st 0
 st.e == 0 && ((t.kind == 5 || t.kind == 2) && t.s == s)
def St.next (st : St) : St := ⟨st.pos + 1, st.e, st.line⟩
def takeR (L : List Tok) (st : St) (s : Bs) : St := if isR L st s then st.next else st
def mustR (L : List Tok) (st : St) (s : Bs) : St := if isR L st s then st.next else if st.e = 0 then stopR L st false else st
def nameR (L : List Tok) (st : St) : Bs × St :=
 let t := tokR L st 0
 if st.e ≠ 0 ∨ t.kind ≠ 1 then ([], stopR L st false) else (t.s, st.next)
def endR (L : List Tok) (st : St) : St :=
 let t := tokR L st 0
 if isR L st [59] then st.next
 else if st.e ≠ 0 ∨ t.kind = 0 ∨ t.nl = true ∨ (t.kind = 5 ∧ t.s = [125]) then st
 else stopR L st false
def signsR : Nat → List Bs
 | 0 => [[124, 124]]
 | 1 => [[38, 38]]
 | 2 => [[61, 61, 61], [33, 61, 61]]
 | 3 => [[60], [60, 61]]
 | 4 => [[43], [45]]
 | _ => [[42]]
def firstSign (L : List Tok) (st : St) (level : Nat) : Option Bs := (signsR level).find? (fun s => isR L st s)
def evalW : Bs := [101, 118, 97, 108]
def argsW : Bs := [97, 114, 103, 117, 109, 101, 110, 116, 115]
def funW : Bs := [102, 117, 110, 99, 116, 105, 111, 110]
inductive M where
 | block | stmts (acc : List Tr) | within | params (acc : List Tr) (more : Bool) | rest | head | stmt
 | worded (line : Int) (s : Bs)
 | expr | cond | chain (level : Nat) | chainL (level : Nat) (x : Tr) | signed
 | args (acc : List Tr) (more : Bool) | parts (x : Tr) (calls : Bool) | thing | object (line : Int) (acc : List Tr)
abbrev Res := Option (List Tr × St)
def one (t : Tr) (st : St) : Res := some ([t], st)
def hd : List Tr → Tr
 | t :: _ => t
 | [] => Tr.zero
def wordedR (L : List Tok) (rec : M → St → Res) (line : Int) (s : Bs) (st : St) : Res :=
 if s = [118, 97, 114] then do
  let (x, st) := nameR L st.next
  if isR L st [61] then
   let (y, st) ← rec .expr st.next
   one (.mk 30 x 0 line [hd y]) (endR L st)
  else one (.mk 30 x 0 line []) (endR L st)
 else if s = funW then do
  let (x, st) := nameR L st.next
  let (l, st) ← rec .rest st
  one (.mk 41 x 0 line l) st
 else if s = [114, 101, 116, 117, 114, 110] then
  let st := st.next
  let t := tokR L st 0
  if t.kind ≠ 0 ∧ t.nl = false ∧ ¬ (t.kind = 5 ∧ (t.s = [59] ∨ t.s = [125])) then do
   let (y, st) ← rec .expr st
   one (.mk 36 [] 0 line [hd y]) (endR L st)
  else none
 else none
def run (L : List Tok) : Nat → M → St → Res
 | 0, _, _ => none
 | F + 1, m, st =>
  match m with
  | .block => do
   let line : Int := (tokR L st 0).line
   let (l, st) ← run L F (.stmts []) (mustR L st [123])
   one (.mk 32 [] 0 line l) (mustR L st [125])
  | .stmts acc =>
   if st.e = 0 ∧ (tokR L st 0).kind ≠ 0 then
    if isR L st [125] then some (acc, st)
    else if isR L st [59] then run L F (.stmts acc) st.next
    else do
     let (t, st) ← run L F .stmt st
     run L F (.stmts (acc ++ [hd t])) st
   else some (acc, st)
  | .within => none
  | .params acc more =>
   if st.e = 0 ∧ more = true then
    let line : Int := (tokR L st 0).line
    let (s, st) := nameR L st
    run L F (.params (acc ++ [.mk 1 s 0 line []]) (isR L st [44])) (takeR L st [44])
   else some (acc, st)
  | .rest => do
   let st := mustR L st [40]
   let (l, st) ← run L F (.params [] (!isR L st [41])) st
   let st := mustR L st [41]
   let (b, st) ← run L F .block st
   some (l ++ [hd b], st)
  | .head => none
  | .stmt =>
   let t := tokR L st 0
   if t.kind = 2 then run L F (.worded t.line t.s) st
   else if t.kind = 1 then
    let next := tokR L st 1
    if next.kind = 5 ∧ next.s = [58] then none
    else do
     let (x, st) ← run L F .expr st
     one (.mk 31 [] 0 t.line [hd x]) (endR L st)
   else none
  | .worded line s => wordedR L (run L F) line s st
  | .expr =>
   if isR L st [40] then none
   else do
    let (x, st1) ← run L F .cond st
    if isR L st1 [61] then none else one (hd x) st1
  | .cond => do
   let (x, st) ← run L F (.chain 0) st
   if isR L st [63] then none else one (hd x) st
  | .chain level =>
   if level = 6 then run L F .signed st
   else do
    let (x, st) ← run L F (.chain (level + 1)) st
    run L F (.chainL level (hd x)) st
  | .chainL level x =>
   if st.e = 0 then
    match firstSign L st level with
    | none => one x st
    | some s =>
     if level < 2 then none
     else do
      let (y, st) ← run L F (.chain (level + 1)) st.next
      run L F (.chainL level (.mk 18 s 0 x.line [x, hd y])) st
   else one x st
  | .signed =>
   if isR L st [33] then none
   else if isR L st [45] then none
   else if isR L st [110, 101, 119] then none
   else do
    let (x, st) ← run L F .thing st
    run L F (.parts (hd x) true) st
  | .args acc more => if more = true then none else some (acc, mustR L st [41])
  | .parts x calls =>
   if st.e = 0 ∧ calls = true then
    if isR L st [46] then none
    else if isR L st [91] then none
    else if isR L st [40] then do
     let st := st.next
     let (l, st) ← run L F (.args [] (!isR L st [41])) st
     run L F (.parts (.mk 15 [] 0 x.line (x :: l)) calls) st
    else one x st
   else none
  | .thing =>
   let t := tokR L st 0
   if st.e ≠ 0 then none
   else if t.kind = 1 then
    if t.s = evalW ∨ t.s = argsW then none
    else one (.mk 1 t.s 0 t.line []) st.next
   else if t.kind = 5 ∧ t.s = [123] then run L F (.object t.line []) (mustR L st [123])
   else none
  | .object line acc =>
   if st.e = 0 ∧ acc = [] ∧ isR L st [125] = true then one (.mk 11 [] 0 line []) st.next
   else none
structure Fn where
 around : Int
 name : Bs
 params : Nat
 vars : List Bs
 mark : Int
structure WS where
 funs : List Fn
 mark : Int
def withN (l : List Bs) (s : Bs) : List Bs := if s ∈ l then l else l ++ [s]
def isFun (op : Int) : Bool := op == 41 || op == 10
mutual
def decl : Tr → List Bs → List Bs
 | .mk op s _ _ l, out =>
  let out := if op = 30 ∨ op = 35 ∨ op = 38 ∨ op = 41 then withN out s else out
  if isFun op then out else decls l out
def decls : List Tr → List Bs → List Bs
 | [], out => out
 | t :: r, out => decls r (decl t out)
end
def findN (funs : List Fn) : Nat → Int → Bs → Option Int
 | 0, _, _ => none
 | k + 1, a, s =>
  if a < 0 then none
  else match funs[a.toNat]? with
   | none => none
   | some f => match f.vars.idxOf? s with
    | some i => some (1000 * a + i)
    | none => findN funs k f.around s
def openF (op : Int) (s : Bs) (l : List Tr) (a m : Int) : Fn :=
 let ps := l.dropLast.foldl (fun o t => withN o t.s) []
 let own := if op = 10 ∧ s ≠ [] then withN ps s else ps
 ⟨a, s, ps.length, (match l.getLast? with | some b => decl b own | none => own), m⟩
def nodeE (op : Int) (s : Bs) (n line : Int) : Except (Int × Int) (List Tr × WS) → Except (Int × Int) (Tr × WS)
 | .error x => .error x
 | .ok (l', w') => .ok (.mk op s n line l', w')
mutual
def resT : Tr → Int → Bool → WS → Except (Int × Int) (Tr × WS)
 | .mk op s n line l, a, loop, w =>
  if isFun op then
   let f := openF op s l a w.mark
   if w.funs.length = 500 ∨ 200 < f.vars.length then .error (line, 52)
   else nodeE op s w.funs.length line (resL l w.funs.length false ⟨w.funs ++ [f], if w.funs.length = 0 then 4 else w.mark + 2⟩)
  else if op = 11 ∨ op = 15 ∨ op = 16 then
   nodeE op s w.mark line (resL l a loop ⟨w.funs, w.mark + 1⟩)
  else if op = 1 ∨ op = 30 ∨ op = 35 ∨ op = 38 then
   match findN w.funs w.funs.length a s with
   | none => .error (line, 50)
   | some v => nodeE op s v line (resL l a (loop || op == 35) w)
  else if (op = 36 ∧ a = 0) ∨ ((op = 39 ∨ op = 40) ∧ loop = false) then .error (line, 51)
  else nodeE op s n line (resL l a (loop || op == 34) w)
def resL : List Tr → Int → Bool → WS → Except (Int × Int) (List Tr × WS)
 | [], _, _, w => .ok ([], w)
 | t :: r, a, loop, w => match resT t a loop w with
  | .error x => .error x
  | .ok (t', w') => match resL r a loop w' with
   | .error x => .error x
   | .ok (r', w'') => .ok (t' :: r', w'')
end
theorem nodeE_ok {op : Int} {s : Bs} {n line : Int} {A : Except (Int × Int) (List Tr × WS)} {t : Tr} {w : WS} (h : nodeE op s n line A = .ok (t, w)) : ∃ l', A = .ok (l', w) ∧ t = .mk op s n line l' := by
 cases A with
 | error x => cases h
 | ok x => obtain ⟨l', w'⟩ := x; cases h; exact ⟨l', rfl, rfl⟩
def resolveT (p : Tr) : Except (Int × Int) (List Fn × Tr) :=
 match resT (.mk 41 [] 0 p.line [p]) (-1) false ⟨[], 0⟩ with
 | .error x => .error x
 | .ok (t, w) => .ok (w.funs, t.l.headD p)
structure Ev5 where
 t : Tr
 fn : Int
 loop : Bool
 no : Nat
mutual
def nfunT : Tr → Nat
 | .mk op _ _ _ l => (if isFun op then 1 else 0) + nfunL l
def nfunL : List Tr → Nat
 | [] => 0
 | t :: r => nfunT t + nfunL r
end
mutual
def evT : Tr → Int → Bool → Nat → List Ev5
 | .mk op s n line l, a, loop, k => ⟨.mk op s n line l, a, loop, k⟩ :: (if isFun op then evL l k false (k + 1) else evL l a (loop || (op == 34 || op == 35)) k)
def evL : List Tr → Int → Bool → Nat → List Ev5
 | [], _, _, _ => []
 | t :: r, a, loop, k => evT t a loop k ++ evL r a loop (k + nfunT t)
end
def stepE (w : WS) (e : Ev5) : Except (Int × Int) (WS × Int) :=
 if isFun e.t.op then
  let f := openF e.t.op e.t.s e.t.l e.fn w.mark
  if w.funs.length = 500 ∨ 200 < f.vars.length then .error (e.t.line, 52)
  else .ok (⟨w.funs ++ [f], if w.funs.length = 0 then 4 else w.mark + 2⟩, w.funs.length)
 else if e.t.op = 11 ∨ e.t.op = 15 ∨ e.t.op = 16 then .ok (⟨w.funs, w.mark + 1⟩, w.mark)
 else if e.t.op = 1 ∨ e.t.op = 30 ∨ e.t.op = 35 ∨ e.t.op = 38 then
  match findN w.funs w.funs.length e.fn e.t.s with
  | none => .error (e.t.line, 50)
  | some v => .ok (w, v)
 else if (e.t.op = 36 ∧ e.fn = 0) ∨ ((e.t.op = 39 ∨ e.t.op = 40) ∧ e.loop = false) then .error (e.t.line, 51)
 else .ok (w, e.t.n)
def runE : WS → List Ev5 → Except (Int × Int) (WS × List Int)
 | w, [] => .ok (w, [])
 | w, e :: r => match stepE w e with
  | .error x => .error x
  | .ok (w', n) => match runE w' r with
   | .error x => .error x
   | .ok (w'', ns) => .ok (w'', n :: ns)
mutual
def numsT : Tr → List Int
 | .mk _ _ n _ l => n :: numsL l
def numsL : List Tr → List Int
 | [] => []
 | t :: r => numsT t ++ numsL r
end
mutual
def numT : Tr → List Int → Tr × List Int
 | .mk op s n line l, [] => (.mk op s n line l, [])
 | .mk op s _ line l, k :: r => (.mk op s k line (numL l r).1, (numL l r).2)
def numL : List Tr → List Int → List Tr × List Int
 | [], r => ([], r)
 | t :: ts, r => ((numT t r).1 :: (numL ts (numT t r).2).1, (numL ts (numT t r).2).2)
end
def andE (A : Except (Int × Int) (List Int × WS)) (rest : WS → Except (Int × Int) (WS × List Int)) : Except (Int × Int) (WS × List Int) :=
 match A with
 | .error x => .error x
 | .ok (ns, w) => match rest w with
  | .error x => .error x
  | .ok (w', ms) => .ok (w', ns ++ ms)
def numsE (A : Except (Int × Int) (Tr × WS)) : Except (Int × Int) (List Int × WS) := match A with
 | .error x => .error x
 | .ok (t, w) => .ok (numsT t, w)
def numsEL (A : Except (Int × Int) (List Tr × WS)) : Except (Int × Int) (List Int × WS) := match A with
 | .error x => .error x
 | .ok (l, w) => .ok (numsL l, w)
theorem runE_cons (w : WS) (e : Ev5) (r : List Ev5) : runE w (e :: r) = match stepE w e with
  | .error x => .error x
  | .ok (w', n) => match runE w' r with
   | .error x => .error x
   | .ok (w'', ns) => .ok (w'', n :: ns) := rfl
theorem node_step {op : Int} {s : Bs} {n line : Int} {A : Except (Int × Int) (List Tr × WS)} {rest : WS → Except (Int × Int) (WS × List Int)} :
  (match andE (numsEL A) rest with
   | .error x => .error x
   | .ok (w'', ns) => .ok (w'', n :: ns)) = andE (numsE (nodeE op s n line A)) rest := by
 cases A with
 | error x => rfl
 | ok p =>
  obtain ⟨l, w⟩ := p
  simp only [numsEL, numsE, nodeE, andE, numsT]
  cases rest w with
  | error x => rfl
  | ok q => rfl
mutual
theorem resT_len : ∀ (t : Tr) (a : Int) (loop : Bool) (w w' : WS) (t' : Tr), resT t a loop w = .ok (t', w') → w'.funs.length = w.funs.length + nfunT t
 | .mk op s n line l, a, loop, w, w', t', h => by
  rw [resT] at h
  rw [nfunT]
  split at h
  ·rename_i hf
   simp only at h
   split at h
   ·cases h
   ·obtain ⟨l', hl, -⟩ := nodeE_ok h
    have := resL_len l _ _ _ _ _ hl
    rw [if_pos hf]
    simp only [List.length_append, List.length_cons, List.length_nil] at this
    omega
  ·rename_i hf
   rw [if_neg hf]
   split at h
   ·obtain ⟨l', hl, -⟩ := nodeE_ok h
    have := resL_len l _ _ _ _ _ hl
    simp only at this
    omega
   ·split at h
    ·split at h
     ·cases h
     ·obtain ⟨l', hl, -⟩ := nodeE_ok h
      have := resL_len l _ _ _ _ _ hl
      omega
    ·split at h
     ·cases h
     ·obtain ⟨l', hl, -⟩ := nodeE_ok h
      have := resL_len l _ _ _ _ _ hl
      omega
theorem resL_len : ∀ (l : List Tr) (a : Int) (loop : Bool) (w w' : WS) (l' : List Tr), resL l a loop w = .ok (l', w') → w'.funs.length = w.funs.length + nfunL l
 | [], a, loop, w, w', l', h => by
  rw [resL] at h
  cases h
  rfl
 | t :: r, a, loop, w, w', l', h => by
  rw [resL] at h
  rw [nfunL]
  split at h
  ·cases h
  ·rename_i t1 w1 h1
   split at h
   ·cases h
   ·rename_i r1 w2 h2
    cases h
    have e1 := resT_len t _ _ _ _ _ h1
    have e2 := resL_len r _ _ _ _ _ h2
    omega
end
mutual
theorem runT_eq : ∀ (t : Tr) (a : Int) (loop : Bool) (w : WS) (rest : List Ev5), runE w (evT t a loop w.funs.length ++ rest) = andE (numsE (resT t a loop w)) (fun w' => runE w' rest)
 | .mk op s n line l, a, loop, w, rest => by
  by_cases hf : isFun op = true
  ·have he : evT (.mk op s n line l) a loop w.funs.length = ⟨.mk op s n line l, a, loop, w.funs.length⟩ :: evL l w.funs.length false (w.funs.length + 1) := by rw [evT, if_pos hf]
   rw [he, List.cons_append, runE_cons]
   by_cases hm : w.funs.length = 500 ∨ 200 < (openF op s l a w.mark).vars.length
   ·have hs : stepE w ⟨.mk op s n line l, a, loop, w.funs.length⟩ = .error (line, 52) := (if_pos hf).trans (if_pos hm)
    have hr : resT (.mk op s n line l) a loop w = .error (line, 52) := by rw [resT]; exact (if_pos hf).trans (if_pos hm)
    rw [hs, hr]
    rfl
   ·have hs : stepE w ⟨.mk op s n line l, a, loop, w.funs.length⟩ = .ok (⟨w.funs ++ [openF op s l a w.mark], if w.funs.length = 0 then 4 else w.mark + 2⟩, w.funs.length) := (if_pos hf).trans (if_neg hm)
    have hr : resT (.mk op s n line l) a loop w = nodeE op s w.funs.length line (resL l w.funs.length false ⟨w.funs ++ [openF op s l a w.mark], if w.funs.length = 0 then 4 else w.mark + 2⟩) := by rw [resT]; exact (if_pos hf).trans (if_neg hm)
    have h := runL_eq l w.funs.length false ⟨w.funs ++ [openF op s l a w.mark], if w.funs.length = 0 then 4 else w.mark + 2⟩ rest
    simp only [List.length_append, List.length_cons, List.length_nil, Nat.zero_add] at h
    rw [hs, hr]
    simp only
    rw [h]
    exact node_step
  ·have he : evT (.mk op s n line l) a loop w.funs.length = ⟨.mk op s n line l, a, loop, w.funs.length⟩ :: evL l a (loop || (op == 34 || op == 35)) w.funs.length := by rw [evT, if_neg hf]
   rw [he, List.cons_append, runE_cons]
   by_cases ho : op = 11 ∨ op = 15 ∨ op = 16
   ·have hs : stepE w ⟨.mk op s n line l, a, loop, w.funs.length⟩ = .ok (⟨w.funs, w.mark + 1⟩, w.mark) := (if_neg hf).trans (if_pos ho)
    have hr : resT (.mk op s n line l) a loop w = nodeE op s w.mark line (resL l a loop ⟨w.funs, w.mark + 1⟩) := by rw [resT]; exact (if_neg hf).trans (if_pos ho)
    have hl : (loop || (op == 34 || op == 35)) = loop := by rcases ho with rfl | rfl | rfl <;> simp
    have h := runL_eq l a loop ⟨w.funs, w.mark + 1⟩ rest
    simp only at h
    rw [hs, hr, hl]
    simp only
    rw [h]
    exact node_step
   ·by_cases hn : op = 1 ∨ op = 30 ∨ op = 35 ∨ op = 38
    ·have hl : (loop || (op == 34 || op == 35)) = (loop || op == 35) := by rcases hn with rfl | rfl | rfl | rfl <;> simp
     cases hv : findN w.funs w.funs.length a s with
     | none =>
      have hs : stepE w ⟨.mk op s n line l, a, loop, w.funs.length⟩ = .error (line, 50) := (if_neg hf).trans ((if_neg ho).trans ((if_pos hn).trans (by simp only [Tr.s_mk, hv]; rfl)))
      have hr : resT (.mk op s n line l) a loop w = .error (line, 50) := by rw [resT]; exact (if_neg hf).trans ((if_neg ho).trans ((if_pos hn).trans (by rw [hv])))
      rw [hs, hr]
      rfl
     | some v =>
      have hs : stepE w ⟨.mk op s n line l, a, loop, w.funs.length⟩ = .ok (w, v) := (if_neg hf).trans ((if_neg ho).trans ((if_pos hn).trans (by simp only [Tr.s_mk, hv])))
      have hr : resT (.mk op s n line l) a loop w = nodeE op s v line (resL l a (loop || op == 35) w) := by rw [resT]; exact (if_neg hf).trans ((if_neg ho).trans ((if_pos hn).trans (by rw [hv])))
      rw [hs, hr, hl]
      simp only
      rw [runL_eq l a (loop || op == 35) w rest]
      exact node_step
    ·by_cases hj : (op = 36 ∧ a = 0) ∨ ((op = 39 ∨ op = 40) ∧ loop = false)
     ·have hs : stepE w ⟨.mk op s n line l, a, loop, w.funs.length⟩ = .error (line, 51) := (if_neg hf).trans ((if_neg ho).trans ((if_neg hn).trans (if_pos hj)))
      have hr : resT (.mk op s n line l) a loop w = .error (line, 51) := by rw [resT]; exact (if_neg hf).trans ((if_neg ho).trans ((if_neg hn).trans (if_pos hj)))
      rw [hs, hr]
      rfl
     ·have hs : stepE w ⟨.mk op s n line l, a, loop, w.funs.length⟩ = .ok (w, n) := (if_neg hf).trans ((if_neg ho).trans ((if_neg hn).trans (if_neg hj)))
      have hr : resT (.mk op s n line l) a loop w = nodeE op s n line (resL l a (loop || op == 34) w) := by rw [resT]; exact (if_neg hf).trans ((if_neg ho).trans ((if_neg hn).trans (if_neg hj)))
      have hl : (loop || (op == 34 || op == 35)) = (loop || op == 34) := by
       have : (op == 35) = false := by rw [beq_eq_false_iff_ne]; exact fun e => hn (.inr (.inr (.inl e)))
       rw [this]
       simp
      rw [hs, hr, hl]
      simp only
      rw [runL_eq l a (loop || op == 34) w rest]
      exact node_step
theorem runL_eq : ∀ (l : List Tr) (a : Int) (loop : Bool) (w : WS) (rest : List Ev5), runE w (evL l a loop w.funs.length ++ rest) = andE (numsEL (resL l a loop w)) (fun w' => runE w' rest)
 | [], a, loop, w, rest => by
  rw [evL, resL, List.nil_append]
  simp only [numsEL, andE, numsL]
  cases runE w rest with
  | error x => rfl
  | ok q => rfl
 | t :: r, a, loop, w, rest => by
  rw [evL, List.append_assoc, runT_eq t a loop w, resL]
  cases ht : resT t a loop w with
  | error x => rfl
  | ok p =>
   obtain ⟨t', w'⟩ := p
   have hlen := resT_len t a loop w w' t' ht
   simp only [numsE, andE]
   rw [← hlen, runL_eq r a loop w' rest]
   cases hr : resL r a loop w' with
   | error x => rfl
   | ok q =>
    obtain ⟨r', w''⟩ := q
    simp only [numsEL, andE, numsL]
    cases runE w'' rest with
    | error x => rfl
    | ok z => simp
end
mutual
theorem numT_res : ∀ (t : Tr) (a : Int) (loop : Bool) (w w' : WS) (t' : Tr), resT t a loop w = .ok (t', w') → ∀ r, numT t (numsT t' ++ r) = (t', r)
 | .mk op s n line l, a, loop, w, w', t', h, r => by
  have key : ∀ (k : Int) (A : Except (Int × Int) (List Tr × WS)), (∃ b lp w1, A = resL l b lp w1) → nodeE op s k line A = .ok (t', w') → numT (.mk op s n line l) (numsT t' ++ r) = (t', r) := by
   rintro k A ⟨b, lp, w1, rfl⟩ hA
   obtain ⟨l', hl, rfl⟩ := nodeE_ok hA
   have := numL_res l b lp w1 w' l' hl r
   rw [numsT, List.cons_append, numT, this]
  rw [resT] at h
  split at h
  ·simp only at h
   split at h
   ·cases h
   ·exact key _ _ ⟨_, _, _, rfl⟩ h
  ·split at h
   ·exact key _ _ ⟨_, _, _, rfl⟩ h
   ·split at h
    ·split at h
     ·cases h
     ·exact key _ _ ⟨_, _, _, rfl⟩ h
    ·split at h
     ·cases h
     ·exact key _ _ ⟨_, _, _, rfl⟩ h
theorem numL_res : ∀ (l : List Tr) (a : Int) (loop : Bool) (w w' : WS) (l' : List Tr), resL l a loop w = .ok (l', w') → ∀ r, numL l (numsL l' ++ r) = (l', r)
 | [], a, loop, w, w', l', h, r => by
  rw [resL] at h
  cases h
  rw [numsL, List.nil_append, numL]
 | t :: ts, a, loop, w, w', l', h, r => by
  rw [resL] at h
  split at h
  ·cases h
  ·rename_i t1 w1 h1
   split at h
   ·cases h
   ·rename_i r1 w2 h2
    cases h
    rw [numsL, List.append_assoc, numL, numT_res t _ _ _ _ _ h1, numL_res ts _ _ _ _ _ h2]
end
section
open Go.RowKit
mutual
def declS : Tr → List Bs
 | .mk op s _ _ l => if op = 10 then [] else if op = 41 then [s] else (if op = 30 ∨ op = 35 ∨ op = 38 then [s] else []) ++ declSL l
def declSL : List Tr → List Bs
 | [] => []
 | t :: r => declS t ++ declSL r
end
mutual
theorem decl_eq : ∀ (t : Tr) (out : List Bs), decl t out = (declS t).foldl withN out
 | .mk op s n line l, out => by
  rw [decl, declS]
  by_cases h10 : op = 10
  ·subst h10
   simp [isFun]
  ·by_cases h41 : op = 41
   ·subst h41
    simp [isFun]
   ·have hf : isFun op = false := by simp [isFun, h10, h41]
    simp only [hf, h10, h41, if_false, or_false, Bool.false_eq_true]
    rw [decls_eq l, List.foldl_append]
    by_cases h : op = 30 ∨ op = 35 ∨ op = 38
    ·simp only [if_pos h]
     rfl
    ·simp only [if_neg h]
     rfl
theorem decls_eq : ∀ (l : List Tr) (out : List Bs), decls l out = (declSL l).foldl withN out
 | [], out => by rw [decls, declSL]; rfl
 | t :: r, out => by rw [decls, declSL, List.foldl_append, decl_eq t, decls_eq r]
end
theorem yieldAt_any {m m' : Nat} {P : Program} {l : Nat} {args : Array Value} {W : World} {R : Ending → World → Prop} (h : YieldAt Fence.wide m P l args W R) : YieldAt Fence.wide m' P l args W R := by
 obtain ⟨fn, tmps, assign, body, h1, h2, h3⟩ := h
 exact ⟨fn, tmps, assign, body, h1, h2, fun c cs _ => h3 c cs (room_wide _)⟩
end
mutual
def chkT (F : List Fn) : Tr → Int → Option Int
 | .mk op _ n _ l, next =>
  if isFun op then (if 1 ≤ n ∧ n < F.length ∧ (F[n.toNat]?).map Fn.mark = some next then chkL F l (next + 2) else none)
  else if op = 11 ∨ op = 15 ∨ op = 16 then (if n = next then chkL F l (next + 1) else none)
  else chkL F l next
def chkL (F : List Fn) : List Tr → Int → Option Int
 | [], next => some next
 | t :: r, next => match chkT F t next with
  | none => none
  | some k => chkL F r k
end
def Adds (w w' : WS) (chk : List Fn → Option Int) : Prop := (∃ more, w'.funs = w.funs ++ more) ∧ ∀ m, chk (w'.funs ++ m) = some w'.mark
mutual
theorem resT_marks : ∀ (t : Tr) (a : Int) (loop : Bool) (w : WS) (t' : Tr) (w' : WS), resT t a loop w = .ok (t', w') → 0 < w.funs.length → Adds w w' (fun F => chkT F t' w.mark)
 | .mk op s n line l, a, loop, w, t', w', h, h0 => by
  unfold resT at h
  split at h
  ·rename_i hf
   simp only at h
   split at h
   ·cases h
   ·obtain ⟨l', hL, rfl⟩ := nodeE_ok h
    rw [if_neg (by omega)] at hL
    obtain ⟨⟨more, e⟩, h2⟩ := resL_marks l _ _ _ _ _ hL (by simp)
    refine ⟨⟨_, by rw [e, List.append_assoc]⟩, fun m => ?_⟩
    have hm : (w'.funs ++ m)[w.funs.length]? = some (openF op s l a w.mark) := by
     rw [e]
     simp
    have hl : w.funs.length < (w'.funs ++ m).length := (List.getElem?_eq_some_iff.1 hm).1
    simp only [chkT]
    rw [if_pos hf, if_pos ⟨by omega, by omega, by rw [Int.toNat_natCast, hm]; rfl⟩]
    exact h2 m
  ·rename_i hf
   split at h
   ·rename_i ho
    obtain ⟨l', hL, rfl⟩ := nodeE_ok h
    obtain ⟨h1, h2⟩ := resL_marks l _ _ _ _ _ hL h0
    refine ⟨h1, fun m => ?_⟩
    simp only [chkT]
    rw [if_neg hf, if_pos ho, if_pos trivial]
    exact h2 m
   ·rename_i ho
    split at h
    ·split at h
     ·cases h
     ·obtain ⟨l', hL, rfl⟩ := nodeE_ok h
      obtain ⟨h1, h2⟩ := resL_marks l _ _ _ _ _ hL h0
      refine ⟨h1, fun m => ?_⟩
      simp only [chkT]
      rw [if_neg hf, if_neg ho]
      exact h2 m
    ·split at h
     ·cases h
     ·obtain ⟨l', hL, rfl⟩ := nodeE_ok h
      obtain ⟨h1, h2⟩ := resL_marks l _ _ _ _ _ hL h0
      refine ⟨h1, fun m => ?_⟩
      simp only [chkT]
      rw [if_neg hf, if_neg ho]
      exact h2 m
theorem resL_marks : ∀ (l : List Tr) (a : Int) (loop : Bool) (w : WS) (l' : List Tr) (w' : WS), resL l a loop w = .ok (l', w') → 0 < w.funs.length → Adds w w' (fun F => chkL F l' w.mark)
 | [], _, _, w, l', w', h, _ => by
  unfold resL at h
  cases h
  exact ⟨⟨[], by simp⟩, fun m => rfl⟩
 | t :: r, a, loop, w, l', w', h, h0 => by
  unfold resL at h
  split at h
  ·cases h
  ·rename_i t1 w1 hT
   split at h
   ·cases h
   ·rename_i l1 w2 hL
    cases h
    obtain ⟨⟨m1, e1⟩, h1⟩ := resT_marks t _ _ _ _ _ hT h0
    obtain ⟨⟨m2, e2⟩, h2⟩ := resL_marks r _ _ _ _ _ hL (by rw [e1]; simp; omega)
    refine ⟨⟨m1 ++ m2, by rw [e2, e1, List.append_assoc]⟩, fun m => ?_⟩
    have q := h1 (m2 ++ m)
    rw [← List.append_assoc, ← e2] at q
    simp only [chkL, q]
    exact h2 m
end
end Go.Proofs.Ytbpodijcndglgaa
