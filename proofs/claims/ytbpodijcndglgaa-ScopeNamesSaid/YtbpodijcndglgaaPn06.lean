/- The document's reader as a Lean function with fuel, over tokens as plain data. No program. What scope gives a program, as a Lean function. No program. Names that are written otherwise, all alike, resolve to the same. No program. Marks rise, without a gap. No program. The names that a block declares, one by one. No program. -/
import Derived.Test.YtbpodijcndglgaaPn05
set_option linter.unusedSimpArgs false
set_option linter.unusedVariables false
set_option maxRecDepth 100000
set_option maxHeartbeats 40000000
namespace Go.Proofs.Ytbpodijcndglgaa
def Tr.zero : Tr := .mk 0 [] 0 0 []
structure St where
 pos : Nat
 e : Int
 line : Int
def tokR (L : List Tok) (st : St) (k : Nat) : Tok := (L[st.pos + k]?).getD Tok.zero
def lastLine (L : List Tok) (d : Int) : Int := match L.getLast? with
 | some t => t.line
 | none => d
def failR (L : List Tok) (st : St) (e : Int) : St :=
 if st.e = 0 then
  match L[st.pos]? with
  | some t => ⟨st.pos, e, t.line⟩
  | none => ⟨st.pos, e, lastLine L st.line⟩
 else st
def bytes (s : List Nat) : Bs := s.map UInt8.ofNat
def otherL : List Bs := [[99, 97, 115, 101], [100, 101, 98, 117, 103, 103, 101, 114], [100, 101, 102, 97, 117, 108, 116], [100, 101, 108, 101, 116, 101], [100, 111], [102, 105, 110, 97, 108, 108, 121], [105, 110, 115, 116, 97, 110, 99, 101, 111, 102], [115, 119, 105, 116, 99, 104], [116, 121, 112, 101, 111, 102], [118, 111, 105, 100]]
def withW : Bs := [119, 105, 116, 104]
def stopR (L : List Tok) (st : St) (thing : Bool) : St :=
 let t := tokR L st 0
 if t.kind = 2 ∧ t.s = withW then failR L st 42
 else if t.kind = 5 ∧ t.s = [47] ∧ thing = true then failR L st 44
 else if (t.kind = 5 ∧ t.s = [47]) ∨ (t.kind = 2 ∧ t.s ∈ otherL) then failR L st 47
 else failR L st 40
def isR (L : List Tok) (st : St) (s : Bs) : Bool :=
 let t := tokR L st 0
 st.e == 0 && ((t.kind == 5 || t.kind == 2) && t.s == s)
def St.next (st : St) : St := ⟨st.pos + 1, st.e, st.line⟩
def takeR (L : List Tok) (st : St) (s : Bs) : St := if isR L st s then st.next else st
def mustR (L : List Tok) (st : St) (s : Bs) : St := if isR L st s then st.next else if st.e = 0 then stopR L st false else st
def nameR (L : List Tok) (st : St) : Bs × St :=
 let t := tokR L st 0
 if st.e ≠ 0 ∨ t.kind ≠ 1 then ([], stopR L st false) else (t.s, st.next)
def endR (L : List Tok) (st : St) : St :=
 let t := tokR L st 0
 if isR L st [59] then st.next
 else if st.e ≠ 0 ∨ t.kind = 0 ∨ t.nl = true ∨ (t.kind = 5 ∧ t.s = [125]) then st
 else stopR L st false
def signsR : Nat → List Bs
 | 0 => [[124, 124]]
 | 1 => [[38, 38]]
 | 2 => [[61, 61, 61], [33, 61, 61]]
 | 3 => [[60], [60, 61]]
 | 4 => [[43], [45]]
 | _ => [[42]]
def firstSign (L : List Tok) (st : St) (level : Nat) : Option Bs := (signsR level).find? (fun s => isR L st s)
def evalW : Bs := [101, 118, 97, 108]
def argsW : Bs := [97, 114, 103, 117, 109, 101, 110, 116, 115]
def funW : Bs := [102, 117, 110, 99, 116, 105, 111, 110]
inductive M where
 | block | stmts (acc : List Tr) | within | params (acc : List Tr) (more : Bool) | rest | head | stmt
 | worded (line : Int) (s : Bs)
 | expr | cond | chain (level : Nat) | chainL (level : Nat) (x : Tr) | signed
 | args (acc : List Tr) (more : Bool) | parts (x : Tr) (calls : Bool) | thing | object (line : Int) (acc : List Tr)
abbrev Res := Option (List Tr × St)
def one (t : Tr) (st : St) : Res := some ([t], st)
def hd : List Tr → Tr
 | t :: _ => t
 | [] => Tr.zero
def wordedR (L : List Tok) (rec : M → St → Res) (line : Int) (s : Bs) (st : St) : Res :=
 if s = [118, 97, 114] then do
  let (x, st) := nameR L st.next
  if isR L st [61] then
   let (y, st) ← rec .expr st.next
   one (.mk 30 x 0 line [hd y]) (endR L st)
  else one (.mk 30 x 0 line []) (endR L st)
 else if s = funW then do
  let (x, st) := nameR L st.next
  let (l, st) ← rec .rest st
  one (.mk 41 x 0 line l) st
 else if s = [114, 101, 116, 117, 114, 110] then
  let st := st.next
  let t := tokR L st 0
  if t.kind ≠ 0 ∧ t.nl = false ∧ ¬ (t.kind = 5 ∧ (t.s = [59] ∨ t.s = [125])) then do
   let (y, st) ← rec .expr st
   one (.mk 36 [] 0 line [hd y]) (endR L st)
  else none
 else none
def run (L : List Tok) : Nat → M → St → Res
 | 0, _, _ => none
 | F + 1, m, st =>
  match m with
  | .block => do
   let line : Int := (tokR L st 0).line
   let (l, st) ← run L F (.stmts []) (mustR L st [123])
   one (.mk 32 [] 0 line l) (mustR L st [125])
  | .stmts acc =>
   if st.e = 0 ∧ (tokR L st 0).kind ≠ 0 then
    if isR L st [125] then some (acc, st)
    else if isR L st [59] then run L F (.stmts acc) st.next
    else do
     let (t, st) ← run L F .stmt st
     run L F (.stmts (acc ++ [hd t])) st
   else some (acc, st)
  | .within => none
  | .params acc more =>
   if st.e = 0 ∧ more = true then
    let line : Int := (tokR L st 0).line
    let (s, st) := nameR L st
    run L F (.params (acc ++ [.mk 1 s 0 line []]) (isR L st [44])) (takeR L st [44])
   else some (acc, st)
  | .rest => do
   let st := mustR L st [40]
   let (l, st) ← run L F (.params [] (!isR L st [41])) st
   let st := mustR L st [41]
   let (b, st) ← run L F .block st
   some (l ++ [hd b], st)
  | .head => none
  | .stmt =>
   let t := tokR L st 0
   if t.kind = 2 then run L F (.worded t.line t.s) st
   else if t.kind = 1 then
    let next := tokR L st 1
    if next.kind = 5 ∧ next.s = [58] then none
    else do
     let (x, st) ← run L F .expr st
     one (.mk 31 [] 0 t.line [hd x]) (endR L st)
   else none
  | .worded line s => wordedR L (run L F) line s st
  | .expr =>
   if isR L st [40] then none
   else do
    let (x, st1) ← run L F .cond st
    if isR L st1 [61] then none else one (hd x) st1
  | .cond => do
   let (x, st) ← run L F (.chain 0) st
   if isR L st [63] then none else one (hd x) st
  | .chain level =>
   if level = 6 then run L F .signed st
   else do
    let (x, st) ← run L F (.chain (level + 1)) st
    run L F (.chainL level (hd x)) st
  | .chainL level x =>
   if st.e = 0 then
    match firstSign L st level with
    | none => one x st
    | some s =>
     if level < 2 then none
     else do
      let (y, st) ← run L F (.chain (level + 1)) st.next
      run L F (.chainL level (.mk 18 s 0 x.line [x, hd y])) st
   else one x st
  | .signed =>
   if isR L st [33] then none
   else if isR L st [45] then none
   else if isR L st [110, 101, 119] then none
   else do
    let (x, st) ← run L F .thing st
    run L F (.parts (hd x) true) st
  | .args acc more => if more = true then none else some (acc, mustR L st [41])
  | .parts x calls =>
   if st.e = 0 ∧ calls = true then
    if isR L st [46] then none
    else if isR L st [91] then none
    else if isR L st [40] then do
     let st := st.next
     let (l, st) ← run L F (.args [] (!isR L st [41])) st
     run L F (.parts (.mk 15 [] 0 x.line (x :: l)) calls) st
    else one x st
   else none
  | .thing =>
   let t := tokR L st 0
   if st.e ≠ 0 then none
   else if t.kind = 1 then
    if t.s = evalW ∨ t.s = argsW then none
    else one (.mk 1 t.s 0 t.line []) st.next
   else if t.kind = 5 ∧ t.s = [123] then run L F (.object t.line []) (mustR L st [123])
   else none
  | .object line acc =>
   if st.e = 0 ∧ acc = [] ∧ isR L st [125] = true then one (.mk 11 [] 0 line []) st.next
   else none
structure Fn where
 around : Int
 name : Bs
 params : Nat
 vars : List Bs
 mark : Int
structure WS where
 funs : List Fn
 mark : Int
def withN (l : List Bs) (s : Bs) : List Bs := if s ∈ l then l else l ++ [s]
def isFun (op : Int) : Bool := op == 41 || op == 10
mutual
def decl : Tr → List Bs → List Bs
 | .mk op s _ _ l, out =>
  let out := if op = 30 ∨ op = 35 ∨ op = 38 ∨ op = 41 then withN out s else out
  if isFun op then out else decls l out
def decls : List Tr → List Bs → List Bs
 | [], out => out
 | t :: r, out => decls r (decl t out)
end
def findN (funs : List Fn) : Nat → Int → Bs → Option Int
 | 0, _, _ => none
 | k + 1, a, s =>
  if a < 0 then none
  else match funs[a.toNat]? with
   | none => none
   | some f => match f.vars.idxOf? s with
    | some i => some (1000 * a + i)
    | none => findN funs k f.around s
def openF (op : Int) (s : Bs) (l : List Tr) (a m : Int) : Fn :=
 let ps := l.dropLast.foldl (fun o t => withN o t.s) []
 let own := if op = 10 ∧ s ≠ [] then withN ps s else ps
 ⟨a, s, ps.length, (match l.getLast? with | some b => decl b own | none => own), m⟩
def nodeE (op : Int) (s : Bs) (n line : Int) : Except (Int × Int) (List Tr × WS) → Except (Int × Int) (Tr × WS)
 | .error x => .error x
 | .ok (l', w') => .ok (.mk op s n line l', w')
mutual
def resT : Tr → Int → Bool → WS → Except (Int × Int) (Tr × WS)
 | .mk op s n line l, a, loop, w =>
  if isFun op then
   let f := openF op s l a w.mark
   if w.funs.length = 500 ∨ 200 < f.vars.length then .error (line, 52)
   else nodeE op s w.funs.length line (resL l w.funs.length false ⟨w.funs ++ [f], if w.funs.length = 0 then 4 else w.mark + 2⟩)
  else if op = 11 ∨ op = 15 ∨ op = 16 then
   nodeE op s w.mark line (resL l a loop ⟨w.funs, w.mark + 1⟩)
  else if op = 1 ∨ op = 30 ∨ op = 35 ∨ op = 38 then
   match findN w.funs w.funs.length a s with
   | none => .error (line, 50)
   | some v => nodeE op s v line (resL l a (loop || op == 35) w)
  else if (op = 36 ∧ a = 0) ∨ ((op = 39 ∨ op = 40) ∧ loop = false) then .error (line, 51)
  else nodeE op s n line (resL l a (loop || op == 34) w)
def resL : List Tr → Int → Bool → WS → Except (Int × Int) (List Tr × WS)
 | [], _, _, w => .ok ([], w)
 | t :: r, a, loop, w => match resT t a loop w with
  | .error x => .error x
  | .ok (t', w') => match resL r a loop w' with
   | .error x => .error x
   | .ok (r', w'') => .ok (t' :: r', w'')
end
theorem nodeE_ok {op : Int} {s : Bs} {n line : Int} {A : Except (Int × Int) (List Tr × WS)} {t : Tr} {w : WS} (h : nodeE op s n line A = .ok (t, w)) : ∃ l', A = .ok (l', w) ∧ t = .mk op s n line l' := by
 cases A with
 | error x => cases h
 | ok x => obtain ⟨l', w'⟩ := x; cases h; exact ⟨l', rfl, rfl⟩
def resolveT (p : Tr) : Except (Int × Int) (List Fn × Tr) :=
 match resT (.mk 41 [] 0 p.line [p]) (-1) false ⟨[], 0⟩ with
 | .error x => .error x
 | .ok (t, w) => .ok (w.funs, t.l.headD p)
section
section
variable (f : Bs → Bs)
def renS (op : Int) (s : Bs) : Bs := if op = 1 ∨ op = 30 ∨ op = 35 ∨ op = 38 ∨ op = 41 then f s else if op = 10 ∧ s ≠ [] then f s else s
mutual
def renT : Tr → Tr
 | .mk op s n line l => .mk op (renS f op s) n line (renL l)
def renL : List Tr → List Tr
 | [] => []
 | t :: r => renT t :: renL r
end
end
mutual
def PId : Tr → Prop
 | .mk op _ _ _ l => (isFun op = true → ∀ x ∈ l.dropLast, x.op = 1) ∧ PIds l
def PIds : List Tr → Prop
 | [] => True
 | t :: r => PId t ∧ PIds r
end
section
variable {f : Bs → Bs}
theorem withN_ren (hi : ∀ a b, f a = f b → a = b) (l : List Bs) (s : Bs) : withN (l.map f) (f s) = (withN l s).map f := by
 unfold withN
 have e : f s ∈ l.map f ↔ s ∈ l := by
  constructor
  ·intro h
   obtain ⟨x, hx, e⟩ := List.mem_map.1 h
   rw [← hi _ _ e]
   exact hx
  ·exact fun h => List.mem_map.2 ⟨s, h, rfl⟩
 by_cases h : s ∈ l
 ·rw [if_pos h, if_pos (e.2 h)]
 ·rw [if_neg h, if_neg (fun h' => h (e.1 h'))]
  simp
mutual
theorem decl_ren (hi : ∀ a b, f a = f b → a = b) : ∀ (t : Tr) (out : List Bs), decl (renT f t) (out.map f) = (decl t out).map f
 | .mk op s n line l, out => by
  simp only [renT, decl]
  have e : (if op = 30 ∨ op = 35 ∨ op = 38 ∨ op = 41 then withN (out.map f) (renS f op s) else out.map f) = (if op = 30 ∨ op = 35 ∨ op = 38 ∨ op = 41 then withN out s else out).map f := by
   split
   ·rename_i h
    have : renS f op s = f s := by unfold renS; rw [if_pos (by omega)]
    rw [this, withN_ren hi]
   ·rfl
  rw [e]
  split
  ·rfl
  ·exact decls_ren hi l _
theorem decls_ren (hi : ∀ a b, f a = f b → a = b) : ∀ (l : List Tr) (out : List Bs), decls (renL f l) (out.map f) = (decls l out).map f
 | [], _ => rfl
 | t :: r, out => by
  simp only [renL, decls]
  rw [decl_ren hi t out, decls_ren hi r _]
end
theorem idx_ren (hi : ∀ a b, f a = f b → a = b) (l : List Bs) (s : Bs) : (l.map f).idxOf? (f s) = l.idxOf? s := by
 unfold List.idxOf?
 rw [List.findIdx?_map]
 congr 1
 funext x
 show (f x == f s) = (x == s)
 by_cases h : x = s
 ·subst h; simp
 ·have : f x ≠ f s := fun e => h (hi _ _ e)
  exact (beq_eq_false_iff_ne.2 this).trans (beq_eq_false_iff_ne.2 h).symm
def key (x : Fn) : Int × Nat × List Bs × Int := (x.around, x.params, x.vars, x.mark)
def keyR (f : Bs → Bs) (x : Fn) : Int × Nat × List Bs × Int := (x.around, x.params, x.vars.map f, x.mark)
def RelW (f : Bs → Bs) (w w' : WS) : Prop := w'.funs.map key = w.funs.map (keyR f) ∧ w'.mark = w.mark
theorem RelW.len {w w' : WS} (h : RelW f w w') : w'.funs.length = w.funs.length := by
 have := congrArg List.length h.1
 simpa using this
theorem RelW.get {w w' : WS} (h : RelW f w w') (i : Nat) : (w'.funs[i]?).map key = (w.funs[i]?).map (keyR f) := by
 have := congrArg (fun l => l[i]?) h.1
 simpa using this
theorem findN_ren (hi : ∀ a b, f a = f b → a = b) {w w' : WS} (h : RelW f w w') (s : Bs) : ∀ (k : Nat) (a : Int), findN w'.funs k a (f s) = findN w.funs k a s
 | 0, _ => rfl
 | k + 1, a => by
  unfold findN
  split
  ·rfl
  ·have hg := h.get a.toNat
   cases e : w.funs[a.toNat]? with
   | none =>
    rw [e] at hg
    cases e' : w'.funs[a.toNat]? with
    | none => rfl
    | some y => rw [e'] at hg; simp at hg
   | some x =>
    rw [e] at hg
    cases e' : w'.funs[a.toNat]? with
    | none => rw [e'] at hg; simp at hg
    | some y =>
     rw [e'] at hg
     simp only [Option.map_some, Option.some.injEq, key, keyR, Prod.mk.injEq] at hg
     simp only [hg.2.2.1, idx_ren hi, hg.1]
     cases x.vars.idxOf? s with
     | none => exact findN_ren hi h s k _
     | some j => rfl
theorem renL_map : ∀ l : List Tr, renL f l = l.map (renT f)
 | [] => rfl
 | t :: r => by simp [renL, renL_map r]
theorem renT_s (t : Tr) (h : t.op = 1) : (renT f t).s = f t.s := by
 cases t
 simp at h
 subst h
 simp [renT, renS]
theorem fold_ren (hi : ∀ a b, f a = f b → a = b) : ∀ (l : List Tr) (out : List Bs), (∀ x ∈ l, x.op = 1) → (l.map (renT f)).foldl (fun o t => withN o t.s) (out.map f) = (l.foldl (fun o t => withN o t.s) out).map f
 | [], _, _ => rfl
 | t :: r, out, h => by
  rw [List.map_cons, List.foldl_cons, List.foldl_cons, renT_s t (h t (List.mem_cons_self ..)), withN_ren hi]
  exact fold_ren hi r _ (fun x hx => h x (List.mem_cons_of_mem _ hx))
theorem openF_ren (hi : ∀ a b, f a = f b → a = b) (hn : ∀ a, f a ≠ []) (op : Int) (s : Bs) (l : List Tr) (a m : Int) (hp : ∀ x ∈ l.dropLast, x.op = 1) : key (openF op (renS f op s) (renL f l) a m) = keyR f (openF op s l a m) := by
 have e1 : (renL f l).dropLast.foldl (fun o t => withN o t.s) [] = (l.dropLast.foldl (fun o t => withN o t.s) []).map f := by
  rw [renL_map, ← List.map_dropLast]
  exact fold_ren hi l.dropLast [] hp
 have e2 : (renL f l).getLast? = l.getLast?.map (renT f) := by rw [renL_map, List.getLast?_map]
 unfold openF
 simp only [e1, e2]
 generalize l.dropLast.foldl (fun o t => withN o t.s) [] = ps
 have e3 : (if op = 10 ∧ renS f op s ≠ [] then withN (ps.map f) (renS f op s) else ps.map f) = (if op = 10 ∧ s ≠ [] then withN ps s else ps).map f := by
  by_cases h : op = 10 ∧ s ≠ []
  ·have : renS f op s = f s := by unfold renS; rw [if_neg (by omega), if_pos h]
   rw [this, if_pos ⟨h.1, hn s⟩, if_pos h, withN_ren hi]
  ·by_cases h10 : op = 10
   ·have hs : s = [] := by
     by_cases hs : s = []
     ·exact hs
     ·exact absurd ⟨h10, hs⟩ h
    subst hs
    have : renS f op [] = [] := by unfold renS; rw [if_neg (by omega), if_neg (by simp)]
    rw [this]
    simp
   ·rw [if_neg (fun h' => h10 h'.1), if_neg h]
 rw [e3]
 cases l.getLast? with
 | none => simp [key, keyR]
 | some b => simp [key, keyR, decl_ren hi]
def FitT (f : Bs → Bs) : Except (Int × Int) (Tr × WS) → Except (Int × Int) (Tr × WS) → Prop
 | .ok (t, w), .ok (t', w') => t' = renT f t ∧ RelW f w w'
 | .error x, .error y => x = y
 | _, _ => False
def FitL (f : Bs → Bs) : Except (Int × Int) (List Tr × WS) → Except (Int × Int) (List Tr × WS) → Prop
 | .ok (t, w), .ok (t', w') => t' = renL f t ∧ RelW f w w'
 | .error x, .error y => x = y
 | _, _ => False
theorem fit_node {A B : Except (Int × Int) (List Tr × WS)} (h : FitL f A B) (op : Int) (s : Bs) (n line : Int) : FitT f (nodeE op s n line A) (nodeE op (renS f op s) n line B) := by
 cases A with
 | error x =>
  cases B with
  | error y => exact h
  | ok y => exact h.elim
 | ok x =>
  cases B with
  | error y => exact h.elim
  | ok y => exact ⟨by rw [h.1, renT], h.2⟩
mutual
theorem resT_ren (hi : ∀ a b, f a = f b → a = b) (hn : ∀ a, f a ≠ []) : ∀ (t : Tr) (a : Int) (loop : Bool) (w w' : WS), PId t → RelW f w w' → FitT f (resT t a loop w) (resT (renT f t) a loop w')
 | .mk op s n line l, a, loop, w, w', hp, hr => by
  rw [PId] at hp
  simp only [renT, resT]
  split
  ·rename_i hf
   have hk := openF_ren hi hn op s l a w.mark (hp.1 hf)
   rw [hr.2, hr.len]
   have hv : (openF op (renS f op s) (renL f l) a w.mark).vars.length = (openF op s l a w.mark).vars.length := by
    have := congrArg (fun z => z.2.2.1.length) hk
    simpa [key, keyR] using this
   rw [hv]
   split
   ·exact rfl
   ·refine fit_node (resL_ren hi hn l w.funs.length false ⟨w.funs ++ [openF op s l a w.mark], if w.funs.length = 0 then 4 else w.mark + 2⟩ ⟨w'.funs ++ [openF op (renS f op s) (renL f l) a w.mark], if w.funs.length = 0 then 4 else w.mark + 2⟩ hp.2 ⟨?_, rfl⟩) op s w.funs.length line
    simp only [List.map_append, List.map_cons, List.map_nil, hr.1, hk]
  ·split
   ·rw [hr.2]
    exact fit_node (resL_ren hi hn l _ _ ⟨w.funs, w.mark + 1⟩ ⟨w'.funs, w.mark + 1⟩ hp.2 ⟨hr.1, rfl⟩) op s _ line
   ·split
    ·rename_i ho
     have hs : renS f op s = f s := by unfold renS; rw [if_pos (by omega)]
     have e := findN_ren hi hr s w.funs.length a
     rw [hs, hr.len, e]
     cases findN w.funs w.funs.length a s with
     | none => exact rfl
     | some v =>
      simp only
      rw [← hs]
      exact fit_node (resL_ren hi hn l _ _ _ _ hp.2 hr) op s _ line
    ·split
     ·exact rfl
     ·exact fit_node (resL_ren hi hn l _ _ _ _ hp.2 hr) op s _ line
theorem resL_ren (hi : ∀ a b, f a = f b → a = b) (hn : ∀ a, f a ≠ []) : ∀ (l : List Tr) (a : Int) (loop : Bool) (w w' : WS), PIds l → RelW f w w' → FitL f (resL l a loop w) (resL (renL f l) a loop w')
 | [], _, _, _, _, _, hr => ⟨rfl, hr⟩
 | t :: r, a, loop, w, w', hp, hr => by
  rw [PIds] at hp
  simp only [renL, resL]
  have h1 := resT_ren hi hn t a loop w w' hp.1 hr
  revert h1
  cases resT t a loop w with
  | error x =>
   cases resT (renT f t) a loop w' with
   | error y => exact fun h => h
   | ok y => exact fun h => h.elim
  | ok x =>
   cases resT (renT f t) a loop w' with
   | error y => exact fun h => h.elim
   | ok y =>
    intro h1
    obtain ⟨t1, w1⟩ := x
    obtain ⟨t2, w2⟩ := y
    have h2 := resL_ren hi hn r a loop w1 w2 hp.2 h1.2
    simp only
    revert h2
    cases resL r a loop w1 with
    | error x =>
     cases resL (renL f r) a loop w2 with
     | error y => exact fun h => h
     | ok y => exact fun h => h.elim
    | ok x =>
     cases resL (renL f r) a loop w2 with
     | error y => exact fun h => h.elim
     | ok y => exact fun h => ⟨by rw [h1.1, h.1, renL], h.2⟩
end
end
end
mutual
def chkT (F : List Fn) : Tr → Int → Option Int
 | .mk op _ n _ l, next =>
  if isFun op then (if 1 ≤ n ∧ n < F.length ∧ (F[n.toNat]?).map Fn.mark = some next then chkL F l (next + 2) else none)
  else if op = 11 ∨ op = 15 ∨ op = 16 then (if n = next then chkL F l (next + 1) else none)
  else chkL F l next
def chkL (F : List Fn) : List Tr → Int → Option Int
 | [], next => some next
 | t :: r, next => match chkT F t next with
  | none => none
  | some k => chkL F r k
end
def Adds (w w' : WS) (chk : List Fn → Option Int) : Prop := (∃ more, w'.funs = w.funs ++ more) ∧ ∀ m, chk (w'.funs ++ m) = some w'.mark
mutual
theorem resT_marks : ∀ (t : Tr) (a : Int) (loop : Bool) (w : WS) (t' : Tr) (w' : WS), resT t a loop w = .ok (t', w') → 0 < w.funs.length → Adds w w' (fun F => chkT F t' w.mark)
 | .mk op s n line l, a, loop, w, t', w', h, h0 => by
  unfold resT at h
  split at h
  ·rename_i hf
   simp only at h
   split at h
   ·cases h
   ·obtain ⟨l', hL, rfl⟩ := nodeE_ok h
    rw [if_neg (by omega)] at hL
    obtain ⟨⟨more, e⟩, h2⟩ := resL_marks l _ _ _ _ _ hL (by simp)
    refine ⟨⟨_, by rw [e, List.append_assoc]⟩, fun m => ?_⟩
    have hm : (w'.funs ++ m)[w.funs.length]? = some (openF op s l a w.mark) := by
     rw [e]
     simp
    have hl : w.funs.length < (w'.funs ++ m).length := (List.getElem?_eq_some_iff.1 hm).1
    simp only [chkT]
    rw [if_pos hf, if_pos ⟨by omega, by omega, by rw [Int.toNat_natCast, hm]; rfl⟩]
    exact h2 m
  ·rename_i hf
   split at h
   ·rename_i ho
    obtain ⟨l', hL, rfl⟩ := nodeE_ok h
    obtain ⟨h1, h2⟩ := resL_marks l _ _ _ _ _ hL h0
    refine ⟨h1, fun m => ?_⟩
    simp only [chkT]
    rw [if_neg hf, if_pos ho, if_pos trivial]
    exact h2 m
   ·rename_i ho
    split at h
    ·split at h
     ·cases h
     ·obtain ⟨l', hL, rfl⟩ := nodeE_ok h
      obtain ⟨h1, h2⟩ := resL_marks l _ _ _ _ _ hL h0
      refine ⟨h1, fun m => ?_⟩
      simp only [chkT]
      rw [if_neg hf, if_neg ho]
      exact h2 m
    ·split at h
     ·cases h
     ·obtain ⟨l', hL, rfl⟩ := nodeE_ok h
      obtain ⟨h1, h2⟩ := resL_marks l _ _ _ _ _ hL h0
      refine ⟨h1, fun m => ?_⟩
      simp only [chkT]
      rw [if_neg hf, if_neg ho]
      exact h2 m
theorem resL_marks : ∀ (l : List Tr) (a : Int) (loop : Bool) (w : WS) (l' : List Tr) (w' : WS), resL l a loop w = .ok (l', w') → 0 < w.funs.length → Adds w w' (fun F => chkL F l' w.mark)
 | [], _, _, w, l', w', h, _ => by
  unfold resL at h
  cases h
  exact ⟨⟨[], by simp⟩, fun m => rfl⟩
 | t :: r, a, loop, w, l', w', h, h0 => by
  unfold resL at h
  split at h
  ·cases h
  ·rename_i t1 w1 hT
   split at h
   ·cases h
   ·rename_i l1 w2 hL
    cases h
    obtain ⟨⟨m1, e1⟩, h1⟩ := resT_marks t _ _ _ _ _ hT h0
    obtain ⟨⟨m2, e2⟩, h2⟩ := resL_marks r _ _ _ _ _ hL (by rw [e1]; simp; omega)
    refine ⟨⟨m1 ++ m2, by rw [e2, e1, List.append_assoc]⟩, fun m => ?_⟩
    have q := h1 (m2 ++ m)
    rw [← List.append_assoc, ← e2] at q
    simp only [chkL, q]
    exact h2 m
end
section
open Go.RowKit
mutual
def declS : Tr → List Bs
 | .mk op s _ _ l => if op = 10 then [] else if op = 41 then [s] else (if op = 30 ∨ op = 35 ∨ op = 38 then [s] else []) ++ declSL l
def declSL : List Tr → List Bs
 | [] => []
 | t :: r => declS t ++ declSL r
end
mutual
theorem decl_eq : ∀ (t : Tr) (out : List Bs), decl t out = (declS t).foldl withN out
 | .mk op s n line l, out => by
  rw [decl, declS]
  by_cases h10 : op = 10
  ·subst h10
   simp [isFun]
  ·by_cases h41 : op = 41
   ·subst h41
    simp [isFun]
   ·have hf : isFun op = false := by simp [isFun, h10, h41]
    simp only [hf, h10, h41, if_false, or_false, Bool.false_eq_true]
    rw [decls_eq l, List.foldl_append]
    by_cases h : op = 30 ∨ op = 35 ∨ op = 38
    ·simp only [if_pos h]
     rfl
    ·simp only [if_neg h]
     rfl
theorem decls_eq : ∀ (l : List Tr) (out : List Bs), decls l out = (declSL l).foldl withN out
 | [], out => by rw [decls, declSL]; rfl
 | t :: r, out => by rw [decls, declSL, List.foldl_append, decl_eq t, decls_eq r]
end
theorem yieldAt_any {m m' : Nat} {P : Program} {l : Nat} {args : Array Value} {W : World} {R : Ending → World → Prop} (h : YieldAt Fence.wide m P l args W R) : YieldAt Fence.wide m' P l args W R := by
 obtain ⟨fn, tmps, assign, body, h1, h2, h3⟩ := h
 exact ⟨fn, tmps, assign, body, h1, h2, fun c cs _ => h3 c cs (room_wide _)⟩
end
end Go.Proofs.Ytbpodijcndglgaa
