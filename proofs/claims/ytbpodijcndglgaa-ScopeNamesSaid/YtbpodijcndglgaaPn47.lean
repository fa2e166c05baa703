/- Variables' numbers are of places that there are; functions are numbered. No program. What the functions of a resolved program are. No program. What scope's answers have in common with the program: bare, lined. No program. What is told of a whole program. No program. What the laws' loops go by. No program. What the law of lines goes by. No program. scope.Resolve, all its answers told alike. -/
import Derived.Test.YtbpodijcndglgaaPn46
set_option linter.unusedSimpArgs false
set_option linter.unusedVariables false
set_option maxRecDepth 100000
set_option maxHeartbeats 40000000
namespace Go.Proofs.Ytbpodijcndglgaa
theorem idx_some : ∀ (l : List Bs) (s : Bs) (i : Nat), l.idxOf? s = some i → l[i]? = some s := by
 intro l s i h
 unfold List.idxOf? at h
 obtain ⟨hl, h1, -⟩ := List.findIdx?_eq_some_iff_getElem.1 h
 rw [List.getElem?_eq_getElem hl]
 exact congrArg some (eq_of_beq h1)
theorem findN_some (funs : List Fn) (s : Bs) : ∀ (k : Nat) (a v : Int), findN funs k a s = some v → ∃ (j i : Nat) (f : Fn), v = 1000 * (j : Int) + (i : Int) ∧ funs[j]? = some f ∧ f.vars[i]? = some s
 | 0, _, _, h => by cases h
 | k + 1, a, v, h => by
  unfold findN at h
  split at h
  ·cases h
  ·split at h
   ·cases h
   ·rename_i f hf
    split at h
    ·rename_i i hi
     cases h
     exact ⟨a.toNat, i, f, by omega, hf, idx_some _ _ _ hi⟩
    ·exact findN_some funs s k _ v h
mutual
def okT (F : List Fn) : Tr → Prop
 | .mk op s n _ l => (op = 1 ∨ op = 30 ∨ op = 35 ∨ op = 38 → ∃ (j i : Nat) (f : Fn), n = 1000 * (j : Int) + (i : Int) ∧ F[j]? = some f ∧ f.vars[i]? = some s) ∧
  (isFun op = true → ∃ (j : Nat) (f : Fn), n = j ∧ 1 ≤ j ∧ F[j]? = some f ∧ f.name = s) ∧ okL F l
def okL (F : List Fn) : List Tr → Prop
 | [] => True
 | t :: r => okT F t ∧ okL F r
end
theorem get_more {F : List Fn} {m : List Fn} {j : Nat} {f : Fn} (h : F[j]? = some f) : (F ++ m)[j]? = some f := by
 rw [List.getElem?_append_left (List.getElem?_eq_some_iff.1 h).1]
 exact h
theorem fun_four {op : Int} (h : isFun op = true) : op = 41 ∨ op = 10 := by
 unfold isFun at h
 simpa using h
mutual
theorem resT_ok : ∀ (t : Tr) (a : Int) (loop : Bool) (w : WS) (t' : Tr) (w' : WS), resT t a loop w = .ok (t', w') → 0 < w.funs.length → (∃ more, w'.funs = w.funs ++ more) ∧ ∀ m, okT (w'.funs ++ m) t'
 | .mk op s n line l, a, loop, w, t', w', h, h0 => by
  unfold resT at h
  split at h
  ·rename_i hf
   have h4 := fun_four hf
   simp only at h
   split at h
   ·cases h
   ·obtain ⟨l', hL, rfl⟩ := nodeE_ok h
    obtain ⟨⟨more, e⟩, h2⟩ := resL_ok l _ _ _ _ _ hL (by simp)
    refine ⟨⟨_, by rw [e, List.append_assoc]⟩, fun m => ⟨fun ho => by omega, fun _ => ⟨w.funs.length, openF op s l a w.mark, rfl, by omega, ?_, rfl⟩, h2 m⟩⟩
    rw [e]
    simp
  ·rename_i hf
   split at h
   ·rename_i ho
    obtain ⟨l', hL, rfl⟩ := nodeE_ok h
    obtain ⟨h1, h2⟩ := resL_ok l _ _ _ _ _ hL h0
    exact ⟨h1, fun m => ⟨fun ho' => by omega, fun hf' => absurd hf' hf, h2 m⟩⟩
   ·split at h
    ·split at h
     ·cases h
     ·rename_i v hv
      obtain ⟨l', hL, rfl⟩ := nodeE_ok h
      obtain ⟨⟨more, e⟩, h2⟩ := resL_ok l _ _ _ _ _ hL h0
      obtain ⟨j, i, f, e1, e2, e3⟩ := findN_some _ _ _ _ _ hv
      exact ⟨⟨more, e⟩, fun m => ⟨fun _ => ⟨j, i, f, e1, by rw [e, List.append_assoc]; exact get_more e2, e3⟩, fun hf' => absurd hf' hf, h2 m⟩⟩
    ·rename_i ho
     split at h
     ·cases h
     ·obtain ⟨l', hL, rfl⟩ := nodeE_ok h
      obtain ⟨h1, h2⟩ := resL_ok l _ _ _ _ _ hL h0
      exact ⟨h1, fun m => ⟨fun ho' => absurd ho' ho, fun hf' => absurd hf' hf, h2 m⟩⟩
theorem resL_ok : ∀ (l : List Tr) (a : Int) (loop : Bool) (w : WS) (l' : List Tr) (w' : WS), resL l a loop w = .ok (l', w') → 0 < w.funs.length → (∃ more, w'.funs = w.funs ++ more) ∧ ∀ m, okL (w'.funs ++ m) l'
 | [], _, _, w, l', w', h, _ => by
  unfold resL at h
  cases h
  exact ⟨⟨[], by simp⟩, fun m => trivial⟩
 | t :: r, a, loop, w, l', w', h, h0 => by
  unfold resL at h
  split at h
  ·cases h
  ·rename_i t1 w1 hT
   split at h
   ·cases h
   ·rename_i l1 w2 hL
    cases h
    obtain ⟨⟨m1, e1⟩, h1⟩ := resT_ok t _ _ _ _ _ hT h0
    obtain ⟨⟨m2, e2⟩, h2⟩ := resL_ok r _ _ _ _ _ hL (by rw [e1]; simp; omega)
    refine ⟨⟨m1 ++ m2, by rw [e2, e1, List.append_assoc]⟩, fun m => ⟨?_, h2 m⟩⟩
    have q := h1 (m2 ++ m)
    rw [← List.append_assoc, ← e2] at q
    exact q
end
theorem withN_grow (l : List Bs) (s : Bs) : l.length ≤ (withN l s).length := by
 unfold withN
 split <;> simp
mutual
theorem decl_len : ∀ (t : Tr) (out : List Bs), out.length ≤ (decl t out).length
 | .mk op s n line l, out => by
  simp only [decl]
  have h1 : out.length ≤ (if op = 30 ∨ op = 35 ∨ op = 38 ∨ op = 41 then withN out s else out).length := by
   split
   ·exact withN_grow _ _
   ·exact Nat.le_refl _
  split
  ·exact h1
  ·exact Nat.le_trans h1 (decls_len l _)
theorem decls_len : ∀ (l : List Tr) (out : List Bs), out.length ≤ (decls l out).length
 | [], _ => Nat.le_refl _
 | t :: r, out => by
  simp only [decls]
  exact Nat.le_trans (decl_len t out) (decls_len r _)
end
theorem openF_params (op : Int) (s : Bs) (l : List Tr) (a m : Int) : (openF op s l a m).params ≤ (openF op s l a m).vars.length := by
 unfold openF
 simp only
 generalize l.dropLast.foldl (fun o t => withN o t.s) [] = ps
 have h1 : ps.length ≤ (if op = 10 ∧ s ≠ [] then withN ps s else ps).length := by
  split
  ·exact withN_grow _ _
  ·exact Nat.le_refl _
 cases l.getLast? with
 | none => exact h1
 | some b => exact Nat.le_trans h1 (decl_len b _)
def Inv (w : WS) : Prop := 4 ≤ w.mark ∧ ∀ (i : Nat) (f : Fn), w.funs[i]? = some f →
 f.around < i ∧ f.params ≤ f.vars.length ∧ f.vars.length ≤ 200 ∧ f.mark < w.mark ∧ (0 < i → 0 ≤ f.around ∧ 4 ≤ f.mark ∧ ∀ g, w.funs[i - 1]? = some g → g.mark < f.mark)
theorem Inv.bump {w : WS} (h : Inv w) (m : Int) (hm : w.mark ≤ m) : Inv ⟨w.funs, m⟩ :=
 ⟨Int.le_trans h.1 hm, fun i f hf => by
  obtain ⟨h1, h2, h3, h4, h5⟩ := h.2 i f hf
  exact ⟨h1, h2, h3, Int.lt_of_lt_of_le h4 hm, h5⟩⟩
theorem Inv.push {w : WS} (h : Inv w) (f : Fn) (h0 : 0 < w.funs.length) (ha : 0 ≤ f.around) (ha2 : f.around < w.funs.length) (hp : f.params ≤ f.vars.length) (hv : f.vars.length ≤ 200) (hm : f.mark = w.mark) : Inv ⟨w.funs ++ [f], w.mark + 2⟩ := by
 refine ⟨by have := h.1; simp; omega, fun i g hg => ?_⟩
 by_cases hi : i < w.funs.length
 ·simp only at hg
  rw [List.getElem?_append_left hi] at hg
  obtain ⟨h1, h2, h3, h4, h5⟩ := h.2 i g hg
  refine ⟨h1, h2, h3, by simp; omega, fun hi0 => ⟨(h5 hi0).1, (h5 hi0).2.1, fun q hq => ?_⟩⟩
  simp only at hq
  rw [List.getElem?_append_left (by omega)] at hq
  exact (h5 hi0).2.2 q hq
 ·simp only at hg
  rw [List.getElem?_append_right (by omega)] at hg
  have h1 := (List.getElem?_eq_some_iff.1 hg).1
  simp at h1
  obtain rfl : i = w.funs.length := by omega
  simp at hg
  subst hg
  refine ⟨ha2, hp, hv, by simp; omega, fun hi0 => ⟨ha, by rw [hm]; exact h.1, fun q hq => ?_⟩⟩
  simp only at hq
  rw [List.getElem?_append_left (by omega)] at hq
  rw [hm]
  exact (h.2 _ q hq).2.2.2.1
theorem len_more {w w' : WS} (h : ∃ more, w'.funs = w.funs ++ more) : w.funs.length ≤ w'.funs.length := by
 obtain ⟨m, e⟩ := h
 rw [e]
 simp
mutual
theorem resT_inv : ∀ (t : Tr) (a : Int) (loop : Bool) (w : WS) (t' : Tr) (w' : WS), resT t a loop w = .ok (t', w') → 0 ≤ a → a < w.funs.length → Inv w → Inv w'
 | .mk op s n line l, a, loop, w, t', w', h, ha, ha2, hI => by
  unfold resT at h
  split at h
  ·simp only at h
   split at h
   ·cases h
   ·rename_i hv
    obtain ⟨l', hL, rfl⟩ := nodeE_ok h
    rw [if_neg (by omega)] at hL
    exact resL_inv l _ _ _ _ _ hL (by omega) (by simp; omega) (hI.push _ (by omega) ha ha2 (openF_params ..) (by omega) rfl)
  ·split at h
   ·obtain ⟨l', hL, rfl⟩ := nodeE_ok h
    exact resL_inv l _ _ _ _ _ hL ha ha2 (hI.bump _ (by omega))
   ·split at h
    ·split at h
     ·cases h
     ·obtain ⟨l', hL, rfl⟩ := nodeE_ok h
      exact resL_inv l _ _ _ _ _ hL ha ha2 hI
    ·split at h
     ·cases h
     ·obtain ⟨l', hL, rfl⟩ := nodeE_ok h
      exact resL_inv l _ _ _ _ _ hL ha ha2 hI
theorem resL_inv : ∀ (l : List Tr) (a : Int) (loop : Bool) (w : WS) (l' : List Tr) (w' : WS), resL l a loop w = .ok (l', w') → 0 ≤ a → a < w.funs.length → Inv w → Inv w'
 | [], _, _, w, l', w', h, _, _, hI => by
  unfold resL at h
  cases h
  exact hI
 | t :: r, a, loop, w, l', w', h, ha, ha2, hI => by
  unfold resL at h
  split at h
  ·cases h
  ·rename_i t1 w1 hT
   split at h
   ·cases h
   ·rename_i l1 w2 hL
    cases h
    have h1 := len_more (resT_ok t _ _ _ _ _ hT (by omega)).1
    exact resL_inv r _ _ _ _ _ hL ha (by omega) (resT_inv t _ _ _ _ _ hT ha ha2 hI)
end
mutual
def bareT : Tr → Tr
 | .mk op s n line l => .mk op s (if op = 2 then n else 0) line (bareL l)
def bareL : List Tr → List Tr
 | [] => []
 | t :: r => bareT t :: bareL r
end
theorem fun_two {op : Int} (h : isFun op = true) : op ≠ 2 := by
 unfold isFun at h
 rintro rfl
 simp at h
mutual
theorem resT_bare : ∀ (t : Tr) (a : Int) (loop : Bool) (w : WS) (t' : Tr) (w' : WS), resT t a loop w = .ok (t', w') → bareT t' = bareT t
 | .mk op s n line l, a, loop, w, t', w', h => by
  unfold resT at h
  split at h
  ·rename_i hf
   have h2 := fun_two hf
   simp only at h
   split at h
   ·cases h
   ·obtain ⟨l', hL, rfl⟩ := nodeE_ok h
    simp [bareT, h2, resL_bare l _ _ _ _ _ hL]
  ·split at h
   ·rename_i ho
    have h2 : op ≠ 2 := by omega
    obtain ⟨l', hL, rfl⟩ := nodeE_ok h
    simp [bareT, h2, resL_bare l _ _ _ _ _ hL]
   ·split at h
    ·rename_i ho
     have h2 : op ≠ 2 := by omega
     split at h
     ·cases h
     ·obtain ⟨l', hL, rfl⟩ := nodeE_ok h
      simp [bareT, h2, resL_bare l _ _ _ _ _ hL]
    ·split at h
     ·cases h
     ·obtain ⟨l', hL, rfl⟩ := nodeE_ok h
      simp [bareT, resL_bare l _ _ _ _ _ hL]
theorem resL_bare : ∀ (l : List Tr) (a : Int) (loop : Bool) (w : WS) (l' : List Tr) (w' : WS), resL l a loop w = .ok (l', w') → bareL l' = bareL l
 | [], _, _, _, l', w', h => by
  unfold resL at h
  cases h
  rfl
 | t :: r, a, loop, w, l', w', h => by
  unfold resL at h
  split at h
  ·cases h
  ·rename_i hT
   split at h
   ·cases h
   ·rename_i hL
    cases h
    simp [bareL, resT_bare t _ _ _ _ _ hT, resL_bare r _ _ _ _ _ hL]
end
def rootF (p : Tr) : Fn := openF 41 [] [p] (-1) 0
theorem root_vars (p : Tr) : (rootF p).vars = decl p [] ∧ (rootF p).around = -1 ∧ (rootF p).params = 0 ∧ (rootF p).mark = 0 ∧ (rootF p).name = [] := ⟨rfl, rfl, rfl, rfl, rfl⟩
theorem resolve_eq (p : Tr) : resolveT p = if 200 < (decl p []).length then .error (p.line, 52) else match resT p 0 false ⟨[rootF p], 4⟩ with
  | .error x => .error x
  | .ok (q, w) => .ok (w.funs, q) := by
 unfold resolveT
 have e : resT (.mk 41 [] 0 p.line [p]) (-1) false ⟨[], 0⟩ = if 200 < (decl p []).length then .error (p.line, 52) else nodeE 41 [] 0 p.line (resL [p] 0 false ⟨[rootF p], 4⟩) := by
  rw [resT]
  rw [if_pos (show isFun 41 = true from rfl)]
  simp only
  by_cases h : 200 < (decl p []).length
  ·rw [if_pos (.inr h), if_pos h]
  ·rw [if_neg (fun h' => by
    rcases h' with h' | h'
    ·simp at h'
    ·exact h h'), if_neg h]
   rfl
 rw [e]
 by_cases h : 200 < (decl p []).length
 ·rw [if_pos h, if_pos h]
 ·rw [if_neg h, if_neg h]
  simp only [resL]
  cases resT p 0 false ⟨[rootF p], 4⟩ with
  | error x => rfl
  | ok x => rfl
theorem root_inv (p : Tr) (h : ¬ 200 < (decl p []).length) : Inv ⟨[rootF p], 4⟩ := by
 refine ⟨Int.le_refl _, fun i f hf => ?_⟩
 have hi := (List.getElem?_eq_some_iff.1 hf).1
 simp at hi
 subst hi
 simp at hf
 subst hf
 exact ⟨by rw [(root_vars p).2.1]; decide, Nat.zero_le _, by rw [(root_vars p).1]; omega, by rw [(root_vars p).2.2.2.1]; exact (show (0 : Int) < 4 by decide), fun h' => by omega⟩
theorem resolve_told {p q : Tr} {F : List Fn} (h : resolveT p = .ok (F, q)) : bareT q = bareT p ∧ okT F q ∧ (∃ m, chkT F q 4 = some m ∧ Inv ⟨F, m⟩) := by
 rw [resolve_eq] at h
 split at h
 ·cases h
 ·rename_i hv
  split at h
  ·cases h
  ·rename_i q1 w hr
   cases h
   have h1 := resT_bare p _ _ _ _ _ hr
   have h2 := (resT_ok p _ _ _ _ _ hr (by simp)).2 []
   have h3 := (resT_marks p _ _ _ _ _ hr (by simp)).2 []
   rw [List.append_nil] at h2 h3
   exact ⟨h1, h2, w.mark, h3, resT_inv p _ _ _ _ _ hr (by decide) (by simp) (root_inv p hv)⟩
mutual
theorem bare_size : ∀ t : Tr, (bareT t).size = t.size
 | .mk op s n i l => by rw [bareT, Tr.size, Tr.size, bare_sizes l]
theorem bare_sizes : ∀ l : List Tr, sizes (bareL l) = sizes l
 | [] => by rw [bareL]
 | t :: r => by rw [bareL, sizes, sizes, bare_size t, bare_sizes r]
end
theorem resolve_size {p q : Tr} {F : List Fn} (h : resolveT p = .ok (F, q)) : q.size = p.size := by
 rw [← bare_size q, (resolve_told h).1, bare_size p]
def resOut (t : Tr) : List Fn × Tr × Int × Int :=
 if rightP t = true then match resolveT t with
  | .error (l, e) => ([], Tr.zero, l, e)
  | .ok (F, q) => (F, q, 0, 0)
 else ([], Tr.zero, 0, 30)
theorem resOut_size (t : Tr) (h : t.size ≤ 1500) : (resOut t).2.1.size ≤ 1500 := by
 unfold resOut
 split
 ·split
  ·show Tr.zero.size ≤ 1500
   decide
  ·rename_i F q h9
   rw [resolve_size h9]
   exact h
 ·show Tr.zero.size ≤ 1500
  decide
section
open Go.RowKit Go.Proofs
theorem TreeAt.of_at {w : World} {t : Tr} {v : Value} (h : At w w.heap.size t v) : TreeAt w (fun k => k < w.heap.size) t v := by
 obtain ⟨x, h1, h2, h3⟩ := Lo.of_at t h
 exact ⟨x, h1, h2, h3⟩
theorem resout_any (t : Tr) (v : Value) (W : World) (S : Nat → Prop) (hT : TreeAt W S t v) (hS : ∀ k, S k → k < W.heap.size) (hz : t.size ≤ 40000) :
  Calls Try.prog 8 #[v] W fun e W' => ∃ fv qv, e = .returned (.tuple #[fv, qv, .int .i64 (resOut t).2.2.1, .int .i64 (resOut t).2.2.2]) ∧ FunsV W' W.heap.size fv (resOut t).1 ∧ TreeAt W' (New W W') (resOut t).2.1 qv ∧ Below W.heap.size W W' := by
 refine (scres_any t v W S hT hS hz).mono ?_
 rintro e W' ⟨hb, h⟩
 unfold resOut
 by_cases hr : rightP t = true
 ·rw [if_pos hr] at h
  rw [if_pos hr]
  cases hrs : resolveT t with
  | error x =>
   obtain ⟨l, er⟩ := x
   rw [hrs] at h
   exact ⟨_, _, h, ⟨[], rfl, World.ownsRow_nil _ _ _ _, fun q hq => by cases hq⟩, TreeAt.zero _ _, hb⟩
  | ok x =>
   obtain ⟨F, q⟩ := x
   rw [hrs] at h
   obtain ⟨fv, qv, h1, h2, h3⟩ := h
   exact ⟨fv, qv, h1, h2, h3, hb⟩
 ·rw [if_neg hr] at h
  rw [if_neg hr]
  exact ⟨_, _, h, ⟨[], rfl, World.ownsRow_nil _ _ _ _, fun q hq => by cases hq⟩, TreeAt.zero _ _, hb⟩
end
end Go.Proofs.Ytbpodijcndglgaa
