/- Variables' numbers are of places that there are; functions are numbered. No program. What the functions of a resolved program are. No program. What scope's answers have in common with the program: bare, lined. No program. Names that are written otherwise, all alike, resolve to the same. No program. What is told of a whole program. No program. What the laws' loops go by. No program. What the law of lines goes by. No program. scope.Resolve, all its answers told alike. gumshoeref04.SameAt at one tree twice. -/
import Derived.StillTailTactics
import Derived.Test.YtbpodijcndglgaaPr42
set_option linter.unusedSimpArgs false
set_option linter.unusedVariables false
set_option maxRecDepth 100000
set_option maxHeartbeats 4000000
namespace Go.Proofs.Ytbpodijcndglgaa
theorem idx_some : ∀ (l : List Bs) (s : Bs) (i : Nat), l.idxOf? s = some i → l[i]? = some s := by
 intro l s i h
 unfold List.idxOf? at h
 obtain ⟨hl, h1, -⟩ := List.findIdx?_eq_some_iff_getElem.1 h
 rw [List.getElem?_eq_getElem hl]
 exact congrArg some (eq_of_beq h1)
theorem findN_some (funs : List Fn) (s : Bs) : ∀ (k : Nat) (a v : Int), findN funs k a s = some v → ∃ (j i : Nat) (f : Fn), v = 1000 * (j : Int) + (i : Int) ∧ funs[j]? = some f ∧ f.vars[i]? = some s
 | 0, _, _, h => by cases h
 | k + 1, a, v, h => by
  unfold findN at h
  split at h
  ·cases h
  ·split at h
   ·cases h
   ·rename_i f hf
    split at h
    ·rename_i i hi
     cases h
     exact ⟨a.toNat, i, f, by omega, hf, idx_some _ _ _ hi⟩
    ·exact findN_some funs s k _ v h
mutual
def okT (F : List Fn) : Tr → Prop
 | .mk op s n _ l => (op = 1 ∨ op = 30 ∨ op = 35 ∨ op = 38 → ∃ (j i : Nat) (f : Fn), n = 1000 * (j : Int) + (i : Int) ∧ F[j]? = some f ∧ f.vars[i]? = some s) ∧
  (isFun op = true → ∃ (j : Nat) (f : Fn), n = j ∧ 1 ≤ j ∧ F[j]? = some f ∧ f.name = s) ∧ okL F l
def okL (F : List Fn) : List Tr → Prop
 | [] => True
 | t :: r => okT F t ∧ okL F r
end
theorem get_more {F : List Fn} {m : List Fn} {j : Nat} {f : Fn} (h : F[j]? = some f) : (F ++ m)[j]? = some f := by
 rw [List.getElem?_append_left (List.getElem?_eq_some_iff.1 h).1]
 exact h
theorem fun_four {op : Int} (h : isFun op = true) : op = 41 ∨ op = 10 := by
 unfold isFun at h
 simpa using h
mutual
theorem resT_ok : ∀ (t : Tr) (a : Int) (loop : Bool) (w : WS) (t' : Tr) (w' : WS), resT t a loop w = .ok (t', w') → 0 < w.funs.length → (∃ more, w'.funs = w.funs ++ more) ∧ ∀ m, okT (w'.funs ++ m) t'
 | .mk op s n line l, a, loop, w, t', w', h, h0 => by
  unfold resT at h
  split at h
  ·rename_i hf
   have h4 := fun_four hf
   simp only at h
   split at h
   ·cases h
   ·obtain ⟨l', hL, rfl⟩ := nodeE_ok h
    obtain ⟨⟨more, e⟩, h2⟩ := resL_ok l _ _ _ _ _ hL (by simp)
    refine ⟨⟨_, by rw [e, List.append_assoc]⟩, fun m => ⟨fun ho => by omega, fun _ => ⟨w.funs.length, openF op s l a w.mark, rfl, by omega, ?_, rfl⟩, h2 m⟩⟩
    rw [e]
    simp
  ·rename_i hf
   split at h
   ·rename_i ho
    obtain ⟨l', hL, rfl⟩ := nodeE_ok h
    obtain ⟨h1, h2⟩ := resL_ok l _ _ _ _ _ hL h0
    exact ⟨h1, fun m => ⟨fun ho' => by omega, fun hf' => absurd hf' hf, h2 m⟩⟩
   ·split at h
    ·split at h
     ·cases h
     ·rename_i v hv
      obtain ⟨l', hL, rfl⟩ := nodeE_ok h
      obtain ⟨⟨more, e⟩, h2⟩ := resL_ok l _ _ _ _ _ hL h0
      obtain ⟨j, i, f, e1, e2, e3⟩ := findN_some _ _ _ _ _ hv
      exact ⟨⟨more, e⟩, fun m => ⟨fun _ => ⟨j, i, f, e1, by rw [e, List.append_assoc]; exact get_more e2, e3⟩, fun hf' => absurd hf' hf, h2 m⟩⟩
    ·rename_i ho
     split at h
     ·cases h
     ·obtain ⟨l', hL, rfl⟩ := nodeE_ok h
      obtain ⟨h1, h2⟩ := resL_ok l _ _ _ _ _ hL h0
      exact ⟨h1, fun m => ⟨fun ho' => absurd ho' ho, fun hf' => absurd hf' hf, h2 m⟩⟩
theorem resL_ok : ∀ (l : List Tr) (a : Int) (loop : Bool) (w : WS) (l' : List Tr) (w' : WS), resL l a loop w = .ok (l', w') → 0 < w.funs.length → (∃ more, w'.funs = w.funs ++ more) ∧ ∀ m, okL (w'.funs ++ m) l'
 | [], _, _, w, l', w', h, _ => by
  unfold resL at h
  cases h
  exact ⟨⟨[], by simp⟩, fun m => trivial⟩
 | t :: r, a, loop, w, l', w', h, h0 => by
  unfold resL at h
  split at h
  ·cases h
  ·rename_i t1 w1 hT
   split at h
   ·cases h
   ·rename_i l1 w2 hL
    cases h
    obtain ⟨⟨m1, e1⟩, h1⟩ := resT_ok t _ _ _ _ _ hT h0
    obtain ⟨⟨m2, e2⟩, h2⟩ := resL_ok r _ _ _ _ _ hL (by rw [e1]; simp; omega)
    refine ⟨⟨m1 ++ m2, by rw [e2, e1, List.append_assoc]⟩, fun m => ⟨?_, h2 m⟩⟩
    have q := h1 (m2 ++ m)
    rw [← List.append_assoc, ← e2] at q
    exact q
end
theorem withN_grow (l : List Bs) (s : Bs) : l.length ≤ (withN l s).length := by
 unfold withN
 split <;> simp
mutual
theorem decl_len : ∀ (t : Tr) (out : List Bs), out.length ≤ (decl t out).length
 | .mk op s n line l, out => by
  simp only [decl]
  have h1 : out.length ≤ (if op = 30 ∨ op = 35 ∨ op = 38 ∨ op = 41 then withN out s else out).length := by
   split
   ·exact withN_grow _ _
   ·exact Nat.le_refl _
  split
  ·exact h1
  ·exact Nat.le_trans h1 (decls_len l _)
theorem decls_len : ∀ (l : List Tr) (out : List Bs), out.length ≤ (decls l out).length
 | [], _ => Nat.le_refl _
 | t :: r, out => by
  simp only [decls]
  exact Nat.le_trans (decl_len t out) (decls_len r _)
end
theorem openF_params (op : Int) (s : Bs) (l : List Tr) (a m : Int) : (openF op s l a m).params ≤ (openF op s l a m).vars.length := by
 unfold openF
 simp only
 generalize l.dropLast.foldl (fun o t => withN o t.s) [] = ps
 have h1 : ps.length ≤ (if op = 10 ∧ s ≠ [] then withN ps s else ps).length := by
  split
  ·exact withN_grow _ _
  ·exact Nat.le_refl _
 cases l.getLast? with
 | none => exact h1
 | some b => exact Nat.le_trans h1 (decl_len b _)
def Inv (w : WS) : Prop := 4 ≤ w.mark ∧ ∀ (i : Nat) (f : Fn), w.funs[i]? = some f →
 f.around < i ∧ f.params ≤ f.vars.length ∧ f.vars.length ≤ 200 ∧ f.mark < w.mark ∧ (0 < i → 0 ≤ f.around ∧ 4 ≤ f.mark ∧ ∀ g, w.funs[i - 1]? = some g → g.mark < f.mark)
theorem Inv.bump {w : WS} (h : Inv w) (m : Int) (hm : w.mark ≤ m) : Inv ⟨w.funs, m⟩ :=
 ⟨Int.le_trans h.1 hm, fun i f hf => by
  obtain ⟨h1, h2, h3, h4, h5⟩ := h.2 i f hf
  exact ⟨h1, h2, h3, Int.lt_of_lt_of_le h4 hm, h5⟩⟩
theorem Inv.push {w : WS} (h : Inv w) (f : Fn) (h0 : 0 < w.funs.length) (ha : 0 ≤ f.around) (ha2 : f.around < w.funs.length) (hp : f.params ≤ f.vars.length) (hv : f.vars.length ≤ 200) (hm : f.mark = w.mark) : Inv ⟨w.funs ++ [f], w.mark + 2⟩ := by
 refine ⟨by have := h.1; simp; omega, fun i g hg => ?_⟩
 by_cases hi : i < w.funs.length
 ·simp only at hg
  rw [List.getElem?_append_left hi] at hg
  obtain ⟨h1, h2, h3, h4, h5⟩ := h.2 i g hg
  refine ⟨h1, h2, h3, by simp; omega, fun hi0 => ⟨(h5 hi0).1, (h5 hi0).2.1, fun q hq => ?_⟩⟩
  simp only at hq
  rw [List.getElem?_append_left (by omega)] at hq
  exact (h5 hi0).2.2 q hq
 ·simp only at hg
  rw [List.getElem?_append_right (by omega)] at hg
  have h1 := (List.getElem?_eq_some_iff.1 hg).1
  simp at h1
  obtain rfl : i = w.funs.length := by omega
  simp at hg
  subst hg
  refine ⟨ha2, hp, hv, by simp; omega, fun hi0 => ⟨ha, by rw [hm]; exact h.1, fun q hq => ?_⟩⟩
  simp only at hq
  rw [List.getElem?_append_left (by omega)] at hq
  rw [hm]
  exact (h.2 _ q hq).2.2.2.1
theorem len_more {w w' : WS} (h : ∃ more, w'.funs = w.funs ++ more) : w.funs.length ≤ w'.funs.length := by
 obtain ⟨m, e⟩ := h
 rw [e]
 simp
mutual
theorem resT_inv : ∀ (t : Tr) (a : Int) (loop : Bool) (w : WS) (t' : Tr) (w' : WS), resT t a loop w = .ok (t', w') → 0 ≤ a → a < w.funs.length → Inv w → Inv w'
 | .mk op s n line l, a, loop, w, t', w', h, ha, ha2, hI => by
  unfold resT at h
  split at h
  ·simp only at h
   split at h
   ·cases h
   ·rename_i hv
    obtain ⟨l', hL, rfl⟩ := nodeE_ok h
    rw [if_neg (by omega)] at hL
    exact resL_inv l _ _ _ _ _ hL (by omega) (by simp; omega) (hI.push _ (by omega) ha ha2 (openF_params ..) (by omega) rfl)
  ·split at h
   ·obtain ⟨l', hL, rfl⟩ := nodeE_ok h
    exact resL_inv l _ _ _ _ _ hL ha ha2 (hI.bump _ (by omega))
   ·split at h
    ·split at h
     ·cases h
     ·obtain ⟨l', hL, rfl⟩ := nodeE_ok h
      exact resL_inv l _ _ _ _ _ hL ha ha2 hI
    ·split at h
     ·cases h
     ·obtain ⟨l', hL, rfl⟩ := nodeE_ok h
      exact resL_inv l _ _ _ _ _ hL ha ha2 hI
theorem resL_inv : ∀ (l : List Tr) (a : Int) (loop : Bool) (w : WS) (l' : List Tr) (w' : WS), resL l a loop w = .ok (l', w') → 0 ≤ a → a < w.funs.length → Inv w → Inv w'
 | [], _, _, w, l', w', h, _, _, hI => by
  unfold resL at h
  cases h
  exact hI
 | t :: r, a, loop, w, l', w', h, ha, ha2, hI => by
  unfold resL at h
  split at h
  ·cases h
  ·rename_i t1 w1 hT
   split at h
   ·cases h
   ·rename_i l1 w2 hL
    cases h
    have h1 := len_more (resT_ok t _ _ _ _ _ hT (by omega)).1
    exact resL_inv r _ _ _ _ _ hL ha (by omega) (resT_inv t _ _ _ _ _ hT ha ha2 hI)
end
mutual
def bareT : Tr → Tr
 | .mk op s n line l => .mk op s (if op = 2 then n else 0) line (bareL l)
def bareL : List Tr → List Tr
 | [] => []
 | t :: r => bareT t :: bareL r
end
theorem fun_two {op : Int} (h : isFun op = true) : op ≠ 2 := by
 unfold isFun at h
 rintro rfl
 simp at h
mutual
theorem resT_bare : ∀ (t : Tr) (a : Int) (loop : Bool) (w : WS) (t' : Tr) (w' : WS), resT t a loop w = .ok (t', w') → bareT t' = bareT t
 | .mk op s n line l, a, loop, w, t', w', h => by
  unfold resT at h
  split at h
  ·rename_i hf
   have h2 := fun_two hf
   simp only at h
   split at h
   ·cases h
   ·obtain ⟨l', hL, rfl⟩ := nodeE_ok h
    simp [bareT, h2, resL_bare l _ _ _ _ _ hL]
  ·split at h
   ·rename_i ho
    have h2 : op ≠ 2 := by omega
    obtain ⟨l', hL, rfl⟩ := nodeE_ok h
    simp [bareT, h2, resL_bare l _ _ _ _ _ hL]
   ·split at h
    ·rename_i ho
     have h2 : op ≠ 2 := by omega
     split at h
     ·cases h
     ·obtain ⟨l', hL, rfl⟩ := nodeE_ok h
      simp [bareT, h2, resL_bare l _ _ _ _ _ hL]
    ·split at h
     ·cases h
     ·obtain ⟨l', hL, rfl⟩ := nodeE_ok h
      simp [bareT, resL_bare l _ _ _ _ _ hL]
theorem resL_bare : ∀ (l : List Tr) (a : Int) (loop : Bool) (w : WS) (l' : List Tr) (w' : WS), resL l a loop w = .ok (l', w') → bareL l' = bareL l
 | [], _, _, _, l', w', h => by
  unfold resL at h
  cases h
  rfl
 | t :: r, a, loop, w, l', w', h => by
  unfold resL at h
  split at h
  ·cases h
  ·rename_i hT
   split at h
   ·cases h
   ·rename_i hL
    cases h
    simp [bareL, resT_bare t _ _ _ _ _ hT, resL_bare r _ _ _ _ _ hL]
end
section
section
variable {f : Bs → Bs}
def key (x : Fn) : Int × Nat × List Bs × Int := (x.around, x.params, x.vars, x.mark)
def keyR (f : Bs → Bs) (x : Fn) : Int × Nat × List Bs × Int := (x.around, x.params, x.vars.map f, x.mark)
def RelW (f : Bs → Bs) (w w' : WS) : Prop := w'.funs.map key = w.funs.map (keyR f) ∧ w'.mark = w.mark
theorem RelW.len {w w' : WS} (h : RelW f w w') : w'.funs.length = w.funs.length := by
 have := congrArg List.length h.1
 simpa using this
theorem RelW.get {w w' : WS} (h : RelW f w w') (i : Nat) : (w'.funs[i]?).map key = (w.funs[i]?).map (keyR f) := by
 have := congrArg (fun l => l[i]?) h.1
 simpa using this
end
end
def rootF (p : Tr) : Fn := openF 41 [] [p] (-1) 0
theorem root_vars (p : Tr) : (rootF p).vars = decl p [] ∧ (rootF p).around = -1 ∧ (rootF p).params = 0 ∧ (rootF p).mark = 0 ∧ (rootF p).name = [] := ⟨rfl, rfl, rfl, rfl, rfl⟩
theorem resolve_eq (p : Tr) : resolveT p = if 200 < (decl p []).length then .error (p.line, 52) else match resT p 0 false ⟨[rootF p], 4⟩ with
  | .error x => .error x
  | .ok (q, w) => .ok (w.funs, q) := by
 unfold resolveT
 have e : resT (.mk 41 [] 0 p.line [p]) (-1) false ⟨[], 0⟩ = if 200 < (decl p []).length then .error (p.line, 52) else nodeE 41 [] 0 p.line (resL [p] 0 false ⟨[rootF p], 4⟩) := by
  rw [resT]
  rw [if_pos (show isFun 41 = true from rfl)]
  simp only
  by_cases h : 200 < (decl p []).length
  ·rw [if_pos (.inr h), if_pos h]
  ·rw [if_neg (fun h' => by
    rcases h' with h' | h'
    ·simp at h'
    ·exact h h'), if_neg h]
   rfl
 rw [e]
 by_cases h : 200 < (decl p []).length
 ·rw [if_pos h, if_pos h]
 ·rw [if_neg h, if_neg h]
  simp only [resL]
  cases resT p 0 false ⟨[rootF p], 4⟩ with
  | error x => rfl
  | ok x => rfl
theorem root_inv (p : Tr) (h : ¬ 200 < (decl p []).length) : Inv ⟨[rootF p], 4⟩ := by
 refine ⟨Int.le_refl _, fun i f hf => ?_⟩
 have hi := (List.getElem?_eq_some_iff.1 hf).1
 simp at hi
 subst hi
 simp at hf
 subst hf
 exact ⟨by rw [(root_vars p).2.1]; decide, Nat.zero_le _, by rw [(root_vars p).1]; omega, by rw [(root_vars p).2.2.2.1]; exact (show (0 : Int) < 4 by decide), fun h' => by omega⟩
theorem resolve_told {p q : Tr} {F : List Fn} (h : resolveT p = .ok (F, q)) : bareT q = bareT p ∧ okT F q ∧ (∃ m, chkT F q 4 = some m ∧ Inv ⟨F, m⟩) := by
 rw [resolve_eq] at h
 split at h
 ·cases h
 ·rename_i hv
  split at h
  ·cases h
  ·rename_i q1 w hr
   cases h
   have h1 := resT_bare p _ _ _ _ _ hr
   have h2 := (resT_ok p _ _ _ _ _ hr (by simp)).2 []
   have h3 := (resT_marks p _ _ _ _ _ hr (by simp)).2 []
   rw [List.append_nil] at h2 h3
   exact ⟨h1, h2, w.mark, h3, resT_inv p _ _ _ _ _ hr (by decide) (by simp) (root_inv p hv)⟩
def resOut (t : Tr) : List Fn × Tr × Int × Int :=
 if rightP t = true then match resolveT t with
  | .error (l, e) => ([], Tr.zero, l, e)
  | .ok (F, q) => (F, q, 0, 0)
 else ([], Tr.zero, 0, 30)
theorem resOut_vars (t : Tr) : ∀ f ∈ (resOut t).1, f.vars.length ≤ 200 := by
 intro f hf
 unfold resOut at hf
 split at hf
 ·split at hf
  ·cases hf
  ·rename_i F q h
   obtain ⟨-, -, m, -, hI⟩ := resolve_told h
   obtain ⟨i, hi⟩ := List.mem_iff_getElem?.1 hf
   exact (hI.2 i f hi).2.2.1
 ·cases hf
section
open Go.RowKit Go.Proofs
theorem TreeAt.of_at {w : World} {t : Tr} {v : Value} (h : At w w.heap.size t v) : TreeAt w (fun k => k < w.heap.size) t v := by
 obtain ⟨x, h1, h2, h3⟩ := Lo.of_at t h
 exact ⟨x, h1, h2, h3⟩
theorem resout_any (t : Tr) (v : Value) (W : World) (S : Nat → Prop) (hT : TreeAt W S t v) (hS : ∀ k, S k → k < W.heap.size) (hz : t.size ≤ 40000) :
  Calls Try.prog 8 #[v] W fun e W' => ∃ fv qv, e = .returned (.tuple #[fv, qv, .int .i64 (resOut t).2.2.1, .int .i64 (resOut t).2.2.2]) ∧ FunsV W' W.heap.size fv (resOut t).1 ∧ TreeAt W' (New W W') (resOut t).2.1 qv ∧ Below W.heap.size W W' := by
 refine (scres_any t v W S hT hS hz).mono ?_
 rintro e W' ⟨hb, h⟩
 unfold resOut
 by_cases hr : rightP t = true
 ·rw [if_pos hr] at h
  rw [if_pos hr]
  cases hrs : resolveT t with
  | error x =>
   obtain ⟨l, er⟩ := x
   rw [hrs] at h
   exact ⟨_, _, h, ⟨[], rfl, World.ownsRow_nil _ _ _ _, fun q hq => by cases hq⟩, TreeAt.zero _ _, hb⟩
  | ok x =>
   obtain ⟨F, q⟩ := x
   rw [hrs] at h
   obtain ⟨fv, qv, h1, h2, h3⟩ := h
   exact ⟨fv, qv, h1, h2, h3, hb⟩
 ·rw [if_neg hr] at h
  rw [if_neg hr]
  exact ⟨_, _, h, ⟨[], rfl, World.ownsRow_nil _ _ _ _, fun q hq => by cases hq⟩, TreeAt.zero _ _, hb⟩
end
section
open Go.RowKit Go.Proofs
theorem sameat_self (a : Tr) : ∀ (b : Tr) (va vb : Value) (w : World), a = b → At w w.heap.size a va → At w w.heap.size b vb →
  Calls Try.prog 11 #[va, vb] w fun e w' => e = .returned (.bool true) ∧ Below w.heap.size w w' := by
 refine tree_ind (P := fun a => ∀ (b : Tr) (va vb : Value) (w : World), a = b → At w w.heap.size a va → At w w.heap.size b vb → Calls Try.prog 11 #[va, vb] w fun e w' => e = .returned (.bool true) ∧ Below w.heap.size w w') ?_ a
 clear a
 intro a ih b va vb w heq ha hb
 have IH := Lib.hid ih
 clear ih
 rw [At_iff] at ha hb
 obtain ⟨ua, rfl, ⟨A, ca, rfl, hca, ha⟩, hsa⟩ := ha
 obtain ⟨ub, rfl, ⟨B, cb, rfl, hcb, hb⟩, hsb⟩ := hb
 have HA := Lib.hid ha
 have HB := Lib.hid hb
 subst heq
 have IH := Lib.hid (fun u (hu : u ∈ a.l) => IH.out u (size_part hu))
 have hpt : ∀ (k : Nat) x y, a.l[k]? = some x → a.l[k]? = some y → x = y := fun k x y hx hy => by rw [hx] at hy; exact Option.some.inj hy
 obtain ⟨la, ela⟩ : ∃ x, a.l = x := ⟨_, rfl⟩
 obtain ⟨lb, elb⟩ : ∃ x, la = x := ⟨_, rfl⟩
 have h4 : la.length = lb.length := by rw [elb]
 unfold nodeV
 rw [ela] at HA HB IH hca hcb hpt ⊢
 obtain ⟨len, el⟩ : ∃ k, la.length = k := ⟨_, rfl⟩
 have HL := Lib.hid el
 rw [el] at HA HB hca hcb ⊢
 obtain ⟨oa, eoa⟩ : ∃ x, a.op = x := ⟨_, rfl⟩
 obtain ⟨na, ena⟩ : ∃ x, a.n = x := ⟨_, rfl⟩
 obtain ⟨sa, esa⟩ : ∃ x, a.s = x := ⟨_, rfl⟩
 obtain ⟨ia, eia⟩ : ∃ x, a.line = x := ⟨_, rfl⟩
 obtain ⟨ib, eib⟩ : ∃ x, ia = x := ⟨_, rfl⟩
 rw [eoa, ena, esa, eia]
 have HLb := HL
 clear elb eib eoa ena esa eia ela h4 el hsa hsb ha hb
 have HPt := Lib.hid hpt
 have hca' := hca
 have hcb' := hcb
 unfold maxLen at hca' hcb'
 clear hpt hca hcb
 go_enter Try.func11, Try.ntmps11
 go_wp2
 obtain ⟨w2, hw2⟩ : ∃ x, ((w.alloc (.cells #[.int .i64 oa, .string (bs sa), .int .i64 na, .slice A len ca, .int .i64 ia] 24)).alloc (.cells #[.int .i64 oa, .string (bs sa), .int .i64 na, .slice B len cb, .int .i64 ia] 24)) = x := ⟨_, rfl⟩
 obtain ⟨hsz, hbel, c1, c2⟩ : w2.heap.size = w.heap.size + 2 ∧ Below w.heap.size w w2 ∧ w2.cell? ⟨w.heap.size, 3, none⟩ = some (.slice A len ca) ∧ w2.cell? ⟨w.heap.size + 1, 3, none⟩ = some (.slice B len cb) := by
  subst hw2
  refine ⟨by simp, ((Below.refl _ w).alloc (Nat.le_refl _) _).alloc (by simp) _, by go_simp, by go_simp⟩
 rw [hw2]
 clear hw2
 go_loopw [5] (fun i wr => ∃ k : Nat, k ≤ len ∧ i = .int .i64 k ∧ Below w2.heap.size w2 wr) (fun i _ => len - (intOf i).toNat)
 case atStart => exact ⟨0, Nat.zero_le _, rfl, Below.refl _ _⟩
 case round =>
  obtain ⟨k, hk, rfl, hB⟩ := hrel
  have d1 := (hB.cell (p := ⟨w.heap.size, 3, none⟩) (by simp; omega)).trans c1
  have d2 := (hB.cell (p := ⟨w.heap.size + 1, 3, none⟩) (by simp; omega)).trans c2
  have hbw := hbel.trans (hB.mono (by omega))
  by_cases hlt : k < len
  ·obtain ⟨ga, fa, rfl, hga, HA⟩ := HA.out (by have := HL.out; omega)
   obtain ⟨gb, fb, rfl, hgb, HB⟩ := HB.out (by have := HL.out; omega)
   obtain ⟨x, ex⟩ : ∃ x, la[k]? = some x := ⟨_, List.getElem?_eq_getElem (by rw [HL.out]; exact hlt)⟩
   obtain ⟨y, ey⟩ : ∃ x, la[k]? = some x := ⟨_, List.getElem?_eq_getElem (by rw [HLb.out]; exact hlt)⟩
   obtain ⟨vx, hx, x0, x1, x2, x3, x4⟩ := AtL.get la k x (AtL.keep (W' := wr) (n' := w.heap.size) la HA hga (Nat.le_refl _) fun _ hp => hbw.cell hp) ex
   obtain ⟨vy, hy, y0, y1, y2, y3, y4⟩ := AtL.get la k y (AtL.keep (W' := wr) (n' := w.heap.size) la HB hgb (Nat.le_refl _) fun _ hp => hbw.cell hp) ey
   have IHk := Lib.hid (IH.out x (List.mem_of_getElem? ex) y _ _ wr.drew (HPt.out k x y ex ey) (At.keep (n' := wr.heap.size) x hx (by have := hB.size; omega) fun _ _ => rfl) (At.keep (n' := wr.heap.size) y hy (by have := hB.size; omega) fun _ _ => rfl))
   clear HA HB hx hy ex ey
   go_wp2
   go_still_tail 10, (by kernel_rfl)
   change wpList _ _ _ _ _ wr.drew
   go_wp2_with (go_at_call 11; refine IHk.out.mono ?_; rintro e w' ⟨rfl, hb⟩)
   go_roundw
   case rel => exact ⟨k + 1, by omega, by go_num, hB.drew.trans (hb.mono hB.size)⟩
   case measure => simp [intOf]; omega
  ·obtain rfl : k = len := by omega
   go_wp2
   go_ret
   exact ⟨rfl, hbw⟩
end
end Go.Proofs.Ytbpodijcndglgaa
