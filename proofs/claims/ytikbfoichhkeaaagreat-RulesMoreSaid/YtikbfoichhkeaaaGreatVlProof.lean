import Derived.Laws.MakeOwn
import Derived.Deep.RegionHeldLaw
import Derived.Deep.RegionLaw
import Derived.Deep.DeepCutAuto
import Derived.BigQuiet
import Derived.Test.YtikbfoichhkeaaaGreatVn51
set_option linter.unusedSimpArgs false
set_option linter.unusedVariables false
namespace Go.Proofs.YtikbfoichhkeaaaGreat
open Go.RowKit Go.Proofs
theorem evR_eq (X : Cx) (t : Tr) (k : Nat) (p : Pl9) : evR X t k p = ⟨t, k, p⟩ :: evRL X t.op t.n t.l.length p t.l 0 (k + 1) := by cases t; rw [evR]; rfl
section
variable {R cp : Nat} {A : Option Addr} {L : List Tok} {st st1 : St} {w wa wk w' : World} {t : Tr} {l : List Tr} {v : Value} {B : Nat}
theorem append_nothing {P : Program} (base : Nat) (t ty e : TypeId) (i : TypeInfo) (size c : Nat) (ht : P.underlying t = some (.slice e)) (hi : P.info? e = some i)
    (v : Value) (n : Nat) (xs : List Value) (hown : w.ownsRow base e size v n xs) :
    (Builtin.append_ #[t, t] ty #[v, .slice none 0 c]).run P w = .ok v w := by
  rcases hown.2 with ⟨rfl, rfl⟩ | ⟨g, cap, cur, rfl, _, _, hnc, _⟩
  · simp [Builtin.append_, run_underlying ht, sizeOf, typeInfo, hi, Builtin.lenOf, Builtin.firstCells]
  · simp [Builtin.append_, run_underlying ht, sizeOf, typeInfo, hi, Builtin.lenOf, Builtin.firstCells, hnc, storeCells]
end
section
variable {R cp : Nat} {A : Option Addr} {L : List Tok} {st st1 : St} {w wa wk w' : World} {t : Tr} {l : List Tr} {v : Value} {B : Nat}
theorem cells_at {W : World} {S : Nat → Prop} {g : Nat} : ∀ (xs : List Lo) (off : Nat), LoAtL W S g off xs → ∀ j u, (xs.flatMap fun x => cellsT x.val)[j]? = some u → W.cell? ⟨g, off + j, none⟩ = some u
  | [], off, _, j, u, h => by simp at h
  | x :: r, off, h, j, u, hj => by
    rw [LoAtL_cons] at h
    obtain ⟨⟨-, h0, h1, h2, h3, h4⟩, hr⟩ := h
    rw [List.flatMap_cons, cellsT_val] at hj
    by_cases h5 : j < 5
    · rw [List.getElem?_append_left (by simpa using h5)] at hj
      match j, h5 with
      | 0, _ => cases hj; exact h0
      | 1, _ => cases hj; exact h1
      | 2, _ => cases hj; exact h2
      | 3, _ => cases hj; exact h3
      | 4, _ => cases hj; exact h4
    · rw [List.getElem?_append_right (by simp; omega)] at hj
      have := cells_at r (off + 5) hr (j - 5) u (by simpa using hj)
      have e : off + 5 + (j - 5) = off + j := by omega
      rwa [e] at this
end
section
variable {R cp : Nat} {A : Option Addr} {L : List Tok} {st st1 : St} {w wa wk w' : World} {t : Tr} {l : List Tr} {v : Value} {B : Nat}
end
section
variable {R cp : Nat} {A : Option Addr} {L : List Tok} {st st1 : St} {w wa wk w' : World} {t : Tr} {l : List Tr} {v : Value} {B : Nat} {S : Nat → Prop}
variable {P : Nat → Prop}
theorem AccP.pushL {ts : List Tr} {u : Value} (h : AccP P B w ts v) (hl : RowAt w (fun k => (P k ∧ k < w.heap.size) ∧ v.ownBlock ≠ some k) l u) (hn : ts.length + l.length ≤ 3000000) (hB : B ≤ w.heap.size) (ty : TypeId) :
    ∃ v' w', (Builtin.append_ #[22, 22] ty #[v, u]).run Tryz.prog w = .ok v' w' ∧
      (AccP P B w' (ts ++ l) v' ∧ Only (fun k => v.ownBlock = some k) w w' ∧ (∃ A' c', v' = .slice A' (ts.length + l.length) c') ∧ (v'.ownBlock = v.ownBlock ∨ v'.ownBlock = some w.heap.size)) := by
  obtain ⟨xs, rfl, h2, h3⟩ := id h
  obtain ⟨ys, rfl, A', c', rfl, ⟨hc1, hc2⟩, h4⟩ := hl
  have hyl : (trees ys).length = ys.length := by rw [trees_map, List.length_map]
  obtain ⟨i0, j0, j1, j2, j3⟩ := info_parts node_info
  by_cases h0 : ys = []
  · subst h0
    obtain ⟨A2, c2, e2, -, -⟩ := h.slice
    have hz : (trees xs ++ trees []) = trees xs := by rw [show trees [] = [] by rw [trees], List.append_nil]
    cases A' with
    | none =>
      refine ⟨v, w, append_nothing B 22 ty 24 i0 5 c' Tryz.underlying22 j0 v _ _ h2, ?_, Only.refl _ _, ⟨A2, c2, ?_⟩, .inl rfl⟩
      · rw [hz]; exact h
      · rw [e2]; simp [trees]
    | some a =>
      obtain ⟨v', w', r1, r2, r3, -, r5⟩ := run_append_own_at (P := Tryz.prog) w B 22 ty 24 i0 _ 5 64 Tryz.underlying22 j0 j1 j2 j3 rfl (by decide) v (trees xs).length _ h2 a 0 c' [] rfl (fun j u hj => by simp at hj) (by simp) (by unfold maxLen; omega) (by omega) hB
      have hon : Only (fun k => v.ownBlock = some k) w w' := Only.grown r3 fun k e => e
      refine ⟨v', w', r1, ⟨xs, hz.symm, by rw [hz]; simpa using r2, fun y hy => (h3 y hy).frame (fun k hk => ⟨⟨hk.1.1, by have := hon.size; omega⟩, fun e => ?_⟩) (fun k hk => hon.block k hk.1.2 hk.2)⟩, hon, ?_, r5⟩
      · rcases r5 with r5 | r5
        · exact hk.2 (r5 ▸ e)
        · rw [r5] at e
          have := hk.1.2
          simp at e
          omega
      · rcases r2.2 with ⟨e, h0⟩ | ⟨g, cap, cur, e, -⟩
        · exact ⟨none, 0, by rw [e]; have : (trees xs).length = 0 := by omega
                             rw [this]; simp [trees]⟩
        · exact ⟨some ⟨g, 0, none⟩, cap, by rw [e]; simp [trees]⟩
  · have hpos : 0 < ys.length := List.length_pos_iff.2 h0
    obtain ⟨g, off, rfl, hg, ha⟩ := h4 hpos
    have h5 : ∀ y ∈ ys, LoAt w (fun k => (P k ∧ k < w.heap.size) ∧ v.ownBlock ≠ some k) y := fun y hy => by
      have := LoAtL.part 0 ys ha (y, 0)
      refine this ?_
      have key : ∀ (zs : List Lo), y ∈ zs → (y, 0) ∈ loLevels 0 zs := by
        intro zs
        induction zs with
        | nil => intro h; cases h
        | cons z r ih =>
          intro h
          rw [loLevels_cons]
          rcases List.mem_cons.1 h with rfl | h
          · rw [lo_levels_eq]; exact List.mem_append_left _ (List.mem_cons_self ..)
          · exact List.mem_append_right _ (ih h)
      exact key ys hy
    have hflat : (ys.flatMap fun x => cellsT x.val).length = ys.length * 5 := by
      clear h5 ha hpos h0 hyl hn h4 hc1
      induction ys with
      | nil => rfl
      | cons y r ih => rw [List.flatMap_cons, List.length_append, ih, cellsT_val, List.length_cons]; simp; omega
    have hone : ∀ u ∈ (ys.flatMap fun x => cellsT x.val), u.oneCell' = true := fun u hu => by
      obtain ⟨y, hy, hu⟩ := List.mem_flatMap.1 hu
      exact (val_one ⟨y, rfl, rfl, h5 y hy⟩).1 u hu
    obtain ⟨v', w', r1, r2, r3, -, r5⟩ := run_append_own_at (P := Tryz.prog) w B 22 ty 24 i0 _ 5 64 Tryz.underlying22 j0 j1 j2 j3 rfl (by decide) v (trees xs).length _ h2 ⟨g, off, none⟩ ys.length c' (ys.flatMap fun x => cellsT x.val) hflat (fun j u hj => by
      have e : (⟨g, off, none⟩ : Addr).add j = ⟨g, off + j, none⟩ := by unfold Addr.add; split <;> simp_all
      rw [e]
      exact cells_at ys off ha j u hj) hone (by unfold maxLen; omega) (by omega) hB
    have hon : Only (fun k => v.ownBlock = some k) w w' := Only.grown r3 fun k e => e
    refine ⟨v', w', r1, ⟨xs ++ ys, by rw [trees_map, trees_map, trees_map, List.map_append], by rw [List.length_append, hyl, List.flatMap_append]; exact r2, fun y hy => ?_⟩, hon, ?_, r5⟩
    · have hnew : ∀ k, ((P k ∧ k < w.heap.size) ∧ v.ownBlock ≠ some k) → (P k ∧ k < w'.heap.size) ∧ v'.ownBlock ≠ some k := fun k hk => ⟨⟨hk.1.1, by have := hon.size; omega⟩, fun e => by
        rcases r5 with r5 | r5
        · exact hk.2 (r5 ▸ e)
        · rw [r5] at e
          have := hk.1.2
          simp at e
          omega⟩
      have hky : ∀ k, ((P k ∧ k < w.heap.size) ∧ v.ownBlock ≠ some k) → w'.heap[k]? = w.heap[k]? := fun k hk => hon.block k hk.1.2 hk.2
      rcases List.mem_append.1 hy with hy | hy
      · exact (h3 y hy).frame hnew hky
      · exact (h5 y hy).frame hnew hky
    · rcases r2.2 with ⟨-, h0⟩ | ⟨g, cap, cur, e, -⟩
      · omega
      · exact ⟨_, _, by rw [e, hyl]⟩
end
def xN : Tr := .mk 2 [] 1 0 []
def xT : Tr := .mk 31 [] 0 0 [xN]
def addT (t : Tr) : Tr := .mk t.op t.s t.n t.line (t.l ++ [xT])
theorem levelsL_app (k : Nat) : ∀ a b : List Tr, levelsL k (a ++ b) = levelsL k a ++ levelsL k b
  | [], b => by rw [levelsL_nil]; rfl
  | t :: r, b => by rw [List.cons_append, levelsL_cons, levelsL_cons, levelsL_app k r, List.append_assoc]
theorem right_add {t : Tr} (h : rightP t = true) (hz : t.l.length ≤ 5000) : rightP (addT t) = true := by
  unfold rightP soundT at h ⊢
  rw [Bool.and_eq_true] at h ⊢
  obtain ⟨h1, h2⟩ := h
  have e : t.op = 32 := by simpa [hasB] using h1
  refine ⟨h1, ?_⟩
  rw [levels_eq, List.all_cons, Bool.and_eq_true] at h2 ⊢
  obtain ⟨h2, h3⟩ := h2
  unfold goodB at h2
  rw [Bool.and_eq_true] at h2
  obtain ⟨g1, g2, g3, g4⟩ := (inv_32 e).1 h2.1
  refine ⟨?_, ?_⟩
  · unfold goodB
    rw [Bool.and_eq_true]
    refine ⟨(inv_32 (t := addT t) e).2 ⟨g1, g2, ?_, fun x hx => ?_⟩, h2.2⟩
    · show (t.l ++ [xT]).length ≤ _
      rw [List.length_append]
      simp
      omega
    · rcases List.mem_append.1 (show x ∈ t.l ++ [xT] from hx) with hx | hx
      · exact g4 x hx
      · obtain rfl := List.mem_singleton.1 hx
        unfold isS
        decide
  · show (levelsL 2 (t.l ++ [xT])).all goodB = true
    rw [levelsL_app, List.all_append, Bool.and_eq_true]
    exact ⟨h3, by decide⟩
theorem resL_add : ∀ (l : List Tr) (a : Int) (loop : Bool) (w : WS) (l' : List Tr) (w' : WS), resL l a loop w = .ok (l', w') → resL (l ++ [xT]) a loop w = .ok (l' ++ [xT], w')
  | [], a, loop, w, l', w', h => by
    rw [resL] at h
    cases h
    simp [resL, resT, xT, xN, nodeE, isFun]
  | t :: r, a, loop, w, l', w', h => by
    rw [resL] at h
    rw [List.cons_append, resL]
    split at h
    · cases h
    · split at h
      · cases h
      · rename_i hr
        cases h
        simp only [resL_add r _ _ _ _ _ hr]
        rfl
theorem decls_add : ∀ (l : List Tr) (out : List Bs), decls (l ++ [xT]) out = decls l out
  | [], out => by simp [decls, decl, xT, xN, isFun]
  | t :: r, out => by rw [List.cons_append, decls, decls, decls_add r]
theorem resolve_add {t q : Tr} {F : List Fn} (e : t.op = 32) (h : resolveT t = .ok (F, q)) : resolveT (addT t) = .ok (F, addT q) ∧ q.op = 32 := by
  have hd : decl (addT t) [] = decl t [] := by
    cases t with | mk o s n li l =>
    obtain rfl : o = 32 := e
    show decl (.mk 32 s n li (l ++ [xT])) [] = _
    rw [decl, decl, decls_add]
  have hrf : rootF (addT t) = rootF t := by
    show Fn.mk (-1) [] 0 (decl (addT t) []) 0 = Fn.mk (-1) [] 0 (decl t []) 0
    rw [hd]
  rw [resolve_eq] at h ⊢
  rw [hd, hrf]
  split at h
  · cases h
  · rename_i hv
    rw [if_neg hv]
    split at h
    · cases h
    · rename_i q' w' hr
      cases h
      cases t with | mk o s n li l =>
      obtain rfl : o = 32 := e
      have key : ∀ l2 : List Tr, resT (.mk 32 s n li l2) 0 false ⟨[rootF (.mk 32 s n li l)], 4⟩ = nodeE 32 s n li (resL l2 0 false ⟨[rootF (.mk 32 s n li l)], 4⟩) := fun l2 => by
        rw [resT]
        rw [if_neg (by decide), if_neg (by decide), if_neg (by decide), if_neg (by decide)]
        rfl
      rw [key] at hr
      obtain ⟨l', hL, rfl⟩ := nodeE_ok hr
      have h2 := resL_add l _ _ _ _ _ hL
      refine ⟨?_, rfl⟩
      rw [show addT (Tr.mk 32 s n li l) = Tr.mk 32 s n li (l ++ [xT]) from rfl, key, h2]
      rfl
def vsum : List Fn → Nat
  | [] => 0
  | f :: r => f.vars.length + vsum r
theorem vsum_app : ∀ a b : List Fn, vsum (a ++ b) = vsum a + vsum b
  | [], b => by simp [vsum]
  | f :: r, b => by rw [List.cons_append, vsum, vsum, vsum_app r]; omega
theorem laidF_sum : ∀ (l : List Fn) (s : Int), (laidF l s).2 = s + (vsum l + 3 * l.length : Nat)
  | [], s => by simp [laidF, vsum]
  | f :: r, s => by
    rw [laidF, vsum]
    show (laidF r (s + f.vars.length + 3)).2 = _
    rw [laidF_sum r, List.length_cons]
    omega
mutual
def own : Tr → Nat
  | .mk op _ _ _ l => 1 + if isFun op then 0 else owns l
def owns : List Tr → Nat
  | [] => 0
  | t :: r => own t + owns r
end
theorem own_pos (t : Tr) : 1 ≤ own t := by
  cases t with | mk o s n li l =>
  rw [own]
  omega
theorem owns_len : ∀ l : List Tr, l.length ≤ owns l
  | [] => Nat.zero_le _
  | t :: r => by
    have := own_pos t
    have := owns_len r
    rw [owns, List.length_cons]
    omega
theorem owns_last : ∀ (l : List Tr) (b : Tr), l.getLast? = some b → own b + l.length ≤ owns l + 1
  | [], b, h => by cases h
  | [t], b, h => by
    cases h
    show own t + 1 ≤ own t + 0 + 1
    omega
  | t :: u :: r, b, h => by
    have h1 := owns_last (u :: r) b (by rw [← h]; rfl)
    have h2 := own_pos t
    rw [owns, List.length_cons]
    omega
theorem withN_up (l : List Bs) (s : Bs) : (withN l s).length ≤ l.length + 1 := by
  unfold withN
  split
  · omega
  · rw [List.length_append]
    exact Nat.le_refl _
mutual
theorem decl_own : ∀ (t : Tr) (out : List Bs), (decl t out).length ≤ out.length + own t
  | .mk op s n li l, out => by
    rw [decl, own]
    have h1 : (if op = 30 ∨ op = 35 ∨ op = 38 ∨ op = 41 then withN out s else out).length ≤ out.length + 1 := by
      split
      · exact withN_up _ _
      · omega
    have h2 := decls_own l (if op = 30 ∨ op = 35 ∨ op = 38 ∨ op = 41 then withN out s else out)
    by_cases hf : isFun op = true
    · rw [if_pos hf, if_pos hf]
      exact h1
    · rw [if_neg hf, if_neg hf]
      omega
theorem decls_own : ∀ (l : List Tr) (out : List Bs), (decls l out).length ≤ out.length + owns l
  | [], out => by rw [decls]; omega
  | t :: r, out => by
    have h1 := decl_own t out
    have h2 := decls_own r (decl t out)
    rw [decls, owns]
    omega
end
theorem fold_up : ∀ (l : List Tr) (o : List Bs), (l.foldl (fun o t => withN o t.s) o).length ≤ o.length + l.length
  | [], o => Nat.le_refl _
  | t :: r, o => by
    have h1 := fold_up r (withN o t.s)
    have h2 := withN_up o t.s
    rw [List.foldl_cons, List.length_cons]
    omega
def owned (op : Int) (s : Bs) (l : List Tr) : List Bs := if op = 10 ∧ s ≠ [] then withN (l.dropLast.foldl (fun o t => withN o t.s) []) s else l.dropLast.foldl (fun o t => withN o t.s) []
theorem owned_up (op : Int) (s : Bs) (l : List Tr) : (owned op s l).length ≤ l.length - 1 + 1 := by
  have h1 := fold_up l.dropLast []
  have h2 : l.dropLast.length = l.length - 1 := List.length_dropLast
  have h3 : ([] : List Bs).length = 0 := rfl
  unfold owned
  split
  · have := withN_up (l.dropLast.foldl (fun o t => withN o t.s) []) s
    omega
  · omega
theorem open_own (op : Int) (s : Bs) (l : List Tr) (a m : Int) : (openF op s l a m).vars.length ≤ owns l + 2 := by
  have e : (openF op s l a m).vars = (match l.getLast? with | some b => decl b (owned op s l) | none => owned op s l) := rfl
  have h2 := owned_up op s l
  rw [e]
  cases hb : l.getLast? with
  | none =>
    have h4 : l = [] := List.getLast?_eq_none_iff.1 hb
    have h5 : l.length = 0 := by rw [h4]; rfl
    show (owned op s l).length ≤ _
    omega
  | some b =>
    have h4 := owns_last l b hb
    have h5 := decl_own b (owned op s l)
    have h6 : l ≠ [] := fun h => by rw [h] at hb; cases hb
    have h7 := List.length_pos_iff.2 h6
    show (decl b (owned op s l)).length ≤ _
    omega
mutual
theorem resT_sum : ∀ (t : Tr) (a : Int) (loop : Bool) (w : WS) (t' : Tr) (w' : WS), resT t a loop w = .ok (t', w') → vsum w'.funs + own t ≤ vsum w.funs + 3 * t.size
  | .mk op s n li l, a, loop, w, t', w', h => by
    have key : ∀ (k : Int) (b : Int) (lp : Bool) (w1 : WS), isFun op = false → vsum w1.funs = vsum w.funs → nodeE op s k li (resL l b lp w1) = .ok (t', w') → vsum w'.funs + own (.mk op s n li l) ≤ vsum w.funs + 3 * (Tr.mk op s n li l).size := fun k b lp w1 hf hw h => by
      obtain ⟨l', hL, rfl⟩ := nodeE_ok h
      have h1 := resL_sum l b lp w1 _ _ hL
      rw [own, Tr.size, if_neg (by rw [hf]; decide)]
      omega
    rw [resT] at h
    split at h
    · rename_i hf
      simp only at h
      split at h
      · cases h
      · obtain ⟨l', hL, rfl⟩ := nodeE_ok h
        have h1 := resL_sum l _ _ _ _ _ hL
        have h2 := open_own op s l a w.mark
        rw [vsum_app] at h1
        simp only [vsum] at h1
        rw [own, Tr.size, if_pos hf]
        omega
    · rename_i hf
      have hf' : isFun op = false := by simpa using hf
      split at h
      · exact key _ _ _ ⟨w.funs, w.mark + 1⟩ hf' rfl h
      · split at h
        · split at h
          · cases h
          · exact key _ _ _ w hf' rfl h
        · split at h
          · cases h
          · exact key _ _ _ w hf' rfl h
theorem resL_sum : ∀ (l : List Tr) (a : Int) (loop : Bool) (w : WS) (l' : List Tr) (w' : WS), resL l a loop w = .ok (l', w') → vsum w'.funs + owns l ≤ vsum w.funs + 3 * sizes l
  | [], a, loop, w, l', w', h => by
    rw [resL] at h
    cases h
    rw [owns, sizes_nil]
    omega
  | t :: r, a, loop, w, l', w', h => by
    rw [resL] at h
    split at h
    · cases h
    · rename_i t1 w1 ht
      split at h
      · cases h
      · rename_i r1 w2 hr
        cases h
        have h1 := resT_sum t _ _ _ _ _ ht
        have h2 := resL_sum r _ _ _ _ _ hr
        rw [owns, sizes_cons]
        omega
end
theorem resolve_sum {t q : Tr} {F : List Fn} (h : resolveT t = .ok (F, q)) : vsum F ≤ 3 * t.size := by
  rw [resolve_eq] at h
  split at h
  · cases h
  · split at h
    · cases h
    · rename_i q' w' hr
      cases h
      have h1 := resT_sum t _ _ _ _ _ hr
      have h2 := decl_own t []
      have h3 : vsum [rootF t] = (decl t []).length := rfl
      rw [h3] at h1
      simp only [List.length_nil] at h2
      omega
theorem size_add (t : Tr) : (addT t).size = t.size + 2 := by
  have h1 := size_eq (addT t)
  have h2 := size_eq t
  have h3 : sizes (addT t).l = sizes t.l + 2 := by
    show sizes (t.l ++ [xT]) = _
    rw [sizes_app]
    rfl
  omega
theorem sys_add {t : Tr} {F : List Fn} {q : Tr} (h : SysOK t F q) (hz : t.size ≤ 5000) : SysOK (addT t) F (addT q) ∧ (cxOf F (addT q)).sets = (cxOf F q).sets + 2 ∧ q.op = 32 := by
  have e : t.op = 32 := by
    have := h.right
    unfold rightP at this
    rw [Bool.and_eq_true] at this
    simpa [hasB] using this.1
  obtain ⟨h1, h2⟩ := resolve_add e h.res
  have hs := resolve_sum h.res
  have hqz := resolve_size h.res
  have hc := cx_ok h.res (by omega)
  have hla := size_add q
  have hsz := size_add t
  have hll := length_le_sizes t.l
  have hse := size_eq t
  have hse2 : (cxOf F (addT q)).sets = (cxOf F q).sets + 2 := by
    show (laidF F (addT q).size).2 + 9 = (laidF F q.size).2 + 9 + 2
    rw [laidF_sum, laidF_sum, hla]
    omega
  have hfew : (cxOf F q).sets ≤ 30000 := by
    show (laidF F q.size).2 + 9 ≤ _
    rw [laidF_sum]
    have := hc.2.2.1
    omega
  have hr := right_add h.right (by omega)
  refine ⟨⟨h1, hr, by omega, (cx_ok h1 (by omega)).1, ?_⟩, hse2, h2⟩
  unfold resOut
  rw [if_pos hr, h1]
  show (if (0 : Int) ≠ 0 then _ else _) = _
  rw [if_neg (by decide)]
  show (if 100000 < (cxOf F (addT q)).sets then _ else _) = _
  rw [if_neg (by omega)]
  rfl
def sigR (r : Ru) : Int × Int × Bs := (r.kd, r.m, r.s)
def sigF (r : Ru) : Int × Int × Int × Bs := (r.kd, r.f, r.m, r.s)
theorem sets_sig (g g' : Int → Int × Int × Bs) (h : ∀ a b, g a = g' b) : ∀ (l : List Tr) (k k' : Nat), (setsK l k).map g = (setsK l k').map g'
  | [], _, _ => rfl
  | t :: r, k, k' => by rw [setsK, setsK, List.map_cons, List.map_cons, sets_sig g g' h r, h k k']
theorem pairs_sig (k k' : Int) : ∀ (l : List Tr) (j j' : Nat), (pairsR k l j).map sigR = (pairsR k' l j').map sigR
  | [], _, _ => rfl
  | t :: r, j, j' => by rw [pairsR, pairsR, List.map_cons, List.map_cons, pairs_sig k k' r (j + t.size) (j' + t.size)]; rfl
theorem ite_sig {c : Prop} [Decidable c] {a a' b b' : List Ru} (h1 : a.map sigR = a'.map sigR) (h2 : b.map sigR = b'.map sigR) : (if c then a else b).map sigR = (if c then a' else b').map sigR := by
  split
  · exact h1
  · exact h2
theorem rule_sig {X X' : Cx} (hX : X.F = X'.F) (t : Tr) (k k' : Nat) {p p' : Pl9} : (ruleOf X t k p).map sigR = (ruleOf X' t k' p').map sigR := by
  have hv : ∀ a, X.varsAt a = X'.varsAt a := fun a => by unfold Cx.varsAt; rw [hX]
  have hq : ∀ a, X.parsAt a = X'.parsAt a := fun a => by unfold Cx.parsAt; rw [hX]
  unfold ruleOf
  simp only [hv, hq]
  refine ite_sig rfl (ite_sig rfl (ite_sig ?_ (ite_sig rfl (ite_sig ?_ (ite_sig rfl (ite_sig rfl (ite_sig ?_ (ite_sig rfl (ite_sig rfl (ite_sig rfl (ite_sig rfl (ite_sig rfl (ite_sig ?_ (ite_sig ?_ (ite_sig rfl rfl)))))))))))))))
  · rw [List.map_cons, List.map_cons]
    split <;> rfl
  · rw [List.map_cons, List.map_cons, pairs_sig k k' t.l (k + 1) (k' + 1)]
    rfl
  · rw [List.map_append, List.map_append]
    congr 1
    exact ite_sig rfl (ite_sig rfl (ite_sig rfl rfl))
  all_goals
    rw [List.map_map, List.map_map]
    exact sets_sig (sigR ∘ fun a => subR a _) (sigR ∘ fun a => subR a _) (fun _ _ => rfl) _ _ _
def evG (e : Ev9) : Tr × Int × Bool := (e.t, e.p.fn, e.p.tg)
theorem rules_sig {X X' : Cx} (hX : X.F = X'.F) {e e' : Ev9} (h : evG e = evG e') : (rulesAt X e.t e.k e.p).map sigF = (rulesAt X' e'.t e'.k e'.p).map sigF := by
  obtain ⟨t, k, fn, th, tg⟩ := e
  obtain ⟨t', k', fn', th', tg'⟩ := e'
  cases h
  unfold rulesAt
  show (if tg = true then [] else (ruleOf X t k ⟨fn, th, tg⟩).map (·.at_ fn)).map sigF = (if tg = true then [] else (ruleOf X' t k' ⟨fn, th', tg⟩).map (·.at_ fn)).map sigF
  split
  · rfl
  · have h1 := rule_sig hX t k k' (p := ⟨fn, th, tg⟩) (p' := ⟨fn, th', tg⟩)
    have h2 : ∀ l : List Ru, (l.map (·.at_ fn)).map sigF = (l.map sigR).map fun x => (x.1, fn, x.2.1, x.2.2) := fun l => by rw [List.map_map, List.map_map]; rfl
    rw [h2, h2, h1]
theorem rulesE_sig {X X' : Cx} (hX : X.F = X'.F) : ∀ es es' : List Ev9, es.map evG = es'.map evG → (rulesE X es).map sigF = (rulesE X' es').map sigF
  | [], [], _ => rfl
  | [], e :: r, h => by cases h
  | e :: r, [], h => by cases h
  | e :: r, e' :: r', h => by
    rw [List.map_cons, List.map_cons] at h
    have h1 := (List.cons.inj h).1
    have h2 := rulesE_sig hX r r' (List.cons.inj h).2
    show (rulesAt X e.t e.k e.p ++ rulesE X r).map sigF = (rulesAt X' e'.t e'.k e'.p ++ rulesE X' r').map sigF
    rw [List.map_append, List.map_append, h2, rules_sig hX h1]
theorem within_sig (X X' : Cx) (o n : Int) {len len' : Nat} (hl : o = 41 ∨ o = 10 → len = len') {p p' : Pl9} (h : p.fn = p'.fn) (i : Nat) : (withinP X o n len p i).fn = (withinP X' o n len' p' i).fn ∧ (withinP X o n len p i).tg = (withinP X' o n len' p' i).tg := by
  unfold withinP
  by_cases h4 : o = 41 ∨ o = 10
  · rw [if_pos h4, if_pos h4, hl h4]
    exact ⟨rfl, rfl⟩
  rw [if_neg h4, if_neg h4]
  by_cases h3 : o = 38
  · rw [if_pos h3, if_pos h3]
    exact ⟨h, rfl⟩
  rw [if_neg h3, if_neg h3]
  by_cases h1 : o = 17
  · rw [if_pos h1, if_pos h1]
    exact ⟨h, rfl⟩
  rw [if_neg h1, if_neg h1]
  exact ⟨h, rfl⟩
mutual
theorem evR_sig (X X' : Cx) : ∀ (t : Tr) (k k' : Nat) (p p' : Pl9), p.fn = p'.fn → p.tg = p'.tg → (evR X t k p).map evG = (evR X' t k' p').map evG
  | .mk o s n li l, k, k', p, p', h1, h2 => by
    rw [evR, evR, List.map_cons, List.map_cons, evRL_sig X X' o n l.length l.length (fun _ => rfl) p p' h1 l 0 (k + 1) (k' + 1)]
    have e : evG ⟨Tr.mk o s n li l, k, p⟩ = evG ⟨Tr.mk o s n li l, k', p'⟩ := by
      show (_, p.fn, p.tg) = (_, p'.fn, p'.tg)
      rw [h1, h2]
    rw [e]
theorem evRL_sig (X X' : Cx) (o n : Int) (len len' : Nat) (hl : o = 41 ∨ o = 10 → len = len') (p p' : Pl9) (h : p.fn = p'.fn) : ∀ (l : List Tr) (i k k' : Nat), (evRL X o n len p l i k).map evG = (evRL X' o n len' p' l i k').map evG
  | [], _, _, _ => by rw [evRL, evRL]
  | c :: r, i, k, k' => by
    have hw := within_sig X X' o n hl h i
    rw [evRL, evRL, List.map_append, List.map_append, evR_sig X X' c k k' _ _ hw.1 hw.2, evRL_sig X X' o n len len' hl p p' h r (i + 1) (k + c.size) (k' + c.size)]
end
theorem evRL_app (X : Cx) (o n : Int) (len : Nat) (p : Pl9) (x : Tr) : ∀ (l : List Tr) (i k : Nat), ∃ j k', evRL X o n len p (l ++ [x]) i k = evRL X o n len p l i k ++ evR X x k' (withinP X o n len p j)
  | [], i, k => ⟨i, k, by rw [List.nil_append, evRL, evRL, evRL, List.append_nil]; rfl⟩
  | c :: r, i, k => by
    obtain ⟨j, k', h⟩ := evRL_app X o n len p x r (i + 1) (k + c.size)
    exact ⟨j, k', by rw [List.cons_append, evRL, evRL, h, List.append_assoc]⟩
theorem rulesE_app (X : Cx) (a b : List Ev9) : rulesE X (a ++ b) = rulesE X a ++ rulesE X b := List.flatMap_append
theorem rules_xT (X : Cx) (k : Nat) (p : Pl9) : rulesE X (evR X xT k p) = [] := by
  have h : ∀ (t : Tr) (k : Nat) (p : Pl9), t.op = 31 ∨ t.op = 2 → rulesAt X t k p = [] := fun t k p ho => by
    unfold rulesAt
    split
    · rfl
    · have : ruleOf X t k p = [] := by
        unfold ruleOf
        repeat rw [if_neg (by omega)]
      rw [this]
      rfl
  have e : ∃ a b, evR X xT k p = [⟨xT, k, p⟩, ⟨xN, a, b⟩] := ⟨_, _, by unfold xT xN; rw [evR, evRL, evRL, evR, evRL]; rfl⟩
  obtain ⟨a, b, e⟩ := e
  rw [e]
  show rulesAt X xT k p ++ (rulesAt X xN a b ++ []) = []
  rw [h _ _ _ (.inl rfl), h _ _ _ (.inr rfl)]
  rfl
theorem sys_sig {t : Tr} {F : List Fn} {q : Tr} (h : SysOK t F q) (h' : SysOK (addT t) F (addT q)) (ho : q.op = 32) {R R' : List Ru} (hR : (rulesOut (resOut t)).2.2.2.1 = R) (hR' : (rulesOut (resOut (addT t))).2.2.2.1 = R') : R.map sigF = R'.map sigF := by
  rw [h.out] at hR
  rw [h'.out] at hR'
  simp only at hR hR'
  subst hR hR'
  have hX : (cxOf F q).F = (cxOf F (addT q)).F := rfl
  obtain ⟨X, eX⟩ : ∃ X, cxOf F q = X := ⟨_, rfl⟩
  obtain ⟨X', eX'⟩ : ∃ X, cxOf F (addT q) = X := ⟨_, rfl⟩
  rw [eX, eX'] at hX
  rw [eX, eX']
  have e32 : ∀ (X : Cx) (t : Tr) (k : Nat) (p : Pl9), t.op = 32 → rulesAt X t k p = [] := fun X t k p ho => by
    unfold rulesAt
    split
    · rfl
    · have : ruleOf X t k p = [] := by
        unfold ruleOf
        repeat rw [if_neg (by omega)]
      rw [this]
      rfl
  have hroot : ∀ (X : Cx) (t : Tr) (p : Pl9), t.op = 32 → rulesE X (evR X t 0 p) = rulesE X (evRL X t.op t.n t.l.length p t.l 0 1) := fun X t p ho => by
    rw [evR_eq]
    show rulesAt X t 0 p ++ rulesE X (evRL X t.op t.n t.l.length p t.l 0 (0 + 1)) = _
    rw [e32 X t 0 p ho]
    rfl
  rw [hroot X q _ ho, hroot X' (addT q) _ ho]
  obtain ⟨j, k', e⟩ := evRL_app X' (addT q).op (addT q).n (addT q).l.length ⟨0, (X'.fsAt 0).thr, false⟩ xT q.l 0 1
  rw [show (addT q).l = q.l ++ [xT] from rfl] at e ⊢
  rw [e, rulesE_app, rules_xT, List.append_nil]
  exact rulesE_sig hX _ _ (evRL_sig X X' q.op q.n q.l.length (q.l ++ [xT]).length (fun h => by omega) ⟨0, (X.fsAt 0).thr, false⟩ ⟨0, (X'.fsAt 0).thr, false⟩ rfl q.l 0 1 1)
theorem step_make {P : Program} {ops : Array Oper} {o : Oper} {a : Act} {w : World} {K : Act → World → Prop} {Q : Exit → Act → World → Prop} {E : Prop} (hg : o.guard = none) (l c : Operand) (t : TypeId)
    (hop : o.op = Op.makeSlice t l c) (v u : Value) (hs : a.eval l = v) (hx : a.eval c = u) (R : Value → World → Prop)
    (hrun : ∃ v' w', (Instr.makeSlice t v u).run P w = .ok v' w' ∧ R v' w') (hK : ∀ v' w', R v' w' → K (a.put o.dst v') w') :
    if Region.wanted o (yielded ops a.tmps) = true then Oper.wp P o a w K Q else E := by
  have hw : Region.wanted o (yielded ops a.tmps) = true := by simp [Region.wanted, hg]
  rw [if_pos hw]
  obtain ⟨v', w', hr, h2⟩ := hrun
  unfold Oper.wp
  simp [execOp, hop, hs, hx, hr, Result.andThen]
  exact hK _ _ h2
theorem AllReadyH.make {P : Program} {md : Region.Mode} {ops : Array Oper} {Q : Exit → Act → World → Prop} {S : World → Prop} {fuel : Nat} {listed : Array Bool} {a : Act} {w : World} {i : Nat} {o : Oper} {rs : List Nat} (ho : ops[i]? = some o) (hg : o.guard = none) (l c : Operand) (t : TypeId)
    (hop : o.op = Op.makeSlice t l c) (v u : Value) (hs : a.eval l = v) (hx : a.eval c = u) (R : Value → World → Prop)
    (hrun : ∃ v' w', (Instr.makeSlice t v u).run P w = .ok v' w' ∧ R v' w') (hK : ∀ v' w', R v' w' → S w' ∧ (S w' → wpAnyH P md ops Q S fuel (listed.setIfInBounds i true) (a.put o.dst v') w'))
    (hr : AllReadyH P md ops Q S fuel listed a w rs) : AllReadyH P md ops Q S fuel listed a w (i :: rs) :=
  AllReadyH.cons ho (fun K hK' => step_make hg l c t hop v u hs hx R hrun fun v' w' h => hK'.out _ _ (hK v' w' h).1 (hK v' w' h).2) hr
abbrev cN : Obj := .cells #[.int .i64 2, .string ⟨#[]⟩, .int .i64 1, .slice none 0 0, .int .i64 0] 24
abbrev cT (Z : Nat) : Obj := .cells #[.int .i64 31, .string ⟨#[]⟩, .int .i64 0, .slice (some ⟨Z, 0, none⟩) 1 1, .int .i64 0] 24
structure MSt (W0 w : World) (H Q : Nat) (ts : List Tr) (v : Value) (L : List (Nat × Obj)) : Prop where
  ext : Below H W0 w
  hH : W0.heap.size = H
  acc : AccP (fun k => k ≠ Q) H w ts v
  blk : ∀ p ∈ L, w.heap[p.1]? = some p.2 ∧ H ≤ p.1 ∧ v.ownBlock ≠ some p.1
section
variable {W0 w : World} {H Q : Nat} {ts : List Tr} {v u : Value} {L : List (Nat × Obj)}
theorem MSt.le (h : MSt W0 w H Q ts v L) : H ≤ w.heap.size := by have := h.ext.size; have := h.hH; omega
theorem MSt.start (hH : W0.heap.size = H) : MSt W0 W0 H Q [] (.slice none 0 0) [] := ⟨Below.refl _ _, hH, ⟨[], rfl, World.ownsRow_nil _ _ _ _, fun x hx => by cases hx⟩, fun p hp => by cases hp⟩
theorem MSt.alloc (h : MSt W0 w H Q ts v L) (o : Obj) (o' : Obj) {w' : World} {Z : Nat} (he : w.alloc o = w') (hZ : w.heap.size = Z) (ho : (w.alloc o).heap[w.heap.size]? = some o') : MSt W0 w' H Q ts v ((Z, o') :: L) := by
  subst he hZ
  have hle := h.le
  have hb := below_alloc9 w o
  refine ⟨h.ext.trans (hb.mono hle), h.hH, h.acc.keep hb.size (fun k _ hk => hb.block k hk), fun p hp => ?_⟩
  rcases List.mem_cons.1 hp with rfl | hp
  · exact ⟨ho, hle, fun e => by have := (h.acc.blk e).2; omega⟩
  · obtain ⟨h1, h2, h3⟩ := h.blk p hp
    exact ⟨(hb.block _ (heap_lt h1)).trans h1, h2, h3⟩
theorem MSt.make (h : MSt W0 w H Q [] (.slice none 0 0) L) (n : Nat) (hn : n ≤ 100000) (c : Int) (hc : c = (n : Int)) :
    ∃ v' w', (Instr.makeSlice 22 (.int .i64 0) (.int .i64 c)).run Tryz.prog w = .ok v' w' ∧ MSt W0 w' H Q [] v' L := by
  subst hc
  obtain ⟨i0, j0, j1, j2, j3⟩ := info_parts node_info
  obtain ⟨w', r1, r2, r3⟩ := run_make_own (P := Tryz.prog) w H 22 24 i0 _ 5 Tryz.underlying22 j0 j1 j2 .i64 .i64 n (by rw [j3]; omega) (by unfold maxLen; omega) h.le
  have hon : Only (fun _ => False) w w' := Only.grown r3 fun k e => by cases e
  refine ⟨_, w', r1, h.ext.trans (hon.below h.le (fun i hi => hi.elim)), h.hH, ⟨[], rfl, r2, fun x hx => by cases hx⟩, fun p hp => ?_⟩
  obtain ⟨h1, h2, h3⟩ := h.blk p hp
  have hl := heap_lt h1
  exact ⟨(hon.block _ hl (fun h => h)).trans h1, h2, fun e => by simp [Value.ownBlock] at e; omega⟩
theorem MSt.pushL {l : List Tr} (h : MSt W0 w H Q ts v L) (hl : RowAt w (fun k => (k ≠ Q ∧ k < w.heap.size) ∧ v.ownBlock ≠ some k) l u) (hn : ts.length + l.length ≤ 3000000) (ty : TypeId) :
    ∃ v' w', (Builtin.append_ #[22, 22] ty #[v, u]).run Tryz.prog w = .ok v' w' ∧ (MSt W0 w' H Q (ts ++ l) v' L ∧ ∃ A' c', v' = .slice A' (ts.length + l.length) c') := by
  obtain ⟨v', w', r1, r2, r3, r4, r5⟩ := h.acc.pushL hl hn h.le ty
  refine ⟨v', w', r1, ⟨h.ext.trans (r3.below h.le (fun i hi => (h.acc.blk hi).1)), h.hH, r2, fun p hp => ?_⟩, r4⟩
  obtain ⟨h1, h2, h3⟩ := h.blk p hp
  have hlt := heap_lt h1
  refine ⟨(r3.block _ hlt h3).trans h1, h2, fun e => ?_⟩
  rcases r5 with e5 | e5
  · exact h3 (e5 ▸ e)
  · rw [e5] at e
    simp at e
    omega
theorem MSt.app1 {N : Nat} {l : List Tr} (h : MSt W0 w H Q [] v L) (hr : RowAt W0 (fun k => k < N) l u) (hN : N ≤ Q) (hQ : Q < H) (hn : l.length ≤ 100000) (ty : TypeId) :
    ∃ v' w', (Builtin.append_ #[22, 22] ty #[v, u]).run Tryz.prog w = .ok v' w' ∧ MSt W0 w' H Q l v' L := by
  have hle := h.le
  obtain ⟨v', w', r1, r2, -⟩ := h.pushL (l := l) (u := u) (hr.keep (fun k hk => ⟨⟨by omega, by omega⟩, fun e => by have := (h.acc.blk e).1; omega⟩) (fun k hk => h.ext.block k (by omega))) (by simp; omega) ty
  exact ⟨v', w', r1, r2⟩
theorem MSt.app2 {l : List Tr} {Z Y : Nat} (h : MSt W0 w H Q l v L) (hZ : (Z, .cells #[.int .i64 31, .string ⟨#[]⟩, .int .i64 0, .slice (some ⟨Y, 0, none⟩) 1 1, .int .i64 0] 24 (0, 0)) ∈ L) (hY : (Y, .cells #[.int .i64 2, .string ⟨#[]⟩, .int .i64 1, .slice none 0 0, .int .i64 0] 24 (0, 0)) ∈ L) (hQ : Q < H) (hn : l.length ≤ 100000) (ty : TypeId) :
    ∃ v' w', (Builtin.append_ #[22, 22] ty #[v, .slice (some ⟨Z, 0, none⟩) 1 1]).run Tryz.prog w = .ok v' w' ∧ (MSt W0 w' H Q (l ++ [xT]) v' L ∧ ∃ A' c', v' = .slice A' (l.length + 1) c') := by
  obtain ⟨z1, z2, z3⟩ := h.blk _ hZ
  obtain ⟨y1, y2, y3⟩ := h.blk _ hY
  have hzl := heap_lt z1
  have hyl := heap_lt y1
  have hN : TreeAt w (fun k => (k ≠ Q ∧ k < w.heap.size) ∧ v.ownBlock ≠ some k) xN (.agg #[.int .i64 2, .string (bs []), .int .i64 1, .slice none 0 0, .int .i64 0]) := TreeAt.leaf w ⟨by simp, by omega, by omega⟩
  have hT : TreeAt w (fun k => (k ≠ Q ∧ k < w.heap.size) ∧ v.ownBlock ≠ some k) xT (.agg #[.int .i64 31, .string (bs []), .int .i64 0, .slice (some ⟨Y, 0, none⟩) 1 1, .int .i64 0]) := TreeAt.mk (RowAt.one hN y1 rfl ⟨⟨by show Y ≠ Q; have : H ≤ Y := y2; omega, hyl⟩, y3⟩) ⟨by simp, by omega, by omega⟩
  exact h.pushL (l := [xT]) (RowAt.one hT z1 rfl ⟨⟨by show Z ≠ Q; have : H ≤ Z := z2; omega, hzl⟩, z3⟩) (by simp; omega) ty
theorem MSt.box {c0 c1 c2 c3 c4 : Value} (h : MSt W0 w H Q ts v L) (hQ : Q < H) (hb : W0.heap[Q]? = some (.cells #[c0, c1, c2, c3, c4] 24 (0, 0))) :
    w.cell? ⟨Q, 3, none⟩ = some c3 ∧ w.frozen? ⟨Q, 3, none⟩ = false ∧ ∀ w', w' = w.setCell ⟨Q, 3, none⟩ v → (RowAt w' (fun k => k < w'.heap.size) ts v ∧ Below Q W0 w' ∧ w'.heap[Q]? = some (.cells #[c0, c1, c2, v, c4] 24 (0, 0))) := by
  have hle := h.le
  have hbw := (h.ext.block Q hQ).trans hb
  refine ⟨(box_facts hbw).1.2.2.2.1, by simp [World.frozen?, hbw], ?_⟩
  rintro w' rfl
  have ho := Only.setCell (F := fun i => i = Q) w rfl 3 v
  refine ⟨h.acc.row.keep (fun k hk => ?_) (fun k hk => ho.block k hk.2 (by omega)), (h.ext.mono (by omega)).trans (ho.below (by omega) (fun i hi => by have hi' : i = Q := hi; omega)), blk_set hbw 3 _⟩
  have := ho.size
  have := hk.2
  omega
end
theorem sig_get {R R' : List Ru} (h : R.map sigF = R'.map sigF) {k : Nat} {r r' : Ru} (e : R[k]? = some r) (e' : R'[k]? = some r') : r.kd = r'.kd ∧ r.m = r'.m ∧ r.s = r'.s ∧ r.f = r'.f := by
  have h1 : (R.map sigF)[k]? = some (sigF r) := by rw [List.getElem?_map, e]; rfl
  rw [h, List.getElem?_map, e'] at h1
  injection h1 with h1
  injection h1 with a1 h1
  injection h1 with a2 h1
  injection h1 with a3 a4
  exact ⟨a1.symm, a3.symm, a4.symm, a2.symm⟩
abbrev nodeO (c0 c1 c2 c3 c4 : Value) : Obj := .cells #[c0, c1, c2, c3, c4] 24 (0, 0)
set_option maxRecDepth 100000 in
set_option maxHeartbeats 8000000 in
theorem rmore_any (t : Tr) (v : Value) (w : World) (ht : At w w.heap.size t v) : Calls Tryz.prog 7 #[v] w fun e w' => e = .returned (.bool true) ∧ Below w.heap.size w w' := by
  obtain ⟨A, c, rfl, hrow0, hfin0⟩ := (TreeAt.of_at ht).form
  have hat : ∀ w', Below w.heap.size w w' → At w' w'.heap.size t (.agg #[.int .i64 t.op, .string (bs t.s), .int .i64 t.n, .slice A t.l.length c, .int .i64 t.line]) := fun w' hb => At.keep t ht hb.size fun p hp => hb.cell hp
  have HAt := Lib.hid hat
  have HRow := Lib.hid hrow0
  have HFi := Lib.hid hfin0
  clear hat ht hrow0 hfin0
  go_enter Tryz.func7, Tryz.ntmps7
  have hal := below_alloc9 w (.cells #[.int .i64 t.op, .string (bs t.s), .int .i64 t.n, .slice A t.l.length c, .int .i64 t.line] 24)
  have hbx := heap_alloc_new w (.cells #[.int .i64 t.op, .string (bs t.s), .int .i64 t.n, .slice A t.l.length c, .int .i64 t.line] 24)
  obtain ⟨N, eN⟩ : ∃ N, w.heap.size = N := ⟨_, rfl⟩
  have H0 := Lib.hid (And.intro hal hbx)
  clear hal hbx
  go_wp2_with fail
  go_at_call 9
  refine (shown12_any _).mono ?_
  rintro e w1 ⟨rfl, hb1⟩
  have hbx1 := (hb1.block w.heap.size (by simp)).trans H0.out.2
  have hw1 : Below w.heap.size w w1 := H0.out.1.trans (hb1.mono (by simp))
  rw [eN] at hbx1
  obtain ⟨x0, x1, x2, x3, x4⟩ := (box_facts hbx1).1
  have H1 := Lib.hid (And.intro hw1 hbx1)
  clear hb1 hbx1 hw1 H0
  go_wp2_with fail
  go_at_call 10
  refine (small_any t _ w1 (HAt.out w1 H1.out.1)).mono ?_
  rintro e w2 ⟨rfl, hb2⟩
  have hbx2 := (hb2.block N (heap_lt H1.out.2)).trans H1.out.2
  have hw2 : Below w.heap.size w w2 := H1.out.1.trans (hb2.mono H1.out.1.size)
  obtain ⟨y0, y1, y2, y3, y4⟩ := (box_facts hbx2).1
  have H2 := Lib.hid (And.intro hw2 hbx2)
  clear hb2 hbx2 hw2 x0 x1 x2 x3 x4 H1
  by_cases hz : t.size ≤ 1500
  case neg =>
    rw [if_neg hz]
    go_wp2
    go_ret
    exact ⟨rfl, H2.out.1⟩
  rw [if_pos hz]
  go_wp2_with fail
  go_at_call 11
  refine (rules_any t _ w2 (fun k => k < w2.heap.size) (TreeAt.of_at (HAt.out w2 H2.out.1)) (fun _ h => h) (by omega)).mono ?_
  rintro e w3 ⟨fv, fsv, rv, B, he, hF, hS, hR, hb3⟩
  have hw3 : Below w.heap.size w w3 := H2.out.1.trans (hb3.mono H2.out.1.size)
  obtain ⟨R, eR⟩ : ∃ R, (rulesOut (resOut t)).2.2.2.1 = R := ⟨_, rfl⟩
  obtain ⟨s0, es0⟩ : ∃ y, (rulesOut (resOut t)).2.1 = y := ⟨_, rfl⟩
  obtain ⟨er0, eer0⟩ : ∃ y, (rulesOut (resOut t)).2.2.2.2.2 = y := ⟨_, rfl⟩
  obtain ⟨li0, eli0⟩ : ∃ y, (rulesOut (resOut t)).2.2.2.2.1 = y := ⟨_, rfl⟩
  rw [es0, eer0, eli0] at he
  rw [eR] at hR
  obtain ⟨A2, c2, rfl⟩ := hS.form
  obtain ⟨A3, c3, rfl⟩ := hR.form
  obtain ⟨A4, c4, rfl, -, -⟩ := hF.form
  obtain ⟨-, hc31, hc32, -⟩ := SlAt.get hR
  subst he
  obtain ⟨nr, enr⟩ : ∃ y, R.length = y := ⟨_, rfl⟩
  obtain ⟨n2, en2⟩ : ∃ y, (rulesOut (resOut t)).2.2.1.length = y := ⟨_, rfl⟩
  obtain ⟨n4, en4⟩ : ∃ y, (rulesOut (resOut t)).1.length = y := ⟨_, rfl⟩
  rw [enr] at hR hc31
  rw [enr, en2, en4]
  have hal4 := below_alloc9 w3 (.cells #[.int .i64 s0, .slice A2 n2 c2, .slice A3 nr c3] 31)
  have hbx4 := heap_alloc_new w3 (.cells #[.int .i64 s0, .slice A2 n2 c2, .slice A3 nr c3] 31)
  obtain ⟨w4, e4⟩ : ∃ w4, w3.alloc (.cells #[.int .i64 s0, .slice A2 n2 c2, .slice A3 nr c3] 31) = w4 := ⟨_, rfl⟩
  rw [e4] at hal4 hbx4
  obtain ⟨M, eM⟩ : ∃ y, w3.heap.size = y := ⟨_, rfl⟩
  have hR4 := hR.below RuP.keeps hal4
  have hw4 : Below w.heap.size w w4 := hw3.trans (hal4.mono hw3.size)
  have hz4 : w4.heap.size = M + 1 := by rw [← e4, World.size_alloc, eM]
  have hNM : N < M := by have := heap_lt H2.out.2; have := hb3.size; omega
  have hN4 := (hal4.block N (by omega)).trans ((hb3.block N (heap_lt H2.out.2)).trans H2.out.2)
  rw [eM] at hbx4
  obtain ⟨ln, eln⟩ : ∃ y, t.l.length = y := ⟨_, rfl⟩
  have hln5 : ln ≤ 5000 := by have := size_eq t; have := length_le_sizes t.l; omega
  have HLn := Lib.hid eln
  rw [eln] at hN4 ⊢
  have hal5 := below_alloc9 w4 (.cells #[.int .i64 t.op, .string (bs t.s), .int .i64 t.n, .slice A ln c, .int .i64 t.line] 24)
  have hbx5 := heap_alloc_new w4 (.cells #[.int .i64 t.op, .string (bs t.s), .int .i64 t.n, .slice A ln c, .int .i64 t.line] 24)
  obtain ⟨w5, e5⟩ : ∃ w5, w4.alloc (.cells #[.int .i64 t.op, .string (bs t.s), .int .i64 t.n, .slice A ln c, .int .i64 t.line] 24) = w5 := ⟨_, rfl⟩
  have hz5 : w5.heap.size = M + 2 := by rw [← e5, World.size_alloc, hz4]
  rw [e5] at hal5 hbx5
  rw [hz4] at hbx5
  have hbM5 := (hal5.block M (by omega)).trans hbx4
  have hbN5 := (hal5.block N (by omega)).trans hN4
  have hR5 := hR4.below RuP.keeps hal5
  have hw5 : Below w.heap.size w w5 := hw4.trans (hal5.mono hw4.size)
  have hrow := HRow.out
  rw [eN] at hrow
  have hrow5 : RowAt w5 (fun k => k < N) t.l (.slice A ln c) := by
    rw [eln] at hrow
    exact hrow.keep (fun k hk => hk) (fun k hk => hw5.block k (by rw [eN]; exact hk))
  have HE4 := Lib.hid e4
  have HEM := Lib.hid eM
  obtain ⟨p0, p1, p2, p3, p4⟩ := (box_facts hN4).1
  have HE5 := Lib.hid e5
  have HZ4 := Lib.hid hz4
  have hw1 : IntKind.i64.wrap ((ln : Int) + 1) = (ln : Int) + 1 := IntWalk.i64_in _ (by omega)
  obtain ⟨wD, eD⟩ : ∃ y, w5.drew = y := ⟨_, rfl⟩
  have hzD : wD.heap.size = M + 2 := by rw [← eD]; exact hz5
  have hD5 : Below w5.heap.size w5 wD := by rw [← eD]; exact drew_below w5
  have hbND := (hD5.block N (by omega)).trans hbN5
  have hbQD := (hD5.block (M + 1) (by omega)).trans hbx5
  have hrowD : RowAt wD (fun k => k < N) t.l (.slice A ln c) := hrow5.keep (fun _ h => h) (fun k hk => hD5.block k (by omega))
  have HS := Lib.hid (fun w' (hb : Below (M + 2) wD w') => show w'.cell? ⟨N, 3, none⟩ = some (.slice A ln c) from (box_facts ((hb.block N (by omega)).trans hbND)).1.2.2.2.1)
  have hS5 := (box_facts hbN5).1.2.2.2.1
  have hM0 := Lib.hid (MSt.start (Q := M + 1) hzD)
  have HD := Lib.hid hrowD
  have HB := Lib.hid hbQD
  have hwD : Below w.heap.size w wD := hw5.trans (hD5.mono hw5.size)
  have h3D : Below w3.heap.size w3 wD := hal4.trans ((hal5.mono (by rw [hz4, eM]; omega)).trans (hD5.mono (by rw [hz5, eM]; omega)))
  have hbMD := (hD5.block M (by omega)).trans hbM5
  have HF := Lib.hid (And.intro hwD (And.intro hR (And.intro h3D (And.intro hbMD (And.intro enr (And.intro hc31 hc32))))))
  have HED := Lib.hid eD
  have HO := Lib.hid (And.intro eR (And.intro es0 (And.intro eer0 eli0)))
  have hQ : M + 1 < M + 2 := by omega
  have hNQ : N ≤ M + 1 := by omega
  have hln1 : ln + 1 ≤ 100000 := by omega
  have hlnl : t.l.length ≤ 100000 := by omega
  clear hwD h3D hbMD hF hS hR hw3 hb3 hal4 hbx4 hR4 hw4 hz4 hN4 hal5 hbx5 hbM5 hbN5 hR5 hw5 hrow hrow5 e4 e5 eD hD5 hbND hbQD hrowD eR es0 eer0 eli0 enr en2 en4 y0 y1 y2 y3 y4 eM hc31 hc32
  go_upto_region 5 with fail
  rw [HE4.out, HEM.out]
  go_upto_region 6 with fail
  rw [HE5.out, HZ4.out]
  clear p0 p1 p2 p3 p4
  go_cut [] (fun wc => ∃ A9 c9, RowAt wc (fun k => k < wc.heap.size) (t.l ++ [xT]) (.slice A9 (ln + 1) c9) ∧ Below (M + 1) wD wc ∧ wc.heap[M + 1]? = some (nodeO (.int .i64 t.op) (.string (bs t.s)) (.int .i64 t.n) (.slice A9 (ln + 1) c9) (.int .i64 t.line)))
  case first =>
    clear hzD hz5
    refine wp_region_held_drew (S := fun w' => w'.cell? ⟨N, 3, none⟩ = some (.slice A ln c)) (by kernel_rfl) hS5 (fun hHeld => ?_)
    rw [HED.out] at hHeld ⊢
    have hM := hM0
    refine wpAnyH_take (i := 0) (v := ?_) rfl (by kernel_rfl) (by kernel_rfl) (by kernel_rfl) (fun _ _ _ h => h) (Or.inl ⟨by rfl, ?_⟩) (by assumption) ?_
    rotate_left 1
    · (intro w hSw; (try dsimp only at hSw); go_simp <;> (with_reducible rfl))
    refine wpAnyH_take (i := 1) (v := ?_) rfl (by kernel_rfl) (by kernel_rfl) (by kernel_rfl) (fun _ _ _ h => h) (Or.inl ⟨by rfl, ?_⟩) (by assumption) ?_
    rotate_left 1
    · (intro w hSw; (try dsimp only at hSw); go_simp <;> (with_reducible rfl))
    refine wpAnyH_take (i := 2) (v := ?_) rfl (by kernel_rfl) (by kernel_rfl) (by kernel_rfl) (fun _ _ _ h => h) (Or.inl ⟨by rfl, ?_⟩) (by assumption) ?_
    rotate_left 1
    · (intro w hSw; (try dsimp only at hSw); go_simp <;> (with_reducible rfl))
    refine wpAnyH_take (i := 3) (v := ?_) rfl (by kernel_rfl) (by kernel_rfl) (by kernel_rfl) (fun _ _ _ h => h) (Or.inl ⟨by rfl, ?_⟩) (by assumption) ?_
    rotate_left 1
    · (intro w hSw; (try dsimp only at hSw); go_simp <;> (with_reducible rfl))
    refine wpAnyH_take (i := 5) (v := ?_) rfl (by kernel_rfl) (by kernel_rfl) (by kernel_rfl) (fun _ _ _ h => h) (Or.inl ⟨by rfl, ?_⟩) (by assumption) ?_
    rotate_left 1
    · (intro w hSw; (try dsimp only at hSw); go_simp <;> (with_reducible rfl))
    refine wpAnyH_take (i := 6) (v := ?_) rfl (by kernel_rfl) (by kernel_rfl) (by kernel_rfl) (fun _ _ _ h => h) (Or.inl ⟨by rfl, ?_⟩) (by assumption) ?_
    rotate_left 1
    · (intro w hSw; (try dsimp only at hSw); go_simp <;> (with_reducible rfl))
    refine wpAnyH_take (i := 8) (v := ?_) rfl (by kernel_rfl) (by kernel_rfl) (by kernel_rfl) (fun _ _ _ h => h) (Or.inl ⟨by rfl, ?_⟩) (by assumption) ?_
    rotate_left 1
    · (intro w hSw; (try dsimp only at hSw); go_simp <;> (with_reducible rfl))
    refine wpAnyH_ready (rs := [4, 9]) (by kernel_rfl) (by simp) ?_
    refine AllReadyH.make rfl rfl (.const (.int .i64 0)) (.tmp 30) 22 rfl (.int .i64 0) (.int .i64 ((ln : Int) + 1)) (by simp [Act.eval, Act.put]) (by simp [Act.eval, Act.put]) _ (hM.out.make (ln + 1) hln1 _ (by omega)) ?_ (AllReadyH.cons rfl ?_ AllReadyH.nil)
    intro v wx hm
    have hM := Lib.hid hm
    clear hm
    refine ⟨HS.out _ hM.out.ext, fun hHeld => ?_⟩
    refine wpAnyH_ready (rs := [7, 9]) (by kernel_rfl) (by simp) ?_
    refine AllReadyH.cons rfl ?_ (AllReadyH.cons rfl ?_ AllReadyH.nil)
    intro K hK
    refine step_app rfl (.tmp 31) (.tmp 33) 22 rfl v (.slice A ln c) (by simp [Act.eval, Act.put]) (by simp [Act.eval, Act.put]) _ (hM.out.app1 HD.out hNQ hQ hlnl _) ?_
    rintro v wx hm
    have hM := Lib.hid hm
    clear hm
    refine hK.out _ _ (HS.out _ hM.out.ext) (fun hHeld => ?_)
    clear hK K
    refine wpAnyH_ready (rs := [9]) (by kernel_rfl) (by simp) ?_
    refine AllReadyH.cons rfl ?_ AllReadyH.nil
    intro K hK
    go_simp
    obtain ⟨Y, z⟩ : ∃ y, wx.heap.size = y := ⟨_, rfl⟩
    obtain ⟨wx, e⟩ : ∃ y, wx.alloc cN = y := ⟨_, rfl⟩
    have hM := Lib.hid (hM.out.alloc _ _ e z (heap_alloc_new _ _))
    rw [e, z]
    clear e z
    refine hK.out _ _ (HS.out _ hM.out.ext) (fun hHeld => ?_)
    clear hK K
    refine wpAnyH_take (i := 10) (v := ?_) rfl (by kernel_rfl) (by kernel_rfl) (by kernel_rfl) (fun _ _ _ h => h) (Or.inl ⟨by rfl, ?_⟩) (by assumption) ?_
    rotate_left 1
    · (intro w hSw; (try dsimp only at hSw); go_simp <;> (with_reducible rfl))
    refine wpAnyH_ready (rs := [11]) (by kernel_rfl) (by simp) ?_
    refine AllReadyH.cons rfl ?_ AllReadyH.nil
    intro K hK
    go_simp
    obtain ⟨Z, z⟩ : ∃ y, wx.heap.size = y := ⟨_, rfl⟩
    obtain ⟨wx, e⟩ : ∃ y, wx.alloc (cT Y) = y := ⟨_, rfl⟩
    have hM := Lib.hid (hM.out.alloc _ _ e z (heap_alloc_new _ _))
    rw [e, z]
    clear e z
    refine hK.out _ _ (HS.out _ hM.out.ext) (fun hHeld => ?_)
    clear hK K
    rotate_left 1
    intro K hK
    go_simp
    obtain ⟨Y, z⟩ : ∃ y, wx.heap.size = y := ⟨_, rfl⟩
    obtain ⟨wx, e⟩ : ∃ y, wx.alloc cN = y := ⟨_, rfl⟩
    have hM := Lib.hid (hM.out.alloc _ _ e z (heap_alloc_new _ _))
    rw [e, z]
    clear e z
    refine hK.out _ _ (HS.out _ hM.out.ext) (fun hHeld => ?_)
    clear hK K
    refine wpAnyH_take (i := 10) (v := ?_) rfl (by kernel_rfl) (by kernel_rfl) (by kernel_rfl) (fun _ _ _ h => h) (Or.inl ⟨by rfl, ?_⟩) (by assumption) ?_
    rotate_left 1
    · (intro w hSw; (try dsimp only at hSw); go_simp <;> (with_reducible rfl))
    refine wpAnyH_ready (rs := [7, 11]) (by kernel_rfl) (by simp) ?_
    refine AllReadyH.cons rfl ?_ (AllReadyH.cons rfl ?_ AllReadyH.nil)
    intro K hK
    refine step_app rfl (.tmp 31) (.tmp 33) 22 rfl v (.slice A ln c) (by simp [Act.eval, Act.put]) (by simp [Act.eval, Act.put]) _ (hM.out.app1 HD.out hNQ hQ hlnl _) ?_
    rintro v wx hm
    have hM := Lib.hid hm
    clear hm
    refine hK.out _ _ (HS.out _ hM.out.ext) (fun hHeld => ?_)
    clear hK K
    refine wpAnyH_ready (rs := [11]) (by kernel_rfl) (by simp) ?_
    refine AllReadyH.cons rfl ?_ AllReadyH.nil
    intro K hK
    go_simp
    obtain ⟨Z, z⟩ : ∃ y, wx.heap.size = y := ⟨_, rfl⟩
    obtain ⟨wx, e⟩ : ∃ y, wx.alloc (cT Y) = y := ⟨_, rfl⟩
    have hM := Lib.hid (hM.out.alloc _ _ e z (heap_alloc_new _ _))
    rw [e, z]
    clear e z
    refine hK.out _ _ (HS.out _ hM.out.ext) (fun hHeld => ?_)
    clear hK K
    rotate_left 1
    intro K hK
    go_simp
    obtain ⟨Z, z⟩ : ∃ y, wx.heap.size = y := ⟨_, rfl⟩
    obtain ⟨wx, e⟩ : ∃ y, wx.alloc (cT Y) = y := ⟨_, rfl⟩
    have hM := Lib.hid (hM.out.alloc _ _ e z (heap_alloc_new _ _))
    rw [e, z]
    clear e z
    refine hK.out _ _ (HS.out _ hM.out.ext) (fun hHeld => ?_)
    clear hK K
    refine wpAnyH_ready (rs := [7]) (by kernel_rfl) (by simp) ?_
    refine AllReadyH.cons rfl ?_ AllReadyH.nil
    intro K hK
    refine step_app rfl (.tmp 31) (.tmp 33) 22 rfl v (.slice A ln c) (by simp [Act.eval, Act.put]) (by simp [Act.eval, Act.put]) _ (hM.out.app1 HD.out hNQ hQ hlnl _) ?_
    rintro v wx hm
    have hM := Lib.hid hm
    clear hm
    refine hK.out _ _ (HS.out _ hM.out.ext) (fun hHeld => ?_)
    clear hK K
    rotate_left 1
    intro K hK
    go_simp
    obtain ⟨Y, z⟩ : ∃ y, wD.heap.size = y := ⟨_, rfl⟩
    obtain ⟨wx, e⟩ : ∃ y, wD.alloc cN = y := ⟨_, rfl⟩
    have hM := Lib.hid (hM.out.alloc _ _ e z (heap_alloc_new _ _))
    rw [e, z]
    clear e z
    refine hK.out _ _ (HS.out _ hM.out.ext) (fun hHeld => ?_)
    clear hK K
    refine wpAnyH_take (i := 10) (v := ?_) rfl (by kernel_rfl) (by kernel_rfl) (by kernel_rfl) (fun _ _ _ h => h) (Or.inl ⟨by rfl, ?_⟩) (by assumption) ?_
    rotate_left 1
    · (intro w hSw; (try dsimp only at hSw); go_simp <;> (with_reducible rfl))
    refine wpAnyH_ready (rs := [4, 11]) (by kernel_rfl) (by simp) ?_
    refine AllReadyH.make rfl rfl (.const (.int .i64 0)) (.tmp 30) 22 rfl (.int .i64 0) (.int .i64 ((ln : Int) + 1)) (by simp [Act.eval, Act.put]) (by simp [Act.eval, Act.put]) _ (hM.out.make (ln + 1) hln1 _ (by omega)) ?_ (AllReadyH.cons rfl ?_ AllReadyH.nil)
    intro v wx hm
    have hM := Lib.hid hm
    clear hm
    refine ⟨HS.out _ hM.out.ext, fun hHeld => ?_⟩
    refine wpAnyH_ready (rs := [7, 11]) (by kernel_rfl) (by simp) ?_
    refine AllReadyH.cons rfl ?_ (AllReadyH.cons rfl ?_ AllReadyH.nil)
    intro K hK
    refine step_app rfl (.tmp 31) (.tmp 33) 22 rfl v (.slice A ln c) (by simp [Act.eval, Act.put]) (by simp [Act.eval, Act.put]) _ (hM.out.app1 HD.out hNQ hQ hlnl _) ?_
    rintro v wx hm
    have hM := Lib.hid hm
    clear hm
    refine hK.out _ _ (HS.out _ hM.out.ext) (fun hHeld => ?_)
    clear hK K
    refine wpAnyH_ready (rs := [11]) (by kernel_rfl) (by simp) ?_
    refine AllReadyH.cons rfl ?_ AllReadyH.nil
    intro K hK
    go_simp
    obtain ⟨Z, z⟩ : ∃ y, wx.heap.size = y := ⟨_, rfl⟩
    obtain ⟨wx, e⟩ : ∃ y, wx.alloc (cT Y) = y := ⟨_, rfl⟩
    have hM := Lib.hid (hM.out.alloc _ _ e z (heap_alloc_new _ _))
    rw [e, z]
    clear e z
    refine hK.out _ _ (HS.out _ hM.out.ext) (fun hHeld => ?_)
    clear hK K
    rotate_left 1
    intro K hK
    go_simp
    obtain ⟨Z, z⟩ : ∃ y, wx.heap.size = y := ⟨_, rfl⟩
    obtain ⟨wx, e⟩ : ∃ y, wx.alloc (cT Y) = y := ⟨_, rfl⟩
    have hM := Lib.hid (hM.out.alloc _ _ e z (heap_alloc_new _ _))
    rw [e, z]
    clear e z
    refine hK.out _ _ (HS.out _ hM.out.ext) (fun hHeld => ?_)
    clear hK K
    refine wpAnyH_ready (rs := [7]) (by kernel_rfl) (by simp) ?_
    refine AllReadyH.cons rfl ?_ AllReadyH.nil
    intro K hK
    refine step_app rfl (.tmp 31) (.tmp 33) 22 rfl v (.slice A ln c) (by simp [Act.eval, Act.put]) (by simp [Act.eval, Act.put]) _ (hM.out.app1 HD.out hNQ hQ hlnl _) ?_
    rintro v wx hm
    have hM := Lib.hid hm
    clear hm
    refine hK.out _ _ (HS.out _ hM.out.ext) (fun hHeld => ?_)
    clear hK K
    rotate_left 1
    intro K hK
    go_simp
    obtain ⟨Z, z⟩ : ∃ y, wx.heap.size = y := ⟨_, rfl⟩
    obtain ⟨wx, e⟩ : ∃ y, wx.alloc (cT Y) = y := ⟨_, rfl⟩
    have hM := Lib.hid (hM.out.alloc _ _ e z (heap_alloc_new _ _))
    rw [e, z]
    clear e z
    refine hK.out _ _ (HS.out _ hM.out.ext) (fun hHeld => ?_)
    clear hK K
    refine wpAnyH_ready (rs := [4]) (by kernel_rfl) (by simp) ?_
    refine AllReadyH.make rfl rfl (.const (.int .i64 0)) (.tmp 30) 22 rfl (.int .i64 0) (.int .i64 ((ln : Int) + 1)) (by simp [Act.eval, Act.put]) (by simp [Act.eval, Act.put]) _ (hM.out.make (ln + 1) hln1 _ (by omega)) ?_ AllReadyH.nil
    intro v wx hm
    have hM := Lib.hid hm
    clear hm
    refine ⟨HS.out _ hM.out.ext, fun hHeld => ?_⟩
    refine wpAnyH_ready (rs := [7]) (by kernel_rfl) (by simp) ?_
    refine AllReadyH.cons rfl ?_ AllReadyH.nil
    intro K hK
    refine step_app rfl (.tmp 31) (.tmp 33) 22 rfl v (.slice A ln c) (by simp [Act.eval, Act.put]) (by simp [Act.eval, Act.put]) _ (hM.out.app1 HD.out hNQ hQ hlnl _) ?_
    rintro v wx hm
    have hM := Lib.hid hm
    clear hm
    refine hK.out _ _ (HS.out _ hM.out.ext) (fun hHeld => ?_)
    clear hK K
    rotate_left 1
    all_goals
      refine wpAnyH_ready (rs := [12]) (by kernel_rfl) (by simp) (AllReadyH.cons rfl ?_ AllReadyH.nil)
      intro K hK
      refine step_app rfl (.tmp 34) (.tmp 38) 22 rfl v (.slice (some ⟨Z, 0, none⟩) 1 1) (by simp [Act.eval, Act.put]) (by simp [Act.eval, Act.put]) _ (hM.out.app2 (Z := Z) (Y := Y) (by simp) (by simp) hQ hlnl _) ?_
      rintro v wx ⟨hm, A9, c9, rfl⟩
      rw [HLn.out] at hm ⊢
      obtain ⟨x3, xf, hbox⟩ := hm.box hQ HB.out
      have hM := Lib.hid hm
      have HX := Lib.hid hbox
      clear hm hbox
      refine hK.out _ _ (HS.out _ hM.out.ext) (fun hHeld => ?_)
      clear hK K
      refine wpAnyH_take (i := 13) (v := ?_) rfl (by kernel_rfl) (by kernel_rfl) (by kernel_rfl) (fun _ _ _ h => h) (Or.inl ⟨by rfl, ?_⟩) (by assumption) ?_
      rotate_left 1
      · (intro w hSw; (try dsimp only at hSw); go_simp <;> (with_reducible rfl))
      refine wpAnyH_ready (rs := [14]) (by kernel_rfl) (by simp) (AllReadyH.cons rfl ?_ AllReadyH.nil)
      intro K hK
      go_simp
      have hfin := HX.out _ rfl
      refine hK.out _ _ ((cell_block ((Only.setCell (F := fun i => i = M + 1) wx rfl 3 _).block N (by have := hM.out.le; omega) (by omega)) ⟨N, 3, none⟩ rfl).trans (HS.out _ hM.out.ext)) (fun hHeld => ?_)
      clear hK K
      refine wpAnyH_done (by kernel_rfl) ?_ _
      go_wp2_with fail
      go_meet
      case rel => exact ⟨A9, c9, hfin⟩
  case rest =>
  obtain ⟨A9, c9, hrow9, hb9, hbx9⟩ := hcut
  obtain ⟨w6, e6⟩ : ∃ x, x = wc := ⟨_, rfl⟩
  subst e6
  have hw6 : Below w.heap.size w w6 := HF.out.1.trans (hb9.mono (by omega))
  have h36 : Below w3.heap.size w3 w6 := HF.out.2.2.1.trans (hb9.mono (by rw [HEM.out]; omega))
  have hR6 := HF.out.2.1.below RuP.keeps h36
  have hbM6 := (hb9.block M (by omega)).trans HF.out.2.2.2.1
  have hM6 := heap_lt hbM6
  obtain ⟨q0, q1, q2, q3, q4⟩ := (box_facts hbx9).1
  have hT := TreeAt.mk (i := t.line) hrow9 HFi.out
  have HT := Lib.hid (rules_any (addT t) _ w6 (fun k => k < w6.heap.size) hT (fun _ h => h) (by rw [size_add]; omega))
  have H6 := Lib.hid (And.intro hw6 (And.intro hR6 hbM6))
  clear hrow9 hb9 hbx9 hw6 h36 hR6 hbM6 hT hM0 HD HB HS hS5
  go_wp2_with fail
  go_at_call 11
  refine HT.out.mono ?_
  rintro e w7 ⟨fv', fsv', rv', B', he, hF, hS, hR, hb7⟩
  obtain ⟨R', eR'⟩ : ∃ R, (rulesOut (resOut (addT t))).2.2.2.1 = R := ⟨_, rfl⟩
  obtain ⟨s1, es1⟩ : ∃ y, (rulesOut (resOut (addT t))).2.1 = y := ⟨_, rfl⟩
  obtain ⟨er1, eer1⟩ : ∃ y, (rulesOut (resOut (addT t))).2.2.2.2.2 = y := ⟨_, rfl⟩
  obtain ⟨li1, eli1⟩ : ∃ y, (rulesOut (resOut (addT t))).2.2.2.2.1 = y := ⟨_, rfl⟩
  rw [es1, eer1, eli1] at he
  rw [eR'] at hR
  obtain ⟨A12, c12, rfl⟩ := hS.form
  obtain ⟨A13, c13, rfl⟩ := hR.form
  obtain ⟨A14, c14, rfl, -, -⟩ := hF.form
  obtain ⟨-, hc131, hc132, -⟩ := SlAt.get hR
  subst he
  obtain ⟨nr', enr'⟩ : ∃ y, R'.length = y := ⟨_, rfl⟩
  obtain ⟨n12, en12⟩ : ∃ y, (rulesOut (resOut (addT t))).2.2.1.length = y := ⟨_, rfl⟩
  obtain ⟨n14, en14⟩ : ∃ y, (rulesOut (resOut (addT t))).1.length = y := ⟨_, rfl⟩
  rw [enr'] at hR hc131
  rw [enr', en12, en14]
  have hal8 := below_alloc9 w7 (.cells #[.int .i64 s1, .slice A12 n12 c12, .slice A13 nr' c13] 31)
  have hbx8 := heap_alloc_new w7 (.cells #[.int .i64 s1, .slice A12 n12 c12, .slice A13 nr' c13] 31)
  obtain ⟨w8, e8⟩ : ∃ w8, w7.alloc (.cells #[.int .i64 s1, .slice A12 n12 c12, .slice A13 nr' c13] 31) = w8 := ⟨_, rfl⟩
  rw [e8] at hal8 hbx8
  obtain ⟨Y, eY⟩ : ∃ y, w7.heap.size = y := ⟨_, rfl⟩
  rw [eY] at hbx8
  have h68 : Below w6.heap.size w6 w8 := hb7.trans (hal8.mono hb7.size)
  have hw8 : Below w.heap.size w w8 := H6.out.1.trans (h68.mono H6.out.1.size)
  have hR8 := H6.out.2.1.below RuP.keeps h68
  have hR8' := hR.below RuP.keeps hal8
  have hbM8 := (h68.block M hM6).trans H6.out.2.2
  have HE8 := Lib.hid e8
  have HY := Lib.hid eY
  obtain ⟨a0, a1, a2⟩ := box3c hbM8
  obtain ⟨b0, b1, b2⟩ := box3c hbx8
  have H8 := Lib.hid (And.intro hw8 (And.intro hR8 (And.intro hR8' (And.intro hbM8 hbx8))))
  obtain ⟨eR, es0, eer0, eli0⟩ := HO.out
  rcases rules_out t (by omega) with ⟨ln', er, hne, ho⟩ | ⟨F, q, hO⟩
  · rw [ho] at eer0
    obtain rfl : er = er0 := eer0
    have d0 : (er != 0) = true := by simp [hne]
    clear hne ho eR es0 eli0 eR' es1 eer1 eli1 hS hF hR hb7 hal8 hbx8 h68 hw8 hR8 hR8' hbM8 e8 eY en12 en14 enr' q0 q1 q2 q3 q4 hc131 hc132
    by_cases d1 : (er == er1) = true
    · go_upto_region 8 with fail
      rw [HE8.out, HY.out]
      go_wp2
      go_ret
      exact ⟨by first | rfl | simp, H8.out.1⟩
    · have d1 : (er == er1) = false := by simpa using d1
      go_upto_region 8 with fail
      rw [HE8.out, HY.out]
      go_wp2
      go_ret
      exact ⟨by first | rfl | simp, H8.out.1⟩
  obtain ⟨hO', hse, h32⟩ := sys_add hO (by omega)
  have hsig := sys_sig hO hO' h32 eR eR'
  have hst := hO.cx.sets
  rw [hO.out] at es0 eer0
  rw [hO'.out] at es1 eer1
  simp only at es0 eer0 es1 eer1
  obtain rfl : s1 = s0 + 2 := by rw [← es1, hse, es0]
  subst eer0 eer1
  rw [es0] at hst
  have hlen : nr' = nr := by rw [← enr', ← HF.out.2.2.2.2.1, ← List.length_map (f := sigF), ← hsig, List.length_map]
  subst hlen
  have hcc3 := HF.out.2.2.2.2.2
  have u1 : IntKind.i64.wrap (s0 + 2) = s0 + 2 := IntWalk.i64_in _ (by omega)
  have hc3 : c3 ≤ 9223372036854775807 := hcc3.2
  have hc13 : c13 ≤ 9223372036854775807 := hc132
  have HG := Lib.hid hsig
  have hz8 := heap_lt hbM8
  have hz8' := heap_lt hbx8
  clear hO hO' hse h32 hsig hst eR es0 eli0 eR' es1 eli1 hS hF hR hb7 hal8 hbx8 h68 hw8 hR8 hR8' hbM8 e8 eY en12 en14 enr' q0 q1 q2 q3 q4
  go_upto_region 8 with fail
  rw [HE8.out, HY.out]
  go_wp2_with fail
  go_loopw [13] (fun i wr => ∃ (k : Nat), k ≤ nr' ∧ i = .int .i64 k ∧ Below w8.heap.size w8 wr) (fun i _ => nr' - (intOf i).toNat)
  case atStart => exact ⟨0, Nat.zero_le _, rfl, Below.refl _ _⟩
  case round =>
    obtain ⟨k, hk, rfl, hb⟩ := hrel
    clear a0 a1 a2 b0 b1 b2
    obtain ⟨a0, a1, a2⟩ := box3c ((hb.block M hz8).trans H8.out.2.2.2.1)
    obtain ⟨b0, b1, b2⟩ := box3c ((hb.block Y hz8').trans H8.out.2.2.2.2)
    by_cases hlt : k < nr'
    · have g1 : (k : Int) < nr' := by omega
      have g2 : k < c3 := by omega
      have g3 : k < c13 := by omega
      obtain ⟨-, -, -, hget⟩ := SlAt.get (H8.out.2.1.below RuP.keeps hb)
      obtain ⟨g, off, r, cs, rfl, hg, hr, ⟨vl, rfl, ⟨Al, cl, rfl, -, -⟩, -⟩, hc⟩ := hget k hlt
      obtain ⟨-, -, -, hget'⟩ := SlAt.get (H8.out.2.2.1.below RuP.keeps hb)
      obtain ⟨g', off', r', cs', rfl, hg', hr', ⟨vl', rfl, ⟨Al', cl', rfl, -, -⟩, -⟩, hc'⟩ := hget' k hlt
      have hcc : ∀ j v, j < 9 → (ruV r (.slice Al r.l.length cl))[j]? = some v → wr.cell? ⟨g, off + k * 9 + j, none⟩ = some v := fun j v hj hv => (hc j hj).trans hv
      have hcc' : ∀ j v, j < 9 → (ruV r' (.slice Al' r'.l.length cl'))[j]? = some v → wr.cell? ⟨g', off' + k * 9 + j, none⟩ = some v := fun j v hj hv => (hc' j hj).trans hv
      have x0 := hcc 0 _ (by decide) rfl
      have x1 := hcc 1 _ (by decide) rfl
      have x6 := hcc 6 _ (by decide) rfl
      have x7 := hcc 7 _ (by decide) rfl
      have y0 := hcc' 0 _ (by decide) rfl
      have y1 := hcc' 1 _ (by decide) rfl
      have y6 := hcc' 6 _ (by decide) rfl
      have y7 := hcc' 7 _ (by decide) rfl
      rw [Nat.add_zero] at x0 y0
      obtain ⟨f1, f2, f3, f4⟩ := sig_get HG.out hr hr'
      rw [← f1] at y0
      rw [← f4] at y1
      rw [← f2] at y6
      rw [← f3] at y7
      obtain ⟨kd, ekd⟩ : ∃ y, r.kd = y := ⟨_, rfl⟩
      obtain ⟨fn, efn⟩ : ∃ y, r.f = y := ⟨_, rfl⟩
      obtain ⟨mm, emm⟩ : ∃ y, r.m = y := ⟨_, rfl⟩
      obtain ⟨ss, ess⟩ : ∃ y, bs r.s = y := ⟨_, rfl⟩
      rw [ekd] at x0 y0
      rw [efn] at x1 y1
      rw [emm] at x6 y6
      rw [ess] at x7 y7
      have m1 : (kd != kd) = false := by simp
      have m2 : (fn != fn) = false := by simp
      have m3 : (mm != mm) = false := by simp
      have HN := Lib.hid hb
      clear hget hget' hr hr' hc hc' hcc hcc' hb f1 f2 f3 f4 ekd efn emm ess hg hg'
      go_wp2_with fail
      go_quiet (fail)
      go_wp2
      go_roundw
      case rel => exact ⟨k + 1, by omega, by go_num, below_drewN HN.out nq⟩
      case measure => simp [intOf]; omega
    · have g1 : ¬ (k : Int) < nr' := by omega
      have HW := Lib.hid (H8.out.1.trans (hb.mono H8.out.1.size))
      clear hb
      go_wp2
      go_ret
      exact ⟨by first | rfl | simp, by first | exact HW.out | (rw [← eN]; exact HW.out)⟩
end Go.Proofs.YtikbfoichhkeaaaGreat
namespace Go.Proofs.YtikbfoichhkeaaaGreat.rulesMore
open Go.ChangeShapes Go.WideShapes Go.ChangeAt Go.RowKit
open Go.ChangeMaps (open_string shut_string)
set_option maxRecDepth 100000 in
theorem lifted (os : Os) (started : os.Started) (H : Type) (enc : TypeId × Value → H) :
    ReturnsInHanded {} Tryz.checked os 7 .any (Rows.rulesMoreSpec.pre6 enc Tryz.prog Tryz.f7 Rows.rulesMoreRow.domain false) (Rows.rulesMoreSpec.post enc Tryz.prog Tryz.f7 false true false false) := by
  refine returnsInHanded_of_change (C := Tryz.checked) ownK started (by kernel_rfl) Tryz.func7
    (ChangeSpec.witness6 (enc := enc) (C := Tryz.checked) false ⟨#[], #[.agg #[.int .i64 0, .string ByteArray.empty, .int .i64 0, .slice none 0 0, .int .i64 0]], []⟩ 8 (by kernel_rfl) (by kernel_rfl) (by kernel_rfl) (by kernel_rfl)) ?_
  intro W base args ds gs before hval0 hW hcnd _
  have hval : ∀ (j : Nat) t v, Tryz.f7.params[j]? = some t → args[j]? = some v → Value.okWide Tryz.prog W .any base t v := hval0
  have hW' := hW
  obtain ⟨p, q, hA0, hV, rfl, hfz, hnd⟩ := hW
  have hA : DataW.TrodAll enc Tryz.prog W 0 (fun _ => true) true Tryz.f7.params.toList args.toList ds p := hA0
  rw [Tryz.params7] at hA hval
  obtain ⟨v0, vs0, d0, ds0, p0, q0, hargs, rfl, rfl, h0, r0⟩ := trodAll_cons hA
  obtain ⟨rfl, rfl, rfl⟩ := trodAll_nil r0
  obtain rfl : args = #[v0] := by cases args; simp_all
  obtain ⟨rfl, rfl⟩ := trodVars_none hV
  obtain ⟨a0, w0⟩ := open_node (hval 0 24 v0 rfl rfl) h0
  clear hA0 hval0
  simp only [List.append_nil] at hW'
  refine ((rmore_any a0 v0 W w0)).mono fun e W' ⟨he, bel⟩ => ?_
  subst he
  exact ⟨_, rfl, _, _, _, [], _, [], hW', trodAll_mk1 (shut_bool Tryz.underlying4 _), (trodAll_cons_mk (Below.trod laidOut (by kernel_rfl) (of_decide_eq_true (by kernel_rfl)) h0 bel (node_lt h0)) trodAll_mk0), rfl, bel.frame _, fun h => by cases h⟩
theorem over : Rows.rulesMoreRow.holds Tryz.pinned (OpenSpec.ofChange Rows.rulesMoreSpec) :=
  OpenClaim.holds_of_wide 7 Tryz.f7 rfl rfl rfl rfl rfl rfl rfl ⟨rfl, rfl, rfl, rfl, rfl⟩ rfl rfl rfl rfl rfl (by kernel_rfl) Tryz.func7 (by kernel_rfl)
    (of_decide_eq_true (by kernel_rfl)) (by unfold Func.isWrapper; first | (rw [if_pos (by decide +kernel)]; kernel_rfl) | (rw [if_neg (by decide +kernel)]; exact ⟨rfl, rfl⟩))
    (fun os started H enc _ => lifted os started H enc)
theorem proved : Rows.RulesMoreSaid := over
#print axioms proved
end Go.Proofs.YtikbfoichhkeaaaGreat.rulesMore
