/- The document's resolving: what it comes to. No program. The document's walker: where it lies; find, fail. Rows of trees that are gathered while the walker's rows turn; what the document's tree, function do. A function more behind the walker's functions. -/
import Derived.Test.YtbpodijcndglgaaPr44
set_option linter.unusedSimpArgs false
set_option linter.unusedVariables false
set_option maxRecDepth 100000
set_option maxHeartbeats 4000000
namespace Go.Proofs.Ytbpodijcndglgaa
theorem mem_withN (l : List Bs) (s x : Bs) : x ∈ withN l s ↔ x ∈ l ∨ x = s := by
 unfold withN
 split
 ·rename_i h
  exact ⟨.inl, fun h' => h'.elim id (fun e => e ▸ h)⟩
 ·simp
mutual
theorem mem_decl : ∀ (t : Tr) (out : List Bs) (x : Bs), x ∈ decl t out ↔ x ∈ out ∨ x ∈ decl t []
 | .mk op s n line l, out, x => by
  simp only [decl]
  have h1 : ∀ o : List Bs, x ∈ (if op = 30 ∨ op = 35 ∨ op = 38 ∨ op = 41 then withN o s else o) ↔ x ∈ o ∨ ((op = 30 ∨ op = 35 ∨ op = 38 ∨ op = 41) ∧ x = s) := fun o => by
   split
   ·rename_i h
    rw [mem_withN]
    simp [h]
   ·rename_i h
    simp [h]
  split
  ·rw [h1, h1 []]
   simp
  ·rw [mem_decls l _ x, h1, mem_decls l (if op = 30 ∨ op = 35 ∨ op = 38 ∨ op = 41 then withN [] s else []) x, h1 []]
   simp [or_assoc]
theorem mem_decls : ∀ (l : List Tr) (out : List Bs) (x : Bs), x ∈ decls l out ↔ x ∈ out ∨ x ∈ decls l []
 | [], out, x => by simp [decls]
 | t :: r, out, x => by
  simp only [decls]
  rw [mem_decls r (decl t out) x, mem_decl t out x, mem_decls r (decl t []) x, or_assoc]
end
theorem decls_part {l : List Tr} {t : Tr} (h : t ∈ l) {x : Bs} (hx : x ∈ decl t []) : x ∈ decls l [] := by
 induction l with
 | nil => cases h
 | cons a r ih =>
  rw [decls, mem_decls]
  rcases List.mem_cons.1 h with rfl | h
  ·exact .inl hx
  ·exact .inr (ih h)
def Knows (fs : List Fn) (a : Int) (t : Tr) : Prop := ∃ f, fs[a.toNat]? = some f ∧ ∀ s ∈ decl t [], s ∈ f.vars
theorem Knows.part {fs : List Fn} {a : Int} {t p : Tr} (h : Knows fs a t) (hf : isFun t.op = false) (hp : p ∈ t.l) : Knows fs a p := by
 obtain ⟨f, h1, h2⟩ := h
 refine ⟨f, h1, fun s hs => h2 s ?_⟩
 cases t with | mk op s' n line l =>
 rw [decl, show isFun op = false from hf]
 simp only [Bool.false_eq_true, if_false]
 rw [mem_decls]
 exact .inr (decls_part hp hs)
theorem Knows.more {fs more : List Fn} {a : Int} {t : Tr} (h : Knows fs a t) : Knows (fs ++ more) a t := by
 obtain ⟨f, h1, h2⟩ := h
 exact ⟨f, by rw [List.getElem?_append_left (List.getElem?_eq_some_iff.1 h1).1]; exact h1, h2⟩
theorem find_in {fs : List Fn} {a : Int} {f : Fn} {s : Bs} (ha : 0 ≤ a) (hf : fs[a.toNat]? = some f) (hs : s ∈ f.vars) : ∃ v, findN fs fs.length a s = some v ∧ 0 ≤ v := by
 obtain ⟨k, hk⟩ : ∃ k, fs.length = k + 1 := ⟨fs.length - 1, by have := (List.getElem?_eq_some_iff.1 hf).1; omega⟩
 rw [hk, findN, if_neg (by omega), hf]
 cases h : f.vars.idxOf? s with
 | none => exact absurd hs (List.idxOf?_eq_none_iff.1 h)
 | some i => exact ⟨1000 * a + i, by simp [h], by omega⟩
theorem Knows.find {fs : List Fn} {a : Int} {t : Tr} (h : Knows fs a t) (ha : 0 ≤ a) (ho : t.op = 30 ∨ t.op = 35 ∨ t.op = 38) : ∃ v, findN fs fs.length a t.s = some v ∧ 0 ≤ v := by
 obtain ⟨f, h1, h2⟩ := h
 refine find_in ha h1 (h2 _ ?_)
 cases t with | mk op s n line l =>
 have ho : op = 30 ∨ op = 35 ∨ op = 38 := ho
 have hs : s ∈ (if op = 30 ∨ op = 35 ∨ op = 38 ∨ op = 41 then withN [] s else []) := by
  rw [if_pos (by omega), mem_withN]
  exact .inr rfl
 show s ∈ decl (.mk op s n line l) []
 simp only [decl]
 split
 ·exact hs
 ·rw [mem_decls]
  exact .inl hs
def numd (fs : List Fn) (me : Int) (p : Tr) : Tr := .mk p.op p.s ((findN fs fs.length me p.s).getD (-1)) p.line p.l
theorem params_res (w : WS) (me : Int) (r : List Tr) : ∀ (ps : List Tr), (∀ p ∈ ps, p.op = 1 ∧ p.l = [] ∧ ∃ v, findN w.funs w.funs.length me p.s = some v ∧ 0 ≤ v) →
  resL (ps ++ r) me false w = match resL r me false w with
   | .error x => .error x
   | .ok (r', w') => .ok (ps.map (numd w.funs me) ++ r', w')
 | [], _ => by
  rw [List.nil_append]
  cases resL r me false w with
  | error x => rfl
  | ok x => rfl
 | p :: ps, h => by
  obtain ⟨h1, h2, v, h3, -⟩ := h p (List.mem_cons_self ..)
  have hp : resT p me false w = .ok (numd w.funs me p, w) := by
   cases p with | mk op s n line l =>
   have k1 : op = 1 := h1
   have k2 : l = [] := h2
   have k3 : findN w.funs w.funs.length me s = some v := h3
   clear h1 h2 h3
   subst k1 k2
   rw [resT, if_neg (show ¬ isFun 1 = true by decide), if_neg (by decide), if_pos (.inl rfl), k3]
   simp [resL, nodeE, numd, k3]
  rw [List.cons_append, resL, hp]
  simp only
  rw [params_res w me r ps (fun q hq => h q (List.mem_cons_of_mem _ hq))]
  cases resL r me false w with
  | error x => rfl
  | ok x => rfl
theorem fun_res (t : Tr) (xs : List Tr) (b : Tr) (a : Int) (loop : Bool) (ws : WS) (f : Fn) (hl : t.l = xs ++ [b]) (hf : isFun t.op = true) (hw : 0 < ws.funs.length) (ef : openF t.op t.s t.l a ws.mark = f)
  (hps : ∀ p ∈ xs, p.op = 1 ∧ p.l = [] ∧ p.s ∈ f.vars) :
  resT t a loop ws = if ws.funs.length = 500 ∨ 200 < f.vars.length then .error (t.line, 52) else match resT b ws.funs.length false ⟨ws.funs ++ [f], ws.mark + 2⟩ with
   | .error x => .error x
   | .ok (b', w') => .ok (.mk t.op t.s ws.funs.length t.line (xs.map (numd (ws.funs ++ [f]) ws.funs.length) ++ [b']), w') := by
 cases t with | mk op s n line l =>
 have hl : l = xs ++ [b] := hl
 have hf : isFun op = true := hf
 have ef : openF op s l a ws.mark = f := ef
 rw [resT, if_pos hf]
 simp only [ef]
 show _ = if ws.funs.length = 500 ∨ 200 < f.vars.length then Except.error (line, 52) else _
 by_cases hc : ws.funs.length = 500 ∨ 200 < f.vars.length
 ·rw [if_pos hc, if_pos hc]
 ·rw [if_neg hc, if_neg hc, if_neg (show ¬ ws.funs.length = 0 by omega), hl]
  have hfi : (ws.funs ++ [f])[((ws.funs.length : Nat) : Int).toNat]? = some f := by
   rw [show ((ws.funs.length : Nat) : Int).toNat = ws.funs.length by omega, List.getElem?_append_right (Nat.le_refl _)]
   simp
  rw [params_res ⟨ws.funs ++ [f], ws.mark + 2⟩ ws.funs.length [b] xs (fun p hp => ⟨(hps p hp).1, (hps p hp).2.1, find_in (by omega) hfi (hps p hp).2.2⟩)]
  simp only [resL]
  cases resT b ws.funs.length false ⟨ws.funs ++ [f], ws.mark + 2⟩ with
  | error x => rfl
  | ok x => rfl
mutual
theorem resT_bnd : ∀ (t : Tr) (a : Int) (loop : Bool) (w : WS) (t' : Tr) (w' : WS), resT t a loop w = .ok (t', w') → 0 < w.funs.length → w.funs.length ≤ 500 → w'.funs.length ≤ 500 ∧ w'.mark ≤ w.mark + 2 * t.size
 | .mk op s n line l, a, loop, w, t', w', h, h0, h5 => by
  rw [Tr.size]
  unfold resT at h
  split at h
  ·simp only at h
   split at h
   ·cases h
   ·rename_i hv
    obtain ⟨l', hL, rfl⟩ := nodeE_ok h
    rw [if_neg (by omega)] at hL
    have := resL_bnd l _ _ _ _ _ hL (by simp) (by simp; omega)
    exact ⟨this.1, by have := this.2; simp only at this; omega⟩
  ·split at h
   ·obtain ⟨l', hL, rfl⟩ := nodeE_ok h
    have := resL_bnd l _ _ _ _ _ hL h0 h5
    exact ⟨this.1, by have := this.2; simp only at this; omega⟩
   ·split at h
    ·split at h
     ·cases h
     ·obtain ⟨l', hL, rfl⟩ := nodeE_ok h
      have := resL_bnd l _ _ _ _ _ hL h0 h5
      exact ⟨this.1, by have := this.2; omega⟩
    ·split at h
     ·cases h
     ·obtain ⟨l', hL, rfl⟩ := nodeE_ok h
      have := resL_bnd l _ _ _ _ _ hL h0 h5
      exact ⟨this.1, by have := this.2; omega⟩
theorem resL_bnd : ∀ (l : List Tr) (a : Int) (loop : Bool) (w : WS) (l' : List Tr) (w' : WS), resL l a loop w = .ok (l', w') → 0 < w.funs.length → w.funs.length ≤ 500 → w'.funs.length ≤ 500 ∧ w'.mark ≤ w.mark + 2 * sizes l
 | [], _, _, w, l', w', h, _, h5 => by
  unfold resL at h
  cases h
  exact ⟨h5, by rw [sizes]; omega⟩
 | t :: r, a, loop, w, l', w', h, h0, h5 => by
  rw [sizes]
  unfold resL at h
  split at h
  ·cases h
  ·rename_i t1 w1 hT
   split at h
   ·cases h
   ·rename_i l1 w2 hL
    cases h
    have h1 := len_more (resT_ok t _ _ _ _ _ hT (by omega)).1
    have h2 := resT_bnd t _ _ _ _ _ hT h0 h5
    have h3 := resL_bnd r _ _ _ _ _ hL (by omega) h2.1
    exact ⟨h3.1, by omega⟩
end
theorem resL_snoc9 (t : Tr) (a : Int) (loop : Bool) : ∀ (l : List Tr) (w : WS), resL (l ++ [t]) a loop w = match resL l a loop w with
  | .error x => .error x
  | .ok (l', w') => match resT t a loop w' with
   | .error x => .error x
   | .ok (t', w'') => .ok (l' ++ [t'], w'')
 | [], w => by
  simp only [List.nil_append, resL]
  cases resT t a loop w with
  | error x => rfl
  | ok x => rfl
 | y :: r, w => by
  simp only [List.cons_append, resL]
  cases resT y a loop w with
  | error x => rfl
  | ok x =>
   obtain ⟨y', w1⟩ := x
   simp only
   rw [resL_snoc9 t a loop r w1]
   cases resL r a loop w1 with
   | error x => rfl
   | ok x =>
    obtain ⟨l', w2⟩ := x
    simp only
    cases resT t a loop w2 with
    | error x => rfl
    | ok x => rfl
theorem resL_err_app9 (l r : List Tr) (a : Int) (loop : Bool) : ∀ (w : WS) (x : Int × Int), resL l a loop w = .error x → resL (l ++ r) a loop w = .error x := by
 induction l with
 | nil => intro w x h; rw [resL] at h; cases h
 | cons y q ih =>
  intro w x h
  rw [List.cons_append, resL]
  rw [resL] at h
  cases hy : resT y a loop w with
  | error z => rw [hy] at h; cases h; rfl
  | ok z =>
   obtain ⟨y', w1⟩ := z
   rw [hy] at h
   simp only at h ⊢
   cases hq : resL q a loop w1 with
   | error z =>
    rw [hq] at h
    cases h
    rw [ih w1 _ hq]
   | ok z => rw [hq] at h; cases h
def Out5 (r : Except (Int × Int) (Tr × WS)) (t' : Tr) (ws' : WS) (e l : Int) : Prop := match r with
 | .error (l', er) => er ≠ 0 ∧ e = er ∧ l = l'
 | .ok (t1, w1) => t' = t1 ∧ ws' = w1 ∧ e = 0 ∧ l = 0
section
open Go.RowKit Go.Proofs
structure WkAt (W : World) (R B : Nat) (ws : WS) (e l : Int) (fv : Value) : Prop where
 head : W.heap[R]? = some (.cells #[fv, .int .i64 ws.mark, .int .i64 e, .int .i64 l] 54 (0, 0))
 funs : FunsV W B fv ws.funs
theorem four_facts {W : World} {b : Nat} {u0 u1 u2 u3 : Value} {T : TypeId} (h : W.heap[b]? = some (.cells #[u0, u1, u2, u3] T (0, 0))) :
  (W.cell? ⟨b, 0, none⟩ = some u0 ∧ W.cell? ⟨b, 1, none⟩ = some u1 ∧ W.cell? ⟨b, 2, none⟩ = some u2 ∧ W.cell? ⟨b, 3, none⟩ = some u3) ∧
   (W.frozen? ⟨b, 0, none⟩ = false ∧ W.frozen? ⟨b, 1, none⟩ = false ∧ W.frozen? ⟨b, 2, none⟩ = false ∧ W.frozen? ⟨b, 3, none⟩ = false) :=
 ⟨⟨cell_of_row _ _ 0 _ _ _ h, cell_of_row _ _ 1 _ _ _ h, cell_of_row _ _ 2 _ _ _ h, cell_of_row _ _ 3 _ _ _ h⟩, by simp [World.frozen?, h], by simp [World.frozen?, h], by simp [World.frozen?, h], by simp [World.frozen?, h]⟩
theorem FunsV.typed {W : World} {B : Nat} {v : Value} {fs : List Fn} (h : FunsV W B v fs) {k : Nat} (hk : v.ownBlock = some k) : B ≤ k ∧ k < W.heap.size ∧ ∃ cs, W.heap[k]? = some (.cells cs 41 (0, 0)) := by
 obtain ⟨L, h1, h2, h3⟩ := h
 exact ⟨(own_lt h2 hk).1, (own_lt h2 hk).2, row_blk (row_zero h2) hk⟩
theorem FunsV.only {W W' : World} {B : Nat} {v : Value} {fs : List Fn} {F : Nat → Prop} (h : FunsV W B v fs) (ho : Only F W W') (hF : ∀ k, F k → ∀ cs, W.heap[k]? ≠ some (.cells cs 41 (0, 0)) ∧ W.heap[k]? ≠ some (.cells cs 9 (0, 0))) : FunsV W' B v fs := by
 obtain ⟨L, h1, h2, h3⟩ := h
 refine ⟨L, h1, ⟨h2.1, h2.2.imp id fun ⟨g, cap, cur, e1, e2, e3, e4⟩ => ⟨g, cap, cur, e1, e2, (ho.block g (heap_lt e3) (fun hg => (hF g hg cur).1 e3)).trans e3, e4⟩⟩, fun q hq => ?_⟩
 have h9 := h3 q hq
 exact ⟨h9.1, h9.2.imp id fun ⟨g, cap, cur, e1, e2, e3, e4⟩ => ⟨g, cap, cur, e1, e2, (ho.block g (heap_lt e3) (fun hg => (hF g hg cur).2 e3)).trans e3, e4⟩⟩
theorem idx_none9 {l : List Bs} {s : Bs} (h : ∀ j, j < l.length → l[j]? ≠ some s) : l.idxOf? s = none := by
 rw [List.idxOf?_eq_none_iff]
 intro hm
 obtain ⟨j, hj⟩ := List.mem_iff_getElem?.1 hm
 exact h j (List.getElem?_eq_some_iff.1 hj).1 hj
theorem idx_some9 {l : List Bs} {s : Bs} {k : Nat} (hk : l[k]? = some s) (h : ∀ j, j < k → l[j]? ≠ some s) : l.idxOf? s = some k := by
 unfold List.idxOf?
 rw [List.findIdx?_eq_some_iff_getElem]
 obtain ⟨h1, h2⟩ := List.getElem?_eq_some_iff.1 hk
 refine ⟨h1, by simpa using h2, fun j hj => ?_⟩
 have := h j hj
 rw [List.getElem?_eq_getElem (by omega)] at this
 simpa using this
theorem findN_neg (fs : List Fn) (k : Nat) (a : Int) (s : Bs) (h : a < 0) : findN fs k a s = none := by
 cases k with
 | zero => rfl
 | succ k => rw [findN, if_pos h]
def Earlier (fs : List Fn) : Prop := fs.length ≤ 500 ∧ ∀ (i : Nat) (f : Fn), fs[i]? = some f → f.around < i ∧ f.vars.length ≤ 200
theorem findN_le {fs : List Fn} (hE : Earlier fs) (s : Bs) : ∀ (k : Nat) (a : Int) (v : Int), findN fs k a s = some v → 0 ≤ v ∧ v ≤ 1000000
 | 0, a, v, h => by rw [findN] at h; cases h
 | k + 1, a, v, h => by
  rw [findN] at h
  split at h
  ·cases h
  ·rename_i ha
   split at h
   ·cases h
   ·rename_i f hf
    have hl := (List.getElem?_eq_some_iff.1 hf).1
    have h5 := hE.1
    split at h
    ·rename_i i hi
     cases h
     have := (hE.2 _ f hf).2
     have hi2 : i < f.vars.length := by
      unfold List.idxOf? at hi
      exact (List.findIdx?_eq_some_iff_getElem.1 hi).1
     omega
    ·exact findN_le hE s k _ v h
theorem Inv.earlier {ws : WS} (h : Inv ws) (h5 : ws.funs.length ≤ 500) : Earlier ws.funs := ⟨h5, fun i f hf => ⟨(h.2 i f hf).1, (h.2 i f hf).2.2.1⟩⟩
theorem numd_fine {fs : List Fn} (hE : Earlier fs) (me : Int) (p : Tr) : -1 ≤ (findN fs fs.length me p.s).getD (-1) ∧ (findN fs fs.length me p.s).getD (-1) ≤ 1000000 := by
 cases h : findN fs fs.length me p.s with
 | none => exact ⟨by decide, by decide⟩
 | some v => have := findN_le hE p.s _ _ _ h; exact ⟨by show -1 ≤ v; omega, this.2⟩
theorem find_any (W : World) (R B : Nat) (ws : WS) (e l : Int) (fv : Value) (h : WkAt W R B ws e l fv) (a : Int) (s : Bs) (hE : Earlier ws.funs) (ha : a < ws.funs.length) :
  Calls Try.prog 33 #[.pointer (some ⟨R, 0, none⟩), .int .i64 a, .string (bs s)] W fun e' W' => e' = .returned (.int .i64 ((findN ws.funs ws.funs.length a s).getD (-1))) ∧ W = W' := by
 obtain ⟨⟨c0, c1, c2, c3⟩, -⟩ := four_facts h.head
 obtain ⟨Af, cf, rfl, hf1, hf2⟩ := h.funs.form
 have hf3 : cf ≤ 9223372036854775807 := hf2
 have H := Lib.hid (And.intro h hE)
 clear h hf2
 have hlen := H.out.2.1
 go_enter Try.func33, Try.ntmps33
 go_wp2
 go_loopw [1, 7, 8] (fun av lv iv wr => ∃ (k : Nat) (a' : Int), av = .int .i64 a' ∧ a' < k ∧ k ≤ ws.funs.length ∧ findN ws.funs k a' s = findN ws.funs ws.funs.length a s ∧ W = wr) (fun av _ _ _ => (intOf av + 1).toNat)
 case atStart => exact ⟨ws.funs.length, a, rfl, ha, Nat.le_refl _, rfl, rfl⟩
 case round =>
  obtain ⟨k, a', rfl, hak, hkl, hfn, rfl⟩ := hrel
  by_cases hneg : a' < 0
  ·have hg : ¬ (0 : Int) ≤ a' := by omega
   have HF := Lib.hid (show findN ws.funs ws.funs.length a s = none by rw [← hfn]; exact findN_neg _ _ _ _ hneg)
   clear hfn
   go_wp2
   go_ret
   exact ⟨by rw [HF.out]; rfl, rfl⟩
  ·have hg : (0 : Int) ≤ a' := by omega
   obtain ⟨n, rfl⟩ : ∃ n : Nat, a' = n := ⟨a'.toNat, by omega⟩
   obtain ⟨f, hfi⟩ : ∃ f, ws.funs[n]? = some f := ⟨_, List.getElem?_eq_getElem (by omega)⟩
   obtain ⟨gf, cf', As, cs, ev, m0, m1, m2, m3, m4, hnm⟩ := H.out.1.funs.get hfi
   injection ev with ea eb ec
   subst ea ec
   obtain ⟨hfe, hfv⟩ := H.out.2.2 n f hfi
   obtain ⟨k, rfl⟩ : ∃ k', k = k' + 1 := ⟨k - 1, by omega⟩
   have hst : findN ws.funs (k + 1) (n : Int) s = match f.vars.idxOf? s with
    | some i => some (1000 * (n : Int) + i)
    | none => findN ws.funs k f.around s := by
    rw [findN, if_neg (by omega), show ((n : Int)).toNat = n by omega, hfi]
    rfl
   rw [hst] at hfn
   have HFn := Lib.hid hfn
   have HNm := Lib.hid hnm
   have hn5 : (n : Int) < ws.funs.length := by omega
   have hw1 : IntKind.i64.wrap (1000 * (n : Int)) = 1000 * (n : Int) := IntWalk.i64_in _ (by omega)
   clear hfn hst hnm
   go_wp2
   go_loopw [8] (fun iv wr => ∃ (j : Nat), iv = .int .i64 j ∧ j ≤ f.vars.length ∧ (∀ i, i < j → f.vars[i]? ≠ some s) ∧ W = wr) (fun iv _ => f.vars.length - (intOf iv).toNat)
   case atStart => exact ⟨0, rfl, Nat.zero_le _, fun i hi => by omega, rfl⟩
   case round =>
    obtain ⟨j, rfl, hj, hno, rfl⟩ := hrel
    by_cases hlt : j < f.vars.length
    ·obtain ⟨x, hx⟩ : ∃ x, f.vars[j]? = some x := ⟨_, List.getElem?_eq_getElem hlt⟩
     obtain ⟨b9, rfl, hs1⟩ := HNm.out j x hx
     have g2 : (j : Int) < f.vars.length := by omega
     have q1 := bs_two x s
     by_cases hxs : x = s
     ·rw [decide_eq_true hxs] at q1
      have hw2 : IntKind.i64.wrap (1000 * (n : Int) + j) = 1000 * (n : Int) + j := IntWalk.i64_in _ (by omega)
      have hi := idx_some9 (show f.vars[j]? = some s by rw [hx, hxs]) hno
      have HF := Lib.hid (show findN ws.funs ws.funs.length a s = some (1000 * (n : Int) + j) by rw [← HFn.out, hi])
      clear hi hno hx hxs
      go_wp2
      go_ret
      exact ⟨by rw [HF.out]; rfl, rfl⟩
     ·rw [decide_eq_false hxs] at q1
      have HF := Lib.hid (show ∀ i, i < j + 1 → f.vars[i]? ≠ some s from fun i hi => by
       by_cases hij : i = j
       ·rw [hij, hx]
        exact fun e => hxs (Option.some.inj e)
       ·exact hno i (by omega))
      clear hno hx hxs
      go_wp2
      go_roundw
      case rel => exact ⟨j + 1, by go_num, by omega, HF.out, by first | rfl | trivial⟩
      case measure => simp [intOf]; omega
    ·have g2 : ¬ (j : Int) < f.vars.length := by omega
     have hi := idx_none9 (l := f.vars) (s := s) (fun i hi => hno i (by omega))
     have HF := Lib.hid (show findN ws.funs k f.around s = findN ws.funs ws.funs.length a s by rw [← HFn.out, hi])
     have hm := HF
     clear hi hno
     obtain ⟨ar, har⟩ : ∃ x, f.around = x := ⟨_, rfl⟩
     rw [har] at m0 HF hfe
     go_wp2
     go_roundw
     case rel => exact ⟨k, ar, rfl, by omega, by omega, HF.out, by first | rfl | trivial⟩
     case measure => simp [intOf]; omega
theorem wfail_any (W : World) (R B : Nat) (ws : WS) (l0 : Int) (fv : Value) (h : WkAt W R B ws 0 l0 fv) (er line : Int) :
  Calls Try.prog 34 #[.pointer (some ⟨R, 0, none⟩), .int .i64 er, .int .i64 line] W fun e' W' => e' = .returned (.tuple #[]) ∧ WkAt W' R B ws er line fv ∧ Only (fun k => k = R) W W' := by
 obtain ⟨⟨c0, c1, c2, c3⟩, ⟨f0, f1, f2, f3⟩⟩ := four_facts h.head
 have hb1 := blk_set h.head 2 (.int .i64 er)
 have ho1 := Only.setCell (F := fun k => k = R) W (b := R) rfl 2 (.int .i64 er)
 obtain ⟨W1, e1⟩ : ∃ x, W.setCell ⟨R, 2, none⟩ (.int .i64 er) = x := ⟨_, rfl⟩
 rw [e1] at hb1 ho1
 simp at hb1
 obtain ⟨⟨d0, d1, d2, d3⟩, ⟨g0, g1, g2, g3⟩⟩ := four_facts hb1
 have hb2 := blk_set hb1 3 (.int .i64 line)
 have ho2 := Only.setCell (F := fun k => k = R) W1 (b := R) rfl 3 (.int .i64 line)
 simp at hb2
 have hF := h.funs.only (ho1.trans' ho2) (fun k hk cs => by
  subst hk
  rw [h.head]
  exact ⟨fun e => by injection e with e; injection e with e1 e2; exact absurd e2 (by decide), fun e => by injection e with e; injection e with e1 e2; exact absurd e2 (by decide)⟩)
 have H := Lib.hid (And.intro (WkAt.mk hb2 hF) (ho1.trans' ho2))
 clear h hb1 hb2 ho1 ho2 hF
 go_enter Try.func34, Try.ntmps34
 go_wp2
 go_end0
 exact ⟨rfl, H.out.1, H.out.2⟩
end
section
open Go.RowKit Go.Proofs
section
variable {P P' F : Nat → Prop} {B : Nat} {w w' : World} {ts : List Tr} {v u : Value} {t : Tr}
theorem AccP.turn (h : AccP P B w ts v) (ho : Only F w w') (hF : ∀ k, k < w.heap.size → (P k ∨ v.ownBlock = some k) → ¬ F k) (hP : ∀ k, k < w.heap.size → P k → v.ownBlock ≠ some k → P' k) : AccP P' B w' ts v := by
 obtain ⟨xs, h1, h2, h3⟩ := h
 refine ⟨xs, h1, ⟨h2.1, h2.2.imp id fun ⟨g, cap, cur, e1, e2, e3, e4⟩ => ⟨g, cap, cur, e1, e2, (ho.block g (heap_lt e3) (hF g (heap_lt e3) (.inr (by rw [e1]; rfl)))).trans e3, e4⟩⟩, fun x hx => (h3 x hx).frame (fun k hk => ⟨⟨hP k hk.1.2 hk.1.1 hk.2, by have := ho.size; have := hk.1.2; omega⟩, hk.2⟩) (fun k hk => ho.block k hk.1.2 (hF k hk.1.2 (.inl hk.1.1)))⟩
theorem AccP.nil : AccP P B w [] (.slice none 0 0) := ⟨[], rfl, World.ownsRow_nil _ _ _ _, fun x hx => by cases hx⟩
theorem AccP.typed (h : AccP P B w ts v) {k : Nat} (hk : v.ownBlock = some k) : ∃ cs, w.heap[k]? = some (.cells cs 24 (0, 0)) := by
 obtain ⟨xs, -, h2, -⟩ := h
 exact row_blk (row_zero h2) hk
theorem AccP.push1 (h : AccP P B w ts v) (ht : TreeAt w (fun k => (P k ∧ k < w.heap.size) ∧ v.ownBlock ≠ some k) t u) (hn : ts.length ≤ 2000000) (hB : B ≤ w.heap.size) (hP : P w.heap.size) (ty : TypeId) (cs : Array Value) (hcs : cs.toList = cellsT u) :
  ∃ v' w', (Builtin.append_ #[22, 22] ty #[v, .slice (some ⟨w.heap.size, 0, none⟩) 1 1]).run Try.prog (w.alloc (.cells cs 24)) = .ok v' w' ∧
   (AccP P B w' (ts ++ [t]) v' ∧ Only (fun k => v.ownBlock = some k) w w' ∧ (∃ A' c', v' = .slice A' (ts.length + 1) c') ∧ ∀ k, v'.ownBlock = some k → v.ownBlock = some k ∨ w.heap.size ≤ k) := by
 have hal : Only (fun _ => False) w (w.alloc (.cells cs 24)) := Only.alloc w _
 have hb : Below w.heap.size w (w.alloc (.cells cs 24)) := below_alloc9 w _
 have hz : (w.alloc (.cells cs 24)).heap.size = w.heap.size + 1 := World.size_alloc _ _
 have h2 : AccP P B (w.alloc (.cells cs 24)) ts v := h.turn hal (fun _ _ _ h => h) (fun _ _ h _ => h)
 have hr : RowAt (w.alloc (.cells cs 24)) (fun k => (P k ∧ k < (w.alloc (.cells cs 24)).heap.size) ∧ v.ownBlock ≠ some k) [t] (.slice (some ⟨w.heap.size, 0, none⟩) 1 1) :=
  RowAt.one (ht.keep (fun k hk => ⟨⟨hk.1.1, by have := hk.1.2; omega⟩, hk.2⟩) (fun k hk => hb.block k hk.1.2)) (heap_alloc_new w _) hcs ⟨⟨hP, by omega⟩, fun e => by have := (h.blk e).2; omega⟩
 obtain ⟨v', w', r1, r2, r3, r4, r5⟩ := h2.pushL hr (by simp; omega) (by omega) ty
 exact ⟨v', w', r1, r2, (hal.mono (fun i hi h => h.elim)).trans' r3, r4, fun k hk => by
  rcases r5 with e | e
  ·exact .inl (e ▸ hk)
  ·rw [e] at hk
   simp at hk
   right
   omega⟩
end
def TreeR (W : World) (R B : Nat) (S : Nat → Prop) (fv : Value) (r : Except (Int × Int) (Tr × WS)) (e : Ending) (W' : World) : Prop :=
 ∃ v' t' ws' er l fv', e = .returned v' ∧ TreeAt W' (fun k => (S k ∨ New W W' k) ∧ fv'.ownBlock ≠ some k) t' v' ∧ WkAt W' R B ws' er l fv' ∧ (∀ k, fv'.ownBlock = some k → fv.ownBlock = some k ∨ W.heap.size ≤ k) ∧ Only (fun k => k = R ∨ fv.ownBlock = some k) W W' ∧ Out5 r t' ws' er l
def TreeOk (t : Tr) : Prop := ∀ (W : World) (R B : Nat) (S : Nat → Prop) (ws : WS) (fv v : Value) (a : Int) (loop : Bool), WkAt W R B ws 0 0 fv → TreeAt W S t v → (∀ k, S k → k < B) → B ≤ R → Inv ws → 0 < ws.funs.length → ws.funs.length ≤ 500 → 0 ≤ a → a < ws.funs.length → Knows ws.funs a t →
 ws.mark + 2 * t.size ≤ 1000000 → good t → t.size ≤ 40000 → Calls Try.prog 22 #[.pointer (some ⟨R, 0, none⟩), v, .int .i64 a, .bool loop] W (TreeR W R B S fv (resT t a loop ws))
theorem WkAt.lt {W : World} {R B : Nat} {ws : WS} {e l : Int} {fv : Value} (h : WkAt W R B ws e l fv) : R < W.heap.size := heap_lt h.head
theorem WkAt.apart {W : World} {R B : Nat} {ws : WS} {e l : Int} {fv : Value} (h : WkAt W R B ws e l fv) {k : Nat} (hk : fv.ownBlock = some k) : B ≤ k ∧ k < W.heap.size ∧ k ≠ R := by
 obtain ⟨h1, h2, cs, h3⟩ := h.funs.typed hk
 refine ⟨h1, h2, fun e => ?_⟩
 rw [e, h.head] at h3
 injection h3 with e
 injection e with e1 e2
 exact absurd e2 (by decide)
theorem WkAt.below {W W' : World} {R B : Nat} {ws : WS} {e l : Int} {fv : Value} (h : WkAt W R B ws e l fv) (hb : Below W.heap.size W W') : WkAt W' R B ws e l fv := ⟨(hb.block R h.lt).trans h.head, h.funs.below hb⟩
end
section
open Go.RowKit Go.Proofs
theorem funs_push {W : World} {B : Nat} {fv sv : Value} {fs : List Fn} (h : FunsV W B fv fs) (f : Fn) (hs : W.ownsRow B 9 1 sv f.vars.length (namesV f.vars)) (hB : B ≤ W.heap.size) (hn : fs.length ≤ 500) :
  ∃ v' w', (Builtin.append_ #[27, 27] 27 #[fv, .slice (some ⟨W.heap.size, 0, none⟩) 1 1]).run Try.prog (W.alloc (.cells #[.int .i64 f.around, .string (bs f.name), .int .i64 f.params, sv, .int .i64 f.mark] 41)) = .ok v' w' ∧
   (FunsV w' B v' (fs ++ [f]) ∧ Only (fun k => fv.ownBlock = some k) W w' ∧ (∃ A c, v' = .slice A (fs.length + 1) c) ∧ ∀ k, v'.ownBlock = some k → fv.ownBlock = some k ∨ W.heap.size ≤ k) := by
 have hty := fun k => h.typed (k := k)
 obtain ⟨L, rfl, h2, h3⟩ := h
 have hal := below_alloc9 W (.cells #[.int .i64 f.around, .string (bs f.name), .int .i64 f.params, sv, .int .i64 f.mark] 41)
 have hZ := heap_alloc_new W (.cells #[.int .i64 f.around, .string (bs f.name), .int .i64 f.params, sv, .int .i64 f.mark] 41)
 have hrow2 := rowBelow9 h2 hal
 rw [List.length_map] at hn
 obtain ⟨i0, j0, j1, j2, j3⟩ := info_parts info43
 obtain ⟨v', w', r1, r2, r3, -, r5⟩ := run_append_own_at (P := Try.prog) _ B 27 27 41 i0 _ 5 64 Try.underlying27 j0 j1 j2 j3 rfl (by decide) fv L.length _ hrow2 ⟨W.heap.size, 0, none⟩ 1 1 (gCells (f, sv)) rfl (fun k u hk => by
  rw [add_mid, cell_of_row _ _ _ _ _ _ hZ]
  simpa [gCells] using hk) (fun u hu => by
   simp only [gCells, List.mem_cons, List.not_mem_nil, or_false] at hu
   rcases hu with rfl | rfl | rfl | hu | rfl
   ·rfl
   ·rfl
   ·rfl
   ·rcases hs.2 with ⟨e, -⟩ | ⟨g9, c9, cur9, e, -⟩ <;> (rw [hu, show sv = _ from e]; rfl)
   ·rfl) (by unfold maxLen; omega) (by omega) (by simp; omega)
 have hon : Only (fun k => fv.ownBlock = some k) W w' := (Only.of_below hal).trans' (Only.grown r3 (fun r hr => hr.symm ▸ rfl))
 have hnames : ∀ (x : Value) (n : Nat) (l : List Value), W.ownsRow B 9 1 x n l → w'.ownsRow B 9 1 x n l := fun x n l hx => ⟨hx.1, hx.2.imp id fun ⟨g, cap, cur, e1, e2, e3, e4⟩ => ⟨g, cap, cur, e1, e2, (hon.block g (heap_lt e3) (fun e => by
  obtain ⟨-, -, cs, hc⟩ := hty g e
  rw [e3] at hc
  injection hc with e
  injection e with e1 e2
  exact absurd e2 (by decide))).trans e3, e4⟩⟩
 refine ⟨v', w', r1, ⟨L ++ [(f, sv)], by simp, by rw [List.length_append, gRow_app]; exact r2, fun q hq => ?_⟩, hon, ?_, fun k hk => ?_⟩
 ·rcases List.mem_append.1 hq with hq | hq
  ·exact hnames _ _ _ (h3 q hq)
  ·rw [List.mem_singleton.1 hq]
   exact hnames _ _ _ hs
 ·rw [List.length_map]
  rcases r2.2 with ⟨-, h0⟩ | ⟨g, cap, cur, e, -⟩
  ·omega
  ·exact ⟨_, _, e⟩
 ·rcases r5 with e | e
  ·exact .inl (e ▸ hk)
  ·rw [e] at hk
   simp at hk
   right
   omega
theorem WkAt.set0 {w : World} {R B : Nat} {m e l : Int} {fv fv' : Value} {fs' : List Fn} (hh : w.heap[R]? = some (.cells #[fv, .int .i64 m, .int .i64 e, .int .i64 l] 54 (0, 0))) (hf : FunsV w B fv' fs') :
  WkAt (w.setCell ⟨R, 0, none⟩ fv') R B ⟨fs', m⟩ e l fv' := by
 refine ⟨by simpa using blk_set hh 0 fv', hf.only (Only.setCell (F := fun k => k = R) w (b := R) rfl 0 fv') (fun k hk cs => ?_)⟩
 subst hk
 rw [hh]
 exact ⟨fun e => by injection e with e; injection e with e1 e2; exact absurd e2 (by decide), fun e => by injection e with e; injection e with e1 e2; exact absurd e2 (by decide)⟩
end
end Go.Proofs.Ytbpodijcndglgaa
