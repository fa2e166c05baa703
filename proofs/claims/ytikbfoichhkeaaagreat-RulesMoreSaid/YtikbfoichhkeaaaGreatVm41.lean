/- A resolved program's trees have what their rules ask. No program. rules.Rules: a program's functions and its system. -/
import Derived.BigRegion
import Derived.Test.YtikbfoichhkeaaaGreatVm30
import Derived.Test.YtikbfoichhkeaaaGreatVm31
import Derived.Test.YtikbfoichhkeaaaGreatVm40
set_option linter.unusedSimpArgs false
set_option linter.unusedVariables false
set_option maxRecDepth 100000
set_option maxHeartbeats 40000000
namespace Go.Proofs.YtikbfoichhkeaaaGreat
mutual
def nmT (V : List Bs) : Tr → Prop
 | .mk op s _ _ l => (op = 41 → s ∈ V) ∧ (isFun op = false → nmL V l)
def nmL (V : List Bs) : List Tr → Prop
 | [] => True
 | t :: r => nmT V t ∧ nmL V r
end
theorem withN_sub (l : List Bs) (s x : Bs) (h : x ∈ l) : x ∈ withN l s := by
 unfold withN
 split
 ·exact h
 ·exact List.mem_append_left _ h
theorem withN_mem (l : List Bs) (s : Bs) : s ∈ withN l s := by
 unfold withN
 split
 ·assumption
 ·simp
theorem decl_out (op : Int) (s : Bs) (out : List Bs) (x : Bs) (h : x ∈ out) : x ∈ (if op = 30 ∨ op = 35 ∨ op = 38 ∨ op = 41 then withN out s else out) := by
 split
 ·exact withN_sub _ _ _ h
 ·exact h
mutual
theorem decl_sub : ∀ (t : Tr) (out : List Bs) (x : Bs), x ∈ out → x ∈ decl t out
 | .mk op s n li l, out, x, h => by
  simp only [decl]
  split
  ·exact decl_out op s out x h
  ·exact decls_sub l _ x (decl_out op s out x h)
theorem decls_sub : ∀ (l : List Tr) (out : List Bs) (x : Bs), x ∈ out → x ∈ decls l out
 | [], out, x, h => h
 | t :: r, out, x, h => by
  simp only [decls]
  exact decls_sub r _ x (decl_sub t out x h)
end
mutual
theorem nm_decl : ∀ (t : Tr) (out V : List Bs), (∀ x ∈ decl t out, x ∈ V) → nmT V t
 | .mk op s n li l, out, V, h => by
  simp only [decl] at h
  refine ⟨fun ho => ?_, fun hf => ?_⟩
  ·rw [if_pos (show op = 30 ∨ op = 35 ∨ op = 38 ∨ op = 41 by omega), if_pos (show isFun op = true by rw [ho]; rfl)] at h
   exact h s (withN_mem _ _)
  ·rw [if_neg (by rw [hf]; simp)] at h
   exact nm_decls l _ V h
theorem nm_decls : ∀ (l : List Tr) (out V : List Bs), (∀ x ∈ decls l out, x ∈ V) → nmL V l
 | [], _, _, _ => trivial
 | t :: r, out, V, h => by
  simp only [decls] at h
  exact ⟨nm_decl t out V (fun x hx => h x (decls_sub r _ x hx)), nm_decls r _ V h⟩
end
theorem nmL_app {V : List Bs} : ∀ {a b : List Tr}, nmL V a → nmL V b → nmL V (a ++ b)
 | [], _, _, h => h
 | _ :: _, _, h, h' => ⟨h.1, nmL_app h.2 h'⟩
theorem nmT_eq (V : List Bs) (t : Tr) : nmT V t ↔ ((t.op = 41 → t.s ∈ V) ∧ (isFun t.op = false → nmL V t.l)) := by cases t; rw [nmT]; rfl
mutual
def plT (F : List Fn) : Tr → Int → Prop
 | .mk op s n _ l, a => (op = 41 → ∃ f, F[a.toNat]? = some f ∧ s ∈ f.vars) ∧ plL F l (if isFun op then n else a)
def plL (F : List Fn) : List Tr → Int → Prop
 | [], _ => True
 | t :: r, a => plT F t a ∧ plL F r a
end
theorem good_fun {op : Int} {s : Bs} {n li : Int} {l : List Tr} (h : good (.mk op s n li l)) (hf : isFun op = true) (a m : Int) : nmL (openF op s l a m).vars l := by
 have hs := h.self
 have hp : ∃ xs b, l = xs ++ [b] ∧ (∀ x ∈ xs, x.op = 1) := by
  rcases fun_four hf with e | e
  ·obtain ⟨-, -, -, xs, b, h1, h2, -⟩ := (inv_41 (t := .mk op s n li l) e).1 hs
   exact ⟨xs, b, h1, h2⟩
  ·obtain ⟨-, -, -, xs, b, h1, h2, -⟩ := (inv_10 (t := .mk op s n li l) e).1 hs
   exact ⟨xs, b, h1, h2⟩
 obtain ⟨xs, b, rfl, hx⟩ := hp
 have key : ∀ ys : List Tr, (∀ x ∈ ys, x.op = 1 ∧ soundOne x = true) → nmL (openF op s (xs ++ [b]) a m).vars ys := by
  intro ys
  induction ys with
  | nil => intro _; trivial
  | cons y r ih =>
   intro hy
   have h1 := hy y List.mem_cons_self
   have h2 := (inv_1 h1.1).1 h1.2
   refine ⟨(nmT_eq _ _).2 ⟨fun e => by rw [h1.1] at e; omega, fun _ => by rw [h2.2.2]; trivial⟩, ih fun x hx => hy x (List.mem_cons_of_mem _ hx)⟩
 refine nmL_app (key xs fun x hx' => ⟨hx x hx', (h.part (show x ∈ (Tr.mk op s n li (xs ++ [b])).l from List.mem_append_left _ hx')).self⟩) ⟨?_, trivial⟩
 unfold openF
 simp only [List.getLast?_append, List.getLast?_singleton, Option.some_or]
 exact nm_decl b _ _ fun x hx' => hx'
mutual
theorem resT_pl : ∀ (t : Tr) (a : Int) (loop : Bool) (w : WS) (t' : Tr) (w' : WS), resT t a loop w = .ok (t', w') → 0 < w.funs.length → good t → (∃ f, w.funs[a.toNat]? = some f ∧ nmT f.vars t) → ∀ m, plT (w'.funs ++ m) t' a
 | .mk op s n line l, a, loop, w, t', w', h, h0, hg, ⟨f0, hf0, hn⟩, m => by
  have hmo := (resT_ok _ _ _ _ _ _ h h0).1
  have hd : op = 41 → ∃ f, (w'.funs ++ m)[a.toNat]? = some f ∧ s ∈ f.vars := fun e => by
   obtain ⟨more, e2⟩ := hmo
   exact ⟨f0, by rw [e2, List.append_assoc]; exact get_more hf0, hn.1 e⟩
  have hgl : ∀ y ∈ l, good y := fun y hy => hg.part (t := .mk op s n line l) hy
  unfold resT at h
  split at h
  ·rename_i hf
   simp only at h
   split at h
   ·cases h
   ·obtain ⟨l', hL, rfl⟩ := nodeE_ok h
    refine ⟨hd, ?_⟩
    rw [if_pos hf]
    exact resL_pl l _ _ _ _ _ hL (by simp) hgl ⟨openF op s l a w.mark, by simp, good_fun hg hf _ _⟩ m
  ·rename_i hf
   have hf' : isFun op = false := by simpa using hf
   split at h
   ·obtain ⟨l', hL, rfl⟩ := nodeE_ok h
    refine ⟨hd, ?_⟩
    rw [if_neg hf]
    exact resL_pl l _ _ _ _ _ hL h0 hgl ⟨f0, hf0, hn.2 hf'⟩ m
   ·split at h
    ·split at h
     ·cases h
     ·obtain ⟨l', hL, rfl⟩ := nodeE_ok h
      refine ⟨hd, ?_⟩
      rw [if_neg hf]
      exact resL_pl l _ _ _ _ _ hL h0 hgl ⟨f0, hf0, hn.2 hf'⟩ m
    ·split at h
     ·cases h
     ·obtain ⟨l', hL, rfl⟩ := nodeE_ok h
      refine ⟨hd, ?_⟩
      rw [if_neg hf]
      exact resL_pl l _ _ _ _ _ hL h0 hgl ⟨f0, hf0, hn.2 hf'⟩ m
theorem resL_pl : ∀ (l : List Tr) (a : Int) (loop : Bool) (w : WS) (l' : List Tr) (w' : WS), resL l a loop w = .ok (l', w') → 0 < w.funs.length → (∀ y ∈ l, good y) → (∃ f, w.funs[a.toNat]? = some f ∧ nmL f.vars l) → ∀ m, plL (w'.funs ++ m) l' a
 | [], _, _, w, l', w', h, _, _, _, m => by
  unfold resL at h
  cases h
  trivial
 | t :: r, a, loop, w, l', w', h, h0, hg, ⟨f0, hf0, hn⟩, m => by
  unfold resL at h
  split at h
  ·cases h
  ·rename_i t1 w1 hT
   split at h
   ·cases h
   ·rename_i l1 w2 hL
    cases h
    obtain ⟨m1, e1⟩ := (resT_ok _ _ _ _ _ _ hT h0).1
    have h1 : 0 < w1.funs.length := by rw [e1]; simp; omega
    obtain ⟨m2, e2⟩ := (resL_ok _ _ _ _ _ _ hL h1).1
    refine ⟨?_, resL_pl r _ _ _ _ _ hL h1 (fun y hy => hg y (List.mem_cons_of_mem _ hy)) ⟨f0, by rw [e1]; exact get_more hf0, hn.2⟩ m⟩
    rw [e2, List.append_assoc]
    exact resT_pl t _ _ _ _ _ hT h0 (hg t List.mem_cons_self) ⟨f0, hf0, hn.1⟩ _
end
theorem resolve_pl {p q : Tr} {F : List Fn} (h : resolveT p = .ok (F, q)) (hg : good p) : plT F q 0 := by
 rw [resolve_eq] at h
 split at h
 ·cases h
 ·split at h
  ·cases h
  ·rename_i q' w' hr
   cases h
   have := resT_pl p 0 false _ _ _ hr (by simp) hg ⟨rootF p, rfl, nm_decl p [] _ fun x hx => hx⟩ []
   rwa [List.append_nil] at this
theorem withinP_fn (X : Cx) (o n : Int) (len : Nat) (p : Pl9) (i : Nat) : (withinP X o n len p i).fn = if isFun o then n else p.fn := by
 unfold withinP isFun
 by_cases h : o = 41 ∨ o = 10
 ·rw [if_pos h, if_pos (by simpa using h)]
 ·have hb : (o == 41 || o == 10) = false := by simpa using h
  rw [if_neg h, hb]
  split
  ·rfl
  ·split <;> rfl
def EvG (X : Cx) (t : Tr) (e : Ev9) : Prop := (∃ (j : Nat) (s : FS), e.p.fn = (j : Int) ∧ X.fs[j]? = some s) ∧ (e.t.op = 41 → ∃ f, X.F[e.p.fn.toNat]? = some f ∧ e.t.s ∈ f.vars) ∧ e.t ∈ t.flat
mutual
theorem evR_pl {X : Cx} (hX : CxOK X) : ∀ (t : Tr) (k : Nat) (p : Pl9), plT X.F t p.fn → (∃ (j : Nat) (s : FS), p.fn = (j : Int) ∧ X.fs[j]? = some s) → (∀ y ∈ t.flat, ok1 X.F y) → ∀ e ∈ evR X t k p, EvG X t e
 | .mk o s n li l, k, p, h, hp, hok, e, he => by
  rw [evR] at he
  rcases List.mem_cons.1 he with rfl | he
  ·exact ⟨hp, h.1, by rw [Tr.flat]; exact List.mem_cons_self⟩
  ·have h2 := evRL_pl hX o n l.length p l 0 (k + 1) h.2 (by
    by_cases hf : isFun o = true
    ·rw [if_pos hf]
     obtain ⟨j, f, hn, -, hF, -⟩ := (hok (.mk o s n li l) (by rw [Tr.flat]; exact List.mem_cons_self)).2 hf
     have hj := (List.getElem?_eq_some_iff.1 hF).1
     have hn' : n = (j : Int) := hn
     exact ⟨j, _, hn', List.getElem?_eq_getElem (by rw [hX.len]; exact hj)⟩
    ·rw [if_neg hf]
     exact hp) (fun y hy => hok y (by rw [Tr.flat]; exact List.mem_cons_of_mem _ hy)) e he
   exact ⟨h2.1, h2.2.1, by rw [Tr.flat]; exact List.mem_cons_of_mem _ h2.2.2⟩
theorem evRL_pl {X : Cx} (hX : CxOK X) (o n : Int) (len : Nat) (p : Pl9) : ∀ (l : List Tr) (i k : Nat), plL X.F l (if isFun o then n else p.fn) → (∃ (j : Nat) (s : FS), (if isFun o then n else p.fn) = (j : Int) ∧ X.fs[j]? = some s) → (∀ y ∈ flats l, ok1 X.F y) → ∀ e ∈ evRL X o n len p l i k, (∃ (j : Nat) (s : FS), e.p.fn = (j : Int) ∧ X.fs[j]? = some s) ∧ (e.t.op = 41 → ∃ f, X.F[e.p.fn.toNat]? = some f ∧ e.t.s ∈ f.vars) ∧ e.t ∈ flats l
 | [], _, _, _, _, _, e, he => by rw [evRL] at he; cases he
 | c :: r, i, k, h, hp, hok, e, he => by
  rw [evRL] at he
  rcases List.mem_append.1 he with he | he
  ·have h2 := evR_pl hX c k (withinP X o n len p i) (by rw [withinP_fn]; exact h.1) (by rw [withinP_fn]; exact hp) (fun y hy => hok y (by rw [flats]; exact List.mem_append_left _ hy)) e he
   exact ⟨h2.1, h2.2.1, by rw [flats]; exact List.mem_append_left _ h2.2.2⟩
  ·have h2 := evRL_pl hX o n len p r (i + 1) _ h.2 hp (fun y hy => hok y (by rw [flats]; exact List.mem_append_right _ hy)) e he
   exact ⟨h2.1, h2.2.1, by rw [flats]; exact List.mem_append_right _ h2.2.2⟩
end
mutual
theorem bare_flat : ∀ t : Tr, (bareT t).flat = t.flat.map bareT
 | .mk op s n li l => by rw [bareT, Tr.flat, Tr.flat, bareL_flat l, List.map_cons, bareT]
theorem bareL_flat : ∀ l : List Tr, flats (bareL l) = (flats l).map bareT
 | [] => rfl
 | t :: r => by rw [bareL, flats, flats, bare_flat t, bareL_flat r, List.map_append]
end
theorem bareL_map : ∀ l : List Tr, bareL l = l.map bareT
 | [] => rfl
 | t :: r => by rw [bareL, bareL_map r]; rfl
theorem bare_op (t : Tr) : (bareT t).op = t.op ∧ (bareT t).l = t.l.map bareT := by
 cases t
 rw [bareT]
 exact ⟨rfl, bareL_map _⟩
theorem sound_len {t : Tr} (h : soundOne (bareT t) = true) {s : Int × Int × Int × Int} (e : shapeOf t.op = some s) : s.2.2.1 ≤ (t.l.length : Int) ∧ (t.l.length : Int) ≤ s.2.2.2 ∧ partsB t.op t.l.length 0 (t.l.map bareT) = true := by
 unfold soundOne at h
 rw [(bare_op t).1, e] at h
 simp only [fitsB, Bool.and_eq_true, decide_eq_true_eq, (bare_op t).1, (bare_op t).2, List.length_map] at h
 exact ⟨h.2.2.2.1, h.2.2.2.2.1, h.2.2.2.2.2⟩
theorem flat_sub {t : Tr} {y : Tr} (hy : y ∈ t.flat) {x : Tr} (hx : x ∈ y.l) : x ∈ t.flat := by
 have key : ∀ t : Tr, ∀ y ∈ t.flat, ∀ x ∈ y.l, x ∈ t.flat := by
  intro t
  induction t using tree_ind with
  | h t ih =>
   intro y hy x hx
   rw [flat_eq] at hy ⊢
   rcases List.mem_cons.1 hy with rfl | hy
   ·exact List.mem_cons_of_mem _ (good_part hx x (by rw [flat_eq]; exact List.mem_cons_self))
   ·refine List.mem_cons_of_mem _ ?_
    have k2 : ∀ l : List Tr, (∀ z ∈ l, z ∈ t.l) → y ∈ flats l → x ∈ flats l := by
     intro l
     induction l with
     | nil => intro _ h; rw [flats] at h; cases h
     | cons a r ihr =>
      intro hl h
      rw [flats_cons] at h ⊢
      rcases List.mem_append.1 h with h | h
      ·exact List.mem_append_left _ (ih a (size_part (hl a List.mem_cons_self)) y h x hx)
      ·exact List.mem_append_right _ (ihr (fun z hz => hl z (List.mem_cons_of_mem _ hz)) h)
    exact k2 t.l (fun _ h => h) hy
 exact key t y hy x hx
theorem facts_ok {p q : Tr} {F : List Fn} (h : resolveT p = .ok (F, q)) (hr : rightP p = true) {X : Cx} (hX : CxOK X) (hXF : X.F = F) (hF0 : 0 < X.fs.length) (th : Int) :
  ∀ e ∈ evR X q 0 ⟨0, th, false⟩, PartOK X e.t ∧ (e.p.tg = false → RuleOK X e.t e.p) := by
 have hg : good p := good_of (by unfold rightP at hr; rw [Bool.and_eq_true] at hr; exact hr.2)
 obtain ⟨hb, hok, m, hm, hI⟩ := resolve_told h
 have hokf := okT_flat F q hok
 have hbp : (q.flat.map bareT) = p.flat := by rw [← bare_flat, hb, right_bare hr]
 have hsd : ∀ y ∈ q.flat, soundOne (bareT y) = true := fun y hy => hg _ (by rw [← hbp]; exact List.mem_map_of_mem hy)
 intro e he
 obtain ⟨hpl, hdec, hmem⟩ := evR_pl hX q 0 ⟨0, th, false⟩ (by rw [hXF]; exact resolve_pl h hg) ⟨0, _, rfl, List.getElem?_eq_getElem hF0⟩ (by rw [hXF]; exact hokf) e he
 have h1 := hokf e.t hmem
 have hs := hsd e.t hmem
 have hget : ∀ {j : Nat} {f : Fn}, F[j]? = some f → ∃ s, X.fs[j]? = some s := fun {j f} hj => ⟨_, List.getElem?_eq_getElem (by rw [hX.len, hXF]; exact (List.getElem?_eq_some_iff.1 hj).1)⟩
 have hvar : ∀ y : Tr, ok1 F y → (y.op = 1 ∨ y.op = 30 ∨ y.op = 35 ∨ y.op = 38) → ∃ j i f s, VarOK X y.n j i f s := fun y hy ho => by
  obtain ⟨j, i, f, hn, hf, hi⟩ := hy.1 ho
  obtain ⟨s, hs⟩ := hget hf
  exact ⟨j, i, f, s, hn, (List.getElem?_eq_some_iff.1 hi).1, by rw [hXF]; exact hf, hs⟩
 have hpart : ∀ i (hi : i < e.t.l.length), e.t.part i ∈ q.flat ∧ e.t.part i ∈ e.t.l ∧ e.t.part i = e.t.l[i] := fun i hi => by
  have h9 : e.t.part i = e.t.l[i] := by unfold Tr.part; rw [List.getElem?_eq_getElem hi]; rfl
  have h8 : e.t.part i ∈ e.t.l := by rw [h9]; exact List.getElem_mem hi
  exact ⟨flat_sub hmem h8, h8, h9⟩
 have hlen : ∀ (y : Tr), y ∈ q.flat → ∀ s : Int × Int × Int × Int, shapeOf y.op = some s → s.2.2.1 ≤ (y.l.length : Int) ∧ (y.l.length : Int) ≤ s.2.2.2 := fun y hy s hs' => by
  have := sound_len (hsd y hy) hs'
  exact ⟨this.1, this.2.1⟩
 have lenOf : ∀ (y : Tr) (o : Int) (s : Int × Int × Int × Int), y ∈ q.flat → y.op = o → shapeOf o = some s → s.2.2.1 ≤ (y.l.length : Int) ∧ (y.l.length : Int) ≤ s.2.2.2 := fun y o s hy ho hs' => hlen y hy s (by rw [ho]; exact hs')
 refine ⟨⟨fun ho => ?_, fun ho => hvar _ h1 (by omega)⟩, fun _ => ⟨fun _ => hpl, fun ho => hvar _ h1 (by omega), fun ho => ?_, fun ho => ?_, fun ho => ⟨?_, ?_⟩, fun ho => ?_, fun ho => ?_, fun ho hp => ?_, fun ho => ?_, fun ho => ?_, fun ho => ?_, fun ho => ?_⟩⟩
 ·obtain ⟨j, f, hn, -, hf, -⟩ := h1.2 (by unfold isFun; rcases ho with ho | ho <;> rw [ho] <;> rfl)
  obtain ⟨s, hs9⟩ := hget hf
  exact ⟨j, s, hn, hs9⟩
 ·obtain ⟨j, f, hn, -, hf, -⟩ := h1.2 (by rw [ho]; rfl)
  obtain ⟨s, hs9⟩ := hget hf
  have hv := (hI.2 j f hf).2.2.1
  refine ⟨j, f, hn, by rw [hXF]; exact hf, by omega, fun hle => ?_⟩
  cases hi : f.vars.idxOf? e.t.s with
  | none =>
   unfold idxS at hle
   rw [hi] at hle
   simp only at hle
   omega
  | some i =>
   refine ⟨i, s, by unfold idxS; rw [hi], by omega, (List.getElem?_eq_some_iff.1 (idx_some _ _ _ hi)).1, by rw [hXF]; exact hf, hs9⟩
 ·obtain ⟨j, s, hj, hs9⟩ := hpl
  obtain ⟨f, hf, hmv⟩ := hdec ho
  rw [hj, Int.toNat_natCast] at hf
  cases hi : f.vars.idxOf? e.t.s with
  | none => exact absurd hmv (by simpa using hi)
  | some i =>
   exact ⟨j, i, f, s, hj, hf, by unfold idxS; rw [hi], by omega, (List.getElem?_eq_some_iff.1 (idx_some _ _ _ hi)).1, hf, hs9⟩
 ·have := lenOf e.t 11 (0, 0, 0, 200) hmem ho rfl
  simp only at this
  omega
 ·intro x hx
  have h3 := (sound_len hs (s := (0, 0, 0, 200)) (by rw [ho]; rfl)).2.2
  rw [ho] at h3
  obtain ⟨i, hi⟩ := List.mem_iff_getElem?.1 hx
  have h4 := (partsB_get _ _).1 h3 i (bareT x) (by rw [List.getElem?_map, hi]; rfl)
  have h5 : x.op = 12 := by
   rw [(bare_op x).1] at h4
   simpa [wantedB, hasB] using h4
  have := lenOf x 12 (1, 0, 1, 1) (flat_sub hmem hx) h5 rfl
  simp only at this
  omega
 ·rcases ho with ho | ho | ho
  ·have := lenOf e.t 13 (5, 0, 1, 1) hmem ho rfl
   simp only at this
   omega
  ·have := lenOf e.t 14 (0, 0, 2, 2) hmem ho rfl
   simp only at this
   omega
  ·have := lenOf e.t 37 (0, 0, 1, 1) hmem ho rfl
   simp only at this
   omega
 ·rcases ho with ho | ho
  ·have := lenOf e.t 15 (0, 0, 1, 200) hmem ho rfl
   simp only at this
   omega
  ·have := lenOf e.t 16 (0, 0, 1, 200) hmem ho rfl
   simp only at this
   omega
 ·have h2 := lenOf e.t 15 (0, 0, 1, 200) hmem ho rfl
  simp only at h2
  obtain ⟨g1, -, -⟩ := hpart 0 (by omega)
  rcases hp with hp | hp
  ·have := lenOf _ 13 (5, 0, 1, 1) g1 hp rfl
   simp only at this
   omega
  ·have := lenOf _ 14 (0, 0, 2, 2) g1 hp rfl
   simp only at this
   omega
 ·have h2 := lenOf e.t 17 (0, 0, 2, 2) hmem ho rfl
  simp only at h2
  obtain ⟨g1, g2, g3⟩ := hpart 0 (by omega)
  refine ⟨by omega, ?_⟩
  have h3 := (sound_len hs (s := (0, 0, 2, 2)) (by rw [ho]; rfl)).2.2
  rw [ho] at h3
  have h4 := (partsB_get _ _).1 h3 0 (bareT (e.t.part 0)) (by rw [List.getElem?_map, g3, List.getElem?_eq_getElem (by omega)]; rfl)
  rw [(bare_op _).1] at h4
  have h5 : (e.t.part 0).op = 13 ∨ (e.t.part 0).op = 14 ∨ (e.t.part 0).op = 1 := by simpa [wantedB, hasB] using h4
  rcases h5 with h5 | h5 | h5
  ·have := lenOf _ 13 (5, 0, 1, 1) g1 h5 rfl
   simp only at this
   exact .inr (.inl ⟨h5, by omega⟩)
  ·have := lenOf _ 14 (0, 0, 2, 2) g1 h5 rfl
   simp only at this
   exact .inr (.inr ⟨h5, by omega⟩)
  ·exact .inl ⟨h5, hvar _ (hokf _ g1) (.inl h5)⟩
 ·rcases ho with ho | ho
  ·have := lenOf e.t 21 (0, 0, 2, 2) hmem ho rfl
   simp only at this
   omega
  ·have := lenOf e.t 22 (0, 0, 2, 2) hmem ho rfl
   simp only at this
   omega
 ·have := lenOf e.t 23 (0, 0, 3, 3) hmem ho rfl
  simp only at this
  omega
 ·rcases ho with ho | ho
  ·have := lenOf e.t 30 (3, 0, 0, 1) hmem ho rfl
   simp only at this
   omega
  ·have := lenOf e.t 36 (0, 0, 0, 1) hmem ho rfl
   simp only at this
   omega
section
open Go.RowKit Go.Proofs
theorem ite_len {c : Prop} [Decidable c] {a b : List Ru} {n : Nat} (ha : a.length ≤ n) (hb : b.length ≤ n) : (if c then a else b).length ≤ n := by split <;> assumption
theorem ruleOf_len (X : Cx) (t : Tr) (k : Nat) (p : Pl9) : (ruleOf X t k p).length ≤ 2 + t.l.length := by
 have key : ∀ (a b : List Ru), a.length ≤ 1 → b.length ≤ 1 → (a ++ b).length ≤ 2 + t.l.length := by
  intro a b h1 h2
  rw [List.length_append]
  omega
 have key2 : ∀ (x : Ru) (a : List Ru), a.length ≤ 1 → (x :: a).length ≤ 2 + t.l.length := by
  intro x a h1
  rw [List.length_cons]
  omega
 unfold ruleOf
 repeat' (with_reducible refine ite_len ?_ ?_)
 all_goals first
  | (simp [setsK_len, pairsR_len]; done)
  | (simp [setsK_len, pairsR_len]; omega)
  | (refine key2 _ _ ?_; (repeat' (with_reducible refine ite_len ?_ ?_)) <;> simp; done)
  | (refine key _ _ ?_ (by simp); (repeat' (with_reducible refine ite_len ?_ ?_)) <;> simp; done)
mutual
theorem evR_len (X : Cx) : ∀ (t : Tr) (k : Nat) (p : Pl9), (rulesE X (evR X t k p)).length + 1 ≤ 4 * t.size
 | .mk o s n li l, k, p => by
  have h1 := evRL_len X o n l.length p l 0 (k + 1)
  have h2 : (rulesAt X (.mk o s n li l) k p).length ≤ 2 + l.length := by
   unfold rulesAt
   split
   ·simp
   ·rw [List.length_map]
    exact ruleOf_len X (.mk o s n li l) k p
  have h3 := length_le_sizes l
  rw [evR, rulesE, List.flatMap_cons, List.length_append, size_mk]
  unfold rulesE at h1
  simp only
  omega
theorem evRL_len (X : Cx) (o n : Int) (len : Nat) (p : Pl9) : ∀ (l : List Tr) (i k : Nat), (rulesE X (evRL X o n len p l i k)).length + l.length ≤ 4 * sizes l
 | [], _, _ => by rw [evRL]; simp [rulesE]
 | c :: r, i, k => by
  have h1 := evR_len X c k (withinP X o n len p i)
  have h2 := evRL_len X o n len p r (i + 1) (k + c.size)
  unfold rulesE at h1 h2 ⊢
  rw [evRL, List.flatMap_append, List.length_append, sizes_cons, List.length_cons]
  omega
end
theorem laidF_get : ∀ (l : List Fn) (s : Int) (j : Nat) (f : Fn), (∀ f ∈ l, f.vars.length ≤ 200) → l[j]? = some f → ∃ b, (laidF l s).1[j]? = some (fsOf f b) ∧ s ≤ b ∧ b + f.vars.length + 3 ≤ (laidF l s).2
 | [], _, _, _, _, h => by cases h
 | a :: r, s, 0, f, hv, h => by
  cases h
  have h2 := (laidF_le r (s + a.vars.length + 3) fun f hf => hv f (List.mem_cons_of_mem _ hf)).1
  exact ⟨s, rfl, Int.le_refl _, h2⟩
 | a :: r, s, j + 1, f, hv, h => by
  obtain ⟨b, h1, h2, h3⟩ := laidF_get r (s + a.vars.length + 3) j f (fun f hf => hv f (List.mem_cons_of_mem _ hf)) h
  exact ⟨b, h1, by omega, h3⟩
mutual
theorem resT_few : ∀ (t : Tr) (a : Int) (loop : Bool) (w : WS) (t' : Tr) (w' : WS), resT t a loop w = .ok (t', w') → w.funs.length ≤ 500 → w'.funs.length ≤ 500
 | .mk op s n line l, a, loop, w, t', w', h, h0 => by
  unfold resT at h
  split at h
  ·simp only at h
   split at h
   ·cases h
   ·obtain ⟨l', hL, rfl⟩ := nodeE_ok h
    exact resL_few l _ _ _ _ _ hL (by simp; omega)
  ·split at h
   ·obtain ⟨l', hL, rfl⟩ := nodeE_ok h
    exact resL_few l _ _ _ _ _ hL h0
   ·split at h
    ·split at h
     ·cases h
     ·obtain ⟨l', hL, rfl⟩ := nodeE_ok h
      exact resL_few l _ _ _ _ _ hL h0
    ·split at h
     ·cases h
     ·obtain ⟨l', hL, rfl⟩ := nodeE_ok h
      exact resL_few l _ _ _ _ _ hL h0
theorem resL_few : ∀ (l : List Tr) (a : Int) (loop : Bool) (w : WS) (l' : List Tr) (w' : WS), resL l a loop w = .ok (l', w') → w.funs.length ≤ 500 → w'.funs.length ≤ 500
 | [], _, _, w, l', w', h, h0 => by
  unfold resL at h
  cases h
  exact h0
 | t :: r, a, loop, w, l', w', h, h0 => by
  unfold resL at h
  split at h
  ·cases h
  ·rename_i t1 w1 hT
   split at h
   ·cases h
   ·rename_i l1 w2 hL
    cases h
    exact resL_few r _ _ _ _ _ hL (resT_few t _ _ _ _ _ hT h0)
end
theorem cx_ok {p q : Tr} {F : List Fn} (h : resolveT p = .ok (F, q)) (hz : p.size ≤ 40000) : CxOK (cxOf F q) ∧ 0 < F.length ∧ F.length ≤ 500 ∧ ∀ f ∈ F, f.vars.length ≤ 200 ∧ f.params ≤ 200 := by
 obtain ⟨-, -, m, -, hI⟩ := resolve_told h
 have hqz := resolve_size h
 have hv : ∀ f ∈ F, f.vars.length ≤ 200 ∧ f.params ≤ 200 := fun f hf => by
  obtain ⟨i, hi⟩ := List.mem_iff_getElem?.1 hf
  have := hI.2 i f hi
  omega
 have hl : 0 < F.length ∧ F.length ≤ 500 := by
  rw [resolve_eq] at h
  split at h
  ·cases h
  ·split at h
   ·cases h
   ·rename_i q' w' hr
    cases h
    obtain ⟨more, e⟩ := (resT_ok _ _ _ _ _ _ hr (by simp)).1
    refine ⟨by rw [e]; simp, resT_few _ _ _ _ _ _ hr (by simp)⟩
 have h3 := laidF_le F q.size fun f hf => (hv f hf).1
 refine ⟨⟨laidF_len _ _, by show F.length ≤ 1000; omega, ⟨?_, ?_⟩, fun j f s hf hs => ?_⟩, hl.1, hl.2, hv⟩
 ·show 0 ≤ (laidF F q.size).2 + 9
  omega
 ·show (laidF F q.size).2 + 9 ≤ 1000000
  omega
 ·obtain ⟨b, h4, h5, h6⟩ := laidF_get F q.size j f (fun f hf => (hv f hf).1) hf
  have h7 : (laidF F q.size).1[j]? = some s := hs
  rw [h4] at h7
  cases h7
  have := (hv f (List.mem_of_getElem? hf)).1
  refine ⟨this, ?_, ?_, ?_, ?_, ?_⟩
  ·show (f.vars.length : Int) ≤ b + f.vars.length
   omega
  ·show b + f.vars.length < b + f.vars.length + 2
   omega
  ·show b + f.vars.length + 1 < b + f.vars.length + 2
   omega
  ·show 0 ≤ b + f.vars.length + 1
   omega
  ·show b + f.vars.length + 2 < (laidF F q.size).2 + 9
   omega
def RuP (W : World) (cs : List Value) (r : Ru) : Prop := RuF W (fun k => k < W.heap.size) cs r
def RulesQ (W : World) (t : Tr) (e : Ending) (W' : World) : Prop :=
 ∃ fv fsv rv B, e = .returned (.tuple #[fv, .agg #[.int .i64 (rulesOut (resOut t)).2.1, fsv, rv], .int .i64 (rulesOut (resOut t)).2.2.2.2.1, .int .i64 (rulesOut (resOut t)).2.2.2.2.2]) ∧
  FunsV W' B fv (rulesOut (resOut t)).1 ∧ SlAt 5 FsP W' fsv (rulesOut (resOut t)).2.2.1 ∧ SlAt 9 RuP W' rv (rulesOut (resOut t)).2.2.2.1 ∧ Below W.heap.size W W'
theorem RuP.cells : Cells 9 RuP := fun W cs r h => by
 obtain ⟨u, rfl, ⟨A, c, rfl, -, -⟩, -⟩ := h
 refine ⟨rfl, fun u hu => ?_⟩
 simp only [ruV, List.mem_cons, List.not_mem_nil, or_false] at hu
 rcases hu with rfl | rfl | rfl | rfl | rfl | rfl | rfl | rfl | rfl <;> rfl
theorem RuP.keeps : Keeps RuP := fun W W' cs x h hb => RuF.keep h (fun i hi => Nat.lt_of_lt_of_le hi hb.size) (fun i hi => hb.block i hi)
theorem RuAcc.sl {B : Nat} {W : World} {l : List Ru} {v : Value} (h : RuAcc B W l v) : SlAt 9 RuP W v l := by
 obtain ⟨L, h1, h2, h3⟩ := h
 exact OwnR.at_ RuP.cells RuP.keeps (w0 := W) (⟨L, h1, fun q hq => RuF.keep (h2 q hq) (fun i hi => hi.1.2) (fun _ _ => rfl), h3⟩ : OwnR 9 44 RuP W W B v l) (Below.refl _ _)
theorem own_ge {W : World} {b e k n : Nat} {v : Value} {xs : List Value} (h : W.ownsRow b e k v n xs) : ∀ i, v.ownBlock = some i → b ≤ i ∧ i < W.heap.size := by
 intro i hi
 rcases h.2 with ⟨rfl, -⟩ | ⟨g, cap, cur, rfl, h1, h2, -⟩
 ·simp [Value.ownBlock] at hi
 ·simp [Value.ownBlock] at hi
  subst hi
  exact ⟨h1, heap_lt h2⟩
theorem FunsV.keepB {W W' : World} {B : Nat} {v : Value} {fs : List Fn} (h : FunsV W B v fs) (hk : ∀ i, B ≤ i → i < W.heap.size → W'.heap[i]? = W.heap[i]?) : FunsV W' B v fs := by
 obtain ⟨L, h1, h2, h3⟩ := h
 exact ⟨L, h1, ownsRow_block h2 (fun k hk' => hk k (own_ge h2 k hk').1 (own_ge h2 k hk').2), fun q hq => ownsRow_block (h3 q hq) (fun k hk' => hk k (own_ge (h3 q hq) k hk').1 (own_ge (h3 q hq) k hk').2)⟩
theorem rules_any (t : Tr) (v : Value) (W : World) (S : Nat → Prop) (hT : TreeAt W S t v) (hS : ∀ k, S k → k < W.heap.size) (hz : t.size ≤ 40000) :
  Calls Tryz.prog 11 #[v] W (RulesQ W t) := by
 obtain ⟨A, c, rfl, -, -⟩ := hT.form
 have HR := Lib.hid (fun w (hb : Below W.heap.size W w) => resout_any t _ w S (hT.keep (fun _ h => h) (fun k hk => hb.block k (hS k hk))) (fun k hk => by have := hS k hk; have := hb.size; omega) hz)
 obtain ⟨hal, hb0, hb1, hz1⟩ := alloc2 W (.cells #[.int .i64 t.op, .string (bs t.s), .int .i64 t.n, .slice A t.l.length c, .int .i64 t.line] 24) (.cells #[.int .i64 0, .slice none 0 0, .slice none 0 0] 31)
 obtain ⟨W1, e1⟩ : ∃ y, (W.alloc (.cells #[.int .i64 t.op, .string (bs t.s), .int .i64 t.n, .slice A t.l.length c, .int .i64 t.line] 24)).alloc (.cells #[.int .i64 0, .slice none 0 0, .slice none 0 0] 31) = y := ⟨_, rfl⟩
 rw [e1] at hal hb0 hb1 hz1
 obtain ⟨N, eN⟩ : ∃ N, W.heap.size = N := ⟨_, rfl⟩
 have HR1 := Lib.hid (HR.out W1 hal)
 rw [eN] at hal hb0 hb1 hz1
 obtain ⟨c0, c1, c2, c3, c4⟩ := (box_facts hb0).1
 have HE := Lib.hid e1
 have H1 := Lib.hid (And.intro hal (And.intro hb1 hz1))
 clear e1 hal hb0 hb1 hT hS HR
 go_enter Tryz.func11, Tryz.ntmps11
 go_upto_region 1 with fail
 rw [HE.out]
 go_wp2_with fail
 go_at_call 24
 refine HR1.out.mono ?_
 rintro e W2 ⟨fv, qv, rfl, hF, hQ, hb2⟩
 obtain ⟨Aq, cq, rfl, hrow, -⟩ := hQ.form
 obtain ⟨out, ho⟩ : ∃ y, resOut t = y := ⟨_, rfl⟩
 rw [ho] at hF hQ hrow ⊢
 obtain ⟨F, q, ln, er⟩ := out
 simp only at hF hQ hrow ⊢
 obtain ⟨Af, cf, rfl, -, -⟩ := hF.form
 have hal3 := below_alloc9 W2 (.cells #[.int .i64 q.op, .string (bs q.s), .int .i64 q.n, .slice Aq q.l.length cq, .int .i64 q.line] 24)
 have hbx3 := heap_alloc_new W2 (.cells #[.int .i64 q.op, .string (bs q.s), .int .i64 q.n, .slice Aq q.l.length cq, .int .i64 q.line] 24)
 obtain ⟨W3, e3⟩ : ∃ y, W2.alloc (.cells #[.int .i64 q.op, .string (bs q.s), .int .i64 q.n, .slice Aq q.l.length cq, .int .i64 q.line] 24) = y := ⟨_, rfl⟩
 have hz3 : W3.heap.size = W2.heap.size + 1 := by rw [← e3]; exact World.size_alloc _ _
 rw [e3] at hal3 hbx3
 have hN3 := ((hb2.trans (hal3.mono hb2.size)).block (N + 1) (by have := H1.out.2.2; omega)).trans H1.out.2.1
 have hW3 : Below N W W3 := H1.out.1.trans ((hb2.mono (by have := H1.out.2.2; omega)).trans (hal3.mono (by have := H1.out.2.2; have := hb2.size; omega)))
 have hQ3 := hQ.keep (w' := W3) (fun _ h => h) (fun k hk => hal3.block k hk.2)
 obtain ⟨p0, p1, p2⟩ := box3c hN3
 obtain ⟨q0, q1, q2⟩ := fz3 hN3
 have HE3 := Lib.hid e3
 obtain ⟨M, eM⟩ : ∃ y, W2.heap.size = y := ⟨_, rfl⟩
 rw [eM] at hbx3 hz3
 have hNM : N + 2 ≤ M := by have := hb2.size; omega
 by_cases he : er = 0
 case neg =>
  have e9 : rulesOut (resOut t) = ([], 0, [], [], ln, er) := by rw [ho]; unfold rulesOut; rw [if_pos he]
  have HO := Lib.hid e9
  have ee : (er != 0) = true := by simp [he]
  have H2 := Lib.hid (And.intro hN3 hW3)
  clear hb2 hF hQ hQ3 hrow ho he e9 HR1 c0 c1 c2 c3 c4 hN3 hW3 hbx3 hal3 e3
  go_upto_region 2 with fail
  rw [HE3.out]
  go_wp2
  have hF9 := fin3 (a0 := .int .i64 0) (a1 := .slice none 0 0) (a2 := .slice none 0 0) H2.out.1
  have hO9 := fin3_only W3 (N + 1) (.int .i64 0) (.slice none 0 0) (.slice none 0 0)
  have qq := box3c hF9
  refine bodyPost_ret (v := .tuple #[.slice none 0 0, .agg #[.int .i64 0, .slice none 0 0, .slice none 0 0], .int .i64 ln, .int .i64 er]) (by simp [results, Tryz.results11, go_sem, qq.1, qq.2.1, qq.2.2]) rfl ?_
  unfold RulesQ
  rw [HO.out, eN]
  exact ⟨_, _, _, 0, rfl, ⟨[], rfl, World.ownsRow_nil _ _ _ _, fun q hq => by cases hq⟩, SlAt.nil _ _ _, SlAt.nil _ _ _, H2.out.2.trans (hO9.below (by have := H2.out.2.size; omega) (fun i hi => by omega))⟩
 subst he
 have hrp : rightP t = true ∧ resolveT t = .ok (F, q) := by
  unfold resOut at ho
  split at ho
  ·rename_i hr
   refine ⟨hr, ?_⟩
   split at ho
   ·rename_i l9 e9 h9
    injection ho with h1 h2
    injection h2 with h2 h3
    injection h3 with h3 h4
    exact absurd h4 (resolve_err h9)
   ·rename_i h9
    injection ho with h1 h2
    injection h2 with h2 h3
    rw [h9, h1, h2]
  ·injection ho with h1 h2
   injection h2 with h2 h3
   injection h3 with h3 h4
   cases h4
 have hO : rulesOut (resOut t) = if 100000 < (cxOf F q).sets then ([], 0, [], [], 0, 52) else ((cxOf F q).F, (cxOf F q).sets, (cxOf F q).fs, rulesE (cxOf F q) (evR (cxOf F q) q 0 ⟨0, ((cxOf F q).fsAt 0).thr, false⟩), 0, 0) := by rw [ho]; rfl
 have HO := Lib.hid hO
 have hqz := resolve_size hrp.2
 obtain ⟨hX, hF0, hFl, hFv⟩ := cx_ok hrp.2 hz
 have hMt := met_any q _ W3 (New W1 W2) hQ3 (fun i hi => by have := hi.2; omega) (by omega)
 obtain ⟨m0, m1, m2, m3, m4⟩ := (box_facts hbx3).1
 have hF3 := hF.below hal3
 have HMt := Lib.hid hMt
 have HLd := Lib.hid (fun w hb => laid_any w F W1.heap.size (.slice Af F.length cf) (hF3.below (W' := w) hb) q.size (by omega) (by omega) hFv)
 have H2 := Lib.hid (And.intro hN3 (And.intro hW3 (And.intro hF3 (And.intro hQ3 (And.intro hbx3 (And.intro hrp.1 (And.intro hrp.2 (And.intro hX hF0))))))))
 have HZ := Lib.hid hz3
 clear hO hb2 hF hQ hrow ho hrp HR1 c0 c1 c2 c3 c4 hMt hF3 hN3 hW3 hQ3 hbx3 hX hF0 hFl hFv p0 p1 p2 q0 q1 q2 hal3 hqz e3
 go_upto_region 2 with fail
 rw [HE3.out]
 go_wp2_with fail
 go_at_call 26
 refine HMt.out.mono ?_
 rintro e W4 ⟨rfl, hb4⟩
 have HLd4 := Lib.hid (HLd.out W4 hb4)
 have H4 := Lib.hid hb4
 clear hb4 m0 m1 m2 m3 m4
 go_wp2_with fail
 go_at_call 25
 refine HLd4.out.mono ?_
 rintro e W5 ⟨fsv, rfl, ⟨BF, hBF, hfs⟩, hb5⟩
 obtain ⟨Ax, cx, rfl, -, -⟩ := hfs.form
 obtain ⟨sx, esx⟩ : ∃ y, (laidF F q.size).2 + 9 = y := ⟨_, rfl⟩
 obtain ⟨Mb, eMb⟩ : ∃ y, W5.heap.size = y := ⟨_, rfl⟩
 obtain ⟨X, eX⟩ : ∃ X, cxOf F q = X := ⟨_, rfl⟩
 have hXs : X.sets = sx := by rw [← eX]; exact esx
 have hXF : X.F = F := by rw [← eX]; rfl
 have hXf : X.fs = (laidF F q.size).1 := by rw [← eX]; rfl
 rw [esx]
 rw [← hXf] at hfs ⊢
 have hb35 : Below W3.heap.size W3 W5 := H4.out.trans (hb5.mono H4.out.size)
 have hal6 := below_alloc9 W5 (.cells #[.slice Af F.length cf, .int .i64 sx, .slice Ax X.fs.length cx, .slice none 0 0] 57)
 have hbx6 := heap_alloc_new W5 (.cells #[.slice Af F.length cf, .int .i64 sx, .slice Ax X.fs.length cx, .slice none 0 0] 57)
 obtain ⟨W6, e6⟩ : ∃ y, W5.alloc (.cells #[.slice Af F.length cf, .int .i64 sx, .slice Ax X.fs.length cx, .slice none 0 0] 57) = y := ⟨_, rfl⟩
 rw [e6] at hal6 hbx6
 have hz6 : W6.heap.size = Mb + 1 := by rw [← e6, World.size_alloc, eMb]
 have hb36 : Below W3.heap.size W3 W6 := hb35.trans (hal6.mono hb35.size)
 have hMk : MkAt W5 W6 Mb W1.heap.size X (.slice Af F.length cf) (.slice Ax X.fs.length cx) (.slice none 0 0) [] := ⟨eMb, by rw [← eMb]; exact hal6, by rw [hXF]; exact H2.out.2.2.1.below hb35, hfs.sl, by rw [← eMb, hXs]; exact hbx6, RuAcc.nil _ _⟩
 have hN6 := (hb36.block (N + 1) (by rw [HZ.out]; omega)).trans H2.out.1
 have hq6 := (hb36.block M (by rw [HZ.out]; omega)).trans H2.out.2.2.2.2.1
 have hT6 := H2.out.2.2.2.1.keep (w' := W6) (fun _ h => h) (fun k hk => hb36.block k (by have := hk.2; rw [HZ.out]; omega))
 have hMM : M + 1 ≤ Mb := by have := hb35.size; rw [HZ.out, eMb] at this; exact this
 obtain ⟨p0, p1, p2⟩ := box3c hN6
 obtain ⟨q0, q1, q2⟩ := fz3 hN6
 obtain ⟨m0, m1, m2, m3, m4⟩ := (box_facts hq6).1
 have hc6 := hMk.cells.1
 rw [hXs] at hc6
 obtain ⟨k0, k1, k2, k3⟩ := hc6
 have HE6 := Lib.hid e6
 rw [eX] at HO
 have hXok := H2.out.2.2.2.2.2.2.2.1
 rw [eX] at hXok
 have hWN : Below N W W6 := H2.out.2.1.trans (hb36.mono (by rw [HZ.out]; omega))
 have H6 := Lib.hid (And.intro hN6 (And.intro hWN (And.intro hMk (And.intro hT6 (And.intro hXok (And.intro hfs hBF))))))
 have HX := Lib.hid (And.intro hXs (And.intro hXF (And.intro hXf eX)))
 have H45 := Lib.hid hb35
 clear hN6 hWN hMk hT6 hXok hfs hBF hb35 hb36 hal6 hbx6 hq6 hXs hXF hXf eX hb5 e6 esx
 have hkk : sx = sx := rfl
 clear hkk
 by_cases hs : 100000 < sx
 case pos =>
  go_upto_region 5 with fail
  rw [HE6.out]
  go_wp2
  have hF9 := fin3 (a0 := .int .i64 0) (a1 := .slice none 0 0) (a2 := .slice none 0 0) H6.out.1
  have hO9 := fin3_only W6 (N + 1) (.int .i64 0) (.slice none 0 0) (.slice none 0 0)
  have qq := box3c hF9
  refine bodyPost_ret (v := .tuple #[.slice none 0 0, .agg #[.int .i64 0, .slice none 0 0, .slice none 0 0], .int .i64 0, .int .i64 52]) (by simp [results, Tryz.results11, go_sem, qq.1, qq.2.1, qq.2.2]) rfl ?_
  unfold RulesQ
  rw [HO.out, if_pos (by rw [HX.out.1]; exact hs), eN]
  exact ⟨_, _, _, 0, rfl, ⟨[], rfl, World.ownsRow_nil _ _ _ _, fun q hq => by cases hq⟩, SlAt.nil _ _ _, SlAt.nil _ _ _, H6.out.2.1.trans (hO9.below (by have := H6.out.2.1.size; omega) (fun i hi => by omega))⟩
 have hsx : ¬ (100000 < sx) := hs
 have hfl : 0 < X.fs.length := by rw [HX.out.2.2.1, laidF_len]; exact H2.out.2.2.2.2.2.2.2.2
 obtain ⟨s0, hs0⟩ : ∃ s0, X.fs[0]? = some s0 := ⟨_, List.getElem?_eq_getElem hfl⟩
 have hthr : (X.fsAt 0).thr = s0.thr := by
  show ((X.fs[(0 : Int).toNat]?).getD ⟨0, [], 0, 0, 0⟩).thr = s0.thr
  rw [show ((0 : Int).toNat) = 0 from rfl, hs0]
  rfl
 have hRl := rule_any H6.out.2.2.2.2.1 H6.out.2.2.1 H6.out.2.2.2.1 (fun i hi => by have := hi.2; omega) (by have := resolve_size H2.out.2.2.2.2.2.2.1; omega) hs0 (facts_ok H2.out.2.2.2.2.2.2.1 H2.out.2.2.2.2.2.1 H6.out.2.2.2.2.1 HX.out.2.1 hfl s0.thr) (by have h9 := evR_len X q 0 ⟨0, s0.thr, false⟩; have := resolve_size H2.out.2.2.2.2.2.2.1; omega)
 have HRl := Lib.hid hRl
 have HT := Lib.hid hthr
 clear hRl hs0 hthr hs
 go_upto_region 5 with fail
 rw [HE6.out]
 go_wp2_with fail
 go_at_call 27
 refine HRl.out.mono ?_
 rintro e W7 ⟨⟨v7, rfl⟩, rv7, hM7, ho7, hr7⟩
 obtain ⟨Ar, cr, rfl, -, -⟩ := hM7.row.form
 have hN7 := (ho7.block (N + 1) (heap_lt H6.out.1) (by omega)).trans H6.out.1
 clear p0 p1 p2 q0 q1 q2 k0 k1 k2 k3 m0 m1 m2 m3 m4
 obtain ⟨p0, p1, p2⟩ := box3c hN7
 obtain ⟨q0, q1, q2⟩ := fz3 hN7
 have hc7 := hM7.cells.1
 rw [HX.out.1] at hc7
 obtain ⟨k0, k1, k2, k3⟩ := hc7
 obtain ⟨rl, erl⟩ : ∃ y, rulesE X (evR X q 0 ⟨0, s0.thr, false⟩) = y := ⟨_, rfl⟩
 rw [erl] at hM7 k3
 have HRL := Lib.hid erl
 have H7 := Lib.hid (And.intro hM7 (And.intro ho7 hN7))
 have H5 := Lib.hid (And.intro H6.out.2.2.2.2.2.1 H6.out.2.2.2.2.2.2)
 clear hM7 ho7 hr7 hN7 erl
 go_wp2_with fail
 go_region
 all_goals
  go_wp2
  have hF9 := fin3 (a0 := .int .i64 sx) (a1 := .slice Ax X.fs.length cx) (a2 := .slice Ar rl.length cr) H7.out.2.2
  have hO9 := fin3_only W7 (N + 1) (.int .i64 sx) (.slice Ax X.fs.length cx) (.slice Ar rl.length cr)
  have qq := box3c hF9
  refine bodyPost_ret (v := .tuple #[.slice Af F.length cf, .agg #[.int .i64 sx, .slice Ax X.fs.length cx, .slice Ar rl.length cr], .int .i64 0, .int .i64 0]) (by simp [results, Tryz.results11, go_sem, qq.1, qq.2.1, qq.2.2]) rfl ?_
  unfold RulesQ
  rw [HO.out, if_neg (by rw [HX.out.1]; omega), HT.out, HRL.out]
  have h5 := H7.out.1.low
  have hMk := H6.out.2.2.1.size0
  have h4 := H4.out.size
  have h41 := HZ.out
  have h8 := H7.out.1.lt
  have hk8 : ∀ i, N + 2 ≤ i → i < W5.heap.size → ((((W7.setCell ⟨N + 1, 0, none⟩ (.int .i64 sx)).setCell ⟨N + 1, 1, none⟩ (.slice Ax X.fs.length cx)).setCell ⟨N + 1, 2, none⟩ (.slice Ar rl.length cr)).heap[i]? = W5.heap[i]?) := fun i h1 h2 =>
   (hO9.block i (by omega) (by omega)).trans (h5.block i (by omega))
  refine ⟨_, _, _, W1.heap.size, by simp only [HX.out.1]; rfl, ?_, ?_, ?_, ?_⟩
  ·exact FunsV.keepB H7.out.1.funs (fun i h1 h2 => hk8 i (by omega) h2)
  ·exact FsAcc.sl (FsAcc.keep H5.out.1 (fun i h1 h2 => hk8 i (by have := H5.out.2; omega) h2) (by have := hO9.size; exact Nat.le_trans (by omega) this))
  ·exact RuAcc.sl (RuAcc.keep H7.out.1.row (fun i h1 h2 => hO9.block i h2 (by omega)) hO9.size)
  ·rw [eN]
   have hs6 := H6.out.2.1.size
   have hs7 := H7.out.2.1.size
   have hb67 : Below N W6 W7 := H7.out.2.1.below (by omega) (fun i hi => by have hi' : i = Mb := hi; omega)
   have hb78 : Below N W7 _ := hO9.below (by omega) (fun i hi => by have hi' : i = N + 1 := hi; omega)
   exact Below.drew (H6.out.2.1.trans (hb67.trans hb78))
end
end Go.Proofs.YtikbfoichhkeaaaGreat
