/- What each part of a good tree is. No program. What is known of the parts that are met, one by one. No program. The whole program's tree. No program. How high a tree is. No program. -/
import Derived.Test.YtbpodijcndglgaaPn02
import Derived.Test.YtbpodijcndglgaaPn09
set_option linter.unusedSimpArgs false
set_option linter.unusedVariables false
set_option maxRecDepth 100000
set_option maxHeartbeats 40000000
namespace Go.Proofs.Ytbpodijcndglgaa
def good (t : Tr) : Prop := ∀ y ∈ t.flat, soundOne y = true
theorem good_part : ∀ {l : List Tr} {y : Tr}, y ∈ l → ∀ z ∈ y.flat, z ∈ flats l
 | a :: r, y, h, z, hz => by
  rw [flats_cons, List.mem_append]
  rcases List.mem_cons.1 h with rfl | h
  ·exact .inl hz
  ·exact .inr (good_part h z hz)
theorem good.part {t y : Tr} (h : good t) (hy : y ∈ t.l) : good y := fun z hz => h z (by rw [flat_eq]; exact List.mem_cons_of_mem _ (good_part hy z hz))
theorem good.self {t : Tr} (h : good t) : soundOne t = true := h t (by rw [flat_eq]; exact List.mem_cons_self)
theorem good_of {t : Tr} (h : soundT t = true) : good t := by
 intro y hy
 unfold soundT at h
 rw [List.all_eq_true] at h
 rw [← levels_flat 1 t, List.mem_map] at hy
 obtain ⟨p, hp, rfl⟩ := hy
 have := h p hp
 unfold goodB at this
 rw [Bool.and_eq_true] at this
 exact this.1
section
open Go.RowKit Go.Proofs
def nf : List Ev6 → Nat
 | [] => 0
 | e :: r => (if isFun e.x.op then 1 else 0) + nf r
theorem nf_app : ∀ a b : List Ev6, nf (a ++ b) = nf a + nf b
 | [], b => by simp [nf]
 | e :: r, b => by rw [List.cons_append, nf, nf, nf_app r b]; omega
theorem nfun_eq (x : Lo) : nfunT x.tree = (if isFun x.op then 1 else 0) + nfunL (trees x.l) := by cases x; rw [Lo.tree, nfunT]; rfl
mutual
theorem nf_evA : ∀ (x : Lo) (b o : Nat) (a : Int) (loop : Bool) (k : Nat), nf (evA x b o a loop k) = nfunT x.tree
 | .mk op s n i v l, b, o, a, loop, k => by
  rw [evA, nf, nfun_eq]
  by_cases hf : isFun op = true
  ·rw [if_pos hf, nf_evAL l]
   rfl
  ·rw [if_neg hf, nf_evAL l]
   rfl
theorem nf_evAL : ∀ (l : List Lo) (b o : Nat) (a : Int) (loop : Bool) (k : Nat), nf (evAL l b o a loop k) = nfunL (trees l)
 | [], b, o, a, loop, k => by rw [evAL, trees, nfunL]; rfl
 | x :: r, b, o, a, loop, k => by rw [evAL, trees, nfunL, nf_app, nf_evA x, nf_evAL r]
end
theorem split_cons {α : Type} {a b pre rest : List α} {e : α} (h : a ++ b = pre ++ e :: rest) : (∃ c, a = pre ++ e :: c ∧ rest = c ++ b) ∨ ∃ c, pre = a ++ c ∧ b = c ++ e :: rest := by
 rcases List.append_eq_append_iff.1 h with ⟨c, h1, h2⟩ | ⟨c, h1, h2⟩
 ·exact .inr ⟨c, h1, h2⟩
 ·cases c with
  | nil =>
   refine .inr ⟨[], by simpa using h1.symm, by simpa using h2.symm⟩
  | cons d r =>
   rw [List.cons_append] at h2
   injection h2 with h3 h4
   subst h3
   exact .inl ⟨r, h1, h4⟩
structure EvOk (x : Lo) (b o : Nat) (a : Int) (k : Nat) (pre : List Ev6) (e : Ev6) (rest : List Ev6) : Prop where
 no : e.no = k + nf pre
 sub : ∃ r, e :: rest = evA e.x e.b e.o e.fn e.loop e.no ++ r
 fn : -1 ≤ a → a < k → -1 ≤ e.fn ∧ e.fn < e.no
 stat : ∀ A, Stat A x b o → Stat A e.x e.b e.o
 blks : ∀ g ∈ e.x.blks, g ∈ x.blks
 at_ : x.ok → (e.b, e.o) = (b, o) ∨ (e.b ∈ x.blks ∧ e.o % 5 = 0)
 ok : x.ok → e.x.ok
structure EvOkL (l : List Lo) (b o : Nat) (a : Int) (k : Nat) (pre : List Ev6) (e : Ev6) (rest : List Ev6) : Prop where
 no : e.no = k + nf pre
 sub : ∃ r, e :: rest = evA e.x e.b e.o e.fn e.loop e.no ++ r
 fn : -1 ≤ a → a < k → -1 ≤ e.fn ∧ e.fn < e.no
 stat : ∀ A, StatL A l b o → Stat A e.x e.b e.o
 blks : ∀ g ∈ e.x.blks, g ∈ blksL l
 at_ : okLo l → (e.b = b ∧ o ≤ e.o ∧ (e.o - o) % 5 = 0) ∨ (e.b ∈ blksL l ∧ e.o % 5 = 0)
 ok : okLo l → e.x.ok
mutual
theorem evA_ok : ∀ (x : Lo) (b o : Nat) (a : Int) (loop : Bool) (k : Nat) (pre : List Ev6) (e : Ev6) (rest : List Ev6), evA x b o a loop k = pre ++ e :: rest → EvOk x b o a k pre e rest
 | .mk op s n i v l, b, o, a, loop, k, pre, e, rest, h => by
  cases pre with
  | nil =>
   rw [List.nil_append] at h
   have h2 := h
   rw [evA] at h
   injection h with h1 h3
   subst h1
   exact ⟨rfl, ⟨[], by rw [List.append_nil]; exact h2.symm⟩, fun h1 h2 => ⟨h1, h2⟩, fun A h => h, fun g h => h, fun _ => .inl rfl, fun h => h⟩
  | cons d r =>
   rw [evA, List.cons_append] at h
   injection h with h1 h3
   have key : ∃ a2 loop2 k2, evAL l (rowB v) 0 a2 loop2 k2 = r ++ e :: rest ∧ k2 = k + nf [d] ∧ (-1 ≤ a → a < k → -1 ≤ a2 ∧ a2 < k2) := by
    subst h1
    by_cases hf : isFun op = true
    ·rw [if_pos hf] at h3
     refine ⟨_, _, _, h3, ?_, fun _ _ => by omega⟩
     simp only [nf]
     rw [show isFun (Lo.mk op s n i v l).op = true from hf]
     rfl
    ·rw [if_neg hf] at h3
     refine ⟨_, _, _, h3, ?_, fun h1 h2 => ⟨h1, h2⟩⟩
     simp only [nf]
     rw [if_neg (by exact hf)]
     rfl
   obtain ⟨a2, loop2, k2, h4, h5, h6⟩ := key
   have ih := evAL_ok l (rowB v) 0 a2 loop2 k2 r e rest h4
   refine ⟨?_, ih.sub, fun h7 h8 => ih.fn (h6 h7 h8).1 (h6 h7 h8).2, fun A hA => ih.stat A ?_, fun g hg => ?_, fun hok => ?_, fun hok => ?_⟩
   ·rw [ih.no, h5, show d :: r = [d] ++ r from rfl, nf_app, Nat.add_assoc]
   ·rw [Stat] at hA
    exact hA.2.2.2.2
   ·rw [Lo.blks]
    exact List.mem_append.2 (.inr (ih.blks g hg))
   ·rw [Lo.ok] at hok
    right
    rw [Lo.blks]
    rcases ih.at_ hok.2 with ⟨h7, h8, h9⟩ | ⟨h7, h8⟩
    ·rcases hok.1 with rfl | ⟨g, hg⟩
     ·rw [evAL] at h4
      simp at h4
     ·refine ⟨List.mem_append.2 (.inl ?_), by omega⟩
      rw [h7, rowB, hg]
      simp
    ·exact ⟨List.mem_append.2 (.inr h7), h8⟩
   ·rw [Lo.ok] at hok
    exact ih.ok hok.2
theorem evAL_ok : ∀ (l : List Lo) (b o : Nat) (a : Int) (loop : Bool) (k : Nat) (pre : List Ev6) (e : Ev6) (rest : List Ev6), evAL l b o a loop k = pre ++ e :: rest → EvOkL l b o a k pre e rest
 | [], b, o, a, loop, k, pre, e, rest, h => by
  rw [evAL] at h
  simp at h
 | x :: r, b, o, a, loop, k, pre, e, rest, h => by
  rw [evAL] at h
  rcases split_cons h with ⟨c, h1, h2⟩ | ⟨c, h1, h2⟩
  ·have ih := evA_ok x b o a loop k pre e c h1
   obtain ⟨q, hq⟩ := ih.sub
   refine ⟨ih.no, ⟨q ++ evAL r b (o + 5) a loop (k + nfunT x.tree), ?_⟩, ih.fn, fun A hA => ?_, fun g hg => ?_, fun hok => ?_, fun hok => ?_⟩
   ·rw [h2, ← List.cons_append, hq, List.append_assoc]
   ·rw [StatL] at hA
    exact ih.stat A hA.1
   ·rw [blksL_cons]
    exact List.mem_append.2 (.inl (ih.blks g hg))
   ·rw [okLo] at hok
    rw [blksL_cons]
    rcases ih.at_ hok.1 with h3 | h3
    ·injection h3 with h4 h5
     exact .inl ⟨h4, by omega, by omega⟩
    ·exact .inr ⟨List.mem_append.2 (.inl h3.1), h3.2⟩
   ·rw [okLo] at hok
    exact ih.ok hok.1
  ·have ih := evAL_ok r b (o + 5) a loop (k + nfunT x.tree) c e rest h2
   refine ⟨?_, ih.sub, fun h3 h4 => ih.fn h3 (by omega), fun A hA => ?_, fun g hg => ?_, fun hok => ?_, fun hok => ?_⟩
   ·rw [ih.no, h1, nf_app, nf_evA, Nat.add_assoc]
   ·rw [StatL] at hA
    exact ih.stat A hA.2
   ·rw [blksL_cons]
    exact List.mem_append.2 (.inr (ih.blks g hg))
   ·rw [okLo] at hok
    rw [blksL_cons]
    rcases ih.at_ hok.2 with ⟨h3, h4, h5⟩ | h3
    ·exact .inl ⟨h3, by omega, by omega⟩
    ·exact .inr ⟨List.mem_append.2 (.inr h3.1), h3.2⟩
   ·rw [okLo] at hok
    exact ih.ok hok.2
end
theorem runE_snoc : ∀ (l : List Ev5) (w : WS) (e : Ev5), runE w (l ++ [e]) = match runE w l with
  | .error x => .error x
  | .ok (w', ns) => match stepE w' e with
   | .error x => .error x
   | .ok (w'', n) => .ok (w'', ns ++ [n])
 | [], w, e => by
  rw [List.nil_append]
  show runE w [e] = match stepE w e with
   | .error x => .error x
   | .ok (w'', n) => .ok (w'', [] ++ [n])
  rw [runE]
  cases stepE w e with
  | error x => rfl
  | ok p => obtain ⟨w', n⟩ := p; rfl
 | d :: r, w, e => by
  rw [List.cons_append, runE, runE]
  cases stepE w d with
  | error x => rfl
  | ok p =>
   obtain ⟨w', n⟩ := p
   simp only
   rw [runE_snoc r w' e]
   cases runE w' r with
   | error x => rfl
   | ok q =>
    obtain ⟨w'', ns⟩ := q
    simp only
    cases stepE w'' e with
    | error x => rfl
    | ok z => obtain ⟨w3, m⟩ := z; rfl
theorem runE_app_err {w : WS} {x : Int × Int} : ∀ (l r : List Ev5), runE w l = .error x → runE w (l ++ r) = .error x := by
 intro l
 induction l generalizing w with
 | nil => intro r h; cases h
 | cons d l ih =>
  intro r h
  rw [List.cons_append, runE]
  rw [runE] at h
  cases hs : stepE w d with
  | error y => rw [hs] at h; exact h
  | ok p =>
   obtain ⟨w', n⟩ := p
   rw [hs] at h
   simp only at h ⊢
   cases hr : runE w' l with
   | error y =>
    rw [hr] at h
    cases h
    rw [ih r hr]
   | ok q => rw [hr] at h; cases h
end
section
open Go.RowKit Go.Proofs
mutual
theorem evA_flat : ∀ (x : Lo) (b o : Nat) (a : Int) (loop : Bool) (k : Nat), ∀ e ∈ evA x b o a loop k, e.x.tree ∈ x.tree.flat
 | .mk op s n i v l, b, o, a, loop, k, e, he => by
  rw [evA] at he
  rw [Lo.tree, Tr.flat]
  rcases List.mem_cons.1 he with rfl | he
  ·rw [Lo.tree]
   exact List.mem_cons_self
  ·refine List.mem_cons_of_mem _ ?_
   split at he
   ·exact evAL_flat l _ _ _ _ _ e he
   ·exact evAL_flat l _ _ _ _ _ e he
theorem evAL_flat : ∀ (l : List Lo) (b o : Nat) (a : Int) (loop : Bool) (k : Nat), ∀ e ∈ evAL l b o a loop k, e.x.tree ∈ flats (trees l)
 | [], b, o, a, loop, k, e, he => by rw [evAL] at he; cases he
 | x :: r, b, o, a, loop, k, e, he => by
  rw [evAL] at he
  rw [trees, flats, List.mem_append]
  rcases List.mem_append.1 he with he | he
  ·exact .inl (evA_flat x _ _ _ _ _ e he)
  ·exact .inr (evAL_flat r _ _ _ _ _ e he)
end
theorem fun_parts {t : Tr} (h : soundOne t = true) (hf : isFun t.op = true) : 0 < t.l.length := by
 have h1 : t.op = 41 ∨ t.op = 10 := by
  unfold isFun at hf
  simpa using hf
 rcases h1 with e | e
 ·obtain ⟨-, -, -, xs, b, hl, -⟩ := (inv_41 e).1 h
  rw [hl]
  simp
 ·obtain ⟨-, -, -, xs, b, hl, -⟩ := (inv_10 e).1 h
  rw [hl]
  simp
def wholeL (y : Lo) (line : Int) (g : Nat) : Lo := .mk 41 [] 0 line (.slice (some ⟨g, 0, none⟩) 1 1) [y]
theorem whole_tree (y : Lo) (line : Int) (g : Nat) : (wholeL y line g).tree = .mk 41 [] 0 line [y.tree] := by rw [wholeL, Lo.tree, trees, trees]
theorem whole_blks (y : Lo) (line : Int) (g : Nat) : (wholeL y line g).blks = g :: y.blks := by
 rw [wholeL, Lo.blks, blksL_cons, blksL_nil, List.append_nil]
 rfl
theorem whole_funs {y : Lo} {line : Int} {g : Nat} (h : soundT y.tree = true) (b : Nat) : ∀ e ∈ evA (wholeL y line g) b 0 (-1) false 0, isFun e.x.op = true → 0 < e.x.l.length := by
 intro e he hf
 have h1 := evA_flat _ _ _ _ _ _ e he
 rw [whole_tree, Tr.flat, flats, flats, List.append_nil] at h1
 have hl : e.x.tree.l.length = e.x.l.length := by rw [tree_eq]; simp
 have ho : e.x.tree.op = e.x.op := by rw [tree_eq]; rfl
 rw [← hl]
 rcases List.mem_cons.1 h1 with h2 | h2
 ·rw [h2]
  simp
 ·exact fun_parts (good_of h _ h2) (by rw [ho]; exact hf)
theorem run_whole (p : Tr) : runE ⟨[], 0⟩ (evT (.mk 41 [] 0 p.line [p]) (-1) false 0) = match resT (.mk 41 [] 0 p.line [p]) (-1) false ⟨[], 0⟩ with
  | .error x => .error x
  | .ok (t', w') => .ok (w', numsT t') := by
 have h := runT_eq (.mk 41 [] 0 p.line [p]) (-1) false ⟨[], 0⟩ []
 rw [List.append_nil] at h
 rw [show ((⟨[], 0⟩ : WS).funs.length) = 0 from rfl] at h
 rw [h]
 cases resT (.mk 41 [] 0 p.line [p]) (-1) false ⟨[], 0⟩ with
 | error x => rfl
 | ok q =>
  obtain ⟨t', w'⟩ := q
  simp only [numsE, andE, runE, List.append_nil]
theorem res_whole {p t' : Tr} {w' : WS} (h : resT (.mk 41 [] 0 p.line [p]) (-1) false ⟨[], 0⟩ = .ok (t', w')) : ∃ n q, t' = .mk 41 [] n p.line [q] ∧ resolveT p = .ok (w'.funs, q) := by
 have h0 := h
 rw [resT, if_pos (show isFun 41 = true from rfl)] at h
 simp only at h
 split at h
 ·cases h
 ·obtain ⟨l', hl, rfl⟩ := nodeE_ok h
  rw [resL] at hl
  split at hl
  ·cases hl
  ·rename_i q w1 hq
   rw [resL] at hl
   cases hl
   refine ⟨_, q, rfl, ?_⟩
   unfold resolveT
   rw [h0]
   rfl
theorem res_whole_err {p : Tr} {x : Int × Int} (h : resT (.mk 41 [] 0 p.line [p]) (-1) false ⟨[], 0⟩ = .error x) : resolveT p = .error x := by
 unfold resolveT
 rw [h]
end
mutual
def Tr.height : Tr → Nat
 | .mk _ _ _ _ l => 1 + heights l
def heights : List Tr → Nat
 | [] => 0
 | t :: r => max t.height (heights r)
end
theorem height_eq (t : Tr) : t.height = 1 + heights t.l := by cases t; rw [Tr.height]; rfl
theorem heights_cons (t : Tr) (r : List Tr) : heights (t :: r) = max t.height (heights r) := by rw [heights]
theorem heights_nil : heights [] = 0 := by rw [heights]
theorem heights_le {m : Nat} : ∀ {l : List Tr}, heights l ≤ m ↔ ∀ y ∈ l, y.height ≤ m
 | [] => by rw [heights_nil]; simp
 | t :: r => by
  rw [heights_cons, Nat.max_le, heights_le (l := r)]
  simp
theorem levels_le (t : Tr) : ∀ k m, (∀ p ∈ t.levels k, p.2 ≤ m) ↔ k + t.height ≤ m + 1 := by
 induction t using tree_ind with
 | h t ih =>
  intro k m
  rw [levels_eq, height_eq]
  have key : ∀ (l : List Tr), (∀ y ∈ l, y ∈ t.l) → k ≤ m → ((∀ p ∈ levelsL (k + 1) l, p.2 ≤ m) ↔ k + 1 + heights l ≤ m + 1) := by
   intro l
   induction l with
   | nil => intro _ hk; rw [levelsL_nil, heights_nil]; simp; omega
   | cons a r ihr =>
    intro hl hk
    have h1 := ih a (size_part (hl a List.mem_cons_self)) (k + 1) m
    have h2 := ihr (fun y hy => hl y (List.mem_cons_of_mem _ hy)) hk
    rw [levelsL_cons, heights_cons]
    constructor
    ·intro h
     have a1 := h1.1 fun p hp => h p (List.mem_append_left _ hp)
     have a2 := h2.1 fun p hp => h p (List.mem_append_right _ hp)
     omega
    ·intro h p hp
     rcases List.mem_append.1 hp with hp | hp
     ·exact h1.2 (by omega) p hp
     ·exact h2.2 (by omega) p hp
  constructor
  ·intro h
   have hk : k ≤ m := h (t, k) List.mem_cons_self
   have := (key t.l (fun y hy => hy) hk).1 fun p hp => h p (List.mem_cons_of_mem _ hp)
   omega
  ·intro h p hp
   rcases List.mem_cons.1 hp with rfl | hp
   ·show k ≤ m
    omega
   ·exact (key t.l (fun y hy => hy) (by omega)).2 (by omega) p hp
theorem mem_flats : ∀ {l : List Tr} {z : Tr}, z ∈ flats l → ∃ y ∈ l, z ∈ y.flat
 | [], z, h => by rw [flats_nil] at h; cases h
 | a :: r, z, h => by
  rw [flats_cons, List.mem_append] at h
  rcases h with h | h
  ·exact ⟨a, List.mem_cons_self, h⟩
  ·obtain ⟨y, hy, hz⟩ := mem_flats h
   exact ⟨y, List.mem_cons_of_mem _ hy, hz⟩
theorem good_iff (t : Tr) : good t ↔ soundOne t = true ∧ ∀ y ∈ t.l, good y := by
 constructor
 ·exact fun h => ⟨h.self, fun y hy => h.part hy⟩
 ·rintro ⟨h1, h2⟩ z hz
  rw [flat_eq] at hz
  rcases List.mem_cons.1 hz with rfl | hz
  ·exact h1
  ·obtain ⟨y, hy, hzy⟩ := mem_flats hz
   exact h2 y hy z hzy
theorem soundT_iff (t : Tr) : soundT t = true ↔ good t ∧ t.height ≤ 100 := by
 constructor
 ·intro h
  refine ⟨good_of h, ?_⟩
  have := (levels_le t 1 100).1 fun p hp => by
   unfold soundT at h
   rw [List.all_eq_true] at h
   have := h p hp
   unfold goodB at this
   rw [Bool.and_eq_true, decide_eq_true_eq] at this
   exact this.2
  omega
 ·rintro ⟨h1, h2⟩
  unfold soundT
  rw [List.all_eq_true]
  intro p hp
  unfold goodB
  rw [Bool.and_eq_true, decide_eq_true_eq]
  refine ⟨h1 p.1 ?_, (levels_le t 1 100).2 (by omega) p hp⟩
  rw [← levels_flat 1 t, List.mem_map]
  exact ⟨p, hp, rfl⟩
def OK (h : Int) (t : Tr) : Prop := good t ∧ (t.height : Int) ≤ h
theorem ok_iff (h : Int) (t : Tr) : OK h t ↔ 1 ≤ h ∧ soundOne t = true ∧ ∀ y ∈ t.l, OK (h - 1) y := by
 unfold OK
 rw [good_iff, height_eq]
 constructor
 ·rintro ⟨⟨h1, h2⟩, h3⟩
  refine ⟨by omega, h1, fun y hy => ⟨h2 y hy, ?_⟩⟩
  have := (heights_le (l := t.l)).1 (Nat.le_refl _) y hy
  omega
 ·rintro ⟨h1, h2, h3⟩
  refine ⟨⟨h2, fun y hy => (h3 y hy).1⟩, ?_⟩
  have := (heights_le (m := (h - 1).toNat) (l := t.l)).2 fun y hy => by have := (h3 y hy).2; omega
  omega
theorem right_ok (t : Tr) : rightP t = true ↔ t.op = 32 ∧ OK 100 t := by
 unfold rightP OK
 rw [Bool.and_eq_true, soundT_iff]
 constructor
 ·rintro ⟨h1, h2, h3⟩
  refine ⟨?_, h2, by omega⟩
  unfold hasB at h1
  simpa using h1
 ·rintro ⟨h1, h2, h3⟩
  exact ⟨by rw [h1]; rfl, h2, by omega⟩
end Go.Proofs.Ytbpodijcndglgaa
