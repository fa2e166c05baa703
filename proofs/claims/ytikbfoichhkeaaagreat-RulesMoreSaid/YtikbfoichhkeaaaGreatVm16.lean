/- What is known of the parts that are met, one by one. No program. Trees of the heap: a node's five cells in a block. What each part of a good tree is. No program. The whole program's tree. No program. How high a tree is. No program. gumshoeref03.all, bin, block. gumshoeref03.bin, block. gumshoeref03.function. -/
import Derived.Test.YtikbfoichhkeaaaGreatProg
import Derived.Deep.DeepMust
import Derived.Deep.RegionHeld3
import Derived.Test.YtikbfoichhkeaaaGreatVm04
import Derived.Test.YtikbfoichhkeaaaGreatVm08
set_option linter.unusedSimpArgs false
set_option linter.unusedVariables false
set_option maxRecDepth 100000
set_option maxHeartbeats 40000000
namespace Go.Proofs.YtikbfoichhkeaaaGreat
section
open Go.RowKit Go.Proofs
def nf : List Ev6 → Nat
 | [] => 0
 | e :: r => (if isFun e.x.op then 1 else 0) + nf r
theorem nf_app : ∀ a b : List Ev6, nf (a ++ b) = nf a + nf b
 | [], b => by simp [nf]
 | e :: r, b => by rw [List.cons_append, nf, nf, nf_app r b]; omega
theorem nfun_eq (x : Lo) : nfunT x.tree = (if isFun x.op then 1 else 0) + nfunL (trees x.l) := by cases x; rw [Lo.tree, nfunT]; rfl
mutual
theorem nf_evA : ∀ (x : Lo) (b o : Nat) (a : Int) (loop : Bool) (k : Nat), nf (evA x b o a loop k) = nfunT x.tree
 | .mk op s n i v l, b, o, a, loop, k => by
  rw [evA, nf, nfun_eq]
  by_cases hf : isFun op = true
  ·rw [if_pos hf, nf_evAL l]
   rfl
  ·rw [if_neg hf, nf_evAL l]
   rfl
theorem nf_evAL : ∀ (l : List Lo) (b o : Nat) (a : Int) (loop : Bool) (k : Nat), nf (evAL l b o a loop k) = nfunL (trees l)
 | [], b, o, a, loop, k => by rw [evAL, trees, nfunL]; rfl
 | x :: r, b, o, a, loop, k => by rw [evAL, trees, nfunL, nf_app, nf_evA x, nf_evAL r]
end
theorem split_cons {α : Type} {a b pre rest : List α} {e : α} (h : a ++ b = pre ++ e :: rest) : (∃ c, a = pre ++ e :: c ∧ rest = c ++ b) ∨ ∃ c, pre = a ++ c ∧ b = c ++ e :: rest := by
 rcases List.append_eq_append_iff.1 h with ⟨c, h1, h2⟩ | ⟨c, h1, h2⟩
 ·exact .inr ⟨c, h1, h2⟩
 ·cases c with
  | nil =>
   refine .inr ⟨[], by simpa using h1.symm, by simpa using h2.symm⟩
  | cons d r =>
   rw [List.cons_append] at h2
   injection h2 with h3 h4
   subst h3
   exact .inl ⟨r, h1, h4⟩
structure EvOk (x : Lo) (b o : Nat) (a : Int) (k : Nat) (pre : List Ev6) (e : Ev6) (rest : List Ev6) : Prop where
 no : e.no = k + nf pre
 sub : ∃ r, e :: rest = evA e.x e.b e.o e.fn e.loop e.no ++ r
 fn : -1 ≤ a → a < k → -1 ≤ e.fn ∧ e.fn < e.no
 stat : ∀ A, Stat A x b o → Stat A e.x e.b e.o
 blks : ∀ g ∈ e.x.blks, g ∈ x.blks
 at_ : x.ok → (e.b, e.o) = (b, o) ∨ (e.b ∈ x.blks ∧ e.o % 5 = 0)
 ok : x.ok → e.x.ok
structure EvOkL (l : List Lo) (b o : Nat) (a : Int) (k : Nat) (pre : List Ev6) (e : Ev6) (rest : List Ev6) : Prop where
 no : e.no = k + nf pre
 sub : ∃ r, e :: rest = evA e.x e.b e.o e.fn e.loop e.no ++ r
 fn : -1 ≤ a → a < k → -1 ≤ e.fn ∧ e.fn < e.no
 stat : ∀ A, StatL A l b o → Stat A e.x e.b e.o
 blks : ∀ g ∈ e.x.blks, g ∈ blksL l
 at_ : okLo l → (e.b = b ∧ o ≤ e.o ∧ (e.o - o) % 5 = 0) ∨ (e.b ∈ blksL l ∧ e.o % 5 = 0)
 ok : okLo l → e.x.ok
mutual
theorem evA_ok : ∀ (x : Lo) (b o : Nat) (a : Int) (loop : Bool) (k : Nat) (pre : List Ev6) (e : Ev6) (rest : List Ev6), evA x b o a loop k = pre ++ e :: rest → EvOk x b o a k pre e rest
 | .mk op s n i v l, b, o, a, loop, k, pre, e, rest, h => by
  cases pre with
  | nil =>
   rw [List.nil_append] at h
   have h2 := h
   rw [evA] at h
   injection h with h1 h3
   subst h1
   exact ⟨rfl, ⟨[], by rw [List.append_nil]; exact h2.symm⟩, fun h1 h2 => ⟨h1, h2⟩, fun A h => h, fun g h => h, fun _ => .inl rfl, fun h => h⟩
  | cons d r =>
   rw [evA, List.cons_append] at h
   injection h with h1 h3
   have key : ∃ a2 loop2 k2, evAL l (rowB v) 0 a2 loop2 k2 = r ++ e :: rest ∧ k2 = k + nf [d] ∧ (-1 ≤ a → a < k → -1 ≤ a2 ∧ a2 < k2) := by
    subst h1
    by_cases hf : isFun op = true
    ·rw [if_pos hf] at h3
     refine ⟨_, _, _, h3, ?_, fun _ _ => by omega⟩
     simp only [nf]
     rw [show isFun (Lo.mk op s n i v l).op = true from hf]
     rfl
    ·rw [if_neg hf] at h3
     refine ⟨_, _, _, h3, ?_, fun h1 h2 => ⟨h1, h2⟩⟩
     simp only [nf]
     rw [if_neg (by exact hf)]
     rfl
   obtain ⟨a2, loop2, k2, h4, h5, h6⟩ := key
   have ih := evAL_ok l (rowB v) 0 a2 loop2 k2 r e rest h4
   refine ⟨?_, ih.sub, fun h7 h8 => ih.fn (h6 h7 h8).1 (h6 h7 h8).2, fun A hA => ih.stat A ?_, fun g hg => ?_, fun hok => ?_, fun hok => ?_⟩
   ·rw [ih.no, h5, show d :: r = [d] ++ r from rfl, nf_app, Nat.add_assoc]
   ·rw [Stat] at hA
    exact hA.2.2.2.2
   ·rw [Lo.blks]
    exact List.mem_append.2 (.inr (ih.blks g hg))
   ·rw [Lo.ok] at hok
    right
    rw [Lo.blks]
    rcases ih.at_ hok.2 with ⟨h7, h8, h9⟩ | ⟨h7, h8⟩
    ·rcases hok.1 with rfl | ⟨g, hg⟩
     ·rw [evAL] at h4
      simp at h4
     ·refine ⟨List.mem_append.2 (.inl ?_), by omega⟩
      rw [h7, rowB, hg]
      simp
    ·exact ⟨List.mem_append.2 (.inr h7), h8⟩
   ·rw [Lo.ok] at hok
    exact ih.ok hok.2
theorem evAL_ok : ∀ (l : List Lo) (b o : Nat) (a : Int) (loop : Bool) (k : Nat) (pre : List Ev6) (e : Ev6) (rest : List Ev6), evAL l b o a loop k = pre ++ e :: rest → EvOkL l b o a k pre e rest
 | [], b, o, a, loop, k, pre, e, rest, h => by
  rw [evAL] at h
  simp at h
 | x :: r, b, o, a, loop, k, pre, e, rest, h => by
  rw [evAL] at h
  rcases split_cons h with ⟨c, h1, h2⟩ | ⟨c, h1, h2⟩
  ·have ih := evA_ok x b o a loop k pre e c h1
   obtain ⟨q, hq⟩ := ih.sub
   refine ⟨ih.no, ⟨q ++ evAL r b (o + 5) a loop (k + nfunT x.tree), ?_⟩, ih.fn, fun A hA => ?_, fun g hg => ?_, fun hok => ?_, fun hok => ?_⟩
   ·rw [h2, ← List.cons_append, hq, List.append_assoc]
   ·rw [StatL] at hA
    exact ih.stat A hA.1
   ·rw [blksL_cons]
    exact List.mem_append.2 (.inl (ih.blks g hg))
   ·rw [okLo] at hok
    rw [blksL_cons]
    rcases ih.at_ hok.1 with h3 | h3
    ·injection h3 with h4 h5
     exact .inl ⟨h4, by omega, by omega⟩
    ·exact .inr ⟨List.mem_append.2 (.inl h3.1), h3.2⟩
   ·rw [okLo] at hok
    exact ih.ok hok.1
  ·have ih := evAL_ok r b (o + 5) a loop (k + nfunT x.tree) c e rest h2
   refine ⟨?_, ih.sub, fun h3 h4 => ih.fn h3 (by omega), fun A hA => ?_, fun g hg => ?_, fun hok => ?_, fun hok => ?_⟩
   ·rw [ih.no, h1, nf_app, nf_evA, Nat.add_assoc]
   ·rw [StatL] at hA
    exact ih.stat A hA.2
   ·rw [blksL_cons]
    exact List.mem_append.2 (.inr (ih.blks g hg))
   ·rw [okLo] at hok
    rw [blksL_cons]
    rcases ih.at_ hok.2 with ⟨h3, h4, h5⟩ | h3
    ·exact .inl ⟨h3, by omega, by omega⟩
    ·exact .inr ⟨List.mem_append.2 (.inr h3.1), h3.2⟩
   ·rw [okLo] at hok
    exact ih.ok hok.2
end
theorem runE_snoc : ∀ (l : List Ev5) (w : WS) (e : Ev5), runE w (l ++ [e]) = match runE w l with
  | .error x => .error x
  | .ok (w', ns) => match stepE w' e with
   | .error x => .error x
   | .ok (w'', n) => .ok (w'', ns ++ [n])
 | [], w, e => by
  rw [List.nil_append]
  show runE w [e] = match stepE w e with
   | .error x => .error x
   | .ok (w'', n) => .ok (w'', [] ++ [n])
  rw [runE]
  cases stepE w e with
  | error x => rfl
  | ok p => obtain ⟨w', n⟩ := p; rfl
 | d :: r, w, e => by
  rw [List.cons_append, runE, runE]
  cases stepE w d with
  | error x => rfl
  | ok p =>
   obtain ⟨w', n⟩ := p
   simp only
   rw [runE_snoc r w' e]
   cases runE w' r with
   | error x => rfl
   | ok q =>
    obtain ⟨w'', ns⟩ := q
    simp only
    cases stepE w'' e with
    | error x => rfl
    | ok z => obtain ⟨w3, m⟩ := z; rfl
theorem runE_app_err {w : WS} {x : Int × Int} : ∀ (l r : List Ev5), runE w l = .error x → runE w (l ++ r) = .error x := by
 intro l
 induction l generalizing w with
 | nil => intro r h; cases h
 | cons d l ih =>
  intro r h
  rw [List.cons_append, runE]
  rw [runE] at h
  cases hs : stepE w d with
  | error y => rw [hs] at h; exact h
  | ok p =>
   obtain ⟨w', n⟩ := p
   rw [hs] at h
   simp only at h ⊢
   cases hr : runE w' l with
   | error y =>
    rw [hr] at h
    cases h
    rw [ih r hr]
   | ok q => rw [hr] at h; cases h
end
section
open Go.RowKit Go.Proofs
def BoxAt (w : World) (B : Nat) (t : Tr) (u : Value) : Prop :=
 w.cell? ⟨B, 0, none⟩ = some (.int .i64 t.op) ∧ w.cell? ⟨B, 1, none⟩ = some (.string (bs t.s)) ∧ w.cell? ⟨B, 2, none⟩ = some (.int .i64 t.n) ∧ w.cell? ⟨B, 3, none⟩ = some u ∧ w.cell? ⟨B, 4, none⟩ = some (.int .i64 t.line)
theorem box_in {W0 w' : World} {B : Nat} {t : Tr} {u : Value} (hb : Below W0.heap.size W0 w') (h : W0.heap[B]? = some (.cells #[.int .i64 t.op, .string (bs t.s), .int .i64 t.n, u, .int .i64 t.line] 24 (0, 0))) : BoxAt w' B t u := by
 have hx : w'.heap[B]? = some (.cells #[.int .i64 t.op, .string (bs t.s), .int .i64 t.n, u, .int .i64 t.line] 24 (0, 0)) := (hb.block B (Array.getElem?_eq_some_iff.1 h).1).trans h
 exact ⟨cell_of_row _ _ 0 _ _ _ hx, cell_of_row _ _ 1 _ _ _ hx, cell_of_row _ _ 2 _ _ _ hx, cell_of_row _ _ 3 _ _ _ hx, cell_of_row _ _ 4 _ _ _ hx⟩
theorem elem_at {w wr : World} {b g off i : Nat} {xs : List Tr} {x : Tr} (HA : AtL w b g off xs) (hg : g < b) (hb : Below b w wr) (hx : xs[i]? = some x) :
  ∃ Av cv, At wr b x (nodeV x (.slice Av x.l.length cv)) ∧ wr.cell? ⟨g, off + i * 5, none⟩ = some (.int .i64 x.op) ∧ wr.cell? ⟨g, off + i * 5 + 1, none⟩ = some (.string (bs x.s)) ∧ wr.cell? ⟨g, off + i * 5 + 2, none⟩ = some (.int .i64 x.n) ∧
   wr.cell? ⟨g, off + i * 5 + 3, none⟩ = some (.slice Av x.l.length cv) ∧ wr.cell? ⟨g, off + i * 5 + 4, none⟩ = some (.int .i64 x.line) := by
 obtain ⟨vx, hAt, x0, x1, x2, x3, x4⟩ := AtL.get xs i x (AtL.keep (W' := wr) (n' := b) xs HA hg (Nat.le_refl _) fun _ hp => hb.cell hp) hx
 have hvx : ∃ A c, vx = .slice A x.l.length c := by
  have h := hAt
  rw [At_iff] at h
  obtain ⟨u', e', ⟨A', c', rfl, _⟩, _⟩ := h
  unfold nodeV at e'
  simp at e'
  exact ⟨A', c', e'⟩
 obtain ⟨Av, cv, rfl⟩ := hvx
 exact ⟨Av, cv, hAt, x0, x1, x2, x3, x4⟩
theorem At.more {w w' : World} {b : Nat} {x : Tr} {v : Value} (h : At w b x v) (hg : Below b w w') : At w' b x v := h.below hg
theorem row_at {w : World} {b : Nat} {xs : List Tr} {v : Value} (h : Row w b xs v) : ∃ A c, v = .slice A xs.length c ∧ xs.length ≤ c ∧ c ≤ maxLen := by
 obtain ⟨A, c, rfl, h1, _⟩ := h
 exact ⟨A, c, rfl, h1.1, h1.2⟩
theorem bs_eq_iff (a b : Bs) : ((bs a).toList == (bs b).toList) = decide (a = b) := by
 rw [Lib.toList_data, Lib.toList_data, bs_list, bs_list, Bool.eq_iff_iff]
 simp
end
def good (t : Tr) : Prop := ∀ y ∈ t.flat, soundOne y = true
theorem good_part : ∀ {l : List Tr} {y : Tr}, y ∈ l → ∀ z ∈ y.flat, z ∈ flats l
 | a :: r, y, h, z, hz => by
  rw [flats_cons, List.mem_append]
  rcases List.mem_cons.1 h with rfl | h
  ·exact .inl hz
  ·exact .inr (good_part h z hz)
theorem good.part {t y : Tr} (h : good t) (hy : y ∈ t.l) : good y := fun z hz => h z (by rw [flat_eq]; exact List.mem_cons_of_mem _ (good_part hy z hz))
theorem good.self {t : Tr} (h : good t) : soundOne t = true := h t (by rw [flat_eq]; exact List.mem_cons_self)
theorem good_of {t : Tr} (h : soundT t = true) : good t := by
 intro y hy
 unfold soundT at h
 rw [List.all_eq_true] at h
 rw [← levels_flat 1 t, List.mem_map] at hy
 obtain ⟨p, hp, rfl⟩ := hy
 have := h p hp
 unfold goodB at this
 rw [Bool.and_eq_true] at this
 exact this.1
section
open Go.RowKit Go.Proofs
mutual
theorem evA_flat : ∀ (x : Lo) (b o : Nat) (a : Int) (loop : Bool) (k : Nat), ∀ e ∈ evA x b o a loop k, e.x.tree ∈ x.tree.flat
 | .mk op s n i v l, b, o, a, loop, k, e, he => by
  rw [evA] at he
  rw [Lo.tree, Tr.flat]
  rcases List.mem_cons.1 he with rfl | he
  ·rw [Lo.tree]
   exact List.mem_cons_self
  ·refine List.mem_cons_of_mem _ ?_
   split at he
   ·exact evAL_flat l _ _ _ _ _ e he
   ·exact evAL_flat l _ _ _ _ _ e he
theorem evAL_flat : ∀ (l : List Lo) (b o : Nat) (a : Int) (loop : Bool) (k : Nat), ∀ e ∈ evAL l b o a loop k, e.x.tree ∈ flats (trees l)
 | [], b, o, a, loop, k, e, he => by rw [evAL] at he; cases he
 | x :: r, b, o, a, loop, k, e, he => by
  rw [evAL] at he
  rw [trees, flats, List.mem_append]
  rcases List.mem_append.1 he with he | he
  ·exact .inl (evA_flat x _ _ _ _ _ e he)
  ·exact .inr (evAL_flat r _ _ _ _ _ e he)
end
theorem fun_parts {t : Tr} (h : soundOne t = true) (hf : isFun t.op = true) : 0 < t.l.length := by
 have h1 : t.op = 41 ∨ t.op = 10 := by
  unfold isFun at hf
  simpa using hf
 rcases h1 with e | e
 ·obtain ⟨-, -, -, xs, b, hl, -⟩ := (inv_41 e).1 h
  rw [hl]
  simp
 ·obtain ⟨-, -, -, xs, b, hl, -⟩ := (inv_10 e).1 h
  rw [hl]
  simp
def wholeL (y : Lo) (line : Int) (g : Nat) : Lo := .mk 41 [] 0 line (.slice (some ⟨g, 0, none⟩) 1 1) [y]
theorem whole_tree (y : Lo) (line : Int) (g : Nat) : (wholeL y line g).tree = .mk 41 [] 0 line [y.tree] := by rw [wholeL, Lo.tree, trees, trees]
theorem whole_blks (y : Lo) (line : Int) (g : Nat) : (wholeL y line g).blks = g :: y.blks := by
 rw [wholeL, Lo.blks, blksL_cons, blksL_nil, List.append_nil]
 rfl
theorem whole_funs {y : Lo} {line : Int} {g : Nat} (h : soundT y.tree = true) (b : Nat) : ∀ e ∈ evA (wholeL y line g) b 0 (-1) false 0, isFun e.x.op = true → 0 < e.x.l.length := by
 intro e he hf
 have h1 := evA_flat _ _ _ _ _ _ e he
 rw [whole_tree, Tr.flat, flats, flats, List.append_nil] at h1
 have hl : e.x.tree.l.length = e.x.l.length := by rw [tree_eq]; simp
 have ho : e.x.tree.op = e.x.op := by rw [tree_eq]; rfl
 rw [← hl]
 rcases List.mem_cons.1 h1 with h2 | h2
 ·rw [h2]
  simp
 ·exact fun_parts (good_of h _ h2) (by rw [ho]; exact hf)
theorem run_whole (p : Tr) : runE ⟨[], 0⟩ (evT (.mk 41 [] 0 p.line [p]) (-1) false 0) = match resT (.mk 41 [] 0 p.line [p]) (-1) false ⟨[], 0⟩ with
  | .error x => .error x
  | .ok (t', w') => .ok (w', numsT t') := by
 have h := runT_eq (.mk 41 [] 0 p.line [p]) (-1) false ⟨[], 0⟩ []
 rw [List.append_nil] at h
 rw [show ((⟨[], 0⟩ : WS).funs.length) = 0 from rfl] at h
 rw [h]
 cases resT (.mk 41 [] 0 p.line [p]) (-1) false ⟨[], 0⟩ with
 | error x => rfl
 | ok q =>
  obtain ⟨t', w'⟩ := q
  simp only [numsE, andE, runE, List.append_nil]
theorem res_whole {p t' : Tr} {w' : WS} (h : resT (.mk 41 [] 0 p.line [p]) (-1) false ⟨[], 0⟩ = .ok (t', w')) : ∃ n q, t' = .mk 41 [] n p.line [q] ∧ resolveT p = .ok (w'.funs, q) := by
 have h0 := h
 rw [resT, if_pos (show isFun 41 = true from rfl)] at h
 simp only at h
 split at h
 ·cases h
 ·obtain ⟨l', hl, rfl⟩ := nodeE_ok h
  rw [resL] at hl
  split at hl
  ·cases hl
  ·rename_i q w1 hq
   rw [resL] at hl
   cases hl
   refine ⟨_, q, rfl, ?_⟩
   unfold resolveT
   rw [h0]
   rfl
theorem res_whole_err {p : Tr} {x : Int × Int} (h : resT (.mk 41 [] 0 p.line [p]) (-1) false ⟨[], 0⟩ = .error x) : resolveT p = .error x := by
 unfold resolveT
 rw [h]
end
mutual
def Tr.height : Tr → Nat
 | .mk _ _ _ _ l => 1 + heights l
def heights : List Tr → Nat
 | [] => 0
 | t :: r => max t.height (heights r)
end
theorem height_eq (t : Tr) : t.height = 1 + heights t.l := by cases t; rw [Tr.height]; rfl
theorem heights_cons (t : Tr) (r : List Tr) : heights (t :: r) = max t.height (heights r) := by rw [heights]
theorem heights_nil : heights [] = 0 := by rw [heights]
theorem heights_le {m : Nat} : ∀ {l : List Tr}, heights l ≤ m ↔ ∀ y ∈ l, y.height ≤ m
 | [] => by rw [heights_nil]; simp
 | t :: r => by
  rw [heights_cons, Nat.max_le, heights_le (l := r)]
  simp
theorem levels_le (t : Tr) : ∀ k m, (∀ p ∈ t.levels k, p.2 ≤ m) ↔ k + t.height ≤ m + 1 := by
 induction t using tree_ind with
 | h t ih =>
  intro k m
  rw [levels_eq, height_eq]
  have key : ∀ (l : List Tr), (∀ y ∈ l, y ∈ t.l) → k ≤ m → ((∀ p ∈ levelsL (k + 1) l, p.2 ≤ m) ↔ k + 1 + heights l ≤ m + 1) := by
   intro l
   induction l with
   | nil => intro _ hk; rw [levelsL_nil, heights_nil]; simp; omega
   | cons a r ihr =>
    intro hl hk
    have h1 := ih a (size_part (hl a List.mem_cons_self)) (k + 1) m
    have h2 := ihr (fun y hy => hl y (List.mem_cons_of_mem _ hy)) hk
    rw [levelsL_cons, heights_cons]
    constructor
    ·intro h
     have a1 := h1.1 fun p hp => h p (List.mem_append_left _ hp)
     have a2 := h2.1 fun p hp => h p (List.mem_append_right _ hp)
     omega
    ·intro h p hp
     rcases List.mem_append.1 hp with hp | hp
     ·exact h1.2 (by omega) p hp
     ·exact h2.2 (by omega) p hp
  constructor
  ·intro h
   have hk : k ≤ m := h (t, k) List.mem_cons_self
   have := (key t.l (fun y hy => hy) hk).1 fun p hp => h p (List.mem_cons_of_mem _ hp)
   omega
  ·intro h p hp
   rcases List.mem_cons.1 hp with rfl | hp
   ·show k ≤ m
    omega
   ·exact (key t.l (fun y hy => hy) (by omega)).2 (by omega) p hp
theorem mem_flats : ∀ {l : List Tr} {z : Tr}, z ∈ flats l → ∃ y ∈ l, z ∈ y.flat
 | [], z, h => by rw [flats_nil] at h; cases h
 | a :: r, z, h => by
  rw [flats_cons, List.mem_append] at h
  rcases h with h | h
  ·exact ⟨a, List.mem_cons_self, h⟩
  ·obtain ⟨y, hy, hz⟩ := mem_flats h
   exact ⟨y, List.mem_cons_of_mem _ hy, hz⟩
theorem good_iff (t : Tr) : good t ↔ soundOne t = true ∧ ∀ y ∈ t.l, good y := by
 constructor
 ·exact fun h => ⟨h.self, fun y hy => h.part hy⟩
 ·rintro ⟨h1, h2⟩ z hz
  rw [flat_eq] at hz
  rcases List.mem_cons.1 hz with rfl | hz
  ·exact h1
  ·obtain ⟨y, hy, hzy⟩ := mem_flats hz
   exact h2 y hy z hzy
theorem soundT_iff (t : Tr) : soundT t = true ↔ good t ∧ t.height ≤ 100 := by
 constructor
 ·intro h
  refine ⟨good_of h, ?_⟩
  have := (levels_le t 1 100).1 fun p hp => by
   unfold soundT at h
   rw [List.all_eq_true] at h
   have := h p hp
   unfold goodB at this
   rw [Bool.and_eq_true, decide_eq_true_eq] at this
   exact this.2
  omega
 ·rintro ⟨h1, h2⟩
  unfold soundT
  rw [List.all_eq_true]
  intro p hp
  unfold goodB
  rw [Bool.and_eq_true, decide_eq_true_eq]
  refine ⟨h1 p.1 ?_, (levels_le t 1 100).2 (by omega) p hp⟩
  rw [← levels_flat 1 t, List.mem_map]
  exact ⟨p, hp, rfl⟩
def OK (h : Int) (t : Tr) : Prop := good t ∧ (t.height : Int) ≤ h
theorem ok_iff (h : Int) (t : Tr) : OK h t ↔ 1 ≤ h ∧ soundOne t = true ∧ ∀ y ∈ t.l, OK (h - 1) y := by
 unfold OK
 rw [good_iff, height_eq]
 constructor
 ·rintro ⟨⟨h1, h2⟩, h3⟩
  refine ⟨by omega, h1, fun y hy => ⟨h2 y hy, ?_⟩⟩
  have := (heights_le (l := t.l)).1 (Nat.le_refl _) y hy
  omega
 ·rintro ⟨h1, h2, h3⟩
  refine ⟨⟨h2, fun y hy => (h3 y hy).1⟩, ?_⟩
  have := (heights_le (m := (h - 1).toNat) (l := t.l)).2 fun y hy => by have := (h3 y hy).2; omega
  omega
theorem right_ok (t : Tr) : rightP t = true ↔ t.op = 32 ∧ OK 100 t := by
 unfold rightP OK
 rw [Bool.and_eq_true, soundT_iff]
 constructor
 ·rintro ⟨h1, h2, h3⟩
  refine ⟨?_, h2, by omega⟩
  unfold hasB at h1
  simpa using h1
 ·rintro ⟨h1, h2, h3⟩
  exact ⟨by rw [h1]; rfl, h2, by omega⟩
section
open Go.RowKit Go.Proofs
def Says (P : Prop) (w : World) (e : Ending) (w' : World) : Prop := ∃ b : Bool, e = .returned (.bool b) ∧ (b = true ↔ P) ∧ Below w.heap.size w w'
def RefE (h : Int) (y : Tr) : Prop := ∀ (v : Value) (w : World), At w w.heap.size y v → Calls Tryz.prog 87 #[v, .int .i64 h] w (Says (isE y ∧ OK h y) w)
def RefS (h : Int) (y : Tr) : Prop := ∀ (v : Value) (w : World), At w w.heap.size y v → Calls Tryz.prog 50 #[v, .int .i64 h] w (Says (isS y ∧ OK h y) w)
theorem all_any (h : Int) (l : List Tr) (v : Value) (w : World) (hr : Row w w.heap.size l v) (hE : ∀ y ∈ l, RefE h y) (hl : l.length ≤ 9223372036854775807) :
  Calls Tryz.prog 86 #[v, .int .i64 h] w (Says (∀ y ∈ l, isE y ∧ OK h y) w) := by
 obtain ⟨A, c, rfl, hlc, hcm⟩ := row_at hr
 have hform : ∀ k y, l[k]? = some y → ∃ g off, A = some ⟨g, off, none⟩ ∧ ∀ w', Below w.heap.size w w' → ∃ Av cv, At w' w'.heap.size y (nodeV y (.slice Av y.l.length cv)) ∧ w'.cell? ⟨g, off + k * 5, none⟩ = some (.int .i64 y.op) ∧ w'.cell? ⟨g, off + k * 5 + 1, none⟩ = some (.string (bs y.s)) ∧ w'.cell? ⟨g, off + k * 5 + 2, none⟩ = some (.int .i64 y.n) ∧
   w'.cell? ⟨g, off + k * 5 + 3, none⟩ = some (.slice Av y.l.length cv) ∧ w'.cell? ⟨g, off + k * 5 + 4, none⟩ = some (.int .i64 y.line) := fun k y hy => by
  obtain ⟨hk, -⟩ := List.getElem?_eq_some_iff.1 hy
  obtain ⟨A', c', e, -, h2⟩ := hr
  cases e
  obtain ⟨g, off, rfl, hg, ha⟩ := h2 (by omega)
  refine ⟨g, off, rfl, fun w' hb => ?_⟩
  obtain ⟨Av, cv, hA, x⟩ := elem_at ha hg hb hy
  exact ⟨Av, cv, At.keep y hA hb.size fun _ _ => rfl, x⟩
 have HF := Lib.hid hform
 have HE := Lib.hid hE
 have HLc := Lib.hid hlc
 clear hr hform hE hlc hcm
 go_enter Tryz.func86, Tryz.ntmps86
 go_wp2
 go_loopw [5] (fun i wr => ∃ k : Nat, k ≤ l.length ∧ i = .int .i64 k ∧ RowKit.Hid ((∀ j y, j < k → l[j]? = some y → isE y ∧ OK h y) ∧ Below w.heap.size w wr)) (fun i _ => l.length - (intOf i).toNat)
 case atStart => exact ⟨0, Nat.zero_le _, rfl, Lib.hid ⟨fun j y hj => by omega, Below.refl _ _⟩⟩
 case round =>
  obtain ⟨k, hk, rfl, HR⟩ := hrel
  by_cases hlt : k < l.length
  ·obtain ⟨y, hy⟩ : ∃ y, l[k]? = some y := ⟨_, List.getElem?_eq_getElem hlt⟩
   have hym := List.mem_of_getElem? hy
   obtain ⟨g, off, hAg, hcell⟩ := HF.out k y hy
   obtain ⟨Av, cv, hyA, x0, x1, x2, x3, x4⟩ := hcell wr HR.out.2
   have hc := HE.out y hym _ wr hyA
   unfold nodeV at hc
   subst hAg
   have hkc : k < c := by have := HLc.out; omega
   have hk15 : k ≤ 9223372036854775807 := by omega
   have HC := Lib.hid hc
   have HY := Lib.hid (And.intro hy hym)
   clear hc hym hyA hcell hy
   go_wp2_with fail
   go_at_call 87
   refine HC.out.mono ?_
   rintro e w5 ⟨b, rfl, hb, hb5⟩
   have HB := Lib.hid (And.intro hb (HR.out.2.trans (hb5.mono HR.out.2.size)))
   clear hb hb5
   cases b with
   | true =>
    go_wp2
    go_roundw
    case rel =>
     refine ⟨k + 1, by omega, by simp, Lib.hid ⟨fun j z hj hz => ?_, HB.out.2⟩⟩
     by_cases hjk : j < k
     ·exact HR.out.1 j z hjk hz
     ·obtain rfl : j = k := by omega
      rw [HY.out.1] at hz
      cases hz
      exact HB.out.1.1 (by trivial)
    case measure => simp [intOf]; omega
   | false =>
    go_wp2
    go_ret
    refine ⟨false, rfl, ⟨fun hf => absurd hf (by simp), fun hall => ?_⟩, HB.out.2⟩
    have := HB.out.1.2 (hall y HY.out.2)
    exact absurd this (by simp)
  ·obtain rfl : k = l.length := by omega
   go_wp2
   go_ret
   refine ⟨true, rfl, ⟨fun _ y hy => ?_, fun _ => rfl⟩, HR.out.2⟩
   obtain ⟨i, hi, ei⟩ := List.mem_iff_getElem.1 hy
   exact HR.out.1 i y hi (by rw [List.getElem?_eq_getElem hi, ei])
open Go.RowKit Go.Proofs
theorem block_any (h : Int) (y : Tr) (hS : RefS h y) (v : Value) (w : World) (hA : At w w.heap.size y v) : Calls Tryz.prog 33 #[v, .int .i64 h] w (Says (y.op = 32 ∧ OK h y) w) := by
 obtain ⟨u, rfl, -, -⟩ := (At_iff _ _ _ _).1 hA
 obtain ⟨W1, eW⟩ : ∃ W, w.alloc (.cells #[.int .i64 y.op, .string (bs y.s), .int .i64 y.n, u, .int .i64 y.line] 24) = W := ⟨_, rfl⟩
 have hb0 : Below w.heap.size w W1 := by rw [← eW]; exact (Below.refl _ w).alloc (Nat.le_refl _) _
 have hz0 : W1.heap.size = w.heap.size + 1 := by rw [← eW]; simp
 have hx : W1.heap[w.heap.size]? = some (.cells #[.int .i64 y.op, .string (bs y.s), .int .i64 y.n, u, .int .i64 y.line] 24 (0, 0)) := by rw [← eW]; exact heap_alloc_new w _
 have hbx := fun (w' : World) (hb : Below W1.heap.size W1 w') => box_in hb hx
 have hc := hS _ W1 (At.keep y hA hb0.size fun p hp => hb0.cell hp)
 unfold nodeV at hc ⊢
 unfold BoxAt at hbx
 have HC := Lib.hid hc
 have HW := Lib.hid (And.intro eW (And.intro hb0 hz0))
 obtain ⟨f0, f1, f2, f3, f4⟩ := hbx W1 (Below.refl _ _)
 clear hc hbx hx hb0 hz0 hA hS
 by_cases hop : y.op = 32
 ·have hop2 : (y.op == 32) = true := by rw [hop]; rfl
  have HO := Lib.hid hop
  clear hop
  go_enter Tryz.func33, Tryz.ntmps33
  go_wp2_with fail
  go_at_call 50
  refine HC.out.mono ?_
  rintro e w5 ⟨b, rfl, hb, hb5⟩
  have HB := Lib.hid (And.intro hb (HW.out.2.1.trans (hb5.mono (by have := HW.out.2.2; omega))))
  clear hb hb5
  go_wp2
  go_ret
  refine ⟨b, by first | rfl | simp, ?_, HB.out.2⟩
  rw [HB.out.1]
  exact ⟨fun hh => ⟨HO.out, hh.2⟩, fun hh => ⟨by unfold isS; rw [HO.out]; rfl, hh.2⟩⟩
 ·have hop2 : (y.op == 32) = false := by simpa using hop
  have HO := Lib.hid hop
  clear hop
  go_enter Tryz.func33, Tryz.ntmps33
  go_wp2
  go_ret
  exact ⟨false, by first | rfl | simp, ⟨fun hf => absurd hf (by simp), fun hh => absurd hh.1 HO.out⟩, HW.out.2.1⟩
open Go.RowKit Go.Proofs
end
end Go.Proofs.YtikbfoichhkeaaaGreat
