/- Functions that are told: what is read of them. The maker of rules as it lies in memory; rules in rows. What the laws' loops go by. No program. What the law of numbers goes by. No program. rules.kinds: the map of the methods that add rules. What the law of lines goes by. No program. scope.Resolve, all its answers told alike. -/
import Derived.Test.YtikbfoichhkeaaaGreatVm20
import Derived.Test.YtikbfoichhkeaaaGreatVm25
set_option linter.unusedSimpArgs false
set_option linter.unusedVariables false
set_option maxRecDepth 100000
set_option maxHeartbeats 40000000
namespace Go.Proofs.YtikbfoichhkeaaaGreat
section
open Go.RowKit Go.Proofs
section
variable {W W' : World} {B : Nat} {v : Value} {fs : List Fn}
theorem FunsV.below (h : FunsV W B v fs) (hb : Below W.heap.size W W') : FunsV W' B v fs := by
 obtain ⟨L, h1, h2, h3⟩ := h
 exact ⟨L, h1, rowBelow h2 hb, fun q hq => rowBelow (h3 q hq) hb⟩
theorem FunsV.form (h : FunsV W B v fs) : ∃ A c, v = .slice A fs.length c ∧ fs.length ≤ c ∧ c ≤ maxLen := by
 obtain ⟨L, rfl, h2, h3⟩ := h
 rw [List.length_map]
 rcases h2.2 with ⟨rfl, h0⟩ | ⟨g, cap, cur, rfl, k1, k2, k3, k4, k5⟩
 ·exact ⟨none, 0, by rw [h0], by omega, by unfold maxLen; omega⟩
 ·exact ⟨_, cap, rfl, k3, k4⟩
theorem gRow_get : ∀ (L : List (Fn × Value)) (i j : Nat), j < 5 → (gRow L)[i * 5 + j]? = (L[i]?).bind fun q => (gCells q)[j]?
 | [], i, j, _ => by simp
 | a :: r, 0, j, hj => by
  rw [show gRow (a :: r) = gCells a ++ gRow r from rfl, List.getElem?_append_left (by simp [gCells]; omega)]
  simp
 | a :: r, i + 1, j, hj => by
  rw [show gRow (a :: r) = gCells a ++ gRow r from rfl, List.getElem?_append_right (by simp [gCells]; omega), show (i + 1) * 5 + j - (gCells a).length = i * 5 + j by simp [gCells]; omega, gRow_get r i j hj]
  simp
theorem FunsV.get (h : FunsV W B v fs) {i : Nat} {f : Fn} (hf : fs[i]? = some f) :
  ∃ g c As cs, v = .slice (some ⟨g, 0, none⟩) fs.length c ∧ W.cell? ⟨g, i * 5, none⟩ = some (.int .i64 f.around) ∧ W.cell? ⟨g, i * 5 + 1, none⟩ = some (.string (bs f.name)) ∧ W.cell? ⟨g, i * 5 + 2, none⟩ = some (.int .i64 f.params) ∧
   W.cell? ⟨g, i * 5 + 3, none⟩ = some (.slice As f.vars.length cs) ∧ W.cell? ⟨g, i * 5 + 4, none⟩ = some (.int .i64 f.mark) ∧ ∀ j s, f.vars[j]? = some s → ∃ b, As = some ⟨b, 0, none⟩ ∧ W.cell? ⟨b, j, none⟩ = some (.string (bs s)) := by
 obtain ⟨L, rfl, h2, h3⟩ := h
 rw [List.getElem?_map] at hf
 cases hq : L[i]? with
 | none => rw [hq] at hf; cases hf
 | some q =>
  rw [hq] at hf
  cases hf
  have hi := (List.getElem?_eq_some_iff.1 hq).1
  have hm := List.mem_of_getElem? hq
  rcases h2.2 with ⟨rfl, h0⟩ | ⟨g, cap, cur, rfl, k1, k2, k3, k4, k5⟩
  ·omega
  ·have hc : ∀ j, j < 5 → W.cell? ⟨g, i * 5 + j, none⟩ = (gCells q)[j]? := fun j hj => by
    have := World.ownsRow.cellAt (cap := cap) (g := g) ⟨h2.1, .inr ⟨g, cap, cur, rfl, k1, k2, k3, k4, k5⟩⟩ (i * 5 + j) (by omega)
    rw [this, gRow_get L i j hj, hq]
    rfl
   obtain ⟨As, cs, hs, hn⟩ : ∃ As cs, q.2 = .slice As q.1.vars.length cs ∧ ∀ j s, q.1.vars[j]? = some s → ∃ b, As = some ⟨b, 0, none⟩ ∧ W.cell? ⟨b, j, none⟩ = some (.string (bs s)) := by
    have h9 := h3 q hm
    rcases h9.2 with ⟨e, e0⟩ | ⟨b, cap', cur', e, q1, q2, q3, q4, q5⟩
    ·exact ⟨none, 0, by rw [e, e0], fun j s hj => by have := (List.getElem?_eq_some_iff.1 hj).1; omega⟩
    ·refine ⟨_, cap', e, fun j s hj => ⟨b, rfl, ?_⟩⟩
     have hj' := (List.getElem?_eq_some_iff.1 hj).1
     rw [e] at h9
     rw [World.ownsRow.cellAt h9 j (by omega), namesV, List.getElem?_map, hj]
     rfl
   refine ⟨g, cap, As, cs, by rw [List.length_map], hc 0 (by omega), hc 1 (by omega), hc 2 (by omega), ?_, hc 4 (by omega), hn⟩
   rw [hc 3 (by omega), ← hs]
   rfl
end
end
section
open Go.RowKit Go.Proofs
def IntsF (W : World) (S : Nat → Prop) (v : Value) (l : List Int) : Prop :=
 ∃ A c, v = .slice A l.length c ∧ (l.length ≤ c ∧ c ≤ maxLen) ∧ (0 < l.length → ∃ g, A = some ⟨g, 0, none⟩ ∧ S g ∧ ∀ (i : Nat) (x : Int), l[i]? = some x → W.cell? ⟨g, i, none⟩ = some (.int .i64 x))
theorem IntsF.keep {W W' : World} {S S' : Nat → Prop} {v : Value} {l : List Int} (h : IntsF W S v l) (hS : ∀ i, S i → S' i) (hk : ∀ i, S i → W'.heap[i]? = W.heap[i]?) : IntsF W' S' v l := by
 obtain ⟨A, c, h1, h2, h3⟩ := h
 refine ⟨A, c, h1, h2, fun h0 => ?_⟩
 obtain ⟨g, h4, h5, h6⟩ := h3 h0
 exact ⟨g, h4, hS g h5, fun i x hx => (cell_block (hk g h5) ⟨g, i, none⟩ rfl).trans (h6 i x hx)⟩
theorem IntsF.nil (W : World) (S : Nat → Prop) : IntsF W S (.slice none 0 0) [] := ⟨none, 0, rfl, ⟨Nat.le_refl _, by unfold maxLen; omega⟩, fun h => by simp at h⟩
def ruV (r : Ru) (v : Value) : List Value := [.int .i64 r.kd, .int .i64 r.f, .int .i64 r.x, .int .i64 r.y, .int .i64 r.z, .int .i64 r.n, .int .i64 r.m, .string (bs r.s), v]
def RuF (W : World) (S : Nat → Prop) (cs : List Value) (r : Ru) : Prop := ∃ v, cs = ruV r v ∧ IntsF W S v r.l ∧ r.s.length ≤ maxLen
theorem RuF.keep {W W' : World} {S S' : Nat → Prop} {cs : List Value} {r : Ru} (h : RuF W S cs r) (hS : ∀ i, S i → S' i) (hk : ∀ i, S i → W'.heap[i]? = W.heap[i]?) : RuF W' S' cs r := by
 obtain ⟨v, h1, h2, h3⟩ := h
 exact ⟨v, h1, h2.keep hS hk, h3⟩
abbrev RuE (B : Nat) (v : Value) (W : World) (cs : List Value) (r : Ru) : Prop := RuF W (foot B W v) cs r
theorem RuE.cells (B : Nat) (v : Value) : Cells 9 (RuE B v) := fun W cs r h => by
 obtain ⟨u, rfl, ⟨A, c, rfl, -, -⟩, -⟩ := h
 refine ⟨rfl, fun u hu => ?_⟩
 simp only [ruV, List.mem_cons, List.not_mem_nil, or_false] at hu
 rcases hu with rfl | rfl | rfl | rfl | rfl | rfl | rfl | rfl | rfl <;> rfl
def RuAcc (B : Nat) (W : World) (l : List Ru) (v : Value) : Prop := OwnR 9 44 (RuE B v) W W B v l
theorem info44 : (Tryz.prog.info? 44).map (fun i => (i.zero, i.size, i.bytes)) = some (some (.agg #[.int .i64 0, .int .i64 0, .int .i64 0, .int .i64 0, .int .i64 0, .int .i64 0, .int .i64 0, .string ⟨#[]⟩, .slice none 0 0]), 9, 96) := by kernel_rfl
theorem RuAcc.nil (B : Nat) (W : World) : RuAcc B W [] (.slice none 0 0) := OwnR.nil _ _ _ _ _ _
theorem RuAcc.form {B : Nat} {W : World} {l : List Ru} {v : Value} (h : RuAcc B W l v) : ∃ A c, v = .slice A l.length c ∧ l.length ≤ c ∧ c ≤ maxLen := OwnR.form h
theorem RuAcc.own {B : Nat} {W : World} {l : List Ru} {v : Value} (h : RuAcc B W l v) : ∀ i, v.ownBlock = some i → B ≤ i ∧ i < W.heap.size := by
 obtain ⟨L, -, -, ho⟩ := h
 intro i hi
 rcases ho.2 with ⟨rfl, -⟩ | ⟨g, cap, cur, rfl, h1, h2, -⟩
 ·simp [Value.ownBlock] at hi
 ·simp [Value.ownBlock] at hi
  subst hi
  exact ⟨h1, heap_lt h2⟩
theorem RuAcc.keep {B : Nat} {W W' : World} {l : List Ru} {v : Value} (h : RuAcc B W l v) (hk : ∀ i, B ≤ i → i < W.heap.size → W'.heap[i]? = W.heap[i]?) (hz : W.heap.size ≤ W'.heap.size) : RuAcc B W' l v := by
 obtain ⟨L, h1, h2, h3⟩ := h
 refine ⟨L, h1, fun q hq => (h2 q hq).keep (fun i hi => ⟨⟨hi.1.1, Nat.lt_of_lt_of_le hi.1.2 hz⟩, hi.2⟩) (fun i hi => hk i hi.1.1 hi.1.2), h3.1, ?_⟩
 rcases h3.2 with h | ⟨g, cap, cur, rfl, h4, h5, h6⟩
 ·exact .inl h
 ·exact .inr ⟨g, cap, cur, rfl, h4, (hk g h4 (heap_lt h5)).trans h5, h6⟩
theorem RuAcc.push {B : Nat} {W : World} {l : List Ru} {v : Value} {r : Ru} {cs : List Value} (h : RuAcc B W l v) (hr : RuF W (foot B W v) cs r) (hB : B ≤ W.heap.size) (hn : l.length ≤ 900000) :
  ∃ v' w', (Builtin.append_ #[29, 29] 29 #[v, .slice (some ⟨W.heap.size, 0, none⟩) 1 1]).run Tryz.prog (W.alloc (.cells cs.toArray 44)) = .ok v' w' ∧
   RuAcc B w' (l ++ [r]) v' ∧ Only (fun i => v.ownBlock = some i) W w' ∧ (∃ A c, v' = .slice A (l.length + 1) c) ∧ (∀ k, v'.ownBlock = some k → v.ownBlock = some k ∨ W.heap.size ≤ k) := by
 have hown := h.own
 have hal : Below W.heap.size W (W.alloc (.cells cs.toArray 44)) := (Below.refl _ _).alloc (Nat.le_refl _) _
 obtain ⟨v', w', r1, r2⟩ := app9 (p := Tryz.prog) (RuE.cells B v) (by decide) Tryz.underlying29 info44 rfl (by decide) (w0 := W) (w := W.alloc (.cells cs.toArray 44)) (B := B) (v := v) (m := [r]) (OwnR.below h hal) (Src9.blk (x := r) hr (heap_alloc_new W _)) (by simp; omega) (by simp; omega)
 have hon : Only (fun i => v.ownBlock = some i) W w' := (Only.of_below hal).trans' (Only.grown r2.grown (fun r hr => hr.symm ▸ rfl))
 refine ⟨v', w', r1, ?_, hon, ?_, ?_⟩
 ·obtain ⟨L, h1, h2, h3⟩ := r2.own
  refine ⟨L, h1, fun q hq => (h2 q hq).keep (fun i hi => ⟨⟨hi.1.1, Nat.lt_of_lt_of_le hi.1.2 hon.size⟩, fun e' => ?_⟩) (fun i hi => hon.block i hi.1.2 hi.2), h3⟩
  rcases r2.lies with h4 | h4
  ·rw [h4] at e'
   exact hi.2 e'
  ·rw [h4] at e'
   simp at e'
   have := hi.1.2
   omega
 ·obtain ⟨A, c, e, -, -⟩ := r2.form
  exact ⟨A, c, by rw [e]; simp⟩
 ·intro k hk
  rcases r2.lies with h4 | h4
  ·exact .inl (h4 ▸ hk)
  ·rw [h4] at hk
   simp at hk
   right
   omega
def fsV (f : FS) (v : Value) : List Value := [.int .i64 f.mark, v, .int .i64 f.this, .int .i64 f.ret, .int .i64 f.thr]
def FsP (W : World) (cs : List Value) (f : FS) : Prop := ∃ v, cs = fsV f v ∧ IntsF W (fun k => k < W.heap.size) v f.pars
theorem FsP.keeps : Keeps FsP := fun W W' cs x h hb => by
 obtain ⟨v, h1, h2⟩ := h
 exact ⟨v, h1, h2.keep (fun i hi => Nat.lt_of_lt_of_le hi hb.size) (fun i hi => hb.block i hi)⟩
structure MkAt (W0 W : World) (Mb fB : Nat) (X : Cx) (fv fsv rv : Value) (rs : List Ru) : Prop where
 size0 : W0.heap.size = Mb
 low : Below Mb W0 W
 funs : FunsV W0 fB fv X.F
 fs0 : SlAt 5 FsP W0 fsv X.fs
 box : W.heap[Mb]? = some (.cells #[fv, .int .i64 X.sets, fsv, rv] 57 (0, 0))
 row : RuAcc (Mb + 1) W rs rv
def mkF (Mb : Nat) (rv : Value) (k : Nat) : Prop := k = Mb ∨ rv.ownBlock = some k
section
variable {W0 W W' : World} {Mb fB : Nat} {X : Cx} {fv fsv rv : Value} {rs : List Ru}
theorem MkAt.lt (h : MkAt W0 W Mb fB X fv fsv rv rs) : Mb < W.heap.size := heap_lt h.box
theorem MkAt.fun1 (h : MkAt W0 W Mb fB X fv fsv rv rs) : FunsV W fB fv X.F := h.funs.below (by rw [h.size0]; exact h.low)
theorem MkAt.fs1 (h : MkAt W0 W Mb fB X fv fsv rv rs) : SlAt 5 FsP W fsv X.fs := h.fs0.below FsP.keeps (by rw [h.size0]; exact h.low)
theorem MkAt.below (h : MkAt W0 W Mb fB X fv fsv rv rs) (hb : Below W.heap.size W W') : MkAt W0 W' Mb fB X fv fsv rv rs :=
 ⟨h.size0, h.low.trans (hb.mono (Nat.le_of_lt h.lt)), h.funs, h.fs0, (hb.block Mb h.lt).trans h.box, h.row.keep (fun i _ hi => hb.block i hi) hb.size⟩
theorem MkAt.cells (h : MkAt W0 W Mb fB X fv fsv rv rs) : (W.cell? ⟨Mb, 0, none⟩ = some fv ∧ W.cell? ⟨Mb, 1, none⟩ = some (.int .i64 X.sets) ∧ W.cell? ⟨Mb, 2, none⟩ = some fsv ∧ W.cell? ⟨Mb, 3, none⟩ = some rv) ∧ W.frozen? ⟨Mb, 3, none⟩ = false :=
 ⟨⟨cell_of_row _ _ 0 _ _ _ h.box, cell_of_row _ _ 1 _ _ _ h.box, cell_of_row _ _ 2 _ _ _ h.box, cell_of_row _ _ 3 _ _ _ h.box⟩, by simp [World.frozen?, h.box]⟩
end
theorem fs_get {W : World} {A : Option Addr} {n cap : Nat} {l : List FS} (h : SlAt 5 FsP W (.slice A n cap) l) (i : Nat) (f : FS) (hf : l[i]? = some f) :
  ∃ g off v, A = some ⟨g, off, none⟩ ∧ g < W.heap.size ∧ IntsF W (fun k => k < W.heap.size) v f.pars ∧ W.cell? ⟨g, off + i * 5, none⟩ = some (.int .i64 f.mark) ∧ W.cell? ⟨g, off + i * 5 + 1, none⟩ = some v ∧ W.cell? ⟨g, off + i * 5 + 2, none⟩ = some (.int .i64 f.this) ∧ W.cell? ⟨g, off + i * 5 + 3, none⟩ = some (.int .i64 f.ret) ∧ W.cell? ⟨g, off + i * 5 + 4, none⟩ = some (.int .i64 f.thr) := by
 obtain ⟨e, -, -, hget⟩ := SlAt.get h
 obtain ⟨g, off, f', cs, rfl, hg, hf', ⟨v, rfl, h1⟩, hc⟩ := hget i (by rw [e]; exact (List.getElem?_eq_some_iff.1 hf).1)
 rw [hf] at hf'
 cases hf'
 exact ⟨g, off, v, rfl, hg, h1, hc 0 (by decide), hc 1 (by decide), hc 2 (by decide), hc 3 (by decide), hc 4 (by decide)⟩
def AddQ (W0 : World) (Mb fB : Nat) (X : Cx) (fv fsv : Value) (W : World) (rv : Value) (rs : List Ru) (e : Ending) (W' : World) : Prop :=
 (∃ v, e = .returned v) ∧ ∃ rv', MkAt W0 W' Mb fB X fv fsv rv' rs ∧ Only (mkF Mb rv) W W' ∧ ∀ k, rv'.ownBlock = some k → rv.ownBlock = some k ∨ W.heap.size ≤ k
end
mutual
theorem resT_err : ∀ (t : Tr) (a : Int) (loop : Bool) (w : WS) (line er : Int), resT t a loop w = .error (line, er) → er ≠ 0
 | .mk op s n li l, a, loop, w, line, er, h => by
  have key : ∀ (k : Int) (b : Int) (lp : Bool) (w1 : WS), nodeE op s k li (resL l b lp w1) = .error (line, er) → er ≠ 0 := fun k b lp w1 h => by
   cases hl : resL l b lp w1 with
   | error x =>
    obtain ⟨x1, x2⟩ := x
    rw [hl] at h
    cases h
    exact resL_err l b lp w1 _ _ hl
   | ok x => rw [hl] at h; cases h
  rw [resT] at h
  split at h
  ·simp only at h
   split at h
   ·cases h; decide
   ·exact key _ _ _ _ h
  ·split at h
   ·exact key _ _ _ _ h
   ·split at h
    ·split at h
     ·cases h; decide
     ·exact key _ _ _ _ h
    ·split at h
     ·cases h; decide
     ·exact key _ _ _ _ h
theorem resL_err : ∀ (l : List Tr) (a : Int) (loop : Bool) (w : WS) (line er : Int), resL l a loop w = .error (line, er) → er ≠ 0
 | [], a, loop, w, line, er, h => by rw [resL] at h; cases h
 | t :: r, a, loop, w, line, er, h => by
  rw [resL] at h
  split at h
  ·rename_i x hx
   cases h
   exact resT_err t a loop w _ _ hx
  ·split at h
   ·rename_i x hx
    cases h
    exact resL_err r _ _ _ _ _ hx
   ·cases h
end
theorem resolve_err {t : Tr} {line er : Int} (h : resolveT t = .error (line, er)) : er ≠ 0 := by
 unfold resolveT at h
 split at h
 ·rename_i x hx
  cases h
  exact resT_err _ _ _ _ _ _ hx
 ·cases h
mutual
theorem bare_size : ∀ t : Tr, (bareT t).size = t.size
 | .mk op s n i l => by rw [bareT, Tr.size, Tr.size, bare_sizes l]
theorem bare_sizes : ∀ l : List Tr, sizes (bareL l) = sizes l
 | [] => by rw [bareL]
 | t :: r => by rw [bareL, sizes, sizes, bare_size t, bare_sizes r]
end
theorem resolve_size {p q : Tr} {F : List Fn} (h : resolveT p = .ok (F, q)) : q.size = p.size := by
 rw [← bare_size q, (resolve_told h).1, bare_size p]
def ok1 (F : List Fn) (t : Tr) : Prop := (t.op = 1 ∨ t.op = 30 ∨ t.op = 35 ∨ t.op = 38 → ∃ (j i : Nat) (f : Fn), t.n = 1000 * (j : Int) + (i : Int) ∧ F[j]? = some f ∧ f.vars[i]? = some t.s) ∧
 (isFun t.op = true → ∃ (j : Nat) (f : Fn), t.n = j ∧ 1 ≤ j ∧ F[j]? = some f ∧ f.name = t.s)
mutual
theorem okT_flat (F : List Fn) : ∀ (t : Tr), okT F t → ∀ y ∈ t.flat, ok1 F y
 | .mk op s n i l, h, y, hy => by
  rw [Tr.flat] at hy
  rcases List.mem_cons.1 hy with rfl | hy
  ·exact ⟨h.1, h.2.1⟩
  ·exact okL_flat F l h.2.2 y hy
theorem okL_flat (F : List Fn) : ∀ (l : List Tr), okL F l → ∀ y ∈ flats l, ok1 F y
 | [], _, y, hy => by rw [flats] at hy; cases hy
 | t :: r, h, y, hy => by
  rw [flats] at hy
  rcases List.mem_append.1 hy with hy | hy
  ·exact okT_flat F t h.1 y hy
  ·exact okL_flat F r h.2 y hy
end
theorem split_n {n : Int} {j i : Nat} (h : n = 1000 * (j : Int) + (i : Int)) (hi : i < 1000) : Int.tdiv n 1000 = j ∧ Int.tmod n 1000 = i ∧ 0 ≤ n := by
 have h0 : 0 ≤ n := by omega
 rw [Int.tdiv_eq_ediv_of_nonneg h0, Int.tmod_eq_emod_of_nonneg h0]
 omega
section
open Go.RowKit Go.Proofs Go.Maps
def mthV (Mb i : Nat) : Value := .func (.func i) #[.pointer (some ⟨Mb, 0, none⟩)] #[]
def mthElem : Value → Option (DataW Unit × List MemPlace)
 | .func (.func i) a c => match a.toList, c.toList with
  | [.pointer (some ⟨b, 0, none⟩)], [] => some (.agg [.lit (.int .i64 (i : Nat)), .lit (.int .i64 (b : Nat))], [])
  | _, _ => none
 | .nilFunc => some (.lit (.int .i64 (-1)), [])
 | _ => none
theorem mthElem_mk (Mb i : Nat) : mthElem (mthV Mb i) = some (.agg [.lit (.int .i64 i), .lit (.int .i64 Mb)], []) := rfl
theorem mthElem_inv {v : Value} {Mb i : Nat} {ps : List MemPlace} (h : mthElem v = some (.agg [.lit (.int .i64 (i : Int)), .lit (.int .i64 (Mb : Int))], ps)) : v = mthV Mb i := by
 unfold mthElem at h
 split at h
 ·rename_i j a c
  split at h
  ·rename_i b h1 h2
   simp only [Option.some.injEq, Prod.mk.injEq, DataW.agg.injEq, List.cons.injEq, DataW.lit.injEq, Lit.int.injEq, true_and, and_true] at h
   obtain ⟨⟨h3, h4⟩, -⟩ := h
   obtain ⟨l⟩ := a
   obtain ⟨l2⟩ := c
   simp only at h1 h2
   subst h1 h2
   have e1 : j = i := Int.ofNat.inj h3
   have e2 : b = Mb := Int.ofNat.inj h4
   subst e1 e2
   rfl
  ·cases h
 ·simp at h
 ·cases h
theorem zeroM (w : World) : (zeroValue 95).run Tryz.prog w = .ok .nilFunc w := by kernel_rfl
def tabM (Mb : Nat) : List (Int × Nat) → DataW Unit
 | [] => .map []
 | p :: r => (tabM Mb r).put (.int .i64 p.1) (.agg [.lit (.int .i64 (p.2 : Nat)), .lit (.int .i64 Mb)])
def KM (w : World) (Mb b : Nat) (acc : List (Int × Nat)) : Prop := w.ownsMap (H := Unit) Tryz.prog 3 mthElem b acc.length (tabM Mb acc)
theorem KM.same {w w' : World} {Mb b : Nat} {acc : List (Int × Nat)} (h : KM w Mb b acc) (hg : w'.heap[b]? = w.heap[b]?) : KM w' Mb b acc := by
 obtain ⟨es, clock, h1, h2⟩ := h
 exact ⟨es, clock, hg.trans h1, h2⟩
theorem KM.put {w0 w : World} {Mb B b : Nat} {acc : List (Int × Nat)} (h : KM w Mb b acc ∧ Below B w0 w) (hn : decide (acc.length < 100) = true) (hBb : B ≤ b) (k : Int) (i : Nat) (hk : decide (0 ≤ k ∧ k ≤ 100) = true) :
  ∃ w', (Instr.mapUpdate 85 (.map (some b)) (.int .i64 k) (.func (.func i) #[.pointer (some ⟨Mb, 0, none⟩)] #[])).run Tryz.prog w = .ok () w' ∧ (KM w' Mb b ((k, i) :: acc) ∧ Below B w0 w') := by
 have hn := of_decide_eq_true hn
 have hk := of_decide_eq_true hk
 obtain ⟨w', hrun, r1, r2⟩ := World.ownsMap.update h.1 intKey Tryz.underlying85 (by unfold maxLen; omega) (key_is (k := k) (by omega)) (mthElem_mk Mb i)
 refine ⟨w', hrun, r1, h.2.trans ?_⟩
 exact ⟨r2.os, r2.tape, r2.output, r2.size, fun i hi => r2.block i (by have := World.ownsMap.lt h.1; omega) (fun e => by cases e; omega)⟩
def kindsL : List (Int × Nat) := [(37, 73), (36, 72), (30, 71), (16, 70), (15, 69), (23, 68), (22, 68), (21, 68), (17, 67), (14, 66), (13, 65), (11, 64), (41, 63), (10, 62), (8, 61), (1, 60)]
theorem kinds_any (Mb : Nat) (w : World) : Calls Tryz.prog 42 #[.pointer (some ⟨Mb, 0, none⟩)] w fun e w' => ∃ b, e = .returned (.map (some b)) ∧ KM w' Mb b kindsL ∧ w.heap.size ≤ b ∧ Below w.heap.size w w' := by
 have hmm := @run_makeMap Tryz.prog
 have H0 : KM (w.alloc (.map #[] 0)) Mb w.heap.size [] ∧ Below w.heap.size w (w.alloc (.map #[] 0)) := ⟨World.ownsMap_made w _ _ _, (Below.refl _ w).alloc (Nat.le_refl _) _⟩
 obtain ⟨w1, e1, H1⟩ := KM.put H0 rfl (Nat.le_refl _) 1 60 rfl
 clear H0
 obtain ⟨w2, e2, H2⟩ := KM.put H1 rfl (Nat.le_refl _) 8 61 rfl
 clear H1
 obtain ⟨w3, e3, H3⟩ := KM.put H2 rfl (Nat.le_refl _) 10 62 rfl
 clear H2
 obtain ⟨w4, e4, H4⟩ := KM.put H3 rfl (Nat.le_refl _) 41 63 rfl
 clear H3
 obtain ⟨w5, e5, H5⟩ := KM.put H4 rfl (Nat.le_refl _) 11 64 rfl
 clear H4
 obtain ⟨w6, e6, H6⟩ := KM.put H5 rfl (Nat.le_refl _) 13 65 rfl
 clear H5
 obtain ⟨w7, e7, H7⟩ := KM.put H6 rfl (Nat.le_refl _) 14 66 rfl
 clear H6
 obtain ⟨w8, e8, H8⟩ := KM.put H7 rfl (Nat.le_refl _) 17 67 rfl
 clear H7
 obtain ⟨w9, e9, H9⟩ := KM.put H8 rfl (Nat.le_refl _) 21 68 rfl
 clear H8
 obtain ⟨w10, e10, H10⟩ := KM.put H9 rfl (Nat.le_refl _) 22 68 rfl
 clear H9
 obtain ⟨w11, e11, H11⟩ := KM.put H10 rfl (Nat.le_refl _) 23 68 rfl
 clear H10
 obtain ⟨w12, e12, H12⟩ := KM.put H11 rfl (Nat.le_refl _) 15 69 rfl
 clear H11
 obtain ⟨w13, e13, H13⟩ := KM.put H12 rfl (Nat.le_refl _) 16 70 rfl
 clear H12
 obtain ⟨w14, e14, H14⟩ := KM.put H13 rfl (Nat.le_refl _) 30 71 rfl
 clear H13
 obtain ⟨w15, e15, H15⟩ := KM.put H14 rfl (Nat.le_refl _) 36 72 rfl
 clear H14
 obtain ⟨w16, e16, H16⟩ := KM.put H15 rfl (Nat.le_refl _) 37 73 rfl
 clear H15
 have H := Lib.hid H16
 clear H16
 go_enter Tryz.func42, Tryz.ntmps42
 go_wp2
 go_ret
 exact ⟨_, rfl, H.out.1, Nat.le_refl _, H.out.2⟩
def kindIn (l : List (Int × Nat)) (k : Int) : Option Nat := (l.find? (fun p => decide (p.1 = k))).map (·.2)
theorem kindIn_hit (p : Int × Nat) (r : List (Int × Nat)) : kindIn (p :: r) p.1 = some p.2 := by simp [kindIn]
theorem kindIn_miss {p : Int × Nat} {k : Int} (h : p.1 ≠ k) (r : List (Int × Nat)) : kindIn (p :: r) k = kindIn r k := by simp [kindIn, h]
theorem tabM_isMap (Mb : Nat) : ∀ l, IsMap (tabM Mb l)
 | [] => isMap_empty
 | _ :: r => (tabM_isMap Mb r).put _ _
theorem tabM_has (Mb : Nat) : ∀ (l : List (Int × Nat)) (k : Int), Maps.has (tabM Mb l) (.int .i64 k) = (kindIn l k).isSome
 | [], _ => rfl
 | p :: r, k => by
  by_cases h : p.1 = k
  ·subst h
   rw [tabM, has_put_same (tabM_isMap Mb r) (key_lit _), kindIn_hit]
   rfl
  ·rw [tabM, has_put_other (lit_ne h), kindIn_miss h, tabM_has Mb r k]
def mthD (Mb : Nat) : Option Nat → DataW Unit
 | some i => .agg [.lit (.int .i64 (i : Nat)), .lit (.int .i64 Mb)]
 | none => .lit (.int .i64 (-1))
theorem tabM_at (Mb : Nat) : ∀ (l : List (Int × Nat)) (k : Int), (tabM Mb l).atKey (.int .i64 k) (.lit (.int .i64 (-1))) = mthD Mb (kindIn l k)
 | [], _ => rfl
 | p :: r, k => by
  by_cases h : p.1 = k
  ·subst h
   rw [tabM, atKey_put_same (tabM_isMap Mb r) (key_lit _), kindIn_hit]
   rfl
  ·rw [tabM, atKey_put_other (lit_ne h), kindIn_miss h, tabM_at Mb r k]
def mthO (Mb : Nat) : Option Nat → Value
 | some i => mthV Mb i
 | none => .nilFunc
theorem mthO_inv {v : Value} {Mb : Nat} {o : Option Nat} {ps : List MemPlace} (h : mthElem v = some (mthD Mb o, ps)) : v = mthO Mb o := by
 cases o with
 | some i => exact mthElem_inv h
 | none =>
  unfold mthElem at h
  split at h
  ·split at h
   ·simp [mthD] at h
   ·cases h
  ·rfl
  ·cases h
theorem KM.look {w : World} {Mb b : Nat} (h : KM w Mb b kindsL) (k : Int) (hk : -9223372036854775808 ≤ k ∧ k ≤ 9223372036854775807) :
  (Instr.lookup 85 (.map (some b)) (.int .i64 k) true).run Tryz.prog w = .ok (.tuple #[mthO Mb (kindIn kindsL k), .bool (kindIn kindsL k).isSome]) w := by
 obtain ⟨v, ps, hrun, hv⟩ := World.ownsMap.look_ok h intKey Tryz.underlying85 (zeroM w) (zd := .lit (.int .i64 (-1))) (zp := []) rfl (key_is hk)
 rw [tabM_at] at hv
 obtain rfl := mthO_inv hv
 rw [tabM_has] at hrun
 exact hrun
end
def resOut (t : Tr) : List Fn × Tr × Int × Int :=
 if rightP t = true then match resolveT t with
  | .error (l, e) => ([], Tr.zero, l, e)
  | .ok (F, q) => (F, q, 0, 0)
 else ([], Tr.zero, 0, 30)
section
open Go.RowKit Go.Proofs
theorem TreeAt.of_at {w : World} {t : Tr} {v : Value} (h : At w w.heap.size t v) : TreeAt w (fun k => k < w.heap.size) t v := by
 obtain ⟨x, h1, h2, h3⟩ := Lo.of_at t h
 exact ⟨x, h1, h2, h3⟩
theorem resout_any (t : Tr) (v : Value) (W : World) (S : Nat → Prop) (hT : TreeAt W S t v) (hS : ∀ k, S k → k < W.heap.size) (hz : t.size ≤ 40000) :
  Calls Tryz.prog 24 #[v] W fun e W' => ∃ fv qv, e = .returned (.tuple #[fv, qv, .int .i64 (resOut t).2.2.1, .int .i64 (resOut t).2.2.2]) ∧ FunsV W' W.heap.size fv (resOut t).1 ∧ TreeAt W' (New W W') (resOut t).2.1 qv ∧ Below W.heap.size W W' := by
 refine (scres_any t v W S hT hS hz).mono ?_
 rintro e W' ⟨hb, h⟩
 unfold resOut
 by_cases hr : rightP t = true
 ·rw [if_pos hr] at h
  rw [if_pos hr]
  cases hrs : resolveT t with
  | error x =>
   obtain ⟨l, er⟩ := x
   rw [hrs] at h
   exact ⟨_, _, h, ⟨[], rfl, World.ownsRow_nil _ _ _ _, fun q hq => by cases hq⟩, TreeAt.zero _ _, hb⟩
  | ok x =>
   obtain ⟨F, q⟩ := x
   rw [hrs] at h
   obtain ⟨fv, qv, h1, h2, h3⟩ := h
   exact ⟨fv, qv, h1, h2, h3, hb⟩
 ·rw [if_neg hr] at h
  rw [if_neg hr]
  exact ⟨_, _, h, ⟨[], rfl, World.ownsRow_nil _ _ _ _, fun q hq => by cases hq⟩, TreeAt.zero _ _, hb⟩
end
end Go.Proofs.YtikbfoichhkeaaaGreat
