/- A box and the row of numbers that it holds, gathered by a range over a function. -/
import Derived.Test.YtfiockconbaniaaGrRising
import Derived.Test.YtfiockconbaniaaGrSeq
namespace Go.Proofs.Ytfiockconbaniaa
set_option linter.unusedSimpArgs false
set_option linter.unusedVariables false
open Go.RowKit Go.Proofs Go.Shelf

theorem OwnR.blk {α : Type} {k : Nat} {T : TypeId} {P : World → List Value → α → Prop} {w0 w : World} {B b : Nat} {v : Value} {l : List α} (h : OwnR k T P w0 w B v l) (hv : v.ownBlock = some b) : B ≤ b ∧ ∃ cs, w.heap[b]? = some (.cells cs T (0, 0)) := by
  obtain ⟨L, -, -, ho⟩ := h
  rcases ho.2 with ⟨rfl, -⟩ | ⟨g, cap, cur, rfl, h1, h2, -⟩
  · simp [Value.ownBlock] at hv
  · simp [Value.ownBlock] at hv
    subst hv
    exact ⟨h1, cur, h2⟩
theorem OwnR.keep {α : Type} {k : Nat} {T : TypeId} {P : World → List Value → α → Prop} {w0 w w' : World} {B : Nat} {v : Value} {l : List α} (h : OwnR k T P w0 w B v l) (hk : ∀ b, v.ownBlock = some b → w'.heap[b]? = w.heap[b]?) : OwnR k T P w0 w' B v l := by
  obtain ⟨L, h1, h2, ho⟩ := h
  refine ⟨L, h1, h2, ho.1, ho.2.imp id fun ⟨g, cap, cur, e1, e2, e3, e4⟩ => ⟨g, cap, cur, e1, e2, ?_, e4⟩⟩
  exact (hk g (by rw [e1]; rfl)).trans e3
theorem OwnR.low {α : Type} {k : Nat} {T : TypeId} {P : World → List Value → α → Prop} {w0 w : World} {B C : Nat} {v : Value} {l : List α} (h : OwnR k T P w0 w B v l) (hC : C ≤ B) : OwnR k T P w0 w C v l := by
  obtain ⟨L, h1, h2, ho⟩ := h
  exact ⟨L, h1, h2, ho.1, ho.2.imp id fun ⟨g, cap, cur, e1, e2, e3, e4⟩ => ⟨g, cap, cur, e1, by omega, e3, e4⟩⟩
theorem boxed_inj9 {W : World} {G : Nat} {t : TypeId} {u v : Value} (h : Boxed W G t u) (g : Boxed W G t v) : u = v := by
  unfold Boxed at h g
  rw [h] at g
  simpa using g
/-- The box G of type t holds a row (k cells an element, of type T) of just these, from base on; what lay in w lies. -/
structure OutB {α : Type} (k : Nat) (T t : TypeId) (P : World → List Value → α → Prop) (w W : World) (G base : Nat) (l : List α) : Prop where
  row : ∃ v, Boxed W G t v ∧ OwnR k T P w W base v l
  below : Below w.heap.size w W
  size : base ≤ W.heap.size
section
variable {α : Type} {k : Nat} {T t : TypeId} {P : World → List Value → α → Prop} {w W W' : World} {G base : Nat} {l : List α}
theorem OutB.it {b : Nat} (h : OutB k T t P w W G base l) (g : ItP b W W') (hb : w.heap.size ≤ b) : OutB k T t P w W' G base l := by
  obtain ⟨v, hv, ho⟩ := h.row
  refine ⟨⟨v, g.cells hv, ho.keep fun b' hb' => ?_⟩, ⟨g.os.trans h.below.os, g.tape.trans h.below.tape, g.output.trans h.below.output, Nat.le_trans h.below.size g.size, fun i hi => ?_⟩, Nat.le_trans h.size g.size⟩
  · obtain ⟨-, cs, e⟩ := ho.blk hb'
    exact (g.cells e).trans e.symm
  · exact (g.keep i (Nat.lt_of_lt_of_le hi h.below.size) (.inl (by omega))).trans (h.below.block i hi)
/-- One is appended. -/
theorem OutB.hit {w5 : World} {v v5 : Value} {Z : Obj} {S : Nat → Prop} {l' : List α} (h : OutB k T t P w W G base l) (hG : w.heap.size ≤ G) (hbase : w.heap.size ≤ base) (hGb : G < base) (hv : Boxed W G t v) (ha : App9 k T P w (W.alloc Z) base v l' v5 w5)
    (hS : ∀ i, S i → i < base ∧ i ≠ G) :
    Boxed w5 G t v ∧ RdP S W (w5.setCell ⟨G, 0, none⟩ v5) ∧ OutB k T t P w (w5.setCell ⟨G, 0, none⟩ v5) G base l' := by
  obtain ⟨v', hb, ho⟩ := h.row
  obtain rfl := boxed_inj9 hv hb
  have lG := hb.lt
  have hal : Below W.heap.size W (W.alloc Z) := (Below.refl _ W).alloc (Nat.le_refl _) Z
  have h5 : Boxed w5 G t v := (ha.below.block G hGb).trans ((hal.block G lG).trans hb)
  have hs := h5.set v5
  have hne : ∀ i, i ≠ G → (w5.setCell ⟨G, 0, none⟩ v5).heap[i]? = w5.heap[i]? := fun i hi => Below.heap_setCell w5 ⟨G, 0, none⟩ v5 i (by simpa using hi)
  have hz : (w5.setCell ⟨G, 0, none⟩ v5).heap.size = w5.heap.size := by simp [World.setCell]
  have hsz := ha.grown.size
  rw [World.size_alloc] at hsz
  refine ⟨h5, ⟨ha.below.os, ha.below.tape, ha.below.output, by omega, fun i hi hm => ?_⟩, ⟨⟨v5, by simpa using hs, ha.own.keep fun b hb5 => hne b ?_⟩, ?_, by have := h.size; omega⟩⟩
  · have hiG : i ≠ G := by
      rcases hm with hm | ⟨o, e1, e2⟩
      · exact (hS i hm).2
      · rintro rfl
        rw [show W.heap[i]? = _ from hb] at e1
        cases e1
        cases e2
    refine (hne i hiG).trans ((ha.grown.block i (by simp; omega) fun e => ?_).trans (hal.block i hi))
    obtain ⟨e3, cs, e4⟩ := ho.blk e.symm
    rcases hm with hm | ⟨o, e1, e2⟩
    · have := (hS i hm).1
      omega
    · rw [e4] at e1
      cases e1
      cases e2
  · have := (ha.own.blk hb5).1
    omega
  · exact (h.below.trans (hal.mono h.below.size)).trans ((ha.below.mono hbase).setCell (by simpa using hG) _)
end
theorem belowK_b9 {w W : World} {D : Nat} (hb : Below w.heap.size w W) (hD : w.heap.size ≤ D) (o : Obj) : Below w.heap.size w (W.putObj D o) := by
  have hgr := grownBy_putObj' W D o
  exact ⟨hgr.os.trans hb.os, hgr.tape.trans hb.tape, hgr.output.trans hb.output, Nat.le_trans hb.size hgr.size, fun i hi => (World.putObj_heap_other (by omega)).trans (hb.block i hi)⟩
/-- An append in a fenced walk: whatever its run gives. -/
theorem wli_app {F : Fence} {n : Nat} {P : Program} {w : World} {ops : Array Oper} {rest : List Oper} {o : Oper} {a : Act} {Q : Exit → Act → World → Prop} (hg : o.guard = none) (s x : Operand) (t : TypeId)
    (hop : o.op = Op.call { callee := Callee.builtin Builtin.append, args := #[s, x], argTypes := #[t, t] }) (v u : Value) (hs : a.eval s = v) (hx : a.eval x = u) (R : Value → World → Prop)
    (hrun : ∃ v' w', (Builtin.append_ #[t, t] o.type #[v, u]).run P w = .ok v' w' ∧ R v' w') (hK : ∀ v' w', R v' w' → wpListIn F n P ops Q rest (a.put o.dst v') w') :
    wpListIn F n P ops Q (o :: rest) a w := by
  refine wpListIn_plain hg fun K hK' => ?_
  obtain ⟨v', w', hr, h2⟩ := hrun
  unfold Oper.wpIn
  refine ⟨?_, ?_⟩
  · simp [Oper.about, hop, resolve, Target.leads, Sem.run_pure]
  · rw [Oper.semAt_plain F _ _ (by rw [hop]; intro c hc'; cases hc')]
    simp [execOp, hop, resolve, invoke, builtin, hs, hx, hr, Result.andThen]
    exact hK' _ _ (hK _ _ h2)
theorem pre_mem9 {α : Type} {pre xs : List α} {x : α} (h : pre ++ [x] <+: xs) : x ∈ xs := h.subset (by simp)
/-- What is gathered of the facts that come. -/
def byA (m : Int) (l : List Ft) : List Int := (l.filter fun f => f.a == m).map (·.b)
theorem byA_kind (m : Int) (l : List Ft) : byA m (kindL 5 l) = calL m l := by
  unfold byA kindL calL
  rw [List.filter_filter]
  congr 2
  funext f
  rw [Bool.and_comm]
theorem byA_snoc (m : Int) (l : List Ft) (x : Ft) : byA m (l ++ [x]) = if (x.a == m) = true then byA m l ++ [x.b] else byA m l := by
  unfold byA
  rw [List.filter_append, List.map_append]
  by_cases h : (x.a == m) = true
  · rw [if_pos h]; simp only [List.filter_cons, h]; rfl
  · rw [if_neg h]; simp only [List.filter_cons, h]; simp
theorem byA_len (m : Int) (l : List Ft) : (byA m l).length ≤ l.length := by unfold byA; rw [List.length_map]; exact List.length_filter_le _ _
theorem kind_ent (l : List Ft) : (kindL 6 l).map (·.a) = entL l := rfl
theorem kindL_len (k : Int) (l : List Ft) : (kindL k l).length ≤ l.length := List.length_filter_le _ _
theorem facts_of {w : World} {A : Option Addr} {n c : Nat} {l : List Ft} (h : Facts9 w (.slice A n c) l) {x : Ft} (hx : x ∈ l) : (I64 x.kind ∧ I64 x.a ∧ x.s.size ≤ maxLen ∧ I64 x.b) ∧ ∃ g off, A = some ⟨g, off, none⟩ ∧ g < w.heap.size := by
  obtain ⟨i, hi, rfl⟩ := List.mem_iff_getElem.1 hx
  obtain ⟨g, off, y, e, hg, hy, h2, -⟩ := ft_get h i (by rw [(SlAt.get h).1]; exact hi)
  rw [List.getElem?_eq_getElem hi] at hy
  cases hy
  exact ⟨h2, g, off, e, hg⟩
theorem edges_of {w : World} {A : Option Addr} {n c : Nat} {l : List Ed} (h : Edges9 w (.slice A n c) l) {x : Ed} (hx : x ∈ l) : (I64 x.fr ∧ I64 x.mark ∧ I64 x.to) ∧ ∃ g off, A = some ⟨g, off, none⟩ ∧ g < w.heap.size := by
  obtain ⟨i, hi, rfl⟩ := List.mem_iff_getElem.1 hx
  obtain ⟨g, off, y, e, hg, hy, h2, -⟩ := ed_get h i (by rw [(SlAt.get h).1]; exact hi)
  rw [List.getElem?_eq_getElem hi] at hy
  cases hy
  exact ⟨h2, g, off, e, hg⟩
end Go.Proofs.Ytfiockconbaniaa
