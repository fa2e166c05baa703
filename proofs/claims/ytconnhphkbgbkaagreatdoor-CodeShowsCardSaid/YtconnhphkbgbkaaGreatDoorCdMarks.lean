/- code.Marks: those of all instructions that have one, in order. -/
import Derived.Test.YtconnhphkbgbkaaGreatDoorCdRight
import Derived.Test.YtconnhphkbgbkaaGreatDoorCdOwn
namespace Go.Proofs.YtconnhphkbgbkaaGreatDoor
set_option linter.unusedSimpArgs false
set_option linter.unusedVariables false
open Go.RowKit Go.Proofs Go.Shelf

/-- The mark of the instruction at a place. -/
def markAt (l : List Proc) (q : Nat × Nat) : List Int := match pairAt l q with
  | none => []
  | some r => if marked r.2 then [r.2.n] else []
def marksP (l : List Proc) (pre : List (Nat × Nat)) : List Int := pre.flatMap (markAt l)
theorem marks_idx (l : List Proc) : marksP l (idx l) = marksC l := by
  have h := congrArg (fun m => m.flatMap fun o : Option (Proc × Ins) => match o with | none => [] | some r => if marked r.2 then [r.2.n] else []) (idx_pairs l)
  simp only [List.flatMap_map] at h
  refine h.trans ?_
  unfold marksC
  induction pairsL l with
  | nil => rfl
  | cons a r ih =>
    rw [List.flatMap_cons, ih, List.filter_cons]
    cases marked a.2 <;> simp
theorem marksP_step (l : List Proc) (pre : List (Nat × Nat)) {i j : Nat} {p : Proc} {x : Ins} (hp : l[i]? = some p) (hx : p.ins[j]? = some x) : marksP l (pre ++ [(i, j)]) = marksP l pre ++ if marked x then [x.n] else [] := by
  unfold marksP
  rw [List.flatMap_append]
  congr 1
  simp [markAt, pairAt, hp, hx]
theorem info3 : (Tryz.prog.info? 3).map (fun i => (i.zero, i.size, i.bytes)) = some (some (.int .i64 0), 1, 8) := by kernel_rfl
abbrev OwnI (w : World) (B : Nat) (v : Value) (l : List Int) : Prop := OwnR 1 3 IntP w w B v l
theorem OwnI.of {w0 w : World} {B : Nat} {v : Value} {l : List Int} (h : OwnR 1 3 IntP w0 w B v l) : OwnI w B v l := h
theorem OwnI.at_ {w : World} {B : Nat} {v : Value} {l : List Int} (h : OwnI w B v l) : Ints9 w v l := OwnR.at_ IntP.cells IntP.keeps h (Below.refl _ _)
theorem OwnR.blk {α : Type} {k : Nat} {T : TypeId} {P : World → List Value → α → Prop} {w0 w : World} {B b : Nat} {v : Value} {l : List α} (h : OwnR k T P w0 w B v l) (hv : v.ownBlock = some b) : B ≤ b ∧ ∃ cs, w.heap[b]? = some (.cells cs T (0, 0)) := by
  obtain ⟨L, -, -, ho⟩ := h
  rcases ho.2 with ⟨rfl, -⟩ | ⟨g, cap, cur, rfl, h1, h2, -⟩
  · simp [Value.ownBlock] at hv
  · simp [Value.ownBlock] at hv
    subst hv
    exact ⟨h1, cur, h2⟩
theorem OwnR.keep {α : Type} {k : Nat} {T : TypeId} {P : World → List Value → α → Prop} {w0 w w' : World} {B : Nat} {v : Value} {l : List α} (h : OwnR k T P w0 w B v l) (hk : ∀ b, v.ownBlock = some b → w'.heap[b]? = w.heap[b]?) : OwnR k T P w0 w' B v l := by
  obtain ⟨L, h1, h2, ho⟩ := h
  refine ⟨L, h1, h2, ho.1, ho.2.imp id fun ⟨g, cap, cur, e1, e2, e3, e4⟩ => ⟨g, cap, cur, e1, e2, ?_, e4⟩⟩
  exact (hk g (by rw [e1]; rfl)).trans e3
theorem OwnR.low {α : Type} {k : Nat} {T : TypeId} {P : World → List Value → α → Prop} {w0 w : World} {B C : Nat} {v : Value} {l : List α} (h : OwnR k T P w0 w B v l) (hC : C ≤ B) : OwnR k T P w0 w C v l := by
  obtain ⟨L, h1, h2, ho⟩ := h
  exact ⟨L, h1, h2, ho.1, ho.2.imp id fun ⟨g, cap, cur, e1, e2, e3, e4⟩ => ⟨g, cap, cur, e1, by omega, e3, e4⟩⟩
/-- The box, and the row that it holds. -/
def mineM (G : Nat) (W : World) (k : Nat) : Prop := G ≤ k ∧ (k = G ∨ W.heap.size ≤ G ∨ ∃ v, Boxed W G 29 v ∧ v.ownBlock = some k)
/-- What holds between two rounds: the box G, its row behind B. -/
structure MarksI (w1 W : World) (G : Nat) (l : List Int) : Prop where
  row : ∃ v, Boxed W G 29 v ∧ OwnR 1 3 IntP w1 W (G + 1) v l
  below : Below w1.heap.size w1 W
theorem boxed_inj9 {W : World} {G : Nat} {t : TypeId} {u v : Value} (h : Boxed W G t u) (g : Boxed W G t v) : u = v := by
  unfold Boxed at h g
  rw [h] at g
  simpa using g
theorem MarksI.it {w1 W W' : World} {G base : Nat} {l : List Int} (h : MarksI w1 W G l) (hG : w1.heap.size ≤ G) (hk : ItKeeps (mineM G) base W W') (h1 : G < base) : MarksI w1 W' G l := by
  obtain ⟨v, hb, ho⟩ := h.row
  refine ⟨⟨v, boxed_it hb hk (.inl h1), ho.keep fun b hv => ?_⟩, h.below.trans (hk.below (by omega) h.below.size)⟩
  obtain ⟨h2, cs, h3⟩ := ho.blk hv
  exact hk.keep b (heap_lt h3) (.inr ⟨by omega, .inr (.inr ⟨v, hb, hv⟩)⟩)
theorem MarksI.mine {w1 W : World} {G k : Nat} {l : List Int} (h : MarksI w1 W G l) (hm : mineM G W k) : ∃ o, W.heap[k]? = some o ∧ o.isCells = true := by
  obtain ⟨v, hb, ho⟩ := h.row
  rcases hm.2 with rfl | h2 | ⟨u, hu, hv⟩
  · exact ⟨_, hb, rfl⟩
  · have := hb.lt; omega
  · rw [boxed_inj9 hu hb] at hv
    obtain ⟨-, cs, h3⟩ := ho.blk hv
    exact ⟨_, h3, rfl⟩
theorem mineM_it {G base : Nat} {A B : World} (h1 : G < base) (g : ItKeeps (mineM G) base A B) (k : Nat) (h : mineM G B k) : mineM G A k := by
  refine ⟨h.1, ?_⟩
  by_cases hz : A.heap.size ≤ G
  · exact .inr (.inl hz)
  · rcases h.2 with rfl | h2 | ⟨u, hu, hv⟩
    · exact .inl rfl
    · have := g.size; omega
    · exact .inr (.inr ⟨u, (g.keep G (by omega) (.inl h1)).symm.trans hu, hv⟩)
/-- A round in which one is appended. -/
theorem marks_hit {w1 W w5 : World} {G : Nat} {l : List Int} {n : Int} {v v5 : Value} {Z : Obj} (h : MarksI w1 W G l) (hG : w1.heap.size ≤ G) (hv : Boxed W G 29 v) (ha : App9 1 3 IntP w1 (W.alloc Z) (G + 1) v (l ++ [n]) v5 w5) :
    Boxed w5 G 29 v ∧ RdKeeps (mineM G) W (w5.setCell ⟨G, 0, none⟩ v5) ∧ MarksI w1 (w5.setCell ⟨G, 0, none⟩ v5) G (l ++ [n]) := by
  obtain ⟨v', hb, ho⟩ := h.row
  obtain rfl := boxed_inj9 hv hb
  have lG := hb.lt
  have h5 : Boxed w5 G 29 v := (ha.below.block G (by omega)).trans (((below_box W Z).block G lG).trans hb)
  have hs := h5.set v5
  have hne : ∀ k, k ≠ G → (w5.setCell ⟨G, 0, none⟩ v5).heap[k]? = w5.heap[k]? := fun k hk => heap_setCell_other w5 ⟨G, 0, none⟩ k _ hk
  have hz : (w5.setCell ⟨G, 0, none⟩ v5).heap.size = w5.heap.size := by simp
  have hsz := ha.grown.size
  rw [World.size_alloc] at hsz
  refine ⟨h5, ⟨?_, ?_, ?_, by omega, fun k hk hm => ?_, fun k hk => ?_⟩, ⟨⟨v5, by simpa using hs, ha.own.keep fun b hb5 => hne b ?_⟩, ?_⟩⟩
  · exact ha.below.os
  · exact ha.below.tape
  · exact ha.below.output
  · have hkG : k ≠ G := fun e => hm ⟨by omega, .inl e⟩
    refine (hne k hkG).trans ((ha.grown.block k (by simp; omega) fun e => ?_).trans ((below_box W Z).block k hk))
    have := (ho.blk e.symm).1
    exact hm ⟨by omega, .inr (.inr ⟨v, hb, e.symm⟩)⟩
  · by_cases hlt : W.heap.size ≤ k
    · exact .inr hlt
    refine .inl ⟨hk.1, ?_⟩
    rcases hk.2 with rfl | h2 | ⟨u, hu, hvk⟩
    · exact .inl rfl
    · omega
    · obtain rfl := boxed_inj9 hu (by simpa using hs)
      rcases ha.lies with e | e
      · exact .inr (.inr ⟨v, hb, e ▸ hvk⟩)
      · rw [hvk] at e
        simp at e
        omega
  · have := (ha.own.blk hb5).1
    omega
  · exact (h.below.trans ((below_box W Z).mono h.below.size)).trans ((ha.below.mono (by omega)).setCell (by simp; omega) _)
end Go.Proofs.YtconnhphkbgbkaaGreatDoor
