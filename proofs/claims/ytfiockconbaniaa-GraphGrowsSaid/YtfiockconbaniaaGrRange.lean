/- A range over a function: the iterator writes nothing of before, the body whatever but a set of blocks. No program. -/
import Derived.Test.YtfiockconbaniaaGrRows
import Derived.RangeFuncNested
import Derived.RangeFuncBound
import Derived.RangeFuncCalls
import Derived.RangeFuncLeaves
import Derived.WalkKit
import Derived.OwnWalkIn
namespace Go.Proofs.Ytfiockconbaniaa
open Go Go.RowKit

/-- Cells, or a map. -/
def plainO : Obj → Bool
  | .cells .. => true
  | .map .. => true
  | _ => false
/-- What an iterator may do: the blocks below base, and cells and maps, are as they were. -/
structure ItP (base : Nat) (A B : World) : Prop where
  os : B.os = A.os
  tape : B.tape = A.tape
  output : B.output = A.output
  size : A.heap.size ≤ B.heap.size
  keep : ∀ k, k < A.heap.size → (k < base ∨ ∃ o, A.heap[k]? = some o ∧ plainO o = true) → B.heap[k]? = A.heap[k]?
/-- What a round may do: the blocks of S, and what is neither cells nor a map, are as they were. -/
structure RdP (S : Nat → Prop) (A B : World) : Prop where
  os : B.os = A.os
  tape : B.tape = A.tape
  output : B.output = A.output
  size : A.heap.size ≤ B.heap.size
  keep : ∀ k, k < A.heap.size → (S k ∨ ∃ o, A.heap[k]? = some o ∧ plainO o = false) → B.heap[k]? = A.heap[k]?
theorem ItP.of_below {base : Nat} {A B : World} (h : Below A.heap.size A B) : ItP base A B := ⟨h.os, h.tape, h.output, h.size, fun k hk _ => h.block k hk⟩
theorem ItP.mono {base b : Nat} {A B : World} (h : ItP base A B) (hb : b ≤ base) : ItP b A B := ⟨h.os, h.tape, h.output, h.size, fun k hk hm => h.keep k hk (hm.imp (fun x => by omega) id)⟩
theorem ItP.cells {base : Nat} {A B : World} (h : ItP base A B) {k : Nat} {cs : Array Value} {t : TypeId} {fr : Nat × Nat} (hk : A.heap[k]? = some (.cells cs t fr)) : B.heap[k]? = some (.cells cs t fr) :=
  (h.keep k (Array.getElem?_eq_some_iff.1 hk).1 (.inr ⟨_, hk, rfl⟩)).trans hk
theorem RdP.of_below {S : Nat → Prop} {A B : World} (h : Below A.heap.size A B) : RdP S A B := ⟨h.os, h.tape, h.output, h.size, fun k hk _ => h.block k hk⟩
theorem RdP.trans {S : Nat → Prop} {A B C : World} (h : RdP S A B) (g : RdP S B C) : RdP S A C :=
  ⟨g.os.trans h.os, g.tape.trans h.tape, g.output.trans h.output, Nat.le_trans h.size g.size, fun k hk hm => by
    have e := h.keep k hk hm
    exact (g.keep k (Nat.lt_of_lt_of_le hk h.size) (by rw [e]; exact hm)).trans e⟩
/-- What an iterator hands over: just these, or a part of them, where a round has said 'no more'. -/
def SeqP {α : Type} (F : Fence) (n : Nat) (P : Program) (g : Nat) (lb : Array Value) (encs : α → Array Value) (S : Nat → Prop) (xs : List α) (w : World) (L : Prop) : Prop :=
  ∀ (l : Nat) (J Jx : List α → World → Prop) (W : World), Below w.heap.size w W →
    (¬ L → ∀ pre A, ¬ Jx pre A) → (∀ pre A B, J pre A → ItP W.heap.size A B → J pre B) →
    (∀ pre x W1, J pre W1 → pre ++ [x] <+: xs → YieldAt F (n - 1) P l (encs x) W1 fun e W' =>
      (e = .returned (.bool true) ∧ J (pre ++ [x]) W' ∧ RdP S W1 W') ∨ (e = .returned (.bool false) ∧ Jx (pre ++ [x]) W')) →
    J [] W →
    CallsIn F n P g (#[.func (.yield l) #[] #[]] ++ lb) W fun e W' => (∃ v, e = .returned v) ∧ (J xs W' ∨ ∃ pre, pre <+: xs ∧ Jx pre W')

/-- How a round may be left. -/
def rowsPost {α : Type} (S : Nat → Prop) (I : List α → World → Prop) (Ix : Code → List α → World → Prop) (xs : List α) (W : World) : Exit → Act → World → Prop
  | .normal, _, W' => RdP S W W' ∧ I xs W'
  | .ret, _, W' => RdP S W W' ∧ Ix .ret xs W'
  | .exit id, _, W' => RdP S W W' ∧ Ix (.exit id) xs W'
  | .goto t, _, W' => RdP S W W' ∧ Ix (.goto t) xs W'
  | .panic _, _, _ => False
  | .outgrown, _, _ => False

variable {F : Fence} {n : Nat} {P : Program}
theorem wpIn_rangeP {α : Type} {g : Operand} {ps : Array Tmp} {assign body : Code} {Q : Exit → Act → World → Prop} {a : Act} {w : World}
    (hro : F.round = none) (h1 : 1 ≤ n) {gf : Nat} {lb : Array Value} (hg : a.eval g = .func (.func gf) #[] lb) (hFg : F.fn gf) (eg : ∀ args w, (callFunc gf args).run P w = .ok (.enter gf args) w)
    {encs : α → Array Value} {xs : List α} {w0 : World} {S : Nat → Prop} {L : Prop} (hseq : SeqP F (n - 1) P gf lb encs S xs w0 L) (hb0 : Below w0.heap.size w0 w) (hps : ∀ x, (encs x).size = ps.size)
    (I : List α → World → Prop) (Ix : Code → List α → World → Prop)
    (hI : ∀ pre A B, I pre A → ItP w.heap.size A B → I pre B) (hIx : ∀ c pre A B, Ix c pre A → ItP w.heap.size A B → Ix c pre B)
    (h0 : I [] w) (Ax : α → Act → World → Prop) (hAx : ∀ x a' A B, Ax x a' A → (∀ (k : Nat) (o : Obj), A.heap[k]? = some o → o.isCells = true → B.heap[k]? = some o) → Ax x a' B)
    (hassign : ∀ (l : Nat) (pre : List α) (x : α) (W : World) (K : Act → World → Prop), I pre W → pre ++ [x] <+: xs → (∀ a' W', Below W.heap.size W W' → Ax x a' W' → K a' W') →
      assign.wpIn (F.inRound l) (n - 1 - 1) P (Exit.then K (fun _ _ _ => False)) { tmps := (ps.zip (encs x)).foldl (fun t (p, v) => t.setIfInBounds p v) a.tmps, defers := [] } W)
    (hbody : ∀ (l : Nat) (pre : List α) (x : α) (a' : Act) (W : World), w.heap.size ≤ l → I pre W → Ax x a' W → pre ++ [x] <+: xs → body.wpIn (F.inRound l) (n - 1 - 1) P (rowsPost S I Ix (pre ++ [x]) W) a' W)
    (hdone : ∀ (D : Nat) (W : World), w.heap.size ≤ D → I xs W → W.heap[D]? = some (.deferred (some [])) → Q .normal { a with defers := { target := .collected D, args := #[] } :: a.defers } W)
    (hstop : ∀ (D : Nat) (c : Code) (pre : List α) (W : World), w.heap.size ≤ D → pre <+: xs → Ix c pre W → W.heap[D]? = some (.deferred (some [])) → c.wpIn F n P Q { a with defers := { target := .collected D, args := #[] } :: a.defers } W) (hL : ¬ L → ∀ c pre A, ¬ Ix c pre A := by exact fun h => absurd trivial h) :
    (Code.rangeFunc g ps assign body).wpIn F n P Q a w := by
  refine wpIn_rangeFunc fun fn hfn => ?_
  rw [hro]
  -- the two blocks of book-keeping: the rounds' deferred calls at D, the loop's record at D + 1
  obtain ⟨D, hD⟩ : ∃ D, w.heap.size = D := ⟨_, rfl⟩
  obtain ⟨rec, hrec⟩ : ∃ rec : LoopState → Option Code → Loop, rec = fun st pe => { state := st, pending := pe, fn, tmps := a.tmps, params := ps, assign, body, defers := D } := ⟨_, rfl⟩
  have hsame : ∀ (W : World) (o o' : Obj), W.heap[D + 1]? = some o' → (W.putObj (D + 1) o).heap[D + 1]? = some o := fun W o o' h => World.putObj_heap_same (Array.getElem?_eq_some_iff.1 h).1
  have hother : ∀ (W : World) (o : Obj) (k : Nat), k ≠ D + 1 → (W.putObj (D + 1) o).heap[k]? = W.heap[k]? := fun W o k h => World.putObj_heap_other h
  have hput : ∀ (W : World) (o : Obj) (r : Loop), W.heap[D + 1]? = some (.loop r) → ItP w.heap.size W (W.putObj (D + 1) o) := fun W o r hl => by
    have hgr := grownBy_putObj' W (D + 1) o
    refine ⟨hgr.os, hgr.tape, hgr.output, hgr.size, fun k hk hm => hother W o k (fun e => ?_)⟩
    subst e
    rcases hm with h | ⟨o', h1, h2⟩
    · omega
    · rw [hl] at h1
      cases h1
      cases h2
  obtain ⟨W1, hW1⟩ : ∃ W1, (w.alloc (.deferred (some []))).alloc (.loop (rec .ready none)) = W1 := ⟨_, rfl⟩
  have hb1 : Below w.heap.size w W1 := by rw [← hW1]; exact ((Below.refl _ w).alloc (Nat.le_refl _) _).alloc (by simp) _
  have hz1 : W1.heap.size = D + 2 := by rw [← hW1]; simp [hD]
  have hL1 : W1.heap[D + 1]? = some (.loop (rec .ready none)) := by
    rw [← hW1, ← hD]
    have := World.alloc_heap_new (w.alloc (.deferred (some []))) (.loop (rec .ready none))
    rwa [World.size_alloc] at this
  have hK1 : W1.heap[D]? = some (.deferred (some [])) := by
    rw [← hW1, ← hD]
    exact (Below.heap_alloc _ _ _ (by simp)).trans (World.alloc_heap_new w _)
  refine ⟨D + 1, [{ target := .collected D, args := #[] }], W1, { target := .fn (.func gf) lb, args := #[.func (.yield (D + 1)) #[] #[]] }, W1, gf, #[.func (.yield (D + 1)) #[] #[]] ++ lb, W1, ?_, ?_, ?_, ?_, fun _ => h1, ?_⟩
  · rw [← hW1, hrec, ← hD]; exact run_enterLoop_outer _ _ _ _ _
  · simp only [resolve, hg]
    simp [go_sem]
  · intro f' hf'
    simp [Target.leads] at hf'
    subst hf'
    exact hFg
  · simp [invoke, go_sem, eg]
  · refine (hseq (D + 1) (fun pre W => I pre W ∧ W.heap[D + 1]? = some (.loop (rec .ready none)) ∧ W.heap[D]? = some (.deferred (some [])))
      (fun pre W => ∃ c, Ix c pre W ∧ W.heap[D + 1]? = some (.loop (rec .done (some c))) ∧ W.heap[D]? = some (.deferred (some []))) W1 (hb0.trans (hb1.mono hb0.size)) (fun h pre A ⟨c, h1, _⟩ => hL h c pre A h1)
      (fun pre A B h g => ⟨hI pre A B h.1 (g.mono (by omega)), (g.keep _ (Array.getElem?_eq_some_iff.1 h.2.1).1 (.inl (by omega))).trans h.2.1, (g.keep _ (Array.getElem?_eq_some_iff.1 h.2.2).1 (.inl (by omega))).trans h.2.2⟩)
      ?_ ⟨hI [] w W1 h0 (.of_below hb1), hL1, hK1⟩).mono ?_
    · rintro pre x W ⟨hi, hl, hk⟩ hpre
      have hy := run_yield (P := P) (args := encs x) hl (by rw [hrec]; exact hps x)
      rw [hrec] at hy
      refine ⟨fn, _, assign, body, hy, roundIn_of_wpIn hfn (hassign _ pre x W _ hi hpre ?_)⟩
      clear hy
      intro a' Wa hba hax
      have hla := (hba.block _ (Array.getElem?_eq_some_iff.1 hl).1).trans hl
      have hka := (hba.block _ (Array.getElem?_eq_some_iff.1 hk).1).trans hk
      have hia := hI pre W Wa hi (.of_below hba)
      refine ⟨_, run_beginRound hla (by rw [hrec]), ?_⟩
      obtain ⟨Wb, hWb⟩ : ∃ Wb, Wa.putObj (D + 1) (.loop { rec .ready none with state := .busy }) = Wb := ⟨_, rfl⟩
      have gb : ItP w.heap.size Wa Wb := by rw [← hWb]; exact hput Wa _ _ hla
      have hlb : Wb.heap[D + 1]? = some (.loop { rec .ready none with state := .busy }) := by rw [← hWb]; exact hsame _ _ _ hla
      have hkb : Wb.heap[D]? = some (.deferred (some [])) := by rw [← hWb]; exact (hother _ _ _ (by omega)).trans hka
      have hib := hI pre Wa Wb hia gb
      have haxb : Ax x a' Wb := hAx x a' Wa Wb hax (fun k o hko ho => by
        rw [← hWb]
        refine (hother _ _ _ (fun e => ?_)).trans hko
        subst e
        rw [hla] at hko
        cases hko
        cases ho)
      rw [hWb]
      refine wpIn_mono (hbody (D + 1) pre x a' Wb (by omega) hib haxb hpre) ?_
      -- where the round has ended
      have fin : ∀ (jump : Option Code) (W3 : World), RdP S Wb W3 →
          (Instr.endRound (D + 1) jump).run P W3 = .ok (.bool jump.isNone) (W3.putObj (D + 1) (.loop (rec (if jump.isNone then .ready else .done) jump))) ∧
          ItP w.heap.size W3 (W3.putObj (D + 1) (.loop (rec (if jump.isNone then .ready else .done) jump))) ∧
          (W3.putObj (D + 1) (.loop (rec (if jump.isNone then .ready else .done) jump))).heap[D + 1]? = some (.loop (rec (if jump.isNone then .ready else .done) jump)) ∧
          (W3.putObj (D + 1) (.loop (rec (if jump.isNone then .ready else .done) jump))).heap[D]? = some (.deferred (some [])) := by
        intro jump W3 h3
        have hl3 := (h3.keep _ (Array.getElem?_eq_some_iff.1 hlb).1 (.inr ⟨_, hlb, rfl⟩)).trans hlb
        have hk3 := (h3.keep _ (Array.getElem?_eq_some_iff.1 hkb).1 (.inr ⟨_, hkb, rfl⟩)).trans hkb
        have hr := run_endRound (P := P) jump hl3
        refine ⟨by rw [hrec] at hr ⊢; exact hr, hput W3 _ _ hl3, hsame _ _ _ hl3, (hother _ _ _ (by omega)).trans hk3⟩
      rintro e a3 W3 hp
      cases e with
      | normal =>
        obtain ⟨h3, hi3⟩ := hp
        obtain ⟨hr, g4, hl4, hk4⟩ := fin none W3 h3
        refine ⟨_, _, hr, .inl ⟨rfl, ⟨hI _ _ _ hi3 g4, hl4, hk4⟩, ?_⟩⟩
        refine ⟨g4.os.trans (h3.os.trans (gb.os.trans hba.os)), g4.tape.trans (h3.tape.trans (gb.tape.trans hba.tape)), g4.output.trans (h3.output.trans (gb.output.trans hba.output)),
          Nat.le_trans (Nat.le_trans hba.size gb.size) (Nat.le_trans h3.size g4.size), fun k hkl hmk => ?_⟩
        by_cases e : k = D + 1
        · subst e
          exact hl4.trans hl.symm
        · have eb : Wb.heap[k]? = W.heap[k]? := by
            rw [← hWb]
            exact (hother _ _ _ e).trans (hba.block k hkl)
          exact (hother _ _ _ e).trans ((h3.keep k (Nat.lt_of_lt_of_le hkl (Nat.le_trans hba.size gb.size)) (by rw [eb]; exact hmk)).trans eb)
      | ret =>
        obtain ⟨h3, hi3⟩ := hp
        obtain ⟨hr, g4, hl4, hk4⟩ := fin (some .ret) W3 h3
        exact ⟨_, _, hr, .inr ⟨rfl, .ret, hIx _ _ _ _ hi3 g4, hl4, hk4⟩⟩
      | exit id =>
        obtain ⟨h3, hi3⟩ := hp
        obtain ⟨hr, g4, hl4, hk4⟩ := fin (some (.exit id)) W3 h3
        exact ⟨_, _, hr, .inr ⟨rfl, .exit id, hIx _ _ _ _ hi3 g4, hl4, hk4⟩⟩
      | goto t =>
        obtain ⟨h3, hi3⟩ := hp
        obtain ⟨hr, g4, hl4, hk4⟩ := fin (some (.goto t)) W3 h3
        exact ⟨_, _, hr, .inr ⟨rfl, .goto t, hIx _ _ _ _ hi3 g4, hl4, hk4⟩⟩
      | panic ch => exact hp.elim
      | outgrown => exact hp.elim
    · rintro e W2 ⟨⟨v, rfl⟩, (⟨hi, hl, hk⟩ | ⟨pre, hS, c, hi, hl, hk⟩)⟩
      · have hr := run_endLoop (P := P) hl (by rw [hrec]; simp)
        rw [hrec] at hr
        exact ⟨none, _, hr, hdone D _ (by omega) (hI _ _ _ hi (hput _ _ _ hl)) ((hother _ _ _ (by omega)).trans hk)⟩
      · have hr := run_endLoop (P := P) hl (by rw [hrec]; simp)
        rw [hrec] at hr
        exact ⟨some c, _, hr, hstop D c pre _ (by omega) hS (hIx _ _ _ _ hi (hput _ _ _ hl)) ((hother _ _ _ (by omega)).trans hk)⟩
end Go.Proofs.Ytfiockconbaniaa
