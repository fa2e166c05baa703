/- What a numbered tree is gone through in, with the cells of each part. No program. A range over a function whose iterator makes what it hands over: of that Kx tells; the body never leaves the range. No program. rules.preorder: a tree's parts come to yield one by one, each with its place. Numbered trees' blocks are blocks of cells; what each part's cells tell. No program. The maker while an iterator is at work: what is the rounds' own. -/
import Derived.Test.YtikbfoichhkeaaaGreatVm29
set_option linter.unusedSimpArgs false
set_option linter.unusedVariables false
set_option maxRecDepth 100000
set_option maxHeartbeats 40000000
namespace Go.Proofs.YtikbfoichhkeaaaGreat
section
open Go.RowKit Go.Proofs
def cells8 (W : World) (g o : Nat) : List Value := (List.range 8).map fun j => (W.cell? ⟨g, o + j, none⟩).getD (.bool false)
def rowN (cs : List Value) : Nat := match (cs[7]? : Option Value) with
 | some (Value.slice (some a) _ _) => a.block
 | _ => 0
mutual
def evC (W : World) (X : Cx) : Tr → Nat → Pl9 → List Value → List (Ev9 × List Value)
 | .mk o s n li l, k, p, cs => (⟨.mk o s n li l, k, p⟩, cs) :: evCL W X o n l.length p l 0 (k + 1) (rowN cs)
def evCL (W : World) (X : Cx) (o n : Int) (len : Nat) (p : Pl9) : List Tr → Nat → Nat → Nat → List (Ev9 × List Value)
 | [], _, _, _ => []
 | c :: r, i, k, g => evC W X c k (withinP X o n len p i) (cells8 W g (i * 8)) ++ evCL W X o n len p r (i + 1) (k + c.size) g
end
theorem evC_eq (W : World) (X : Cx) (t : Tr) (k : Nat) (p : Pl9) (cs : List Value) : evC W X t k p cs = (⟨t, k, p⟩, cs) :: evCL W X t.op t.n t.l.length p t.l 0 (k + 1) (rowN cs) := by cases t; rw [evC]; rfl
theorem evCL_nil (W : World) (X : Cx) (o n : Int) (len : Nat) (p : Pl9) (i k g : Nat) : evCL W X o n len p [] i k g = [] := by rw [evCL]
theorem evCL_cons (W : World) (X : Cx) (o n : Int) (len : Nat) (p : Pl9) (c : Tr) (r : List Tr) (i k g : Nat) : evCL W X o n len p (c :: r) i k g = evC W X c k (withinP X o n len p i) (cells8 W g (i * 8)) ++ evCL W X o n len p r (i + 1) (k + c.size) g := by rw [evCL]
mutual
theorem evC_map (W : World) (X : Cx) : ∀ (t : Tr) (k : Nat) (p : Pl9) (cs : List Value), (evC W X t k p cs).map (·.1) = evR X t k p
 | .mk o s n li l, k, p, cs => by rw [evC, evR, List.map_cons, evCL_map W X o n l.length p l 0 (k + 1) (rowN cs)]
theorem evCL_map (W : World) (X : Cx) (o n : Int) (len : Nat) (p : Pl9) : ∀ (l : List Tr) (i k g : Nat), (evCL W X o n len p l i k g).map (·.1) = evRL X o n len p l i k
 | [], i, k, g => by rw [evCL, evRL]; rfl
 | c :: r, i, k, g => by rw [evCL, evRL, List.map_append, evC_map W X c, evCL_map W X o n len p r]
end
theorem evCL_drop {W : World} {X : Cx} {o n : Int} {len : Nat} {p : Pl9} {l : List Tr} {i : Nat} {y : Tr} (k g : Nat) (h : l[i]? = some y) :
  evCL W X o n len p (l.drop i) i k g = evC W X y k (withinP X o n len p i) (cells8 W g (i * 8)) ++ evCL W X o n len p (l.drop (i + 1)) (i + 1) (k + y.size) g := by
 obtain ⟨hk, rfl⟩ := List.getElem?_eq_some_iff.1 h
 rw [List.drop_eq_getElem_cons hk, evCL_cons]
theorem cells8_of {W : World} {g o : Nat} {cs : List Value} (h8 : cs.length = 8) (h : ∀ j, j < 8 → W.cell? ⟨g, o + j, none⟩ = cs[j]?) : cells8 W g o = cs := by
 refine List.ext_getElem (by simp [cells8, h8]) fun j h1 h2 => ?_
 simp only [cells8, List.getElem_map, List.getElem_range]
 rw [h j (by omega), List.getElem?_eq_getElem h2]
 rfl
theorem NtP.len {W : World} {S : Nat → Prop} {t : Tr} {k : Nat} {cs : List Value} (h : NtP W S t k cs) : cs.length = 8 := by
 obtain ⟨A0, n0, c0, A, c, rfl, -, -⟩ := (NtP_eq _ _ _ _ _).1 h
 rfl
theorem NtP.part {W : World} {S : Nat → Prop} {t : Tr} {k : Nat} {cs : List Value} (h : NtP W S t k cs) {i : Nat} {y : Tr} (hy : t.l[i]? = some y) :
  S (rowN cs) ∧ (∃ c, cs[7]? = some (.slice (some ⟨rowN cs, 0, none⟩) t.l.length c) ∧ t.l.length ≤ c ∧ c ≤ maxLen) ∧ NtP W S y (k + 1 + sizes (t.l.take i)) (cells8 W (rowN cs) (i * 8)) ∧ ∀ j, j < 8 → W.cell? ⟨rowN cs, i * 8 + j, none⟩ = (cells8 W (rowN cs) (i * 8))[j]? := by
 obtain ⟨A0, n0, c0, A, c, rfl, ⟨hc1, hc2, -⟩, hrow⟩ := (NtP_eq _ _ _ _ _).1 h
 have hl : i < t.l.length := (List.getElem?_eq_some_iff.1 hy).1
 obtain ⟨g, rfl, hS, hL⟩ := hrow (by omega)
 have hr : rowN (ntV t.op t.s t.n (.slice A0 n0 c0) t.line k ((k + t.size : Nat) : Int) (.slice (some ⟨g, 0, none⟩) t.l.length c)) = g := rfl
 rw [hr]
 obtain ⟨cs', h1, h2⟩ := NtL.get t.l (k + 1) g 0 i y hL hy
 rw [Nat.zero_add] at h2
 have e := cells8_of h1.len h2
 rw [e]
 exact ⟨hS, ⟨c, rfl, hc1, hc2⟩, h1, h2⟩
end
section
open Go Go.RowKit
variable {mine : World → Nat → Prop}
structure ItA (base : Nat) (A B : World) : Prop where
 os : B.os = A.os
 tape : B.tape = A.tape
 output : B.output = A.output
 size : A.heap.size ≤ B.heap.size
 keep : ∀ (k : Nat) (o : Obj), A.heap[k]? = some o → (k < base ∨ o.isCells = true) → B.heap[k]? = some o
theorem ItA.of_below {base : Nat} {A B : World} (h : Below A.heap.size A B) : ItA base A B := ⟨h.os, h.tape, h.output, h.size, fun k _ hk _ => (h.block k (Array.getElem?_eq_some_iff.1 hk).1).trans hk⟩
theorem ItA.mono {base b : Nat} {A B : World} (h : ItA base A B) (hb : b ≤ base) : ItA b A B := ⟨h.os, h.tape, h.output, h.size, fun k o hk hm => h.keep k o hk (hm.imp (fun x => by omega) id)⟩
def SeqRowsX {α : Type} (F : Fence) (n : Nat) (P : Program) (g : Nat) (lb : Array Value) (encs : α → Array Value) (mine : World → Nat → Prop) (K : List α → World → Prop) (Kx : α → World → Prop) (R : List α → Prop) (w : World) : Prop :=
 ∀ (l : Nat) (J : List α → World → Prop) (W : World), Below w.heap.size w W →
  (∀ pre A B, J pre A → ItA W.heap.size A B → J pre B) → (∀ pre A k, J pre A → mine A k → k < A.heap.size) → (∀ A B k, ItA W.heap.size A B → mine B k → mine A k) →
  (∀ pre x W1, J pre W1 → (∃ xs, R xs ∧ pre ++ [x] <+: xs) → Kx x W1 → YieldAt F (n - 1) P l (encs x) W1 fun e W' => e = .returned (.bool true) ∧ J (pre ++ [x]) W' ∧ RdKeeps mine W1 W') →
  (∀ pre A, J pre A → K pre A) → J [] W →
  CallsIn F n P g (#[.func (.yield l) #[] #[]] ++ lb) W fun e W' => (∃ v, e = .returned v) ∧ ∃ xs, R xs ∧ J xs W'
variable {F : Fence} {n : Nat} {P : Program}
theorem wpIn_rangeRowsX {α : Type} {g : Operand} {ps : Array Tmp} {assign body : Code} {Q : Exit → Act → World → Prop} {a : Act} {w : World}
  (hro : F.round = none) (h1 : 1 ≤ n) {gf : Nat} {lb : Array Value} (hg : a.eval g = .func (.func gf) #[] lb) (hFg : F.fn gf) (eg : ∀ args w, (callFunc gf args).run P w = .ok (.enter gf args) w)
  {encs : α → Array Value} {w0 : World} {K : List α → World → Prop} {Kx : α → World → Prop} {R : List α → Prop} (hseq : SeqRowsX F (n - 1) P gf lb encs mine K Kx R w0) (hb0 : Below w0.heap.size w0 w) (hps : ∀ x, (encs x).size = ps.size)
  (I : List α → World → Prop)
  (hKn : ∀ pre A, I pre A → K pre A) (hI : ∀ pre A B, I pre A → ItA w.heap.size A B → I pre B)
  (hm : ∀ pre A k, I pre A → mine A k → ∃ o, A.heap[k]? = some o ∧ dataO o = true)
  (hms : ∀ A B k, ItA w.heap.size A B → mine B k → mine A k)
  (hKx : ∀ x A B, Kx x A → (∀ (k : Nat) (o : Obj), A.heap[k]? = some o → o.isCells = true → B.heap[k]? = some o) → (∀ k, mine B k → mine A k) → Kx x B)
  (h0 : I [] w) (Ax : α → Act → World → Prop) (hAx : ∀ x a' A B, Ax x a' A → (∀ (k : Nat) (o : Obj), A.heap[k]? = some o → o.isCells = true → B.heap[k]? = some o) → Ax x a' B)
  (hassign : ∀ (l : Nat) (pre : List α) (x : α) (W : World) (K' : Act → World → Prop), I pre W → Kx x W → (∀ a' W', Below W.heap.size W W' → Ax x a' W' → K' a' W') →
   assign.wpIn (F.inRound l) (n - 1 - 1) P (Exit.then K' (fun _ _ _ => False)) { tmps := (ps.zip (encs x)).foldl (fun t (p, v) => t.setIfInBounds p v) a.tmps, defers := [] } W)
  (hbody : ∀ (l : Nat) (pre : List α) (x : α) (a' : Act) (W : World), w.heap.size ≤ l → I pre W → Ax x a' W → Kx x W → (∃ xs, R xs ∧ pre ++ [x] <+: xs) → body.wpIn (F.inRound l) (n - 1 - 1) P (rowsPost mine I (fun _ _ _ => False) (pre ++ [x]) W) a' W)
  (hdone : ∀ (D : Nat) (W : World) (xs : List α), R xs → w.heap.size ≤ D → I xs W → W.heap[D]? = some (.deferred (some [])) → Q .normal { a with defers := { target := .collected D, args := #[] } :: a.defers } W) :
  (Code.rangeFunc g ps assign body).wpIn F n P Q a w := by
 refine wpIn_rangeFunc fun fn hfn => ?_
 rw [hro]
 obtain ⟨D, hD⟩ : ∃ D, w.heap.size = D := ⟨_, rfl⟩
 obtain ⟨rec, hrec⟩ : ∃ rec : LoopState → Option Code → Loop, rec = fun st pe => { state := st, pending := pe, fn, tmps := a.tmps, params := ps, assign, body, defers := D } := ⟨_, rfl⟩
 have hsame : ∀ (W : World) (o o' : Obj), W.heap[D + 1]? = some o' → (W.putObj (D + 1) o).heap[D + 1]? = some o := fun W o o' h => World.putObj_heap_same (Array.getElem?_eq_some_iff.1 h).1
 have hother : ∀ (W : World) (o : Obj) (k : Nat), k ≠ D + 1 → (W.putObj (D + 1) o).heap[k]? = W.heap[k]? := fun W o k h => World.putObj_heap_other h
 have hput : ∀ (W : World) (o : Obj) (r : Loop), (∀ k, mine W k → ∃ o, W.heap[k]? = some o ∧ dataO o = true) → W.heap[D + 1]? = some (.loop r) → ItA w.heap.size W (W.putObj (D + 1) o) := fun W o r hmW hl => by
  have hgr := grownBy_putObj' W (D + 1) o
  refine ⟨hgr.os, hgr.tape, hgr.output, hgr.size, fun k x hk hm => (hother W o k (fun e => ?_)).trans hk⟩
  subst e
  rw [hl] at hk
  cases hk
  rcases hm with h | h
  ·omega
  ·cases h
 have hnm : ∀ (W : World) (k : Nat) (o : Obj), (∀ k, mine W k → ∃ o, W.heap[k]? = some o ∧ dataO o = true) → W.heap[k]? = some o → dataO o = false → ¬ mine W k := fun W k o hmW hk ho h => by
  obtain ⟨o', h1, h2⟩ := hmW _ h
  rw [hk] at h1
  cases h1
  rw [ho] at h2
  cases h2
 obtain ⟨W1, hW1⟩ : ∃ W1, (w.alloc (.deferred (some []))).alloc (.loop (rec .ready none)) = W1 := ⟨_, rfl⟩
 have hb1 : Below w.heap.size w W1 := by rw [← hW1]; exact ((Below.refl _ w).alloc (Nat.le_refl _) _).alloc (by simp) _
 have hz1 : W1.heap.size = D + 2 := by rw [← hW1]; simp [hD]
 have hL1 : W1.heap[D + 1]? = some (.loop (rec .ready none)) := by
  rw [← hW1, ← hD]
  have := World.alloc_heap_new (w.alloc (.deferred (some []))) (.loop (rec .ready none))
  rwa [World.size_alloc] at this
 have hK1 : W1.heap[D]? = some (.deferred (some [])) := by
  rw [← hW1, ← hD]
  exact (Below.heap_alloc _ _ _ (by simp)).trans (World.alloc_heap_new w _)
 refine ⟨D + 1, [{ target := .collected D, args := #[] }], W1, { target := .fn (.func gf) lb, args := #[.func (.yield (D + 1)) #[] #[]] }, W1, gf, #[.func (.yield (D + 1)) #[] #[]] ++ lb, W1, ?_, ?_, ?_, ?_, fun _ => h1, ?_⟩
 ·rw [← hW1, hrec, ← hD]; exact run_enterLoop_outer _ _ _ _ _
 ·simp only [resolve, hg]
  simp [go_sem]
 ·intro f' hf'
  simp [Target.leads] at hf'
  subst hf'
  exact hFg
 ·simp [invoke, go_sem, eg]
 ·refine (hseq (D + 1) (fun pre W => I pre W ∧ W.heap[D + 1]? = some (.loop (rec .ready none)) ∧ W.heap[D]? = some (.deferred (some [])))
   W1 (hb0.trans (hb1.mono hb0.size))
   (fun pre A B h g => ⟨hI pre A B h.1 (g.mono (by omega)), g.keep _ _ h.2.1 (.inl (by omega)), g.keep _ _ h.2.2 (.inl (by omega))⟩)
   (fun pre A k h hk => by obtain ⟨o, h1, _⟩ := hm pre A k h.1 hk; exact (Array.getElem?_eq_some_iff.1 h1).1)
   (fun A B k g hk => hms A B k (g.mono (by omega)) hk) ?_ (fun pre A h => hKn pre A h.1) ⟨hI [] w W1 h0 (.of_below hb1), hL1, hK1⟩).mono ?_
  ·rintro pre x W ⟨hi, hl, hk⟩ hpre hkx
   have hy := run_yield (P := P) (args := encs x) hl (by rw [hrec]; exact hps x)
   rw [hrec] at hy
   refine ⟨fn, _, assign, body, hy, roundIn_of_wpIn hfn (hassign _ pre x W _ hi hkx ?_)⟩
   clear hy
   intro a' Wa hba hax
   have hla := (hba.block _ (Array.getElem?_eq_some_iff.1 hl).1).trans hl
   have hka := (hba.block _ (Array.getElem?_eq_some_iff.1 hk).1).trans hk
   have hia := hI pre W Wa hi (.of_below hba)
   refine ⟨_, run_beginRound hla (by rw [hrec]), ?_⟩
   obtain ⟨Wb, hWb⟩ : ∃ Wb, Wa.putObj (D + 1) (.loop { rec .ready none with state := .busy }) = Wb := ⟨_, rfl⟩
   have gb : ItA w.heap.size Wa Wb := by rw [← hWb]; exact hput Wa _ _ (fun k h => hm _ _ k hia h) hla
   have hlb : Wb.heap[D + 1]? = some (.loop { rec .ready none with state := .busy }) := by rw [← hWb]; exact hsame _ _ _ hla
   have hkb : Wb.heap[D]? = some (.deferred (some [])) := by rw [← hWb]; exact (hother _ _ _ (by omega)).trans hka
   have hib := hI pre Wa Wb hia gb
   have haxb : Ax x a' Wb := hAx x a' Wa Wb hax (fun k o hko ho => by
    rw [← hWb]
    refine (hother _ _ _ (fun e => ?_)).trans hko
    subst e
    rw [hla] at hko
    cases hko
    cases ho)
   have hkxb := hKx x W Wb hkx (fun k o hko ho => by
    have hka := (hba.block k (Array.getElem?_eq_some_iff.1 hko).1).trans hko
    rw [← hWb]
    refine (hother _ _ _ (fun e => ?_)).trans hka
    subst e
    rw [hla] at hka
    cases hka
    cases ho) (fun k h => hms W Wa k (.of_below hba) (hms Wa Wb k gb h))
   rw [hWb]
   refine wpIn_mono (hbody (D + 1) pre x a' Wb (by omega) hib haxb hkxb hpre) ?_
   have fin : ∀ (jump : Option Code) (W3 : World), RdKeeps mine Wb W3 → (∀ k, mine W3 k → ∃ o, W3.heap[k]? = some o ∧ dataO o = true) →
     (Instr.endRound (D + 1) jump).run P W3 = .ok (.bool jump.isNone) (W3.putObj (D + 1) (.loop (rec (if jump.isNone then .ready else .done) jump))) ∧
     ItA w.heap.size W3 (W3.putObj (D + 1) (.loop (rec (if jump.isNone then .ready else .done) jump))) ∧
     (W3.putObj (D + 1) (.loop (rec (if jump.isNone then .ready else .done) jump))).heap[D + 1]? = some (.loop (rec (if jump.isNone then .ready else .done) jump)) ∧
     (W3.putObj (D + 1) (.loop (rec (if jump.isNone then .ready else .done) jump))).heap[D]? = some (.deferred (some [])) := by
    intro jump W3 h3 hm3
    have hl3 := (h3.keep _ (Array.getElem?_eq_some_iff.1 hlb).1 (hnm Wb _ _ (fun k h => hm _ _ k hib h) hlb rfl)).trans hlb
    have hk3 := (h3.keep _ (Array.getElem?_eq_some_iff.1 hkb).1 (hnm Wb _ _ (fun k h => hm _ _ k hib h) hkb rfl)).trans hkb
    have hr := run_endRound (P := P) jump hl3
    refine ⟨by rw [hrec] at hr ⊢; exact hr, hput W3 _ _ hm3 hl3, hsame _ _ _ hl3, (hother _ _ _ (by omega)).trans hk3⟩
   rintro e a3 W3 hp
   cases e with
   | normal =>
    obtain ⟨h3, hi3⟩ := hp
    obtain ⟨hr, g4, hl4, hk4⟩ := fin none W3 h3 (fun k h => hm _ _ k hi3 h)
    refine ⟨_, _, hr, rfl, ⟨hI _ _ _ hi3 g4, hl4, hk4⟩, ?_⟩
    have hd : ∀ k, mine Wb k → mine W k := fun k h => hms W Wa k (.of_below hba) (hms Wa Wb k gb h)
    refine ⟨g4.os.trans (h3.os.trans (gb.os.trans hba.os)), g4.tape.trans (h3.tape.trans (gb.tape.trans hba.tape)), g4.output.trans (h3.output.trans (gb.output.trans hba.output)),
     Nat.le_trans (Nat.le_trans hba.size gb.size) (Nat.le_trans h3.size g4.size), fun k hkl hmk => ?_, fun k hk => ?_⟩
    ·by_cases e : k = D + 1
     ·subst e
      exact hl4.trans hl.symm
     ·refine (hother _ _ _ e).trans ((h3.keep k (Nat.lt_of_lt_of_le hkl (Nat.le_trans hba.size gb.size)) (fun h => hmk (hd k h))).trans ?_)
      rw [← hWb]
      exact (hother _ _ _ e).trans (hba.block k hkl)
    ·rcases h3.new k (hms _ _ k g4 hk) with h | h
     ·exact .inl (hd k h)
     ·exact .inr (Nat.le_trans (Nat.le_trans hba.size gb.size) h)
   | ret => exact hp.2.elim
   | exit id => exact hp.2.elim
   | goto t => exact hp.elim
   | panic ch => exact hp.elim
   | outgrown => exact hp.elim
  ·rintro e W2 ⟨⟨v, rfl⟩, xs, hR, hi, hl, hk⟩
   have hr := run_endLoop (P := P) hl (by rw [hrec]; simp)
   rw [hrec] at hr
   exact ⟨none, _, hr, hdone D _ xs hR (by omega) (hI _ _ _ hi (hput _ _ _ (fun k h => hm _ _ k hi h) hl)) ((hother _ _ _ (by omega)).trans hk)⟩
end
section
open Go.RowKit Go.Proofs
abbrev encC (e : Ev9 × List Value) : Array Value := #[.agg e.2.toArray, placeW e.1.p]
theorem preorder_r (lf base : Nat) {W0 Wt : World} {Mb fB : Nat} {X : Cx} {fv fsv : Value} {S : Nat → Prop} (hX : CxOK X) (xs : List (Ev9 × List Value)) (mine : World → Nat → Prop) (J Jx : List (Ev9 × List Value) → World → Prop)
  (hJ : ∀ pre A B, J pre A → ItA base A B → J pre B) (hM : ∀ pre A k, J pre A → mine A k → k < A.heap.size) (hMs : ∀ A B k, ItA base A B → mine B k → mine A k)
  (hY : ∀ pre x W1, J pre W1 → pre ++ [x] <+: xs → YieldAt Fence.wide 0 Tryz.prog lf (encC x) W1 fun e W' => (e = .returned (.bool true) ∧ J (pre ++ [x]) W' ∧ RdKeeps mine W1 W') ∨ (e = .returned (.bool false) ∧ Jx (pre ++ [x]) W'))
  (hK : ∀ pre A, J pre A → (∃ rv rs, MkAt W0 A Mb fB X fv fsv rv rs) ∧ ∀ b, S b → A.heap[b]? = Wt.heap[b]?) (hO : ∀ e ∈ xs, PartOK X e.1.t) (x : Tr) :
  ∀ (k : Nat) (cs : List Value) (p : Pl9) (pre rest : List (Ev9 × List Value)) (W : World), base ≤ W.heap.size → NtP Wt S x k cs → J pre W → pre ++ (evC Wt X x k p cs ++ rest) = xs →
   Calls Tryz.prog 75 #[.pointer (some ⟨Mb, 0, none⟩), .agg cs.toArray, placeW p, .func (.yield lf) #[] #[]] W fun e W' => (e = .returned (.bool true) ∧ J (pre ++ evC Wt X x k p cs) W' ∧ RdKeeps mine W W') ∨ (e = .returned (.bool false) ∧ ∃ pre', pre' <+: xs ∧ Jx pre' W') := by
 refine tree_ind (P := fun x => ∀ (k : Nat) (cs : List Value) (p : Pl9) (pre rest : List (Ev9 × List Value)) (W : World), base ≤ W.heap.size → NtP Wt S x k cs → J pre W → pre ++ (evC Wt X x k p cs ++ rest) = xs →
   Calls Tryz.prog 75 #[.pointer (some ⟨Mb, 0, none⟩), .agg cs.toArray, placeW p, .func (.yield lf) #[] #[]] W fun e W' => (e = .returned (.bool true) ∧ J (pre ++ evC Wt X x k p cs) W' ∧ RdKeeps mine W W') ∨ (e = .returned (.bool false) ∧ ∃ pre', pre' <+: xs ∧ Jx pre' W')) ?_ x
 clear x
 intro x ih k cs p pre rest W hbase hNt hJ0 hxs
 have hok : PartOK X x := hO (⟨x, k, p⟩, cs) (by rw [← hxs, evC_eq]; simp)
 have hpart := fun i y (hy : x.l[i]? = some y) => hNt.part hy
 have hwi : ∀ (pre' : List (Ev9 × List Value)) (W' : World), J pre' W' → ∀ i : Nat, Calls Tryz.prog 110 #[.pointer (some ⟨Mb, 0, none⟩), .agg cs.toArray, placeW p, .int .i64 i] W' fun e W2 => e = .returned (placeW (withinP X x.op x.n x.l.length p i)) ∧ Below W'.heap.size W' W2 := fun pre' W' hJ' i => by
  obtain ⟨⟨rv, rs, hm⟩, hS⟩ := hK _ _ hJ'
  exact wthn_any hX hm (hNt.keep (fun _ h => h) hS) hok p i
 rw [evC_eq] at hxs ⊢
 obtain ⟨g7, hg7⟩ : ∃ g, rowN cs = g := ⟨_, rfl⟩
 rw [hg7] at hpart hxs ⊢
 obtain ⟨A0, n0, c0, A, c, rfl, htc, hrow⟩ := (NtP_eq _ _ _ _ _).1 hNt
 have hA : 0 < x.l.length → A = some ⟨g7, 0, none⟩ := fun h0 => by
  obtain ⟨g, rfl, -, -⟩ := hrow h0
  rw [← hg7]
  rfl
 obtain ⟨pf, pth, ptg⟩ := p
 unfold placeW at *
 obtain ⟨ek, hek⟩ : ∃ y, k + x.size = y := ⟨_, rfl⟩
 obtain ⟨ln, hln⟩ : ∃ y, x.l.length = y := ⟨_, rfl⟩
 have hlc : ln ≤ c ∧ c ≤ 9223372036854775807 := by rw [← hln]; exact ⟨htc.1, htc.2.1⟩
 obtain ⟨hlc1, hlc2⟩ := hlc
 rw [hek] at hxs hwi ⊢
 rw [hln] at hxs hwi hA ⊢
 unfold ntV at *
 have HX := Lib.hid hxs
 have HI := Lib.hid ih
 have HY := Lib.hid hY
 have HJ := Lib.hid hJ
 have HM := Lib.hid hM
 have HMs := Lib.hid hMs
 have HK := Lib.hid hK
 have HWi := Lib.hid hwi
 have HP := Lib.hid hpart
 clear hxs ih hY hJ hM hMs hK hwi hpart hNt hrow hok hO htc hX
 obtain ⟨hal, hb0, hb1, hz2⟩ := alloc2 W (.cells #[.int .i64 x.op, .string (bs x.s), .int .i64 x.n, .slice A0 n0 c0, .int .i64 x.line, .int .i64 k, .int .i64 ek, .slice A ln c] 92) (.cells #[.int .i64 pf, .int .i64 pth, .bool ptg] 94)
 obtain ⟨W2, e2⟩ : ∃ y, (W.alloc (.cells #[.int .i64 x.op, .string (bs x.s), .int .i64 x.n, .slice A0 n0 c0, .int .i64 x.line, .int .i64 k, .int .i64 ek, .slice A ln c] 92)).alloc (.cells #[.int .i64 pf, .int .i64 pth, .bool ptg] 94) = y := ⟨_, rfl⟩
 rw [e2] at hal hb0 hb1 hz2
 have hk1 : ItA base W W2 := .of_below hal
 have hJ1 := HJ.out _ _ _ hJ0 hk1
 have hmn : ∀ b, W.heap.size ≤ b → ¬ mine W2 b := fun b hb hm => by
  have := HM.out _ _ _ hJ0 (HMs.out _ _ _ hk1 hm)
  omega
 have hR1 : RdKeeps mine W W2 := .of_below hal (fun k hk => HMs.out _ _ _ hk1 hk)
 obtain ⟨N, eN⟩ : ∃ y, W.heap.size = y := ⟨_, rfl⟩
 rw [eN] at hb0 hb1 hz2 hmn
 obtain ⟨ev, hev⟩ : ∃ y, ((⟨x, k, ⟨pf, pth, ptg⟩⟩ : Ev9), ([.int .i64 x.op, .string (bs x.s), .int .i64 x.n, .slice A0 n0 c0, .int .i64 x.line, .int .i64 k, .int .i64 ek, .slice A ln c] : List Value)) = y := ⟨_, rfl⟩
 rw [hev] at HX ⊢
 have hyy := HY.out pre ev W2 hJ1 ⟨_, by rw [List.append_assoc, List.singleton_append]; exact HX.out⟩
 rw [← hev] at hyy
 unfold encC placeW at hyy
 dsimp only at hyy
 rw [hev] at hyy
 obtain ⟨fn, tmps, assign, rbody, hy, hRR⟩ := yieldAt_any (m' := 4) hyy
 have HRR := Lib.hid hRR
 have H1 := Lib.hid (And.intro hb0 (And.intro hb1 (And.intro (hmn N (Nat.le_refl _)) (And.intro (hmn (N + 1) (Nat.le_succ _)) hR1))))
 have HW := Lib.hid (And.intro e2 (And.intro hbase eN))
 have hsz9 : ∀ (l : List Tr) (i : Nat) (t : Tr), l[i]? = some t → sizes (l.take i) + t.size ≤ sizes l ∧ sizes (l.take (i + 1)) = sizes (l.take i) + t.size := sizes_take7
 clear hsz9
 have HA := Lib.hid hA
 clear hyy hRR hev hg7 hA hJ0 hJ1 hk1 hR1 hmn hb0 hb1 hal hbase e2 eN hz2 hek
 refine (callsIn_wide (n := 5)).1 ?_
 refine callsIn_of_wp Tryz.func75 rfl trivial ?_ rfl
 simp only [Tryz.ntmps75, List.size_toArray, List.length_cons, List.length_nil, Nat.reduceAdd, Nat.reduceSub, Array.replicate_succ, Array.replicate_zero, List.push_toArray, List.append_toArray, List.nil_append, List.cons_append]
 gi_upto_region 1 with fail
 rw [HW.out.1, HW.out.2.2]
 have h0 := (box8 H1.out.1).1
 obtain ⟨p0, p1, p2⟩ := box3c H1.out.2.1
 obtain ⟨t0, t1, t2, t3, t4, t5, t6, t7⟩ := h0
 gi_wp2_with fail
 refine HRR.out.mono ?_
 rintro e W7 (⟨rfl, hJ7, hk7⟩ | ⟨rfl, hJx7⟩)
 rotate_left 1
 ·have HL := Lib.hid hJx7
  clear hJx7
  gi_wp2
  go_ret
  exact .inr ⟨rfl, _, ⟨_, by rw [List.append_assoc, List.singleton_append]; exact HX.out⟩, HL.out⟩
 have hl0 := heap_lt H1.out.1
 have hl1 := heap_lt H1.out.2.1
 have hx0 := (hk7.keep N hl0 H1.out.2.2.1).trans H1.out.1
 have hx1 := (hk7.keep (N + 1) hl1 H1.out.2.2.2.1).trans H1.out.2.1
 have hN7 : ¬ mine W7 N := fun hm => (hk7.new N hm).elim H1.out.2.2.1 (fun h => by omega)
 have hN8 : ¬ mine W7 (N + 1) := fun hm => (hk7.new (N + 1) hm).elim H1.out.2.2.2.1 (fun h => by omega)
 have HE := Lib.hid (And.intro hx0 (And.intro hx1 (And.intro hJ7 (And.intro hN7 (And.intro hN8 (H1.out.2.2.2.2.then_ hk7))))))
 have u7 := (box8 hx0).1.2.2.2.2.2.2.2
 clear hJ7 hk7 hN7 hN8 hl0 hl1 hx0 hx1 t0 t1 t2 t3 t4 t5 t6 t7 p0 p1 p2
 gi_wp2
 gi_loopw [19] (fun i wr => ∃ (j : Nat) (prel : List (Ev9 × List Value)), j ≤ ln ∧ i = .int .i64 j ∧ J prel wr ∧ prel ++ (evCL Wt X x.op x.n ln ⟨pf, pth, ptg⟩ (x.l.drop j) j (k + 1 + sizes (x.l.take j)) g7 ++ rest) = xs ∧ pre ++ (ev :: evCL Wt X x.op x.n ln ⟨pf, pth, ptg⟩ x.l 0 (k + 1) g7) = prel ++ evCL Wt X x.op x.n ln ⟨pf, pth, ptg⟩ (x.l.drop j) j (k + 1 + sizes (x.l.take j)) g7 ∧ RdKeeps mine W wr ∧ wr.heap[N]? = some (.cells #[.int .i64 x.op, .string (bs x.s), .int .i64 x.n, .slice A0 n0 c0, .int .i64 x.line, .int .i64 k, .int .i64 ek, .slice A ln c] 92 (0, 0)) ∧ wr.heap[N + 1]? = some (.cells #[.int .i64 pf, .int .i64 pth, .bool ptg] 94 (0, 0)) ∧ ¬ mine wr N ∧ ¬ mine wr (N + 1)) (fun i _ => ln - (intOf i).toNat)
 case atStart => exact ⟨0, pre ++ [ev], Nat.zero_le _, rfl, HE.out.2.2.1, by rw [← HX.out]; simp [sizes_nil], by simp [sizes_nil], HE.out.2.2.2.2.2, HE.out.1, HE.out.2.1, HE.out.2.2.2.1, HE.out.2.2.2.2.1⟩
 case round =>
  obtain ⟨j, prel, hj, rfl, hJk, hxk, hpk, hRk, hbk, hbl, hnk, hnl⟩ := hrel
  by_cases hlt : j < ln
  ·have g1 : (j : Int) < ln := by omega
   have eA := HA.out (by omega)
   subst eA
   obtain ⟨y, hy9⟩ : ∃ y, x.l[j]? = some y := ⟨_, List.getElem?_eq_getElem (by omega)⟩
   obtain ⟨hSg, -, hNy, hcy⟩ := HP.out j y hy9
   obtain ⟨cy, ecy⟩ : ∃ q, cells8 Wt g7 (j * 8) = q := ⟨_, rfl⟩
   rw [ecy] at hNy hcy
   obtain ⟨Aq, nq, cq, Bq, bq, eqc, -, -⟩ := (NtP_eq _ _ _ _ _).1 hNy
   unfold ntV at eqc
   obtain ⟨kq, ekq⟩ : ∃ q, k + 1 + sizes (x.l.take j) = q := ⟨_, rfl⟩
   obtain ⟨eq, eeq⟩ : ∃ q, kq + y.size = q := ⟨_, rfl⟩
   obtain ⟨lq, elq⟩ : ∃ q, y.l.length = q := ⟨_, rfl⟩
   rw [ekq, eeq, elq] at eqc
   subst eqc
   rw [ekq] at hNy
   have hgS := (HK.out _ _ hJk).2 g7 hSg
   have hcw : ∀ i, i < 8 → wr.cell? ⟨g7, j * 8 + i, none⟩ = ([.int .i64 y.op, .string (bs y.s), .int .i64 y.n, .slice Aq nq cq, .int .i64 y.line, .int .i64 kq, .int .i64 eq, .slice Bq lq bq] : List Value)[i]? := fun i hi => (cell_block hgS ⟨g7, j * 8 + i, none⟩ rfl).trans (hcy i hi)
   have b0 : wr.cell? ⟨g7, j * 8, none⟩ = some (.int .i64 y.op) := hcw 0 (by omega)
   have b1 : wr.cell? ⟨g7, j * 8 + 1, none⟩ = some (.string (bs y.s)) := hcw 1 (by omega)
   have b2 : wr.cell? ⟨g7, j * 8 + 2, none⟩ = some (.int .i64 y.n) := hcw 2 (by omega)
   have b3 : wr.cell? ⟨g7, j * 8 + 3, none⟩ = some (.slice Aq nq cq) := hcw 3 (by omega)
   have b4 : wr.cell? ⟨g7, j * 8 + 4, none⟩ = some (.int .i64 y.line) := hcw 4 (by omega)
   have b5 : wr.cell? ⟨g7, j * 8 + 5, none⟩ = some (.int .i64 kq) := hcw 5 (by omega)
   have b6 : wr.cell? ⟨g7, j * 8 + 6, none⟩ = some (.int .i64 eq) := hcw 6 (by omega)
   have b7 : wr.cell? ⟨g7, j * 8 + 7, none⟩ = some (.slice Bq lq bq) := hcw 7 (by omega)
   have hdr := evCL_drop (W := Wt) (X := X) (o := x.op) (n := x.n) (len := ln) (p := ⟨pf, pth, ptg⟩) (k + 1 + sizes (x.l.take j)) g7 hy9
   rw [ecy, Nat.add_assoc (k + 1), ← (sizes_take7 _ _ _ hy9).2] at hdr
   have hal := below_alloc9 wr (.cells #[.int .i64 y.op, .string (bs y.s), .int .i64 y.n, .slice Aq nq cq, .int .i64 y.line, .int .i64 kq, .int .i64 eq, .slice Bq lq bq] 92)
   have hba := heap_alloc_new wr (.cells #[.int .i64 y.op, .string (bs y.s), .int .i64 y.n, .slice Aq nq cq, .int .i64 y.line, .int .i64 kq, .int .i64 eq, .slice Bq lq bq] 92)
   obtain ⟨Z, eZ⟩ : ∃ q, wr.heap.size = q := ⟨_, rfl⟩
   obtain ⟨w5, e5⟩ : ∃ q, wr.alloc (.cells #[.int .i64 y.op, .string (bs y.s), .int .i64 y.n, .slice Aq nq cq, .int .i64 y.line, .int .i64 kq, .int .i64 eq, .slice Bq lq bq] 92) = q := ⟨_, rfl⟩
   rw [eZ, e5] at hba
   rw [e5] at hal
   have hbd : Below wr.heap.size wr w5.drew := hal.drew
   have hkd : ItA base wr w5.drew := .of_below hbd
   have hw := HWi.out prel w5.drew (HJ.out _ _ _ hJk hkd) j
   obtain ⟨pv, hpv⟩ : ∃ q, withinP X x.op x.n ln ⟨pf, pth, ptg⟩ j = q := ⟨_, rfl⟩
   rw [hpv] at hw hdr
   have hsz : y.size < x.size := by have h8 := (sizes_take7 _ _ _ hy9).1; have := size_eq x; omega
   rw [ekq] at hdr hxk hpk
   have hI := HI.out y hsz kq [.int .i64 y.op, .string (bs y.s), .int .i64 y.n, .slice Aq nq cq, .int .i64 y.line, .int .i64 kq, .int .i64 eq, .slice Bq lq bq] pv prel (evCL Wt X x.op x.n ln ⟨pf, pth, ptg⟩ (x.l.drop (j + 1)) (j + 1) (k + 1 + sizes (x.l.take (j + 1))) g7 ++ rest)
   have hz5 : w5.heap.size = Z + 1 := by rw [← e5, World.size_alloc, eZ]
   have hlN := heap_lt hbk
   have hlM := heap_lt hbl
   have hcf : ∀ w' : World, Below w5.heap.size w5 w' → (w'.cell? ⟨N, 0, none⟩ = some (.int .i64 x.op) ∧ w'.cell? ⟨N, 1, none⟩ = some (.string (bs x.s)) ∧ w'.cell? ⟨N, 2, none⟩ = some (.int .i64 x.n) ∧ w'.cell? ⟨N, 3, none⟩ = some (.slice A0 n0 c0) ∧ w'.cell? ⟨N, 4, none⟩ = some (.int .i64 x.line) ∧ w'.cell? ⟨N, 5, none⟩ = some (.int .i64 k) ∧ w'.cell? ⟨N, 6, none⟩ = some (.int .i64 ek) ∧ w'.cell? ⟨N, 7, none⟩ = some (.slice (some ⟨g7, 0, none⟩) ln c) ∧ w'.cell? ⟨N + 1, 0, none⟩ = some (.int .i64 pf) ∧ w'.cell? ⟨N + 1, 1, none⟩ = some (.int .i64 pth) ∧ w'.cell? ⟨N + 1, 2, none⟩ = some (.bool ptg) ∧ w'.cell? ⟨Z, 0, none⟩ = some (.int .i64 y.op) ∧ w'.cell? ⟨Z, 1, none⟩ = some (.string (bs y.s)) ∧ w'.cell? ⟨Z, 2, none⟩ = some (.int .i64 y.n) ∧ w'.cell? ⟨Z, 3, none⟩ = some (.slice Aq nq cq) ∧ w'.cell? ⟨Z, 4, none⟩ = some (.int .i64 y.line) ∧ w'.cell? ⟨Z, 5, none⟩ = some (.int .i64 kq) ∧ w'.cell? ⟨Z, 6, none⟩ = some (.int .i64 eq) ∧ w'.cell? ⟨Z, 7, none⟩ = some (.slice Bq lq bq)) := fun w' hb => by
    have h1 := (box8 ((hb.block N (by omega)).trans ((hal.block N hlN).trans hbk))).1
    have h2 := box3c ((hb.block (N + 1) (by omega)).trans ((hal.block (N + 1) hlM).trans hbl))
    have h3 := (box8 ((hb.block Z (by omega)).trans hba)).1
    exact ⟨h1.1, h1.2.1, h1.2.2.1, h1.2.2.2.1, h1.2.2.2.2.1, h1.2.2.2.2.2.1, h1.2.2.2.2.2.2.1, h1.2.2.2.2.2.2.2, h2.1, h2.2.1, h2.2.2, h3.1, h3.2.1, h3.2.2.1, h3.2.2.2.1, h3.2.2.2.2.1, h3.2.2.2.2.2.1, h3.2.2.2.2.2.2.1, h3.2.2.2.2.2.2.2⟩
   have hc5 := hcf w5 (Below.refl _ _)
   have HCF := Lib.hid (fun w' (hb : Below w5.heap.size w5.drew w') => hcf w' ((drew_below w5).trans hb))
   have hDr : Below w5.heap.size w5 w5.drew := drew_below w5
   have hC : ∀ w8, Below w5.heap.size w5.drew w8 → Calls Tryz.prog 75 #[.pointer (some ⟨Mb, 0, none⟩), .agg #[.int .i64 y.op, .string (bs y.s), .int .i64 y.n, .slice Aq nq cq, .int .i64 y.line, .int .i64 kq, .int .i64 eq, .slice Bq lq bq], .agg #[.int .i64 pv.fn, .int .i64 pv.th, .bool pv.tg], .func (.yield lf) #[] #[]] w8 fun e W' => ∃ bb : Bool, e = .returned (.bool bb) ∧ ((bb = true ∧ J (prel ++ evC Wt X y kq pv [.int .i64 y.op, .string (bs y.s), .int .i64 y.n, .slice Aq nq cq, .int .i64 y.line, .int .i64 kq, .int .i64 eq, .slice Bq lq bq]) W' ∧ RdKeeps mine W W' ∧ W'.heap[N]? = wr.heap[N]? ∧ W'.heap[N + 1]? = wr.heap[N + 1]? ∧ ¬ mine W' N ∧ ¬ mine W' (N + 1)) ∨ (bb = false ∧ ∃ pre', pre' <+: xs ∧ Jx pre' W')) := fun w8 hb8 => by
    have hb9 : Below wr.heap.size wr w8 := hal.trans ((hDr.trans hb8).mono (by omega))
    have hk9 : ItA base wr w8 := .of_below hb9
    have hr9 : RdKeeps mine wr w8 := .of_below hb9 (fun k hk => HMs.out _ _ _ hk9 hk)
    refine (hI w8 (by have := hRk.size; have := hb9.size; have := HW.out.2.1; omega) hNy (HJ.out _ _ _ hJk hk9) (by rw [← hxk, hdr, List.append_assoc])).mono ?_
    rintro e w2 (⟨rfl, h1, h2⟩ | ⟨rfl, h1⟩)
    ·have hn8 : ∀ b, b < wr.heap.size → ¬ mine wr b → ¬ mine w8 b := fun b _ h hm => h (HMs.out _ _ _ hk9 hm)
     have hn2 : ∀ b, b < wr.heap.size → ¬ mine wr b → ¬ mine w2 b := fun b hb h hm => (h2.new b hm).elim (hn8 b hb h) (fun h' => by have := hb9.size; omega)
     exact ⟨true, rfl, .inl ⟨rfl, h1, (hRk.then_ hr9).then_ h2, (h2.keep N (by have := hb9.size; omega) (hn8 N hlN hnk)).trans (hb9.block N hlN), (h2.keep (N + 1) (by have := hb9.size; omega) (hn8 (N + 1) hlM hnl)).trans (hb9.block (N + 1) hlM), hn2 N hlN hnk, hn2 (N + 1) hlM hnl⟩⟩
    ·exact ⟨false, rfl, .inr ⟨rfl, h1⟩⟩
   have HC := Lib.hid hC
   have HK2 := Lib.hid (And.intro (show (prel ++ evC Wt X y kq pv [.int .i64 y.op, .string (bs y.s), .int .i64 y.n, .slice Aq nq cq, .int .i64 y.line, .int .i64 kq, .int .i64 eq, .slice Bq lq bq]) ++ (evCL Wt X x.op x.n ln ⟨pf, pth, ptg⟩ (x.l.drop (j + 1)) (j + 1) (k + 1 + sizes (x.l.take (j + 1))) g7 ++ rest) = xs by rw [← hxk, hdr]; simp) (And.intro (show pre ++ (ev :: evCL Wt X x.op x.n ln ⟨pf, pth, ptg⟩ x.l 0 (k + 1) g7) = (prel ++ evC Wt X y kq pv [.int .i64 y.op, .string (bs y.s), .int .i64 y.n, .slice Aq nq cq, .int .i64 y.line, .int .i64 kq, .int .i64 eq, .slice Bq lq bq]) ++ evCL Wt X x.op x.n ln ⟨pf, pth, ptg⟩ (x.l.drop (j + 1)) (j + 1) (k + 1 + sizes (x.l.take (j + 1))) g7 by rw [hpk, hdr]; simp) (And.intro hbk hbl)))
   have HW1 := Lib.hid hw
   obtain ⟨p0, p1, p2, p3, p4, p5, p6, p7, p8, p9, p10, p11, p12, p13, p14, p15, p16, p17, p18⟩ := hc5
   clear hcf hDr hC hI hw hxk hdr hpk hRk hbk hbl hnk hnl hJk hNy hcw hcy hal hba hbd hkd hgS hSg hsz hlN hlM
   gi_wp2_with fail
   refine wpIn_wide.2 ?_
   go_region_law (first
    | (go_simp; go_at_call 110; refine HW1.out.mono ?_; rintro e w8 ⟨rfl, hb8⟩; have HB8 := Lib.hid hb8; obtain ⟨q0, q1, q2, q3, q4, q5, q6, q7, q8, q9, q10, q11, q12, q13, q14, q15, q16, q17, q18⟩ := HCF.out w8 HB8.out; clear hb8)
    | (go_simp; go_at_call 75; refine (HC.out w8 HB8.out).mono ?_; rintro e w2 ⟨bb, rfl, hp⟩; have HL := Lib.hid hp; clear hp))
   all_goals
    rcases HL.out with ⟨rfl, h1, h2, h3, h4, h5, h6⟩ | ⟨rfl, pre', hpre', hJx'⟩
    ·have HF := Lib.hid (And.intro h1 (And.intro h2 (And.intro (h3.trans HK2.out.2.2.1) (And.intro (h4.trans HK2.out.2.2.2) (And.intro h5 h6)))))
     clear h1 h2 h3 h4 h5 h6 HL
     go_wp2
     gi_wp2
     go_roundw
     case rel => exact ⟨j + 1, _, by omega, by go_num, HF.out.1, HK2.out.1, HK2.out.2.1, HF.out.2.1, HF.out.2.2.1, HF.out.2.2.2.1, HF.out.2.2.2.2.1, HF.out.2.2.2.2.2⟩
     case measure => simp [intOf]; omega
    ·have HF := Lib.hid (And.intro hpre' hJx')
     clear hpre' hJx' HL
     go_wp2
     gi_wp2
     go_ret
     exact .inr ⟨rfl, _, HF.out.1, HF.out.2⟩
  ·have g1 : ¬ (j : Int) < ln := by omega
   have HL := Lib.hid (And.intro (show J (pre ++ ev :: evCL Wt X x.op x.n ln ⟨pf, pth, ptg⟩ x.l 0 (k + 1) g7) wr by rw [hpk, List.drop_eq_nil_of_le (by omega), evCL_nil, List.append_nil]; exact hJk) hRk)
   clear hJk hxk hpk hRk hbk hbl hnk hnl
   gi_wp2
   go_ret
   exact .inl ⟨rfl, HL.out.1, HL.out.2⟩
end
section
open Go.RowKit Go.Proofs
theorem cell_cells {W : World} {b o : Nat} {v : Value} (h : W.cell? ⟨b, o, none⟩ = some v) : ∃ x, W.heap[b]? = some x ∧ x.isCells = true := by
 unfold World.cell? at h
 cases hx : W.heap[b]? with
 | none => simp [hx] at h
 | some x =>
  cases x <;> simp [hx] at h
  exact ⟨_, rfl, rfl⟩
def Cl (W : World) (i : Nat) : Prop := ∃ o, W.heap[i]? = some o ∧ o.isCells = true
mutual
theorem NtP.cl {W : World} {S : Nat → Prop} : ∀ (t : Tr) (k : Nat) (cs : List Value), NtP W S t k cs → NtP W (fun i => S i ∧ Cl W i) t k cs
 | .mk o s n li l, k, cs, h => by
  rw [NtP] at h ⊢
  obtain ⟨A0, n0, c0, A, c, h1, h2, h3⟩ := h
  refine ⟨A0, n0, c0, A, c, h1, h2, fun h0 => ?_⟩
  obtain ⟨g, h4, h5, h6⟩ := h3 h0
  refine ⟨g, h4, ⟨h5, ?_⟩, NtL.cl l (k + 1) g 0 h6⟩
  cases l with
  | nil => simp at h0
  | cons a r =>
   rw [NtL_cons] at h6
   obtain ⟨⟨cs', h7, h8⟩, -⟩ := h6
   have h9 := h8 0 (by omega)
   obtain ⟨A0, n0, c0, A, c, rfl, -, -⟩ := (NtP_eq _ _ _ _ _).1 h7
   exact cell_cells (h9.trans rfl)
theorem NtL.cl {W : World} {S : Nat → Prop} : ∀ (l : List Tr) (k g off : Nat), NtL W S l k g off → NtL W (fun i => S i ∧ Cl W i) l k g off
 | [], _, _, _, _ => by rw [NtL]; trivial
 | t :: r, k, g, off, h => by
  rw [NtL] at h ⊢
  obtain ⟨⟨cs, h1, h2⟩, h3⟩ := h
  exact ⟨⟨cs, NtP.cl t k cs h1, h2⟩, NtL.cl r _ g _ h3⟩
end
mutual
theorem evC_nt {W : World} {S : Nat → Prop} (X : Cx) : ∀ (t : Tr) (k : Nat) (p : Pl9) (cs : List Value), NtP W S t k cs → ∀ e ∈ evC W X t k p cs, NtP W S e.1.t e.1.k e.2
 | .mk o s n li l, k, p, cs, h, e, he => by
  rw [evC, List.mem_cons] at he
  rcases he with rfl | he
  ·exact h
  ·rw [NtP] at h
   obtain ⟨A0, n0, c0, A, c, rfl, -, hrow⟩ := h
   by_cases h0 : 0 < l.length
   ·obtain ⟨g, rfl, hS, hL⟩ := hrow h0
    exact evCL_nt X o n l.length p l 0 (k + 1) g (by rw [Nat.zero_mul]; exact hL) e he
   ·have : l = [] := List.length_eq_zero_iff.1 (by omega)
    subst this
    rw [evCL] at he
    cases he
theorem evCL_nt {W : World} {S : Nat → Prop} (X : Cx) (o n : Int) (len : Nat) (p : Pl9) : ∀ (l : List Tr) (i k g : Nat), NtL W S l k g (i * 8) → ∀ e ∈ evCL W X o n len p l i k g, NtP W S e.1.t e.1.k e.2
 | [], i, k, g, h, e, he => by
  rw [evCL] at he
  cases he
 | c :: r, i, k, g, h, e, he => by
  rw [NtL] at h
  obtain ⟨⟨cs', h1, h2⟩, h3⟩ := h
  rw [evCL, cells8_of h1.len h2, List.mem_append] at he
  rcases he with he | he
  ·exact evC_nt X c k _ cs' h1 e he
  ·exact evCL_nt X o n len p r (i + 1) (k + c.size) g (by rw [show (i + 1) * 8 = i * 8 + 8 by omega]; exact h3) e he
end
def KxN (mine : World → Nat → Prop) (x : Ev9 × List Value) (A : World) : Prop := ∃ S : Nat → Prop, NtP A S x.1.t x.1.k x.2 ∧ ∀ i, S i → Cl A i ∧ ¬ mine A i
theorem KxN.keep {mine : World → Nat → Prop} {x : Ev9 × List Value} {A B : World} (h : KxN mine x A) (hk : ∀ (k : Nat) (o : Obj), A.heap[k]? = some o → o.isCells = true → B.heap[k]? = some o) (hm : ∀ k, mine B k → mine A k) : KxN mine x B := by
 obtain ⟨S, h1, h2⟩ := h
 refine ⟨S, h1.keep (fun _ h => h) (fun i hi => ?_), fun i hi => ⟨?_, fun h => (h2 i hi).2 (hm i h)⟩⟩
 ·obtain ⟨o, h3, h4⟩ := (h2 i hi).1
  rw [h3, hk i o h3 h4]
 ·obtain ⟨o, h3, h4⟩ := (h2 i hi).1
  exact ⟨o, hk i o h3 h4, h4⟩
end
section
open Go.RowKit Go.Proofs
theorem IntsF.cl {W : World} {S : Nat → Prop} {v : Value} {l : List Int} (h : IntsF W S v l) : IntsF W (fun i => S i ∧ Cl W i) v l := by
 obtain ⟨A, c, h1, h2, h3⟩ := h
 refine ⟨A, c, h1, h2, fun h0 => ?_⟩
 obtain ⟨g, h4, h5, h6⟩ := h3 h0
 exact ⟨g, h4, ⟨h5, cell_cells (h6 0 _ (List.getElem?_eq_getElem h0))⟩, h6⟩
theorem RuF.cl {W : World} {S : Nat → Prop} {cs : List Value} {r : Ru} (h : RuF W S cs r) : RuF W (fun i => S i ∧ Cl W i) cs r := by
 obtain ⟨v, h1, h2, h3⟩ := h
 exact ⟨v, h1, h2.cl, h3⟩
theorem RuAcc.it {B base : Nat} {W W' : World} {l : List Ru} {v : Value} (h : RuAcc B W l v) (hit : ItA base W W') : RuAcc B W' l v := by
 obtain ⟨L, h1, h2, h3⟩ := h
 refine ⟨L, h1, fun q hq => ((h2 q hq).cl).keep (fun i hi => ⟨⟨hi.1.1.1, Nat.lt_of_lt_of_le hi.1.1.2 hit.size⟩, hi.1.2⟩) (fun i hi => by
  obtain ⟨o, h4, h5⟩ := hi.2
  rw [h4]
  exact hit.keep i o h4 (.inr h5)), h3.1, ?_⟩
 rcases h3.2 with h | ⟨g, cap, cur, rfl, h4, h5, h6⟩
 ·exact .inl h
 ·exact .inr ⟨g, cap, cur, rfl, h4, hit.keep g _ h5 (.inr rfl), h6⟩
section
variable {W0 W W' : World} {Mb fB base : Nat} {X : Cx} {fv fsv rv rv' : Value} {rs rs' : List Ru}
theorem MkAt.it (h : MkAt W0 W Mb fB X fv fsv rv rs) (hit : ItA base W W') (hb : Mb ≤ base) : MkAt W0 W' Mb fB X fv fsv rv rs :=
 ⟨h.size0, ⟨hit.os.trans h.low.os, hit.tape.trans h.low.tape, hit.output.trans h.low.output, Nat.le_trans h.low.size hit.size, fun k hk => by
  have hl : k < W.heap.size := Nat.lt_trans hk h.lt
  rw [← h.low.block k hk, Array.getElem?_eq_getElem hl]
  exact hit.keep k _ (Array.getElem?_eq_getElem hl) (.inl (by omega))⟩, h.funs, h.fs0, hit.keep Mb _ h.box (.inr rfl), h.row.it hit⟩
def mineK (Mb : Nat) (W : World) (k : Nat) : Prop := k = Mb ∨ ¬ Cl W Mb ∨ ∃ u0 u1 u2 rv T, W.heap[Mb]? = some (.cells #[u0, u1, u2, rv] T (0, 0)) ∧ rv.ownBlock = some k
theorem mineK_it {A B : World} {k : Nat} (h : ItA base A B) (hk : mineK Mb B k) : mineK Mb A k := by
 by_cases hc : Cl A Mb
 ·obtain ⟨o, h1, h2⟩ := hc
  have h3 := h.keep Mb o h1 (.inr h2)
  rcases hk with hk | hk | ⟨u0, u1, u2, rv, T, h4, h5⟩
  ·exact .inl hk
  ·exact absurd ⟨o, h3, h2⟩ hk
  ·exact .inr (.inr ⟨u0, u1, u2, rv, T, h1.trans (h3.symm.trans h4), h5⟩)
 ·exact .inr (.inl hc)
theorem mineK_of {k : Nat} (h : MkAt W0 W Mb fB X fv fsv rv rs) (hk : mineK Mb W k) : mkF Mb rv k := by
 rcases hk with hk | hk | ⟨u0, u1, u2, rv2, T, h4, h5⟩
 ·exact .inl hk
 ·exact absurd ⟨_, h.box, rfl⟩ hk
 ·rw [h.box] at h4
  injection h4 with h6
  injection h6 with h7
  have h8 : rv = rv2 := by injection h7 with h7; simp at h7; exact h7.2.2.2
  rw [h8]
  exact .inr h5
theorem mineK_mk {k : Nat} (h : MkAt W0 W Mb fB X fv fsv rv rs) (hk : mkF Mb rv k) : mineK Mb W k := by
 rcases hk with hk | hk
 ·exact .inl hk
 ·exact .inr (.inr ⟨_, _, _, _, _, h.box, hk⟩)
theorem mineK_cells {k : Nat} (h : MkAt W0 W Mb fB X fv fsv rv rs) (hk : mineK Mb W k) : ∃ o, W.heap[k]? = some o ∧ dataO o = true := by
 rcases mineK_of h hk with rfl | hk
 ·exact ⟨_, h.box, rfl⟩
 ·obtain ⟨L, -, -, h3⟩ := h.row
  rcases h3.2 with ⟨rfl, -⟩ | ⟨g, cap, cur, rfl, -, h5, -⟩
  ·simp [Value.ownBlock] at hk
  ·simp [Value.ownBlock] at hk
   subst hk
   exact ⟨_, h5, rfl⟩
theorem rd_add (h : MkAt W0 W Mb fB X fv fsv rv rs) (h' : MkAt W0 W' Mb fB X fv fsv rv' rs') (ho : Only (mkF Mb rv) W W') (hn : ∀ k, rv'.ownBlock = some k → rv.ownBlock = some k ∨ W.heap.size ≤ k) : RdKeeps (mineK Mb) W W' :=
 ⟨ho.os, ho.tape, ho.output, ho.size, fun k hk hm => ho.block k hk (fun hf => hm (mineK_mk h hf)), fun k hk => by
  rcases mineK_of h' hk with rfl | h9
  ·exact .inl (.inl rfl)
  ·exact (hn k h9).imp (fun h => mineK_mk ‹MkAt W0 W Mb fB X fv fsv rv rs› (.inr h)) id⟩
end
theorem rulesE_le {X : Cx} {a b : List Ev9} (h : a <+: b) : (rulesE X a).length ≤ (rulesE X b).length := by
 obtain ⟨r, rfl⟩ := h
 unfold rulesE
 rw [List.flatMap_append, List.length_append]
 omega
end
end Go.Proofs.YtikbfoichhkeaaaGreat
