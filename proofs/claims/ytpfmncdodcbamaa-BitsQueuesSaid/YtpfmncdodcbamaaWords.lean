/- What a slice of int64 reads as, kept over the world's turns. No program. -/
import Derived.WalkKit
import Derived.WalkSpells
import Derived.WalkLawsBesides
import Derived.Laws.OwnMore
import Derived.Deep.AppendLies
import Derived.Deep.Draws
import Derived.Maps.AppendAt
import Derived.Lib.Hide
namespace Go.Proofs.Ytpfmncdodcbamaa
open Go.RowKit

theorem add_block (a : Addr) (n : Nat) : (a.add n).block = a.block := by unfold Addr.add; split <;> rfl
theorem add_add_ (a : Addr) (i j : Nat) : (a.add i).add j = a.add (i + j) := by
  unfold Addr.add
  by_cases hi : i = 0 <;> by_cases hj : j = 0 <;> simp [hi, hj, Nat.add_assoc]
theorem add_zero_ (a : Addr) : a.add 0 = a := by unfold Addr.add; simp

theorem ret_b {a b : Bool} (h : a = b) : Ending.returned (.bool a) = .returned (.bool b) := by rw [h]
theorem ret_i {k : IntKind} {a b : Int} (h : a = b) : Ending.returned (.int k a) = .returned (.int k b) := by rw [h]

theorem below_drewN {B : Nat} {a w : World} (h : Below B a w) (n : Nat) : Below B a (w.drewN n) := ⟨h.os, h.tape, h.output, h.size, h.block⟩
theorem below_new (w : World) (o : Obj) (v : Value) (k : Nat) : Below w.heap.size w (((w.alloc o).drewN k).setCell ⟨w.heap.size, 0, none⟩ v) :=
  (below_drewN ((Below.refl _ w).alloc (Nat.le_refl _) o) k).setCell (Nat.le_refl _) v

theorem bcell {W w1 : World} (hb : Below W.heap.size W w1) : (∀ b o, b < W.heap.size → w1.cell? ⟨b, o, none⟩ = W.cell? ⟨b, o, none⟩) ∧ (∀ b o, b < W.heap.size → w1.frozen? ⟨b, o, none⟩ = W.frozen? ⟨b, o, none⟩) :=
  ⟨fun b o h => hb.cell (p := ⟨b, o, none⟩) h, fun b o h => hb.frozen (p := ⟨b, o, none⟩) h⟩

theorem blk_set {w : World} {g : Nat} {t : TypeId} {cs : Array Value} (h : w.heap[g]? = some (.cells cs t (0, 0))) (i : Nat) (u : Value) :
    (w.setCell ⟨g, i, none⟩ u).heap[g]? = some (.cells (cs.setIfInBounds i u) t (0, 0)) := by
  simp [World.setCell, Array.getElem?_modify, h]

/-- But for draws the world is as it was. -/
def Drewn (w w' : World) : Prop := ∃ k, w' = w.drewN k
theorem Drewn.mk2 (w : World) (j k : Nat) : Drewn w ((w.drewN j).drewN k) := ⟨j + k, World.drewN_drewN _ _ _⟩
theorem Drewn.mk_ (w : World) (k : Nat) : Drewn w (w.drewN k) := ⟨k, rfl⟩

/-- An int64. -/
def I64 (z : Int) : Prop := -9223372036854775808 ≤ z ∧ z ≤ 9223372036854775807

/-- The slice value '.slice A n c' holds just the numbers zs, below block B. -/
def Ints (w : World) (B : Nat) (A : Option Addr) (n c : Nat) (zs : List Int) : Prop :=
  zs.length = n ∧ n ≤ c ∧ (n ≤ 281474976710656 ∧ c ≤ 9223372036854775807) ∧ (∀ z ∈ zs, I64 z) ∧
    (0 < n → ∃ ad, A = some ad ∧ ad.block < B ∧ ∀ (j : Nat) (z : Int), zs[j]? = some z → w.cell? (ad.add j) = some (.int .i64 z))

section
variable {w w' : World} {B B' n c : Nat} {A : Option Addr} {zs : List Int}
theorem Ints.nil_ : Ints w B A 0 0 [] := ⟨rfl, Nat.le_refl _, ⟨by omega, by omega⟩, by simp, fun h => absurd h (by omega)⟩
theorem Ints.at_ {k : Nat} (h : Ints w B A n c zs) (hk : k < n) : ∃ (ad : Addr) (z : Int), A = some ad ∧ ad.block < B ∧ zs[k]? = some z ∧ I64 z ∧ w.cell? (ad.add k) = some (.int .i64 z) := by
  obtain ⟨h1, h2, h3, h4, h5⟩ := h
  obtain ⟨ad, e, hb, hc⟩ := h5 (by omega)
  have hl : k < zs.length := by omega
  exact ⟨ad, zs[k], e, hb, List.getElem?_eq_getElem hl, h4 _ (List.getElem_mem hl), hc k _ (List.getElem?_eq_getElem hl)⟩
theorem Ints.keep (h : Ints w B A n c zs) (hk : ∀ p : Addr, p.block < B → w'.cell? p = w.cell? p) : Ints w' B A n c zs :=
  ⟨h.1, h.2.1, h.2.2.1, h.2.2.2.1, fun hn => by
    obtain ⟨ad, e, hb, hc⟩ := h.2.2.2.2 hn
    exact ⟨ad, e, hb, fun j u hu => (hk _ (by rw [add_block]; exact hb)).trans (hc j u hu)⟩⟩
theorem Ints.more (h : Ints w B A n c zs) (hB : B ≤ B') : Ints w B' A n c zs :=
  ⟨h.1, h.2.1, h.2.2.1, h.2.2.2.1, fun hn => by
    obtain ⟨ad, e, hb, hc⟩ := h.2.2.2.2 hn
    exact ⟨ad, e, by omega, hc⟩⟩
theorem Ints.below (h : Ints w B A n c zs) (hb : Below B w w') : Ints w' B A n c zs := h.keep fun _ hp => hb.cell hp
theorem Ints.drewN (h : Ints w B A n c zs) (k : Nat) : Ints (w.drewN k) B A n c zs := h
theorem Ints.alloc (h : Ints w B A n c zs) (hB : B ≤ w.heap.size) (o : Obj) : Ints (w.alloc o) B A n c zs := h.keep fun p hp => World.cell?_alloc_lt w o p (by omega)
theorem Ints.setCell (h : Ints w B A n c zs) {p : Addr} (hB : B ≤ p.block) (u : Value) : Ints (w.setCell p u) B A n c zs :=
  h.keep fun q hq => World.cell?_setCell_other w p q u (fun e => by subst e; omega)
theorem Ints.cut (h : Ints w B A n c zs) {k : Nat} (hk : k ≤ n) :
    Ints w B (if c = k then A else A.map (·.add k)) (n - k) (c - k) (zs.drop k) := by
  obtain ⟨h1, h2, h3, h4, h5⟩ := h
  refine ⟨by rw [List.length_drop, h1], by omega, ⟨by omega, by omega⟩, fun z hz => h4 z (List.mem_of_mem_drop hz), fun hn => ?_⟩
  obtain ⟨ad, rfl, hb, hcell⟩ := h5 (by omega)
  rw [if_neg (by omega)]
  refine ⟨ad.add k, rfl, by rw [add_block]; exact hb, fun j u hu => ?_⟩
  rw [add_add_]
  exact hcell _ u (by rw [← hu, List.getElem?_drop])
theorem Ints.head_ (h : Ints w B A n c zs) {k : Nat} (hk : k ≤ n) (c' : Nat) (hc1 : k ≤ c') (hc2 : c' ≤ c) : Ints w B A k c' (zs.take k) := by
  obtain ⟨h1, h2, h3, h4, h5⟩ := h
  refine ⟨by rw [List.length_take, h1]; omega, hc1, ⟨by omega, by omega⟩, fun z hz => h4 z (List.mem_of_mem_take hz), fun hn => ?_⟩
  obtain ⟨ad, rfl, hb, hcell⟩ := h5 (by omega)
  refine ⟨ad, rfl, hb, fun j u hu => hcell j u ?_⟩
  by_cases hj : j < k
  · rwa [List.getElem?_take_of_lt hj] at hu
  · rw [List.getElem?_eq_none (by rw [List.length_take]; omega)] at hu; cases hu
end

/-- The slice value '.slice A n c' holds n slices, that hold the lists zss, all below block B. -/
def Mat (w : World) (B : Nat) (A : Option Addr) (n c : Nat) (zss : List (List Int)) : Prop :=
  zss.length = n ∧ n ≤ c ∧ (n ≤ 281474976710656 ∧ c ≤ 9223372036854775807) ∧
    (0 < n → ∃ ad, A = some ad ∧ ad.block < B ∧ ∀ (j : Nat) (zs : List Int), zss[j]? = some zs → ∃ A' n' c', w.cell? (ad.add j) = some (.slice A' n' c') ∧ Ints w B A' n' c' zs)

section
variable {w w' : World} {B B' n c : Nat} {A : Option Addr} {zss : List (List Int)}
theorem Mat.nil_ : Mat w B A 0 0 [] := ⟨rfl, Nat.le_refl _, ⟨by omega, by omega⟩, fun h => absurd h (by omega)⟩
theorem Mat.at_ {k : Nat} (h : Mat w B A n c zss) (hk : k < n) : ∃ (ad : Addr) (zs : List Int) (A' : Option Addr) (n' c' : Nat), A = some ad ∧ ad.block < B ∧ zss[k]? = some zs ∧ w.cell? (ad.add k) = some (.slice A' n' c') ∧ Ints w B A' n' c' zs := by
  obtain ⟨h1, h2, h3, h5⟩ := h
  obtain ⟨ad, e, hb, hc⟩ := h5 (by omega)
  have hl : k < zss.length := by omega
  obtain ⟨A', n', c', h6, h7⟩ := hc k _ (List.getElem?_eq_getElem hl)
  exact ⟨ad, zss[k], A', n', c', e, hb, List.getElem?_eq_getElem hl, h6, h7⟩
theorem Mat.keep (h : Mat w B A n c zss) (hk : ∀ p : Addr, p.block < B → w'.cell? p = w.cell? p) : Mat w' B A n c zss :=
  ⟨h.1, h.2.1, h.2.2.1, fun hn => by
    obtain ⟨ad, e, hb, hc⟩ := h.2.2.2 hn
    refine ⟨ad, e, hb, fun j u hu => ?_⟩
    obtain ⟨A', n', c', h6, h7⟩ := hc j u hu
    exact ⟨A', n', c', (hk _ (by rw [add_block]; exact hb)).trans h6, h7.keep hk⟩⟩
theorem Mat.more (h : Mat w B A n c zss) (hB : B ≤ B') : Mat w B' A n c zss :=
  ⟨h.1, h.2.1, h.2.2.1, fun hn => by
    obtain ⟨ad, e, hb, hc⟩ := h.2.2.2 hn
    refine ⟨ad, e, by omega, fun j u hu => ?_⟩
    obtain ⟨A', n', c', h6, h7⟩ := hc j u hu
    exact ⟨A', n', c', h6, h7.more hB⟩⟩
theorem Mat.below (h : Mat w B A n c zss) (hb : Below B w w') : Mat w' B A n c zss := h.keep fun _ hp => hb.cell hp
theorem Mat.drewN (h : Mat w B A n c zss) (k : Nat) : Mat (w.drewN k) B A n c zss := h
theorem Mat.cut (h : Mat w B A n c zss) {k : Nat} (hk : k ≤ n) :
    Mat w B (if c = k then A else A.map (·.add k)) (n - k) (c - k) (zss.drop k) := by
  obtain ⟨h1, h2, h3, h5⟩ := h
  refine ⟨by rw [List.length_drop, h1], by omega, ⟨by omega, by omega⟩, fun hn => ?_⟩
  obtain ⟨ad, rfl, hb, hcell⟩ := h5 (by omega)
  rw [if_neg (by omega)]
  refine ⟨ad.add k, rfl, by rw [add_block]; exact hb, fun j u hu => ?_⟩
  rw [add_add_]
  exact hcell _ u (by rw [← hu, List.getElem?_drop])
theorem Mat.head_ (h : Mat w B A n c zss) {k : Nat} (hk : k ≤ n) (c' : Nat) (hc1 : k ≤ c') (hc2 : c' ≤ c) : Mat w B A k c' (zss.take k) := by
  obtain ⟨h1, h2, h3, h5⟩ := h
  refine ⟨by rw [List.length_take, h1]; omega, hc1, ⟨by omega, by omega⟩, fun hn => ?_⟩
  obtain ⟨ad, rfl, hb, hcell⟩ := h5 (by omega)
  refine ⟨ad, rfl, hb, fun j u hu => hcell j u ?_⟩
  by_cases hj : j < k
  · rwa [List.getElem?_take_of_lt hj] at hu
  · rw [List.getElem?_eq_none (by rw [List.length_take]; omega)] at hu; cases hu
end

/-- Is a list of numbers a set, all of them at least m? -/
def setFrom : Int → List Int → Bool
  | _, [] => true
  | m, z :: r => decide (m ≤ z ∧ z ≤ 1073741824) && setFrom (z + 1) r
def isSet (zs : List Int) : Bool := setFrom 0 zs
theorem setFrom_cons_no {m z : Int} {r : List Int} (h : z < m ∨ 1073741824 < z) : setFrom m (z :: r) = false := by
  simp only [setFrom, Bool.and_eq_false_imp, decide_eq_true_eq]; intro h'; omega
theorem setFrom_cons_yes {m z : Int} {r : List Int} (h : ¬ z < m) (h' : ¬ 1073741824 < z) : setFrom m (z :: r) = setFrom (z + 1) r := by
  have : decide (m ≤ z ∧ z ≤ 1073741824) = true := by simp; omega
  simp only [setFrom, this, Bool.true_and]
theorem drop_at {α : Type} {l : List α} {k : Nat} {x : α} (h : l[k]? = some x) : l.drop k = x :: l.drop (k + 1) := by
  obtain ⟨hl, rfl⟩ := List.getElem?_eq_some_iff.1 h
  exact List.drop_eq_getElem_cons hl
/-- What two lists have, gone through side by side. -/
abbrev Fnd := Int × Bool × Bool
def mrg : List Int → List Int → List Fnd
  | [], [] => []
  | a :: as, [] => (a, true, false) :: mrg as []
  | [], b :: bs => (b, false, true) :: mrg [] bs
  | a :: as, b :: bs => if a < b then (a, true, false) :: mrg as (b :: bs) else if b < a then (b, false, true) :: mrg (a :: as) bs else (a, true, true) :: mrg as bs
termination_by l m => l.length + m.length
def fndV (f : Fnd) : Value := .agg #[.int .i64 f.1, .bool f.2.1, .bool f.2.2]
end Go.Proofs.Ytpfmncdodcbamaa
