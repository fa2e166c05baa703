/- bits.chosen with each of its three tests. -/
import Derived.Test.YtpfmncdodcbamaaMerged
import Derived.Maps.AppendAt
namespace Go.Proofs.Ytpfmncdodcbamaa
open Go.RowKit Go.Proofs Go.Shelf

attribute [local go_sem] Oper.semAt_some

theorem KpM.grown {n₀ Bo : Nat} {A B : World} {row : Option Nat} (hn : n₀ ≤ A.heap.size) (hg : A.grownBy B row) (hr : ∀ r, row = some r → n₀ ≤ r ∧ ∃ cs, A.heap[r]? = some (.cells cs 3 (0, 0))) : KpM n₀ Bo A B :=
  ⟨(Below.refl n₀ A).grown hg hn (fun k e => (hr k e).1), fun k cs t _ ht hk => (hg.block k (Array.getElem?_eq_some_iff.1 hk).1 (fun e => by
    obtain ⟨_, cs', h'⟩ := hr k e.symm
    rw [hk] at h'
    injection h' with h'
    injection h' with _ h'
    exact ht h')).trans hk⟩
theorem KpM.setBox {n₀ Bo : Nat} (A : World) (hn : n₀ ≤ Bo) (u : Value) : KpM n₀ Bo A (A.setCell ⟨Bo, 0, none⟩ u) :=
  ⟨(Below.refl n₀ A).setCell (p := ⟨Bo, 0, none⟩) hn u, fun k _ _ h1 _ hk => (Below.heap_setCell A ⟨Bo, 0, none⟩ u k h1).trans hk⟩
theorem KpM.alloc {n₀ Bo : Nat} (A : World) (hn : n₀ ≤ A.heap.size) (o : Obj) : KpM n₀ Bo A (A.alloc o) :=
  KpM.below ((Below.refl _ A).alloc (Nat.le_refl _) o) hn
theorem ownRow_type {W : World} {base : Nat} {size : Nat} {v : Value} {k : Nat} {xs : List Value} (h : W.ownsRow base 3 size v k xs) : ∀ r, v.ownBlock = some r → base ≤ r ∧ ∃ cs, W.heap[r]? = some (.cells cs 3 (0, 0)) := by
  intro r e
  rcases h.2 with ⟨rfl, _⟩ | ⟨g, cap, cur, rfl, hb, hg, _⟩
  · simp [Value.ownBlock] at e
  · obtain rfl : g = r := by simpa [Value.ownBlock] using e
    exact ⟨hb, cur, hg⟩
theorem keepsOthers_of_below {A B : World} (h : Below A.heap.size A B) : KeepsOthers A B := KeepsOthers.of_grownBy (grownBy_of_below h none) (fun _ _ e => by cases e)

theorem info3 : (Try.prog.info? 3).map (fun i => (i.zero, i.size, i.bytes)) = some (some (.int .i64 0), 1, 8) := by kernel_rfl

/-- What a test lets through. -/
def sel (p : Bool → Bool → Bool) (l : List Fnd) : List Int := (l.filter fun f => p f.2.1 f.2.2).map (·.1)
theorem sel_hit (p : Bool → Bool → Bool) (l : List Fnd) (f : Fnd) (h : p f.2.1 f.2.2 = true) : sel p (l ++ [f]) = sel p l ++ [f.1] := by simp [sel, h]
theorem sel_miss (p : Bool → Bool → Bool) (l : List Fnd) (f : Fnd) (h : p f.2.1 f.2.2 = false) : sel p (l ++ [f]) = sel p l := by simp [sel, h]
theorem sel_len (p : Bool → Bool → Bool) (l : List Fnd) : (sel p l).length ≤ l.length := by unfold sel; rw [List.length_map]; exact List.length_filter_le _ _

def pMinus (x y : Bool) : Bool := x && !y
def pMeet (x y : Bool) : Bool := x && y
def pAll (_ _ : Bool) : Bool := true

set_option maxHeartbeats 400000 in
theorem test34 (z : Int) (x y : Bool) (w : World) :
    Calls Try.prog 34 #[.agg #[.int .i64 z, .bool x, .bool y]] w fun e w' => e = .returned (.bool (pMinus x y)) ∧ Below w.heap.size w w' := by
  cases x <;> cases y
  all_goals
    go_enter Try.func34, Try.ntmps34
    go_wp2
    go_ret
    exact ⟨rfl, (Below.refl _ w).alloc (Nat.le_refl _) _⟩

set_option maxHeartbeats 400000 in
theorem test35 (z : Int) (x y : Bool) (w : World) :
    Calls Try.prog 35 #[.agg #[.int .i64 z, .bool x, .bool y]] w fun e w' => e = .returned (.bool (pMeet x y)) ∧ Below w.heap.size w w' := by
  cases x <;> cases y
  all_goals
    go_enter Try.func35, Try.ntmps35
    go_wp2
    go_ret
    exact ⟨rfl, (Below.refl _ w).alloc (Nat.le_refl _) _⟩

set_option maxHeartbeats 400000 in
theorem test40 (z : Int) (x y : Bool) (w : World) :
    Calls Try.prog 40 #[.agg #[.int .i64 z, .bool x, .bool y]] w fun e w' => e = .returned (.bool (pAll x y)) ∧ Below w.heap.size w w' := by
  cases x <;> cases y
  all_goals
    go_enter Try.func40, Try.ntmps40
    go_wp2
    go_ret
    exact ⟨rfl, (Below.refl _ w).alloc (Nat.le_refl _) _⟩
end Go.Proofs.Ytpfmncdodcbamaa
