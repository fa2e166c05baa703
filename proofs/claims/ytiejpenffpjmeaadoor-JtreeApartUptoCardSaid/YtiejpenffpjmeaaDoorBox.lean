/- A node's five cells in a block. -/
import Derived.Test.YtiejpenffpjmeaaDoorHead
namespace Go.Proofs.YtiejpenffpjmeaaDoor
open Go.RowKit Go.Proofs

/-- A node's five cells in a block. -/
def BoxAt (w : World) (B : Nat) (t : Tr) (u : Value) : Prop :=
  w.cell? ⟨B, 0, none⟩ = some (.int .i64 t.op) ∧ w.cell? ⟨B, 1, none⟩ = some (.string (bs t.s)) ∧ w.cell? ⟨B, 2, none⟩ = some (.int .i64 t.n) ∧ w.cell? ⟨B, 3, none⟩ = some u ∧ w.cell? ⟨B, 4, none⟩ = some (.int .i64 t.line)
theorem box_in {W0 w' : World} {B : Nat} {t : Tr} {u : Value} (hb : Below W0.heap.size W0 w') (h : W0.heap[B]? = some (.cells #[.int .i64 t.op, .string (bs t.s), .int .i64 t.n, u, .int .i64 t.line] 24 (0, 0))) : BoxAt w' B t u := by
  have hx : w'.heap[B]? = some (.cells #[.int .i64 t.op, .string (bs t.s), .int .i64 t.n, u, .int .i64 t.line] 24 (0, 0)) := (hb.block B (Array.getElem?_eq_some_iff.1 h).1).trans h
  exact ⟨cell_of_row _ _ 0 _ _ _ hx, cell_of_row _ _ 1 _ _ _ hx, cell_of_row _ _ 2 _ _ _ hx, cell_of_row _ _ 3 _ _ _ hx, cell_of_row _ _ 4 _ _ _ hx⟩
end Go.Proofs.YtiejpenffpjmeaaDoor
