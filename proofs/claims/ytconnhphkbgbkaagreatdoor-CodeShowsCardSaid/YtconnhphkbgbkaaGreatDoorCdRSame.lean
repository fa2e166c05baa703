/- gumshoeref09.Same: the document's own answer. -/
import Derived.Test.YtconnhphkbgbkaaGreatDoorCdSame
import Derived.Test.YtconnhphkbgbkaaGreatDoorCdDem
import Derived.StillTailTactics
import Derived.Deep.RegionHeld3
namespace Go.Proofs.YtconnhphkbgbkaaGreatDoor
open Go.RowKit Go.Proofs

theorem cells8_of {W : World} {B : Nat} {x : Ins} {u : Value} {T : TypeId} (h : W.heap[B]? = some (.cells #[.int .i64 x.op, .int .i64 x.d, .int .i64 x.a, .int .i64 x.b, .int .i64 x.c, .string x.s, .int .i64 x.n, u] T (0, 0))) : Cells8 W B x u :=
  ⟨cell_of_row W B 0 _ _ _ h, cell_of_row W B 1 _ _ _ h, cell_of_row W B 2 _ _ _ h, cell_of_row W B 3 _ _ _ h, cell_of_row W B 4 _ _ _ h, cell_of_row W B 5 _ _ _ h, cell_of_row W B 6 _ _ _ h, cell_of_row W B 7 _ _ _ h, fun j => frozen_of_row W B j _ _ h⟩
end Go.Proofs.YtconnhphkbgbkaaGreatDoor
