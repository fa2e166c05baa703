/- A row that is made; appends of rows of numbers in a region that draws its order. -/
import Derived.Test.YtconnhphkbgbkaaDoorCdMarks
import Derived.Lib.SmallJoins
namespace Go.Proofs.YtconnhphkbgbkaaDoor
set_option linter.unusedSimpArgs false
open Go.RowKit Go.Proofs

theorem wl_make9 {P : Program} {ops : Array Oper} {rest : List Oper} {o : Oper} {a : Act} {w : World} {Q : Exit → Act → World → Prop} (hg : o.guard = none) (l c : Operand) (t : TypeId) (hop : o.op = Op.makeSlice t l c) (u v : Value) (hl : a.eval l = u) (hc : a.eval c = v)
    (x : Value) (w' : World) (hrun : (Instr.makeSlice t u v).run P w = .ok x w') (hK : wpList P ops Q rest (a.put o.dst x) w') : wpList P ops Q (o :: rest) a w := by
  refine wpList_plain hg fun K hK' => ?_
  unfold Oper.wp
  simp [execOp, hop, hl, hc, hrun, Result.andThen]
  exact hK' _ _ hK
def room9 (z : Value) (size n : Nat) : Array Value := madeCells z.cells (n * size)
theorem size_room9 (z : Value) (size n : Nat) : (room9 z size n).size = n * size := size_madeCells _ _
theorem run_room9 {P : Program} {t e : TypeId} {z : Value} {size bytes : Nat} (ht : P.underlying t = some (.slice e)) (hi : (P.info? e).map (fun i => (i.zero, i.size, i.bytes)) = some (some z, size, bytes)) (hby : bytes ≤ 100) (n : Nat) (hn : n ≤ 1000000) (C : Int) (hC : C = n) (W : World) :
    (Instr.makeSlice t (.int .i64 0) (.int .i64 C)).run P W = .ok (.slice (some ⟨W.heap.size, 0, none⟩) 0 n) (W.alloc (.cells (room9 z size n) e)) := by
  obtain ⟨i0, h0, h2, h3, h4⟩ := info_parts hi
  have h5 : bytes * n ≤ 100 * 1000000 := Nat.mul_le_mul hby hn
  subst hC
  have h := run_make (P := P) W t e i0 z ht h0 h2 .i64 .i64 0 (n : Int) (by omega) (by omega) (by rw [h4]; omega) (by omega)
  rw [h, h3]
  simp [room9]
def zI9 : Value := .agg #[.int .i64 0, .int .i64 0, .int .i64 0, .int .i64 0, .int .i64 0, .string ⟨#[]⟩, .int .i64 0, .slice none 0 0]
def zP9 : Value := .agg #[.int .i64 0, .slice none 0 0]
theorem infoI9 : (Tryd.prog.info? 37).map (fun i => (i.zero, i.size, i.bytes)) = some (some zI9, 8, 88) := by kernel_rfl
theorem infoP9 : (Tryd.prog.info? 35).map (fun i => (i.zero, i.size, i.bytes)) = some (some zP9, 2, 32) := by kernel_rfl
theorem room_ins (n : Nat) (hn : n ≤ 1000000) (C : Int) (hC : C = n) (W : World) : (Instr.makeSlice 33 (.int .i64 0) (.int .i64 C)).run Tryd.prog W = .ok (.slice (some ⟨W.heap.size, 0, none⟩) 0 n) (W.alloc (.cells (room9 zI9 8 n) 37)) :=
  run_room9 Tryd.underlying33 infoI9 (by decide) n hn C hC W
theorem room_procs (n : Nat) (hn : n ≤ 1000000) (C : Int) (hC : C = n) (W : World) : (Instr.makeSlice 22 (.int .i64 0) (.int .i64 C)).run Tryd.prog W = .ok (.slice (some ⟨W.heap.size, 0, none⟩) 0 n) (W.alloc (.cells (room9 zP9 2 n) 35)) :=
  run_room9 Tryd.underlying22 infoP9 (by decide) n hn C hC W
theorem room_ints (n : Nat) (hn : n ≤ 1000000) (C : Int) (hC : C = n) (W : World) : (Instr.makeSlice 30 (.int .i64 0) (.int .i64 C)).run Tryd.prog W = .ok (.slice (some ⟨W.heap.size, 0, none⟩) 0 n) (W.alloc (.cells (room9 (.int .i64 0) 1 n) 3)) :=
  run_room9 Tryd.underlying30 info3 (by decide) n hn C hC W
end Go.Proofs.YtconnhphkbgbkaaDoor
