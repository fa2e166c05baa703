/- What code.table asks: registers, numbers, keys, signs, values, arguments: one function each. -/
import Derived.Test.YtconnhphkbgbkaaGreatDoorCdSigns
namespace Go.Proofs.YtconnhphkbgbkaaGreatDoor
open Go.RowKit Go.Proofs

/-- Amid fits: a box of its own, at B, has the instruction x; what was there ahead of it is as it was. -/
structure MidF (w0 wX W : World) (B : Nat) (x : Ins) (u : Value) : Prop where
  blk : W.heap[B]? = some (.cells (insV x u).toArray 33 (0, 0))
  ints : Ints9 w0 u x.l
  fine : x.Fine
  le : w0.heap.size ≤ B
  bel : Below w0.heap.size w0 W
  only : Only (fun i => i = B) wX W
theorem MidF.lt {w0 wX W : World} {B : Nat} {x : Ins} {u : Value} (h : MidF w0 wX W B x u) : B < W.heap.size := heap_lt h.blk
theorem MidF.on {w0 wX W W' : World} {B : Nat} {x : Ins} {u : Value} (h : MidF w0 wX W B x u) (hb : Below W.heap.size W W') : MidF w0 wX W' B x u :=
  ⟨(hb.block B h.lt).trans h.blk, h.ints, h.fine, h.le, h.bel.trans (hb.mono h.bel.size), h.only.trans' (Only.of_below hb)⟩
theorem MidF.size {w0 wX W : World} {B : Nat} {x : Ins} {u : Value} (h : MidF w0 wX W B x u) : w0.heap.size < W.heap.size := Nat.lt_of_le_of_lt h.le h.lt
/-- The box's cells. -/
structure Cells8 (W : World) (B : Nat) (x : Ins) (u : Value) : Prop where
  c0 : W.cell? ⟨B, 0, none⟩ = some (.int .i64 x.op)
  c1 : W.cell? ⟨B, 1, none⟩ = some (.int .i64 x.d)
  c2 : W.cell? ⟨B, 2, none⟩ = some (.int .i64 x.a)
  c3 : W.cell? ⟨B, 3, none⟩ = some (.int .i64 x.b)
  c4 : W.cell? ⟨B, 4, none⟩ = some (.int .i64 x.c)
  c5 : W.cell? ⟨B, 5, none⟩ = some (.string x.s)
  c6 : W.cell? ⟨B, 6, none⟩ = some (.int .i64 x.n)
  c7 : W.cell? ⟨B, 7, none⟩ = some u
  f : ∀ j, W.frozen? ⟨B, j, none⟩ = false
theorem MidF.cells {w0 wX W : World} {B : Nat} {x : Ins} {u : Value} (h : MidF w0 wX W B x u) : Cells8 W B x u :=
  ⟨cell_of_row W B 0 _ _ _ h.blk, cell_of_row W B 1 _ _ _ h.blk, cell_of_row W B 2 _ _ _ h.blk, cell_of_row W B 3 _ _ _ h.blk, cell_of_row W B 4 _ _ _ h.blk, cell_of_row W B 5 _ _ _ h.blk, cell_of_row W B 6 _ _ _ h.blk, cell_of_row W B 7 _ _ _ h.blk, fun j => frozen_of_row W B j _ _ h.blk⟩
theorem MidF.set {w0 wX W : World} {B : Nat} {x : Ins} {u : Value} (h : MidF w0 wX W B x u) (k : Nat) (v : Value) (y : Ins) (u' : Value) (e : (insV x u).toArray.setIfInBounds k v = (insV y u').toArray) (hi : Ints9 w0 u' y.l) (hf : y.Fine) : MidF w0 wX (W.setCell ⟨B, k, none⟩ v) B y u' :=
  ⟨by rw [← e]; exact blk_set h.blk k v, hi, hf, h.le, h.bel.setCell h.le _, h.only.trans' (Only.setCell (F := fun i => i = B) W (b := B) rfl k v)⟩
def roomV (R : Room) : Value := .agg #[.int .i64 R.regs, .int .i64 R.places, .int .i64 R.procs]
theorem i64_0 : I64 0 := by unfold I64; omega
theorem fine_nil : nilB.size ≤ maxLen := by unfold maxLen; decide

/-- Which field a function of the table gives. -/
def fldFn : Nat → Option Fld
  | 36 => some .d
  | 37 => some .a
  | 38 => some .b
  | 39 => some .c
  | 40 => some .a
  | 41 => some .b
  | _ => none
def kndFn : Nat → Option Knd
  | 43 => some .mark
  | 44 => some .place
  | 45 => some .fun_
  | 46 => some .var_
  | _ => none
/-- The function value asks this. -/
def DemAt (w : World) (v : Value) : Dm → Prop
  | .reg least f => ∃ bf bl i, v = .func (.func 63) #[] #[.pointer (some ⟨bf, 0, none⟩), .pointer (some ⟨bl, 0, none⟩)] ∧ fldFn i = some f ∧ w.cell? ⟨bf, 0, none⟩ = some (.func (.func i) #[] #[]) ∧ w.cell? ⟨bl, 0, none⟩ = some (.int .i64 least)
  | .num k => ∃ bf i, v = .func (.func 64) #[] #[.pointer (some ⟨bf, 0, none⟩)] ∧ kndFn i = some k ∧ w.cell? ⟨bf, 0, none⟩ = some (.func (.func i) #[] #[])
  | .key => v = .func (.func 48) #[] #[]
  | .sign => v = .func (.func 50) #[] #[]
  | .val => v = .func (.func 47) #[] #[]
  | .args => v = .func (.func 49) #[] #[]
theorem DemAt.below {w w' : World} {v : Value} {m : Dm} (h : DemAt w v m) (hb : Below w.heap.size w w') : DemAt w' v m := by
  cases m with
  | reg l f =>
    obtain ⟨bf, bl, i, h1, h2, h3, h4⟩ := h
    exact ⟨bf, bl, i, h1, h2, (hb.cell (p := ⟨bf, 0, none⟩) (World.block_lt_of_cell? _ _ h3)).trans h3, (hb.cell (p := ⟨bl, 0, none⟩) (World.block_lt_of_cell? _ _ h4)).trans h4⟩
  | num k =>
    obtain ⟨bf, i, h1, h2, h3⟩ := h
    exact ⟨bf, i, h1, h2, (hb.cell (p := ⟨bf, 0, none⟩) (World.block_lt_of_cell? _ _ h3)).trans h3⟩
  | _ => exact h
theorem fld1 (B : Nat) (w : World) : Calls Tryz.prog 36 #[.pointer (some ⟨B, 0, none⟩)] w fun e w' => e = .returned (.pointer (some ⟨B, 1, none⟩)) ∧ w = w' := by
  go_enter Tryz.func36, Tryz.ntmps36
  go_wp2
  go_ret
  exact ⟨rfl, rfl⟩
theorem fld2 (B : Nat) (w : World) : Calls Tryz.prog 37 #[.pointer (some ⟨B, 0, none⟩)] w fun e w' => e = .returned (.pointer (some ⟨B, 2, none⟩)) ∧ w = w' := by
  go_enter Tryz.func37, Tryz.ntmps37
  go_wp2
  go_ret
  exact ⟨rfl, rfl⟩
theorem fld3 (B : Nat) (w : World) : Calls Tryz.prog 38 #[.pointer (some ⟨B, 0, none⟩)] w fun e w' => e = .returned (.pointer (some ⟨B, 3, none⟩)) ∧ w = w' := by
  go_enter Tryz.func38, Tryz.ntmps38
  go_wp2
  go_ret
  exact ⟨rfl, rfl⟩
theorem fld4 (B : Nat) (w : World) : Calls Tryz.prog 39 #[.pointer (some ⟨B, 0, none⟩)] w fun e w' => e = .returned (.pointer (some ⟨B, 4, none⟩)) ∧ w = w' := by
  go_enter Tryz.func39, Tryz.ntmps39
  go_wp2
  go_ret
  exact ⟨rfl, rfl⟩
theorem fld5 (B : Nat) (w : World) : Calls Tryz.prog 40 #[.pointer (some ⟨B, 0, none⟩)] w fun e w' => e = .returned (.pointer (some ⟨B, 2, none⟩)) ∧ w = w' := by
  go_enter Tryz.func40, Tryz.ntmps40
  go_wp2
  go_ret
  exact ⟨rfl, rfl⟩
theorem fld6 (B : Nat) (w : World) : Calls Tryz.prog 41 #[.pointer (some ⟨B, 0, none⟩)] w fun e w' => e = .returned (.pointer (some ⟨B, 3, none⟩)) ∧ w = w' := by
  go_enter Tryz.func41, Tryz.ntmps41
  go_wp2
  go_ret
  exact ⟨rfl, rfl⟩
set_option maxHeartbeats 2000000 in
theorem knd7 (n : Int) (R : Room) (w : World) (hn : I64 n) : Calls Tryz.prog 43 #[.int .i64 n, roomV R] w fun e w' => e = .returned (.bool (Knd.ok .mark n R)) ∧ Below w.heap.size w w' := by
  have HB := Lib.hid (fun o => below_box w o)
  unfold I64 at hn
  obtain ⟨h1, h2⟩ := hn
  unfold roomV
  simp only [Knd.ok]
  generalize R.regs = r
  generalize R.places = p
  generalize R.procs = q
  by_cases a2 : 4 ≤ n
  · by_cases a1 : n ≤ 1000000
    · go_enter Tryz.func43, Tryz.ntmps43
      go_wp2
      go_ret
      exact ⟨ret_b (by simp; omega), HB.out _⟩
    · go_enter Tryz.func43, Tryz.ntmps43
      go_wp2
      go_ret
      exact ⟨ret_b (by simp; omega), HB.out _⟩
  · go_enter Tryz.func43, Tryz.ntmps43
    go_wp2
    go_ret
    exact ⟨ret_b (by simp; omega), HB.out _⟩
set_option maxHeartbeats 2000000 in
theorem knd8 (n : Int) (R : Room) (w : World) (hn : I64 n) : Calls Tryz.prog 44 #[.int .i64 n, roomV R] w fun e w' => e = .returned (.bool (Knd.ok .place n R)) ∧ Below w.heap.size w w' := by
  have HB := Lib.hid (fun o => below_box w o)
  unfold I64 at hn
  obtain ⟨h1, h2⟩ := hn
  unfold roomV
  simp only [Knd.ok]
  generalize R.regs = r
  generalize R.places = p
  generalize R.procs = q
  by_cases a2 : 0 ≤ n
  · by_cases a1 : n < p
    · go_enter Tryz.func44, Tryz.ntmps44
      go_wp2
      go_ret
      exact ⟨ret_b (by simp; omega), HB.out _⟩
    · go_enter Tryz.func44, Tryz.ntmps44
      go_wp2
      go_ret
      exact ⟨ret_b (by simp; omega), HB.out _⟩
  · go_enter Tryz.func44, Tryz.ntmps44
    go_wp2
    go_ret
    exact ⟨ret_b (by simp; omega), HB.out _⟩
set_option maxHeartbeats 2000000 in
theorem knd9 (n : Int) (R : Room) (w : World) (hn : I64 n) : Calls Tryz.prog 45 #[.int .i64 n, roomV R] w fun e w' => e = .returned (.bool (Knd.ok .fun_ n R)) ∧ Below w.heap.size w w' := by
  have HB := Lib.hid (fun o => below_box w o)
  unfold I64 at hn
  obtain ⟨h1, h2⟩ := hn
  unfold roomV
  simp only [Knd.ok]
  generalize R.regs = r
  generalize R.places = p
  generalize R.procs = q
  by_cases a2 : 0 < n
  · by_cases a1 : n < q
    · go_enter Tryz.func45, Tryz.ntmps45
      go_wp2
      go_ret
      exact ⟨ret_b (by simp; omega), HB.out _⟩
    · go_enter Tryz.func45, Tryz.ntmps45
      go_wp2
      go_ret
      exact ⟨ret_b (by simp; omega), HB.out _⟩
  · go_enter Tryz.func45, Tryz.ntmps45
    go_wp2
    go_ret
    exact ⟨ret_b (by simp; omega), HB.out _⟩
set_option maxHeartbeats 2000000 in
theorem knd10 (n : Int) (R : Room) (w : World) (hn : I64 n) : Calls Tryz.prog 46 #[.int .i64 n, roomV R] w fun e w' => e = .returned (.bool (Knd.ok .var_ n R)) ∧ Below w.heap.size w w' := by
  have HB := Lib.hid (fun o => below_box w o)
  unfold I64 at hn
  obtain ⟨h1, h2⟩ := hn
  unfold roomV
  simp only [Knd.ok]
  generalize R.regs = r
  generalize R.places = p
  generalize R.procs = q
  by_cases a3 : 0 ≤ n
  · by_cases a2 : n / 1000 < q
    · by_cases a1 : n % 1000 < 200
      · go_enter Tryz.func46, Tryz.ntmps46
        go_wp2
        go_ret
        exact ⟨ret_b (by simp; omega), HB.out _⟩
      · go_enter Tryz.func46, Tryz.ntmps46
        go_wp2
        go_ret
        exact ⟨ret_b (by simp; omega), HB.out _⟩
    · go_enter Tryz.func46, Tryz.ntmps46
      go_wp2
      go_ret
      exact ⟨ret_b (by simp; omega), HB.out _⟩
  · go_enter Tryz.func46, Tryz.ntmps46
    go_wp2
    go_ret
    exact ⟨ret_b (by simp; omega), HB.out _⟩
end Go.Proofs.YtconnhphkbgbkaaGreatDoor
