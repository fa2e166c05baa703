/- What code.table asks: the functions that stand in it, over an instruction in a box. -/
import Derived.Test.YtconnhphkbgbkaaGreatDoorCdDem
namespace Go.Proofs.YtconnhphkbgbkaaGreatDoor
open Go.RowKit Go.Proofs

/-- What a function of the table does, amid fits. -/
def DemOK (m : Dm) (g : Nat) (caps : Array Value) : Prop := ∀ (w0 wX w : World) (B : Nat) (x : Ins) (u : Value) (R : Room), MidF w0 wX w B x u → DemAt w0 (.func (.func g) #[] caps) m →
  Calls Tryz.prog g (#[.pointer (some ⟨B, 0, none⟩), roomV R] ++ caps) w fun e w' => e = .returned (.bool (m.ok x R)) ∧ ∃ u', MidF w0 wX w' B (m.next x) u'
/-- Cells of old blocks, with the room's box, and behind a store into the instruction's box. -/
theorem MidF.old {w0 wX w : World} {B : Nat} {x : Ins} {u : Value} (h : MidF w0 wX w B x u) {b : Nat} {v : Value} (hc : w0.cell? ⟨b, 0, none⟩ = some v) :
    (∀ o, (w.alloc o).cell? ⟨b, 0, none⟩ = some v) ∧ ∀ k z o, ((w.setCell ⟨B, k, none⟩ z).alloc o).cell? ⟨b, 0, none⟩ = some v := by
  have hl := World.block_lt_of_cell? _ _ hc
  refine ⟨fun o => ((h.bel.alloc h.bel.size o).cell (p := ⟨b, 0, none⟩) hl).trans hc, fun k z o => ?_⟩
  have hb : Below w0.heap.size w0 ((w.setCell ⟨B, k, none⟩ z).alloc o) := (h.bel.setCell h.le _).alloc (by simp; exact h.bel.size) o
  exact (hb.cell (p := ⟨b, 0, none⟩) hl).trans hc

set_option maxRecDepth 100000 in
set_option maxHeartbeats 4000000 in
theorem dreg1 (least : Int) (bf bl : Nat) (w0 wX w : World) (B : Nat) (x : Ins) (u : Value) (R : Room) (h : MidF w0 wX w B x u) (hf : w0.cell? ⟨bf, 0, none⟩ = some (.func (.func 36) #[] #[])) (hl : w0.cell? ⟨bl, 0, none⟩ = some (.int .i64 least)) :
    Calls Tryz.prog 63 #[.pointer (some ⟨B, 0, none⟩), roomV R, .pointer (some ⟨bf, 0, none⟩), .pointer (some ⟨bl, 0, none⟩)] w fun e w' => e = .returned (.bool ((Dm.reg least .d).ok x R)) ∧ ∃ u', MidF w0 wX w' B ((Dm.reg least .d).next x) u' := by
  have HM := Lib.hid (MidF.set (h.on (below_box w (.cells #[.int .i64 R.regs, .int .i64 R.places, .int .i64 R.procs] 63))) 1 (.int .i64 0) (Fld.zero .d x) u rfl h.ints ⟨⟨h.fine.1.1, i64_0, h.fine.1.2.2.1, h.fine.1.2.2.2.1, h.fine.1.2.2.2.2.1, h.fine.1.2.2.2.2.2⟩, h.fine.2⟩)
  have HN := Lib.hid (And.intro h.lt h.size)
  obtain ⟨f1, f2⟩ := h.old hf
  obtain ⟨l1, l2⟩ := h.old hl
  have hc := fun o => (h.on (below_box w o)).cells.c1
  have hfr := fun o => (h.on (below_box w o)).cells.f 1
  have nB : ¬ B = w.heap.size := by have := HN.out.1; omega
  clear h hf hl
  unfold roomV
  simp only [Dm.ok, Fld.get, Dm.next]
  generalize R.regs = r at HM ⊢
  have hcase : (least ≤ x.d ∧ x.d < r ∧ Hid (decide (least ≤ x.d ∧ x.d < r) = true)) ∨ (least ≤ x.d ∧ ¬ x.d < r ∧ Hid (decide (least ≤ x.d ∧ x.d < r) = false)) ∨ (¬ least ≤ x.d ∧ True ∧ Hid (decide (least ≤ x.d ∧ x.d < r) = false)) := by
    by_cases a1 : least ≤ x.d
    · by_cases a2 : x.d < r
      · exact .inl ⟨a1, a2, Lib.hid (decide_eq_true ⟨a1, a2⟩)⟩
      · exact .inr (.inl ⟨a1, a2, Lib.hid (decide_eq_false fun h => a2 h.2)⟩)
    · exact .inr (.inr ⟨a1, trivial, Lib.hid (decide_eq_false fun h => a1 h.1)⟩)
  rcases hcase with ⟨a1, a2, HR⟩ | ⟨a1, a2, HR⟩ | ⟨a1, a2, HR⟩
  all_goals
    go_enter Tryz.func63, Tryz.ntmps63
    go_wp2_with (go_at_call 36; refine (fld1 B _).mono ?_; rintro e w1 ⟨rfl, rfl⟩)
    go_ret
    exact ⟨ret_b (by first | exact HR.out.symm | exact (decide_eq_false (Int.not_lt.2 a2)).trans HR.out.symm), u, HM.out⟩

set_option maxRecDepth 100000 in
set_option maxHeartbeats 4000000 in
theorem dreg2 (least : Int) (bf bl : Nat) (w0 wX w : World) (B : Nat) (x : Ins) (u : Value) (R : Room) (h : MidF w0 wX w B x u) (hf : w0.cell? ⟨bf, 0, none⟩ = some (.func (.func 37) #[] #[])) (hl : w0.cell? ⟨bl, 0, none⟩ = some (.int .i64 least)) :
    Calls Tryz.prog 63 #[.pointer (some ⟨B, 0, none⟩), roomV R, .pointer (some ⟨bf, 0, none⟩), .pointer (some ⟨bl, 0, none⟩)] w fun e w' => e = .returned (.bool ((Dm.reg least .a).ok x R)) ∧ ∃ u', MidF w0 wX w' B ((Dm.reg least .a).next x) u' := by
  have HM := Lib.hid (MidF.set (h.on (below_box w (.cells #[.int .i64 R.regs, .int .i64 R.places, .int .i64 R.procs] 63))) 2 (.int .i64 0) (Fld.zero .a x) u rfl h.ints ⟨⟨h.fine.1.1, h.fine.1.2.1, i64_0, h.fine.1.2.2.2.1, h.fine.1.2.2.2.2.1, h.fine.1.2.2.2.2.2⟩, h.fine.2⟩)
  have HN := Lib.hid (And.intro h.lt h.size)
  obtain ⟨f1, f2⟩ := h.old hf
  obtain ⟨l1, l2⟩ := h.old hl
  have hc := fun o => (h.on (below_box w o)).cells.c2
  have hfr := fun o => (h.on (below_box w o)).cells.f 2
  have nB : ¬ B = w.heap.size := by have := HN.out.1; omega
  clear h hf hl
  unfold roomV
  simp only [Dm.ok, Fld.get, Dm.next]
  generalize R.regs = r at HM ⊢
  have hcase : (least ≤ x.a ∧ x.a < r ∧ Hid (decide (least ≤ x.a ∧ x.a < r) = true)) ∨ (least ≤ x.a ∧ ¬ x.a < r ∧ Hid (decide (least ≤ x.a ∧ x.a < r) = false)) ∨ (¬ least ≤ x.a ∧ True ∧ Hid (decide (least ≤ x.a ∧ x.a < r) = false)) := by
    by_cases a1 : least ≤ x.a
    · by_cases a2 : x.a < r
      · exact .inl ⟨a1, a2, Lib.hid (decide_eq_true ⟨a1, a2⟩)⟩
      · exact .inr (.inl ⟨a1, a2, Lib.hid (decide_eq_false fun h => a2 h.2)⟩)
    · exact .inr (.inr ⟨a1, trivial, Lib.hid (decide_eq_false fun h => a1 h.1)⟩)
  rcases hcase with ⟨a1, a2, HR⟩ | ⟨a1, a2, HR⟩ | ⟨a1, a2, HR⟩
  all_goals
    go_enter Tryz.func63, Tryz.ntmps63
    go_wp2_with (go_at_call 37; refine (fld2 B _).mono ?_; rintro e w1 ⟨rfl, rfl⟩)
    go_ret
    exact ⟨ret_b (by first | exact HR.out.symm | exact (decide_eq_false (Int.not_lt.2 a2)).trans HR.out.symm), u, HM.out⟩

set_option maxRecDepth 100000 in
set_option maxHeartbeats 4000000 in
theorem dreg3 (least : Int) (bf bl : Nat) (w0 wX w : World) (B : Nat) (x : Ins) (u : Value) (R : Room) (h : MidF w0 wX w B x u) (hf : w0.cell? ⟨bf, 0, none⟩ = some (.func (.func 38) #[] #[])) (hl : w0.cell? ⟨bl, 0, none⟩ = some (.int .i64 least)) :
    Calls Tryz.prog 63 #[.pointer (some ⟨B, 0, none⟩), roomV R, .pointer (some ⟨bf, 0, none⟩), .pointer (some ⟨bl, 0, none⟩)] w fun e w' => e = .returned (.bool ((Dm.reg least .b).ok x R)) ∧ ∃ u', MidF w0 wX w' B ((Dm.reg least .b).next x) u' := by
  have HM := Lib.hid (MidF.set (h.on (below_box w (.cells #[.int .i64 R.regs, .int .i64 R.places, .int .i64 R.procs] 63))) 3 (.int .i64 0) (Fld.zero .b x) u rfl h.ints ⟨⟨h.fine.1.1, h.fine.1.2.1, h.fine.1.2.2.1, i64_0, h.fine.1.2.2.2.2.1, h.fine.1.2.2.2.2.2⟩, h.fine.2⟩)
  have HN := Lib.hid (And.intro h.lt h.size)
  obtain ⟨f1, f2⟩ := h.old hf
  obtain ⟨l1, l2⟩ := h.old hl
  have hc := fun o => (h.on (below_box w o)).cells.c3
  have hfr := fun o => (h.on (below_box w o)).cells.f 3
  have nB : ¬ B = w.heap.size := by have := HN.out.1; omega
  clear h hf hl
  unfold roomV
  simp only [Dm.ok, Fld.get, Dm.next]
  generalize R.regs = r at HM ⊢
  have hcase : (least ≤ x.b ∧ x.b < r ∧ Hid (decide (least ≤ x.b ∧ x.b < r) = true)) ∨ (least ≤ x.b ∧ ¬ x.b < r ∧ Hid (decide (least ≤ x.b ∧ x.b < r) = false)) ∨ (¬ least ≤ x.b ∧ True ∧ Hid (decide (least ≤ x.b ∧ x.b < r) = false)) := by
    by_cases a1 : least ≤ x.b
    · by_cases a2 : x.b < r
      · exact .inl ⟨a1, a2, Lib.hid (decide_eq_true ⟨a1, a2⟩)⟩
      · exact .inr (.inl ⟨a1, a2, Lib.hid (decide_eq_false fun h => a2 h.2)⟩)
    · exact .inr (.inr ⟨a1, trivial, Lib.hid (decide_eq_false fun h => a1 h.1)⟩)
  rcases hcase with ⟨a1, a2, HR⟩ | ⟨a1, a2, HR⟩ | ⟨a1, a2, HR⟩
  all_goals
    go_enter Tryz.func63, Tryz.ntmps63
    go_wp2_with (go_at_call 38; refine (fld3 B _).mono ?_; rintro e w1 ⟨rfl, rfl⟩)
    go_ret
    exact ⟨ret_b (by first | exact HR.out.symm | exact (decide_eq_false (Int.not_lt.2 a2)).trans HR.out.symm), u, HM.out⟩

set_option maxRecDepth 100000 in
set_option maxHeartbeats 4000000 in
theorem dreg4 (least : Int) (bf bl : Nat) (w0 wX w : World) (B : Nat) (x : Ins) (u : Value) (R : Room) (h : MidF w0 wX w B x u) (hf : w0.cell? ⟨bf, 0, none⟩ = some (.func (.func 39) #[] #[])) (hl : w0.cell? ⟨bl, 0, none⟩ = some (.int .i64 least)) :
    Calls Tryz.prog 63 #[.pointer (some ⟨B, 0, none⟩), roomV R, .pointer (some ⟨bf, 0, none⟩), .pointer (some ⟨bl, 0, none⟩)] w fun e w' => e = .returned (.bool ((Dm.reg least .c).ok x R)) ∧ ∃ u', MidF w0 wX w' B ((Dm.reg least .c).next x) u' := by
  have HM := Lib.hid (MidF.set (h.on (below_box w (.cells #[.int .i64 R.regs, .int .i64 R.places, .int .i64 R.procs] 63))) 4 (.int .i64 0) (Fld.zero .c x) u rfl h.ints ⟨⟨h.fine.1.1, h.fine.1.2.1, h.fine.1.2.2.1, h.fine.1.2.2.2.1, i64_0, h.fine.1.2.2.2.2.2⟩, h.fine.2⟩)
  have HN := Lib.hid (And.intro h.lt h.size)
  obtain ⟨f1, f2⟩ := h.old hf
  obtain ⟨l1, l2⟩ := h.old hl
  have hc := fun o => (h.on (below_box w o)).cells.c4
  have hfr := fun o => (h.on (below_box w o)).cells.f 4
  have nB : ¬ B = w.heap.size := by have := HN.out.1; omega
  clear h hf hl
  unfold roomV
  simp only [Dm.ok, Fld.get, Dm.next]
  generalize R.regs = r at HM ⊢
  have hcase : (least ≤ x.c ∧ x.c < r ∧ Hid (decide (least ≤ x.c ∧ x.c < r) = true)) ∨ (least ≤ x.c ∧ ¬ x.c < r ∧ Hid (decide (least ≤ x.c ∧ x.c < r) = false)) ∨ (¬ least ≤ x.c ∧ True ∧ Hid (decide (least ≤ x.c ∧ x.c < r) = false)) := by
    by_cases a1 : least ≤ x.c
    · by_cases a2 : x.c < r
      · exact .inl ⟨a1, a2, Lib.hid (decide_eq_true ⟨a1, a2⟩)⟩
      · exact .inr (.inl ⟨a1, a2, Lib.hid (decide_eq_false fun h => a2 h.2)⟩)
    · exact .inr (.inr ⟨a1, trivial, Lib.hid (decide_eq_false fun h => a1 h.1)⟩)
  rcases hcase with ⟨a1, a2, HR⟩ | ⟨a1, a2, HR⟩ | ⟨a1, a2, HR⟩
  all_goals
    go_enter Tryz.func63, Tryz.ntmps63
    go_wp2_with (go_at_call 39; refine (fld4 B _).mono ?_; rintro e w1 ⟨rfl, rfl⟩)
    go_ret
    exact ⟨ret_b (by first | exact HR.out.symm | exact (decide_eq_false (Int.not_lt.2 a2)).trans HR.out.symm), u, HM.out⟩

set_option maxRecDepth 100000 in
set_option maxHeartbeats 4000000 in
theorem dreg5 (least : Int) (bf bl : Nat) (w0 wX w : World) (B : Nat) (x : Ins) (u : Value) (R : Room) (h : MidF w0 wX w B x u) (hf : w0.cell? ⟨bf, 0, none⟩ = some (.func (.func 40) #[] #[])) (hl : w0.cell? ⟨bl, 0, none⟩ = some (.int .i64 least)) :
    Calls Tryz.prog 63 #[.pointer (some ⟨B, 0, none⟩), roomV R, .pointer (some ⟨bf, 0, none⟩), .pointer (some ⟨bl, 0, none⟩)] w fun e w' => e = .returned (.bool ((Dm.reg least .a).ok x R)) ∧ ∃ u', MidF w0 wX w' B ((Dm.reg least .a).next x) u' := by
  have HM := Lib.hid (MidF.set (h.on (below_box w (.cells #[.int .i64 R.regs, .int .i64 R.places, .int .i64 R.procs] 63))) 2 (.int .i64 0) (Fld.zero .a x) u rfl h.ints ⟨⟨h.fine.1.1, h.fine.1.2.1, i64_0, h.fine.1.2.2.2.1, h.fine.1.2.2.2.2.1, h.fine.1.2.2.2.2.2⟩, h.fine.2⟩)
  have HN := Lib.hid (And.intro h.lt h.size)
  obtain ⟨f1, f2⟩ := h.old hf
  obtain ⟨l1, l2⟩ := h.old hl
  have hc := fun o => (h.on (below_box w o)).cells.c2
  have hfr := fun o => (h.on (below_box w o)).cells.f 2
  have nB : ¬ B = w.heap.size := by have := HN.out.1; omega
  clear h hf hl
  unfold roomV
  simp only [Dm.ok, Fld.get, Dm.next]
  generalize R.regs = r at HM ⊢
  have hcase : (least ≤ x.a ∧ x.a < r ∧ Hid (decide (least ≤ x.a ∧ x.a < r) = true)) ∨ (least ≤ x.a ∧ ¬ x.a < r ∧ Hid (decide (least ≤ x.a ∧ x.a < r) = false)) ∨ (¬ least ≤ x.a ∧ True ∧ Hid (decide (least ≤ x.a ∧ x.a < r) = false)) := by
    by_cases a1 : least ≤ x.a
    · by_cases a2 : x.a < r
      · exact .inl ⟨a1, a2, Lib.hid (decide_eq_true ⟨a1, a2⟩)⟩
      · exact .inr (.inl ⟨a1, a2, Lib.hid (decide_eq_false fun h => a2 h.2)⟩)
    · exact .inr (.inr ⟨a1, trivial, Lib.hid (decide_eq_false fun h => a1 h.1)⟩)
  rcases hcase with ⟨a1, a2, HR⟩ | ⟨a1, a2, HR⟩ | ⟨a1, a2, HR⟩
  all_goals
    go_enter Tryz.func63, Tryz.ntmps63
    go_wp2_with (go_at_call 40; refine (fld5 B _).mono ?_; rintro e w1 ⟨rfl, rfl⟩)
    go_ret
    exact ⟨ret_b (by first | exact HR.out.symm | exact (decide_eq_false (Int.not_lt.2 a2)).trans HR.out.symm), u, HM.out⟩

set_option maxRecDepth 100000 in
set_option maxHeartbeats 4000000 in
theorem dreg6 (least : Int) (bf bl : Nat) (w0 wX w : World) (B : Nat) (x : Ins) (u : Value) (R : Room) (h : MidF w0 wX w B x u) (hf : w0.cell? ⟨bf, 0, none⟩ = some (.func (.func 41) #[] #[])) (hl : w0.cell? ⟨bl, 0, none⟩ = some (.int .i64 least)) :
    Calls Tryz.prog 63 #[.pointer (some ⟨B, 0, none⟩), roomV R, .pointer (some ⟨bf, 0, none⟩), .pointer (some ⟨bl, 0, none⟩)] w fun e w' => e = .returned (.bool ((Dm.reg least .b).ok x R)) ∧ ∃ u', MidF w0 wX w' B ((Dm.reg least .b).next x) u' := by
  have HM := Lib.hid (MidF.set (h.on (below_box w (.cells #[.int .i64 R.regs, .int .i64 R.places, .int .i64 R.procs] 63))) 3 (.int .i64 0) (Fld.zero .b x) u rfl h.ints ⟨⟨h.fine.1.1, h.fine.1.2.1, h.fine.1.2.2.1, i64_0, h.fine.1.2.2.2.2.1, h.fine.1.2.2.2.2.2⟩, h.fine.2⟩)
  have HN := Lib.hid (And.intro h.lt h.size)
  obtain ⟨f1, f2⟩ := h.old hf
  obtain ⟨l1, l2⟩ := h.old hl
  have hc := fun o => (h.on (below_box w o)).cells.c3
  have hfr := fun o => (h.on (below_box w o)).cells.f 3
  have nB : ¬ B = w.heap.size := by have := HN.out.1; omega
  clear h hf hl
  unfold roomV
  simp only [Dm.ok, Fld.get, Dm.next]
  generalize R.regs = r at HM ⊢
  have hcase : (least ≤ x.b ∧ x.b < r ∧ Hid (decide (least ≤ x.b ∧ x.b < r) = true)) ∨ (least ≤ x.b ∧ ¬ x.b < r ∧ Hid (decide (least ≤ x.b ∧ x.b < r) = false)) ∨ (¬ least ≤ x.b ∧ True ∧ Hid (decide (least ≤ x.b ∧ x.b < r) = false)) := by
    by_cases a1 : least ≤ x.b
    · by_cases a2 : x.b < r
      · exact .inl ⟨a1, a2, Lib.hid (decide_eq_true ⟨a1, a2⟩)⟩
      · exact .inr (.inl ⟨a1, a2, Lib.hid (decide_eq_false fun h => a2 h.2)⟩)
    · exact .inr (.inr ⟨a1, trivial, Lib.hid (decide_eq_false fun h => a1 h.1)⟩)
  rcases hcase with ⟨a1, a2, HR⟩ | ⟨a1, a2, HR⟩ | ⟨a1, a2, HR⟩
  all_goals
    go_enter Tryz.func63, Tryz.ntmps63
    go_wp2_with (go_at_call 41; refine (fld6 B _).mono ?_; rintro e w1 ⟨rfl, rfl⟩)
    go_ret
    exact ⟨ret_b (by first | exact HR.out.symm | exact (decide_eq_false (Int.not_lt.2 a2)).trans HR.out.symm), u, HM.out⟩
end Go.Proofs.YtconnhphkbgbkaaGreatDoor
