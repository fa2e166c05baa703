/- What code.table asks: the other functions that stand in it. -/
import Derived.Test.YtconnhphkbgbkaaGreatDoorCdDem2
import Derived.Deep.RegionHeld3
namespace Go.Proofs.YtconnhphkbgbkaaGreatDoor
open Go.RowKit Go.Proofs

set_option maxRecDepth 100000 in
set_option maxHeartbeats 4000000 in
theorem dnum7 (bf : Nat) (w0 wX w : World) (B : Nat) (x : Ins) (u : Value) (R : Room) (h : MidF w0 wX w B x u) (hf : w0.cell? ⟨bf, 0, none⟩ = some (.func (.func 43) #[] #[])) :
    Calls Tryz.prog 64 #[.pointer (some ⟨B, 0, none⟩), roomV R, .pointer (some ⟨bf, 0, none⟩)] w fun e w' => e = .returned (.bool ((Dm.num .mark).ok x R)) ∧ ∃ u', MidF w0 wX w' B ((Dm.num .mark).next x) u' := by
  have hM := MidF.set (h.on (below_box w (.cells #[.int .i64 R.regs, .int .i64 R.places, .int .i64 R.procs] 63))) 6 (.int .i64 0) { x with n := 0 } u rfl h.ints ⟨⟨h.fine.1.1, h.fine.1.2.1, h.fine.1.2.2.1, h.fine.1.2.2.2.1, h.fine.1.2.2.2.2.1, i64_0⟩, h.fine.2⟩
  have HM := Lib.hid (fun (w' : World) => MidF.on (W' := w') hM)
  have HK := Lib.hid (fun w => knd7 x.n R w h.fine.1.2.2.2.2.2)
  have HN := Lib.hid (And.intro h.lt h.size)
  obtain ⟨f1, f2⟩ := h.old hf
  have hc := fun o => (h.on (below_box w o)).cells.c6
  have hfr := fun o => (h.on (below_box w o)).cells.f 6
  have nB : ¬ B = w.heap.size := by have := HN.out.1; omega
  clear h hf hM
  unfold roomV at HK ⊢
  go_enter Tryz.func64, Tryz.ntmps64
  go_wp2_with (go_at_call 43; refine (HK.out _).mono ?_; rintro e w1 ⟨rfl, hb1⟩)
  go_ret
  exact ⟨rfl, u, HM.out _ hb1⟩

set_option maxRecDepth 100000 in
set_option maxHeartbeats 4000000 in
theorem dnum8 (bf : Nat) (w0 wX w : World) (B : Nat) (x : Ins) (u : Value) (R : Room) (h : MidF w0 wX w B x u) (hf : w0.cell? ⟨bf, 0, none⟩ = some (.func (.func 44) #[] #[])) :
    Calls Tryz.prog 64 #[.pointer (some ⟨B, 0, none⟩), roomV R, .pointer (some ⟨bf, 0, none⟩)] w fun e w' => e = .returned (.bool ((Dm.num .place).ok x R)) ∧ ∃ u', MidF w0 wX w' B ((Dm.num .place).next x) u' := by
  have hM := MidF.set (h.on (below_box w (.cells #[.int .i64 R.regs, .int .i64 R.places, .int .i64 R.procs] 63))) 6 (.int .i64 0) { x with n := 0 } u rfl h.ints ⟨⟨h.fine.1.1, h.fine.1.2.1, h.fine.1.2.2.1, h.fine.1.2.2.2.1, h.fine.1.2.2.2.2.1, i64_0⟩, h.fine.2⟩
  have HM := Lib.hid (fun (w' : World) => MidF.on (W' := w') hM)
  have HK := Lib.hid (fun w => knd8 x.n R w h.fine.1.2.2.2.2.2)
  have HN := Lib.hid (And.intro h.lt h.size)
  obtain ⟨f1, f2⟩ := h.old hf
  have hc := fun o => (h.on (below_box w o)).cells.c6
  have hfr := fun o => (h.on (below_box w o)).cells.f 6
  have nB : ¬ B = w.heap.size := by have := HN.out.1; omega
  clear h hf hM
  unfold roomV at HK ⊢
  go_enter Tryz.func64, Tryz.ntmps64
  go_wp2_with (go_at_call 44; refine (HK.out _).mono ?_; rintro e w1 ⟨rfl, hb1⟩)
  go_ret
  exact ⟨rfl, u, HM.out _ hb1⟩

set_option maxRecDepth 100000 in
set_option maxHeartbeats 4000000 in
theorem dnum9 (bf : Nat) (w0 wX w : World) (B : Nat) (x : Ins) (u : Value) (R : Room) (h : MidF w0 wX w B x u) (hf : w0.cell? ⟨bf, 0, none⟩ = some (.func (.func 45) #[] #[])) :
    Calls Tryz.prog 64 #[.pointer (some ⟨B, 0, none⟩), roomV R, .pointer (some ⟨bf, 0, none⟩)] w fun e w' => e = .returned (.bool ((Dm.num .fun_).ok x R)) ∧ ∃ u', MidF w0 wX w' B ((Dm.num .fun_).next x) u' := by
  have hM := MidF.set (h.on (below_box w (.cells #[.int .i64 R.regs, .int .i64 R.places, .int .i64 R.procs] 63))) 6 (.int .i64 0) { x with n := 0 } u rfl h.ints ⟨⟨h.fine.1.1, h.fine.1.2.1, h.fine.1.2.2.1, h.fine.1.2.2.2.1, h.fine.1.2.2.2.2.1, i64_0⟩, h.fine.2⟩
  have HM := Lib.hid (fun (w' : World) => MidF.on (W' := w') hM)
  have HK := Lib.hid (fun w => knd9 x.n R w h.fine.1.2.2.2.2.2)
  have HN := Lib.hid (And.intro h.lt h.size)
  obtain ⟨f1, f2⟩ := h.old hf
  have hc := fun o => (h.on (below_box w o)).cells.c6
  have hfr := fun o => (h.on (below_box w o)).cells.f 6
  have nB : ¬ B = w.heap.size := by have := HN.out.1; omega
  clear h hf hM
  unfold roomV at HK ⊢
  go_enter Tryz.func64, Tryz.ntmps64
  go_wp2_with (go_at_call 45; refine (HK.out _).mono ?_; rintro e w1 ⟨rfl, hb1⟩)
  go_ret
  exact ⟨rfl, u, HM.out _ hb1⟩

set_option maxRecDepth 100000 in
set_option maxHeartbeats 4000000 in
theorem dnum10 (bf : Nat) (w0 wX w : World) (B : Nat) (x : Ins) (u : Value) (R : Room) (h : MidF w0 wX w B x u) (hf : w0.cell? ⟨bf, 0, none⟩ = some (.func (.func 46) #[] #[])) :
    Calls Tryz.prog 64 #[.pointer (some ⟨B, 0, none⟩), roomV R, .pointer (some ⟨bf, 0, none⟩)] w fun e w' => e = .returned (.bool ((Dm.num .var_).ok x R)) ∧ ∃ u', MidF w0 wX w' B ((Dm.num .var_).next x) u' := by
  have hM := MidF.set (h.on (below_box w (.cells #[.int .i64 R.regs, .int .i64 R.places, .int .i64 R.procs] 63))) 6 (.int .i64 0) { x with n := 0 } u rfl h.ints ⟨⟨h.fine.1.1, h.fine.1.2.1, h.fine.1.2.2.1, h.fine.1.2.2.2.1, h.fine.1.2.2.2.2.1, i64_0⟩, h.fine.2⟩
  have HM := Lib.hid (fun (w' : World) => MidF.on (W' := w') hM)
  have HK := Lib.hid (fun w => knd10 x.n R w h.fine.1.2.2.2.2.2)
  have HN := Lib.hid (And.intro h.lt h.size)
  obtain ⟨f1, f2⟩ := h.old hf
  have hc := fun o => (h.on (below_box w o)).cells.c6
  have hfr := fun o => (h.on (below_box w o)).cells.f 6
  have nB : ¬ B = w.heap.size := by have := HN.out.1; omega
  clear h hf hM
  unfold roomV at HK ⊢
  go_enter Tryz.func64, Tryz.ntmps64
  go_wp2_with (go_at_call 46; refine (HK.out _).mono ?_; rintro e w1 ⟨rfl, hb1⟩)
  go_ret
  exact ⟨rfl, u, HM.out _ hb1⟩

set_option maxRecDepth 100000 in
set_option maxHeartbeats 4000000 in
theorem dkey (w0 wX w : World) (B : Nat) (x : Ins) (u : Value) (R : Room) (h : MidF w0 wX w B x u) :
    Calls Tryz.prog 48 #[.pointer (some ⟨B, 0, none⟩), roomV R] w fun e w' => e = .returned (.bool (Dm.key.ok x R)) ∧ ∃ u', MidF w0 wX w' B (Dm.key.next x) u' := by
  have HM := Lib.hid (MidF.set (h.on (below_box w (.cells #[.int .i64 R.regs, .int .i64 R.places, .int .i64 R.procs] 63))) 5 (.string ⟨#[]⟩) { x with s := nilB } u rfl h.ints ⟨h.fine.1, fine_nil⟩)
  have HN := Lib.hid (And.intro h.lt h.size)
  have hc := fun o => (h.on (below_box w o)).cells.c5
  have hfr := fun o => (h.on (below_box w o)).cells.f 5
  have nB : ¬ B = w.heap.size := by have := HN.out.1; omega
  clear h
  unfold roomV
  go_enter Tryz.func48, Tryz.ntmps48
  go_wp2
  go_ret
  exact ⟨rfl, u, HM.out⟩
set_option maxRecDepth 100000 in
set_option maxHeartbeats 4000000 in
theorem dsign (w0 wX w : World) (B : Nat) (x : Ins) (u : Value) (R : Room) (h : MidF w0 wX w B x u) :
    Calls Tryz.prog 50 #[.pointer (some ⟨B, 0, none⟩), roomV R] w fun e w' => e = .returned (.bool (Dm.sign.ok x R)) ∧ ∃ u', MidF w0 wX w' B (Dm.sign.next x) u' := by
  have H0 := Lib.hid h
  have HT := Lib.hid (fun w => two_und x.s w h.fine.2)
  have hc := fun o => (h.on (below_box w o)).cells.c5
  have hB1 := Lib.hid (fun o => below_box w o)
  clear h
  unfold roomV
  simp only [Dm.ok, Dm.next]
  cases hs : isSignB x.s
  all_goals
    rw [hs] at HT
    clear hs
    go_enter Tryz.func50, Tryz.ntmps50
    go_wp2_with fail
    go_at_call 66
    refine (HT.out _).mono ?_
    rintro e w1 ⟨⟨k, n, rfl⟩, hb1⟩
    have hM1 := (H0.out.on (hB1.out _)).on hb1
    have hfr := hM1.cells.f 5
    have hc5 := hM1.cells.c5
    have nB : ¬ B = w1.heap.size := by have := hM1.lt; omega
    have nB2 : ¬ w1.heap.size = B := by omega
    have HM := Lib.hid (fun o => (MidF.set (hM1.on (below_box w1 o)) 5 (.string ⟨#[]⟩) { x with s := nilB } u rfl H0.out.ints ⟨H0.out.fine.1, fine_nil⟩))
    have hfr2 := fun o => (hM1.on (below_box w1 o)).cells.f 5
    have hc2 := fun o => (hM1.on (below_box w1 o)).cells.c5
    clear hM1 hb1
    go_wp2
    go_ret
    exact ⟨rfl, u, HM.out _⟩
set_option maxRecDepth 100000 in
set_option maxHeartbeats 4000000 in
theorem dval (w0 wX w : World) (B : Nat) (x : Ins) (u : Value) (R : Room) (h : MidF w0 wX w B x u) :
    Calls Tryz.prog 47 #[.pointer (some ⟨B, 0, none⟩), roomV R] w fun e w' => e = .returned (.bool (Dm.val.ok x R)) ∧ ∃ u', MidF w0 wX w' B (Dm.val.next x) u' := by
  have hM := ((MidF.set (MidF.set (MidF.set ((h.on (below_box w (.cells #[.int .i64 R.regs, .int .i64 R.places, .int .i64 R.procs] 63))).on (below_box _ (.cells #[.int .i64 x.a, .int .i64 x.n, .string x.s] 71))) 2 (.int .i64 0) { x with a := 0 } u rfl h.ints ⟨⟨h.fine.1.1, h.fine.1.2.1, i64_0, h.fine.1.2.2.2.1, h.fine.1.2.2.2.2.1, h.fine.1.2.2.2.2.2⟩, h.fine.2⟩)
    6 (.int .i64 0) { x with a := 0, n := 0 } u rfl h.ints ⟨⟨h.fine.1.1, h.fine.1.2.1, i64_0, h.fine.1.2.2.2.1, h.fine.1.2.2.2.2.1, i64_0⟩, h.fine.2⟩) 5 (.string ⟨#[]⟩) { x with a := 0, n := 0, s := nilB } u rfl h.ints ⟨⟨h.fine.1.1, h.fine.1.2.1, i64_0, h.fine.1.2.2.2.1, h.fine.1.2.2.2.2.1, i64_0⟩, fine_nil⟩))
  have hM := hM.on (below_drewN (Below.refl _ _) 1)
  have HM := Lib.hid (fun (w' : World) => MidF.on (W' := w') hM)
  have HM0 := Lib.hid hM
  have HV := Lib.hid (fun w => vright_any x.a x.n x.s w)
  have HN := Lib.hid h.lt
  have c2 := h.cells.c2
  have c5 := h.cells.c5
  have c6 := h.cells.c6
  have d2 := fun o => (h.on (below_box w o)).cells.c2
  have d5 := fun o => (h.on (below_box w o)).cells.c5
  have d6 := fun o => (h.on (below_box w o)).cells.c6
  have e2 := fun o p => ((h.on (below_box w o)).on (below_box _ p)).cells.c2
  have e5 := fun o p => ((h.on (below_box w o)).on (below_box _ p)).cells.c5
  have e6 := fun o p => ((h.on (below_box w o)).on (below_box _ p)).cells.c6
  have ef := fun o p => ((h.on (below_box w o)).on (below_box _ p)).cells.f
  have nB : ¬ B = w.heap.size := by have := HN.out; omega
  have nB1 : ¬ B = w.heap.size + 1 := by have := HN.out; omega
  clear h hM
  unfold roomV
  simp only [Dm.ok, Dm.next]
  by_cases h5 : x.a = 5
  · have q : (x.a != 5) = false := by simp [h5]
    have HR := Lib.hid (show (!decide (x.a = 5) && vrightB x.a x.n x.s) = false by simp [h5])
    clear h5
    go_enter Tryz.func47, Tryz.ntmps47
    go_wp2_with fail
    go_region_held3 (fun w' => w'.cell? ⟨B, 2, none⟩ = some (.int .i64 x.a) ∧ w'.cell? ⟨B, 6, none⟩ = some (.int .i64 x.n) ∧ w'.cell? ⟨B, 5, none⟩ = some (.string x.s)) (first | go_keep | skip) (fail)
    go_wp2
    go_ret
    exact ⟨ret_b HR.out.symm, u, HM0.out⟩
  · have q : (x.a != 5) = true := by simp [h5]
    have HR := Lib.hid (show (!decide (x.a = 5) && vrightB x.a x.n x.s) = vrightB x.a x.n x.s by simp [h5])
    clear h5
    go_enter Tryz.func47, Tryz.ntmps47
    go_wp2_with fail
    go_region_held3 (fun w' => w'.cell? ⟨B, 2, none⟩ = some (.int .i64 x.a) ∧ w'.cell? ⟨B, 6, none⟩ = some (.int .i64 x.n) ∧ w'.cell? ⟨B, 5, none⟩ = some (.string x.s)) (first | go_keep | skip) (fail)
    go_wp2_with (go_at_call 65; refine (HV.out _).mono ?_; rintro e w1 ⟨rfl, hb1⟩)
    go_ret
    exact ⟨ret_b HR.out.symm, u, HM.out _ hb1⟩
end Go.Proofs.YtconnhphkbgbkaaGreatDoor
