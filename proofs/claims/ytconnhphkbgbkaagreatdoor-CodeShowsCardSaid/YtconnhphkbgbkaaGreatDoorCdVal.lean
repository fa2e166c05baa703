/- value.Right; value.Num, number, truth, order, and the makings, of undefined values. -/
import Derived.Test.YtconnhphkbgbkaaGreatDoorCdRows
import Derived.IntWalk
import Derived.Deep.RegionHeld3
namespace Go.Proofs.YtconnhphkbgbkaaGreatDoor
open Go.RowKit Go.Proofs

theorem below_box (w : World) (o : Obj) : Below w.heap.size w (w.alloc o) := (Below.refl _ w).alloc (Nat.le_refl _) _
set_option maxHeartbeats 4000000 in
theorem vright_any (k n : Int) (s : ByteArray) (w : World) : Calls Tryz.prog 65 #[.agg #[.int .i64 k, .int .i64 n, .string s]] w fun e w' => e = .returned (.bool (vrightB k n s)) ∧ Below w.heap.size w w' := by
  go_enter Tryz.func65, Tryz.ntmps65
  go_wp2
  all_goals go_ret
  all_goals (refine ⟨ret_b ?_, ?_⟩)
  all_goals first
    | exact ((Below.refl _ _).alloc (Nat.le_refl _) _).alloc (by simp) _
    | (simp_all [vrightB]; done)
    | (simp_all [vrightB]; omega)
abbrev undV : Value := .agg #[.int .i64 0, .int .i64 0, .string ⟨#[]⟩]
abbrev zeroO : Obj := .cells #[.int .i64 0, .int .i64 0, .string ⟨#[]⟩] 71
theorem set3 {w W : World} {B : Nat} (h : Below B w W) (b : Nat) (hb : B ≤ b) (x y z : Value) : Below B w (((W.setCell ⟨b, 0, none⟩ x).setCell ⟨b, 1, none⟩ y).setCell ⟨b, 2, none⟩ z) :=
  ((h.setCell hb _).setCell hb _).setCell hb _
theorem two_box (w : World) (o p : Obj) : Below w.heap.size w ((w.alloc o).alloc p) := (below_box w o).alloc (by simp) p
theorem three_box (w : World) (o p q : Obj) : Below w.heap.size w (((w.alloc o).alloc p).alloc q) := (two_box w o p).alloc (by simp; omega) q
/-- The cells of two boxes. -/
def Six (B : Nat) (W : World) : Prop :=
  (W.cell? ⟨B, 0, none⟩ = some (.int .i64 0) ∧ W.cell? ⟨B, 1, none⟩ = some (.int .i64 0) ∧ W.cell? ⟨B, 2, none⟩ = some (.string ⟨#[]⟩)) ∧
  (W.cell? ⟨B + 1, 0, none⟩ = some (.int .i64 0) ∧ W.cell? ⟨B + 1, 1, none⟩ = some (.int .i64 0) ∧ W.cell? ⟨B + 1, 2, none⟩ = some (.string ⟨#[]⟩))
theorem Six.below {B : Nat} {W W' : World} (h : Six B W) (hb : Below W.heap.size W W') : Six B W' := by
  obtain ⟨⟨a0, a1, a2⟩, ⟨b0, b1, b2⟩⟩ := h
  have l0 := World.block_lt_of_cell? _ _ a0
  have l1 := World.block_lt_of_cell? _ _ b0
  exact ⟨⟨(hb.cell (p := ⟨B, 0, none⟩) l0).trans a0, (hb.cell (p := ⟨B, 1, none⟩) l0).trans a1, (hb.cell (p := ⟨B, 2, none⟩) l0).trans a2⟩,
    ⟨(hb.cell (p := ⟨B + 1, 0, none⟩) l1).trans b0, (hb.cell (p := ⟨B + 1, 1, none⟩) l1).trans b1, (hb.cell (p := ⟨B + 1, 2, none⟩) l1).trans b2⟩⟩
theorem six_mk (w : World) : Six w.heap.size ((w.alloc zeroO).alloc zeroO) := by
  have hb := below_box (w.alloc zeroO) zeroO
  refine ⟨⟨(hb.cell (p := ⟨w.heap.size, 0, none⟩) (by simp)).trans (World.cell?_alloc_new w _ _ 0), (hb.cell (p := ⟨w.heap.size, 1, none⟩) (by simp)).trans (World.cell?_alloc_new w _ _ 1), (hb.cell (p := ⟨w.heap.size, 2, none⟩) (by simp)).trans (World.cell?_alloc_new w _ _ 2)⟩, ?_⟩
  have e : w.heap.size + 1 = (w.alloc zeroO).heap.size := by simp
  rw [e]
  exact ⟨World.cell?_alloc_new _ _ _ 0, World.cell?_alloc_new _ _ _ 1, World.cell?_alloc_new _ _ _ 2⟩
theorem six_mk3 (w : World) : Six w.heap.size (((w.alloc zeroO).alloc zeroO).alloc zeroO) := (six_mk w).below (below_box _ _)
/-- The result's cell, not written yet. -/
def Res (B : Nat) (W : World) : Prop :=
  (W.cell? ⟨B, 0, none⟩ = some (.int .i64 0) ∧ W.cell? ⟨B, 1, none⟩ = some (.int .i64 0) ∧ W.cell? ⟨B, 2, none⟩ = some (.string ⟨#[]⟩)) ∧
  (W.frozen? ⟨B, 0, none⟩ = false ∧ W.frozen? ⟨B, 1, none⟩ = false ∧ W.frozen? ⟨B, 2, none⟩ = false)
theorem Res.below {B : Nat} {W W' : World} (h : Res B W) (hb : Below W.heap.size W W') : Res B W' := by
  obtain ⟨⟨a0, a1, a2⟩, ⟨b0, b1, b2⟩⟩ := h
  have l0 := World.block_lt_of_cell? _ _ a0
  exact ⟨⟨(hb.cell (p := ⟨B, 0, none⟩) l0).trans a0, (hb.cell (p := ⟨B, 1, none⟩) l0).trans a1, (hb.cell (p := ⟨B, 2, none⟩) l0).trans a2⟩,
    ⟨(hb.frozen (p := ⟨B, 0, none⟩) l0).trans b0, (hb.frozen (p := ⟨B, 1, none⟩) l0).trans b1, (hb.frozen (p := ⟨B, 2, none⟩) l0).trans b2⟩⟩
theorem res_new (w : World) : Res w.heap.size (w.alloc zeroO) :=
  ⟨⟨World.cell?_alloc_new _ _ _ 0, World.cell?_alloc_new _ _ _ 1, World.cell?_alloc_new _ _ _ 2⟩, ⟨World.frozen?_alloc_new _ _ _ 0, World.frozen?_alloc_new _ _ _ 1, World.frozen?_alloc_new _ _ _ 2⟩⟩
theorem res_mk (w : World) (o p : Obj) : Res (w.heap.size + 1 + 1) (((w.alloc o).alloc p).alloc zeroO) := by
  have e : w.heap.size + 1 + 1 = ((w.alloc o).alloc p).heap.size := by simp
  rw [e]
  exact res_new _
/-- Behind a call. -/
theorem stepD {w W w1 : World} (hB : Below w.heap.size w W) (hS : Six w.heap.size W) (hR : Res (w.heap.size + 1 + 1) W) (hb : Below W.heap.size W w1) :
    Hid (Below w.heap.size w w1) ∧ Hid (Six w.heap.size w1) ∧ Hid (Res (w.heap.size + 1 + 1) w1) :=
  ⟨Lib.hid (hB.trans (hb.mono hB.size)), Lib.hid (hS.below hb), Lib.hid (hR.below hb)⟩

set_option maxRecDepth 100000 in
set_option maxHeartbeats 2000000 in
theorem num_und (w : World) : Calls Tryz.prog 88 #[undV] w fun e w' => e = .returned (.int .i64 0) ∧ Below w.heap.size w w' := by
  have HR := Lib.hid (fun w => vright_any 0 0 ⟨#[]⟩ w)
  rw [show vrightB 0 0 ⟨#[]⟩ = true by kernel_rfl] at HR
  have HB := Lib.hid (fun (o : Obj) => below_box w o)
  go_enter Tryz.func88, Tryz.ntmps88
  go_wp2_with fail
  go_at_call 65
  refine (HR.out _).mono ?_
  rintro e w1 ⟨rfl, hb⟩
  obtain ⟨hc, hf⟩ := bcell hb
  have hB1 := Lib.hid ((HB.out _).trans (hb.mono (HB.out _).size))
  clear hb
  go_wp2
  go_ret
  exact ⟨rfl, hB1.out⟩
set_option maxHeartbeats 2000000 in
theorem number_any (n : Int) (w : World) : Calls Tryz.prog 87 #[.int .i64 n] w fun e w' => e = .returned (.agg #[.int .i64 3, .int .i64 n, .string ⟨#[]⟩]) ∧ Below w.heap.size w w' := by
  have HB := Lib.hid (below_box w zeroO)
  go_enter Tryz.func87, Tryz.ntmps87
  go_wp2
  exact bodyPost_ret (v := .agg #[.int .i64 3, .int .i64 n, .string ⟨#[]⟩]) (by simp [results, Tryz.results87, go_sem]) rfl ⟨rfl, below_box _ _⟩
set_option maxHeartbeats 2000000 in
theorem truth_any (b : Bool) (w : World) : Calls Tryz.prog 91 #[.bool b] w fun e w' => e = .returned (.agg #[.int .i64 2, .int .i64 (if b then 1 else 0), .string ⟨#[]⟩]) ∧ Below w.heap.size w w' := by
  cases b
  all_goals
    go_enter Tryz.func91, Tryz.ntmps91
    go_wp2
  · exact bodyPost_ret (v := .agg #[.int .i64 2, .int .i64 0, .string ⟨#[]⟩]) (by simp [results, Tryz.results91, go_sem]) rfl ⟨rfl, two_box _ _ _⟩
  · exact bodyPost_ret (v := .agg #[.int .i64 2, .int .i64 1, .string ⟨#[]⟩]) (by simp [results, Tryz.results91, go_sem]) rfl ⟨rfl, two_box _ _ _⟩
set_option maxHeartbeats 2000000 in
theorem cmpI_00 (w : World) : Calls Tryz.prog 102 #[.int .i64 0, .int .i64 0] w fun e w' => e = .returned (.int .i64 0) ∧ w = w' := by
  go_enter Tryz.func102, Tryz.ntmps102
  go_wp2
  go_ret
  exact ⟨rfl, rfl⟩
set_option maxRecDepth 100000 in
set_option maxHeartbeats 4000000 in
theorem order_und (w : World) : Calls Tryz.prog 92 #[undV, undV] w fun e w' => e = .returned (.int .i64 0) ∧ Below w.heap.size w w' := by
  have HA := Lib.hid (fun w => num_und w)
  have HC := Lib.hid (fun w => cmpI_00 w)
  have HB := Lib.hid (below_drewN (two_box w zeroO zeroO) 1)
  have HS := Lib.hid (six_mk w)
  go_enter Tryz.func92, Tryz.ntmps92
  go_wp2_with fail
  obtain ⟨⟨a0, a1, a2⟩, ⟨b0, b1, b2⟩⟩ := HS.out
  have HD1 := Lib.hid (HA.out ((w.alloc zeroO).alloc zeroO).drew)
  go_region_held3 (fun w' => (w'.cell? ⟨w.heap.size, 0, none⟩ = some (.int .i64 0) ∧ w'.cell? ⟨w.heap.size, 1, none⟩ = some (.int .i64 0) ∧ w'.cell? ⟨w.heap.size, 2, none⟩ = some (.string ⟨#[]⟩)) ∧ (w'.cell? ⟨w.heap.size + 1, 0, none⟩ = some (.int .i64 0) ∧ w'.cell? ⟨w.heap.size + 1, 1, none⟩ = some (.int .i64 0) ∧ w'.cell? ⟨w.heap.size + 1, 2, none⟩ = some (.string ⟨#[]⟩)))
    (first | go_keep | exact HS2.out | exact HS1.out)
    (first
      | (go_at_call 88; refine (HD1.out).mono ?_; rintro e w1 ⟨rfl, hb1⟩; have HS1 := Lib.hid (Six.below (W := ((w.alloc zeroO).alloc zeroO).drew) HS.out hb1); have HB1 := Lib.hid (HB.out.trans (hb1.mono HB.out.size)); clear hb1 HD1; have HD2 := Lib.hid (HA.out w1))
      | (go_at_call 88; refine (HD2.out).mono ?_; rintro e w2 ⟨rfl, hb2⟩; have HS2 := Lib.hid (HS1.out.below hb2); have HB2 := Lib.hid (HB1.out.trans (hb2.mono HB1.out.size)); clear hb2 HD2)
      | (go_at_call 102; refine (HC.out _).mono ?_; rintro e w3 ⟨rfl, rfl⟩))
  go_wp2
  go_ret
  exact ⟨rfl, HB2.out⟩
/-- Some value of three parts, its text empty. -/
def Emp (v : Value) : Prop := ∃ k n : Int, v = .agg #[.int .i64 k, .int .i64 n, .string ⟨#[]⟩]

set_option maxRecDepth 100000 in
set_option maxHeartbeats 4000000 in
theorem sum_und (w : World) : Calls Tryz.prog 85 #[undV, undV] w fun e w' => (∃ v, e = .returned v ∧ Emp v) ∧ Below w.heap.size w w' := by
  have HA := Lib.hid (fun w => num_und w)
  have HM := Lib.hid (fun w => number_any 0 w)
  have HB := Lib.hid (below_drewN (three_box w zeroO zeroO zeroO) 1)
  have HR := Lib.hid (res_mk w zeroO zeroO)
  have HS := Lib.hid (six_mk3 w)
  have n1 : ¬ w.heap.size = w.heap.size + 1 + 1 := by omega
  have n2 : ¬ w.heap.size + 1 + 1 = w.heap.size := by omega
  go_enter Tryz.func85, Tryz.ntmps85
  go_wp2_with fail
  obtain ⟨⟨a0, a1, a2⟩, ⟨b0, b1, b2⟩⟩ := HS.out
  have HD1 := Lib.hid (HA.out (((w.alloc zeroO).alloc zeroO).alloc zeroO).drew)
  go_region_held3 (fun w' => (w'.cell? ⟨w.heap.size, 0, none⟩ = some (.int .i64 0) ∧ w'.cell? ⟨w.heap.size, 1, none⟩ = some (.int .i64 0) ∧ w'.cell? ⟨w.heap.size, 2, none⟩ = some (.string ⟨#[]⟩)) ∧ (w'.cell? ⟨w.heap.size + 1, 0, none⟩ = some (.int .i64 0) ∧ w'.cell? ⟨w.heap.size + 1, 1, none⟩ = some (.int .i64 0) ∧ w'.cell? ⟨w.heap.size + 1, 2, none⟩ = some (.string ⟨#[]⟩)))
    (first | go_keep | exact HS3.out | exact HS2.out | exact HS1.out)
    (first
      | (go_at_call 88; refine (HD1.out).mono ?_; rintro e w1 ⟨rfl, hb1⟩; obtain ⟨HB1, HS1, HR1⟩ := stepD HB.out HS.out HR.out hb1; clear hb1 HD1; have HD2 := Lib.hid (HA.out w1))
      | (go_at_call 88; refine (HD2.out).mono ?_; rintro e w2 ⟨rfl, hb2⟩; obtain ⟨HB2, HS2, HR2⟩ := stepD HB1.out HS1.out HR1.out hb2; clear hb2 HD2)
      | (go_at_call 87; refine (HM.out _).mono ?_; rintro e w3 ⟨rfl, hb3⟩; obtain ⟨HB3, HS3, HR3⟩ := stepD HB2.out HS2.out HR2.out hb3; clear hb3; obtain ⟨⟨x0, x1, x2⟩, ⟨y0, y1, y2⟩⟩ := HS3.out; obtain ⟨⟨r0, r1, r2⟩, ⟨f0, f1, f2⟩⟩ := HR3.out))
  go_wp2
  exact bodyPost_ret (v := .agg #[.int .i64 3, .int .i64 0, .string ⟨#[]⟩]) (by simp [results, Tryz.results85, go_sem, r0, r1, r2]) rfl ⟨⟨_, rfl, _, _, rfl⟩, set3 HB3.out _ (by omega) _ _ _⟩

set_option maxRecDepth 100000 in
set_option maxHeartbeats 4000000 in
theorem mk1_und (w : World) : Calls Tryz.prog 86 #[undV, undV] w fun e w' => (∃ v, e = .returned v ∧ Emp v) ∧ Below w.heap.size w w' := by
  have HA := Lib.hid (fun w => num_und w)
  have HM := Lib.hid (fun w => number_any 0 w)
  have HB := Lib.hid (below_drewN (three_box w zeroO zeroO zeroO) 1)
  have HR := Lib.hid (res_mk w zeroO zeroO)
  have HS := Lib.hid (six_mk3 w)
  have n1 : ¬ w.heap.size = w.heap.size + 1 + 1 := by omega
  have n2 : ¬ w.heap.size + 1 + 1 = w.heap.size := by omega
  go_enter Tryz.func86, Tryz.ntmps86
  go_wp2_with fail
  obtain ⟨⟨a0, a1, a2⟩, ⟨b0, b1, b2⟩⟩ := HS.out
  have HD1 := Lib.hid (HA.out (((w.alloc zeroO).alloc zeroO).alloc zeroO).drew)
  go_region_held3 (fun w' => (w'.cell? ⟨w.heap.size, 0, none⟩ = some (.int .i64 0) ∧ w'.cell? ⟨w.heap.size, 1, none⟩ = some (.int .i64 0) ∧ w'.cell? ⟨w.heap.size, 2, none⟩ = some (.string ⟨#[]⟩)) ∧ (w'.cell? ⟨w.heap.size + 1, 0, none⟩ = some (.int .i64 0) ∧ w'.cell? ⟨w.heap.size + 1, 1, none⟩ = some (.int .i64 0) ∧ w'.cell? ⟨w.heap.size + 1, 2, none⟩ = some (.string ⟨#[]⟩)))
    (first | go_keep | exact HS3.out | exact HS2.out | exact HS1.out)
    (first
      | (go_at_call 88; refine (HD1.out).mono ?_; rintro e w1 ⟨rfl, hb1⟩; obtain ⟨HB1, HS1, HR1⟩ := stepD HB.out HS.out HR.out hb1; clear hb1 HD1; have HD2 := Lib.hid (HA.out w1))
      | (go_at_call 88; refine (HD2.out).mono ?_; rintro e w2 ⟨rfl, hb2⟩; obtain ⟨HB2, HS2, HR2⟩ := stepD HB1.out HS1.out HR1.out hb2; clear hb2 HD2)
      | (go_at_call 87; refine (HM.out _).mono ?_; rintro e w3 ⟨rfl, hb3⟩; obtain ⟨HB3, HS3, HR3⟩ := stepD HB2.out HS2.out HR2.out hb3; clear hb3; obtain ⟨⟨x0, x1, x2⟩, ⟨y0, y1, y2⟩⟩ := HS3.out; obtain ⟨⟨r0, r1, r2⟩, ⟨f0, f1, f2⟩⟩ := HR3.out))
  go_wp2
  exact bodyPost_ret (v := .agg #[.int .i64 3, .int .i64 0, .string ⟨#[]⟩]) (by simp [results, Tryz.results86, go_sem, r0, r1, r2]) rfl ⟨⟨_, rfl, _, _, rfl⟩, set3 HB3.out _ (by omega) _ _ _⟩

set_option maxRecDepth 100000 in
set_option maxHeartbeats 4000000 in
theorem mk2_und (w : World) : Calls Tryz.prog 89 #[undV, undV] w fun e w' => (∃ v, e = .returned v ∧ Emp v) ∧ Below w.heap.size w w' := by
  have HA := Lib.hid (fun w => num_und w)
  have HM := Lib.hid (fun w => number_any 0 w)
  have HB := Lib.hid (below_drewN (three_box w zeroO zeroO zeroO) 1)
  have HR := Lib.hid (res_mk w zeroO zeroO)
  have HS := Lib.hid (six_mk3 w)
  have n1 : ¬ w.heap.size = w.heap.size + 1 + 1 := by omega
  have n2 : ¬ w.heap.size + 1 + 1 = w.heap.size := by omega
  go_enter Tryz.func89, Tryz.ntmps89
  go_wp2_with fail
  obtain ⟨⟨a0, a1, a2⟩, ⟨b0, b1, b2⟩⟩ := HS.out
  have HD1 := Lib.hid (HA.out (((w.alloc zeroO).alloc zeroO).alloc zeroO).drew)
  go_region_held3 (fun w' => (w'.cell? ⟨w.heap.size, 0, none⟩ = some (.int .i64 0) ∧ w'.cell? ⟨w.heap.size, 1, none⟩ = some (.int .i64 0) ∧ w'.cell? ⟨w.heap.size, 2, none⟩ = some (.string ⟨#[]⟩)) ∧ (w'.cell? ⟨w.heap.size + 1, 0, none⟩ = some (.int .i64 0) ∧ w'.cell? ⟨w.heap.size + 1, 1, none⟩ = some (.int .i64 0) ∧ w'.cell? ⟨w.heap.size + 1, 2, none⟩ = some (.string ⟨#[]⟩)))
    (first | go_keep | exact HS3.out | exact HS2.out | exact HS1.out)
    (first
      | (go_at_call 88; refine (HD1.out).mono ?_; rintro e w1 ⟨rfl, hb1⟩; obtain ⟨HB1, HS1, HR1⟩ := stepD HB.out HS.out HR.out hb1; clear hb1 HD1; have HD2 := Lib.hid (HA.out w1))
      | (go_at_call 88; refine (HD2.out).mono ?_; rintro e w2 ⟨rfl, hb2⟩; obtain ⟨HB2, HS2, HR2⟩ := stepD HB1.out HS1.out HR1.out hb2; clear hb2 HD2)
      | (go_at_call 87; refine (HM.out _).mono ?_; rintro e w3 ⟨rfl, hb3⟩; obtain ⟨HB3, HS3, HR3⟩ := stepD HB2.out HS2.out HR2.out hb3; clear hb3; obtain ⟨⟨x0, x1, x2⟩, ⟨y0, y1, y2⟩⟩ := HS3.out; obtain ⟨⟨r0, r1, r2⟩, ⟨f0, f1, f2⟩⟩ := HR3.out))
  go_wp2
  exact bodyPost_ret (v := .agg #[.int .i64 3, .int .i64 0, .string ⟨#[]⟩]) (by simp [results, Tryz.results89, go_sem, r0, r1, r2]) rfl ⟨⟨_, rfl, _, _, rfl⟩, set3 HB3.out _ (by omega) _ _ _⟩

set_option maxRecDepth 100000 in
set_option maxHeartbeats 4000000 in
theorem mk3_und (w : World) : Calls Tryz.prog 90 #[undV, undV] w fun e w' => (∃ v, e = .returned v ∧ Emp v) ∧ Below w.heap.size w w' := by
  have HA := Lib.hid (fun w => order_und w)
  have HM := Lib.hid (fun w => truth_any false w)
  have HB := Lib.hid (three_box w zeroO zeroO zeroO)
  have HR := Lib.hid (res_mk w zeroO zeroO)
  have HS := Lib.hid (six_mk3 w)
  go_enter Tryz.func90, Tryz.ntmps90
  go_wp2_with fail
  go_at_call 92
  refine (HA.out _).mono ?_
  rintro e w1 ⟨rfl, hb1⟩
  obtain ⟨HB1, HS1, HR1⟩ := stepD HB.out HS.out HR.out hb1
  clear hb1
  go_wp2_with fail
  go_at_call 91
  refine (HM.out _).mono ?_
  rintro e w2 ⟨rfl, hb2⟩
  obtain ⟨HB2, HS2, HR2⟩ := stepD HB1.out HS1.out HR1.out hb2
  clear hb2
  obtain ⟨⟨r0, r1, r2⟩, ⟨f0, f1, f2⟩⟩ := HR2.out
  go_wp2
  exact bodyPost_ret (v := .agg #[.int .i64 2, .int .i64 0, .string ⟨#[]⟩]) (by simp [results, Tryz.results90, go_sem, r0, r1, r2]) rfl ⟨⟨_, rfl, _, _, rfl⟩, set3 HB2.out _ (by omega) _ _ _⟩

set_option maxRecDepth 100000 in
set_option maxHeartbeats 4000000 in
theorem mk4_und (w : World) : Calls Tryz.prog 93 #[undV, undV] w fun e w' => (∃ v, e = .returned v ∧ Emp v) ∧ Below w.heap.size w w' := by
  have HA := Lib.hid (fun w => order_und w)
  have HM := Lib.hid (fun w => truth_any true w)
  have HB := Lib.hid (three_box w zeroO zeroO zeroO)
  have HR := Lib.hid (res_mk w zeroO zeroO)
  have HS := Lib.hid (six_mk3 w)
  go_enter Tryz.func93, Tryz.ntmps93
  go_wp2_with fail
  go_at_call 92
  refine (HA.out _).mono ?_
  rintro e w1 ⟨rfl, hb1⟩
  obtain ⟨HB1, HS1, HR1⟩ := stepD HB.out HS.out HR.out hb1
  clear hb1
  go_wp2_with fail
  go_at_call 91
  refine (HM.out _).mono ?_
  rintro e w2 ⟨rfl, hb2⟩
  obtain ⟨HB2, HS2, HR2⟩ := stepD HB1.out HS1.out HR1.out hb2
  clear hb2
  obtain ⟨⟨r0, r1, r2⟩, ⟨f0, f1, f2⟩⟩ := HR2.out
  go_wp2
  exact bodyPost_ret (v := .agg #[.int .i64 2, .int .i64 1, .string ⟨#[]⟩]) (by simp [results, Tryz.results93, go_sem, r0, r1, r2]) rfl ⟨⟨_, rfl, _, _, rfl⟩, set3 HB2.out _ (by omega) _ _ _⟩

set_option maxRecDepth 100000 in
set_option maxHeartbeats 4000000 in
theorem mk5_und (w : World) : Calls Tryz.prog 94 #[undV, undV] w fun e w' => (∃ v, e = .returned v ∧ Emp v) ∧ Below w.heap.size w w' := by
  have HM := Lib.hid (fun w => truth_any true w)
  have HB := Lib.hid (three_box w zeroO zeroO zeroO)
  have HR := Lib.hid (res_mk w zeroO zeroO)
  have HS := Lib.hid (six_mk3 w)
  go_enter Tryz.func94, Tryz.ntmps94
  go_wp2_with fail
  go_at_call 91
  refine (HM.out _).mono ?_
  rintro e w2 ⟨rfl, hb2⟩
  obtain ⟨HB2, HS2, HR2⟩ := stepD HB.out HS.out HR.out hb2
  clear hb2
  obtain ⟨⟨r0, r1, r2⟩, ⟨f0, f1, f2⟩⟩ := HR2.out
  go_wp2
  exact bodyPost_ret (v := .agg #[.int .i64 2, .int .i64 1, .string ⟨#[]⟩]) (by simp [results, Tryz.results94, go_sem, r0, r1, r2]) rfl ⟨⟨_, rfl, _, _, rfl⟩, set3 HB2.out _ (by omega) _ _ _⟩

set_option maxRecDepth 100000 in
set_option maxHeartbeats 4000000 in
theorem mk6_und (w : World) : Calls Tryz.prog 95 #[undV, undV] w fun e w' => (∃ v, e = .returned v ∧ Emp v) ∧ Below w.heap.size w w' := by
  have HM := Lib.hid (fun w => truth_any false w)
  have HB := Lib.hid (three_box w zeroO zeroO zeroO)
  have HR := Lib.hid (res_mk w zeroO zeroO)
  have HS := Lib.hid (six_mk3 w)
  go_enter Tryz.func95, Tryz.ntmps95
  go_wp2_with fail
  go_at_call 91
  refine (HM.out _).mono ?_
  rintro e w2 ⟨rfl, hb2⟩
  obtain ⟨HB2, HS2, HR2⟩ := stepD HB.out HS.out HR.out hb2
  clear hb2
  obtain ⟨⟨r0, r1, r2⟩, ⟨f0, f1, f2⟩⟩ := HR2.out
  go_wp2
  exact bodyPost_ret (v := .agg #[.int .i64 2, .int .i64 0, .string ⟨#[]⟩]) (by simp [results, Tryz.results95, go_sem, r0, r1, r2]) rfl ⟨⟨_, rfl, _, _, rfl⟩, set3 HB2.out _ (by omega) _ _ _⟩
end Go.Proofs.YtconnhphkbgbkaaGreatDoor
