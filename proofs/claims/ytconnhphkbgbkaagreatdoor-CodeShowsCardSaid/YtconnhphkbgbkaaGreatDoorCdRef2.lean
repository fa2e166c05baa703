/- gumshoeref06.Two of undefined values; gumshoeref09.sign, number. -/
import Derived.Test.YtconnhphkbgbkaaGreatDoorCdSigns
import Derived.Test.YtconnhphkbgbkaaGreatDoorCdRef1
import Derived.Deep.QuietTactic
namespace Go.Proofs.YtconnhphkbgbkaaGreatDoor
open Go.RowKit Go.Proofs

set_option maxRecDepth 100000 in
set_option maxHeartbeats 2000000 in
theorem rnum_und (w : World) : Calls Tryz.prog 82 #[undV] w fun e w' => e = .returned (.int .i64 0) ∧ Below w.heap.size w w' := by
  have HB := Lib.hid (fun (o : Obj) => below_box w o)
  go_enter Tryz.func82, Tryz.ntmps82
  go_wp2
  go_ret
  exact ⟨rfl, HB.out _⟩
set_option maxHeartbeats 2000000 in
theorem rbool_any (b : Bool) (w : World) : Calls Tryz.prog 83 #[.bool b] w fun e w' => e = .returned (.agg #[.int .i64 2, .int .i64 (if b then 1 else 0), .string ⟨#[]⟩]) ∧ Below w.heap.size w w' := by
  cases b
  all_goals
    go_enter Tryz.func83, Tryz.ntmps83
    go_wp2
  · exact bodyPost_ret (v := .agg #[.int .i64 2, .int .i64 0, .string ⟨#[]⟩]) (by simp [results, Tryz.results83, go_sem]) rfl ⟨rfl, below_box _ _⟩
  · exact bodyPost_ret (v := .agg #[.int .i64 2, .int .i64 1, .string ⟨#[]⟩]) (by simp [results, Tryz.results83, go_sem]) rfl ⟨rfl, below_box _ _⟩
set_option maxRecDepth 100000 in
set_option maxHeartbeats 4000000 in
theorem rless_und (w : World) : Calls Tryz.prog 84 #[undV, undV] w fun e w' => e = .returned (.int .i64 0) ∧ Below w.heap.size w w' := by
  have HA := Lib.hid (fun w => rnum_und w)
  have HB := Lib.hid (two_box w zeroO zeroO)
  have HS := Lib.hid (six_mk w)
  go_enter Tryz.func84, Tryz.ntmps84
  go_wp2_with fail
  go_at_call 82
  refine (HA.out _).mono ?_
  rintro e w1 ⟨rfl, hb1⟩
  have HB1 := Lib.hid (HB.out.trans (hb1.mono HB.out.size))
  obtain ⟨⟨a0, a1, a2⟩, ⟨b0, b1, b2⟩⟩ := HS.out.below hb1
  clear hb1
  go_wp2_with (go_at_call 82; refine (HA.out _).mono ?_; rintro e w2 ⟨rfl, hb2⟩)
  go_ret
  exact ⟨rfl, HB1.out.trans (hb2.mono HB1.out.size)⟩
set_option maxRecDepth 100000 in
set_option maxHeartbeats 4000000 in
theorem rtwo_none (s : ByteArray) (w : World) (hn : isSignN s.data.toList = false) : Calls Tryz.prog 74 #[.string s, undV, undV] w (TwoU w 60) := by
  have HB := Lib.hid (three_box w zeroO zeroO zeroO)
  have key : ∀ l : Bs, isSignN l = true → (s.toList == l) = false := fun l h => by
    rw [beq_eq_false_iff_ne, Lib.toList_data]
    intro e
    rw [e] at hn
    exact Bool.noConfusion (hn.symm.trans h)
  have e0 : (s.toList == ([43] : Bs)) = false := key [43] rfl
  have e1 : (s.toList == ([45] : Bs)) = false := key [45] rfl
  have e2 : (s.toList == ([42] : Bs)) = false := key [42] rfl
  have e3 : (s.toList == ([60] : Bs)) = false := key [60] rfl
  have e4 : (s.toList == ([60, 61] : Bs)) = false := key [60, 61] rfl
  have e5 : (s.toList == ([61, 61, 61] : Bs)) = false := key [61, 61, 61] rfl
  have e6 : (s.toList == ([33, 61, 61] : Bs)) = false := key [33, 61, 61] rfl
  clear key hn
  go_enter Tryz.func74, Tryz.ntmps74
  go_wp2
  exact bodyPost_ret (v := .tuple #[.agg #[.int .i64 0, .int .i64 0, .string ⟨#[]⟩], .int .i64 60]) (by simp [results, Tryz.results74, go_sem]) rfl ⟨⟨_, _, rfl⟩, HB.out⟩

set_option maxRecDepth 100000 in
set_option maxHeartbeats 4000000 in
theorem rtwo_s0 (w : World) : Calls Tryz.prog 74 #[.string ⟨#[43]⟩, undV, undV] w (TwoU w 0) := by
  have e0 : ((⟨#[43]⟩ : ByteArray).toList == (⟨#[43]⟩ : ByteArray).toList) = true := by kernel_rfl
  have HB := Lib.hid (three_box w zeroO zeroO zeroO)
  have HS := Lib.hid (six_mk3 w)
  have HR := Lib.hid (res_mk w zeroO zeroO)
  have n1 : ¬ w.heap.size = w.heap.size + 1 + 1 := by omega
  have n2 : ¬ w.heap.size + 1 + 1 = w.heap.size := by omega
  have HA := Lib.hid (fun w => rnum_und w)
  have HB1 := Lib.hid (below_drewN HB.out 1)
  go_enter Tryz.func74, Tryz.ntmps74
  go_wp2_with fail
  obtain ⟨⟨a0, a1, a2⟩, ⟨b0, b1, b2⟩⟩ := HS.out
  have HD1 := Lib.hid (HA.out (((w.alloc zeroO).alloc zeroO).alloc zeroO).drew)
  go_region_held3 (fun w' => (w'.cell? ⟨w.heap.size, 0, none⟩ = some (.int .i64 0) ∧ w'.cell? ⟨w.heap.size, 1, none⟩ = some (.int .i64 0) ∧ w'.cell? ⟨w.heap.size, 2, none⟩ = some (.string ⟨#[]⟩)) ∧ (w'.cell? ⟨w.heap.size + 1, 0, none⟩ = some (.int .i64 0) ∧ w'.cell? ⟨w.heap.size + 1, 1, none⟩ = some (.int .i64 0) ∧ w'.cell? ⟨w.heap.size + 1, 2, none⟩ = some (.string ⟨#[]⟩)))
    (first | go_keep | exact HS2.out | exact HS1.out)
    (first
      | (go_at_call 82; refine (HD1.out).mono ?_; rintro e w1 ⟨rfl, hb1⟩; obtain ⟨HC1, HS1, HR1⟩ := stepD HB1.out HS.out HR.out hb1; clear hb1 HD1; have HD2 := Lib.hid (HA.out w1))
      | (go_at_call 82; refine (HD2.out).mono ?_; rintro e w2 ⟨rfl, hb2⟩; obtain ⟨HC2, HS2, HR2⟩ := stepD HC1.out HS1.out HR1.out hb2; clear hb2 HD2; obtain ⟨⟨r0, r1, r2⟩, ⟨f0, f1, f2⟩⟩ := HR2.out))
  go_wp2
  exact bodyPost_ret (v := .tuple #[.agg #[.int .i64 3, .int .i64 0, .string ⟨#[]⟩], .int .i64 0]) (by simp [results, Tryz.results74, go_sem, r0, r1, r2]; rfl) rfl ⟨⟨_, _, rfl⟩, set3 HC2.out _ (by omega) _ _ _⟩

set_option maxRecDepth 100000 in
set_option maxHeartbeats 4000000 in
theorem rtwo_s1 (w : World) : Calls Tryz.prog 74 #[.string ⟨#[45]⟩, undV, undV] w (TwoU w 0) := by
  have e0 : ((⟨#[45]⟩ : ByteArray).toList == (⟨#[43]⟩ : ByteArray).toList) = false := by kernel_rfl
  have e1 : ((⟨#[45]⟩ : ByteArray).toList == (⟨#[45]⟩ : ByteArray).toList) = true := by kernel_rfl
  have HB := Lib.hid (three_box w zeroO zeroO zeroO)
  have HS := Lib.hid (six_mk3 w)
  have HR := Lib.hid (res_mk w zeroO zeroO)
  have n1 : ¬ w.heap.size = w.heap.size + 1 + 1 := by omega
  have n2 : ¬ w.heap.size + 1 + 1 = w.heap.size := by omega
  have HA := Lib.hid (fun w => rnum_und w)
  have HB1 := Lib.hid (below_drewN HB.out 1)
  go_enter Tryz.func74, Tryz.ntmps74
  go_wp2_with fail
  obtain ⟨⟨a0, a1, a2⟩, ⟨b0, b1, b2⟩⟩ := HS.out
  have HD1 := Lib.hid (HA.out (((w.alloc zeroO).alloc zeroO).alloc zeroO).drew)
  go_region_held3 (fun w' => (w'.cell? ⟨w.heap.size, 0, none⟩ = some (.int .i64 0) ∧ w'.cell? ⟨w.heap.size, 1, none⟩ = some (.int .i64 0) ∧ w'.cell? ⟨w.heap.size, 2, none⟩ = some (.string ⟨#[]⟩)) ∧ (w'.cell? ⟨w.heap.size + 1, 0, none⟩ = some (.int .i64 0) ∧ w'.cell? ⟨w.heap.size + 1, 1, none⟩ = some (.int .i64 0) ∧ w'.cell? ⟨w.heap.size + 1, 2, none⟩ = some (.string ⟨#[]⟩)))
    (first | go_keep | exact HS2.out | exact HS1.out)
    (first
      | (go_at_call 82; refine (HD1.out).mono ?_; rintro e w1 ⟨rfl, hb1⟩; obtain ⟨HC1, HS1, HR1⟩ := stepD HB1.out HS.out HR.out hb1; clear hb1 HD1; have HD2 := Lib.hid (HA.out w1))
      | (go_at_call 82; refine (HD2.out).mono ?_; rintro e w2 ⟨rfl, hb2⟩; obtain ⟨HC2, HS2, HR2⟩ := stepD HC1.out HS1.out HR1.out hb2; clear hb2 HD2; obtain ⟨⟨r0, r1, r2⟩, ⟨f0, f1, f2⟩⟩ := HR2.out))
  go_wp2
  exact bodyPost_ret (v := .tuple #[.agg #[.int .i64 3, .int .i64 0, .string ⟨#[]⟩], .int .i64 0]) (by simp [results, Tryz.results74, go_sem, r0, r1, r2]; rfl) rfl ⟨⟨_, _, rfl⟩, set3 HC2.out _ (by omega) _ _ _⟩

set_option maxRecDepth 100000 in
set_option maxHeartbeats 4000000 in
theorem rtwo_s2 (w : World) : Calls Tryz.prog 74 #[.string ⟨#[42]⟩, undV, undV] w (TwoU w 0) := by
  have e0 : ((⟨#[42]⟩ : ByteArray).toList == (⟨#[43]⟩ : ByteArray).toList) = false := by kernel_rfl
  have e1 : ((⟨#[42]⟩ : ByteArray).toList == (⟨#[45]⟩ : ByteArray).toList) = false := by kernel_rfl
  have e2 : ((⟨#[42]⟩ : ByteArray).toList == (⟨#[42]⟩ : ByteArray).toList) = true := by kernel_rfl
  have HB := Lib.hid (three_box w zeroO zeroO zeroO)
  have HS := Lib.hid (six_mk3 w)
  have HR := Lib.hid (res_mk w zeroO zeroO)
  have n1 : ¬ w.heap.size = w.heap.size + 1 + 1 := by omega
  have n2 : ¬ w.heap.size + 1 + 1 = w.heap.size := by omega
  have HA := Lib.hid (fun w => rnum_und w)
  have HB1 := Lib.hid (below_drewN HB.out 1)
  go_enter Tryz.func74, Tryz.ntmps74
  go_wp2_with fail
  obtain ⟨⟨a0, a1, a2⟩, ⟨b0, b1, b2⟩⟩ := HS.out
  have HD1 := Lib.hid (HA.out (((w.alloc zeroO).alloc zeroO).alloc zeroO).drew)
  go_region_held3 (fun w' => (w'.cell? ⟨w.heap.size, 0, none⟩ = some (.int .i64 0) ∧ w'.cell? ⟨w.heap.size, 1, none⟩ = some (.int .i64 0) ∧ w'.cell? ⟨w.heap.size, 2, none⟩ = some (.string ⟨#[]⟩)) ∧ (w'.cell? ⟨w.heap.size + 1, 0, none⟩ = some (.int .i64 0) ∧ w'.cell? ⟨w.heap.size + 1, 1, none⟩ = some (.int .i64 0) ∧ w'.cell? ⟨w.heap.size + 1, 2, none⟩ = some (.string ⟨#[]⟩)))
    (first | go_keep | exact HS2.out | exact HS1.out)
    (first
      | (go_at_call 82; refine (HD1.out).mono ?_; rintro e w1 ⟨rfl, hb1⟩; obtain ⟨HC1, HS1, HR1⟩ := stepD HB1.out HS.out HR.out hb1; clear hb1 HD1; have HD2 := Lib.hid (HA.out w1))
      | (go_at_call 82; refine (HD2.out).mono ?_; rintro e w2 ⟨rfl, hb2⟩; obtain ⟨HC2, HS2, HR2⟩ := stepD HC1.out HS1.out HR1.out hb2; clear hb2 HD2; obtain ⟨⟨r0, r1, r2⟩, ⟨f0, f1, f2⟩⟩ := HR2.out))
  go_wp2
  exact bodyPost_ret (v := .tuple #[.agg #[.int .i64 3, .int .i64 0, .string ⟨#[]⟩], .int .i64 0]) (by simp [results, Tryz.results74, go_sem, r0, r1, r2]; rfl) rfl ⟨⟨_, _, rfl⟩, set3 HC2.out _ (by omega) _ _ _⟩

set_option maxRecDepth 100000 in
set_option maxHeartbeats 4000000 in
theorem rtwo_s3 (w : World) : Calls Tryz.prog 74 #[.string ⟨#[60]⟩, undV, undV] w (TwoU w 0) := by
  have e0 : ((⟨#[60]⟩ : ByteArray).toList == (⟨#[43]⟩ : ByteArray).toList) = false := by kernel_rfl
  have e1 : ((⟨#[60]⟩ : ByteArray).toList == (⟨#[45]⟩ : ByteArray).toList) = false := by kernel_rfl
  have e2 : ((⟨#[60]⟩ : ByteArray).toList == (⟨#[42]⟩ : ByteArray).toList) = false := by kernel_rfl
  have e3 : ((⟨#[60]⟩ : ByteArray).toList == (⟨#[60]⟩ : ByteArray).toList) = true := by kernel_rfl
  have HB := Lib.hid (three_box w zeroO zeroO zeroO)
  have HS := Lib.hid (six_mk3 w)
  have HR := Lib.hid (res_mk w zeroO zeroO)
  have n1 : ¬ w.heap.size = w.heap.size + 1 + 1 := by omega
  have n2 : ¬ w.heap.size + 1 + 1 = w.heap.size := by omega
  have HM := Lib.hid (fun w => rbool_any false w)
  have HA := Lib.hid (fun w => rless_und w)
  go_enter Tryz.func74, Tryz.ntmps74
  go_wp2_with fail
  go_at_call 84
  refine (HA.out _).mono ?_
  rintro e w1 ⟨rfl, hb1⟩
  obtain ⟨HC1, HS1, HR1⟩ := stepD HB.out HS.out HR.out hb1
  clear hb1
  go_wp2_with fail
  go_at_call 83
  refine (HM.out _).mono ?_
  rintro e w2 ⟨rfl, hb2⟩
  obtain ⟨HC2, HS2, HR2⟩ := stepD HC1.out HS1.out HR1.out hb2
  clear hb2
  obtain ⟨⟨r0, r1, r2⟩, ⟨f0, f1, f2⟩⟩ := HR2.out
  go_wp2
  exact bodyPost_ret (v := .tuple #[.agg #[.int .i64 2, .int .i64 0, .string ⟨#[]⟩], .int .i64 0]) (by simp [results, Tryz.results74, go_sem, r0, r1, r2]) rfl ⟨⟨_, _, rfl⟩, set3 HC2.out _ (by omega) _ _ _⟩

set_option maxRecDepth 100000 in
set_option maxHeartbeats 4000000 in
theorem rtwo_s4 (w : World) : Calls Tryz.prog 74 #[.string ⟨#[60, 61]⟩, undV, undV] w (TwoU w 0) := by
  have e0 : ((⟨#[60, 61]⟩ : ByteArray).toList == (⟨#[43]⟩ : ByteArray).toList) = false := by kernel_rfl
  have e1 : ((⟨#[60, 61]⟩ : ByteArray).toList == (⟨#[45]⟩ : ByteArray).toList) = false := by kernel_rfl
  have e2 : ((⟨#[60, 61]⟩ : ByteArray).toList == (⟨#[42]⟩ : ByteArray).toList) = false := by kernel_rfl
  have e3 : ((⟨#[60, 61]⟩ : ByteArray).toList == (⟨#[60]⟩ : ByteArray).toList) = false := by kernel_rfl
  have e4 : ((⟨#[60, 61]⟩ : ByteArray).toList == (⟨#[60, 61]⟩ : ByteArray).toList) = true := by kernel_rfl
  have HB := Lib.hid (three_box w zeroO zeroO zeroO)
  have HS := Lib.hid (six_mk3 w)
  have HR := Lib.hid (res_mk w zeroO zeroO)
  have n1 : ¬ w.heap.size = w.heap.size + 1 + 1 := by omega
  have n2 : ¬ w.heap.size + 1 + 1 = w.heap.size := by omega
  have HM := Lib.hid (fun w => rbool_any true w)
  have HA := Lib.hid (fun w => rless_und w)
  go_enter Tryz.func74, Tryz.ntmps74
  go_wp2_with fail
  go_at_call 84
  refine (HA.out _).mono ?_
  rintro e w1 ⟨rfl, hb1⟩
  obtain ⟨HC1, HS1, HR1⟩ := stepD HB.out HS.out HR.out hb1
  clear hb1
  go_wp2_with fail
  go_at_call 83
  refine (HM.out _).mono ?_
  rintro e w2 ⟨rfl, hb2⟩
  obtain ⟨HC2, HS2, HR2⟩ := stepD HC1.out HS1.out HR1.out hb2
  clear hb2
  obtain ⟨⟨r0, r1, r2⟩, ⟨f0, f1, f2⟩⟩ := HR2.out
  go_wp2
  exact bodyPost_ret (v := .tuple #[.agg #[.int .i64 2, .int .i64 1, .string ⟨#[]⟩], .int .i64 0]) (by simp [results, Tryz.results74, go_sem, r0, r1, r2]) rfl ⟨⟨_, _, rfl⟩, set3 HC2.out _ (by omega) _ _ _⟩

set_option maxRecDepth 100000 in
set_option maxHeartbeats 4000000 in
theorem rtwo_s5 (w : World) : Calls Tryz.prog 74 #[.string ⟨#[61, 61, 61]⟩, undV, undV] w (TwoU w 0) := by
  have e0 : ((⟨#[61, 61, 61]⟩ : ByteArray).toList == (⟨#[43]⟩ : ByteArray).toList) = false := by kernel_rfl
  have e1 : ((⟨#[61, 61, 61]⟩ : ByteArray).toList == (⟨#[45]⟩ : ByteArray).toList) = false := by kernel_rfl
  have e2 : ((⟨#[61, 61, 61]⟩ : ByteArray).toList == (⟨#[42]⟩ : ByteArray).toList) = false := by kernel_rfl
  have e3 : ((⟨#[61, 61, 61]⟩ : ByteArray).toList == (⟨#[60]⟩ : ByteArray).toList) = false := by kernel_rfl
  have e4 : ((⟨#[61, 61, 61]⟩ : ByteArray).toList == (⟨#[60, 61]⟩ : ByteArray).toList) = false := by kernel_rfl
  have e5 : ((⟨#[61, 61, 61]⟩ : ByteArray).toList == (⟨#[61, 61, 61]⟩ : ByteArray).toList) = true := by kernel_rfl
  have HB := Lib.hid (three_box w zeroO zeroO zeroO)
  have HS := Lib.hid (six_mk3 w)
  have HR := Lib.hid (res_mk w zeroO zeroO)
  have n1 : ¬ w.heap.size = w.heap.size + 1 + 1 := by omega
  have n2 : ¬ w.heap.size + 1 + 1 = w.heap.size := by omega
  have HM := Lib.hid (fun w => rbool_any true w)
  have HC1 := HB
  have HS1 := HS
  have HR1 := HR
  go_enter Tryz.func74, Tryz.ntmps74
  go_wp2_with fail
  go_at_call 83
  refine (HM.out _).mono ?_
  rintro e w2 ⟨rfl, hb2⟩
  obtain ⟨HC2, HS2, HR2⟩ := stepD HC1.out HS1.out HR1.out hb2
  clear hb2
  obtain ⟨⟨r0, r1, r2⟩, ⟨f0, f1, f2⟩⟩ := HR2.out
  go_wp2
  exact bodyPost_ret (v := .tuple #[.agg #[.int .i64 2, .int .i64 1, .string ⟨#[]⟩], .int .i64 0]) (by simp [results, Tryz.results74, go_sem, r0, r1, r2]) rfl ⟨⟨_, _, rfl⟩, set3 HC2.out _ (by omega) _ _ _⟩

set_option maxRecDepth 100000 in
set_option maxHeartbeats 4000000 in
theorem rtwo_s6 (w : World) : Calls Tryz.prog 74 #[.string ⟨#[33, 61, 61]⟩, undV, undV] w (TwoU w 0) := by
  have e0 : ((⟨#[33, 61, 61]⟩ : ByteArray).toList == (⟨#[43]⟩ : ByteArray).toList) = false := by kernel_rfl
  have e1 : ((⟨#[33, 61, 61]⟩ : ByteArray).toList == (⟨#[45]⟩ : ByteArray).toList) = false := by kernel_rfl
  have e2 : ((⟨#[33, 61, 61]⟩ : ByteArray).toList == (⟨#[42]⟩ : ByteArray).toList) = false := by kernel_rfl
  have e3 : ((⟨#[33, 61, 61]⟩ : ByteArray).toList == (⟨#[60]⟩ : ByteArray).toList) = false := by kernel_rfl
  have e4 : ((⟨#[33, 61, 61]⟩ : ByteArray).toList == (⟨#[60, 61]⟩ : ByteArray).toList) = false := by kernel_rfl
  have e5 : ((⟨#[33, 61, 61]⟩ : ByteArray).toList == (⟨#[61, 61, 61]⟩ : ByteArray).toList) = false := by kernel_rfl
  have e6 : ((⟨#[33, 61, 61]⟩ : ByteArray).toList == (⟨#[33, 61, 61]⟩ : ByteArray).toList) = true := by kernel_rfl
  have HB := Lib.hid (three_box w zeroO zeroO zeroO)
  have HS := Lib.hid (six_mk3 w)
  have HR := Lib.hid (res_mk w zeroO zeroO)
  have n1 : ¬ w.heap.size = w.heap.size + 1 + 1 := by omega
  have n2 : ¬ w.heap.size + 1 + 1 = w.heap.size := by omega
  have HM := Lib.hid (fun w => rbool_any false w)
  have HC1 := HB
  have HS1 := HS
  have HR1 := HR
  go_enter Tryz.func74, Tryz.ntmps74
  go_wp2_with fail
  go_at_call 83
  refine (HM.out _).mono ?_
  rintro e w2 ⟨rfl, hb2⟩
  obtain ⟨HC2, HS2, HR2⟩ := stepD HC1.out HS1.out HR1.out hb2
  clear hb2
  obtain ⟨⟨r0, r1, r2⟩, ⟨f0, f1, f2⟩⟩ := HR2.out
  go_wp2
  exact bodyPost_ret (v := .tuple #[.agg #[.int .i64 2, .int .i64 0, .string ⟨#[]⟩], .int .i64 0]) (by simp [results, Tryz.results74, go_sem, r0, r1, r2]) rfl ⟨⟨_, _, rfl⟩, set3 HC2.out _ (by omega) _ _ _⟩

theorem rtwo_und (s : ByteArray) (w : World) : Calls Tryz.prog 74 #[.string s, undV, undV] w (TwoU w (if isSignB s = true then 0 else 60)) := by
  have of : ∀ l : Bs, s.data.toList = l → s = ⟨l.toArray⟩ := fun l h => by subst h; rfl
  rcases sign_cases s.data.toList with h | h | h | h | h | h | h | h
  · rw [isSign_no h]
    exact rtwo_none s w h
  · rw [of _ h]
    exact rtwo_s0 w
  · rw [of _ h]
    exact rtwo_s1 w
  · rw [of _ h]
    exact rtwo_s2 w
  · rw [of _ h]
    exact rtwo_s3 w
  · rw [of _ h]
    exact rtwo_s4 w
  · rw [of _ h]
    exact rtwo_s5 w
  · rw [of _ h]
    exact rtwo_s6 w

set_option maxHeartbeats 2000000 in
theorem sign_any (s : ByteArray) (w : World) : Calls Tryz.prog 60 #[.string s] w fun e w' => e = .returned (.bool (isSignB s)) ∧ Below w.heap.size w w' := by
  have HT := Lib.hid (rtwo_und s w)
  cases hs : isSignB s
  all_goals
    rw [hs] at HT
    clear hs
    go_enter Tryz.func60, Tryz.ntmps60
    go_wp2_with (go_at_call 74; refine HT.out.mono ?_; rintro e w1 ⟨⟨k, n, rfl⟩, hb1⟩)
    go_ret
    exact ⟨rfl, hb1.alloc hb1.size _⟩
end Go.Proofs.YtconnhphkbgbkaaGreatDoor
