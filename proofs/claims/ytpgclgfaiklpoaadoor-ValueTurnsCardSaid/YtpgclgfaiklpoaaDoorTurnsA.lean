/- The law ValueTurns' walk: where it says nothing; cells. -/
import Derived.Test.YtpgclgfaiklpoaaDoorLawOne
namespace Go.Proofs.YtpgclgfaiklpoaaDoor
open Go.RowKit Go.Proofs

theorem res_new (W : World) : Res W.heap.size (W.alloc zeroO) :=
  ⟨⟨World.cell?_alloc_new _ _ _ 0, World.cell?_alloc_new _ _ _ 1, World.cell?_alloc_new _ _ _ 2⟩, ⟨World.frozen?_alloc_new _ _ _ 0, World.frozen?_alloc_new _ _ _ 1, World.frozen?_alloc_new _ _ _ 2⟩⟩
theorem Res.drew {B : Nat} {W : World} (h : Res B W) : Res B W.drew := h
theorem res_new2 (W : World) (o : Obj) : Res (W.heap.size + 1) ((W.alloc o).alloc zeroO) := by
  have h := res_new (W.alloc o)
  rwa [World.size_alloc] at h
theorem Res.set {B : Nat} {W : World} (h : Res B W) (k n : Int) (s : ByteArray) : BoxIs (((W.setCell ⟨B, 0, none⟩ (.int .i64 k)).setCell ⟨B, 1, none⟩ (.int .i64 n)).setCell ⟨B, 2, none⟩ (.string s)) B k n s := by
  obtain ⟨⟨z0, z1, z2⟩, _⟩ := h
  refine ⟨?_, ?_, ?_⟩
  all_goals simp [go_sem, z0, z1, z2]
theorem BoxIs.set3 {b B : Nat} {W : World} {k n : Int} {s : ByteArray} (h : BoxIs W b k n s) (hne : b ≠ B) (x y z : Value) : BoxIs (((W.setCell ⟨B, 0, none⟩ x).setCell ⟨B, 1, none⟩ y).setCell ⟨B, 2, none⟩ z) b k n s := by
  obtain ⟨z0, z1, z2⟩ := h
  refine ⟨?_, ?_, ?_⟩
  all_goals simp [go_sem, z0, z1, z2]
set_option maxRecDepth 100000 in
set_option maxHeartbeats 4000000 in
theorem turns_not (k n : Int) (s : ByteArray) (w : World) (hE : Env w) (hr : rightB k n s = false) : Calls Tryd.prog 10 #[.agg #[.int .i64 k, .int .i64 n, .string s]] w fun e w' => e = .returned (.bool true) ∧ Below w.heap.size w w' := by
  have HE := Lib.hid (fun (w' : World) (hb : Below w.heap.size w w') => hE.kept hb)
  have BC := Lib.hid (below_box w (boxO k n s))
  have I1 := Lib.hid (box_is w k n s)
  have HH := Lib.hid (fun w hE => shown_any w hE)
  have R1 := Lib.hid (fun w => right_any k n s w)
  rw [hr] at R1
  clear hE hr
  go_enter Tryd.func10, Tryd.ntmps10
  obtain ⟨c00, c01, c02⟩ := I1.out
  go_wp2_with fail
  go_at_call 11
  refine (HH.out _ (HE.out _ BC.out)).mono ?_
  rintro e w1 ⟨rfl, hb⟩
  replace BC := stepE BC.out hb
  replace I1 := Lib.hid (I1.out.below hb)
  clear hb
  clear c00 c01 c02
  obtain ⟨c00, c01, c02⟩ := I1.out
  go_wp2_with fail
  go_at_call 13
  refine (R1.out _).mono ?_
  rintro e w2 ⟨rfl, hb⟩
  replace BC := stepE BC.out hb
  replace I1 := Lib.hid (I1.out.below hb)
  clear hb
  clear c00 c01 c02
  obtain ⟨c00, c01, c02⟩ := I1.out
  go_wp2
  go_ret
  exact ⟨rfl, BC.out⟩
end Go.Proofs.YtpgclgfaiklpoaaDoor
