/- The law ValueOne's walk. -/
import Derived.Test.YtpgclgfaiklpoaaDoorShown
namespace Go.Proofs.YtpgclgfaiklpoaaDoor
open Go.RowKit Go.Proofs

theorem box_is (w : World) (k n : Int) (s : ByteArray) : BoxIs (w.alloc (boxO k n s)) w.heap.size k n s := boxIs_new w k n s

set_option maxRecDepth 100000 in
set_option maxHeartbeats 4000000 in
theorem one_not (k n : Int) (s : ByteArray) (w : World) (hE : Env w) (hr : rightB k n s = false) : Calls Tryd.prog 3 #[.agg #[.int .i64 k, .int .i64 n, .string s]] w fun e w' => e = .returned (.bool true) ∧ Below w.heap.size w w' := by
  have HE := Lib.hid (fun (w' : World) (hb : Below w.heap.size w w') => hE.kept hb)
  have BC := Lib.hid (below_box w (boxO k n s))
  have I1 := Lib.hid (box_is w k n s)
  have HH := Lib.hid (fun w hE => shown_any w hE)
  have R1 := Lib.hid (fun w => rright_any k n s w)
  have R2 := Lib.hid (fun w => right_any k n s w)
  rw [hr] at R1 R2
  clear hE hr
  go_enter Tryd.func3, Tryd.ntmps3
  obtain ⟨c00, c01, c02⟩ := I1.out
  go_wp2_with fail
  go_at_call 11
  refine (HH.out _ (HE.out _ BC.out)).mono ?_
  rintro e w1 ⟨rfl, hb⟩
  replace BC := stepE BC.out hb
  replace I1 := Lib.hid (I1.out.below hb)
  clear hb
  clear c00 c01 c02
  obtain ⟨c00, c01, c02⟩ := I1.out
  go_wp2_with fail
  go_at_call 12
  refine (R1.out _).mono ?_
  rintro e w2 ⟨rfl, hb⟩
  replace BC := stepE BC.out hb
  replace I1 := Lib.hid (I1.out.below hb)
  clear hb
  clear c00 c01 c02
  obtain ⟨c00, c01, c02⟩ := I1.out
  go_wp2_with fail
  go_at_call 13
  refine (R2.out _).mono ?_
  rintro e w3 ⟨rfl, hb⟩
  replace BC := stepE BC.out hb
  replace I1 := Lib.hid (I1.out.below hb)
  clear hb
  clear c00 c01 c02
  obtain ⟨c00, c01, c02⟩ := I1.out
  go_wp2
  go_ret
  exact ⟨rfl, BC.out⟩
set_option maxRecDepth 100000 in
set_option maxHeartbeats 4000000 in
theorem one_yes (k n : Int) (s : ByteArray) (w : World) (hE : Env w) (j : J) (hj : j.ok) (hv : .agg #[.int .i64 k, .int .i64 n, .string s] = j.v) (hr : rightB k n s = true) : Calls Tryd.prog 3 #[.agg #[.int .i64 k, .int .i64 n, .string s]] w fun e w' => e = .returned (.bool true) ∧ Below w.heap.size w w' := by
  have HE := Lib.hid (fun (w' : World) (hb : Below w.heap.size w w') => hE.kept hb)
  have BC := Lib.hid (below_box w (boxO k n s))
  have I1 := Lib.hid (box_is w k n s)
  have HH := Lib.hid (fun w hE => shown_any w hE)
  have R1 := Lib.hid (fun w => rright_any k n s w)
  have R2 := Lib.hid (fun w => right_any k n s w)
  have A1 := Lib.hid (fun w hE => key_any j hj w hE)
  have A2 := Lib.hid (fun w => rkey_any j hj w)
  have A3 := Lib.hid (fun w hE => num_any j hj w hE)
  have A4 := Lib.hid (fun w => rnum_any j hj w)
  have A5 := Lib.hid (fun w => truthy_any j w)
  have A6 := Lib.hid (fun w => rtruthy_any j w)
  have A7 := Lib.hid (fun w hE => neg_any j hj w hE)
  have A8 := Lib.hid (fun w => rneg_any j hj w)
  have A9 := Lib.hid (fun w => not_any j w)
  have A0 := Lib.hid (fun w => rnot_any j w)
  rw [hr] at R1 R2
  rw [← hv] at A1 A2 A3 A4 A5 A6 A7 A8 A9 A0
  generalize j.key = X at A1 A2
  generalize j.nr = m at A3 A4 A7 A8
  generalize j.truthy = t at A5 A6 A9 A0
  clear hE hr hv hj
  cases t
  all_goals
    simp only [J.v, Bool.not_true, Bool.not_false] at A7 A8 A9 A0
    go_enter Tryd.func3, Tryd.ntmps3
    obtain ⟨c00, c01, c02⟩ := I1.out
    go_wp2_with fail
    go_at_call 11
    refine (HH.out _ (HE.out _ BC.out)).mono ?_
    rintro e w1 ⟨rfl, hb⟩
    replace BC := stepE BC.out hb
    replace I1 := Lib.hid (I1.out.below hb)
    clear hb
    clear c00 c01 c02
    obtain ⟨c00, c01, c02⟩ := I1.out
    go_wp2_with fail
    go_at_call 12
    refine (R1.out _).mono ?_
    rintro e w2 ⟨rfl, hb⟩
    replace BC := stepE BC.out hb
    replace I1 := Lib.hid (I1.out.below hb)
    clear hb
    clear c00 c01 c02
    obtain ⟨c00, c01, c02⟩ := I1.out
    go_wp2_with fail
    go_at_call 13
    refine (R2.out _).mono ?_
    rintro e w3 ⟨rfl, hb⟩
    replace BC := stepE BC.out hb
    replace I1 := Lib.hid (I1.out.below hb)
    clear hb
    clear c00 c01 c02
    obtain ⟨c00, c01, c02⟩ := I1.out
    go_wp2_with fail
    replace BC := Lib.hid BC.out.drew
    replace I1 := Lib.hid I1.out.drew
    go_region_held3 (fun w' => (w'.cell? ⟨w.heap.size, 0, none⟩ = some (.int .i64 k) ∧ w'.cell? ⟨w.heap.size, 1, none⟩ = some (.int .i64 n) ∧ w'.cell? ⟨w.heap.size, 2, none⟩ = some (.string s)))
      (first | go_keep | exact I1.out)
      (first
        | (go_at_call 14; (with_reducible refine (A1.out _ (HE.out _ BC.out)).mono ?_); rintro e wx ⟨rfl, hb⟩; replace BC := stepE BC.out hb; replace I1 := Lib.hid (I1.out.below hb); clear hb)
        | (go_at_call 15; (with_reducible refine (A2.out _).mono ?_); rintro e wx ⟨rfl, hb⟩; replace BC := stepE BC.out hb; replace I1 := Lib.hid (I1.out.below hb); clear hb)
        | (go_at_call 16; (with_reducible refine (A3.out _ (HE.out _ BC.out)).mono ?_); rintro e wx ⟨rfl, hb⟩; replace BC := stepE BC.out hb; replace I1 := Lib.hid (I1.out.below hb); clear hb)
        | (go_at_call 17; (with_reducible refine (A4.out _).mono ?_); rintro e wx ⟨rfl, hb⟩; replace BC := stepE BC.out hb; replace I1 := Lib.hid (I1.out.below hb); clear hb)
        | (go_at_call 18; (with_reducible refine (A5.out _).mono ?_); rintro e wx ⟨rfl, hb⟩; replace BC := stepE BC.out hb; replace I1 := Lib.hid (I1.out.below hb); clear hb)
        | (go_at_call 19; (with_reducible refine (A6.out _).mono ?_); rintro e wx ⟨rfl, hb⟩; replace BC := stepE BC.out hb; replace I1 := Lib.hid (I1.out.below hb); clear hb)
        | (go_at_call 20; (with_reducible refine (A7.out _ (HE.out _ BC.out)).mono ?_); rintro e wx ⟨rfl, hb⟩; replace BC := stepE BC.out hb; replace I1 := Lib.hid (I1.out.below hb); clear hb)
        | (go_at_call 21; (with_reducible refine (A8.out _).mono ?_); rintro e wx ⟨rfl, hb⟩; replace BC := stepE BC.out hb; replace I1 := Lib.hid (I1.out.below hb); clear hb)
        | (go_at_call 22; (with_reducible refine (A9.out _).mono ?_); rintro e wx ⟨rfl, hb⟩; replace BC := stepE BC.out hb; replace I1 := Lib.hid (I1.out.below hb); clear hb)
        | (go_at_call 23; (with_reducible refine (A0.out _).mono ?_); rintro e wx ⟨rfl, hb⟩; replace BC := stepE BC.out hb; replace I1 := Lib.hid (I1.out.below hb); clear hb))
    go_wp2
    go_ret
    exact ⟨rfl, BC.out⟩
theorem one_walk (k n : Int) (s : ByteArray) (w : World) (hE : Env w) (hn : I64 n) (hs : s.size ≤ 281474976710656) : Calls Tryd.prog 3 #[.agg #[.int .i64 k, .int .i64 n, .string s]] w fun e w' => e = .returned (.bool true) ∧ Below w.heap.size w w' := by
  cases hr : rightB k n s with
  | false => exact one_not k n s w hE hr
  | true =>
    obtain ⟨j, hj, hv⟩ := rightB_iff k n s hn hs hr
    exact one_yes k n s w hE j hj hv hr
end Go.Proofs.YtpgclgfaiklpoaaDoor
