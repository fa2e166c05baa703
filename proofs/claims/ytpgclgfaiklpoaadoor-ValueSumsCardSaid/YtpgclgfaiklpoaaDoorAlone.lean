/- What is made of a value alone: its key, number, truth; Neg, Not. -/
import Derived.Test.YtpgclgfaiklpoaaDoorRNum
namespace Go.Proofs.YtpgclgfaiklpoaaDoor
open Go.RowKit Go.Proofs

/-- A value's key. -/
def J.key : J → ByteArray
  | .undef => ⟨#[117, 110, 100, 101, 102, 105, 110, 101, 100]⟩
  | .null => ⟨#[110, 117, 108, 108]⟩
  | .bool true => ⟨#[116, 114, 117, 101]⟩
  | .bool false => ⟨#[102, 97, 108, 115, 101]⟩
  | .num n => kb (Lib.itoa n)
  | .text s => s
  | .ref _ => ⟨#[91, 111, 98, 106, 101, 99, 116, 93]⟩
/-- A value's number. -/
def J.nr : J → Int
  | .bool b => bn b
  | .num n => n
  | .text s => numL s.data.toList
  | _ => 0
/-- Does it count as true. -/
def J.truthy : J → Bool
  | .undef => false
  | .null => false
  | .bool b => b
  | .num n => !(n == 0)
  | .text s => !s.toList.isEmpty
  | .ref _ => true
theorem J.nr_i64 (j : J) (h : j.ok) : I64 j.nr := by
  rcases j with _ | _ | (_ | _) | n | s | n
  all_goals first | exact h | exact numL_i64 _ | exact ⟨by simp [J.nr, bn], by simp [J.nr, bn]⟩

set_option maxHeartbeats 1000000 in
theorem truth_any (b : Bool) (w : World) : Calls Tryd.prog 28 #[.bool b] w fun e w' => e = .returned (J.bool b).v ∧ Below w.heap.size w w' := by
  cases b
  all_goals
    simp only [J.v]
    go_enter Tryd.func28, Tryd.ntmps28
    go_wp2
  · exact bodyPost_ret (v := .agg #[.int .i64 2, .int .i64 0, .string ⟨#[]⟩]) (by simp [results, Tryd.results28, go_sem]) rfl ⟨rfl, ((Below.refl _ _).alloc (Nat.le_refl _) _).alloc (by simp) _⟩
  · exact bodyPost_ret (v := .agg #[.int .i64 2, .int .i64 1, .string ⟨#[]⟩]) (by simp [results, Tryd.results28, go_sem]) rfl ⟨rfl, ((Below.refl _ _).alloc (Nat.le_refl _) _).alloc (by simp) _⟩
set_option maxHeartbeats 1000000 in
theorem rbool_any (b : Bool) (w : World) : Calls Tryd.prog 34 #[.bool b] w fun e w' => e = .returned (J.bool b).v ∧ Below w.heap.size w w' := by
  cases b
  all_goals
    simp only [J.v]
    go_enter Tryd.func34, Tryd.ntmps34
    go_wp2
  · exact bodyPost_ret (v := .agg #[.int .i64 2, .int .i64 0, .string ⟨#[]⟩]) (by simp [results, Tryd.results34, go_sem]) rfl ⟨rfl, ((Below.refl _ _).alloc (Nat.le_refl _) _)⟩
  · exact bodyPost_ret (v := .agg #[.int .i64 2, .int .i64 1, .string ⟨#[]⟩]) (by simp [results, Tryd.results34, go_sem]) rfl ⟨rfl, ((Below.refl _ _).alloc (Nat.le_refl _) _)⟩
set_option maxHeartbeats 1000000 in
theorem number_any (n : Int) (w : World) : Calls Tryd.prog 32 #[.int .i64 n] w fun e w' => e = .returned (J.num n).v ∧ Below w.heap.size w w' := by
  simp only [J.v]
  go_enter Tryd.func32, Tryd.ntmps32
  go_wp2
  exact bodyPost_ret (v := .agg #[.int .i64 3, .int .i64 n, .string ⟨#[]⟩]) (by simp [results, Tryd.results32, go_sem]) rfl ⟨rfl, ((Below.refl _ _).alloc (Nat.le_refl _) _)⟩
set_option maxHeartbeats 1000000 in
theorem num_mk (n : Int) (w : World) : Calls Tryd.prog 26 #[.int .i64 n] w fun e w' => e = .returned (J.num n).v ∧ Below w.heap.size w w' := by
  simp only [J.v]
  go_enter Tryd.func26, Tryd.ntmps26
  go_wp2
  exact bodyPost_ret (v := .agg #[.int .i64 3, .int .i64 n, .string ⟨#[]⟩]) (by simp [results, Tryd.results26, go_sem]) rfl ⟨rfl, ((Below.refl _ _).alloc (Nat.le_refl _) _)⟩
set_option maxHeartbeats 1000000 in
theorem text_any (s : ByteArray) (w : World) : Calls Tryd.prog 33 #[.string s] w fun e w' => e = .returned (J.text s).v ∧ Below w.heap.size w w' := by
  simp only [J.v]
  go_enter Tryd.func33, Tryd.ntmps33
  go_wp2
  exact bodyPost_ret (v := .agg #[.int .i64 4, .int .i64 0, .string s]) (by simp [results, Tryd.results33, go_sem]) rfl ⟨rfl, ((Below.refl _ _).alloc (Nat.le_refl _) _)⟩
set_option maxHeartbeats 1000000 in
theorem text_mk (s : ByteArray) (w : World) : Calls Tryd.prog 27 #[.string s] w fun e w' => e = .returned (J.text s).v ∧ Below w.heap.size w w' := by
  simp only [J.v]
  go_enter Tryd.func27, Tryd.ntmps27
  go_wp2
  exact bodyPost_ret (v := .agg #[.int .i64 4, .int .i64 0, .string s]) (by simp [results, Tryd.results27, go_sem]) rfl ⟨rfl, ((Below.refl _ _).alloc (Nat.le_refl _) _)⟩

set_option maxRecDepth 100000 in
set_option maxHeartbeats 2000000 in
theorem num_any (j : J) (hj : j.ok) (w : World) (hE : Env w) : Calls Tryd.prog 16 #[j.v] w fun e w' => e = .returned (.int .i64 j.nr) ∧ Below w.heap.size w w' := by
  have HR := Lib.hid (fun w => right_j j w)
  have HB := Lib.hid (fun (o : Obj) => below_box w o)
  have HK := Lib.hid (fun (s : ByteArray) (w' : World) (hb : Below w.heap.size w w') => keyed_any s w' (hE.kept hb))
  clear hE
  rcases j with _ | _ | (_ | _) | n | s | n
  all_goals
    simp only [J.v, J.nr, bn] at HR ⊢
    go_enter Tryd.func16, Tryd.ntmps16
    go_wp2_with fail
    go_at_call 13
    refine (HR.out _).mono ?_
    rintro e w1 ⟨rfl, hb⟩
    obtain ⟨hc, hf⟩ := bcell hb
    have hB1 := Lib.hid ((HB.out _).trans (hb.mono (HB.out _).size))
    clear hb
    go_wp2_with (go_at_call 31; refine (HK.out _ _ hB1.out).mono ?_; rintro e w2 ⟨rfl, hb2⟩)
    go_ret
    first | exact ⟨rfl, hB1.out⟩ | exact ⟨rfl, hB1.out.trans (hb2.mono hB1.out.size)⟩
set_option maxRecDepth 100000 in
set_option maxHeartbeats 2000000 in
theorem rkey_any (j : J) (hj : j.ok) (w : World) : Calls Tryd.prog 15 #[j.v] w fun e w' => e = .returned (.string j.key) ∧ Below w.heap.size w w' := by
  have HB := Lib.hid (fun (o : Obj) => below_box w o)
  rcases j with _ | _ | (_ | _) | n | s | n
  case num =>
    simp only [J.v, J.key]
    have HD := Lib.hid (rdigits_any n hj (w.alloc (.cells #[.int .i64 3, .int .i64 n, .string ⟨#[]⟩] 23)))
    clear hj
    go_enter Tryd.func15, Tryd.ntmps15
    go_wp2_with (go_at_call 30; refine (HD.out).mono ?_; rintro e w2 ⟨rfl, hb2⟩)
    go_ret
    exact ⟨rfl, (HB.out _).trans (hb2.mono (HB.out _).size)⟩
  all_goals
    clear hj
    simp only [J.v, J.key]
    go_enter Tryd.func15, Tryd.ntmps15
    go_wp2
    go_ret
    exact ⟨rfl, HB.out _⟩
set_option maxRecDepth 100000 in
set_option maxHeartbeats 2000000 in
theorem rtruthy_any (j : J) (w : World) : Calls Tryd.prog 19 #[j.v] w fun e w' => e = .returned (.bool j.truthy) ∧ Below w.heap.size w w' := by
  have HB := Lib.hid (fun (o : Obj) => below_box w o)
  rcases j with _ | _ | (_ | _) | n | s | n
  all_goals
    simp only [J.v, J.truthy]
    go_enter Tryd.func19, Tryd.ntmps19
    go_wp2
    go_ret
    exact ⟨rfl, HB.out _⟩
end Go.Proofs.YtpgclgfaiklpoaaDoor
