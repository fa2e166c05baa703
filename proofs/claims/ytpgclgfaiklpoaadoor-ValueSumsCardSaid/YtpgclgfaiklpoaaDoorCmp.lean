/- How two values stand. -/
import Derived.Test.YtpgclgfaiklpoaaDoorTurn
namespace Go.Proofs.YtpgclgfaiklpoaaDoor
open Go.RowKit Go.Proofs

def cmpI (a b : Int) : Int := if a < b then -1 else if b < a then 1 else 0
def ordS (a b : ByteArray) : Int := if Op.bytesLess a.toList b.toList then -1 else if a.toList == b.toList then 0 else 1
/-- How two values stand: below 0, 0, above. -/
def ordJ : J → J → Int
  | .text s, .text t => ordS s t
  | a, b => cmpI a.nr b.nr
theorem ret_i {a b : Int} (h : a = b) : Ending.returned (.int .i64 a) = .returned (.int .i64 b) := by rw [h]

set_option maxHeartbeats 2000000 in
theorem cmpS_any (a b : ByteArray) (w : World) : Calls Tryd.prog 47 #[.string a, .string b] w fun e w' => e = .returned (.int .i64 (ordS a b)) ∧ w = w' := by
  go_enter Tryd.func47, Tryd.ntmps47
  go_wp2
  all_goals
    go_ret
    exact ⟨ret_i (by simp_all [ordS]), rfl⟩
set_option maxHeartbeats 2000000 in
theorem cmpI_any (a b : Int) (w : World) : Calls Tryd.prog 48 #[.int .i64 a, .int .i64 b] w fun e w' => e = .returned (.int .i64 (cmpI a b)) ∧ w = w' := by
  go_enter Tryd.func48, Tryd.ntmps48
  go_wp2
  all_goals
    go_ret
    exact ⟨ret_i (by unfold cmpI; (repeat' split) <;> omega), rfl⟩

/-- The cells of two boxes. -/
def Six (B : Nat) (k n : Int) (s : ByteArray) (k' n' : Int) (s' : ByteArray) (W : World) : Prop :=
  (W.cell? ⟨B, 0, none⟩ = some (.int .i64 k) ∧ W.cell? ⟨B, 1, none⟩ = some (.int .i64 n) ∧ W.cell? ⟨B, 2, none⟩ = some (.string s)) ∧
  (W.cell? ⟨B + 1, 0, none⟩ = some (.int .i64 k') ∧ W.cell? ⟨B + 1, 1, none⟩ = some (.int .i64 n') ∧ W.cell? ⟨B + 1, 2, none⟩ = some (.string s'))
theorem Six.below {B : Nat} {k n : Int} {s : ByteArray} {k' n' : Int} {s' : ByteArray} {W W' : World} (h : Six B k n s k' n' s' W) (hb : Below W.heap.size W W') : Six B k n s k' n' s' W' := by
  obtain ⟨⟨a0, a1, a2⟩, ⟨b0, b1, b2⟩⟩ := h
  have l0 := World.block_lt_of_cell? _ _ a0
  have l1 := World.block_lt_of_cell? _ _ b0
  exact ⟨⟨(hb.cell (p := ⟨B, 0, none⟩) l0).trans a0, (hb.cell (p := ⟨B, 1, none⟩) l0).trans a1, (hb.cell (p := ⟨B, 2, none⟩) l0).trans a2⟩,
    ⟨(hb.cell (p := ⟨B + 1, 0, none⟩) l1).trans b0, (hb.cell (p := ⟨B + 1, 1, none⟩) l1).trans b1, (hb.cell (p := ⟨B + 1, 2, none⟩) l1).trans b2⟩⟩
theorem six_mk (w : World) (k n : Int) (s : ByteArray) (k' n' : Int) (s' : ByteArray) :
    Six w.heap.size k n s k' n' s' ((w.alloc (.cells #[.int .i64 k, .int .i64 n, .string s] 23)).alloc (.cells #[.int .i64 k', .int .i64 n', .string s'] 23)) := by
  have hb := below_box (w.alloc (.cells #[.int .i64 k, .int .i64 n, .string s] 23)) (.cells #[.int .i64 k', .int .i64 n', .string s'] 23)
  refine ⟨⟨(hb.cell (p := ⟨w.heap.size, 0, none⟩) (by simp)).trans (World.cell?_alloc_new w _ _ 0), (hb.cell (p := ⟨w.heap.size, 1, none⟩) (by simp)).trans (World.cell?_alloc_new w _ _ 1), (hb.cell (p := ⟨w.heap.size, 2, none⟩) (by simp)).trans (World.cell?_alloc_new w _ _ 2)⟩, ?_⟩
  have e : w.heap.size + 1 = (w.alloc (.cells #[.int .i64 k, .int .i64 n, .string s] 23)).heap.size := by simp
  rw [e]
  exact ⟨World.cell?_alloc_new _ _ _ 0, World.cell?_alloc_new _ _ _ 1, World.cell?_alloc_new _ _ _ 2⟩

set_option maxRecDepth 100000 in
set_option maxHeartbeats 4000000 in
theorem order_text (s t : ByteArray) (w : World) : Calls Tryd.prog 42 #[(J.text s).v, (J.text t).v] w fun e w' => e = .returned (.int .i64 (ordS s t)) ∧ Below w.heap.size w w' := by
  have HB := Lib.hid (fun (o p : Obj) => two_box w o p)
  simp only [J.v]
  go_enter Tryd.func42, Tryd.ntmps42
  go_wp2_with (go_at_call 47; refine (cmpS_any s t _).mono ?_; rintro e w1 ⟨rfl, rfl⟩)
  go_ret
  exact ⟨rfl, HB.out _ _⟩

/-- Is it a text. -/
def J.isText : J → Bool
  | .text _ => true
  | _ => false
theorem J.shape2 (j : J) : ∃ k n s, j.v = .agg #[.int .i64 k, .int .i64 n, .string s] ∧ (k == 4) = j.isText := by
  rcases j with _ | _ | (_ | _) | n | s | n
  all_goals exact ⟨_, _, _, rfl, rfl⟩

set_option maxRecDepth 100000 in
set_option maxHeartbeats 4000000 in
theorem order_num (a b : J) (ha : a.ok) (hb : b.ok) (w : World) (hE : Env w) (hno : (a.isText && b.isText) = false) : Calls Tryd.prog 42 #[a.v, b.v] w fun e w' => e = .returned (.int .i64 (cmpI a.nr b.nr)) ∧ Below w.heap.size w w' := by
  obtain ⟨k, n, s, hv, hk⟩ := a.shape2
  obtain ⟨k', n', s', hv', hk'⟩ := b.shape2
  have HE := Lib.hid (fun (w' : World) (hb : Below w.heap.size w w') => hE.kept hb)
  have HA := Lib.hid (fun w hE => num_any a ha w hE)
  have HA' := Lib.hid (fun w hE => num_any b hb w hE)
  have HC := Lib.hid (fun w => cmpI_any a.nr b.nr w)
  have HB := Lib.hid (two_box w (.cells #[.int .i64 k, .int .i64 n, .string s] 23) (.cells #[.int .i64 k', .int .i64 n', .string s'] 23)).drew
  have HS := Lib.hid (six_mk w k n s k' n' s')
  rw [hv] at HA ⊢
  rw [hv'] at HA' ⊢
  rw [← hk, ← hk'] at hno
  generalize a.nr = x at HA HC ⊢
  generalize b.nr = y at HA' HC ⊢
  clear hv hv' ha hb hE hk hk'
  have hte : (k == 4) = true ∧ (k' == 4) = false ∨ (k == 4) = false := by
    revert hno
    cases (k == 4) <;> cases (k' == 4) <;> simp
  clear hno
  rcases hte with ⟨e1, e2⟩ | e1
  all_goals
    go_enter Tryd.func42, Tryd.ntmps42
    go_wp2_with fail
    obtain ⟨⟨a0, a1, a2⟩, ⟨b0, b1, b2⟩⟩ := HS.out
    have HD1 := Lib.hid (HA.out _ (HE.out _ HB.out))
    go_region_held3 (fun w' => (w'.cell? ⟨w.heap.size, 0, none⟩ = some (.int .i64 k) ∧ w'.cell? ⟨w.heap.size, 1, none⟩ = some (.int .i64 n) ∧ w'.cell? ⟨w.heap.size, 2, none⟩ = some (.string s)) ∧ (w'.cell? ⟨w.heap.size + 1, 0, none⟩ = some (.int .i64 k') ∧ w'.cell? ⟨w.heap.size + 1, 1, none⟩ = some (.int .i64 n') ∧ w'.cell? ⟨w.heap.size + 1, 2, none⟩ = some (.string s')))
      (first | go_keep | exact HS2.out | exact HS1.out)
      (first
        | (go_at_call 16; refine (HD1.out).mono ?_; rintro e w1 ⟨rfl, hb1⟩; have HS1 := Lib.hid (Six.below (W := ((w.alloc (.cells #[.int .i64 k, .int .i64 n, .string s] 23)).alloc (.cells #[.int .i64 k', .int .i64 n', .string s'] 23)).drew) HS.out hb1); have HB1 := Lib.hid (HB.out.trans (hb1.mono HB.out.size)); clear hb1 HD1; have HD2 := Lib.hid (HA'.out _ (HE.out _ HB1.out)))
        | (go_at_call 16; refine (HD2.out).mono ?_; rintro e w2 ⟨rfl, hb2⟩; have HS2 := Lib.hid (HS1.out.below hb2); have HB2 := Lib.hid (HB1.out.trans (hb2.mono HB1.out.size)); clear hb2 HD2)
        | (go_at_call 48; refine (HC.out _).mono ?_; rintro e w3 ⟨rfl, rfl⟩))
    go_wp2
    go_ret
    exact ⟨rfl, HB2.out⟩
end Go.Proofs.YtpgclgfaiklpoaaDoor
