/- jlex.sign. -/
import Derived.Test.YtfjfbpmlohgghaaDoorText
namespace Go.Proofs.YtfjfbpmlohgghaaDoor
open Go.RowKit Go.Proofs

def signA : List ByteArray := [⟨#[123]⟩, ⟨#[125]⟩, ⟨#[40]⟩, ⟨#[41]⟩, ⟨#[91]⟩, ⟨#[93]⟩, ⟨#[46]⟩, ⟨#[59]⟩, ⟨#[44]⟩, ⟨#[58]⟩, ⟨#[63]⟩, ⟨#[60]⟩, ⟨#[60, 61]⟩, ⟨#[61, 61, 61]⟩, ⟨#[33, 61, 61]⟩, ⟨#[61]⟩, ⟨#[33]⟩, ⟨#[43]⟩, ⟨#[45]⟩, ⟨#[42]⟩, ⟨#[47]⟩, ⟨#[38, 38]⟩, ⟨#[124, 124]⟩]
theorem sign_is (s : ByteArray) (l : Bs) (h : signL s.data.toList = l) (w : World) (B : Nat) (hB : B = w.heap.size) :
    Calls Tryd.prog 45 #[.string s, .slice (some ⟨B, 0, none⟩) 23 23] (w.alloc (.cells #[.string ⟨#[123]⟩, .string ⟨#[125]⟩, .string ⟨#[40]⟩, .string ⟨#[41]⟩, .string ⟨#[91]⟩, .string ⟨#[93]⟩, .string ⟨#[46]⟩, .string ⟨#[59]⟩, .string ⟨#[44]⟩, .string ⟨#[58]⟩, .string ⟨#[63]⟩, .string ⟨#[60]⟩, .string ⟨#[60, 61]⟩, .string ⟨#[61, 61, 61]⟩, .string ⟨#[33, 61, 61]⟩, .string ⟨#[61]⟩, .string ⟨#[33]⟩, .string ⟨#[43]⟩, .string ⟨#[45]⟩, .string ⟨#[42]⟩, .string ⟨#[47]⟩, .string ⟨#[38, 38]⟩, .string ⟨#[124, 124]⟩] 9)) fun e w' => e = .returned (.string (bs l)) ∧ (w.alloc (.cells #[.string ⟨#[123]⟩, .string ⟨#[125]⟩, .string ⟨#[40]⟩, .string ⟨#[41]⟩, .string ⟨#[91]⟩, .string ⟨#[93]⟩, .string ⟨#[46]⟩, .string ⟨#[59]⟩, .string ⟨#[44]⟩, .string ⟨#[58]⟩, .string ⟨#[63]⟩, .string ⟨#[60]⟩, .string ⟨#[60, 61]⟩, .string ⟨#[61, 61, 61]⟩, .string ⟨#[33, 61, 61]⟩, .string ⟨#[61]⟩, .string ⟨#[33]⟩, .string ⟨#[43]⟩, .string ⟨#[45]⟩, .string ⟨#[42]⟩, .string ⟨#[47]⟩, .string ⟨#[38, 38]⟩, .string ⟨#[124, 124]⟩] 9)) = w' := by
  subst hB
  have Q := longest_any s ⟨w.heap.size, 0, none⟩ 23 23 signA (w.alloc (.cells (signA.map Value.string).toArray 9)) rfl (by omega) (by decide) (cells_new w signA 9)
  rw [← h]
  exact Q

set_option maxRecDepth 100000 in
set_option maxHeartbeats 4000000 in
theorem sign_any (s : ByteArray) (w : World) : Calls Tryd.prog 42 #[.string s] w fun e w' => e = .returned (oneV (signOneL s.data.toList)) ∧ Below w.heap.size w w' := by
  cases hl : signL s.data.toList with
  | nil =>
    have e : signOneL s.data.toList = ⟨.zero, 0, 21⟩ := by unfold signOneL; rw [hl]; rfl
    rw [e]
    have Q := Lib.hid (sign_is s _ hl)
    have hE := bs_nil
    clear e hl
    go_enter Tryd.func42, Tryd.ntmps42
    go_wp2_with (go_at_call 45; (refine (Q.out _ _ (by simp)).mono ?_); rintro e w' ⟨rfl, rfl⟩)
    refine bodyPost_ret (v := .tuple #[.agg #[.int .i64 0, .string ⟨#[]⟩, .int .i64 0, .int .i64 0, .bool false], .int .i64 0, .int .i64 21]) (by simp [results, Tryd.results42, go_sem]) rfl ⟨rfl, ?_⟩
    exact ((Below.refl _ w).alloc (Nat.le_refl _) _).alloc (by simp) _
  | cons c r =>
    have e : signOneL s.data.toList = ⟨⟨5, c :: r, 0, 0, false⟩, (c :: r).length, 0⟩ := by unfold signOneL; rw [hl]; rfl
    rw [e]
    have hle : (bs (c :: r)).size ≤ 3 := by
      rw [bs_size, ← hl]
      rcases longestL_mem s.data.toList signsL with h | ⟨h, _⟩
      · unfold signL; rw [h]; simp
      · exact (by decide : ∀ x ∈ signsL, x.length ≤ 3) _ h
    have Q := Lib.hid (sign_is s _ hl)
    have hE := bs_cons c r
    have hz := Lib.hid (bs_size (c :: r))
    clear e hl
    go_enter Tryd.func42, Tryd.ntmps42
    go_wp2_with (go_at_call 45; (refine (Q.out _ _ (by simp)).mono ?_); rintro e w' ⟨rfl, rfl⟩)
    refine bodyPost_ret (v := .tuple #[.agg #[.int .i64 5, .string (bs (c :: r)), .int .i64 0, .int .i64 0, .bool false], .int .i64 (bs (c :: r)).size, .int .i64 0]) (by simp [results, Tryd.results42, go_sem]) rfl ⟨?_, ?_⟩
    · rw [hz.out]
      rfl
    · exact ((Below.refl _ w).alloc (Nat.le_refl _) _).alloc (by simp) _
end Go.Proofs.YtfjfbpmlohgghaaDoor
