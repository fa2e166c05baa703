/- Values; which may be: value.Right, gumshoeref06.Right. -/
import Derived.WalkKit
import Derived.WalkSpells
import Derived.WalkLawsBesides
import Derived.BigQuiet
import Derived.Deep.QuietTactic
import Derived.BigGuard
import Derived.Lib.Hide
import Derived.Outline
import Derived.WalkSmall
import Derived.Test.YtpgclgfaiklpoaaDoorNum
import Derived.Test.YtpgclgfaiklpoaaDoorShelf
namespace Go.Proofs.YtpgclgfaiklpoaaDoor
open Go.RowKit Go.Proofs

theorem ret_b {a b : Bool} (h : a = b) : Ending.returned (.bool a) = .returned (.bool b) := by rw [h]
/-- The library's table is as it is laid. -/
def Env (w : World) : Prop := Lib.TabIs Tryd.prog w "internal/strconv.uint64pow10" .u64 Lib.pow10Tab ∧ 0 < w.heap.size
theorem gTab : Tryd.prog.globalNamed "internal/strconv.uint64pow10" = some 0 := by kernel_rfl
theorem Env.below {w w' : World} {B : Nat} (h : Env w) (hB : 0 < B) (hb : Below B w w') : Env w' :=
  ⟨var?_below hb gTab hB h.1, by have := hb.size; have := h.2; omega⟩
theorem Env.kept {w w' : World} (h : Env w) (hb : Below w.heap.size w w') : Env w' := h.below h.2 hb
theorem bcell {W w1 : World} (hb : Below W.heap.size W w1) : (∀ b o, b < W.heap.size → w1.cell? ⟨b, o, none⟩ = W.cell? ⟨b, o, none⟩) ∧ (∀ b o, b < W.heap.size → w1.frozen? ⟨b, o, none⟩ = W.frozen? ⟨b, o, none⟩) :=
  ⟨fun b o h => hb.cell (p := ⟨b, o, none⟩) h, fun b o h => hb.frozen (p := ⟨b, o, none⟩) h⟩

/-- The values that may be. -/
inductive J where
  | undef | null | bool (b : Bool) | num (n : Int) | text (s : ByteArray) | ref (n : Int)
def bn (b : Bool) : Int := if b then 1 else 0
def J.v : J → Value
  | .undef => .agg #[.int .i64 0, .int .i64 0, .string ⟨#[]⟩]
  | .null => .agg #[.int .i64 1, .int .i64 0, .string ⟨#[]⟩]
  | .bool true => .agg #[.int .i64 2, .int .i64 1, .string ⟨#[]⟩]
  | .bool false => .agg #[.int .i64 2, .int .i64 0, .string ⟨#[]⟩]
  | .num n => .agg #[.int .i64 3, .int .i64 n, .string ⟨#[]⟩]
  | .text s => .agg #[.int .i64 4, .int .i64 0, .string s]
  | .ref n => .agg #[.int .i64 5, .int .i64 n, .string ⟨#[]⟩]
def J.ok : J → Prop
  | .num n => I64 n
  | .ref n => I64 n
  | .text s => s.size ≤ 281474976710656
  | _ => True
/-- May it be. -/
def rightB (k n : Int) (s : ByteArray) : Bool :=
  if k = 0 ∨ k = 1 then n == 0 && s.toList.isEmpty
  else if k = 2 then (n == 0 || n == 1) && s.toList.isEmpty
  else if k = 3 ∨ k = 5 then s.toList.isEmpty
  else if k = 4 then n == 0 else false
theorem emp {s : ByteArray} (h : s.toList = []) : s = ⟨#[]⟩ := by
  rw [ByteArray.toList_eq] at h
  cases s with
  | mk d => simp at h; rw [h]
theorem rightB_iff (k n : Int) (s : ByteArray) (hn : I64 n) (hs : s.size ≤ 281474976710656) : rightB k n s = true → ∃ j : J, j.ok ∧ .agg #[.int .i64 k, .int .i64 n, .string s] = j.v := by
  unfold rightB
  intro h
  by_cases h0 : k = 0
  · subst h0
    simp at h
    obtain ⟨rfl, h⟩ := h
    exact ⟨.undef, trivial, by rw [emp h]; rfl⟩
  by_cases h1 : k = 1
  · subst h1
    simp at h
    obtain ⟨rfl, h⟩ := h
    exact ⟨.null, trivial, by rw [emp h]; rfl⟩
  by_cases h2 : k = 2
  · subst h2
    simp at h
    obtain ⟨h3, h⟩ := h
    have e := emp h
    rcases h3 with rfl | rfl
    · exact ⟨.bool false, trivial, by rw [e]; rfl⟩
    · exact ⟨.bool true, trivial, by rw [e]; rfl⟩
  by_cases h3 : k = 3
  · subst h3
    simp at h
    exact ⟨.num n, hn, by rw [emp h]; rfl⟩
  by_cases h5 : k = 5
  · subst h5
    simp at h
    exact ⟨.ref n, hn, by rw [emp h]; rfl⟩
  by_cases h4 : k = 4
  · subst h4
    simp at h
    subst h
    exact ⟨.text s, hs, rfl⟩
  simp [h0, h1, h2, h3, h4, h5] at h

set_option maxHeartbeats 4000000 in
theorem right_any (k n : Int) (s : ByteArray) (w : World) : Calls Tryd.prog 13 #[.agg #[.int .i64 k, .int .i64 n, .string s]] w fun e w' => e = .returned (.bool (rightB k n s)) ∧ Below w.heap.size w w' := by
  go_enter Tryd.func13, Tryd.ntmps13
  go_wp2
  all_goals go_ret
  all_goals (refine ⟨ret_b ?_, ?_⟩)
  all_goals first
    | exact ((Below.refl _ _).alloc (Nat.le_refl _) _).alloc (by simp) _
    | (simp_all [rightB]; done)
    | (simp_all [rightB]; omega)
set_option maxHeartbeats 4000000 in
theorem rright_any (k n : Int) (s : ByteArray) (w : World) : Calls Tryd.prog 12 #[.agg #[.int .i64 k, .int .i64 n, .string s]] w fun e w' => e = .returned (.bool (rightB k n s)) ∧ Below w.heap.size w w' := by
  go_enter Tryd.func12, Tryd.ntmps12
  go_wp2
  all_goals go_ret
  all_goals (refine ⟨ret_b ?_, ?_⟩)
  all_goals first
    | exact ((Below.refl _ _).alloc (Nat.le_refl _) _)
    | (simp_all [rightB]; done)
theorem right_j (j : J) (w : World) : Calls Tryd.prog 13 #[j.v] w fun e w' => e = .returned (.bool true) ∧ Below w.heap.size w w' := by
  have h : ∀ k n s, rightB k n s = true → Calls Tryd.prog 13 #[.agg #[.int .i64 k, .int .i64 n, .string s]] w fun e w' => e = .returned (.bool true) ∧ Below w.heap.size w w' := fun k n s e => by
    have := right_any k n s w
    rwa [e] at this
  rcases j with _ | _ | b | n | s | n
  · exact h _ _ _ (by simp [rightB])
  · exact h _ _ _ (by simp [rightB])
  · cases b
    · exact h _ _ _ (by simp [rightB])
    · exact h _ _ _ (by simp [rightB])
  · exact h _ _ _ (by simp [rightB])
  · exact h _ _ _ (by simp [rightB])
  · exact h _ _ _ (by simp [rightB])



end Go.Proofs.YtpgclgfaiklpoaaDoor
