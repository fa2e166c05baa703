/- jlex.hexByte: the byte that two digits say. -/
import Derived.Test.YtfjfbpmlohgghaaDoorLongest
namespace Go.Proofs.YtfjfbpmlohgghaaDoor
open Go.RowKit Go.Proofs

/-- But for draws the world is as it was. -/
def Drewn (w w' : World) : Prop := ∃ k, w' = w.drewN k
/-- Where a byte stands among the digits. -/
def ixB (c : UInt8) : Int := Lib.indexByte hexDigitsL c
theorem ix_any (c : UInt8) (w : World) : Calls Tryd.prog 62 #[.string ⟨#[48, 49, 50, 51, 52, 53, 54, 55, 56, 57, 97, 98, 99, 100, 101, 102]⟩, .int .u8 c.toNat] w fun e w' => e = .returned (.int .i64 (ixB c)) ∧ w' = w := by
  have h := Tryd.strings_IndexByte ⟨#[48, 49, 50, 51, 52, 53, 54, 55, 56, 57, 97, 98, 99, 100, 101, 102]⟩ c.toNat w
  have e : (c.toNat : Int).toNat.toUInt8 = c := by simp
  rw [e] at h
  exact h

theorem ix_low (l : Bs) (c : UInt8) : Lib.indexByte l c = -1 ∨ 0 ≤ Lib.indexByte l c ∧ Lib.indexByte l c < l.length := by
  induction l with
  | nil => left; rfl
  | cons b r ih =>
    unfold Lib.indexByte
    split
    · right; simp
    · rcases ih with h | ⟨h1, h2⟩
      · left; rw [h]; rfl
      · right
        have : (Lib.indexByte r c == -1) = false := by simp; omega
        rw [this]
        simp
        omega
theorem ixB_low (c : UInt8) : ixB c = -1 ∨ 0 ≤ ixB c ∧ ixB c ≤ 15 := by
  rcases ix_low hexDigitsL c with h | ⟨h1, h2⟩
  · exact .inl h
  · refine .inr ⟨h1, ?_⟩
    have e : (hexDigitsL.length : Int) = 16 := rfl
    rw [e] at h2
    unfold ixB
    omega
theorem or_all : ∀ m n : Fin 16, bits BinOp.or IntKind.i64 ((m.val : Int) * 16) (n.val : Int) % 256 = 16 * (m.val : Int) + (n.val : Int) := by decide
theorem or_hex {x y : Int} (hx0 : 0 ≤ x) (hx1 : x ≤ 15) (hy0 : 0 ≤ y) (hy1 : y ≤ 15) : bits BinOp.or IntKind.i64 (x * 16) y % 256 = 16 * x + y := by
  have := or_all ⟨x.toNat, by omega⟩ ⟨y.toNat, by omega⟩
  simp only [Int.toNat_of_nonneg hx0, Int.toNat_of_nonneg hy0] at this
  exact this
theorem ret_pair {k k' : IntKind} {a b c d : Int} (h : a = b) (h' : c = d) : Ending.returned (.tuple #[.int k a, .int k' c]) = .returned (.tuple #[.int k b, .int k' d]) := by rw [h, h']

theorem hexL_at (s : ByteArray) (h4 : 4 ≤ s.size) : hexL s.data.toList = if ixB s[2] < 0 ∨ ixB s[3] < 0 then (0, 0) else (UInt8.ofNat (16 * (ixB s[2]).toNat + (ixB s[3]).toNat), 4) := by
  have e : s.data.toList = s[0] :: s[1] :: s[2] :: s[3] :: s.data.toList.drop 4 := by
    have h0 := drop_toList s 0 (by omega)
    have h1 := drop_toList s 1 (by omega)
    have h2 := drop_toList s 2 (by omega)
    have h3 := drop_toList s 3 (by omega)
    rw [List.drop_zero] at h0
    rw [h1, h2, h3] at h0
    exact h0
  rw [e]
  rfl
theorem hexL_short (s : ByteArray) (h : s.size < 4) : hexL s.data.toList = (0, 0) := by
  have hl := len_toList s
  match hs : s.data.toList, hl with
  | [], _ => rfl
  | [_], _ => rfl
  | [_, _], _ => rfl
  | [_, _, _], _ => rfl
  | _ :: _ :: _ :: _ :: _, hl => simp at hl; omega

set_option maxHeartbeats 1000000 in
theorem hex_yes (s : ByteArray) (w : World) (h4 : 4 ≤ s.size) (hs : s.size ≤ maxLen)
    (hx0 : 0 ≤ ixB s[2]) (hx1 : ixB s[2] ≤ 15) (hy0 : 0 ≤ ixB s[3]) (hy1 : ixB s[3] ≤ 15) :
    Calls Tryd.prog 57 #[.string s] w fun e w' => e = .returned (.tuple #[.int .u8 (16 * ixB s[2] + ixB s[3]), .int .i64 4]) ∧ Drewn w w' := by
  unfold maxLen at hs
  have H1 := Lib.hid ix_any
  go_enter Tryd.func57, Tryd.ntmps57
  go_wp2
  have g2 : (2 : Int) < (s.size : Int) := by omega
  have g3 : (3 : Int) < (s.size : Int) := by omega
  have k2 : 2 < s.size := by omega
  have k3 : 3 < s.size := by omega
  go_quiet ((go_at_call 62; exact Calls.quiet_of_same (H1.out _ _)))
  go_wp2
  go_ret2
  exact ⟨ret_pair (or_hex hx0 hx1 hy0 hy1) rfl, _, rfl⟩

set_option maxHeartbeats 1000000 in
theorem hex_no (s : ByteArray) (w : World) (h4 : 4 ≤ s.size) (hs : s.size ≤ maxLen) (h : ixB s[2] < 0 ∨ (0 ≤ ixB s[2] ∧ ixB s[3] < 0)) :
    Calls Tryd.prog 57 #[.string s] w fun e w' => e = .returned (.tuple #[.int .u8 0, .int .i64 0]) ∧ Drewn w w' := by
  unfold maxLen at hs
  have H1 := Lib.hid ix_any
  have g2 : (2 : Int) < (s.size : Int) := by omega
  have g3 : (3 : Int) < (s.size : Int) := by omega
  have k2 : 2 < s.size := by omega
  have k3 : 3 < s.size := by omega
  rcases h with h | ⟨h, h'⟩
  all_goals
    go_enter Tryd.func57, Tryd.ntmps57
    go_wp2
    go_quiet ((go_at_call 62; exact Calls.quiet_of_same (H1.out _ _)))
    go_wp2
    go_ret2
    exact ⟨rfl, _, rfl⟩

set_option maxHeartbeats 1000000 in
theorem hex_short (s : ByteArray) (w : World) (h : s.size < 4) :
    Calls Tryd.prog 57 #[.string s] w fun e w' => e = .returned (.tuple #[.int .u8 0, .int .i64 0]) ∧ Drewn w w' := by
  go_enter Tryd.func57, Tryd.ntmps57
  go_wp2
  go_ret2
  exact ⟨rfl, 0, rfl⟩

theorem hex_any (s : ByteArray) (w : World) (hs : s.size ≤ maxLen) :
    Calls Tryd.prog 57 #[.string s] w fun e w' => e = .returned (.tuple #[.int .u8 (hexL s.data.toList).1.toNat, .int .i64 (hexL s.data.toList).2]) ∧ Drewn w w' := by
  by_cases h4 : 4 ≤ s.size
  · rw [hexL_at s h4]
    rcases ixB_low s[2] with h2 | ⟨h2, h2'⟩
    · rw [if_pos (.inl (by omega))]
      exact hex_no s w h4 hs (.inl (by omega))
    · rcases ixB_low s[3] with h3 | ⟨h3, h3'⟩
      · rw [if_pos (.inr (by omega))]
        exact hex_no s w h4 hs (.inr ⟨h2, by omega⟩)
      · rw [if_neg (by omega)]
        refine (hex_yes s w h4 hs h2 h2' h3 h3').mono fun e w' h => ⟨?_, h.2⟩
        rw [h.1]
        refine ret_pair ?_ rfl
        simp only [UInt8.toNat_ofNat']
        omega
  · rw [hexL_short s (by omega)]
    exact hex_short s w (by omega)
end Go.Proofs.YtfjfbpmlohgghaaDoor
