/- The leaves' contracts: bits.Right, bits.Has. -/
import Derived.Test.YtpfmncdodcbamaaProg
import Derived.Test.YtpfmncdodcbamaaWords
namespace Go.Proofs.Ytpfmncdodcbamaa
open Go.RowKit Go.Proofs

set_option maxHeartbeats 400000 in
theorem right_any (A : Option Addr) (n c B : Nat) (zs : List Int) (w : World) (hr : Ints w B A n c zs) :
    Calls Try.prog 14 #[.slice A n c] w fun e w' => e = .returned (.bool (isSet zs)) ∧ w = w' := by
  have hn : n ≤ 281474976710656 := hr.2.2.1.1
  go_enter Try.func14, Try.ntmps14
  go_wp2
  go_loop [3, 8] (fun t i => ∃ (k : Nat) (m : Int), k ≤ n ∧ i = .int .i64 k ∧ t = .int .i64 m ∧ 0 ≤ m ∧ m ≤ 1073741825 ∧ setFrom m (zs.drop k) = isSet zs) (fun _ i => n - (intOf i).toNat)
  case atStart => exact ⟨0, 0, Nat.zero_le _, rfl, rfl, by omega, by omega, by simp [isSet]⟩
  case round =>
    obtain ⟨k, m, hk, rfl, rfl, hm0, hm1, hs⟩ := hrel
    have HS := Lib.hid hs
    clear hs
    by_cases hlt : k < n
    · obtain ⟨ad, z, rfl, _, hz, hb, hc⟩ := hr.at_ hlt
      have HZ := Lib.hid hz
      clear hz
      unfold I64 at hb
      obtain ⟨hb1, hb2⟩ := hb
      have hd := drop_at HZ.out
      have hno := fun (m : Int) (h : z < m ∨ 1073741824 < z) => setFrom_cons_no (r := zs.drop (k + 1)) h
      have hyes := fun (h : ¬ z < m) (h' : ¬ 1073741824 < z) => setFrom_cons_yes (r := zs.drop (k + 1)) h h'
      have HD := Lib.hid hd
      have HN := Lib.hid hno
      have HY := Lib.hid hyes
      clear hd hno hyes
      by_cases hA : z < m
      · go_wp2
        go_ret
        exact ⟨ret_b (by rw [← HS.out, HD.out, HN.out m (.inl hA)]), rfl⟩
      · by_cases hB : 1073741824 < z
        · go_wp2
          go_ret
          exact ⟨ret_b (by rw [← HS.out, HD.out, HN.out m (.inr hB)]), rfl⟩
        · go_wp2
          go_round
          case rel => exact ⟨k + 1, z + 1, by omega, by go_num, rfl, by omega, by omega, by rw [← HS.out, HD.out, HY.out hA hB]⟩
          case measure => simp [intOf]; omega
    · go_wp2
      go_ret
      exact ⟨ret_b (by rw [← HS.out, List.drop_eq_nil_of_le (by have := hr.1; omega)]; rfl), rfl⟩

/-- Is x among the numbers? -/
def hasB (zs : List Int) (x : Int) : Bool := zs.any (· == x)

set_option maxHeartbeats 400000 in
theorem has_any (A : Option Addr) (n c B : Nat) (zs : List Int) (x : Int) (w : World) (hr : Ints w B A n c zs) :
    Calls Try.prog 16 #[.slice A n c, .int .i64 x] w fun e w' => e = .returned (.bool (hasB zs x)) ∧ w = w' := by
  have hn : n ≤ 281474976710656 := hr.2.2.1.1
  go_enter Try.func16, Try.ntmps16
  go_wp2
  go_loop [9] (fun i => ∃ k : Nat, k ≤ n ∧ i = .int .i64 k ∧ hasB (zs.drop k) x = hasB zs x) (fun i => n - (intOf i).toNat)
  case atStart => exact ⟨0, Nat.zero_le _, rfl, by simp⟩
  case round =>
    obtain ⟨k, hk, rfl, hs⟩ := hrel
    have HS := Lib.hid hs
    clear hs
    by_cases hlt : k < n
    · obtain ⟨ad, z, rfl, _, hz, hb, hc⟩ := hr.at_ hlt
      have hd := drop_at hz
      have HD := Lib.hid hd
      clear hz hd
      by_cases hA : z = x
      · have hA' : (z == x) = true := by simpa using hA
        have HE := Lib.hid hA
        clear hA
        go_wp2
        go_ret
        exact ⟨ret_b (by rw [← HS.out, HD.out]; simp [hasB, HE.out]), rfl⟩
      · have hA' : (z == x) = false := by simpa using hA
        go_wp2
        go_round
        case rel => exact ⟨k + 1, by omega, by go_num, by rw [← HS.out, HD.out]; simp [hasB, hA]⟩
        case measure => simp [intOf]; omega
    · go_wp2
      go_ret
      exact ⟨ret_b (by rw [← HS.out, List.drop_eq_nil_of_le (by have := hr.1; omega)]; rfl), rfl⟩
end Go.Proofs.Ytpfmncdodcbamaa
