/- The law HeapFull's walk. -/
import Derived.Test.YtpbbinppikaamaaTwo
namespace Go.Proofs.Ytpbbinppikaamaa
open Go.RowKit Go.Proofs Go.Maps

/-- A heap with n objects, all but the first four with nothing behind them. -/
def many : Nat → Hp
  | 0 => new0
  | n + 1 => many n ++ [⟨0, -1, 0, 0, []⟩]
theorem many_len : ∀ n, (many n).length = n + 4
  | 0 => rfl
  | n + 1 => by rw [many, List.length_append, many_len n]; simp
theorem many_more (n : Nat) (h : n + 4 < 5000) : allocL (many n) 0 (-1) 0 0 = many (n + 1) ∧ allocE (many n) (-1) = 0 := by
  have e : allocE (many n) (-1) = 0 := by
    unfold allocE
    rw [if_neg (by simp), many_len, if_neg (by omega)]
  unfold allocL
  rw [if_pos e]
  exact ⟨rfl, e⟩
theorem many_full : allocL (many 4996) 0 (-1) 0 0 = many 4996 ∧ allocE (many 4996) (-1) = 71 := by
  have e : allocE (many 4996) (-1) = 71 := by
    unfold allocE
    rw [if_neg (by simp), many_len, if_pos (by omega)]
  unfold allocL
  rw [e, if_neg (by decide)]
  exact ⟨rfl, rfl⟩
def lastE (k : Nat) : Int := if k ≤ 4996 then 0 else 71
theorem many_step (k : Nat) : allocL (many (min k 4996)) 0 (-1) 0 0 = many (min (k + 1) 4996) ∧ allocE (many (min k 4996)) (-1) = lastE (k + 1) := by
  unfold lastE
  by_cases h : k < 4996
  · rw [show min k 4996 = k by omega, show min (k + 1) 4996 = k + 1 by omega, if_pos (by omega)]
    exact many_more k (by omega)
  · rw [show min k 4996 = 4996 by omega, show min (k + 1) 4996 = 4996 by omega, if_neg (by omega)]
    exact many_full

set_option maxRecDepth 100000 in
set_option maxHeartbeats 4000000 in
theorem full_walk (n : Int) (w : World) : Calls Try.prog 9 #[.int .i64 n] w fun e w' => e = .returned (.bool true) ∧ Below w.heap.size w w' := by
  have HS := Lib.hid (shown_any w)
  have HN := Lib.hid (fun w => New_any w)
  by_cases h1 : n < 4990
  · have d1 : decide (n < 4990) = true := decide_eq_true h1
    go_enter Try.func9, Try.ntmps9
    go_wp2_with (go_at_call 11; (with_reducible refine (HS.out).mono ?_); rintro e w1 ⟨rfl, hb⟩)
    go_ret
    exact ⟨rfl, hb⟩
  by_cases h2 : 5010 < n
  · have d1 : decide (n < 4990) = false := decide_eq_false h1
    have d2 : decide (5010 < n) = true := decide_eq_true h2
    go_enter Try.func9, Try.ntmps9
    go_wp2_with (go_at_call 11; (with_reducible refine (HS.out).mono ?_); rintro e w1 ⟨rfl, hb⟩)
    go_ret
    exact ⟨rfl, hb⟩
  obtain ⟨m, rfl⟩ : ∃ m : Nat, n = ((m + 4 : Nat) : Int) := ⟨(n - 4).toNat, by omega⟩
  have d1 : decide (((m + 4 : Nat) : Int) < 4990) = false := decide_eq_false h1
  have d2 : decide (5010 < ((m + 4 : Nat) : Int)) = false := decide_eq_false h2
  have hm : m ≤ 5006 := by omega
  obtain ⟨M, hM⟩ : ∃ M : Int, ((m + 4 : Nat) : Int) = M := ⟨_, rfl⟩
  have hMm : M = (m : Int) + 4 := by omega
  rw [hM] at d1 d2 h1 h2 ⊢
  have HM := Lib.hid hMm
  clear hM hMm
  go_enter Try.func9, Try.ntmps9
  go_wp2_with fail
  go_at_call 11
  refine (HS.out).mono ?_
  rintro e w1 ⟨rfl, hb0⟩
  have HB := Lib.hid hb0
  clear hb0 HS
  go_wp2_with fail
  go_at_call 12
  refine (HN.out _).mono ?_
  rintro e w2 ⟨B, rfl, hI, hB⟩
  have S0 := Lib.hid (St.start hI hB)
  clear hI hB HN
  go_wp2
  go_loopw [6, 5] (fun i l wr => ∃ (k : Nat) (F : Nat → Prop), k ≤ m ∧ i = .int .i64 ((k : Int) + 4) ∧ l = .int .i64 (lastE k) ∧ St w1 wr F B 2 (many (min k 4996)) []) (fun i _ _ => m + 4 - (intOf i).toNat)
  case atStart => exact ⟨0, _, Nat.zero_le _, rfl, rfl, S0.out⟩
  case round =>
    obtain ⟨k, F, hk, rfl, rfl, hS⟩ := hrel
    by_cases hlt : k < m
    · have S := Lib.hid hS
      have HC := Lib.hid (Alloc_any 0 (-1) 0 0 _ hS.heap)
      rw [(many_step k).1, (many_step k).2] at HC
      have hlt' : (k : Int) + 4 < M := by have := HM.out; omega
      clear hS
      go_wp2_with (go_at_call 23; (with_reducible refine (HC.out).mono ?_); rintro e w3 ⟨rfl, hI, ho⟩)
      go_roundw
      case rel => exact ⟨k + 1, _, by omega, by go_num, rfl, S.out.turn hI ho⟩
      case measure => simp [intOf]; omega
    · obtain rfl : k = m := by omega
      have S := Lib.hid hS
      have HL := Lib.hid (len_any _ hS.heap)
      rw [many_len] at HL
      have hge : ¬ (k : Int) + 4 < M := by have := HM.out; omega
      clear hS
      by_cases h3 : k ≤ 4996
      · have e1 : min k 4996 = k := by omega
        rw [e1] at HL
        have e2 : lastE k = 0 := by unfold lastE; rw [if_pos h3]
        rw [e2]
        have e3 : ((k + 4 : Nat) : Int) = M := by have := HM.out; omega
        rw [e3] at HL
        have d3 : decide (5000 < M) = false := decide_eq_false (by have := HM.out; omega)
        have d4 : M ≤ 5000 := by have := HM.out; omega
        clear e1 e2 e3
        go_wp2_with (go_at_call 15; (with_reducible refine (HL.out).mono ?_); rintro e w' ⟨rfl, rfl⟩)
        go_ret
        exact ⟨rfl, HB.out.trans (S.out.below.mono HB.out.size)⟩
      · have e1 : min k 4996 = 4996 := by omega
        rw [e1] at HL
        have e2 : lastE k = 71 := by unfold lastE; rw [if_neg h3]
        rw [e2]
        have d3 : decide (5000 < M) = true := decide_eq_true (by have := HM.out; omega)
        have d4 : 5000 < M := by have := HM.out; omega
        clear e1 e2
        go_wp2_with (go_at_call 15; (with_reducible refine (HL.out).mono ?_); rintro e w' ⟨rfl, rfl⟩)
        go_ret
        exact ⟨rfl, HB.out.trans (S.out.below.mono HB.out.size)⟩

end Go.Proofs.Ytpbbinppikaamaa
