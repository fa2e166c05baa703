/- The document's own answers: Right, Has, Same. -/
import Derived.Test.YtpfmncdodcbamaaLeaves
import Derived.Deep.QuietTactic
import Derived.BigQuiet
namespace Go.Proofs.Ytpfmncdodcbamaa
open Go.RowKit Go.Proofs

set_option maxHeartbeats 400000 in
theorem refHas_any (A : Option Addr) (n c B : Nat) (zs : List Int) (x : Int) (w : World) (hr : Ints w B A n c zs) :
    Calls Try.prog 17 #[.slice A n c, .int .i64 x] w fun e w' => e = .returned (.bool (hasB zs x)) ∧ w = w' := by
  have hn : n ≤ 281474976710656 := hr.2.2.1.1
  go_enter Try.func17, Try.ntmps17
  go_wp2
  go_loop [5] (fun i => ∃ k : Nat, k ≤ n ∧ i = .int .i64 k ∧ hasB (zs.drop k) x = hasB zs x) (fun i => n - (intOf i).toNat)
  case atStart => exact ⟨0, Nat.zero_le _, rfl, by simp⟩
  case round =>
    obtain ⟨k, hk, rfl, hs⟩ := hrel
    have HS := Lib.hid hs
    clear hs
    by_cases hlt : k < n
    · obtain ⟨ad, z, rfl, _, hz, hb, hc⟩ := hr.at_ hlt
      have hd := drop_at hz
      have HD := Lib.hid hd
      clear hz hd
      by_cases hA : z = x
      · have hA' : (z == x) = true := by simpa using hA
        have HE := Lib.hid hA
        clear hA
        go_wp2
        go_ret
        exact ⟨ret_b (by rw [← HS.out, HD.out]; simp [hasB, HE.out]), rfl⟩
      · have hA' : (z == x) = false := by simpa using hA
        go_wp2
        go_round
        case rel => exact ⟨k + 1, by omega, by go_num, by rw [← HS.out, HD.out]; simp [hasB, hA]⟩
        case measure => simp [intOf]; omega
    · go_wp2
      go_ret
      exact ⟨ret_b (by rw [← HS.out, List.drop_eq_nil_of_le (by have := hr.1; omega)]; rfl), rfl⟩

theorem drop_nil_of {zs : List Int} {n k : Nat} (h : zs.length = n) (hk : ¬ k < n) : zs.drop k = [] := List.drop_eq_nil_of_le (by omega)

set_option maxHeartbeats 1000000 in
theorem same_any (A A' : Option Addr) (n c n' c' B B' : Nat) (xs ys : List Int) (w : World) (hr : Ints w B A n c xs) (hr' : Ints w B' A' n' c' ys) :
    Calls Try.prog 18 #[.slice A n c, .slice A' n' c'] w fun e w' => e = .returned (.bool (decide (xs = ys))) ∧ Drewn w w' := by
  have hn : n ≤ 281474976710656 := hr.2.2.1.1
  have hn' : n' ≤ 281474976710656 := hr'.2.2.1.1
  have HL := Lib.hid (And.intro hr.1 hr'.1)
  by_cases hne : n = n'
  · subst hne
    have hq : ((n : Int) != n) = false := by simp
    go_enter Try.func18, Try.ntmps18
    go_wp2
    go_loopw [5] (fun i wr => ∃ k : Nat, k ≤ n ∧ i = .int .i64 k ∧ decide (xs.drop k = ys.drop k) = decide (xs = ys) ∧ ∃ q, wr = w.drewN q) (fun i _ => n - (intOf i).toNat)
    case atStart => exact ⟨0, Nat.zero_le _, rfl, by simp, 0, rfl⟩
    case round =>
      obtain ⟨k, hk, rfl, hs, q, rfl⟩ := hrel
      have HS := Lib.hid hs
      clear hs
      by_cases hlt : k < n
      · obtain ⟨ad, z, rfl, _, hz, hb, hc⟩ := hr.at_ hlt
        obtain ⟨ad', z', rfl, _, hz', hb', hc'⟩ := hr'.at_ hlt
        have HD := Lib.hid (And.intro (drop_at hz) (drop_at hz'))
        clear hz hz'
        by_cases hA : z = z'
        · have hA' : (z != z') = false := by simpa using hA
          have HE := Lib.hid hA
          clear hA
          go_wp2
          go_quiet (fail)
          go_wp2
          go_roundw
          case rel => exact ⟨k + 1, by omega, by go_num, by rw [← HS.out, HD.out.1, HD.out.2, HE.out]; simp, _, rfl⟩
          case measure => simp [intOf]; omega
        · have hA' : (z != z') = true := by simpa using hA
          go_wp2
          go_quiet (fail)
          go_wp2
          go_ret
          exact ⟨ret_b (by rw [← HS.out, HD.out.1, HD.out.2]; simp [hA]), by first | exact Drewn.mk_ _ _ | exact Drewn.mk2 _ _ _⟩
      · go_wp2
        go_ret
        exact ⟨ret_b (by rw [← HS.out, drop_nil_of HL.out.1 hlt, drop_nil_of HL.out.2 hlt]; simp), by first | exact Drewn.mk_ _ _ | exact Drewn.mk2 _ _ _⟩
  · have hq : ((n : Int) != n') = true := by simp; omega
    go_enter Try.func18, Try.ntmps18
    go_wp2
    go_ret
    refine ⟨ret_b ?_, Drewn.mk_ w 0⟩
    symm
    rw [decide_eq_false_iff_not]
    rintro rfl
    exact hne (HL.out.1.symm.trans HL.out.2)

set_option maxHeartbeats 1000000 in
theorem refRight_any (A : Option Addr) (n c B : Nat) (zs : List Int) (w : World) (hr : Ints w B A n c zs) :
    Calls Try.prog 15 #[.slice A n c] w fun e w' => e = .returned (.bool (isSet zs)) ∧ Drewn w w' := by
  have hn : n ≤ 281474976710656 := hr.2.2.1.1
  have HL := Lib.hid hr.1
  go_enter Try.func15, Try.ntmps15
  go_wp2
  go_loopw [3] (fun i wr => ∃ (k : Nat) (m : Int), k ≤ n ∧ i = .int .i64 k ∧ setFrom m (zs.drop k) = isSet zs ∧ (k = 0 → m = 0) ∧ (0 < k → ∃ p, zs[k - 1]? = some p ∧ m = p + 1 ∧ 0 ≤ p ∧ p ≤ 1073741824) ∧ ∃ q, wr = w.drewN q) (fun i _ => n - (intOf i).toNat)
  case atStart => exact ⟨0, 0, Nat.zero_le _, rfl, by simp [isSet], fun _ => rfl, fun h => absurd h (by omega), 0, rfl⟩
  case round =>
    obtain ⟨k, m, hk, rfl, hs, hm0, hm1, q, rfl⟩ := hrel
    have HS := Lib.hid hs
    clear hs
    by_cases hlt : k < n
    · obtain ⟨ad, z, rfl, _, hz, hb, hc⟩ := hr.at_ hlt
      have HD := Lib.hid (And.intro (drop_at hz) hz)
      clear hz
      unfold I64 at hb
      obtain ⟨hb1, hb2⟩ := hb
      by_cases h1 : z < 0
      · have hf : isSet zs = false := by
          rw [← HS.out, HD.out.1]
          refine setFrom_cons_no (.inl ?_)
          rcases Nat.eq_zero_or_pos k with h0 | h0
          · rw [hm0 h0]; exact h1
          · obtain ⟨p, _, hp, h2, _⟩ := hm1 h0
            omega
        have HF := Lib.hid hf
        clear hf hm0 hm1
        go_wp2
        go_quiet (fail)
        go_wp2
        go_ret
        exact ⟨ret_b HF.out.symm, by first | exact Drewn.mk_ _ _ | exact Drewn.mk2 _ _ _⟩
      · by_cases h2 : 1073741824 < z
        · have hf : isSet zs = false := by
            rw [← HS.out, HD.out.1]
            exact setFrom_cons_no (.inr h2)
          have HF := Lib.hid hf
          clear hf hm0 hm1
          have hd1 : decide (z < 0) = false := by simpa using h1
          go_wp2
          go_quiet (fail)
          go_wp2
          go_ret
          exact ⟨ret_b HF.out.symm, by first | exact Drewn.mk_ _ _ | exact Drewn.mk2 _ _ _⟩
        · have hd1 : decide (z < 0) = false := by simpa using h1
          have hd2 : decide (1073741824 < z) = false := by simpa using h2
          rcases Nat.eq_zero_or_pos k with h0 | h0
          · have HF := Lib.hid (setFrom_cons_yes (m := m) (r := zs.drop (k + 1)) (by rw [hm0 h0]; exact h1) h2)
            have hdk : decide (0 < k) = false := by simp; omega
            clear hm0 hm1 h0
            go_wp2
            go_quiet (fail)
            go_wp2
            go_roundw
            case rel => exact ⟨k + 1, z + 1, by omega, by go_num, by rw [← HS.out, HD.out.1, HF.out], fun h => absurd h (by omega), fun _ => ⟨z, HD.out.2, rfl, by omega, by omega⟩, _, rfl⟩
            case measure => simp [intOf]; omega
          · obtain ⟨p, hp, rfl, hp0, hp1⟩ := hm1 h0
            obtain ⟨ad2, z2, e2, _, hz2, _, hc2⟩ := hr.at_ (k := k - 1) (by omega)
            injection e2 with e2
            subst e2
            rw [hp] at hz2
            injection hz2 with hz2
            subst hz2
            have hdk : decide ((0 : Int) < (k : Int)) = true := by simp; omega
            have hk1 : (1 : Int) ≤ (k : Int) := by omega
            have hk2 : (0 : Int) ≤ (k : Int) - 1 := by omega
            have hk3 : (k : Int) - 1 < (n : Int) := by omega
            clear hm0 hm1 hp
            by_cases h3 : z ≤ p
            · have HF := Lib.hid (setFrom_cons_no (m := p + 1) (r := zs.drop (k + 1)) (z := z) (.inl (by omega)))
              have hd3 : decide (z ≤ p) = true := by simpa using h3
              go_wp2
              go_quiet (fail)
              go_wp2
              go_ret
              exact ⟨ret_b (by rw [← HS.out, HD.out.1, HF.out]), by first | exact Drewn.mk_ _ _ | exact Drewn.mk2 _ _ _⟩
            · have HF := Lib.hid (setFrom_cons_yes (m := p + 1) (r := zs.drop (k + 1)) (z := z) (by omega) h2)
              have hd3 : decide (z ≤ p) = false := by simpa using h3
              go_wp2
              go_quiet (fail)
              go_wp2
              go_roundw
              case rel => exact ⟨k + 1, z + 1, by omega, by go_num, by rw [← HS.out, HD.out.1, HF.out], fun h => absurd h (by omega), fun _ => ⟨z, HD.out.2, rfl, by omega, by omega⟩, _, rfl⟩
              case measure => simp [intOf]; omega
    · clear hm0 hm1
      go_wp2
      go_ret
      exact ⟨ret_b (by rw [← HS.out, drop_nil_of HL.out hlt]; rfl), by first | exact Drewn.mk_ _ _ | exact Drewn.mk2 _ _ _⟩
end Go.Proofs.Ytpfmncdodcbamaa
