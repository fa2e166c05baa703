/- gumshoeref02.Quote. -/
import Derived.Test.YtconnhphkbgbkaaGreatDoorCdQuote
import Derived.BigQuiet
import Derived.Deep.QuietTactic
namespace Go.Proofs.YtconnhphkbgbkaaGreatDoor
open Go.RowKit Go.Proofs

theorem ret_s9 {a b : ByteArray} (h : a = b) : Ending.returned (.string a) = .returned (.string b) := by rw [h]
theorem bs_join (l u : Bs) : bs l ++ bs u = bs (l ++ u) := by
  rw [← bs_of (bs l ++ bs u)]
  congr 1
theorem app2 (Q : ByteArray) (l u : Bs) : Q ++ bs l ++ bs u = Q ++ bs (l ++ u) := by
  rw [← bs_of Q, bs_join, bs_join, bs_join, List.append_assoc]
theorem one_byte (s : ByteArray) (k : Nat) (h : k < s.size) : s.extract k (k + 1) = bs [s[k]] := by
  rw [← bs_of (s.extract k (k + 1)), ← Lib.toList_data, Lib.extract_toList, drop_toList s k h]
  simp
theorem hex_byte : ∀ n : Fin 16, ((⟨#[48, 49, 50, 51, 52, 53, 54, 55, 56, 57, 97, 98, 99, 100, 101, 102]⟩ : ByteArray).extract n.val (n.val + 1)).data.toList = [hexD n.val] := by decide
theorem hex_bs (n : Nat) (h : n < 16) : (⟨#[48, 49, 50, 51, 52, 53, 54, 55, 56, 57, 97, 98, 99, 100, 101, 102]⟩ : ByteArray).extract n (n + 1) = bs [hexD n] := by
  rw [← bs_of (ByteArray.extract _ _ _), hex_byte ⟨n, h⟩]
theorem bs92 : (⟨#[92]⟩ : ByteArray) = bs [92] := rfl
theorem bs92110 : (⟨#[92, 110]⟩ : ByteArray) = bs [92, 110] := rfl
theorem bs92116 : (⟨#[92, 116]⟩ : ByteArray) = bs [92, 116] := rfl
theorem bs92120 : (⟨#[92, 120]⟩ : ByteArray) = bs [92, 120] := rfl
theorem bs34 : (⟨#[34]⟩ : ByteArray) = bs [34] := rfl

set_option maxRecDepth 100000 in
set_option maxHeartbeats 4000000 in
theorem rquote_any (s : ByteArray) (w : World) (hs : s.size ≤ 200000000) :
    Calls Tryz.prog 19 #[.string s] w fun e w' => e = .returned (.string (bs (quoteL s.data.toList))) ∧ Below w.heap.size w w' := by
  go_enter Tryz.func19, Tryz.ntmps19
  go_wp2
  go_loopw [4, 5] (fun v i wr => ∃ k : Nat, k ≤ s.size ∧ i = .int .i64 k ∧ v = .string (bs (upTo s k)) ∧ Below w.heap.size w wr) (fun _ i _ => s.size - (intOf i).toNat)
  case atStart => exact ⟨0, Nat.zero_le _, rfl, rfl, Below.refl _ _⟩
  case round =>
    obtain ⟨k, hk, rfl, rfl, hB⟩ := hrel
    have hul := upTo_len s k
    by_cases hlt : k < s.size
    · have hsn := upTo_snoc s k hlt
      have hQz : (bs (upTo s k)).size ≤ 800000001 := by rw [bs_size]; omega
      have hX := one_byte s k hlt
      have hXz : (s.extract k (k + 1)).size = 1 := by rw [hX, bs_size]; rfl
      have g1 : (k : Int) < s.size := by omega
      obtain ⟨c, hc⟩ : ∃ c, s[k] = c := ⟨_, rfl⟩
      rw [hc] at hX hsn
      obtain ⟨Q, hQ⟩ : ∃ Q, bs (upTo s k) = Q := ⟨_, rfl⟩
      obtain ⟨X, hX2⟩ : ∃ X, s.extract k (k + 1) = X := ⟨_, rfl⟩
      rw [hX2] at hX hXz
      have HN : ∀ l, quoteB c = l → bs (upTo s (k + 1)) = Q ++ bs l := fun l h => by rw [hsn, h, ← hQ, bs_join]
      have HN := Lib.hid HN
      have HX := Lib.hid hX
      rw [hQ] at hQz ⊢
      clear hul hsn hX hQ
      by_cases h34 : c.toNat = 34
      · have hq := Lib.hid (show quoteB c = [92, c] by unfold quoteB; rw [if_neg (by omega), if_neg (by omega), if_pos (.inl h34)])
        have d : ((c.toNat : Int) == 34) = true := by rw [h34]; rfl
        clear h34
        go_wp2
        go_roundw
        case rel => exact ⟨k + 1, by omega, by go_num, congrArg Value.string (by rw [HN.out _ hq.out, HX.out, bs92, app2]; rfl), hB⟩
        case measure => simp [intOf]; omega
      · have d34 : ((c.toNat : Int) == 34) = false := by rw [beq_eq_false_iff_ne]; omega
        by_cases h92 : c.toNat = 92
        · have hq := Lib.hid (show quoteB c = [92, c] by unfold quoteB; rw [if_neg (by omega), if_neg (by omega), if_pos (.inr h92)])
          have d : ((c.toNat : Int) == 92) = true := by rw [h92]; rfl
          clear h92 h34
          go_wp2
          go_roundw
          case rel => exact ⟨k + 1, by omega, by go_num, congrArg Value.string (by rw [HN.out _ hq.out, HX.out, bs92, app2]; rfl), hB⟩
          case measure => simp [intOf]; omega
        · have d92 : ((c.toNat : Int) == 92) = false := by rw [beq_eq_false_iff_ne]; omega
          by_cases h10 : c.toNat = 10
          · have hq := Lib.hid (show quoteB c = [92, 110] by unfold quoteB; rw [if_pos h10])
            have d : ((c.toNat : Int) == 10) = true := by rw [h10]; rfl
            clear h92 h34 h10
            go_wp2
            go_roundw
            case rel => exact ⟨k + 1, by omega, by go_num, congrArg Value.string (by rw [HN.out _ hq.out, bs92110]), hB⟩
            case measure => simp [intOf]; omega
          · have d10 : ((c.toNat : Int) == 10) = false := by rw [beq_eq_false_iff_ne]; omega
            by_cases h9 : c.toNat = 9
            · have hq := Lib.hid (show quoteB c = [92, 116] by unfold quoteB; rw [if_neg h10, if_pos h9])
              have d : ((c.toNat : Int) == 9) = true := by rw [h9]; rfl
              clear h92 h34 h10 h9
              go_wp2
              go_roundw
              case rel => exact ⟨k + 1, by omega, by go_num, congrArg Value.string (by rw [HN.out _ hq.out, bs92116]), hB⟩
              case measure => simp [intOf]; omega
            · have d9 : ((c.toNat : Int) == 9) = false := by rw [beq_eq_false_iff_ne]; omega
              by_cases hp : plainB c = true
              · have hq := Lib.hid (show quoteB c = [c] by unfold quoteB; rw [if_neg h10, if_neg h9, if_neg (by omega), if_pos hp])
                have hp2 : 32 ≤ c.toNat ∧ c.toNat ≤ 126 := by
                  unfold plainB at hp
                  simpa [UInt8.le_iff_toNat_le] using hp
                have p1 : (32 : Int) ≤ c.toNat := by omega
                have p2 : (c.toNat : Int) ≤ 126 := by omega
                clear h92 h34 h10 h9 hp hp2
                go_wp2
                go_roundw
                case rel => exact ⟨k + 1, by omega, by go_num, congrArg Value.string (by rw [HN.out _ hq.out, HX.out]), hB⟩
                case measure => simp [intOf]; omega
              · have hq := Lib.hid (show quoteB c = [92, 120, hexD (c.toNat / 16), hexD (c.toNat % 16)] by unfold quoteB; rw [if_neg h10, if_neg h9, if_neg (by omega), if_neg hp])
                have hp2 : c.toNat < 32 ∨ (32 ≤ c.toNat ∧ 126 < c.toNat) := by
                  by_cases h1 : c.toNat < 32
                  · exact .inl h1
                  · refine .inr ⟨by omega, ?_⟩
                    have : ¬ (32 ≤ c.toNat ∧ c.toNat ≤ 126) := fun h => hp (by unfold plainB; simpa [UInt8.le_iff_toNat_le] using h)
                    omega
                have hlt256 : c.toNat < 256 := c.toNat_lt
                have hdiv : (c.toNat : Int) / 16 = ((c.toNat / 16 : Nat) : Int) := by omega
                have hmod : (c.toNat : Int) % 16 = ((c.toNat % 16 : Nat) : Int) := by omega
                have hdivt : (c.toNat : Int).tdiv 16 = ((c.toNat / 16 : Nat) : Int) := by rw [Int.tdiv_eq_ediv_of_nonneg (by omega), hdiv]
                have hmodt : (c.toNat : Int).tmod 16 = ((c.toNat % 16 : Nat) : Int) := by rw [Int.tmod_eq_emod_of_nonneg (by omega), hmod]
                have x1 := hex_bs (c.toNat / 16) (by omega)
                have x2 := hex_bs (c.toNat % 16) (by omega)
                have b1 : c.toNat / 16 < 16 := by omega
                have b2 : c.toNat % 16 < 16 := by omega
                obtain ⟨m1, hm1⟩ : ∃ n, c.toNat / 16 = n := ⟨_, rfl⟩
                obtain ⟨m2, hm2⟩ : ∃ n, c.toNat % 16 = n := ⟨_, rfl⟩
                rw [hm1] at hdiv hdivt x1 b1 hq
                rw [hm2] at hmod hmodt x2 b2 hq
                have X1 := Lib.hid x1
                have X2 := Lib.hid x2
                have i1 : (m1 : Int) < 16 := by omega
                have i2 : (m2 : Int) < 16 := by omega
                clear x1 x2 hm1 hm2 h92 h34 h10 h9 hp
                rcases hp2 with hp2 | ⟨hp2, hp3⟩
                · have p1 : ¬ (32 : Int) ≤ c.toNat := by omega
                  go_wp2_with fail
                  go_quiet (fail)
                  go_wp2
                  go_roundw
                  case rel => exact ⟨k + 1, by omega, by go_num, congrArg Value.string (by rw [HN.out _ hq.out, X1.out, X2.out, bs92120, app2, app2]; rfl), hB.trans ((Drewn.below ⟨_, rfl⟩ : Below wr.heap.size wr (wr.drewN nq)).mono hB.size)⟩
                  case measure => simp [intOf]; omega
                · have p1 : (32 : Int) ≤ c.toNat := by omega
                  have p2 : ¬ (c.toNat : Int) ≤ 126 := by omega
                  go_wp2_with fail
                  go_quiet (fail)
                  go_wp2
                  go_roundw
                  case rel => exact ⟨k + 1, by omega, by go_num, congrArg Value.string (by rw [HN.out _ hq.out, X1.out, X2.out, bs92120, app2, app2]; rfl), hB.trans ((Drewn.below ⟨_, rfl⟩ : Below wr.heap.size wr (wr.drewN nq)).mono hB.size)⟩
                  case measure => simp [intOf]; omega
    · obtain rfl : k = s.size := by omega
      have HU := Lib.hid (upTo_all s)
      have hQz : (bs (upTo s s.size)).size ≤ 800000001 := by rw [bs_size]; omega
      have g1 : ¬ (s.size : Int) < s.size := by omega
      go_wp2
      go_ret
      exact ⟨ret_s9 (by rw [bs34, bs_join, HU.out]), hB⟩
end Go.Proofs.YtconnhphkbgbkaaGreatDoor
