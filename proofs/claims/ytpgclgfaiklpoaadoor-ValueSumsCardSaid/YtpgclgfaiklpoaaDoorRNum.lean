/- gumshoeref06.Num: a value's number. -/
import Derived.Test.YtpgclgfaiklpoaaDoorRDig
import Derived.Deep.RegionHeld3
namespace Go.Proofs.YtpgclgfaiklpoaaDoor
open Go.RowKit Go.Proofs

/-- The world with the value boxed. -/
abbrev boxT (w : World) (s : ByteArray) : World := w.alloc (.cells #[.int .i64 4, .int .i64 0, .string s] 23)
theorem wrap_wrap (x : Int) : wrap64 (wrap64 x) = wrap64 x := by unfold wrap64; omega
theorem below_box (w : World) (o : Obj) : Below w.heap.size w (w.alloc o) := (Below.refl _ _).alloc (Nat.le_refl _) _

set_option maxRecDepth 100000 in
set_option maxHeartbeats 4000000 in
theorem rnum_not (s : ByteArray) (w : World) (h1 : 1 ≤ s.size) (h2 : s.size ≤ 20) (hno : ∀ n, I64 n → Lib.itoa n ≠ s.data.toList) :
    Calls Tryd.prog 17 #[.agg #[.int .i64 4, .int .i64 0, .string s]] w fun e w' => e = .returned (.int .i64 0) ∧ Below w.heap.size w w' := by
  have HD := Lib.hid (fun (x : Int) (h : I64 x) => rdigits_any x h (boxT w s).drew)
  have HN := Lib.hid (fun (x : Int) (h : I64 x) => not_same (hno x h))
  clear hno
  have hB := Lib.hid (below_box w (.cells #[.int .i64 4, .int .i64 0, .string s] 23))
  have e0 : ((s.size : Int) == 0) = false := by rw [beq_eq_false_iff_ne]; omega
  have e1' : decide (20 < s.size) = false := by simpa using h2
  have g0 : 0 < s.size := by omega
  cases em : ((s[0].toNat : Int) == 45)
  all_goals
    go_enter Tryd.func17, Tryd.ntmps17
    go_wp2
    go_loop [3, 5] (fun n i => ∃ (k : Nat) (a : Int), i = .int .i64 k ∧ n = .int .i64 a ∧ k ≤ s.size ∧ a = wrap64 a) (fun _ i => s.size - (intOf i).toNat)
    case atStart => first | exact ⟨0, 0, rfl, rfl, by omega, by simp [wrap64]⟩ | exact ⟨1, 0, rfl, rfl, by omega, by simp [wrap64]⟩
    case round =>
      obtain ⟨k, a, rfl, rfl, hk, ha⟩ := hrel
      have HA := Lib.hid ha
      have a1 : -9223372036854775808 ≤ a := by have := wrap_i64 a; rw [ha]; exact this.1
      have a2 : a ≤ 9223372036854775807 := by have := wrap_i64 a; rw [ha]; exact this.2
      clear ha
      by_cases hlt : k < s.size
      · by_cases hd : 48 ≤ s[k].toNat ∧ s[k].toNat ≤ 57
        · have d1 : (48 : Int) ≤ s[k].toNat := by omega
          have d2 : (s[k].toNat : Int) ≤ 57 := by omega
          have d3 : ¬ (s[k].toNat : Int) < 48 := by omega
          have d4 : ¬ (57 : Int) < s[k].toNat := by omega
          have d5 : decide (s[k].toNat < 48) = false := by simp; omega
          have d6 : decide (57 < s[k].toNat) = false := by simp; omega
          clear hd
          go_wp2
          go_round
          case rel => exact ⟨k + 1, _, by go_num, rfl, by omega, (wrap_wrap _).symm⟩
          case measure =>
            simp [intOf]
            omega
        · by_cases hd1 : s[k].toNat < 48
          · have d1 : (s[k].toNat : Int) < 48 := by omega
            have d5 : decide (s[k].toNat < 48) = true := by simp; omega
            clear hd
            go_wp2
            go_ret
            exact ⟨rfl, hB.out⟩
          · have d2 : (57 : Int) < (s[k].toNat : Int) := by omega
            have d3 : ¬ (s[k].toNat : Int) < 48 := by omega
            have d5 : decide (s[k].toNat < 48) = false := by simp; omega
            have d6 : decide (57 < s[k].toNat) = true := by simp; omega
            clear hd hd1
            go_wp2
            go_ret
            exact ⟨rfl, hB.out⟩
      · have S0 : (boxT w s).cell? ⟨w.heap.size, 2, none⟩ = some (.string s) := World.cell?_alloc_new w _ _ 2
        obtain ⟨x, hx⟩ : ∃ x, x = wrap64 (-a) := ⟨_, rfl⟩
        have hxi : I64 x := by rw [hx]; exact wrap_i64 _
        have hn1 := HN.out a ⟨a1, a2⟩
        have hn2 := HN.out x hxi
        have HX := Lib.hid hxi
        have hx' := hx.symm
        have HA2 := Lib.hid (show I64 a from ⟨a1, a2⟩)
        clear hx hxi
        go_wp2_with fail
        go_region_held3 (fun w' => w'.cell? ⟨w.heap.size, 2, none⟩ = some (.string s)) (first | go_keep | exact S1)
          ((first
            | (go_at_call 30; (with_reducible refine (HD.out a HA2.out).mono ?_); rintro e w1 ⟨rfl, hb1⟩; have S1 := (hb1.cell (p := ⟨w.heap.size, 2, none⟩) (by simp)).trans S0)
            | (go_at_call 30; (with_reducible refine (HD.out x HX.out).mono ?_); rintro e w1 ⟨rfl, hb1⟩; have S1 := (hb1.cell (p := ⟨w.heap.size, 2, none⟩) (by simp)).trans S0)))
        go_wp2
        go_ret
        exact ⟨rfl, hB.out.drew.trans (hb1.mono hB.out.drew.size)⟩

set_option maxRecDepth 100000 in
set_option maxHeartbeats 4000000 in
theorem rnum_pos (u : Nat) (s : ByteArray) (w : World) (hu : u ≤ 9223372036854775807) (hs : s.data.toList = Lib.decDigits u) (hi : Lib.itoa u = Lib.decDigits u) :
    Calls Tryd.prog 17 #[.agg #[.int .i64 4, .int .i64 0, .string s]] w fun e w' => e = .returned (.int .i64 u) ∧ Below w.heap.size w w' := by
  have HD := Lib.hid (rdigits_any u ⟨by omega, by omega⟩ (boxT w s).drew)
  have HS := Lib.hid (is_same (l := Lib.itoa u) (s := s) (by rw [hi, hs]))
  have hlen := dec_len u (by omega)
  have hsz : s.size = (Lib.decDigits u).length := by rw [← hs]; simp
  have HU := Lib.hid (And.intro (show valL (Lib.decDigits u) ≤ 9223372036854775808 by rw [dec_val]; omega) (dec_digs u))
  have h1 : 1 ≤ s.size := by omega
  have h2 : s.size ≤ 20 := by omega
  have HL := Lib.hid hs
  have HV := Lib.hid hu
  have HZ := Lib.hid hsz
  have hB := Lib.hid (below_box w (.cells #[.int .i64 4, .int .i64 0, .string s] 23))
  have e0 : ((s.size : Int) == 0) = false := by rw [beq_eq_false_iff_ne]; omega
  have e1' : decide (20 < s.size) = false := by simpa using h2
  have g0 : 0 < s.size := by omega
  have em : ((s[0].toNat : Int) == 45) = false := by
    obtain ⟨hk, hc⟩ := at_list hs 0 g0
    have := dec_digs u _ (List.getElem_mem hk)
    rw [hc, beq_eq_false_iff_ne]
    omega
  clear hi hs hlen hu hsz
  go_enter Tryd.func17, Tryd.ntmps17
  go_wp2
  go_loop [3, 5] (fun n i => ∃ (k : Nat) (a : Int), i = .int .i64 k ∧ n = .int .i64 a ∧ k ≤ s.size ∧ Gath (Lib.decDigits u) k a) (fun _ i => s.size - (intOf i).toNat)
  case atStart => exact ⟨0, 0, rfl, rfl, by omega, by simp [Gath, valL, valF, wrap64]⟩
  case round =>
    obtain ⟨k, a, rfl, rfl, hk, hg⟩ := hrel
    by_cases hlt : k < s.size
    · obtain ⟨hk1, hc⟩ := at_list HL.out k hlt
      obtain ⟨⟨a1, a2⟩, ⟨a3, a4⟩, hg'⟩ := gath_succ hg hk1 HU.out.1 HU.out.2
      have hdig := HU.out.2 _ (List.getElem_mem hk1)
      rw [← hc] at hg' hdig
      rw [show a * 10 = 10 * a by omega] at hg' a3 a4
      have HG := Lib.hid hg'
      have d1 : (48 : Int) ≤ s[k].toNat := by omega
      have d2 : (s[k].toNat : Int) ≤ 57 := by omega
      have d3 : ¬ (s[k].toNat : Int) < 48 := by omega
      have d4 : ¬ (57 : Int) < s[k].toNat := by omega
      have d5 : decide (s[k].toNat < 48) = false := by simp; omega
      have d6 : decide (57 < s[k].toNat) = false := by simp; omega
      clear hdig hg' hc hg hk1
      go_wp2
      go_round
      case rel => exact ⟨k + 1, _, by go_num, rfl, by omega, HG.out⟩
      case measure =>
        simp [intOf]
        omega
    · have S0 : (boxT w s).cell? ⟨w.heap.size, 2, none⟩ = some (.string s) := World.cell?_alloc_new w _ _ 2
      have ha : a = u := by
        have := HZ.out
        have := HV.out
        unfold Gath at hg
        rw [List.take_of_length_le (by omega), dec_val] at hg
        rw [hg]
        unfold wrap64
        omega
      subst ha
      have hsame := HS.out
      clear hg
      go_wp2_with fail
      go_region_held3 (fun w' => w'.cell? ⟨w.heap.size, 2, none⟩ = some (.string s)) (first | go_keep | exact S1)
        ((go_at_call 30; (with_reducible refine (HD.out).mono ?_); rintro e w1 ⟨rfl, hb1⟩; have S1 := (hb1.cell (p := ⟨w.heap.size, 2, none⟩) (by simp)).trans S0))
      go_wp2
      go_ret
      exact ⟨rfl, hB.out.drew.trans (hb1.mono hB.out.drew.size)⟩

set_option maxRecDepth 100000 in
set_option maxHeartbeats 4000000 in
theorem rnum_neg (u : Nat) (s : ByteArray) (w : World) (h1 : 1 ≤ u) (hu : u ≤ 9223372036854775808) (hs : s.data.toList = 45 :: Lib.decDigits u) (hi : Lib.itoa (-(u : Int)) = 45 :: Lib.decDigits u) :
    Calls Tryd.prog 17 #[.agg #[.int .i64 4, .int .i64 0, .string s]] w fun e w' => e = .returned (.int .i64 (-(u : Int))) ∧ Below w.heap.size w w' := by
  obtain ⟨N, hN⟩ : ∃ N : Int, N = -(u : Int) := ⟨_, rfl⟩
  rw [← hN] at hi ⊢
  have HD := Lib.hid (rdigits_any N ⟨by omega, by omega⟩ (boxT w s).drew)
  have HS := Lib.hid (is_same (l := Lib.itoa N) (s := s) (by rw [hi, hs]))
  have hlen := dec_len u (by omega)
  have hsz : s.size = (Lib.decDigits u).length + 1 := by
    have : s.data.toList.length = s.size := by simp
    rw [← this, hs]
    rfl
  have HU := Lib.hid (And.intro (show valL (Lib.decDigits u) ≤ 9223372036854775808 by rw [dec_val]; omega) (dec_digs u))
  have h1 : 1 ≤ s.size := by omega
  have h2 : s.size ≤ 20 := by omega
  have HL := Lib.hid hs
  have HV := Lib.hid (And.intro hu hN)
  have HZ := Lib.hid hsz
  have hB := Lib.hid (below_box w (.cells #[.int .i64 4, .int .i64 0, .string s] 23))
  have e0 : ((s.size : Int) == 0) = false := by rw [beq_eq_false_iff_ne]; omega
  have e1' : decide (20 < s.size) = false := by simpa using h2
  have g0 : 0 < s.size := by omega
  have em : ((s[0].toNat : Int) == 45) = true := by
    obtain ⟨hk, hc⟩ := at_list hs 0 g0
    rw [hc]
    rfl
  clear hi hs hlen hu hsz hN
  go_enter Tryd.func17, Tryd.ntmps17
  go_wp2
  go_loop [3, 5] (fun n i => ∃ (k : Nat) (a : Int), i = .int .i64 (k + 1 : Nat) ∧ n = .int .i64 a ∧ k + 1 ≤ s.size ∧ Gath (Lib.decDigits u) k a) (fun _ i => s.size - (intOf i).toNat)
  case atStart => exact ⟨0, 0, rfl, rfl, by omega, by simp [Gath, valL, valF, wrap64]⟩
  case round =>
    obtain ⟨k', a, rfl, rfl, hk, hg⟩ := hrel
    obtain ⟨k, hkk⟩ : ∃ k, k = k' + 1 := ⟨_, rfl⟩
    rw [← hkk] at hk ⊢
    have HK := Lib.hid hkk
    by_cases hlt : k < s.size
    · obtain ⟨hk1, hc⟩ := at_list HL.out k hlt
      have hk0 : k' < (Lib.decDigits u).length := by
        subst hkk
        simpa using hk1
      have hc' : s[k] = (Lib.decDigits u)[k'] := by
        rw [hc]
        subst hkk
        rfl
      obtain ⟨⟨a1, a2⟩, ⟨a3, a4⟩, hg'⟩ := gath_succ hg hk0 HU.out.1 HU.out.2
      have hdig := HU.out.2 _ (List.getElem_mem hk0)
      rw [← hc'] at hg' hdig
      rw [show a * 10 = 10 * a by omega] at hg' a3 a4
      have HG := Lib.hid hg'
      have d1 : (48 : Int) ≤ s[k].toNat := by omega
      have d2 : (s[k].toNat : Int) ≤ 57 := by omega
      have d3 : ¬ (s[k].toNat : Int) < 48 := by omega
      have d4 : ¬ (57 : Int) < s[k].toNat := by omega
      have d5 : decide (s[k].toNat < 48) = false := by simp; omega
      have d6 : decide (57 < s[k].toNat) = false := by simp; omega
      clear hdig hg' hc hg hk1 hc' hk0 hkk
      go_wp2
      go_round
      case rel => exact ⟨k' + 1, _, by rw [← HK.out]; go_num, rfl, by have := HK.out; omega, HG.out⟩
      case measure =>
        simp [intOf]
        omega
    · have S0 : (boxT w s).cell? ⟨w.heap.size, 2, none⟩ = some (.string s) := World.cell?_alloc_new w _ _ 2
      have ha : wrap64 (-a) = N := by
        have := HZ.out
        have := HV.out
        unfold Gath at hg
        rw [List.take_of_length_le (by omega), dec_val] at hg
        rw [hg, HV.out.2]
        unfold wrap64
        omega
      have hsame := HS.out
      clear hg hkk
      go_wp2_with fail
      go_region_held3 (fun w' => w'.cell? ⟨w.heap.size, 2, none⟩ = some (.string s)) (first | go_keep | exact S1)
        ((go_at_call 30; (with_reducible refine (HD.out).mono ?_); rintro e w1 ⟨rfl, hb1⟩; have S1 := (hb1.cell (p := ⟨w.heap.size, 2, none⟩) (by simp)).trans S0))
      go_wp2
      go_ret
      exact ⟨rfl, hB.out.drew.trans (hb1.mono hB.out.drew.size)⟩
end Go.Proofs.YtpgclgfaiklpoaaDoor
