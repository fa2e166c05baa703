/- The law's walk: a name, a word, a number is one token. -/
import Derived.Test.YtfjfbpmlohgghaaDoorLawBlanks
import Derived.Test.YtfjfbpmlohgghaaDoorMathN
import Derived.Test.YtfjfbpmlohgghaaDoorName
namespace Go.Proofs.YtfjfbpmlohgghaaDoor
open Go.RowKit Go.Proofs

/-- How far the digits of n are written. -/
def Dig (n v : Nat) (ds : Bs) : Prop := (ds = [] ∧ v = n) ∨ (ds ≠ [] ∧ 0 < v ∧ digitsL n = digitsL v ++ ds) ∨ (ds ≠ [] ∧ v = 0 ∧ digitsL n = ds)
theorem Dig.next {n v : Nat} {ds : Bs} (h : Dig n v ds) (hor : 0 < v ∨ ds = []) : Dig n (v / 10) (digitB10 v :: ds) := by
  have key : digitsL n = digitsL v ++ ds := by
    rcases h with ⟨rfl, rfl⟩ | ⟨_, _, h⟩ | ⟨h1, rfl, _⟩
    · simp
    · exact h
    · rcases hor with h | h
      · omega
      · exact absurd h h1
  by_cases h10 : v < 10
  · refine .inr (.inr ⟨by simp, by omega, ?_⟩)
    rw [key, digitsL_one h10]
    rfl
  · refine .inr (.inl ⟨by simp, by omega, ?_⟩)
    rw [key, digitsL_more h10]
    simp
theorem Dig.len {n v : Nat} {ds : Bs} (h : Dig n v ds) (hn : n ≤ 999999999999999) : ds.length ≤ 15 := by
  have := digitsL_len 14 n (by omega)
  rcases h with ⟨rfl, rfl⟩ | ⟨_, _, h⟩ | ⟨_, _, h⟩
  · simp
  · rw [h, List.length_append] at this
    omega
  · rw [h] at this
    omega
theorem Dig.end {n : Nat} {ds : Bs} (h : Dig n 0 ds) (h0 : ds ≠ []) : ds = digitsL n := by
  rcases h with ⟨h, _⟩ | ⟨_, h, _⟩ | ⟨_, _, h⟩
  · exact absurd h h0
  · omega
  · exact h.symm
def shortV : Value → Nat
  | .string x => if x.size = 0 then 1 else 0
  | _ => 0
theorem bs_isnil : ((bs []).toList == []) = true := by rw [Lib.toList_data, bs_list]; rfl
theorem bs_notnil {ds : Bs} (h : ds ≠ []) : ((bs ds).toList == []) = false := by
  rw [Lib.toList_data, bs_list]
  cases ds with
  | nil => exact absurd rfl h
  | cons c r => rfl

set_option maxRecDepth 100000 in
set_option maxHeartbeats 4000000 in
theorem one_nameneg (s S : ByteArray) (n : Int) (w : World) (hs : s.size ≤ maxLen) (hE : Env w) (hS : s.extract 0 (min s.size 200) = S)
    (HN : ∀ w, Calls Tryd.prog 13 #[.string S] w fun e w' => e = .returned (.bool true) ∧ Below w.heap.size w w') (HW : ∀ w, Calls Tryd.prog 11 #[.string S] w fun e w' => e = .returned (.bool false) ∧ Below w.heap.size w w')
    (HL : ∀ w, Env w → Calls Tryd.prog 18 #[.string S] w (LexPost w ⟨[⟨1, S.data.toList, 0, 1, false⟩], 0, 0⟩)) (hn : n < 0) :
    Calls Tryd.prog 8 #[.string s, .int .i64 n] w fun e w' => e = .returned (.bool true) ∧ Below w.heap.size w w' := by
  have HS := Lib.hid (shown_any w hE)
  have HN' := Lib.hid HN
  have HW' := Lib.hid HW
  have HL' := Lib.hid HL
  clear HN HW HL
  have ms : (min (s.size : Int) 200).toNat = min s.size 200 := by omega
  unfold maxLen at hs
  go_enter Tryd.func8, Tryd.ntmps8
  go_wp2_with (go_at_call 10; refine HS.out.mono ?_; rintro e w1 ⟨rfl, hB1⟩)
  have hE1 := hE.kept hB1
  go_at_call 18
  refine (HL'.out _ hE1).mono ?_
  intro e w2 hp
  obtain ⟨g, cap, rfl, hb2, hcap, hg, hlt, hcells⟩ := lex_some hp (by simp)
  have hB2 := hB1.trans (hb2.mono hB1.size)
  have k0 : w2.cell? ⟨g, 0, none⟩ = some (.int .i64 1) := hcells 0 _ rfl
  have k1 : w2.cell? ⟨g, 1, none⟩ = some (.string S) := by rw [hcells 1 _ rfl, bs_of]
  clear hcells hp
  go_wp2_with fail
  go_at_call 13
  refine (HN'.out _).mono ?_
  rintro e w3 ⟨rfl, hb3⟩
  have hB3 := hB2.trans (hb3.mono hB2.size)
  have q0 := (hb3.cell (p := ⟨g, 0, none⟩) hlt).trans k0
  have q1 := (hb3.cell (p := ⟨g, 1, none⟩) hlt).trans k1
  go_wp2_with fail
  go_at_call 11
  refine (HW'.out _).mono ?_
  rintro e w4 ⟨rfl, hb4⟩
  have hB4 := hB3.trans (hb4.mono hB3.size)
  go_wp2
  go_ret
  exact ⟨rfl, hB4⟩

set_option maxRecDepth 100000 in
set_option maxHeartbeats 4000000 in
theorem one_namebig (s S : ByteArray) (n : Int) (w : World) (hs : s.size ≤ maxLen) (hE : Env w) (hS : s.extract 0 (min s.size 200) = S)
    (HN : ∀ w, Calls Tryd.prog 13 #[.string S] w fun e w' => e = .returned (.bool true) ∧ Below w.heap.size w w') (HW : ∀ w, Calls Tryd.prog 11 #[.string S] w fun e w' => e = .returned (.bool false) ∧ Below w.heap.size w w')
    (HL : ∀ w, Env w → Calls Tryd.prog 18 #[.string S] w (LexPost w ⟨[⟨1, S.data.toList, 0, 1, false⟩], 0, 0⟩)) (hn : 999999999999999 < n) :
    Calls Tryd.prog 8 #[.string s, .int .i64 n] w fun e w' => e = .returned (.bool true) ∧ Below w.heap.size w w' := by
  have HS := Lib.hid (shown_any w hE)
  have HN' := Lib.hid HN
  have HW' := Lib.hid HW
  have HL' := Lib.hid HL
  clear HN HW HL
  have ms : (min (s.size : Int) 200).toNat = min s.size 200 := by omega
  unfold maxLen at hs
  have hn0 : ¬ n < 0 := by omega
  go_enter Tryd.func8, Tryd.ntmps8
  go_wp2_with (go_at_call 10; refine HS.out.mono ?_; rintro e w1 ⟨rfl, hB1⟩)
  have hE1 := hE.kept hB1
  go_at_call 18
  refine (HL'.out _ hE1).mono ?_
  intro e w2 hp
  obtain ⟨g, cap, rfl, hb2, hcap, hg, hlt, hcells⟩ := lex_some hp (by simp)
  have hB2 := hB1.trans (hb2.mono hB1.size)
  have k0 : w2.cell? ⟨g, 0, none⟩ = some (.int .i64 1) := hcells 0 _ rfl
  have k1 : w2.cell? ⟨g, 1, none⟩ = some (.string S) := by rw [hcells 1 _ rfl, bs_of]
  clear hcells hp
  go_wp2_with fail
  go_at_call 13
  refine (HN'.out _).mono ?_
  rintro e w3 ⟨rfl, hb3⟩
  have hB3 := hB2.trans (hb3.mono hB2.size)
  have q0 := (hb3.cell (p := ⟨g, 0, none⟩) hlt).trans k0
  have q1 := (hb3.cell (p := ⟨g, 1, none⟩) hlt).trans k1
  go_wp2_with fail
  go_at_call 11
  refine (HW'.out _).mono ?_
  rintro e w4 ⟨rfl, hb4⟩
  have hB4 := hB3.trans (hb4.mono hB3.size)
  go_wp2
  go_ret
  exact ⟨rfl, hB4⟩

set_option maxRecDepth 100000 in
set_option maxHeartbeats 4000000 in
theorem one_namein (s S : ByteArray) (n : Nat) (w : World) (hs : s.size ≤ maxLen) (hE : Env w) (hS : s.extract 0 (min s.size 200) = S)
    (HN : ∀ w, Calls Tryd.prog 13 #[.string S] w fun e w' => e = .returned (.bool true) ∧ Below w.heap.size w w') (HW : ∀ w, Calls Tryd.prog 11 #[.string S] w fun e w' => e = .returned (.bool false) ∧ Below w.heap.size w w')
    (HL : ∀ w, Env w → Calls Tryd.prog 18 #[.string S] w (LexPost w ⟨[⟨1, S.data.toList, 0, 1, false⟩], 0, 0⟩)) (hn : n ≤ 999999999999999) :
    Calls Tryd.prog 8 #[.string s, .int .i64 n] w fun e w' => e = .returned (.bool true) ∧ Below w.heap.size w w' := by
  have HS := Lib.hid (shown_any w hE)
  have HN' := Lib.hid HN
  have HW' := Lib.hid HW
  have HL' := Lib.hid HL
  clear HN HW HL
  have ms : (min (s.size : Int) 200).toNat = min s.size 200 := by omega
  unfold maxLen at hs
  have hn0 : ¬ (n : Int) < 0 := by omega
  have hn1 : ¬ (999999999999999 : Int) < n := by omega
  have HD := Lib.hid (fun w hE => lex_any (bs (digitsL n)) w (by rw [bs_size]; have := digitsL_len 14 n (by omega); omega) hE)
  go_enter Tryd.func8, Tryd.ntmps8
  go_wp2_with (go_at_call 10; refine HS.out.mono ?_; rintro e w1 ⟨rfl, hB1⟩)
  have hE1 := hE.kept hB1
  go_at_call 18
  refine (HL'.out _ hE1).mono ?_
  intro e w2 hp
  obtain ⟨g, cap, rfl, hb2, hcap, hg, hlt, hcells⟩ := lex_some hp (by simp)
  have hB2 := hB1.trans (hb2.mono hB1.size)
  have k0 : w2.cell? ⟨g, 0, none⟩ = some (.int .i64 1) := hcells 0 _ rfl
  have k1 : w2.cell? ⟨g, 1, none⟩ = some (.string S) := by rw [hcells 1 _ rfl, bs_of]
  clear hcells hp
  go_wp2_with fail
  go_at_call 13
  refine (HN'.out _).mono ?_
  rintro e w3 ⟨rfl, hb3⟩
  have hB3 := hB2.trans (hb3.mono hB2.size)
  have q0 := (hb3.cell (p := ⟨g, 0, none⟩) hlt).trans k0
  have q1 := (hb3.cell (p := ⟨g, 1, none⟩) hlt).trans k1
  go_wp2_with fail
  go_at_call 11
  refine (HW'.out _).mono ?_
  rintro e w4 ⟨rfl, hb4⟩
  have hB4 := hB3.trans (hb4.mono hB3.size)
  go_wp2_with fail
  clear hb4
  go_loopw [9, 10] (fun d v wr => ∃ (V : Nat) (ds : Bs), v = .int .i64 V ∧ d = .string (bs ds) ∧ V ≤ n ∧ Dig n V ds ∧ Below w.heap.size w wr) (fun d v _ => 2 * (intOf v).toNat + shortV d)
  case atStart => exact ⟨n, [], rfl, rfl, Nat.le_refl _, .inl ⟨rfl, rfl⟩, hB4⟩
  case round =>
    obtain ⟨V, ds, rfl, rfl, hV, hD, hB⟩ := hrel
    have hlen := hD.len hn
    have hDH := Lib.hid hD
    have ecast : ((48 + V % 10 : Nat) : Int) = 48 + (V : Int) % 10 := by omega
    have z1 : ¬ 9223372036854775807 < (bs [digitB10 V]).size + (bs ds).size := by
      rw [bs_size, bs_size]
      simp
      omega
    have hcv := byteRow_str (W := wr.alloc (.cells #[.int .u8 (digitB10 V).toNat] 5)) (B := w.heap.size) (v := .slice (some ⟨wr.heap.size, 0, none⟩) 1 1) (l := [digitB10 V]) ⟨rfl, .inr ⟨wr.heap.size, 1, _, rfl, hB.size, heap_alloc_new wr _, Nat.le_refl _, by unfold maxLen; decide, rfl, rfl⟩⟩
    rw [digitB10_nat, ecast] at hcv
    have happ : bs [digitB10 V] ++ bs ds = bs (digitB10 V :: ds) := by rw [← bs_app]; rfl
    have hHA := Lib.hid happ
    by_cases h0 : 0 < V
    · have g0 : (0 : Int) < V := by omega
      clear hD ecast happ
      go_wp2
      go_roundw
      case rel => exact ⟨V / 10, digitB10 V :: ds, by go_num, by rw [hHA.out], by omega, hDH.out.next (.inl h0), hB.alloc hB.size _⟩
      case measure =>
        rw [hHA.out]
        simp [intOf, shortV, bs_size]
        omega
    · obtain rfl : V = 0 := by omega
      by_cases hd : ds = []
      · subst hd
        have hnil := bs_isnil
        rw [show (48 + ((0 : Nat) : Int) % 10) = 48 from rfl] at hcv
        clear hD ecast happ
        go_wp2
        go_roundw
        case rel => exact ⟨0, [digitB10 0], by go_num, by rw [hHA.out], by omega, hDH.out.next (.inr rfl), hB.alloc hB.size _⟩
        case measure =>
          rw [hHA.out]
          simp [intOf, shortV, bs_size]
      · have hnil := bs_notnil hd
        have hde := hD.end hd
        have HD' := Lib.hid HD.out
        rw [← hde, bs_list, hde, lex_digits n hn, ← hde] at HD'
        obtain ⟨D, hDs⟩ : ∃ D, bs ds = D := ⟨_, rfl⟩
        rw [hDs] at HD' hnil ⊢
        have HD2 := Lib.hid HD'
        have hE4 := hE.kept hB
        clear hcv z1 happ hHA hde HD' hD hDH
        go_wp2_with fail
        go_at_call 18
        refine (HD2.out _ hE4).mono ?_
        intro e w6 hp
        obtain ⟨g6, cap6, rfl, hb6, hcap6, hg6, hlt6, hcells6⟩ := lex_some hp (by simp)
        have hB6 := hB.trans (hb6.mono hB.size)
        have m0 : w6.cell? ⟨g6, 0, none⟩ = some (.int .i64 3) := hcells6 0 _ rfl
        have m2 : w6.cell? ⟨g6, 2, none⟩ = some (.int .i64 n) := hcells6 2 _ rfl
        clear hcells6 hp
        go_wp2
        go_ret
        exact ⟨rfl, hB6⟩

set_option maxRecDepth 100000 in
set_option maxHeartbeats 4000000 in
theorem one_wordneg (s S : ByteArray) (n : Int) (w : World) (hs : s.size ≤ maxLen) (hE : Env w) (hS : s.extract 0 (min s.size 200) = S)
    (HN : ∀ w, Calls Tryd.prog 13 #[.string S] w fun e w' => e = .returned (.bool false) ∧ Below w.heap.size w w') (HW : ∀ w, Calls Tryd.prog 11 #[.string S] w fun e w' => e = .returned (.bool true) ∧ Below w.heap.size w w')
    (HL : ∀ w, Env w → Calls Tryd.prog 18 #[.string S] w (LexPost w ⟨[⟨2, S.data.toList, 0, 1, false⟩], 0, 0⟩)) (hn : n < 0) :
    Calls Tryd.prog 8 #[.string s, .int .i64 n] w fun e w' => e = .returned (.bool true) ∧ Below w.heap.size w w' := by
  have HS := Lib.hid (shown_any w hE)
  have HN' := Lib.hid HN
  have HW' := Lib.hid HW
  have HL' := Lib.hid HL
  clear HN HW HL
  have ms : (min (s.size : Int) 200).toNat = min s.size 200 := by omega
  unfold maxLen at hs
  go_enter Tryd.func8, Tryd.ntmps8
  go_wp2_with (go_at_call 10; refine HS.out.mono ?_; rintro e w1 ⟨rfl, hB1⟩)
  have hE1 := hE.kept hB1
  go_at_call 18
  refine (HL'.out _ hE1).mono ?_
  intro e w2 hp
  obtain ⟨g, cap, rfl, hb2, hcap, hg, hlt, hcells⟩ := lex_some hp (by simp)
  have hB2 := hB1.trans (hb2.mono hB1.size)
  have k0 : w2.cell? ⟨g, 0, none⟩ = some (.int .i64 2) := hcells 0 _ rfl
  have k1 : w2.cell? ⟨g, 1, none⟩ = some (.string S) := by rw [hcells 1 _ rfl, bs_of]
  clear hcells hp
  go_wp2_with fail
  go_at_call 13
  refine (HN'.out _).mono ?_
  rintro e w3 ⟨rfl, hb3⟩
  have hB3 := hB2.trans (hb3.mono hB2.size)
  have q0 := (hb3.cell (p := ⟨g, 0, none⟩) hlt).trans k0
  have q1 := (hb3.cell (p := ⟨g, 1, none⟩) hlt).trans k1
  have hlt3 : g < w3.heap.size := Nat.lt_of_lt_of_le hlt hb3.size
  go_wp2_with fail
  go_at_call 11
  refine (HW'.out _).mono ?_
  rintro e w5 ⟨rfl, hb5⟩
  have hB5 := hB3.trans (hb5.mono hB3.size)
  have r0 := (hb5.cell (p := ⟨g, 0, none⟩) hlt3).trans q0
  have r1 := (hb5.cell (p := ⟨g, 1, none⟩) hlt3).trans q1
  go_wp2_with fail
  go_at_call 13
  refine (HN'.out _).mono ?_
  rintro e w4 ⟨rfl, hb4⟩
  have hB4 := hB5.trans (hb4.mono hB5.size)
  go_wp2
  go_ret
  exact ⟨rfl, hB4⟩

set_option maxRecDepth 100000 in
set_option maxHeartbeats 4000000 in
theorem one_wordbig (s S : ByteArray) (n : Int) (w : World) (hs : s.size ≤ maxLen) (hE : Env w) (hS : s.extract 0 (min s.size 200) = S)
    (HN : ∀ w, Calls Tryd.prog 13 #[.string S] w fun e w' => e = .returned (.bool false) ∧ Below w.heap.size w w') (HW : ∀ w, Calls Tryd.prog 11 #[.string S] w fun e w' => e = .returned (.bool true) ∧ Below w.heap.size w w')
    (HL : ∀ w, Env w → Calls Tryd.prog 18 #[.string S] w (LexPost w ⟨[⟨2, S.data.toList, 0, 1, false⟩], 0, 0⟩)) (hn : 999999999999999 < n) :
    Calls Tryd.prog 8 #[.string s, .int .i64 n] w fun e w' => e = .returned (.bool true) ∧ Below w.heap.size w w' := by
  have HS := Lib.hid (shown_any w hE)
  have HN' := Lib.hid HN
  have HW' := Lib.hid HW
  have HL' := Lib.hid HL
  clear HN HW HL
  have ms : (min (s.size : Int) 200).toNat = min s.size 200 := by omega
  unfold maxLen at hs
  have hn0 : ¬ n < 0 := by omega
  go_enter Tryd.func8, Tryd.ntmps8
  go_wp2_with (go_at_call 10; refine HS.out.mono ?_; rintro e w1 ⟨rfl, hB1⟩)
  have hE1 := hE.kept hB1
  go_at_call 18
  refine (HL'.out _ hE1).mono ?_
  intro e w2 hp
  obtain ⟨g, cap, rfl, hb2, hcap, hg, hlt, hcells⟩ := lex_some hp (by simp)
  have hB2 := hB1.trans (hb2.mono hB1.size)
  have k0 : w2.cell? ⟨g, 0, none⟩ = some (.int .i64 2) := hcells 0 _ rfl
  have k1 : w2.cell? ⟨g, 1, none⟩ = some (.string S) := by rw [hcells 1 _ rfl, bs_of]
  clear hcells hp
  go_wp2_with fail
  go_at_call 13
  refine (HN'.out _).mono ?_
  rintro e w3 ⟨rfl, hb3⟩
  have hB3 := hB2.trans (hb3.mono hB2.size)
  have q0 := (hb3.cell (p := ⟨g, 0, none⟩) hlt).trans k0
  have q1 := (hb3.cell (p := ⟨g, 1, none⟩) hlt).trans k1
  have hlt3 : g < w3.heap.size := Nat.lt_of_lt_of_le hlt hb3.size
  go_wp2_with fail
  go_at_call 11
  refine (HW'.out _).mono ?_
  rintro e w5 ⟨rfl, hb5⟩
  have hB5 := hB3.trans (hb5.mono hB3.size)
  have r0 := (hb5.cell (p := ⟨g, 0, none⟩) hlt3).trans q0
  have r1 := (hb5.cell (p := ⟨g, 1, none⟩) hlt3).trans q1
  go_wp2_with fail
  go_at_call 13
  refine (HN'.out _).mono ?_
  rintro e w4 ⟨rfl, hb4⟩
  have hB4 := hB5.trans (hb4.mono hB5.size)
  go_wp2
  go_ret
  exact ⟨rfl, hB4⟩

set_option maxRecDepth 100000 in
set_option maxHeartbeats 4000000 in
theorem one_wordin (s S : ByteArray) (n : Nat) (w : World) (hs : s.size ≤ maxLen) (hE : Env w) (hS : s.extract 0 (min s.size 200) = S)
    (HN : ∀ w, Calls Tryd.prog 13 #[.string S] w fun e w' => e = .returned (.bool false) ∧ Below w.heap.size w w') (HW : ∀ w, Calls Tryd.prog 11 #[.string S] w fun e w' => e = .returned (.bool true) ∧ Below w.heap.size w w')
    (HL : ∀ w, Env w → Calls Tryd.prog 18 #[.string S] w (LexPost w ⟨[⟨2, S.data.toList, 0, 1, false⟩], 0, 0⟩)) (hn : n ≤ 999999999999999) :
    Calls Tryd.prog 8 #[.string s, .int .i64 n] w fun e w' => e = .returned (.bool true) ∧ Below w.heap.size w w' := by
  have HS := Lib.hid (shown_any w hE)
  have HN' := Lib.hid HN
  have HW' := Lib.hid HW
  have HL' := Lib.hid HL
  clear HN HW HL
  have ms : (min (s.size : Int) 200).toNat = min s.size 200 := by omega
  unfold maxLen at hs
  have hn0 : ¬ (n : Int) < 0 := by omega
  have hn1 : ¬ (999999999999999 : Int) < n := by omega
  have HD := Lib.hid (fun w hE => lex_any (bs (digitsL n)) w (by rw [bs_size]; have := digitsL_len 14 n (by omega); omega) hE)
  go_enter Tryd.func8, Tryd.ntmps8
  go_wp2_with (go_at_call 10; refine HS.out.mono ?_; rintro e w1 ⟨rfl, hB1⟩)
  have hE1 := hE.kept hB1
  go_at_call 18
  refine (HL'.out _ hE1).mono ?_
  intro e w2 hp
  obtain ⟨g, cap, rfl, hb2, hcap, hg, hlt, hcells⟩ := lex_some hp (by simp)
  have hB2 := hB1.trans (hb2.mono hB1.size)
  have k0 : w2.cell? ⟨g, 0, none⟩ = some (.int .i64 2) := hcells 0 _ rfl
  have k1 : w2.cell? ⟨g, 1, none⟩ = some (.string S) := by rw [hcells 1 _ rfl, bs_of]
  clear hcells hp
  go_wp2_with fail
  go_at_call 13
  refine (HN'.out _).mono ?_
  rintro e w3 ⟨rfl, hb3⟩
  have hB3 := hB2.trans (hb3.mono hB2.size)
  have q0 := (hb3.cell (p := ⟨g, 0, none⟩) hlt).trans k0
  have q1 := (hb3.cell (p := ⟨g, 1, none⟩) hlt).trans k1
  have hlt3 : g < w3.heap.size := Nat.lt_of_lt_of_le hlt hb3.size
  go_wp2_with fail
  go_at_call 11
  refine (HW'.out _).mono ?_
  rintro e w5 ⟨rfl, hb5⟩
  have hB5 := hB3.trans (hb5.mono hB3.size)
  have r0 := (hb5.cell (p := ⟨g, 0, none⟩) hlt3).trans q0
  have r1 := (hb5.cell (p := ⟨g, 1, none⟩) hlt3).trans q1
  go_wp2_with fail
  go_at_call 13
  refine (HN'.out _).mono ?_
  rintro e w4 ⟨rfl, hb4⟩
  have hB4 := hB5.trans (hb4.mono hB5.size)
  go_wp2_with fail
  clear hb4
  go_loopw [9, 10] (fun d v wr => ∃ (V : Nat) (ds : Bs), v = .int .i64 V ∧ d = .string (bs ds) ∧ V ≤ n ∧ Dig n V ds ∧ Below w.heap.size w wr) (fun d v _ => 2 * (intOf v).toNat + shortV d)
  case atStart => exact ⟨n, [], rfl, rfl, Nat.le_refl _, .inl ⟨rfl, rfl⟩, hB4⟩
  case round =>
    obtain ⟨V, ds, rfl, rfl, hV, hD, hB⟩ := hrel
    have hlen := hD.len hn
    have hDH := Lib.hid hD
    have ecast : ((48 + V % 10 : Nat) : Int) = 48 + (V : Int) % 10 := by omega
    have z1 : ¬ 9223372036854775807 < (bs [digitB10 V]).size + (bs ds).size := by
      rw [bs_size, bs_size]
      simp
      omega
    have hcv := byteRow_str (W := wr.alloc (.cells #[.int .u8 (digitB10 V).toNat] 5)) (B := w.heap.size) (v := .slice (some ⟨wr.heap.size, 0, none⟩) 1 1) (l := [digitB10 V]) ⟨rfl, .inr ⟨wr.heap.size, 1, _, rfl, hB.size, heap_alloc_new wr _, Nat.le_refl _, by unfold maxLen; decide, rfl, rfl⟩⟩
    rw [digitB10_nat, ecast] at hcv
    have happ : bs [digitB10 V] ++ bs ds = bs (digitB10 V :: ds) := by rw [← bs_app]; rfl
    have hHA := Lib.hid happ
    by_cases h0 : 0 < V
    · have g0 : (0 : Int) < V := by omega
      clear hD ecast happ
      go_wp2
      go_roundw
      case rel => exact ⟨V / 10, digitB10 V :: ds, by go_num, by rw [hHA.out], by omega, hDH.out.next (.inl h0), hB.alloc hB.size _⟩
      case measure =>
        rw [hHA.out]
        simp [intOf, shortV, bs_size]
        omega
    · obtain rfl : V = 0 := by omega
      by_cases hd : ds = []
      · subst hd
        have hnil := bs_isnil
        rw [show (48 + ((0 : Nat) : Int) % 10) = 48 from rfl] at hcv
        clear hD ecast happ
        go_wp2
        go_roundw
        case rel => exact ⟨0, [digitB10 0], by go_num, by rw [hHA.out], by omega, hDH.out.next (.inr rfl), hB.alloc hB.size _⟩
        case measure =>
          rw [hHA.out]
          simp [intOf, shortV, bs_size]
      · have hnil := bs_notnil hd
        have hde := hD.end hd
        have HD' := Lib.hid HD.out
        rw [← hde, bs_list, hde, lex_digits n hn, ← hde] at HD'
        obtain ⟨D, hDs⟩ : ∃ D, bs ds = D := ⟨_, rfl⟩
        rw [hDs] at HD' hnil ⊢
        have HD2 := Lib.hid HD'
        have hE4 := hE.kept hB
        clear hcv z1 happ hHA hde HD' hD hDH
        go_wp2_with fail
        go_at_call 18
        refine (HD2.out _ hE4).mono ?_
        intro e w6 hp
        obtain ⟨g6, cap6, rfl, hb6, hcap6, hg6, hlt6, hcells6⟩ := lex_some hp (by simp)
        have hB6 := hB.trans (hb6.mono hB.size)
        have m0 : w6.cell? ⟨g6, 0, none⟩ = some (.int .i64 3) := hcells6 0 _ rfl
        have m2 : w6.cell? ⟨g6, 2, none⟩ = some (.int .i64 n) := hcells6 2 _ rfl
        clear hcells6 hp
        go_wp2
        go_ret
        exact ⟨rfl, hB6⟩

set_option maxRecDepth 100000 in
set_option maxHeartbeats 4000000 in
theorem one_noneneg (s S : ByteArray) (n : Int) (w : World) (hs : s.size ≤ maxLen) (hE : Env w) (hS : s.extract 0 (min s.size 200) = S)
    (HN : ∀ w, Calls Tryd.prog 13 #[.string S] w fun e w' => e = .returned (.bool false) ∧ Below w.heap.size w w') (HW : ∀ w, Calls Tryd.prog 11 #[.string S] w fun e w' => e = .returned (.bool false) ∧ Below w.heap.size w w')
    (o : Lexed) (HL : ∀ w, Env w → Calls Tryd.prog 18 #[.string S] w (LexPost w o)) (hn : n < 0) :
    Calls Tryd.prog 8 #[.string s, .int .i64 n] w fun e w' => e = .returned (.bool true) ∧ Below w.heap.size w w' := by
  have HS := Lib.hid (shown_any w hE)
  have HN' := Lib.hid HN
  have HW' := Lib.hid HW
  have HL' := Lib.hid HL
  clear HN HW HL
  have ms : (min (s.size : Int) 200).toNat = min s.size 200 := by omega
  unfold maxLen at hs
  go_enter Tryd.func8, Tryd.ntmps8
  go_wp2_with (go_at_call 10; refine HS.out.mono ?_; rintro e w1 ⟨rfl, hB1⟩)
  have hE1 := hE.kept hB1
  go_at_call 18
  refine (HL'.out _ hE1).mono ?_
  intro e w2 hp
  obtain ⟨A2, cap2, rfl, hb2⟩ := lex_slice hp
  have hB2 := hB1.trans (hb2.mono hB1.size)
  clear hp
  go_wp2_with fail
  go_at_call 13
  refine (HN'.out _).mono ?_
  rintro e w3 ⟨rfl, hb3⟩
  have hB3 := hB2.trans (hb3.mono hB2.size)
  go_wp2_with fail
  go_at_call 11
  refine (HW'.out _).mono ?_
  rintro e w4 ⟨rfl, hb4⟩
  have hB4 := hB3.trans (hb4.mono hB3.size)
  go_wp2
  go_ret
  exact ⟨rfl, hB4⟩

set_option maxRecDepth 100000 in
set_option maxHeartbeats 4000000 in
theorem one_nonebig (s S : ByteArray) (n : Int) (w : World) (hs : s.size ≤ maxLen) (hE : Env w) (hS : s.extract 0 (min s.size 200) = S)
    (HN : ∀ w, Calls Tryd.prog 13 #[.string S] w fun e w' => e = .returned (.bool false) ∧ Below w.heap.size w w') (HW : ∀ w, Calls Tryd.prog 11 #[.string S] w fun e w' => e = .returned (.bool false) ∧ Below w.heap.size w w')
    (o : Lexed) (HL : ∀ w, Env w → Calls Tryd.prog 18 #[.string S] w (LexPost w o)) (hn : 999999999999999 < n) :
    Calls Tryd.prog 8 #[.string s, .int .i64 n] w fun e w' => e = .returned (.bool true) ∧ Below w.heap.size w w' := by
  have HS := Lib.hid (shown_any w hE)
  have HN' := Lib.hid HN
  have HW' := Lib.hid HW
  have HL' := Lib.hid HL
  clear HN HW HL
  have ms : (min (s.size : Int) 200).toNat = min s.size 200 := by omega
  unfold maxLen at hs
  have hn0 : ¬ n < 0 := by omega
  go_enter Tryd.func8, Tryd.ntmps8
  go_wp2_with (go_at_call 10; refine HS.out.mono ?_; rintro e w1 ⟨rfl, hB1⟩)
  have hE1 := hE.kept hB1
  go_at_call 18
  refine (HL'.out _ hE1).mono ?_
  intro e w2 hp
  obtain ⟨A2, cap2, rfl, hb2⟩ := lex_slice hp
  have hB2 := hB1.trans (hb2.mono hB1.size)
  clear hp
  go_wp2_with fail
  go_at_call 13
  refine (HN'.out _).mono ?_
  rintro e w3 ⟨rfl, hb3⟩
  have hB3 := hB2.trans (hb3.mono hB2.size)
  go_wp2_with fail
  go_at_call 11
  refine (HW'.out _).mono ?_
  rintro e w4 ⟨rfl, hb4⟩
  have hB4 := hB3.trans (hb4.mono hB3.size)
  go_wp2
  go_ret
  exact ⟨rfl, hB4⟩

set_option maxRecDepth 100000 in
set_option maxHeartbeats 4000000 in
theorem one_nonein (s S : ByteArray) (n : Nat) (w : World) (hs : s.size ≤ maxLen) (hE : Env w) (hS : s.extract 0 (min s.size 200) = S)
    (HN : ∀ w, Calls Tryd.prog 13 #[.string S] w fun e w' => e = .returned (.bool false) ∧ Below w.heap.size w w') (HW : ∀ w, Calls Tryd.prog 11 #[.string S] w fun e w' => e = .returned (.bool false) ∧ Below w.heap.size w w')
    (o : Lexed) (HL : ∀ w, Env w → Calls Tryd.prog 18 #[.string S] w (LexPost w o)) (hn : n ≤ 999999999999999) :
    Calls Tryd.prog 8 #[.string s, .int .i64 n] w fun e w' => e = .returned (.bool true) ∧ Below w.heap.size w w' := by
  have HS := Lib.hid (shown_any w hE)
  have HN' := Lib.hid HN
  have HW' := Lib.hid HW
  have HL' := Lib.hid HL
  clear HN HW HL
  have ms : (min (s.size : Int) 200).toNat = min s.size 200 := by omega
  unfold maxLen at hs
  have hn0 : ¬ (n : Int) < 0 := by omega
  have hn1 : ¬ (999999999999999 : Int) < n := by omega
  have HD := Lib.hid (fun w hE => lex_any (bs (digitsL n)) w (by rw [bs_size]; have := digitsL_len 14 n (by omega); omega) hE)
  go_enter Tryd.func8, Tryd.ntmps8
  go_wp2_with (go_at_call 10; refine HS.out.mono ?_; rintro e w1 ⟨rfl, hB1⟩)
  have hE1 := hE.kept hB1
  go_at_call 18
  refine (HL'.out _ hE1).mono ?_
  intro e w2 hp
  obtain ⟨A2, cap2, rfl, hb2⟩ := lex_slice hp
  have hB2 := hB1.trans (hb2.mono hB1.size)
  clear hp
  go_wp2_with fail
  go_at_call 13
  refine (HN'.out _).mono ?_
  rintro e w3 ⟨rfl, hb3⟩
  have hB3 := hB2.trans (hb3.mono hB2.size)
  go_wp2_with fail
  go_at_call 11
  refine (HW'.out _).mono ?_
  rintro e w4 ⟨rfl, hb4⟩
  have hB4 := hB3.trans (hb4.mono hB3.size)
  go_wp2_with fail
  clear hb4
  go_loopw [9, 10] (fun d v wr => ∃ (V : Nat) (ds : Bs), v = .int .i64 V ∧ d = .string (bs ds) ∧ V ≤ n ∧ Dig n V ds ∧ Below w.heap.size w wr) (fun d v _ => 2 * (intOf v).toNat + shortV d)
  case atStart => exact ⟨n, [], rfl, rfl, Nat.le_refl _, .inl ⟨rfl, rfl⟩, hB4⟩
  case round =>
    obtain ⟨V, ds, rfl, rfl, hV, hD, hB⟩ := hrel
    have hlen := hD.len hn
    have hDH := Lib.hid hD
    have ecast : ((48 + V % 10 : Nat) : Int) = 48 + (V : Int) % 10 := by omega
    have z1 : ¬ 9223372036854775807 < (bs [digitB10 V]).size + (bs ds).size := by
      rw [bs_size, bs_size]
      simp
      omega
    have hcv := byteRow_str (W := wr.alloc (.cells #[.int .u8 (digitB10 V).toNat] 5)) (B := w.heap.size) (v := .slice (some ⟨wr.heap.size, 0, none⟩) 1 1) (l := [digitB10 V]) ⟨rfl, .inr ⟨wr.heap.size, 1, _, rfl, hB.size, heap_alloc_new wr _, Nat.le_refl _, by unfold maxLen; decide, rfl, rfl⟩⟩
    rw [digitB10_nat, ecast] at hcv
    have happ : bs [digitB10 V] ++ bs ds = bs (digitB10 V :: ds) := by rw [← bs_app]; rfl
    have hHA := Lib.hid happ
    by_cases h0 : 0 < V
    · have g0 : (0 : Int) < V := by omega
      clear hD ecast happ
      go_wp2
      go_roundw
      case rel => exact ⟨V / 10, digitB10 V :: ds, by go_num, by rw [hHA.out], by omega, hDH.out.next (.inl h0), hB.alloc hB.size _⟩
      case measure =>
        rw [hHA.out]
        simp [intOf, shortV, bs_size]
        omega
    · obtain rfl : V = 0 := by omega
      by_cases hd : ds = []
      · subst hd
        have hnil := bs_isnil
        rw [show (48 + ((0 : Nat) : Int) % 10) = 48 from rfl] at hcv
        clear hD ecast happ
        go_wp2
        go_roundw
        case rel => exact ⟨0, [digitB10 0], by go_num, by rw [hHA.out], by omega, hDH.out.next (.inr rfl), hB.alloc hB.size _⟩
        case measure =>
          rw [hHA.out]
          simp [intOf, shortV, bs_size]
      · have hnil := bs_notnil hd
        have hde := hD.end hd
        have HD' := Lib.hid HD.out
        rw [← hde, bs_list, hde, lex_digits n hn, ← hde] at HD'
        obtain ⟨D, hDs⟩ : ∃ D, bs ds = D := ⟨_, rfl⟩
        rw [hDs] at HD' hnil ⊢
        have HD2 := Lib.hid HD'
        have hE4 := hE.kept hB
        clear hcv z1 happ hHA hde HD' hD hDH
        go_wp2_with fail
        go_at_call 18
        refine (HD2.out _ hE4).mono ?_
        intro e w6 hp
        obtain ⟨g6, cap6, rfl, hb6, hcap6, hg6, hlt6, hcells6⟩ := lex_some hp (by simp)
        have hB6 := hB.trans (hb6.mono hB.size)
        have m0 : w6.cell? ⟨g6, 0, none⟩ = some (.int .i64 3) := hcells6 0 _ rfl
        have m2 : w6.cell? ⟨g6, 2, none⟩ = some (.int .i64 n) := hcells6 2 _ rfl
        clear hcells6 hp
        go_wp2
        go_ret
        exact ⟨rfl, hB6⟩

theorem one_walk (s : ByteArray) (n : Int) (w : World) (hs : s.size ≤ maxLen) (hE : Env w) :
    Calls Tryd.prog 8 #[.string s, .int .i64 n] w fun e w' => e = .returned (.bool true) ∧ Below w.heap.size w w' := by
  obtain ⟨S, hS⟩ : ∃ S, s.extract 0 (min s.size 200) = S := ⟨_, rfl⟩
  have hz : S.size = min s.size 200 := by rw [← hS]; exact ext0_size s _ (by omega)
  have HN := fun w => isName_any S w (by omega)
  have HW := fun w => isWord_any S w (by omega)
  have HL := fun w (hE : Env w) => lex_any S w (by omega) hE
  have hcase : n < 0 ∨ 999999999999999 < n ∨ ∃ m : Nat, n = m ∧ m ≤ 999999999999999 := by
    by_cases h : n < 0
    · exact .inl h
    · by_cases h2 : 999999999999999 < n
      · exact .inr (.inl h2)
      · exact .inr (.inr ⟨n.toNat, by omega, by omega⟩)
  cases h1 : isNameL S.data.toList with
  | true =>
    obtain ⟨hl, hw⟩ := lex_isName _ h1
    rw [h1] at HN
    rw [hw] at HW
    rw [hl] at HL
    rcases hcase with h | h | ⟨m, rfl, h⟩
    · exact one_nameneg s S n w hs hE hS HN HW HL h
    · exact one_namebig s S n w hs hE hS HN HW HL h
    · exact one_namein s S m w hs hE hS HN HW HL h
  | false =>
    rw [h1] at HN
    cases h2 : isWordL S.data.toList with
    | true =>
      obtain ⟨hl, -⟩ := lex_isWord _ h2
      rw [h2] at HW
      rw [hl] at HL
      rcases hcase with h | h | ⟨m, rfl, h⟩
      · exact one_wordneg s S n w hs hE hS HN HW HL h
      · exact one_wordbig s S n w hs hE hS HN HW HL h
      · exact one_wordin s S m w hs hE hS HN HW HL h
    | false =>
      rw [h2] at HW
      rcases hcase with h | h | ⟨m, rfl, h⟩
      · exact one_noneneg s S n w hs hE hS HN HW _ HL h
      · exact one_nonebig s S n w hs hE hS HN HW _ HL h
      · exact one_nonein s S m w hs hE hS HN HW _ HL h
end Go.Proofs.YtfjfbpmlohgghaaDoor
