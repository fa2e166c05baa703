/- The document's own answers: All, Union, Parts, Add. -/
import Derived.Test.YtpfmncdodcbamaaWith
namespace Go.Proofs.Ytpfmncdodcbamaa
open Go.RowKit Go.Proofs

theorem below_drewn {w w' : World} (h : Drewn w w') : Below w.heap.size w w' := by
  obtain ⟨k, rfl⟩ := h
  exact below_drewN (Below.refl _ w) k

set_option maxHeartbeats 1000000 in
theorem all_any (A A' : Option Addr) (n c n' c' : Nat) (a b : List Int) (w : World) (hr : Ints w w.heap.size A n c a) (hr' : Ints w w.heap.size A' n' c' b) (ha : isSet a = true) (hb : isSet b = true) :
    Calls Try.prog 32 #[.slice A n c, .slice A' n' c'] w fun e w' => ∃ A2 n2 c2 r, e = .returned (.slice A2 n2 c2) ∧ Ints w' w'.heap.size A2 n2 c2 r ∧ (isSet r = true ∧ ∀ y, y ∈ r ↔ y ∈ a ∨ y ∈ b) ∧ Below w.heap.size w w' := by
  have hn' : n' ≤ 281474976710656 := hr'.2.2.1.1
  go_enter Try.func32, Try.ntmps32
  go_wp2
  go_loopw [0, 5] (fun s0 s5 wr => ∃ (k : Nat) (A2 : Option Addr) (n2 c2 : Nat) (r : List Int), k ≤ n' ∧ s5 = .int .i64 k ∧ s0 = .slice A2 n2 c2 ∧ Ints wr wr.heap.size A2 n2 c2 r ∧ isSet r = true ∧ (∀ y, y ∈ r ↔ y ∈ a ∨ y ∈ b.take k) ∧ Below w.heap.size w wr)
    (fun _ s5 _ => n' - (intOf s5).toNat)
  case atStart => exact ⟨0, A, n, c, a, Nat.zero_le _, rfl, rfl, hr, ha, fun y => by simp, Below.refl _ _⟩
  case round =>
    obtain ⟨k, A2, n2, c2, r, hk, rfl, rfl, hi, hs, hm, hbl⟩ := hrel
    by_cases hlt : k < n'
    · obtain ⟨ad, z, rfl, had, hz, _, hc0⟩ := hr'.at_ hlt
      have hc : wr.cell? (ad.add k) = some (.int .i64 z) := (hbl.cell (p := ad.add k) (by rw [add_block]; exact had)).trans hc0
      have hzb : z ∈ b := List.mem_of_getElem? hz
      have hzr := ((isSet_iff b).1 hb).2 z hzb
      have htk : b.take (k + 1) = b.take k ++ [z] := by rw [List.take_add_one, hz]; rfl
      have hw := withL_set hs hzr
      have hlen := isSet_len hs
      have HC := Lib.hid (with_any A2 n2 c2 r z wr hi (by have := hi.1; omega))
      have HM := Lib.hid hm
      have HT := Lib.hid htk
      have HW := Lib.hid hw
      clear hm hw hz htk hlen hi
      go_wp2_with (go_at_call 31; (with_reducible refine (HC.out).mono ?_); rintro e w' ⟨v, rfl, hown, hb2⟩)
      obtain ⟨A3, c3, rfl, hi3⟩ := ints_of_own hown (isSet_I64 HW.out.1) (by have := isSet_len HW.out.1; omega)
      go_roundw
      case rel => exact ⟨k + 1, A3, _, c3, _, by omega, by go_num, rfl, hi3, HW.out.1, fun y => by
        rw [HW.out.2 y, HM.out y, HT.out]
        simp only [List.mem_append, List.mem_singleton, or_assoc], hbl.trans (hb2.mono hbl.size)⟩
      case measure => simp [intOf]; omega
    · have hkn : b.take k = b := List.take_of_length_le (by have := hr'.1; omega)
      rw [hkn] at hm
      have HM := Lib.hid hm
      clear hm hkn
      go_wp2
      go_ret
      exact ⟨A2, n2, c2, r, rfl, hi, ⟨hs, HM.out⟩, hbl⟩

set_option maxHeartbeats 1000000 in
theorem refUnion_any (A : Option Addr) (n c : Nat) (zss : List (List Int)) (w : World) (hr : Mat w w.heap.size A n c zss) :
    Calls Try.prog 20 #[.slice A n c] w fun e w' => (if zss.all isSet then ∃ A2 n2 c2 r, e = .returned (.tuple #[.slice A2 n2 c2, .int .i64 0]) ∧ Ints w' w'.heap.size A2 n2 c2 r ∧ UniOf r zss else e = .returned (.tuple #[.slice none 0 0, .int .i64 2])) ∧ Below w.heap.size w w' := by
  have hn : n ≤ 281474976710656 := hr.2.2.1.1
  obtain ⟨R, hR⟩ : ∃ R : Ending → World → Prop, R = fun e w' => (if zss.all isSet then ∃ A2 n2 c2 r, e = .returned (.tuple #[.slice A2 n2 c2, .int .i64 0]) ∧ Ints w' w'.heap.size A2 n2 c2 r ∧ UniOf r zss else e = .returned (.tuple #[.slice none 0 0, .int .i64 2])) ∧ Below w.heap.size w w' := ⟨_, rfl⟩
  rw [← hR]
  have HR := Lib.hid hR
  clear hR
  go_enter Try.func20, Try.ntmps20
  go_wp2
  go_loopw [4, 5] (fun s4 s5 wr => ∃ (k : Nat) (A2 : Option Addr) (n2 c2 : Nat) (r : List Int), k ≤ n ∧ s5 = .int .i64 k ∧ s4 = .slice A2 n2 c2 ∧ Ints wr wr.heap.size A2 n2 c2 r ∧ UniOf r (zss.take k) ∧ (zss.take k).all isSet = true ∧ Below w.heap.size w wr)
    (fun _ s5 _ => n - (intOf s5).toNat)
  case atStart => exact ⟨0, none, 0, 0, [], Nat.zero_le _, rfl, rfl, Ints.nil_, ⟨rfl, by simp⟩, by simp, Below.refl _ _⟩
  case round =>
    obtain ⟨k, A2, n2, c2, r, hk, rfl, rfl, hi, hu, hs, hbl⟩ := hrel
    by_cases hlt : k < n
    · obtain ⟨ad, zs, A', n', c', rfl, had, hz, hc0, hi0⟩ := hr.at_ hlt
      have hc : wr.cell? (ad.add k) = some (.slice A' n' c') := (hbl.cell (p := ad.add k) (by rw [add_block]; exact had)).trans hc0
      have hi1 : Ints wr w.heap.size A' n' c' zs := hi0.below hbl
      have htk : zss.take (k + 1) = zss.take k ++ [zs] := by rw [List.take_add_one, hz]; rfl
      have hmem : zs ∈ zss := List.mem_of_getElem? hz
      have HC := Lib.hid (refRight_any A' n' c' _ zs wr hi1)
      cases hb : isSet zs with
      | false =>
        have hf : zss.all isSet = false := by
          rw [List.all_eq_false]
          exact ⟨zs, hmem, by rw [hb]; simp⟩
        rw [hb] at HC
        have HF := Lib.hid hf
        clear hf hb hz htk
        go_wp2_with (go_at_call 15; (with_reducible refine (HC.out).mono ?_); rintro e w' ⟨rfl, hdr⟩)
        rw [HR.out]
        refine ⟨?_, hbl.trans ((below_drewn hdr).mono hbl.size)⟩
        rw [HF.out]
        rfl
      | true =>
        rw [hb] at HC
        have HB := Lib.hid hb
        have HT := Lib.hid htk
        have HU := Lib.hid (And.intro hu (And.intro hs hi))
        clear hb hz htk hu hs hi
        go_wp2_with fail
        go_at_call 15
        (with_reducible refine (HC.out).mono ?_)
        rintro e w1 ⟨rfl, hdr⟩
        have hb1 := below_drewn hdr
        have hc1 : w1.cell? (ad.add k) = some (.slice A' n' c') := (hb1.cell (p := ad.add k) (by rw [add_block]; have := hbl.size; omega)).trans hc
        have HA := Lib.hid (all_any A2 A' n2 c2 n' c' r zs w1 ((HU.out.2.2.below hb1).more hb1.size) (((hi1.more hbl.size).below hb1).more hb1.size) HU.out.1.1 HB.out)
        go_wp2_with (go_at_call 32; (with_reducible refine (HA.out).mono ?_); rintro e w2 ⟨A3, n3, c3, r3, rfl, hi3, hm3, hb3⟩)
        have HM3 := Lib.hid (And.intro hi3 hm3)
        clear hi3 hm3
        go_roundw
        case rel => exact ⟨k + 1, A3, n3, c3, r3, by omega, by go_num, rfl, HM3.out.1, ⟨HM3.out.2.1, fun y => by
            rw [HM3.out.2.2 y, HU.out.1.2 y, HT.out]
            constructor
            · rintro (⟨q, h1, h2⟩ | h)
              · exact ⟨q, List.mem_append_left _ h1, h2⟩
              · exact ⟨zs, List.mem_append_right _ (by simp), h⟩
            · rintro ⟨q, h1, h2⟩
              rcases List.mem_append.1 h1 with h | h
              · exact .inl ⟨q, h, h2⟩
              · obtain rfl : q = zs := by simpa using h
                exact .inr h2⟩, by rw [HT.out, List.all_append, HU.out.2.1]; simp [HB.out], (hbl.trans (hb1.mono hbl.size)).trans (hb3.mono (by have := hbl.size; have := hb1.size; omega))⟩
        case measure => simp [intOf]; omega
    · have hkn : zss.take k = zss := List.take_of_length_le (by have := hr.1; omega)
      rw [hkn] at hu hs
      have HU := Lib.hid (And.intro hu (And.intro hs hi))
      clear hu hs hi hkn
      go_wp2
      rw [HR.out]
      refine ⟨?_, hbl⟩
      rw [HU.out.2.1]
      exact ⟨A2, n2, c2, r, rfl, HU.out.2.2, HU.out.1⟩
end Go.Proofs.Ytpfmncdodcbamaa
