/- gumshoeref06.digits: a number's key; gumshoeref06.Key of a number; gumshoeref09.num. -/
import Derived.Test.YtconnhphkbgbkaaGreatDoorCdRQuote
import Derived.Test.YtconnhphkbgbkaaGreatDoorCdRows
import Derived.Laws.BytesString
import Derived.Shelf.Small.Strs
import Derived.Lib.ItoaLen
namespace Go.Proofs.YtconnhphkbgbkaaGreatDoor
open Go.RowKit Go.Proofs

theorem dec_len (u : Nat) (h : u ≤ 9223372036854775808) : (Lib.decDigits u).length ≤ 20 := by
  rw [Lib.decDigits_length]
  exact Lib.nDigits_le20 u (by omega)
theorem itoa_parts (n : Int) (h : I64 n) : (0 ≤ n ∧ Lib.itoa n = Lib.decDigits n.toNat ∧ n.toNat ≤ 9223372036854775807) ∨ (n < 0 ∧ Lib.itoa n = 45 :: Lib.decDigits n.natAbs ∧ n.natAbs ≤ 9223372036854775808) := by
  obtain ⟨h1, h2⟩ := h
  unfold Lib.itoa
  by_cases hn : n < 0
  · exact .inr ⟨hn, by rw [if_pos hn], by omega⟩
  · exact .inl ⟨by omega, by rw [if_neg hn], by omega⟩
/-- What is left to write of u ahead of ds gives U's digits. -/
def Dig (U u : Nat) (ds : Bs) : Prop := Lib.decDigits U = (if u = 0 then [] else Lib.decDigits u) ++ ds
def d10 (u : Nat) : UInt8 := UInt8.ofNat (48 + u % 10)
theorem d10_nat (u : Nat) : (d10 u).toNat = 48 + u % 10 := by
  unfold d10
  rw [UInt8.toNat_ofNat']
  omega
theorem Dig.next {U u : Nat} {ds : Bs} (h : Dig U u ds) (hu : 0 < u) : Dig U (u / 10) (d10 u :: ds) := by
  unfold Dig at h ⊢
  rw [h, if_neg (by omega)]
  by_cases h1 : u < 10
  · rw [if_pos (by omega), Lib.decDigits, dif_pos h1]
    unfold d10
    rw [Nat.mod_eq_of_lt h1]
    rfl
  · rw [if_neg (by omega), Lib.decDigits, dif_neg h1]
    simp [d10]
theorem Dig.len {U u : Nat} {ds : Bs} (h : Dig U u ds) (hU : U ≤ 9223372036854775808) : ds.length ≤ 20 := by
  have h1 := dec_len U hU
  unfold Dig at h
  rw [h] at h1
  simp at h1
  omega

set_option maxRecDepth 100000 in
set_option maxHeartbeats 4000000 in
theorem rdig_pos (U : Nat) (w : World) (h0 : 0 < U) (hU : U ≤ 9223372036854775807) :
    Calls Tryz.prog 62 #[.int .i64 U] w fun e w' => e = .returned (.string (bs (Lib.decDigits U))) ∧ Below w.heap.size w w' := by
  have hz : ((U : Int) == 0) = false := by simp; omega
  have hn : decide ((U : Int) < 0) = false := by simp
  have i0 : (0 : Int) ≤ U := by omega
  have i1 : (U : Int) ≤ 9223372036854775807 := by omega
  have HU := Lib.hid (And.intro h0 hU)
  clear h0 hU
  go_enter Tryz.func62, Tryz.ntmps62
  go_wp2
  go_loopw [3, 4] (fun d v wr => ∃ (V : Nat) (ds : Bs), v = .int .u64 V ∧ d = .string (bs ds) ∧ V ≤ U ∧ Dig U V ds ∧ Below w.heap.size w wr) (fun _ v _ => (intOf v).toNat)
  case atStart => exact ⟨U, [], rfl, rfl, Nat.le_refl _, by simp [Dig, Nat.ne_of_gt HU.out.1], Below.refl _ _⟩
  case round =>
    obtain ⟨V, ds, rfl, rfl, hV, hD, hB⟩ := hrel
    have hlen := hD.len (by have := HU.out.2; omega)
    have hDH := Lib.hid hD
    have ecast : ((48 + V % 10 : Nat) : Int) = 48 + (V : Int) % 10 := by omega
    have z1 : ¬ 9223372036854775807 < (bs [d10 V]).size + (bs ds).size := by
      rw [bs_size, bs_size]
      simp
      omega
    have z2 : ¬ 9223372036854775807 < 1 + (bs ds).size := by
      rw [bs_size]
      omega
    have hcv := byteRow_str (W := wr.alloc (.cells #[.int .u8 (d10 V).toNat] 5)) (B := w.heap.size) (v := .slice (some ⟨wr.heap.size, 0, none⟩) 1 1) (l := [d10 V]) ⟨rfl, .inr ⟨wr.heap.size, 1, _, rfl, hB.size, heap_alloc_new wr _, Nat.le_refl _, by unfold maxLen; decide, rfl, rfl⟩⟩
    rw [d10_nat, ecast] at hcv
    have hHA := Lib.hid (bs_join [d10 V] ds)
    have hHV := Lib.hid hV
    by_cases h0 : 0 < V
    · have g0 : (0 : Int) < V := by omega
      clear hD ecast
      go_wp2
      go_roundw
      case rel => exact ⟨V / 10, d10 V :: ds, by go_num, by rw [hHA.out]; rfl, by omega, hDH.out.next h0, hB.alloc hB.size _⟩
      case measure =>
        simp [intOf]
        omega
    · obtain rfl : V = 0 := by omega
      have hds : ds = Lib.decDigits U := by
        unfold Dig at hD
        simpa using hD.symm
      clear hD ecast hcv z1
      subst hds
      go_wp2
      go_ret
      exact ⟨rfl, hB⟩
set_option maxRecDepth 100000 in
set_option maxHeartbeats 4000000 in
theorem rdig_neg (n : Int) (U : Nat) (w : World) (h0 : n = -(U : Int)) (hU : U ≤ 9223372036854775808) (h1 : 0 < U) :
    Calls Tryz.prog 62 #[.int .i64 n] w fun e w' => e = .returned (.string (bs (45 :: Lib.decDigits U))) ∧ Below w.heap.size w w' := by
  have hz : (n == 0) = false := by simp; omega
  have hn : decide (n < 0) = true := by simp; omega
  have hx : IntKind.u64.wrap (-IntKind.u64.wrap n) = U := by
    subst h0
    simp [IntKind.wrap, IntKind.signed, IntKind.bits]
    omega
  have i1 : (U : Int) ≤ 9223372036854775808 := by omega
  have HU := Lib.hid (And.intro h1 hU)
  clear h0 hU h1
  go_enter Tryz.func62, Tryz.ntmps62
  go_wp2
  go_loopw [3, 4] (fun d v wr => ∃ (V : Nat) (ds : Bs), v = .int .u64 V ∧ d = .string (bs ds) ∧ V ≤ U ∧ Dig U V ds ∧ Below w.heap.size w wr) (fun _ v _ => (intOf v).toNat)
  case atStart => exact ⟨U, [], rfl, rfl, Nat.le_refl _, by simp [Dig, Nat.ne_of_gt HU.out.1], Below.refl _ _⟩
  case round =>
    obtain ⟨V, ds, rfl, rfl, hV, hD, hB⟩ := hrel
    have hlen := hD.len (by have := HU.out.2; omega)
    have hDH := Lib.hid hD
    have ecast : ((48 + V % 10 : Nat) : Int) = 48 + (V : Int) % 10 := by omega
    have z1 : ¬ 9223372036854775807 < (bs [d10 V]).size + (bs ds).size := by
      rw [bs_size, bs_size]
      simp
      omega
    have z2 : ¬ 9223372036854775807 < 1 + (bs ds).size := by
      rw [bs_size]
      omega
    have hcv := byteRow_str (W := wr.alloc (.cells #[.int .u8 (d10 V).toNat] 5)) (B := w.heap.size) (v := .slice (some ⟨wr.heap.size, 0, none⟩) 1 1) (l := [d10 V]) ⟨rfl, .inr ⟨wr.heap.size, 1, _, rfl, hB.size, heap_alloc_new wr _, Nat.le_refl _, by unfold maxLen; decide, rfl, rfl⟩⟩
    rw [d10_nat, ecast] at hcv
    have hHA := Lib.hid (bs_join [d10 V] ds)
    have hHV := Lib.hid hV
    by_cases h0 : 0 < V
    · have g0 : (0 : Int) < V := by omega
      clear hD ecast
      go_wp2
      go_roundw
      case rel => exact ⟨V / 10, d10 V :: ds, by go_num, by rw [hHA.out]; rfl, by omega, hDH.out.next h0, hB.alloc hB.size _⟩
      case measure =>
        simp [intOf]
        omega
    · obtain rfl : V = 0 := by omega
      have hds : ds = Lib.decDigits U := by
        unfold Dig at hD
        simpa using hD.symm
      clear hD ecast hcv z1
      subst hds
      go_wp2
      go_ret
      exact ⟨by rw [show (⟨#[45]⟩ : ByteArray) = bs [45] from rfl, bs_join]; rfl, hB⟩

theorem rdigits_any (n : Int) (hn : I64 n) (w : World) : Calls Tryz.prog 62 #[.int .i64 n] w fun e w' => e = .returned (.string (bs (Lib.itoa n))) ∧ Below w.heap.size w w' := by
  rcases itoa_parts n hn with ⟨h1, h2, h3⟩ | ⟨h1, h2, h3⟩
  · rw [h2]
    obtain ⟨u, rfl⟩ : ∃ u : Nat, n = (u : Int) := ⟨n.toNat, by omega⟩
    simp only [Int.toNat_natCast] at h2 h3 ⊢
    by_cases h0 : 0 < u
    · exact rdig_pos u w h0 h3
    · obtain rfl : u = 0 := by omega
      have e : bs (Lib.decDigits 0) = ⟨#[48]⟩ := by rw [Lib.decDigits, dif_pos (by omega)]; rfl
      rw [e]
      go_enter Tryz.func62, Tryz.ntmps62
      go_wp2
      go_ret
      exact ⟨rfl, Below.refl _ _⟩
  · rw [h2]
    exact rdig_neg n n.natAbs w (by omega) h3 (by omega)

set_option maxRecDepth 100000 in
set_option maxHeartbeats 4000000 in
theorem rkey_num (n : Int) (hn : I64 n) (w : World) : Calls Tryz.prog 32 #[.agg #[.int .i64 3, .int .i64 n, .string ⟨#[]⟩]] w fun e w' => e = .returned (.string (bs (Lib.itoa n))) ∧ Below w.heap.size w w' := by
  have HB := Lib.hid (below_box w (.cells #[.int .i64 3, .int .i64 n, .string ⟨#[]⟩] 71))
  have HD := Lib.hid (rdigits_any n hn (w.alloc (.cells #[.int .i64 3, .int .i64 n, .string ⟨#[]⟩] 71)))
  go_enter Tryz.func32, Tryz.ntmps32
  go_wp2_with (go_at_call 62; refine HD.out.mono ?_; rintro e w' ⟨rfl, hb⟩)
  go_ret
  exact ⟨rfl, HB.out.trans (hb.mono HB.out.size)⟩
set_option maxRecDepth 100000 in
set_option maxHeartbeats 4000000 in
theorem rnum_any (n : Int) (hn : I64 n) (w : World) : Calls Tryz.prog 18 #[.int .i64 n] w fun e w' => e = .returned (.string (bs (Lib.itoa n))) ∧ Below w.heap.size w w' := by
  have HK := Lib.hid (rkey_num n hn w)
  go_enter Tryz.func18, Tryz.ntmps18
  go_wp2_with (go_at_call 32; refine HK.out.mono ?_; rintro e w' ⟨rfl, hb⟩)
  go_ret
  exact ⟨rfl, hb⟩
end Go.Proofs.YtconnhphkbgbkaaGreatDoor
