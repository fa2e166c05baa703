/- gumshoeref06.digits: a number's key. -/
import Derived.Test.YtpgclgfaiklpoaaDoorKeyed
import Derived.Laws.BytesString
import Derived.Shelf.Small.Strs
namespace Go.Proofs.YtpgclgfaiklpoaaDoor
open Go.RowKit Go.Proofs

theorem kb_app (a b : Bs) : kb a ++ kb b = kb (a ++ b) := by
  apply Go.WideShapes.bytes_inj
  rw [ByteArray.data_append]
  simp [kb]
theorem kb_size (a : Bs) : (kb a).size = a.length := by
  show (kb a).data.size = _
  simp [kb]
theorem kb_of (s : ByteArray) : kb s.data.toList = s := rfl
theorem kb_list (l : Bs) : (kb l).data.toList = l := by simp [kb]
theorem byteRow_str {W : World} {B : Nat} {v : Value} {l : Bs} (h : W.ownsRow B 5 1 v l.length (Lib.byteCells l)) : (convert 37 9 v).run Tryd.prog W = .ok (.string (kb l)) W := by
  rcases h.2 with ⟨rfl, h0⟩ | ⟨g, cap, cur, rfl, _, _, _, _, _, _⟩
  · obtain rfl : l = [] := List.eq_nil_of_length_eq_zero h0
    rw [run_convert_bytes_string W 37 9 5 none 0 0 Tryd.underlying37 Tryd.underlying5 Tryd.underlying9]
    rfl
  · exact run_convert_bytes_back W 37 9 5 ⟨g, 0, none⟩ cap l Tryd.underlying37 Tryd.underlying5 Tryd.underlying9 (fun j hj => h.cells (g := g) rfl j _ (by simp [Lib.byteCells, hj]))

/-- What is left to write of u ahead of ds gives U's digits. -/
def Dig (U u : Nat) (ds : Bs) : Prop := Lib.decDigits U = (if u = 0 then [] else Lib.decDigits u) ++ ds
def d10 (u : Nat) : UInt8 := UInt8.ofNat (48 + u % 10)
theorem d10_nat (u : Nat) : (d10 u).toNat = 48 + u % 10 := by
  unfold d10
  rw [UInt8.toNat_ofNat']
  omega
theorem Dig.next {U u : Nat} {ds : Bs} (h : Dig U u ds) (hu : 0 < u) : Dig U (u / 10) (d10 u :: ds) := by
  unfold Dig at h ⊢
  rw [h, if_neg (by omega)]
  by_cases h1 : u < 10
  · rw [if_pos (by omega), Lib.decDigits, dif_pos h1]
    unfold d10
    rw [Nat.mod_eq_of_lt h1]
    rfl
  · rw [if_neg (by omega), Lib.decDigits, dif_neg h1]
    simp [d10]
theorem Dig.len {U u : Nat} {ds : Bs} (h : Dig U u ds) (hU : U ≤ 9223372036854775808) : ds.length ≤ 19 := by
  have h1 := (dec_len U hU).2
  unfold Dig at h
  rw [h] at h1
  simp at h1
  omega

set_option maxRecDepth 100000 in
set_option maxHeartbeats 4000000 in
theorem rdig_pos (U : Nat) (w : World) (h0 : 0 < U) (hU : U ≤ 9223372036854775807) :
    Calls Tryd.prog 30 #[.int .i64 U] w fun e w' => e = .returned (.string (kb (Lib.decDigits U))) ∧ Below w.heap.size w w' := by
  have hz : ((U : Int) == 0) = false := by simp; omega
  have hn : decide ((U : Int) < 0) = false := by simp
  have i0 : (0 : Int) ≤ U := by omega
  have i1 : (U : Int) ≤ 9223372036854775807 := by omega
  have HU := Lib.hid (And.intro h0 hU)
  clear h0 hU
  go_enter Tryd.func30, Tryd.ntmps30
  go_wp2
  go_loopw [3, 4] (fun d v wr => ∃ (V : Nat) (ds : Bs), v = .int .u64 V ∧ d = .string (kb ds) ∧ V ≤ U ∧ Dig U V ds ∧ Below w.heap.size w wr) (fun _ v _ => (intOf v).toNat)
  case atStart => exact ⟨U, [], rfl, rfl, Nat.le_refl _, by simp [Dig, Nat.ne_of_gt HU.out.1], Below.refl _ _⟩
  case round =>
    obtain ⟨V, ds, rfl, rfl, hV, hD, hB⟩ := hrel
    have hlen := hD.len (by have := HU.out.2; omega)
    have hDH := Lib.hid hD
    have ecast : ((48 + V % 10 : Nat) : Int) = 48 + (V : Int) % 10 := by omega
    have z1 : ¬ 9223372036854775807 < (kb [d10 V]).size + (kb ds).size := by
      rw [kb_size, kb_size]
      simp
      omega
    have z2 : ¬ 9223372036854775807 < 1 + (kb ds).size := by
      rw [kb_size]
      omega
    have hcv := byteRow_str (W := wr.alloc (.cells #[.int .u8 (d10 V).toNat] 5)) (B := w.heap.size) (v := .slice (some ⟨wr.heap.size, 0, none⟩) 1 1) (l := [d10 V]) ⟨rfl, .inr ⟨wr.heap.size, 1, _, rfl, hB.size, heap_alloc_new wr _, Nat.le_refl _, by unfold maxLen; decide, rfl, rfl⟩⟩
    rw [d10_nat, ecast] at hcv
    have hHA := Lib.hid (kb_app [d10 V] ds)
    have hHV := Lib.hid hV
    by_cases h0 : 0 < V
    · have g0 : (0 : Int) < V := by omega
      clear hD ecast
      go_wp2
      go_roundw
      case rel => exact ⟨V / 10, d10 V :: ds, by go_num, by rw [hHA.out]; rfl, by omega, hDH.out.next h0, hB.alloc hB.size _⟩
      case measure =>
        simp [intOf]
        omega
    · obtain rfl : V = 0 := by omega
      have hds : ds = Lib.decDigits U := by
        unfold Dig at hD
        simpa using hD.symm
      clear hD ecast hcv z1
      subst hds
      go_wp2
      go_ret
      exact ⟨rfl, hB⟩
set_option maxRecDepth 100000 in
set_option maxHeartbeats 4000000 in
theorem rdig_neg (n : Int) (U : Nat) (w : World) (h0 : n = -(U : Int)) (hU : U ≤ 9223372036854775808) (h1 : 0 < U) :
    Calls Tryd.prog 30 #[.int .i64 n] w fun e w' => e = .returned (.string (kb (45 :: Lib.decDigits U))) ∧ Below w.heap.size w w' := by
  have hz : (n == 0) = false := by simp; omega
  have hn : decide (n < 0) = true := by simp; omega
  have hx : IntKind.u64.wrap (-IntKind.u64.wrap n) = U := by
    subst h0
    simp [IntKind.wrap, IntKind.signed, IntKind.bits]
    omega
  have i1 : (U : Int) ≤ 9223372036854775808 := by omega
  have HU := Lib.hid (And.intro h1 hU)
  clear h0 hU h1
  go_enter Tryd.func30, Tryd.ntmps30
  go_wp2
  go_loopw [3, 4] (fun d v wr => ∃ (V : Nat) (ds : Bs), v = .int .u64 V ∧ d = .string (kb ds) ∧ V ≤ U ∧ Dig U V ds ∧ Below w.heap.size w wr) (fun _ v _ => (intOf v).toNat)
  case atStart => exact ⟨U, [], rfl, rfl, Nat.le_refl _, by simp [Dig, Nat.ne_of_gt HU.out.1], Below.refl _ _⟩
  case round =>
    obtain ⟨V, ds, rfl, rfl, hV, hD, hB⟩ := hrel
    have hlen := hD.len (by have := HU.out.2; omega)
    have hDH := Lib.hid hD
    have ecast : ((48 + V % 10 : Nat) : Int) = 48 + (V : Int) % 10 := by omega
    have z1 : ¬ 9223372036854775807 < (kb [d10 V]).size + (kb ds).size := by
      rw [kb_size, kb_size]
      simp
      omega
    have z2 : ¬ 9223372036854775807 < 1 + (kb ds).size := by
      rw [kb_size]
      omega
    have hcv := byteRow_str (W := wr.alloc (.cells #[.int .u8 (d10 V).toNat] 5)) (B := w.heap.size) (v := .slice (some ⟨wr.heap.size, 0, none⟩) 1 1) (l := [d10 V]) ⟨rfl, .inr ⟨wr.heap.size, 1, _, rfl, hB.size, heap_alloc_new wr _, Nat.le_refl _, by unfold maxLen; decide, rfl, rfl⟩⟩
    rw [d10_nat, ecast] at hcv
    have hHA := Lib.hid (kb_app [d10 V] ds)
    have hHV := Lib.hid hV
    by_cases h0 : 0 < V
    · have g0 : (0 : Int) < V := by omega
      clear hD ecast
      go_wp2
      go_roundw
      case rel => exact ⟨V / 10, d10 V :: ds, by go_num, by rw [hHA.out]; rfl, by omega, hDH.out.next h0, hB.alloc hB.size _⟩
      case measure =>
        simp [intOf]
        omega
    · obtain rfl : V = 0 := by omega
      have hds : ds = Lib.decDigits U := by
        unfold Dig at hD
        simpa using hD.symm
      clear hD ecast hcv z1
      subst hds
      go_wp2
      go_ret
      exact ⟨by rw [show (⟨#[45]⟩ : ByteArray) = kb [45] from rfl, kb_app]; rfl, hB⟩

theorem rdigits_any (n : Int) (hn : I64 n) (w : World) : Calls Tryd.prog 30 #[.int .i64 n] w fun e w' => e = .returned (.string (kb (Lib.itoa n))) ∧ Below w.heap.size w w' := by
  rcases itoa_parts n hn with ⟨h1, h2, h3⟩ | ⟨h1, h2, h3⟩
  · rw [h2]
    obtain ⟨u, rfl⟩ : ∃ u : Nat, n = (u : Int) := ⟨n.toNat, by omega⟩
    simp only [Int.toNat_natCast] at h2 h3 ⊢
    by_cases h0 : 0 < u
    · exact rdig_pos u w h0 h3
    · obtain rfl : u = 0 := by omega
      have e : kb (Lib.decDigits 0) = ⟨#[48]⟩ := by rw [Lib.decDigits, dif_pos (by omega)]; rfl
      rw [e]
      go_enter Tryd.func30, Tryd.ntmps30
      go_wp2
      go_ret
      exact ⟨rfl, Below.refl _ _⟩
  · rw [h2]
    exact rdig_neg n n.natAbs w (by omega) h3 (by omega)
end Go.Proofs.YtpgclgfaiklpoaaDoor
