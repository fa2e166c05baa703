/- gumshoeref03.all, bin, block. gumshoeref03.bin, block. gumshoeref03.function. -/
import Derived.Test.YtbpodijcndglgaaProg
import Derived.Deep.DeepMust
import Derived.Deep.RegionHeld3
import Derived.Test.YtbpodijcndglgaaPn20
set_option linter.unusedSimpArgs false
set_option linter.unusedVariables false
set_option maxRecDepth 100000
set_option maxHeartbeats 40000000
namespace Go.Proofs.Ytbpodijcndglgaa
section
open Go.RowKit Go.Proofs
def Says (P : Prop) (w : World) (e : Ending) (w' : World) : Prop := ∃ b : Bool, e = .returned (.bool b) ∧ (b = true ↔ P) ∧ Below w.heap.size w w'
def RefE (h : Int) (y : Tr) : Prop := ∀ (v : Value) (w : World), At w w.heap.size y v → Calls Try.prog 56 #[v, .int .i64 h] w (Says (isE y ∧ OK h y) w)
def RefS (h : Int) (y : Tr) : Prop := ∀ (v : Value) (w : World), At w w.heap.size y v → Calls Try.prog 38 #[v, .int .i64 h] w (Says (isS y ∧ OK h y) w)
theorem all_any (h : Int) (l : List Tr) (v : Value) (w : World) (hr : Row w w.heap.size l v) (hE : ∀ y ∈ l, RefE h y) (hl : l.length ≤ 9223372036854775807) :
  Calls Try.prog 55 #[v, .int .i64 h] w (Says (∀ y ∈ l, isE y ∧ OK h y) w) := by
 obtain ⟨A, c, rfl, hlc, hcm⟩ := row_at hr
 have hform : ∀ k y, l[k]? = some y → ∃ g off, A = some ⟨g, off, none⟩ ∧ ∀ w', Below w.heap.size w w' → ∃ Av cv, At w' w'.heap.size y (nodeV y (.slice Av y.l.length cv)) ∧ w'.cell? ⟨g, off + k * 5, none⟩ = some (.int .i64 y.op) ∧ w'.cell? ⟨g, off + k * 5 + 1, none⟩ = some (.string (bs y.s)) ∧ w'.cell? ⟨g, off + k * 5 + 2, none⟩ = some (.int .i64 y.n) ∧
   w'.cell? ⟨g, off + k * 5 + 3, none⟩ = some (.slice Av y.l.length cv) ∧ w'.cell? ⟨g, off + k * 5 + 4, none⟩ = some (.int .i64 y.line) := fun k y hy => by
  obtain ⟨hk, -⟩ := List.getElem?_eq_some_iff.1 hy
  obtain ⟨A', c', e, -, h2⟩ := hr
  cases e
  obtain ⟨g, off, rfl, hg, ha⟩ := h2 (by omega)
  refine ⟨g, off, rfl, fun w' hb => ?_⟩
  obtain ⟨Av, cv, hA, x⟩ := elem_at ha hg hb hy
  exact ⟨Av, cv, At.keep y hA hb.size fun _ _ => rfl, x⟩
 have HF := Lib.hid hform
 have HE := Lib.hid hE
 have HLc := Lib.hid hlc
 clear hr hform hE hlc hcm
 go_enter Try.func55, Try.ntmps55
 go_wp2
 go_loopw [5] (fun i wr => ∃ k : Nat, k ≤ l.length ∧ i = .int .i64 k ∧ RowKit.Hid ((∀ j y, j < k → l[j]? = some y → isE y ∧ OK h y) ∧ Below w.heap.size w wr)) (fun i _ => l.length - (intOf i).toNat)
 case atStart => exact ⟨0, Nat.zero_le _, rfl, Lib.hid ⟨fun j y hj => by omega, Below.refl _ _⟩⟩
 case round =>
  obtain ⟨k, hk, rfl, HR⟩ := hrel
  by_cases hlt : k < l.length
  ·obtain ⟨y, hy⟩ : ∃ y, l[k]? = some y := ⟨_, List.getElem?_eq_getElem hlt⟩
   have hym := List.mem_of_getElem? hy
   obtain ⟨g, off, hAg, hcell⟩ := HF.out k y hy
   obtain ⟨Av, cv, hyA, x0, x1, x2, x3, x4⟩ := hcell wr HR.out.2
   have hc := HE.out y hym _ wr hyA
   unfold nodeV at hc
   subst hAg
   have hkc : k < c := by have := HLc.out; omega
   have hk15 : k ≤ 9223372036854775807 := by omega
   have HC := Lib.hid hc
   have HY := Lib.hid (And.intro hy hym)
   clear hc hym hyA hcell hy
   go_wp2_with fail
   go_at_call 56
   refine HC.out.mono ?_
   rintro e w5 ⟨b, rfl, hb, hb5⟩
   have HB := Lib.hid (And.intro hb (HR.out.2.trans (hb5.mono HR.out.2.size)))
   clear hb hb5
   cases b with
   | true =>
    go_wp2
    go_roundw
    case rel =>
     refine ⟨k + 1, by omega, by simp, Lib.hid ⟨fun j z hj hz => ?_, HB.out.2⟩⟩
     by_cases hjk : j < k
     ·exact HR.out.1 j z hjk hz
     ·obtain rfl : j = k := by omega
      rw [HY.out.1] at hz
      cases hz
      exact HB.out.1.1 (by trivial)
    case measure => simp [intOf]; omega
   | false =>
    go_wp2
    go_ret
    refine ⟨false, rfl, ⟨fun hf => absurd hf (by simp), fun hall => ?_⟩, HB.out.2⟩
    have := HB.out.1.2 (hall y HY.out.2)
    exact absurd this (by simp)
  ·obtain rfl : k = l.length := by omega
   go_wp2
   go_ret
   refine ⟨true, rfl, ⟨fun _ y hy => ?_, fun _ => rfl⟩, HR.out.2⟩
   obtain ⟨i, hi, ei⟩ := List.mem_iff_getElem.1 hy
   exact HR.out.1 i y hi (by rw [List.getElem?_eq_getElem hi, ei])
open Go.RowKit Go.Proofs
theorem bin_any (s : Bs) (w : World) : Calls Try.prog 74 #[.string (bs s)] w fun e w' => e = .returned (.bool (signsB.contains s)) ∧ Below w.heap.size w w' := by
 by_cases h0 : s = [43]
 ·rw [show signsB.contains s = true by rw [h0]; decide]
  have d0 : ((bs s).toList == [43]) = true := by rw [show ([43] : List UInt8) = (bs [43]).toList from by rw [Lib.toList_data, bs_list], bs_eq_iff]; simpa using h0
  clear h0
  go_enter Try.func74, Try.ntmps74
  go_wp2
  go_ret
  exact ⟨rfl, by first | exact Below.refl _ _ | exact (Below.refl _ _).drew⟩
 have d0 : ((bs s).toList == [43]) = false := by rw [show ([43] : List UInt8) = (bs [43]).toList from by rw [Lib.toList_data, bs_list], bs_eq_iff]; simpa using h0
 by_cases h1 : s = [45]
 ·rw [show signsB.contains s = true by rw [h1]; decide]
  have d1 : ((bs s).toList == [45]) = true := by rw [show ([45] : List UInt8) = (bs [45]).toList from by rw [Lib.toList_data, bs_list], bs_eq_iff]; simpa using h1
  clear h0 h1
  go_enter Try.func74, Try.ntmps74
  go_wp2
  go_ret
  exact ⟨rfl, by first | exact Below.refl _ _ | exact (Below.refl _ _).drew⟩
 have d1 : ((bs s).toList == [45]) = false := by rw [show ([45] : List UInt8) = (bs [45]).toList from by rw [Lib.toList_data, bs_list], bs_eq_iff]; simpa using h1
 by_cases h2 : s = [42]
 ·rw [show signsB.contains s = true by rw [h2]; decide]
  have d2 : ((bs s).toList == [42]) = true := by rw [show ([42] : List UInt8) = (bs [42]).toList from by rw [Lib.toList_data, bs_list], bs_eq_iff]; simpa using h2
  clear h0 h1 h2
  go_enter Try.func74, Try.ntmps74
  go_wp2
  go_ret
  exact ⟨rfl, by first | exact Below.refl _ _ | exact (Below.refl _ _).drew⟩
 have d2 : ((bs s).toList == [42]) = false := by rw [show ([42] : List UInt8) = (bs [42]).toList from by rw [Lib.toList_data, bs_list], bs_eq_iff]; simpa using h2
 by_cases h3 : s = [60]
 ·rw [show signsB.contains s = true by rw [h3]; decide]
  have d3 : ((bs s).toList == [60]) = true := by rw [show ([60] : List UInt8) = (bs [60]).toList from by rw [Lib.toList_data, bs_list], bs_eq_iff]; simpa using h3
  clear h0 h1 h2 h3
  go_enter Try.func74, Try.ntmps74
  go_wp2
  go_ret
  exact ⟨rfl, by first | exact Below.refl _ _ | exact (Below.refl _ _).drew⟩
 have d3 : ((bs s).toList == [60]) = false := by rw [show ([60] : List UInt8) = (bs [60]).toList from by rw [Lib.toList_data, bs_list], bs_eq_iff]; simpa using h3
 by_cases h4 : s = [60, 61]
 ·rw [show signsB.contains s = true by rw [h4]; decide]
  have d4 : ((bs s).toList == [60, 61]) = true := by rw [show ([60, 61] : List UInt8) = (bs [60, 61]).toList from by rw [Lib.toList_data, bs_list], bs_eq_iff]; simpa using h4
  clear h0 h1 h2 h3 h4
  go_enter Try.func74, Try.ntmps74
  go_wp2
  go_ret
  exact ⟨rfl, by first | exact Below.refl _ _ | exact (Below.refl _ _).drew⟩
 have d4 : ((bs s).toList == [60, 61]) = false := by rw [show ([60, 61] : List UInt8) = (bs [60, 61]).toList from by rw [Lib.toList_data, bs_list], bs_eq_iff]; simpa using h4
 by_cases h5 : s = [61, 61, 61]
 ·rw [show signsB.contains s = true by rw [h5]; decide]
  have d5 : ((bs s).toList == [61, 61, 61]) = true := by rw [show ([61, 61, 61] : List UInt8) = (bs [61, 61, 61]).toList from by rw [Lib.toList_data, bs_list], bs_eq_iff]; simpa using h5
  clear h0 h1 h2 h3 h4 h5
  go_enter Try.func74, Try.ntmps74
  go_wp2
  go_ret
  exact ⟨rfl, by first | exact Below.refl _ _ | exact (Below.refl _ _).drew⟩
 have d5 : ((bs s).toList == [61, 61, 61]) = false := by rw [show ([61, 61, 61] : List UInt8) = (bs [61, 61, 61]).toList from by rw [Lib.toList_data, bs_list], bs_eq_iff]; simpa using h5
 by_cases h6 : s = [33, 61, 61]
 ·rw [show signsB.contains s = true by rw [h6]; decide]
  have d6 : ((bs s).toList == [33, 61, 61]) = true := by rw [show ([33, 61, 61] : List UInt8) = (bs [33, 61, 61]).toList from by rw [Lib.toList_data, bs_list], bs_eq_iff]; simpa using h6
  clear h0 h1 h2 h3 h4 h5 h6
  go_enter Try.func74, Try.ntmps74
  go_wp2
  go_ret
  exact ⟨rfl, by first | exact Below.refl _ _ | exact (Below.refl _ _).drew⟩
 have d6 : ((bs s).toList == [33, 61, 61]) = false := by rw [show ([33, 61, 61] : List UInt8) = (bs [33, 61, 61]).toList from by rw [Lib.toList_data, bs_list], bs_eq_iff]; simpa using h6
 rw [show signsB.contains s = false by simp [signsB, h0, h1, h2, h3, h4, h5, h6]]
 clear h0 h1 h2 h3 h4 h5 h6
 go_enter Try.func74, Try.ntmps74
 go_wp2
 go_ret
 exact ⟨rfl, by first | exact Below.refl _ _ | exact (Below.refl _ _).drew⟩
theorem block_any (h : Int) (y : Tr) (hS : RefS h y) (v : Value) (w : World) (hA : At w w.heap.size y v) : Calls Try.prog 25 #[v, .int .i64 h] w (Says (y.op = 32 ∧ OK h y) w) := by
 obtain ⟨u, rfl, -, -⟩ := (At_iff _ _ _ _).1 hA
 obtain ⟨W1, eW⟩ : ∃ W, w.alloc (.cells #[.int .i64 y.op, .string (bs y.s), .int .i64 y.n, u, .int .i64 y.line] 24) = W := ⟨_, rfl⟩
 have hb0 : Below w.heap.size w W1 := by rw [← eW]; exact (Below.refl _ w).alloc (Nat.le_refl _) _
 have hz0 : W1.heap.size = w.heap.size + 1 := by rw [← eW]; simp
 have hx : W1.heap[w.heap.size]? = some (.cells #[.int .i64 y.op, .string (bs y.s), .int .i64 y.n, u, .int .i64 y.line] 24 (0, 0)) := by rw [← eW]; exact heap_alloc_new w _
 have hbx := fun (w' : World) (hb : Below W1.heap.size W1 w') => box_in hb hx
 have hc := hS _ W1 (At.keep y hA hb0.size fun p hp => hb0.cell hp)
 unfold nodeV at hc ⊢
 unfold BoxAt at hbx
 have HC := Lib.hid hc
 have HW := Lib.hid (And.intro eW (And.intro hb0 hz0))
 obtain ⟨f0, f1, f2, f3, f4⟩ := hbx W1 (Below.refl _ _)
 clear hc hbx hx hb0 hz0 hA hS
 by_cases hop : y.op = 32
 ·have hop2 : (y.op == 32) = true := by rw [hop]; rfl
  have HO := Lib.hid hop
  clear hop
  go_enter Try.func25, Try.ntmps25
  go_wp2_with fail
  go_at_call 38
  refine HC.out.mono ?_
  rintro e w5 ⟨b, rfl, hb, hb5⟩
  have HB := Lib.hid (And.intro hb (HW.out.2.1.trans (hb5.mono (by have := HW.out.2.2; omega))))
  clear hb hb5
  go_wp2
  go_ret
  refine ⟨b, by first | rfl | simp, ?_, HB.out.2⟩
  rw [HB.out.1]
  exact ⟨fun hh => ⟨HO.out, hh.2⟩, fun hh => ⟨by unfold isS; rw [HO.out]; rfl, hh.2⟩⟩
 ·have hop2 : (y.op == 32) = false := by simpa using hop
  have HO := Lib.hid hop
  clear hop
  go_enter Try.func25, Try.ntmps25
  go_wp2
  go_ret
  exact ⟨false, by first | rfl | simp, ⟨fun hf => absurd hf (by simp), fun hh => absurd hh.1 HO.out⟩, HW.out.2.1⟩
open Go.RowKit Go.Proofs
def FunOK (h : Int) (l : List Tr) : Prop := l.length ≤ 201 ∧ ∃ xs b, l = xs ++ [b] ∧ (∀ x ∈ xs, x.op = 1 ∧ OK h x) ∧ b.op = 32 ∧ OK h b
theorem fun_iff {h : Int} {l : List Tr} {m : Nat} (hl : l.length = m + 1) : FunOK h l ↔ m ≤ 200 ∧ (∀ (j : Nat) (y : Tr), j < m → l[j]? = some y → y.op = 1 ∧ OK h y) ∧ ∀ y, l[m]? = some y → y.op = 32 ∧ OK h y := by
 constructor
 ·rintro ⟨h1, xs, b, rfl, h2, h3⟩
  have hx : xs.length = m := by rw [List.length_append, List.length_singleton] at hl; omega
  refine ⟨by omega, fun j y hj hy => ?_, fun y hy => ?_⟩
  ·rw [List.getElem?_append_left (by omega)] at hy
   exact h2 y (List.mem_of_getElem? hy)
  ·rw [List.getElem?_append_right (by omega), hx, Nat.sub_self] at hy
   cases hy
   exact h3
 ·rintro ⟨h1, h2, h3⟩
  refine ⟨by omega, l.take m, l[m]'(by omega), ?_, fun x hx => ?_, h3 _ (List.getElem?_eq_getElem (by omega))⟩
  ·have := List.take_append_getElem (l := l) (i := m) (by omega)
   rw [this, List.take_of_length_le (by omega)]
  ·obtain ⟨i, hi, ei⟩ := List.mem_iff_getElem.1 hx
   rw [List.length_take] at hi
   rw [List.getElem_take] at ei
   exact h2 i x (by omega) (by rw [List.getElem?_eq_getElem (by omega), ei])
theorem fun_any (h : Int) (l : List Tr) (v : Value) (w : World) (hr : Row w w.heap.size l v) (hE : ∀ y ∈ l, RefE h y) (hS : ∀ y ∈ l, RefS h y) (hl : l.length ≤ 9223372036854775807) :
  Calls Try.prog 57 #[v, .int .i64 h] w (Says (FunOK h l) w) := by
 obtain ⟨A, c, rfl, hlc, hcm⟩ := row_at hr
 have hform : ∀ k y, l[k]? = some y → ∃ g off, A = some ⟨g, off, none⟩ ∧ ∀ w', Below w.heap.size w w' → ∃ Av cv, At w' w'.heap.size y (nodeV y (.slice Av y.l.length cv)) ∧ w'.cell? ⟨g, off + k * 5, none⟩ = some (.int .i64 y.op) ∧ w'.cell? ⟨g, off + k * 5 + 1, none⟩ = some (.string (bs y.s)) ∧ w'.cell? ⟨g, off + k * 5 + 2, none⟩ = some (.int .i64 y.n) ∧
   w'.cell? ⟨g, off + k * 5 + 3, none⟩ = some (.slice Av y.l.length cv) ∧ w'.cell? ⟨g, off + k * 5 + 4, none⟩ = some (.int .i64 y.line) := fun k y hy => by
  obtain ⟨hk, -⟩ := List.getElem?_eq_some_iff.1 hy
  obtain ⟨A', c', e, -, h2⟩ := hr
  cases e
  obtain ⟨g, off, rfl, hg, ha⟩ := h2 (by omega)
  refine ⟨g, off, rfl, fun w' hb => ?_⟩
  obtain ⟨Av, cv, hA, x⟩ := elem_at ha hg hb hy
  exact ⟨Av, cv, At.keep y hA hb.size fun _ _ => rfl, x⟩
 have HF := Lib.hid hform
 have HE := Lib.hid hE
 have HS := Lib.hid hS
 have HLc := Lib.hid hlc
 clear hr hform hE hS hlc hcm
 by_cases h0 : l.length < 1
 ·go_enter Try.func57, Try.ntmps57
  go_wp2
  go_ret
  refine ⟨false, rfl, ⟨fun hf => absurd hf (by simp), fun hh => ?_⟩, Below.refl _ _⟩
  obtain ⟨-, xs, b, rfl, -⟩ := hh
  rw [List.length_append, List.length_singleton] at h0
  omega
 by_cases h2 : 201 < l.length
 ·go_enter Try.func57, Try.ntmps57
  go_wp2
  go_ret
  exact ⟨false, rfl, ⟨fun hf => absurd hf (by simp), fun hh => by have := hh.1; omega⟩, Below.refl _ _⟩
 obtain ⟨m, hm⟩ : ∃ m, l.length = m + 1 := ⟨l.length - 1, by omega⟩
 have HP := Lib.hid (fun_iff (h := h) hm)
 have hm2 : m ≤ 200 := by omega
 have HM := Lib.hid hm
 rw [hm] at HLc h0 h2 ⊢
 clear hm hl
 go_enter Try.func57, Try.ntmps57
 go_wp2
 go_loopw [5] (fun i wr => ∃ k : Nat, k ≤ m ∧ i = .int .i64 k ∧ RowKit.Hid ((∀ (j : Nat) (y : Tr), j < k → l[j]? = some y → y.op = 1 ∧ OK h y) ∧ Below w.heap.size w wr)) (fun i _ => m - (intOf i).toNat)
 case atStart => exact ⟨0, Nat.zero_le _, rfl, Lib.hid ⟨fun j y hj => by omega, Below.refl _ _⟩⟩
 case round =>
  obtain ⟨k, hk, rfl, HR⟩ := hrel
  obtain ⟨y, hy⟩ : ∃ y, l[k]? = some y := ⟨_, List.getElem?_eq_getElem (by have := HM.out; omega)⟩
  have hym := List.mem_of_getElem? hy
  obtain ⟨g, off, hAg, hcell⟩ := HF.out k y hy
  obtain ⟨Av, cv, hyA, x0, x1, x2, x3, x4⟩ := hcell wr HR.out.2
  subst hAg
  have hkc : k < c := by have := HLc.out; omega
  by_cases hlt : k < m
  ·have hc := HE.out y hym _ wr hyA
   unfold nodeV at hc
   have HC := Lib.hid hc
   have HY := Lib.hid (And.intro hy hym)
   clear hc hym hyA hcell hy
   by_cases hop : y.op = 1
   ·have hop2 : (y.op != 1) = false := by rw [hop]; rfl
    have HO := Lib.hid hop
    clear hop
    go_wp2_with fail
    go_at_call 56
    refine HC.out.mono ?_
    rintro e w5 ⟨b, rfl, hb, hb5⟩
    have HB := Lib.hid (And.intro hb (HR.out.2.trans (hb5.mono HR.out.2.size)))
    clear hb hb5
    cases b with
    | true =>
     go_wp2
     go_roundw
     case rel =>
      refine ⟨k + 1, by omega, by simp, Lib.hid ⟨fun j z hj hz => ?_, HB.out.2⟩⟩
      by_cases hjk : j < k
      ·exact HR.out.1 j z hjk hz
      ·obtain rfl : j = k := by omega
       rw [HY.out.1] at hz
       cases hz
       exact ⟨HO.out, (HB.out.1.1 (by trivial)).2⟩
     case measure => simp [intOf]; omega
    | false =>
     go_wp2
     go_ret
     refine ⟨false, rfl, ⟨fun hf => absurd hf (by simp), fun hh => ?_⟩, HB.out.2⟩
     have h9 := ((HP.out.1 hh).2.1 k y hlt HY.out.1)
     have := HB.out.1.2 ⟨by unfold isE; rw [HO.out]; rfl, h9.2⟩
     exact absurd this (by simp)
   ·have hop2 : (y.op != 1) = true := by simpa using hop
    have HO := Lib.hid hop
    clear hop
    go_wp2
    go_ret
    exact ⟨false, rfl, ⟨fun hf => absurd hf (by simp), fun hh => absurd ((HP.out.1 hh).2.1 k y hlt HY.out.1).1 HO.out⟩, HR.out.2⟩
  ·obtain rfl : k = m := by omega
   have hc := block_any h y (HS.out y hym) _ wr hyA
   unfold nodeV at hc
   have HC := Lib.hid hc
   have HY := Lib.hid (And.intro hy hym)
   clear hc hym hyA hcell hy
   go_wp2_with fail
   go_at_call 25
   refine HC.out.mono ?_
   rintro e w5 ⟨b, rfl, hb, hb5⟩
   have HB := Lib.hid (And.intro hb (HR.out.2.trans (hb5.mono HR.out.2.size)))
   clear hb hb5
   go_wp2
   go_ret
   refine ⟨b, by first | rfl | simp, ?_, HB.out.2⟩
   rw [HB.out.1, HP.out]
   constructor
   ·intro hh
    refine ⟨hm2, HR.out.1, fun z hz => ?_⟩
    rw [HY.out.1] at hz
    cases hz
    exact hh
   ·intro hh
    exact hh.2.2 y HY.out.1
end
end Go.Proofs.Ytbpodijcndglgaa
