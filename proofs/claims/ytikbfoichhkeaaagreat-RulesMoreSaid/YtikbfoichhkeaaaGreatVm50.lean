/- The document's Right, for good trees of few operations. -/
import Derived.Test.YtikbfoichhkeaaaGreatProg
import Derived.Deep.RegionHeld3
import Derived.Test.YtikbfoichhkeaaaGreatVm16
import Derived.Test.YtikbfoichhkeaaaGreatVm21
set_option linter.unusedSimpArgs false
set_option linter.unusedVariables false
set_option maxRecDepth 100000
set_option maxHeartbeats 40000000
namespace Go.Proofs.YtikbfoichhkeaaaGreat
section
open Go.RowKit Go.Proofs
structure RIn (h : Int) (t : Tr) (A : Option Addr) (c : Nat) (w W1 : World) : Prop where
 world : w.alloc (.cells #[.int .i64 t.op, .string (bs t.s), .int .i64 t.n, .slice A t.l.length c, .int .i64 t.line] 24) = W1
 low : Below w.heap.size w W1
 box : W1.heap[w.heap.size]? = some (.cells #[.int .i64 t.op, .string (bs t.s), .int .i64 t.n, .slice A t.l.length c, .int .i64 t.line] 24 (0, 0))
 row : Row W1 W1.heap.size t.l (.slice A t.l.length c)
 name : ∀ w', Calls Tryz.prog 85 #[.string (bs t.s)] w' fun e w'' => e = .returned (.bool (isNameL t.s)) ∧ w' = w''
 word : ∀ w', Calls Tryz.prog 113 #[.string (bs t.s)] w' fun e w'' => e = .returned (.bool (isWordL t.s)) ∧ w' = w''
theorem r_in (h : Int) (t : Tr) (A : Option Addr) (c : Nat) (w : World) (hA : At w w.heap.size t (nodeV t (.slice A t.l.length c))) :
  RIn h t A c w (w.alloc (.cells #[.int .i64 t.op, .string (bs t.s), .int .i64 t.n, .slice A t.l.length c, .int .i64 t.line] 24)) := by
 obtain ⟨u, e, hr, hf⟩ := (At_iff _ _ _ _).1 hA
 have hb : Below w.heap.size w (w.alloc (.cells #[.int .i64 t.op, .string (bs t.s), .int .i64 t.n, .slice A t.l.length c, .int .i64 t.line] 24)) := (Below.refl _ w).alloc (Nat.le_refl _) _
 unfold nodeV at e
 simp only [Value.agg.injEq, Array.mk.injEq, List.cons.injEq, and_true, true_and] at e
 subst e
 refine { world := rfl, low := hb, box := heap_alloc_new w _, row := hr.keep hb.size fun p hp => hb.cell hp, name := fun w' => ?_, word := fun w' => ?_ }
 ·have := risName_any (bs t.s) w' (by rw [bs_size]; exact hf.1)
  rw [bs_list] at this
  exact this
 ·have := risWord_any (bs t.s) w'
  rw [bs_list] at this
  exact this
theorem RIn.cells {h : Int} {t : Tr} {A : Option Addr} {c : Nat} {w W1 : World} (r : RIn h t A c w W1) : BoxAt W1 w.heap.size t (.slice A t.l.length c) := box_in (Below.refl _ _) r.box
theorem row_elem {W1 : World} {l : List Tr} {A : Option Addr} {c : Nat} (hr : Row W1 W1.heap.size l (.slice A l.length c)) (hl : 0 < l.length) :
  ∃ g off, A = some ⟨g, off, none⟩ ∧ l.length ≤ c ∧ ∀ w', Below W1.heap.size W1 w' → ∀ k y, l[k]? = some y → ∃ Av cv, At w' w'.heap.size y (nodeV y (.slice Av y.l.length cv)) ∧ w'.cell? ⟨g, off + k * 5, none⟩ = some (.int .i64 y.op) ∧ w'.cell? ⟨g, off + k * 5 + 1, none⟩ = some (.string (bs y.s)) ∧ w'.cell? ⟨g, off + k * 5 + 2, none⟩ = some (.int .i64 y.n) ∧
   w'.cell? ⟨g, off + k * 5 + 3, none⟩ = some (.slice Av y.l.length cv) ∧ w'.cell? ⟨g, off + k * 5 + 4, none⟩ = some (.int .i64 y.line) := by
 obtain ⟨A', c', e', ⟨hlc, -⟩, hrow⟩ := hr
 cases e'
 obtain ⟨g, off, rfl, hg, ha⟩ := hrow hl
 refine ⟨g, off, rfl, hlc, fun w' hb k y hy => ?_⟩
 obtain ⟨Av, cv, hA, x⟩ := elem_at ha hg hb hy
 exact ⟨Av, cv, At.keep y hA hb.size fun _ _ => rfl, x⟩
theorem rfw_1 (h : Int) (t : Tr) (A : Option Addr) (c : Nat) (w : World) (e : t.op = 1) (hsd : soundOne t = true) (h1 : 1 ≤ h) (h2 : h ≤ 1000) (hA : At w w.heap.size t (nodeV t (.slice A t.l.length c))) :
  Calls Tryz.prog 87 #[nodeV t (.slice A t.l.length c), .int .i64 h] w (Says (isE t ∧ OK h t) w) := by
 obtain ⟨hn, hm, hl⟩ := (inv_1 e).1 hsd
 have d1 : ((bs t.s).toList == []) = false := by
  rw [Lib.toList_data, bs_list, beq_eq_false_iff_ne]
  intro h
  rw [h] at hn
  cases hn
 obtain ⟨W1, hr⟩ : ∃ W, RIn h t A c w W := ⟨_, r_in h t A c w hA⟩
 have hbx := hr.cells
 have hiS : isE t := by unfold isE hasB; rw [e]; rfl
 have HR := Lib.hid hr
 have HN := Lib.hid hr.name
 have HWd := Lib.hid hr.word
 have HX := Lib.hid (fun w' (hb : Below W1.heap.size W1 w') => box_in hb hr.box)
 have HOK := Lib.hid (ok_iff h t)
 have HSd := Lib.hid hsd
 have HI := Lib.hid hiS
 have hW : w.alloc (.cells #[.int .i64 1, .string (bs t.s), .int .i64 t.n, .slice A t.l.length c, .int .i64 t.line] 24) = W1 := by rw [← e]; exact hr.world
 unfold BoxAt at hbx
 rw [e] at hbx
 obtain ⟨f0, f1, f2, f3, f4⟩ := hbx
 unfold nodeV
 rw [e]
 have d2 : (t.n == 0) = true := by rw [hm]; rfl
 have d3 : ((t.l.length : Int) == 0) = true := by rw [hl]; rfl
 have HL := Lib.hid hl
 rw [hn] at HN
 clear hA hr hiS e hn hm hl hsd
 go_enter Tryz.func87, Tryz.ntmps87
 go_wp2_with (first | (go_at_call 85; refine (HN.out _).mono ?_; rintro e w' ⟨rfl, rfl⟩) | (go_at_call 113; refine (HWd.out _).mono ?_; rintro e w' ⟨rfl, rfl⟩))
 go_ret
 refine ⟨true, by first | rfl | simp, ⟨fun _ => ⟨HI.out, HOK.out.2 ⟨by omega, HSd.out, fun y hy => ?_⟩⟩, fun _ => rfl⟩, HR.out.low⟩
 rw [HL.out] at hy
 cases hy
theorem rfw_11 (h : Int) (t : Tr) (A : Option Addr) (c : Nat) (w : World) (e : t.op = 11) (hsd : soundOne t = true) (h1 : 1 ≤ h) (h2 : h ≤ 1000) (hA : At w w.heap.size t (nodeV t (.slice A t.l.length c))) (hl : t.l = []) :
  Calls Tryz.prog 87 #[nodeV t (.slice A t.l.length c), .int .i64 h] w (Says (isE t ∧ OK h t) w) := by
 obtain ⟨hs, hm, -⟩ := (inv_11 e).1 hsd
 have d1 : ((bs t.s).toList == []) = true := by rw [hs, Lib.toList_data, bs_list]; rfl
 obtain ⟨W1, hr⟩ : ∃ W, RIn h t A c w W := ⟨_, r_in h t A c w hA⟩
 have hbx := hr.cells
 have hiS : isE t := by unfold isE hasB; rw [e]; rfl
 have HR := Lib.hid hr
 have HN := Lib.hid hr.name
 have HWd := Lib.hid hr.word
 have HX := Lib.hid (fun w' (hb : Below W1.heap.size W1 w') => box_in hb hr.box)
 have HOK := Lib.hid (ok_iff h t)
 have HSd := Lib.hid hsd
 have HI := Lib.hid hiS
 have hW : w.alloc (.cells #[.int .i64 11, .string (bs t.s), .int .i64 t.n, .slice A t.l.length c, .int .i64 t.line] 24) = W1 := by rw [← e]; exact hr.world
 unfold BoxAt at hbx
 rw [e] at hbx
 obtain ⟨f0, f1, f2, f3, f4⟩ := hbx
 unfold nodeV
 rw [e]
 have d2 : (t.n == 0) = true := by rw [hm]; rfl
 have hk : t.l.length ≤ 0 := by rw [hl]; exact Nat.le_refl _
 have HL := Lib.hid hl
 clear hA hr hiS e hs hm hl hsd
 go_enter Tryz.func87, Tryz.ntmps87
 go_wp2_with (first | (go_at_call 85; refine (HN.out _).mono ?_; rintro e w' ⟨rfl, rfl⟩) | (go_at_call 113; refine (HWd.out _).mono ?_; rintro e w' ⟨rfl, rfl⟩))
 go_loopw [9] (fun i wr => i = .int .i64 0 ∧ W1 = wr) (fun _ _ => 0)
 case atStart => exact ⟨rfl, by first | rfl | exact hW.symm⟩
 case round =>
  obtain ⟨rfl, rfl⟩ := hrel
  go_wp2
  go_ret
  refine ⟨true, by first | rfl | simp, ⟨fun _ => ⟨HI.out, HOK.out.2 ⟨by omega, HSd.out, fun y hy => ?_⟩⟩, fun _ => rfl⟩, HR.out.low⟩
  rw [HL.out] at hy
  cases hy
theorem rfw_30 (h : Int) (t : Tr) (A : Option Addr) (c : Nat) (w : World) (e : t.op = 30) (hsd : soundOne t = true) (h1 : 1 ≤ h) (h2 : h ≤ 1000) (hA : At w w.heap.size t (nodeV t (.slice A t.l.length c))) (hE : ∀ y ∈ t.l, RefE (h - 1) y) :
  Calls Tryz.prog 50 #[nodeV t (.slice A t.l.length c), .int .i64 h] w (Says (isS t ∧ OK h t) w) := by
 obtain ⟨hn, hm, hl0⟩ := (inv_30 e).1 hsd
 have hk : t.l.length ≤ 1 := by rcases hl0 with h | ⟨a, h, -⟩ <;> rw [h] <;> simp
 obtain ⟨W1, hr⟩ : ∃ W, RIn h t A c w W := ⟨_, r_in h t A c w hA⟩
 have hbx := hr.cells
 have hiS : isS t := by unfold isS hasB; rw [e]; rfl
 have HR := Lib.hid hr
 have HN := Lib.hid hr.name
 have HX := Lib.hid (fun w' (hb : Below W1.heap.size W1 w') => box_in hb hr.box)
 have HOp := Lib.hid e
 have HOK := Lib.hid (ok_iff h t)
 have HSd := Lib.hid hsd
 have HI := Lib.hid hiS
 have hW : w.alloc (.cells #[.int .i64 30, .string (bs t.s), .int .i64 t.n, .slice A t.l.length c, .int .i64 t.line] 24) = W1 := by rw [← e]; exact hr.world
 unfold BoxAt at hbx
 rw [e] at hbx
 obtain ⟨f0, f1, f2, f3, f4⟩ := hbx
 unfold nodeV
 rw [e]
 have d2 : (t.n != 0) = false := by rw [hm]; rfl
 rw [hn] at HN
 have HAll := Lib.hid (all_any (h - 1) t.l _ W1 HR.out.row hE (by omega))
 have HInv := Lib.hid (inv_30 HOp.out)
 clear hA hr hiS e hn hm hl0 hsd hE
 go_enter Tryz.func50, Tryz.ntmps50
 go_wp2_with (first | (go_at_call 85; refine (HN.out _).mono ?_; rintro e w' ⟨rfl, rfl⟩) | (go_at_call 86; refine HAll.out.mono ?_; rintro e w5 ⟨b, rfl, hb, hb5⟩; have HB := Lib.hid (And.intro hb hb5); clear hb hb5))
 go_ret
 refine ⟨b, by first | rfl | simp, ?_, HR.out.low.trans (HB.out.2.mono HR.out.low.size)⟩
 rw [HB.out.1, HOK.out]
 constructor
 ·intro hh
  exact ⟨HI.out, by omega, HSd.out, fun y hy => (hh y hy).2⟩
 ·rintro ⟨-, -, -, hp⟩ y hy
  refine ⟨?_, hp y hy⟩
  rcases (HInv.out.1 HSd.out).2.2 with hl0 | ⟨a, hl0, ea⟩
  ·rw [hl0] at hy
   cases hy
  ·rw [hl0] at hy
   simp only [List.mem_cons, List.not_mem_nil, or_false] at hy
   subst hy
   exact ea
theorem rfw_31 (h : Int) (t : Tr) (A : Option Addr) (c : Nat) (w : World) (e : t.op = 31) (hsd : soundOne t = true) (h1 : 1 ≤ h) (h2 : h ≤ 1000) (hA : At w w.heap.size t (nodeV t (.slice A t.l.length c))) (hE : ∀ y ∈ t.l, RefE (h - 1) y) :
  Calls Tryz.prog 50 #[nodeV t (.slice A t.l.length c), .int .i64 h] w (Says (isS t ∧ OK h t) w) := by
 obtain ⟨hs, hm, hl0⟩ := (inv_31 e).1 hsd
 have hk : t.l.length = 1 := by obtain ⟨a, h, -⟩ := hl0; rw [h]; rfl
 have d1 : ((bs t.s).toList == []) = true := by rw [hs, Lib.toList_data, bs_list]; rfl
 obtain ⟨W1, hr⟩ : ∃ W, RIn h t A c w W := ⟨_, r_in h t A c w hA⟩
 have hbx := hr.cells
 have hiS : isS t := by unfold isS hasB; rw [e]; rfl
 have HR := Lib.hid hr
 have HN := Lib.hid hr.name
 have HX := Lib.hid (fun w' (hb : Below W1.heap.size W1 w') => box_in hb hr.box)
 have HOp := Lib.hid e
 have HOK := Lib.hid (ok_iff h t)
 have HSd := Lib.hid hsd
 have HI := Lib.hid hiS
 have hW : w.alloc (.cells #[.int .i64 31, .string (bs t.s), .int .i64 t.n, .slice A t.l.length c, .int .i64 t.line] 24) = W1 := by rw [← e]; exact hr.world
 unfold BoxAt at hbx
 rw [e] at hbx
 obtain ⟨f0, f1, f2, f3, f4⟩ := hbx
 unfold nodeV
 rw [e]
 have d2 : (t.n != 0) = false := by rw [hm]; rfl
 have d3 : ((t.l.length : Int) == 1) = true := by rw [hk]; rfl
 have HAll := Lib.hid (all_any (h - 1) t.l _ W1 HR.out.row hE (by omega))
 have HInv := Lib.hid (inv_31 HOp.out)
 clear hA hr hiS e hs hm hl0 hsd hE hk
 go_enter Tryz.func50, Tryz.ntmps50
 go_wp2_with (first | (go_at_call 85; refine (HN.out _).mono ?_; rintro e w' ⟨rfl, rfl⟩) | (go_at_call 86; refine HAll.out.mono ?_; rintro e w5 ⟨b, rfl, hb, hb5⟩; have HB := Lib.hid (And.intro hb hb5); clear hb hb5))
 go_ret
 refine ⟨b, by first | rfl | simp, ?_, HR.out.low.trans (HB.out.2.mono HR.out.low.size)⟩
 rw [HB.out.1, HOK.out]
 constructor
 ·intro hh
  exact ⟨HI.out, by omega, HSd.out, fun y hy => (hh y hy).2⟩
 ·rintro ⟨-, -, -, hp⟩ y hy
  refine ⟨?_, hp y hy⟩
  obtain ⟨a, hl0, ea⟩ := (HInv.out.1 HSd.out).2.2
  rw [hl0] at hy
  simp only [List.mem_cons, List.not_mem_nil, or_false] at hy
  subst hy
  exact ea
theorem rfw_32 (h : Int) (t : Tr) (A : Option Addr) (c : Nat) (w : World) (e : t.op = 32) (hsd : soundOne t = true) (h1 : 1 ≤ h) (h2 : h ≤ 1000) (hA : At w w.heap.size t (nodeV t (.slice A t.l.length c))) (hS : ∀ y ∈ t.l, RefS (h - 1) y) (hl : t.l.length ≤ 1000000) :
  Calls Tryz.prog 50 #[nodeV t (.slice A t.l.length c), .int .i64 h] w (Says (isS t ∧ OK h t) w) := by
 obtain ⟨hs, hm, hl0, -⟩ := (inv_32 e).1 hsd
 have d1 : ((bs t.s).toList == []) = true := by rw [hs, Lib.toList_data, bs_list]; rfl
 obtain ⟨W1, hr⟩ : ∃ W, RIn h t A c w W := ⟨_, r_in h t A c w hA⟩
 have hbx := hr.cells
 have hiS : isS t := by unfold isS hasB; rw [e]; rfl
 have HR := Lib.hid hr
 have HN := Lib.hid hr.name
 have HX := Lib.hid (fun w' (hb : Below W1.heap.size W1 w') => box_in hb hr.box)
 have HOp := Lib.hid e
 have HOK := Lib.hid (ok_iff h t)
 have HSd := Lib.hid hsd
 have HI := Lib.hid hiS
 have hW : w.alloc (.cells #[.int .i64 32, .string (bs t.s), .int .i64 t.n, .slice A t.l.length c, .int .i64 t.line] 24) = W1 := by rw [← e]; exact hr.world
 unfold BoxAt at hbx
 rw [e] at hbx
 obtain ⟨f0, f1, f2, f3, f4⟩ := hbx
 unfold nodeV
 rw [e]
 have d2 : (t.n != 0) = false := by rw [hm]; rfl
 have HInv := Lib.hid (inv_32 HOp.out)
 have HS := Lib.hid hS
 clear hA hr hiS e hs hm hl0 hsd hS
 have hem : ∀ (k : Nat) (y : Tr), t.l[k]? = some y → ∃ g off, A = some ⟨g, off, none⟩ ∧ ∀ w', Below W1.heap.size W1 w' → ∃ Av cv, At w' w'.heap.size y (nodeV y (.slice Av y.l.length cv)) ∧ w'.cell? ⟨g, off + k * 5, none⟩ = some (.int .i64 y.op) ∧ w'.cell? ⟨g, off + k * 5 + 1, none⟩ = some (.string (bs y.s)) ∧ w'.cell? ⟨g, off + k * 5 + 2, none⟩ = some (.int .i64 y.n) ∧
   w'.cell? ⟨g, off + k * 5 + 3, none⟩ = some (.slice Av y.l.length cv) ∧ w'.cell? ⟨g, off + k * 5 + 4, none⟩ = some (.int .i64 y.line) := fun k y hy => by
  obtain ⟨g, off, e1, -, h3⟩ := row_elem HR.out.row (by have := (List.getElem?_eq_some_iff.1 hy).1; omega)
  exact ⟨g, off, e1, fun w' hb => h3 w' hb k y hy⟩
 have HF := Lib.hid hem
 have hlc : t.l.length ≤ c := by obtain ⟨A', c', e', ⟨hlc, -⟩, -⟩ := HR.out.row; cases e'; exact hlc
 have HLc := Lib.hid hlc
 clear hem hlc
 go_enter Tryz.func50, Tryz.ntmps50
 go_wp2_with (first | (go_at_call 85; refine (HN.out _).mono ?_; rintro e w' ⟨rfl, rfl⟩))
 go_loopw [8] (fun i wr => ∃ k : Nat, k ≤ t.l.length ∧ i = .int .i64 k ∧ RowKit.Hid ((∀ (j : Nat) (y : Tr), j < k → t.l[j]? = some y → isS y ∧ OK (h - 1) y) ∧ Below W1.heap.size W1 wr)) (fun i _ => t.l.length - (intOf i).toNat)
 case atStart => exact ⟨0, Nat.zero_le _, rfl, Lib.hid ⟨fun j y hj => by omega, Below.refl _ _⟩⟩
 case round =>
  obtain ⟨k, hk, rfl, HRd⟩ := hrel
  clear f0 f1 f2 f3 f4
  obtain ⟨f0, f1, f2, f3, f4⟩ := HX.out wr HRd.out.2
  have hlow : Below w.heap.size w wr := HR.out.low.trans (HRd.out.2.mono HR.out.low.size)
  have HLow := Lib.hid hlow
  clear hlow
  by_cases hlt : k < t.l.length
  ·obtain ⟨y, hy⟩ : ∃ y, t.l[k]? = some y := ⟨_, List.getElem?_eq_getElem hlt⟩
   have hym := List.mem_of_getElem? hy
   obtain ⟨g, off, hAg, hcell⟩ := HF.out k y hy
   obtain ⟨Av, cv, hyA, x0, x1, x2, x3, x4⟩ := hcell wr HRd.out.2
   subst hAg
   have hkc : k < c := by have := HLc.out; omega
   have hc := HS.out y hym _ wr hyA
   unfold nodeV at hc
   have HC := Lib.hid hc
   have HY := Lib.hid (And.intro hy hym)
   clear hc hym hyA hcell hy
   go_wp2_with fail
   go_at_call 50
   refine HC.out.mono ?_
   rintro e w5 ⟨b, rfl, hb, hb5⟩
   have HB := Lib.hid (And.intro hb hb5)
   clear hb hb5
   cases b with
   | true =>
    go_wp2
    go_roundw
    case rel =>
     refine ⟨k + 1, by omega, by simp, Lib.hid ⟨fun j z hj hz => ?_, HRd.out.2.trans (HB.out.2.mono HRd.out.2.size)⟩⟩
     by_cases hjk : j < k
     ·exact HRd.out.1 j z hjk hz
     ·obtain rfl : j = k := by omega
      rw [HY.out.1] at hz
      cases hz
      exact HB.out.1.1 (by trivial)
    case measure => simp [intOf]; omega
   | false =>
    go_wp2
    go_ret
    refine ⟨false, by first | rfl | simp, ⟨fun hf => absurd hf (by simp), fun hh => ?_⟩, HLow.out.trans (HB.out.2.mono HLow.out.size)⟩
    have ho := HOK.out.1 hh.2
    exact absurd (HB.out.1.2 ⟨(HInv.out.1 ho.2.1).2.2.2 y HY.out.2, ho.2.2 y HY.out.2⟩) (by simp)
  ·obtain rfl : k = t.l.length := by omega
   go_wp2
   go_ret
   refine ⟨true, by first | rfl | simp, ⟨fun _ => ⟨HI.out, HOK.out.2 ⟨by omega, HSd.out, fun y hy => ?_⟩⟩, fun _ => rfl⟩, HLow.out⟩
   obtain ⟨j, hj, ej⟩ := List.mem_iff_getElem.1 hy
   exact (HRd.out.1 j y hj (by rw [List.getElem?_eq_getElem hj, ej])).2
def fewE (t : Tr) : Bool := soundOne t && (t.op == 1 || (t.op == 11 && t.l.isEmpty))
def fewS (t : Tr) : Bool := soundOne t && ((t.op == 30 || t.op == 31) && t.l.all fewE)
def fewT (t : Tr) : Bool := soundOne t && (t.op == 32 && (t.l.all fewS && decide (t.l.length ≤ 1000000)))
theorem few_e {h : Int} {t : Tr} (hf : fewE t = true) (h1 : 1 ≤ h) (h2 : h ≤ 1000) : RefE h t := by
 intro v w hA
 obtain ⟨u, rfl, hrow, -⟩ := (At_iff _ _ _ _).1 hA
 obtain ⟨A, c, rfl, -, -⟩ := row_at hrow
 unfold fewE at hf
 simp only [Bool.and_eq_true, Bool.or_eq_true, beq_iff_eq, List.isEmpty_iff] at hf
 rcases hf with ⟨hs, e | ⟨e, hl⟩⟩
 ·exact rfw_1 h t A c w e hs h1 h2 hA
 ·exact rfw_11 h t A c w e hs h1 h2 hA hl
theorem few_s {h : Int} {t : Tr} (hf : fewS t = true) (h1 : 2 ≤ h) (h2 : h ≤ 1000) : RefS h t := by
 intro v w hA
 obtain ⟨u, rfl, hrow, -⟩ := (At_iff _ _ _ _).1 hA
 obtain ⟨A, c, rfl, -, -⟩ := row_at hrow
 unfold fewS at hf
 simp only [Bool.and_eq_true, Bool.or_eq_true, beq_iff_eq, List.all_eq_true] at hf
 rcases hf with ⟨hs, e | e, hl⟩
 ·exact rfw_30 h t A c w e hs (by omega) h2 hA fun y hy => few_e (hl y hy) (by omega) (by omega)
 ·exact rfw_31 h t A c w e hs (by omega) h2 hA fun y hy => few_e (hl y hy) (by omega) (by omega)
theorem few_b {t : Tr} (hf : fewT t = true) : RefS 100 t := by
 intro v w hA
 obtain ⟨u, rfl, hrow, -⟩ := (At_iff _ _ _ _).1 hA
 obtain ⟨A, c, rfl, -, -⟩ := row_at hrow
 unfold fewT at hf
 simp only [Bool.and_eq_true, beq_iff_eq, List.all_eq_true, decide_eq_true_eq] at hf
 exact rfw_32 100 t A c w hf.2.1 hf.1 (by omega) (by omega) hA (fun y hy => few_s (hf.2.2.1 y hy) (by omega) (by omega)) hf.2.2.2
theorem rright_few (t : Tr) (hw : fewT t = true) (v : Value) (w : World) (ht : At w w.heap.size t v) :
    Calls Tryz.prog 17 #[v] w fun e w' => e = .returned (.bool (rightP t)) ∧ Below w.heap.size w w' := by
  obtain ⟨u, rfl, -, -⟩ := (At_iff _ _ _ _).1 ht
  have hW : Below w.heap.size w (w.alloc (.cells #[.int .i64 t.op, .string (bs t.s), .int .i64 t.n, u, .int .i64 t.line] 24)) := (Below.refl _ w).alloc (Nat.le_refl _) _
  have h1 := block_any 100 t (few_b hw) _ (w.alloc (.cells #[.int .i64 t.op, .string (bs t.s), .int .i64 t.n, u, .int .i64 t.line] 24)) (At.keep t ht hW.size fun p hp => hW.cell hp)
  unfold nodeV at h1 ⊢
  have HB := Lib.hid h1
  have HW := Lib.hid hW
  have HO := Lib.hid (right_ok t)
  clear ht hW h1
  go_enter Tryz.func17, Tryz.ntmps17
  go_wp2_with fail
  go_at_call 33
  first
  | (refine HB.out.mono ?_
     rintro e w5 ⟨b, rfl, hb, hb5⟩
     have HC := Lib.hid (And.intro hb (HW.out.trans (hb5.mono HW.out.size)))
     clear hb hb5
     go_wp2
     go_ret
     have h9 := Bool.eq_iff_iff.2 (HC.out.1.trans HO.out.symm)
     subst h9
     exact ⟨by simp, HC.out.2⟩)
end
end Go.Proofs.YtikbfoichhkeaaaGreat
