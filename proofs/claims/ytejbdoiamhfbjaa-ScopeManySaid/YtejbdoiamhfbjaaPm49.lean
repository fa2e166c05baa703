/- The document's Right, for trees of few operations. -/
import Derived.Test.YtejbdoiamhfbjaaProg
import Derived.Deep.RegionHeld3
import Derived.Test.YtejbdoiamhfbjaaPm04
import Derived.Test.YtejbdoiamhfbjaaPm48
set_option linter.unusedSimpArgs false
set_option linter.unusedVariables false
set_option maxRecDepth 100000
set_option maxHeartbeats 4000000
namespace Go.Proofs.Ytejbdoiamhfbjaa
section
open Go.RowKit Go.Proofs
def RefWalk (op : Int) : Prop := ∀ (h : Int) (t : Tr) (A : Option Addr) (c : Nat) (w : World), t.op = op → 1 ≤ h → h ≤ 1000 → At w w.heap.size t (nodeV t (.slice A t.l.length c)) → (∀ y ∈ t.l, RefE (h - 1) y) → t.l.length ≤ 1000000 →
 Calls Try.prog 65 #[nodeV t (.slice A t.l.length c), .int .i64 h] w (Says (isE t ∧ OK h t) w)
structure RIn (h : Int) (t : Tr) (A : Option Addr) (c : Nat) (w W1 : World) : Prop where
 world : w.alloc (.cells #[.int .i64 t.op, .string (bs t.s), .int .i64 t.n, .slice A t.l.length c, .int .i64 t.line] 24) = W1
 low : Below w.heap.size w W1
 box : W1.heap[w.heap.size]? = some (.cells #[.int .i64 t.op, .string (bs t.s), .int .i64 t.n, .slice A t.l.length c, .int .i64 t.line] 24 (0, 0))
 row : Row W1 W1.heap.size t.l (.slice A t.l.length c)
 name : ∀ w', Calls Try.prog 63 #[.string (bs t.s)] w' fun e w'' => e = .returned (.bool (isNameL t.s)) ∧ w' = w''
 word : ∀ w', Calls Try.prog 78 #[.string (bs t.s)] w' fun e w'' => e = .returned (.bool (isWordL t.s)) ∧ w' = w''
theorem r_in (h : Int) (t : Tr) (A : Option Addr) (c : Nat) (w : World) (hA : At w w.heap.size t (nodeV t (.slice A t.l.length c))) :
  RIn h t A c w (w.alloc (.cells #[.int .i64 t.op, .string (bs t.s), .int .i64 t.n, .slice A t.l.length c, .int .i64 t.line] 24)) := by
 obtain ⟨u, e, hr, hf⟩ := (At_iff _ _ _ _).1 hA
 have hb : Below w.heap.size w (w.alloc (.cells #[.int .i64 t.op, .string (bs t.s), .int .i64 t.n, .slice A t.l.length c, .int .i64 t.line] 24)) := (Below.refl _ w).alloc (Nat.le_refl _) _
 unfold nodeV at e
 simp only [Value.agg.injEq, Array.mk.injEq, List.cons.injEq, and_true, true_and] at e
 subst e
 refine { world := rfl, low := hb, box := heap_alloc_new w _, row := hr.keep hb.size fun p hp => hb.cell hp, name := fun w' => ?_, word := fun w' => ?_ }
 ·have := risName_any (bs t.s) w' (by rw [bs_size]; exact hf.1)
  rw [bs_list] at this
  exact this
 ·have := risWord_any (bs t.s) w'
  rw [bs_list] at this
  exact this
theorem RIn.cells {h : Int} {t : Tr} {A : Option Addr} {c : Nat} {w W1 : World} (r : RIn h t A c w W1) : BoxAt W1 w.heap.size t (.slice A t.l.length c) := box_in (Below.refl _ _) r.box
def RefWalkS (op : Int) : Prop := ∀ (h : Int) (t : Tr) (A : Option Addr) (c : Nat) (w : World), t.op = op → 1 ≤ h → h ≤ 1000 → At w w.heap.size t (nodeV t (.slice A t.l.length c)) → (∀ y ∈ t.l, RefE (h - 1) y) → (∀ y ∈ t.l, RefS (h - 1) y) → t.l.length ≤ 1000000 →
 Calls Try.prog 47 #[nodeV t (.slice A t.l.length c), .int .i64 h] w (Says (isS t ∧ OK h t) w)
theorem row_elem {W1 : World} {l : List Tr} {A : Option Addr} {c : Nat} (hr : Row W1 W1.heap.size l (.slice A l.length c)) (hl : 0 < l.length) :
  ∃ g off, A = some ⟨g, off, none⟩ ∧ l.length ≤ c ∧ ∀ w', Below W1.heap.size W1 w' → ∀ k y, l[k]? = some y → ∃ Av cv, At w' w'.heap.size y (nodeV y (.slice Av y.l.length cv)) ∧ w'.cell? ⟨g, off + k * 5, none⟩ = some (.int .i64 y.op) ∧ w'.cell? ⟨g, off + k * 5 + 1, none⟩ = some (.string (bs y.s)) ∧ w'.cell? ⟨g, off + k * 5 + 2, none⟩ = some (.int .i64 y.n) ∧
   w'.cell? ⟨g, off + k * 5 + 3, none⟩ = some (.slice Av y.l.length cv) ∧ w'.cell? ⟨g, off + k * 5 + 4, none⟩ = some (.int .i64 y.line) := by
 obtain ⟨A', c', e', ⟨hlc, -⟩, hrow⟩ := hr
 cases e'
 obtain ⟨g, off, rfl, hg, ha⟩ := hrow hl
 refine ⟨g, off, rfl, hlc, fun w' hb k y hy => ?_⟩
 obtain ⟨Av, cv, hA, x⟩ := elem_at ha hg hb hy
 exact ⟨Av, cv, At.keep y hA hb.size fun _ _ => rfl, x⟩
theorem rst_30 : RefWalkS 30 := by
 intro h t A c w e h1 h2 hA hE hS hl
 obtain ⟨W1, hr⟩ : ∃ W, RIn h t A c w W := ⟨_, r_in h t A c w hA⟩
 have hbx := hr.cells
 have hiS : isS t := by unfold isS hasB; rw [e]; rfl
 have HR := Lib.hid hr
 have HN := Lib.hid hr.name
 have HX := Lib.hid (fun w' (hb : Below W1.heap.size W1 w') => box_in hb hr.box)
 have HOp := Lib.hid e
 have HOK := Lib.hid (ok_iff h t)
 have HInv := Lib.hid (inv_30 e)
 have HI := Lib.hid hiS
 have HE := Lib.hid hE
 have HS := Lib.hid hS
 have HLn := Lib.hid hl
 have hW : w.alloc (.cells #[.int .i64 30, .string (bs t.s), .int .i64 t.n, .slice A t.l.length c, .int .i64 t.line] 24) = W1 := by rw [← e]; exact hr.world
 unfold BoxAt at hbx
 rw [e] at hbx
 obtain ⟨f0, f1, f2, f3, f4⟩ := hbx
 unfold nodeV
 rw [e]
 obtain ⟨rn, en⟩ : ∃ b, isNameL t.s = b := ⟨_, rfl⟩
 rw [en] at HN
 have HEn := Lib.hid en
 clear hA hE hS hr hiS e en
 have HAll := Lib.hid (all_any (h - 1) t.l _ W1 HR.out.row HE.out hl)
 by_cases hn : t.n = 0
 ·have d2 : (t.n != 0) = false := by rw [hn]; rfl
  have HNx := Lib.hid hn
  clear hn
  cases rn with
  | true =>
   by_cases hk : t.l.length ≤ 1
   ·have HKx := Lib.hid hk
    go_enter Try.func47, Try.ntmps47
    go_wp2_with (first | (go_at_call 63; refine (HN.out _).mono ?_; rintro e w' ⟨rfl, rfl⟩) | (go_at_call 64; refine HAll.out.mono ?_; rintro e w5 ⟨b, rfl, hb, hb5⟩; have HB := Lib.hid (And.intro hb hb5); clear hb hb5))
    go_ret
    refine ⟨b, by first | rfl | simp, ?_, HR.out.low.trans (HB.out.2.mono HR.out.low.size)⟩
    rw [HB.out.1, HOK.out, HInv.out]
    constructor
    ·intro hh
     refine ⟨HI.out, by omega, ⟨HEn.out, HNx.out, ?_⟩, fun y hy => (hh y hy).2⟩
     by_cases hz : t.l.length = 0
     ·exact .inl (List.eq_nil_of_length_eq_zero hz)
     ·obtain ⟨a, hl0⟩ := len1 (l := t.l) (by have := HKx.out; omega)
      exact .inr ⟨a, hl0, (hh a (by rw [hl0]; simp)).1⟩
    ·rintro ⟨-, -, ⟨-, -, hl0 | ⟨a, hl0, ea⟩⟩, hp⟩ y hy
     ·rw [hl0] at hy
      cases hy
     ·refine ⟨?_, hp y hy⟩
      rw [hl0] at hy
      simp only [List.mem_cons, List.not_mem_nil, or_false] at hy
      subst hy
      exact ea
   ·have hk2 : 1 < t.l.length := by omega
    have HKx := Lib.hid hk
    go_enter Try.func47, Try.ntmps47
    go_wp2_with (first | (go_at_call 63; refine (HN.out _).mono ?_; rintro e w' ⟨rfl, rfl⟩))
    go_ret
    refine ⟨false, by first | rfl | simp, ⟨fun hf => absurd hf (by simp), fun hh => ?_⟩, HR.out.low⟩
    have hi := HInv.out.1 (HOK.out.1 hh.2).2.1
    exfalso
    rcases hi.2.2 with hl0 | ⟨a, hl0, -⟩
    ·exact HKx.out (by rw [hl0]; simp)
    ·exact HKx.out (by rw [hl0]; simp)
  | false =>
   go_enter Try.func47, Try.ntmps47
   go_wp2_with (first | (go_at_call 63; refine (HN.out _).mono ?_; rintro e w' ⟨rfl, rfl⟩))
   go_ret
   refine ⟨false, by first | rfl | simp, ⟨fun hf => absurd hf (by simp), fun hh => ?_⟩, HR.out.low⟩
   have hi := HInv.out.1 (HOK.out.1 hh.2).2.1
   exact absurd (hi.1.symm.trans HEn.out) (by simp)
 ·have d2 : (t.n != 0) = true := by simpa using hn
  have HNx := Lib.hid hn
  clear hn
  go_enter Try.func47, Try.ntmps47
  go_wp2_with (first | (go_at_call 63; refine (HN.out _).mono ?_; rintro e w' ⟨rfl, rfl⟩))
  go_ret
  refine ⟨false, by first | rfl | simp, ⟨fun hf => absurd hf (by simp), fun hh => ?_⟩, HR.out.low⟩
  have hi := HInv.out.1 (HOK.out.1 hh.2).2.1
  exact absurd hi.2.1 HNx.out
theorem rst_41 : RefWalkS 41 := by
 intro h t A c w e h1 h2 hA hE hS hl
 obtain ⟨W1, hr⟩ : ∃ W, RIn h t A c w W := ⟨_, r_in h t A c w hA⟩
 have hbx := hr.cells
 have hiS : isS t := by unfold isS hasB; rw [e]; rfl
 have HR := Lib.hid hr
 have HN := Lib.hid hr.name
 have HX := Lib.hid (fun w' (hb : Below W1.heap.size W1 w') => box_in hb hr.box)
 have HOp := Lib.hid e
 have HOK := Lib.hid (ok_iff h t)
 have HInv := Lib.hid (inv_41 e)
 have HI := Lib.hid hiS
 have HE := Lib.hid hE
 have HS := Lib.hid hS
 have HLn := Lib.hid hl
 have hW : w.alloc (.cells #[.int .i64 41, .string (bs t.s), .int .i64 t.n, .slice A t.l.length c, .int .i64 t.line] 24) = W1 := by rw [← e]; exact hr.world
 unfold BoxAt at hbx
 rw [e] at hbx
 obtain ⟨f0, f1, f2, f3, f4⟩ := hbx
 unfold nodeV
 rw [e]
 obtain ⟨rn, en⟩ : ∃ b, isNameL t.s = b := ⟨_, rfl⟩
 rw [en] at HN
 have HEn := Lib.hid en
 clear hA hE hS hr hiS e en
 have HFn := Lib.hid (fun_any (h - 1) t.l _ W1 HR.out.row HE.out HS.out hl)
 by_cases hn : t.n = 0
 ·have d2 : (t.n != 0) = false := by rw [hn]; rfl
  have HNx := Lib.hid hn
  clear hn
  cases rn with
  | true =>
   go_enter Try.func47, Try.ntmps47
   go_wp2_with (first | (go_at_call 63; refine (HN.out _).mono ?_; rintro e w' ⟨rfl, rfl⟩) | (go_at_call 66; refine HFn.out.mono ?_; rintro e w5 ⟨b, rfl, hb, hb5⟩; have HB := Lib.hid (And.intro hb hb5); clear hb hb5))
   go_ret
   refine ⟨b, by first | rfl | simp, ?_, HR.out.low.trans (HB.out.2.mono HR.out.low.size)⟩
   rw [HB.out.1, HOK.out, HInv.out]
   constructor
   ·rintro ⟨hle, xs, b', hl0, hx, hb1, hb2⟩
    refine ⟨HI.out, by omega, ⟨HEn.out, HNx.out, hle, xs, b', hl0, fun x hx' => (hx x hx').1, hb1⟩, fun y hy => ?_⟩
    rw [hl0, List.mem_append, List.mem_singleton] at hy
    rcases hy with hy | rfl
    ·exact (hx y hy).2
    ·exact hb2
   ·rintro ⟨-, -, ⟨-, -, hle, xs, b', hl0, hx, hb1⟩, hp⟩
    exact ⟨hle, xs, b', hl0, fun x hx' => ⟨hx x hx', hp x (by rw [hl0]; simp [hx'])⟩, hb1, hp b' (by rw [hl0]; simp)⟩
  | false =>
   go_enter Try.func47, Try.ntmps47
   go_wp2_with (first | (go_at_call 63; refine (HN.out _).mono ?_; rintro e w' ⟨rfl, rfl⟩))
   go_ret
   refine ⟨false, by first | rfl | simp, ⟨fun hf => absurd hf (by simp), fun hh => ?_⟩, HR.out.low⟩
   have hi := HInv.out.1 (HOK.out.1 hh.2).2.1
   exact absurd (hi.1.symm.trans HEn.out) (by simp)
 ·have d2 : (t.n != 0) = true := by simpa using hn
  have HNx := Lib.hid hn
  clear hn
  go_enter Try.func47, Try.ntmps47
  go_wp2_with (first | (go_at_call 63; refine (HN.out _).mono ?_; rintro e w' ⟨rfl, rfl⟩))
  go_ret
  refine ⟨false, by first | rfl | simp, ⟨fun hf => absurd hf (by simp), fun hh => ?_⟩, HR.out.low⟩
  have hi := HInv.out.1 (HOK.out.1 hh.2).2.1
  exact absurd hi.2.1 HNx.out
theorem rst_31 : RefWalkS 31 := by
 intro h t A c w e h1 h2 hA hE hS hl
 obtain ⟨W1, hr⟩ : ∃ W, RIn h t A c w W := ⟨_, r_in h t A c w hA⟩
 have hbx := hr.cells
 have hiS : isS t := by unfold isS hasB; rw [e]; rfl
 have HR := Lib.hid hr
 have HN := Lib.hid hr.name
 have HX := Lib.hid (fun w' (hb : Below W1.heap.size W1 w') => box_in hb hr.box)
 have HOp := Lib.hid e
 have HOK := Lib.hid (ok_iff h t)
 have HInv := Lib.hid (inv_31 e)
 have HI := Lib.hid hiS
 have HE := Lib.hid hE
 have HS := Lib.hid hS
 have HLn := Lib.hid hl
 have hW : w.alloc (.cells #[.int .i64 31, .string (bs t.s), .int .i64 t.n, .slice A t.l.length c, .int .i64 t.line] 24) = W1 := by rw [← e]; exact hr.world
 unfold BoxAt at hbx
 rw [e] at hbx
 obtain ⟨f0, f1, f2, f3, f4⟩ := hbx
 unfold nodeV
 rw [e]
 obtain ⟨rn, en⟩ : ∃ b, isNameL t.s = b := ⟨_, rfl⟩
 rw [en] at HN
 have HEn := Lib.hid en
 clear hA hE hS hr hiS e en
 have HAll := Lib.hid (all_any (h - 1) t.l _ W1 HR.out.row HE.out hl)
 by_cases hn : t.n = 0
 ·have d2 : (t.n != 0) = false := by rw [hn]; rfl
  have HNx := Lib.hid hn
  clear hn
  by_cases hs : t.s = []
  ·have d1 : ((bs t.s).toList == []) = true := by rw [hs, Lib.toList_data, bs_list]; rfl
   have HSx := Lib.hid hs
   clear hs
   by_cases hk : t.l.length = 1
   ·have d3 : ((t.l.length : Int) == 1) = true := by rw [hk]; rfl
    have HKx := Lib.hid hk
    clear hk
    go_enter Try.func47, Try.ntmps47
    go_wp2_with (first | (go_at_call 63; refine (HN.out _).mono ?_; rintro e w' ⟨rfl, rfl⟩) | (go_at_call 64; refine HAll.out.mono ?_; rintro e w5 ⟨b, rfl, hb, hb5⟩; have HB := Lib.hid (And.intro hb hb5); clear hb hb5))
    go_ret
    refine ⟨b, by first | rfl | simp, ?_, HR.out.low.trans (HB.out.2.mono HR.out.low.size)⟩
    rw [HB.out.1, HOK.out, HInv.out]
    constructor
    ·intro hh
     obtain ⟨a, hl0⟩ := len1 HKx.out
     exact ⟨HI.out, by omega, ⟨HSx.out, HNx.out, a, hl0, (hh a (by rw [hl0]; simp)).1⟩, fun y hy => (hh y hy).2⟩
    ·rintro ⟨-, -, ⟨-, -, a, hl0, ea⟩, hp⟩ y hy
     refine ⟨?_, hp y hy⟩
     rw [hl0] at hy
     simp only [List.mem_cons, List.not_mem_nil, or_false] at hy
     subst hy
     exact ea
   ·have d3 : ((t.l.length : Int) == 1) = false := by simp; omega
    have HKx := Lib.hid hk
    clear hk
    go_enter Try.func47, Try.ntmps47
    go_wp2_with (first | (go_at_call 63; refine (HN.out _).mono ?_; rintro e w' ⟨rfl, rfl⟩))
    go_ret
    refine ⟨false, by first | rfl | simp, ⟨fun hf => absurd hf (by simp), fun hh => ?_⟩, HR.out.low⟩
    have hi := HInv.out.1 (HOK.out.1 hh.2).2.1
    obtain ⟨-, -, a, hl0, -⟩ := hi
    exact absurd (by rw [hl0]; rfl) HKx.out
  ·have d1 : ((bs t.s).toList == []) = false := by rw [Lib.toList_data, bs_list, beq_eq_false_iff_ne]; exact hs
   have HSx := Lib.hid hs
   clear hs
   go_enter Try.func47, Try.ntmps47
   go_wp2_with (first | (go_at_call 63; refine (HN.out _).mono ?_; rintro e w' ⟨rfl, rfl⟩))
   go_ret
   refine ⟨false, by first | rfl | simp, ⟨fun hf => absurd hf (by simp), fun hh => ?_⟩, HR.out.low⟩
   have hi := HInv.out.1 (HOK.out.1 hh.2).2.1
   exact absurd hi.1 HSx.out
 ·have d2 : (t.n != 0) = true := by simpa using hn
  have HNx := Lib.hid hn
  clear hn
  go_enter Try.func47, Try.ntmps47
  go_wp2_with (first | (go_at_call 63; refine (HN.out _).mono ?_; rintro e w' ⟨rfl, rfl⟩))
  go_ret
  refine ⟨false, by first | rfl | simp, ⟨fun hf => absurd hf (by simp), fun hh => ?_⟩, HR.out.low⟩
  have hi := HInv.out.1 (HOK.out.1 hh.2).2.1
  exact absurd hi.2.1 HNx.out
theorem rst_36 : RefWalkS 36 := by
 intro h t A c w e h1 h2 hA hE hS hl
 obtain ⟨W1, hr⟩ : ∃ W, RIn h t A c w W := ⟨_, r_in h t A c w hA⟩
 have hbx := hr.cells
 have hiS : isS t := by unfold isS hasB; rw [e]; rfl
 have HR := Lib.hid hr
 have HN := Lib.hid hr.name
 have HX := Lib.hid (fun w' (hb : Below W1.heap.size W1 w') => box_in hb hr.box)
 have HOp := Lib.hid e
 have HOK := Lib.hid (ok_iff h t)
 have HInv := Lib.hid (inv_36 e)
 have HI := Lib.hid hiS
 have HE := Lib.hid hE
 have HS := Lib.hid hS
 have HLn := Lib.hid hl
 have hW : w.alloc (.cells #[.int .i64 36, .string (bs t.s), .int .i64 t.n, .slice A t.l.length c, .int .i64 t.line] 24) = W1 := by rw [← e]; exact hr.world
 unfold BoxAt at hbx
 rw [e] at hbx
 obtain ⟨f0, f1, f2, f3, f4⟩ := hbx
 unfold nodeV
 rw [e]
 obtain ⟨rn, en⟩ : ∃ b, isNameL t.s = b := ⟨_, rfl⟩
 rw [en] at HN
 have HEn := Lib.hid en
 clear hA hE hS hr hiS e en
 have HAll := Lib.hid (all_any (h - 1) t.l _ W1 HR.out.row HE.out hl)
 by_cases hn : t.n = 0
 ·have d2 : (t.n != 0) = false := by rw [hn]; rfl
  have HNx := Lib.hid hn
  clear hn
  by_cases hs : t.s = []
  ·have d1 : ((bs t.s).toList == []) = true := by rw [hs, Lib.toList_data, bs_list]; rfl
   have HSx := Lib.hid hs
   clear hs
   by_cases hk : t.l.length ≤ 1
   ·have HKx := Lib.hid hk
    go_enter Try.func47, Try.ntmps47
    go_wp2_with (first | (go_at_call 63; refine (HN.out _).mono ?_; rintro e w' ⟨rfl, rfl⟩) | (go_at_call 64; refine HAll.out.mono ?_; rintro e w5 ⟨b, rfl, hb, hb5⟩; have HB := Lib.hid (And.intro hb hb5); clear hb hb5))
    go_ret
    refine ⟨b, by first | rfl | simp, ?_, HR.out.low.trans (HB.out.2.mono HR.out.low.size)⟩
    rw [HB.out.1, HOK.out, HInv.out]
    constructor
    ·intro hh
     refine ⟨HI.out, by omega, ⟨HSx.out, HNx.out, ?_⟩, fun y hy => (hh y hy).2⟩
     by_cases hz : t.l.length = 0
     ·exact .inl (List.eq_nil_of_length_eq_zero hz)
     ·obtain ⟨a, hl0⟩ := len1 (l := t.l) (by have := HKx.out; omega)
      exact .inr ⟨a, hl0, (hh a (by rw [hl0]; simp)).1⟩
    ·rintro ⟨-, -, ⟨-, -, hl0 | ⟨a, hl0, ea⟩⟩, hp⟩ y hy
     ·rw [hl0] at hy
      cases hy
     ·refine ⟨?_, hp y hy⟩
      rw [hl0] at hy
      simp only [List.mem_cons, List.not_mem_nil, or_false] at hy
      subst hy
      exact ea
   ·have hk2 : 1 < t.l.length := by omega
    have HKx := Lib.hid hk
    go_enter Try.func47, Try.ntmps47
    go_wp2_with (first | (go_at_call 63; refine (HN.out _).mono ?_; rintro e w' ⟨rfl, rfl⟩))
    go_ret
    refine ⟨false, by first | rfl | simp, ⟨fun hf => absurd hf (by simp), fun hh => ?_⟩, HR.out.low⟩
    have hi := HInv.out.1 (HOK.out.1 hh.2).2.1
    exfalso
    rcases hi.2.2 with hl0 | ⟨a, hl0, -⟩
    ·exact HKx.out (by rw [hl0]; simp)
    ·exact HKx.out (by rw [hl0]; simp)
  ·have d1 : ((bs t.s).toList == []) = false := by rw [Lib.toList_data, bs_list, beq_eq_false_iff_ne]; exact hs
   have HSx := Lib.hid hs
   clear hs
   go_enter Try.func47, Try.ntmps47
   go_wp2_with (first | (go_at_call 63; refine (HN.out _).mono ?_; rintro e w' ⟨rfl, rfl⟩))
   go_ret
   refine ⟨false, by first | rfl | simp, ⟨fun hf => absurd hf (by simp), fun hh => ?_⟩, HR.out.low⟩
   have hi := HInv.out.1 (HOK.out.1 hh.2).2.1
   exact absurd hi.1 HSx.out
 ·have d2 : (t.n != 0) = true := by simpa using hn
  have HNx := Lib.hid hn
  clear hn
  go_enter Try.func47, Try.ntmps47
  go_wp2_with (first | (go_at_call 63; refine (HN.out _).mono ?_; rintro e w' ⟨rfl, rfl⟩))
  go_ret
  refine ⟨false, by first | rfl | simp, ⟨fun hf => absurd hf (by simp), fun hh => ?_⟩, HR.out.low⟩
  have hi := HInv.out.1 (HOK.out.1 hh.2).2.1
  exact absurd hi.2.1 HNx.out
theorem rst_32 : RefWalkS 32 := by
 intro h t A c w e h1 h2 hA hE hS hl
 obtain ⟨W1, hr⟩ : ∃ W, RIn h t A c w W := ⟨_, r_in h t A c w hA⟩
 have hbx := hr.cells
 have hiS : isS t := by unfold isS hasB; rw [e]; rfl
 have HR := Lib.hid hr
 have HN := Lib.hid hr.name
 have HX := Lib.hid (fun w' (hb : Below W1.heap.size W1 w') => box_in hb hr.box)
 have HOp := Lib.hid e
 have HOK := Lib.hid (ok_iff h t)
 have HInv := Lib.hid (inv_32 e)
 have HI := Lib.hid hiS
 have HE := Lib.hid hE
 have HS := Lib.hid hS
 have HLn := Lib.hid hl
 have hW : w.alloc (.cells #[.int .i64 32, .string (bs t.s), .int .i64 t.n, .slice A t.l.length c, .int .i64 t.line] 24) = W1 := by rw [← e]; exact hr.world
 unfold BoxAt at hbx
 rw [e] at hbx
 obtain ⟨f0, f1, f2, f3, f4⟩ := hbx
 unfold nodeV
 rw [e]
 obtain ⟨rn, en⟩ : ∃ b, isNameL t.s = b := ⟨_, rfl⟩
 rw [en] at HN
 have HEn := Lib.hid en
 clear hA hE hS hr hiS e en
 by_cases hn : t.n = 0
 ·have d2 : (t.n != 0) = false := by rw [hn]; rfl
  have HNx := Lib.hid hn
  clear hn
  by_cases hs : t.s = []
  ·have d1 : ((bs t.s).toList == []) = true := by rw [hs, Lib.toList_data, bs_list]; rfl
   have HSx := Lib.hid hs
   clear hs
   have hem : ∀ (k : Nat) (y : Tr), t.l[k]? = some y → ∃ g off, A = some ⟨g, off, none⟩ ∧ ∀ w', Below W1.heap.size W1 w' → ∃ Av cv, At w' w'.heap.size y (nodeV y (.slice Av y.l.length cv)) ∧ w'.cell? ⟨g, off + k * 5, none⟩ = some (.int .i64 y.op) ∧ w'.cell? ⟨g, off + k * 5 + 1, none⟩ = some (.string (bs y.s)) ∧ w'.cell? ⟨g, off + k * 5 + 2, none⟩ = some (.int .i64 y.n) ∧
     w'.cell? ⟨g, off + k * 5 + 3, none⟩ = some (.slice Av y.l.length cv) ∧ w'.cell? ⟨g, off + k * 5 + 4, none⟩ = some (.int .i64 y.line) := fun k y hy => by
    obtain ⟨g, off, e1, -, h3⟩ := row_elem HR.out.row (by have := (List.getElem?_eq_some_iff.1 hy).1; omega)
    exact ⟨g, off, e1, fun w' hb => h3 w' hb k y hy⟩
   have HF := Lib.hid hem
   have hlc : t.l.length ≤ c := by obtain ⟨A', c', e', ⟨hlc, -⟩, -⟩ := HR.out.row; cases e'; exact hlc
   have HLc := Lib.hid hlc
   clear hem hlc
   go_enter Try.func47, Try.ntmps47
   go_wp2_with (first | (go_at_call 63; refine (HN.out _).mono ?_; rintro e w' ⟨rfl, rfl⟩))
   go_loopw [8] (fun i wr => ∃ k : Nat, k ≤ t.l.length ∧ i = .int .i64 k ∧ RowKit.Hid ((∀ (j : Nat) (y : Tr), j < k → t.l[j]? = some y → isS y ∧ OK (h - 1) y) ∧ Below W1.heap.size W1 wr)) (fun i _ => t.l.length - (intOf i).toNat)
   case atStart => exact ⟨0, Nat.zero_le _, rfl, Lib.hid ⟨fun j y hj => by omega, Below.refl _ _⟩⟩
   case round =>
    obtain ⟨k, hk, rfl, HRd⟩ := hrel
    clear f0 f1 f2 f3 f4
    obtain ⟨f0, f1, f2, f3, f4⟩ := HX.out wr HRd.out.2
    have hlow : Below w.heap.size w wr := HR.out.low.trans (HRd.out.2.mono HR.out.low.size)
    have HLow := Lib.hid hlow
    clear hlow
    by_cases hlt : k < t.l.length
    ·obtain ⟨y, hy⟩ : ∃ y, t.l[k]? = some y := ⟨_, List.getElem?_eq_getElem hlt⟩
     have hym := List.mem_of_getElem? hy
     obtain ⟨g, off, hAg, hcell⟩ := HF.out k y hy
     obtain ⟨Av, cv, hyA, x0, x1, x2, x3, x4⟩ := hcell wr HRd.out.2
     subst hAg
     have hkc : k < c := by have := HLc.out; omega
     have hc := HS.out y hym _ wr hyA
     unfold nodeV at hc
     have HC := Lib.hid hc
     have HY := Lib.hid (And.intro hy hym)
     clear hc hym hyA hcell hy
     go_wp2_with fail
     go_at_call 47
     refine HC.out.mono ?_
     rintro e w5 ⟨b, rfl, hb, hb5⟩
     have HB := Lib.hid (And.intro hb hb5)
     clear hb hb5
     cases b with
     | true =>
      go_wp2
      go_roundw
      case rel =>
       refine ⟨k + 1, by omega, by simp, Lib.hid ⟨fun j z hj hz => ?_, HRd.out.2.trans (HB.out.2.mono HRd.out.2.size)⟩⟩
       by_cases hjk : j < k
       ·exact HRd.out.1 j z hjk hz
       ·obtain rfl : j = k := by omega
        rw [HY.out.1] at hz
        cases hz
        exact HB.out.1.1 (by trivial)
      case measure => simp [intOf]; omega
     | false =>
      go_wp2
      go_ret
      refine ⟨false, by first | rfl | simp, ⟨fun hf => absurd hf (by simp), fun hh => ?_⟩, HLow.out.trans (HB.out.2.mono HLow.out.size)⟩
      have ho := HOK.out.1 hh.2
      exact absurd (HB.out.1.2 ⟨(HInv.out.1 ho.2.1).2.2.2 y HY.out.2, ho.2.2 y HY.out.2⟩) (by simp)
    ·obtain rfl : k = t.l.length := by omega
     go_wp2
     go_ret
     refine ⟨true, by first | rfl | simp, ⟨fun _ => ⟨HI.out, HOK.out.2 ⟨by omega, HInv.out.2 ⟨HSx.out, HNx.out, by have := HLn.out; omega, fun y hy => ?_⟩, fun y hy => ?_⟩⟩, fun _ => rfl⟩, HLow.out⟩
     ·obtain ⟨j, hj, ej⟩ := List.mem_iff_getElem.1 hy
      exact (HRd.out.1 j y hj (by rw [List.getElem?_eq_getElem hj, ej])).1
     ·obtain ⟨j, hj, ej⟩ := List.mem_iff_getElem.1 hy
      exact (HRd.out.1 j y hj (by rw [List.getElem?_eq_getElem hj, ej])).2
  ·have d1 : ((bs t.s).toList == []) = false := by rw [Lib.toList_data, bs_list, beq_eq_false_iff_ne]; exact hs
   have HSx := Lib.hid hs
   clear hs
   have hem : ∀ (k : Nat) (y : Tr), t.l[k]? = some y → ∃ g off, A = some ⟨g, off, none⟩ ∧ ∀ w', Below W1.heap.size W1 w' → ∃ Av cv, At w' w'.heap.size y (nodeV y (.slice Av y.l.length cv)) ∧ w'.cell? ⟨g, off + k * 5, none⟩ = some (.int .i64 y.op) ∧ w'.cell? ⟨g, off + k * 5 + 1, none⟩ = some (.string (bs y.s)) ∧ w'.cell? ⟨g, off + k * 5 + 2, none⟩ = some (.int .i64 y.n) ∧
     w'.cell? ⟨g, off + k * 5 + 3, none⟩ = some (.slice Av y.l.length cv) ∧ w'.cell? ⟨g, off + k * 5 + 4, none⟩ = some (.int .i64 y.line) := fun k y hy => by
    obtain ⟨g, off, e1, -, h3⟩ := row_elem HR.out.row (by have := (List.getElem?_eq_some_iff.1 hy).1; omega)
    exact ⟨g, off, e1, fun w' hb => h3 w' hb k y hy⟩
   have HF := Lib.hid hem
   have hlc : t.l.length ≤ c := by obtain ⟨A', c', e', ⟨hlc, -⟩, -⟩ := HR.out.row; cases e'; exact hlc
   have HLc := Lib.hid hlc
   clear hem hlc
   go_enter Try.func47, Try.ntmps47
   go_wp2_with (first | (go_at_call 63; refine (HN.out _).mono ?_; rintro e w' ⟨rfl, rfl⟩))
   go_loopw [8] (fun i wr => ∃ k : Nat, k ≤ t.l.length ∧ i = .int .i64 k ∧ RowKit.Hid ((∀ (j : Nat) (y : Tr), j < k → t.l[j]? = some y → isS y ∧ OK (h - 1) y) ∧ Below W1.heap.size W1 wr)) (fun i _ => t.l.length - (intOf i).toNat)
   case atStart => exact ⟨0, Nat.zero_le _, rfl, Lib.hid ⟨fun j y hj => by omega, Below.refl _ _⟩⟩
   case round =>
    obtain ⟨k, hk, rfl, HRd⟩ := hrel
    clear f0 f1 f2 f3 f4
    obtain ⟨f0, f1, f2, f3, f4⟩ := HX.out wr HRd.out.2
    have hlow : Below w.heap.size w wr := HR.out.low.trans (HRd.out.2.mono HR.out.low.size)
    have HLow := Lib.hid hlow
    clear hlow
    by_cases hlt : k < t.l.length
    ·obtain ⟨y, hy⟩ : ∃ y, t.l[k]? = some y := ⟨_, List.getElem?_eq_getElem hlt⟩
     have hym := List.mem_of_getElem? hy
     obtain ⟨g, off, hAg, hcell⟩ := HF.out k y hy
     obtain ⟨Av, cv, hyA, x0, x1, x2, x3, x4⟩ := hcell wr HRd.out.2
     subst hAg
     have hkc : k < c := by have := HLc.out; omega
     have hc := HS.out y hym _ wr hyA
     unfold nodeV at hc
     have HC := Lib.hid hc
     have HY := Lib.hid (And.intro hy hym)
     clear hc hym hyA hcell hy
     go_wp2_with fail
     go_at_call 47
     refine HC.out.mono ?_
     rintro e w5 ⟨b, rfl, hb, hb5⟩
     have HB := Lib.hid (And.intro hb hb5)
     clear hb hb5
     cases b with
     | true =>
      go_wp2
      go_roundw
      case rel =>
       refine ⟨k + 1, by omega, by simp, Lib.hid ⟨fun j z hj hz => ?_, HRd.out.2.trans (HB.out.2.mono HRd.out.2.size)⟩⟩
       by_cases hjk : j < k
       ·exact HRd.out.1 j z hjk hz
       ·obtain rfl : j = k := by omega
        rw [HY.out.1] at hz
        cases hz
        exact HB.out.1.1 (by trivial)
      case measure => simp [intOf]; omega
     | false =>
      go_wp2
      go_ret
      refine ⟨false, by first | rfl | simp, ⟨fun hf => absurd hf (by simp), fun hh => ?_⟩, HLow.out.trans (HB.out.2.mono HLow.out.size)⟩
      have ho := HOK.out.1 hh.2
      exact absurd (HB.out.1.2 ⟨(HInv.out.1 ho.2.1).2.2.2 y HY.out.2, ho.2.2 y HY.out.2⟩) (by simp)
    ·obtain rfl : k = t.l.length := by omega
     go_wp2
     go_ret
     refine ⟨false, by first | rfl | simp, ⟨fun hf => absurd hf (by simp), fun hh => ?_⟩, HLow.out⟩
     exact absurd (HInv.out.1 (HOK.out.1 hh.2).2.1).1 HSx.out
 ·have d2 : (t.n != 0) = true := by simpa using hn
  have HNx := Lib.hid hn
  clear hn
  go_enter Try.func47, Try.ntmps47
  go_wp2_with (first | (go_at_call 63; refine (HN.out _).mono ?_; rintro e w' ⟨rfl, rfl⟩))
  go_ret
  refine ⟨false, by first | rfl | simp, ⟨fun hf => absurd hf (by simp), fun hh => ?_⟩, HR.out.low⟩
  have hi := HInv.out.1 (HOK.out.1 hh.2).2.1
  exact absurd hi.2.1 HNx.out
theorem rst_low (h : Int) (t : Tr) (v : Value) (w : World) (hA : At w w.heap.size t v) (h1 : h < 1) : Calls Try.prog 47 #[v, .int .i64 h] w (Says (isS t ∧ OK h t) w) := by
 obtain ⟨u, rfl, -, -⟩ := (At_iff _ _ _ _).1 hA
 have HOK := Lib.hid (ok_iff h t)
 clear hA
 unfold nodeV
 go_enter Try.func47, Try.ntmps47
 go_wp2
 go_ret
 exact ⟨false, by first | rfl | simp, ⟨fun hf => absurd hf (by simp), fun hh => by have := (HOK.out.1 hh.2).1; omega⟩, (Below.refl _ w).alloc (Nat.le_refl _) _⟩
theorem rex_low (h : Int) (t : Tr) (v : Value) (w : World) (hA : At w w.heap.size t v) (h1 : h < 1) : Calls Try.prog 65 #[v, .int .i64 h] w (Says (isE t ∧ OK h t) w) := by
 obtain ⟨u, rfl, -, -⟩ := (At_iff _ _ _ _).1 hA
 have HOK := Lib.hid (ok_iff h t)
 clear hA
 unfold nodeV
 go_enter Try.func65, Try.ntmps65
 go_wp2
 go_ret
 exact ⟨false, by first | rfl | simp, ⟨fun hf => absurd hf (by simp), fun hh => by have := (HOK.out.1 hh.2).1; omega⟩, (Below.refl _ w).alloc (Nat.le_refl _) _⟩
theorem rex_none (h : Int) (t : Tr) (A : Option Addr) (c : Nat) (w : World) (h1 : 1 ≤ h) (h2 : h ≤ 1000) (hA : At w w.heap.size t (nodeV t (.slice A t.l.length c))) (hno : ¬ isE t) :
  Calls Try.prog 65 #[nodeV t (.slice A t.l.length c), .int .i64 h] w (Says (isE t ∧ OK h t) w) := by
 obtain ⟨W1, hr⟩ : ∃ W, RIn h t A c w W := ⟨_, r_in h t A c w hA⟩
 have hbx := hr.cells
 have HR := Lib.hid hr
 have HN := Lib.hid hr.name
 have HWd := Lib.hid hr.word
 have HNo := Lib.hid hno
 have hW := hr.world
 unfold BoxAt at hbx
 obtain ⟨f0, f1, f2, f3, f4⟩ := hbx
 unfold nodeV
 obtain ⟨rn, en⟩ : ∃ b, isNameL t.s = b := ⟨_, rfl⟩
 obtain ⟨rw_, ew⟩ : ∃ b, isWordL t.s = b := ⟨_, rfl⟩
 rw [en] at HN
 rw [ew] at HWd
 have o1 : (t.op == 1) = false := by rw [beq_eq_false_iff_ne]; intro h; apply hno; unfold isE hasB; rw [h]; rfl
 have o2 : (t.op == 2) = false := by rw [beq_eq_false_iff_ne]; intro h; apply hno; unfold isE hasB; rw [h]; rfl
 have o3 : (t.op == 3) = false := by rw [beq_eq_false_iff_ne]; intro h; apply hno; unfold isE hasB; rw [h]; rfl
 have o4 : (t.op == 4) = false := by rw [beq_eq_false_iff_ne]; intro h; apply hno; unfold isE hasB; rw [h]; rfl
 have o5 : (t.op == 5) = false := by rw [beq_eq_false_iff_ne]; intro h; apply hno; unfold isE hasB; rw [h]; rfl
 have o6 : (t.op == 6) = false := by rw [beq_eq_false_iff_ne]; intro h; apply hno; unfold isE hasB; rw [h]; rfl
 have o7 : (t.op == 7) = false := by rw [beq_eq_false_iff_ne]; intro h; apply hno; unfold isE hasB; rw [h]; rfl
 have o8 : (t.op == 8) = false := by rw [beq_eq_false_iff_ne]; intro h; apply hno; unfold isE hasB; rw [h]; rfl
 have o9 : (t.op == 9) = false := by rw [beq_eq_false_iff_ne]; intro h; apply hno; unfold isE hasB; rw [h]; rfl
 have o10 : (t.op == 10) = false := by rw [beq_eq_false_iff_ne]; intro h; apply hno; unfold isE hasB; rw [h]; rfl
 have o11 : (t.op == 11) = false := by rw [beq_eq_false_iff_ne]; intro h; apply hno; unfold isE hasB; rw [h]; rfl
 have o13 : (t.op == 13) = false := by rw [beq_eq_false_iff_ne]; intro h; apply hno; unfold isE hasB; rw [h]; rfl
 have o14 : (t.op == 14) = false := by rw [beq_eq_false_iff_ne]; intro h; apply hno; unfold isE hasB; rw [h]; rfl
 have o15 : (t.op == 15) = false := by rw [beq_eq_false_iff_ne]; intro h; apply hno; unfold isE hasB; rw [h]; rfl
 have o16 : (t.op == 16) = false := by rw [beq_eq_false_iff_ne]; intro h; apply hno; unfold isE hasB; rw [h]; rfl
 have o17 : (t.op == 17) = false := by rw [beq_eq_false_iff_ne]; intro h; apply hno; unfold isE hasB; rw [h]; rfl
 have o18 : (t.op == 18) = false := by rw [beq_eq_false_iff_ne]; intro h; apply hno; unfold isE hasB; rw [h]; rfl
 have o19 : (t.op == 19) = false := by rw [beq_eq_false_iff_ne]; intro h; apply hno; unfold isE hasB; rw [h]; rfl
 have o20 : (t.op == 20) = false := by rw [beq_eq_false_iff_ne]; intro h; apply hno; unfold isE hasB; rw [h]; rfl
 have o21 : (t.op == 21) = false := by rw [beq_eq_false_iff_ne]; intro h; apply hno; unfold isE hasB; rw [h]; rfl
 have o22 : (t.op == 22) = false := by rw [beq_eq_false_iff_ne]; intro h; apply hno; unfold isE hasB; rw [h]; rfl
 have o23 : (t.op == 23) = false := by rw [beq_eq_false_iff_ne]; intro h; apply hno; unfold isE hasB; rw [h]; rfl
 clear hA hr hno en ew
 by_cases hs : t.s = []
 ·have d1 : ((bs t.s).toList == []) = true := by rw [hs, Lib.toList_data, bs_list]; rfl
  have HSx := Lib.hid hs
  clear hs
  by_cases hn : t.n = 0
  ·have d2 : (t.n == 0) = true := by rw [hn]; rfl
   clear hn
   go_enter Try.func65, Try.ntmps65
   go_wp2_with (first | (go_at_call 63; refine (HN.out _).mono ?_; rintro e w' ⟨rfl, rfl⟩) | (go_at_call 78; refine (HWd.out _).mono ?_; rintro e w' ⟨rfl, rfl⟩))
   go_ret
   exact ⟨false, by first | rfl | simp, ⟨fun hf => absurd hf (by simp), fun hh => absurd hh.1 HNo.out⟩, HR.out.low⟩
  ·have d2 : (t.n == 0) = false := by simpa using hn
   clear hn
   go_enter Try.func65, Try.ntmps65
   go_wp2_with (first | (go_at_call 63; refine (HN.out _).mono ?_; rintro e w' ⟨rfl, rfl⟩) | (go_at_call 78; refine (HWd.out _).mono ?_; rintro e w' ⟨rfl, rfl⟩))
   go_ret
   exact ⟨false, by first | rfl | simp, ⟨fun hf => absurd hf (by simp), fun hh => absurd hh.1 HNo.out⟩, HR.out.low⟩
 ·have d1 : ((bs t.s).toList == []) = false := by rw [Lib.toList_data, bs_list, beq_eq_false_iff_ne]; exact hs
  have HSx := Lib.hid hs
  clear hs
  by_cases hn : t.n = 0
  ·have d2 : (t.n == 0) = true := by rw [hn]; rfl
   clear hn
   go_enter Try.func65, Try.ntmps65
   go_wp2_with (first | (go_at_call 63; refine (HN.out _).mono ?_; rintro e w' ⟨rfl, rfl⟩) | (go_at_call 78; refine (HWd.out _).mono ?_; rintro e w' ⟨rfl, rfl⟩))
   go_ret
   exact ⟨false, by first | rfl | simp, ⟨fun hf => absurd hf (by simp), fun hh => absurd hh.1 HNo.out⟩, HR.out.low⟩
  ·have d2 : (t.n == 0) = false := by simpa using hn
   clear hn
   go_enter Try.func65, Try.ntmps65
   go_wp2_with (first | (go_at_call 63; refine (HN.out _).mono ?_; rintro e w' ⟨rfl, rfl⟩) | (go_at_call 78; refine (HWd.out _).mono ?_; rintro e w' ⟨rfl, rfl⟩))
   go_ret
   exact ⟨false, by first | rfl | simp, ⟨fun hf => absurd hf (by simp), fun hh => absurd hh.1 HNo.out⟩, HR.out.low⟩
theorem rst_none (h : Int) (t : Tr) (A : Option Addr) (c : Nat) (w : World) (h1 : 1 ≤ h) (h2 : h ≤ 1000) (hA : At w w.heap.size t (nodeV t (.slice A t.l.length c))) (hno : ¬ isS t) :
  Calls Try.prog 47 #[nodeV t (.slice A t.l.length c), .int .i64 h] w (Says (isS t ∧ OK h t) w) := by
 obtain ⟨W1, hr⟩ : ∃ W, RIn h t A c w W := ⟨_, r_in h t A c w hA⟩
 have hbx := hr.cells
 have HR := Lib.hid hr
 have HN := Lib.hid hr.name
 have HWd := Lib.hid hr.word
 have HNo := Lib.hid hno
 have hW := hr.world
 unfold BoxAt at hbx
 obtain ⟨f0, f1, f2, f3, f4⟩ := hbx
 unfold nodeV
 obtain ⟨rn, en⟩ : ∃ b, isNameL t.s = b := ⟨_, rfl⟩
 obtain ⟨rw_, ew⟩ : ∃ b, isWordL t.s = b := ⟨_, rfl⟩
 rw [en] at HN
 rw [ew] at HWd
 have o30 : (t.op == 30) = false := by rw [beq_eq_false_iff_ne]; intro h; apply hno; unfold isS hasB; rw [h]; rfl
 have o31 : (t.op == 31) = false := by rw [beq_eq_false_iff_ne]; intro h; apply hno; unfold isS hasB; rw [h]; rfl
 have o32 : (t.op == 32) = false := by rw [beq_eq_false_iff_ne]; intro h; apply hno; unfold isS hasB; rw [h]; rfl
 have o33 : (t.op == 33) = false := by rw [beq_eq_false_iff_ne]; intro h; apply hno; unfold isS hasB; rw [h]; rfl
 have o34 : (t.op == 34) = false := by rw [beq_eq_false_iff_ne]; intro h; apply hno; unfold isS hasB; rw [h]; rfl
 have o35 : (t.op == 35) = false := by rw [beq_eq_false_iff_ne]; intro h; apply hno; unfold isS hasB; rw [h]; rfl
 have o36 : (t.op == 36) = false := by rw [beq_eq_false_iff_ne]; intro h; apply hno; unfold isS hasB; rw [h]; rfl
 have o37 : (t.op == 37) = false := by rw [beq_eq_false_iff_ne]; intro h; apply hno; unfold isS hasB; rw [h]; rfl
 have o38 : (t.op == 38) = false := by rw [beq_eq_false_iff_ne]; intro h; apply hno; unfold isS hasB; rw [h]; rfl
 have o39 : (t.op == 39) = false := by rw [beq_eq_false_iff_ne]; intro h; apply hno; unfold isS hasB; rw [h]; rfl
 have o40 : (t.op == 40) = false := by rw [beq_eq_false_iff_ne]; intro h; apply hno; unfold isS hasB; rw [h]; rfl
 have o41 : (t.op == 41) = false := by rw [beq_eq_false_iff_ne]; intro h; apply hno; unfold isS hasB; rw [h]; rfl
 clear hA hr hno en ew
 by_cases hn : t.n = 0
 ·have d2 : (t.n != 0) = false := by rw [hn]; rfl
  have HNx := Lib.hid hn
  clear hn
  go_enter Try.func47, Try.ntmps47
  go_wp2_with (first | (go_at_call 63; refine (HN.out _).mono ?_; rintro e w' ⟨rfl, rfl⟩) | (go_at_call 78; refine (HWd.out _).mono ?_; rintro e w' ⟨rfl, rfl⟩))
  go_ret
  exact ⟨false, by first | rfl | simp, ⟨fun hf => absurd hf (by simp), fun hh => absurd hh.1 HNo.out⟩, HR.out.low⟩
 ·have d2 : (t.n != 0) = true := by simpa using hn
  have HNx := Lib.hid hn
  clear hn
  go_enter Try.func47, Try.ntmps47
  go_wp2_with (first | (go_at_call 63; refine (HN.out _).mono ?_; rintro e w' ⟨rfl, rfl⟩) | (go_at_call 78; refine (HWd.out _).mono ?_; rintro e w' ⟨rfl, rfl⟩))
  go_ret
  exact ⟨false, by first | rfl | simp, ⟨fun hf => absurd hf (by simp), fun hh => absurd hh.1 HNo.out⟩, HR.out.low⟩
theorem rex_1 : RefWalk 1 := by
 intro h t A c w e h1 h2 hA hE hl
 obtain ⟨W1, hr⟩ : ∃ W, RIn h t A c w W := ⟨_, r_in h t A c w hA⟩
 have hall := all_any (h - 1) t.l _ W1 hr.row hE hl
 have hbx := hr.cells
 have hiE : isE t := by unfold isE hasB; rw [e]; rfl
 have HR := Lib.hid hr
 have HN := Lib.hid hr.name
 have HWd := Lib.hid hr.word
 have HAll := Lib.hid hall
 have HOK := Lib.hid (ok_iff h t)
 have HInv := Lib.hid (inv_1 e)
 have HE := Lib.hid hiE
 have hW : w.alloc (.cells #[.int .i64 1, .string (bs t.s), .int .i64 t.n, .slice A t.l.length c, .int .i64 t.line] 24) = W1 := by rw [← e]; exact hr.world
 unfold BoxAt at hbx
 rw [e] at hbx
 obtain ⟨f0, f1, f2, f3, f4⟩ := hbx
 unfold nodeV
 rw [e]
 obtain ⟨rn, en⟩ : ∃ b, isNameL t.s = b := ⟨_, rfl⟩
 obtain ⟨rw_, ew⟩ : ∃ b, isWordL t.s = b := ⟨_, rfl⟩
 rw [en] at HN
 rw [ew] at HWd
 have HEn := Lib.hid en
 have HEw := Lib.hid ew
 clear hA hE hr hall hiE e en ew
 by_cases hs : t.s = []
 ·have d1 : ((bs t.s).toList == []) = true := by rw [hs, Lib.toList_data, bs_list]; rfl
  have HSx := Lib.hid hs
  clear hs
  by_cases hn : t.n = 0
  ·have d2 : (t.n == 0) = true := by rw [hn]; rfl
   have HNx := Lib.hid hn
   clear hn
   cases rn with
   | true =>
    by_cases hk : t.l.length = 0
    ·have d3 : ((t.l.length : Int) == 0) = true := by rw [hk]; rfl
     have HKx := Lib.hid hk
     clear hk
     go_enter Try.func65, Try.ntmps65
     go_wp2_with (first | (go_at_call 63; refine (HN.out _).mono ?_; rintro e w' ⟨rfl, rfl⟩) | (go_at_call 78; refine (HWd.out _).mono ?_; rintro e w' ⟨rfl, rfl⟩))
     go_ret
     refine ⟨true, by first | rfl | simp, ⟨fun _ => ⟨HE.out, HOK.out.2 ⟨by omega, HInv.out.2 ⟨HEn.out, HNx.out, List.eq_nil_of_length_eq_zero HKx.out⟩, fun y hy => ?_⟩⟩, fun _ => rfl⟩, HR.out.low⟩
     rw [List.eq_nil_of_length_eq_zero HKx.out] at hy
     cases hy
    ·have d3 : ((t.l.length : Int) == 0) = false := by rw [beq_eq_false_iff_ne]; omega
     have HKx := Lib.hid hk
     clear hk
     go_enter Try.func65, Try.ntmps65
     go_wp2_with (first | (go_at_call 63; refine (HN.out _).mono ?_; rintro e w' ⟨rfl, rfl⟩) | (go_at_call 78; refine (HWd.out _).mono ?_; rintro e w' ⟨rfl, rfl⟩))
     go_ret
     refine ⟨false, by first | rfl | simp, ⟨fun hf => absurd hf (by simp), fun hh => ?_⟩, HR.out.low⟩
     have hi := HInv.out.1 (HOK.out.1 hh.2).2.1
     exact absurd (by rw [hi.2.2]; rfl) HKx.out
   | false =>
    go_enter Try.func65, Try.ntmps65
    go_wp2_with (first | (go_at_call 63; refine (HN.out _).mono ?_; rintro e w' ⟨rfl, rfl⟩) | (go_at_call 78; refine (HWd.out _).mono ?_; rintro e w' ⟨rfl, rfl⟩))
    go_ret
    refine ⟨false, by first | rfl | simp, ⟨fun hf => absurd hf (by simp), fun hh => ?_⟩, HR.out.low⟩
    have hi := HInv.out.1 (HOK.out.1 hh.2).2.1
    exact absurd (hi.1.symm.trans HEn.out) (by simp)
  ·have d2 : (t.n == 0) = false := by simpa using hn
   have HNx := Lib.hid hn
   clear hn
   cases rn with
   | true =>
    go_enter Try.func65, Try.ntmps65
    go_wp2_with (first | (go_at_call 63; refine (HN.out _).mono ?_; rintro e w' ⟨rfl, rfl⟩) | (go_at_call 78; refine (HWd.out _).mono ?_; rintro e w' ⟨rfl, rfl⟩))
    go_ret
    refine ⟨false, by first | rfl | simp, ⟨fun hf => absurd hf (by simp), fun hh => ?_⟩, HR.out.low⟩
    have hi := HInv.out.1 (HOK.out.1 hh.2).2.1
    exact absurd hi.2.1 HNx.out
   | false =>
    go_enter Try.func65, Try.ntmps65
    go_wp2_with (first | (go_at_call 63; refine (HN.out _).mono ?_; rintro e w' ⟨rfl, rfl⟩) | (go_at_call 78; refine (HWd.out _).mono ?_; rintro e w' ⟨rfl, rfl⟩))
    go_ret
    refine ⟨false, by first | rfl | simp, ⟨fun hf => absurd hf (by simp), fun hh => ?_⟩, HR.out.low⟩
    have hi := HInv.out.1 (HOK.out.1 hh.2).2.1
    exact absurd (hi.1.symm.trans HEn.out) (by simp)
 ·have d1 : ((bs t.s).toList == []) = false := by rw [Lib.toList_data, bs_list, beq_eq_false_iff_ne]; exact hs
  have HSx := Lib.hid hs
  clear hs
  by_cases hn : t.n = 0
  ·have d2 : (t.n == 0) = true := by rw [hn]; rfl
   have HNx := Lib.hid hn
   clear hn
   cases rn with
   | true =>
    by_cases hk : t.l.length = 0
    ·have d3 : ((t.l.length : Int) == 0) = true := by rw [hk]; rfl
     have HKx := Lib.hid hk
     clear hk
     go_enter Try.func65, Try.ntmps65
     go_wp2_with (first | (go_at_call 63; refine (HN.out _).mono ?_; rintro e w' ⟨rfl, rfl⟩) | (go_at_call 78; refine (HWd.out _).mono ?_; rintro e w' ⟨rfl, rfl⟩))
     go_ret
     refine ⟨true, by first | rfl | simp, ⟨fun _ => ⟨HE.out, HOK.out.2 ⟨by omega, HInv.out.2 ⟨HEn.out, HNx.out, List.eq_nil_of_length_eq_zero HKx.out⟩, fun y hy => ?_⟩⟩, fun _ => rfl⟩, HR.out.low⟩
     rw [List.eq_nil_of_length_eq_zero HKx.out] at hy
     cases hy
    ·have d3 : ((t.l.length : Int) == 0) = false := by rw [beq_eq_false_iff_ne]; omega
     have HKx := Lib.hid hk
     clear hk
     go_enter Try.func65, Try.ntmps65
     go_wp2_with (first | (go_at_call 63; refine (HN.out _).mono ?_; rintro e w' ⟨rfl, rfl⟩) | (go_at_call 78; refine (HWd.out _).mono ?_; rintro e w' ⟨rfl, rfl⟩))
     go_ret
     refine ⟨false, by first | rfl | simp, ⟨fun hf => absurd hf (by simp), fun hh => ?_⟩, HR.out.low⟩
     have hi := HInv.out.1 (HOK.out.1 hh.2).2.1
     exact absurd (by rw [hi.2.2]; rfl) HKx.out
   | false =>
    go_enter Try.func65, Try.ntmps65
    go_wp2_with (first | (go_at_call 63; refine (HN.out _).mono ?_; rintro e w' ⟨rfl, rfl⟩) | (go_at_call 78; refine (HWd.out _).mono ?_; rintro e w' ⟨rfl, rfl⟩))
    go_ret
    refine ⟨false, by first | rfl | simp, ⟨fun hf => absurd hf (by simp), fun hh => ?_⟩, HR.out.low⟩
    have hi := HInv.out.1 (HOK.out.1 hh.2).2.1
    exact absurd (hi.1.symm.trans HEn.out) (by simp)
  ·have d2 : (t.n == 0) = false := by simpa using hn
   have HNx := Lib.hid hn
   clear hn
   cases rn with
   | true =>
    go_enter Try.func65, Try.ntmps65
    go_wp2_with (first | (go_at_call 63; refine (HN.out _).mono ?_; rintro e w' ⟨rfl, rfl⟩) | (go_at_call 78; refine (HWd.out _).mono ?_; rintro e w' ⟨rfl, rfl⟩))
    go_ret
    refine ⟨false, by first | rfl | simp, ⟨fun hf => absurd hf (by simp), fun hh => ?_⟩, HR.out.low⟩
    have hi := HInv.out.1 (HOK.out.1 hh.2).2.1
    exact absurd hi.2.1 HNx.out
   | false =>
    go_enter Try.func65, Try.ntmps65
    go_wp2_with (first | (go_at_call 63; refine (HN.out _).mono ?_; rintro e w' ⟨rfl, rfl⟩) | (go_at_call 78; refine (HWd.out _).mono ?_; rintro e w' ⟨rfl, rfl⟩))
    go_ret
    refine ⟨false, by first | rfl | simp, ⟨fun hf => absurd hf (by simp), fun hh => ?_⟩, HR.out.low⟩
    have hi := HInv.out.1 (HOK.out.1 hh.2).2.1
    exact absurd (hi.1.symm.trans HEn.out) (by simp)
theorem rex_18 : RefWalk 18 := by
 intro h t A c w e h1 h2 hA hE hl
 obtain ⟨W1, hr⟩ : ∃ W, RIn h t A c w W := ⟨_, r_in h t A c w hA⟩
 have hall := all_any (h - 1) t.l _ W1 hr.row hE hl
 have hbx := hr.cells
 have hiE : isE t := by unfold isE hasB; rw [e]; rfl
 have HR := Lib.hid hr
 have HN := Lib.hid hr.name
 have HWd := Lib.hid hr.word
 have HAll := Lib.hid hall
 have HOK := Lib.hid (ok_iff h t)
 have HInv := Lib.hid (inv_18 e)
 have HE := Lib.hid hiE
 have hW : w.alloc (.cells #[.int .i64 18, .string (bs t.s), .int .i64 t.n, .slice A t.l.length c, .int .i64 t.line] 24) = W1 := by rw [← e]; exact hr.world
 unfold BoxAt at hbx
 rw [e] at hbx
 obtain ⟨f0, f1, f2, f3, f4⟩ := hbx
 unfold nodeV
 rw [e]
 obtain ⟨rn, en⟩ : ∃ b, isNameL t.s = b := ⟨_, rfl⟩
 obtain ⟨rw_, ew⟩ : ∃ b, isWordL t.s = b := ⟨_, rfl⟩
 rw [en] at HN
 rw [ew] at HWd
 have HEn := Lib.hid en
 have HEw := Lib.hid ew
 have HBn := Lib.hid (fun w => bin_any t.s w)
 have hA18 := fun w' (hb : Below W1.heap.size W1 w') => all_any (h - 1) t.l _ w' (hr.row.keep hb.size fun p hp => hb.cell hp) hE hl
 have HA18 := Lib.hid hA18
 have hbx18 := fun w' (hb : Below W1.heap.size W1 w') => box_in hb hr.box
 have HX18 := Lib.hid hbx18
 have HOp := Lib.hid e
 clear hA18 hbx18
 obtain ⟨rb, eb⟩ : ∃ b, signsB.contains t.s = b := ⟨_, rfl⟩
 rw [eb] at HBn
 have HEb := Lib.hid eb
 clear eb
 clear hA hE hr hall hiE e en ew
 by_cases hs : t.s = []
 ·have d1 : ((bs t.s).toList == []) = true := by rw [hs, Lib.toList_data, bs_list]; rfl
  have HSx := Lib.hid hs
  clear hs
  by_cases hn : t.n = 0
  ·have d2 : (t.n == 0) = true := by rw [hn]; rfl
   have HNx := Lib.hid hn
   clear hn
   cases rb with
   | true =>
    by_cases hk : t.l.length = 2
    ·have d3 : ((t.l.length : Int) == 2) = true := by rw [hk]; rfl
     have HKx := Lib.hid hk
     clear hk
     go_enter Try.func65, Try.ntmps65
     go_wp2_with (first | (go_at_call 63; refine (HN.out _).mono ?_; rintro e w' ⟨rfl, rfl⟩) | (go_at_call 78; refine (HWd.out _).mono ?_; rintro e w' ⟨rfl, rfl⟩))
     go_at_call 83
     refine (HBn.out _).mono ?_
     rintro e w4 ⟨rfl, hb4⟩
     have HB4 := Lib.hid hb4
     have HAll4 := Lib.hid (HA18.out w4 hb4)
     clear f0 f1 f2 f3 f4
     obtain ⟨f0, f1, f2, f3, f4⟩ := HX18.out w4 hb4
     rw [HOp.out] at f0
     clear hb4
     go_wp2_with ((go_at_call 64; refine HAll4.out.mono ?_; rintro e w5 ⟨b, rfl, hb, hb5⟩; have HB := Lib.hid (And.intro hb hb5); clear hb hb5))
     go_ret
     refine ⟨b, by first | rfl | simp, ?_, HR.out.low.trans ((HB4.out.trans (HB.out.2.mono HB4.out.size)).mono HR.out.low.size)⟩
     rw [HB.out.1, HOK.out, HInv.out]
     constructor
     ·intro hh
      obtain ⟨a, b', hl0⟩ := len2 HKx.out
      exact ⟨HE.out, by omega, ⟨HEb.out, HNx.out, a, b', hl0, (hh a (by rw [hl0]; simp)).1, (hh b' (by rw [hl0]; simp)).1⟩, fun y hy => (hh y hy).2⟩
     ·rintro ⟨-, -, ⟨-, -, a, b', hl0, ea, eb⟩, hp⟩ y hy
      refine ⟨?_, hp y hy⟩
      rw [hl0] at hy
      simp only [List.mem_cons, List.not_mem_nil, or_false] at hy
      rcases hy with rfl | rfl
      ·exact ea
      ·exact eb
    ·have d3 : ((t.l.length : Int) == 2) = false := by simp; omega
     have HKx := Lib.hid hk
     clear hk
     go_enter Try.func65, Try.ntmps65
     go_wp2_with (first | (go_at_call 63; refine (HN.out _).mono ?_; rintro e w' ⟨rfl, rfl⟩) | (go_at_call 78; refine (HWd.out _).mono ?_; rintro e w' ⟨rfl, rfl⟩))
     go_at_call 83
     refine (HBn.out _).mono ?_
     rintro e w4 ⟨rfl, hb4⟩
     have HB4 := Lib.hid hb4
     have HAll4 := Lib.hid (HA18.out w4 hb4)
     clear f0 f1 f2 f3 f4
     obtain ⟨f0, f1, f2, f3, f4⟩ := HX18.out w4 hb4
     rw [HOp.out] at f0
     clear hb4
     go_wp2
     go_ret
     refine ⟨false, by first | rfl | simp, ⟨fun hf => absurd hf (by simp), fun hh => ?_⟩, HR.out.low.trans (HB4.out.mono HR.out.low.size)⟩
     have hi := HInv.out.1 (HOK.out.1 hh.2).2.1
     obtain ⟨-, -, a, b', hl0, -⟩ := hi
     exact absurd (by rw [hl0]; rfl) HKx.out
   | false =>
    go_enter Try.func65, Try.ntmps65
    go_wp2_with (first | (go_at_call 63; refine (HN.out _).mono ?_; rintro e w' ⟨rfl, rfl⟩) | (go_at_call 78; refine (HWd.out _).mono ?_; rintro e w' ⟨rfl, rfl⟩))
    go_at_call 83
    refine (HBn.out _).mono ?_
    rintro e w4 ⟨rfl, hb4⟩
    have HB4 := Lib.hid hb4
    have HAll4 := Lib.hid (HA18.out w4 hb4)
    clear f0 f1 f2 f3 f4
    obtain ⟨f0, f1, f2, f3, f4⟩ := HX18.out w4 hb4
    rw [HOp.out] at f0
    clear hb4
    go_wp2
    go_ret
    refine ⟨false, by first | rfl | simp, ⟨fun hf => absurd hf (by simp), fun hh => ?_⟩, HR.out.low.trans (HB4.out.mono HR.out.low.size)⟩
    have hi := HInv.out.1 (HOK.out.1 hh.2).2.1
    exact absurd (hi.1.symm.trans HEb.out) (by simp)
  ·have d2 : (t.n == 0) = false := by simpa using hn
   have HNx := Lib.hid hn
   clear hn
   cases rb with
   | true =>
    go_enter Try.func65, Try.ntmps65
    go_wp2_with (first | (go_at_call 63; refine (HN.out _).mono ?_; rintro e w' ⟨rfl, rfl⟩) | (go_at_call 78; refine (HWd.out _).mono ?_; rintro e w' ⟨rfl, rfl⟩))
    go_at_call 83
    refine (HBn.out _).mono ?_
    rintro e w4 ⟨rfl, hb4⟩
    have HB4 := Lib.hid hb4
    have HAll4 := Lib.hid (HA18.out w4 hb4)
    clear f0 f1 f2 f3 f4
    obtain ⟨f0, f1, f2, f3, f4⟩ := HX18.out w4 hb4
    rw [HOp.out] at f0
    clear hb4
    go_wp2
    go_ret
    refine ⟨false, by first | rfl | simp, ⟨fun hf => absurd hf (by simp), fun hh => ?_⟩, HR.out.low.trans (HB4.out.mono HR.out.low.size)⟩
    have hi := HInv.out.1 (HOK.out.1 hh.2).2.1
    exact absurd hi.2.1 HNx.out
   | false =>
    go_enter Try.func65, Try.ntmps65
    go_wp2_with (first | (go_at_call 63; refine (HN.out _).mono ?_; rintro e w' ⟨rfl, rfl⟩) | (go_at_call 78; refine (HWd.out _).mono ?_; rintro e w' ⟨rfl, rfl⟩))
    go_at_call 83
    refine (HBn.out _).mono ?_
    rintro e w4 ⟨rfl, hb4⟩
    have HB4 := Lib.hid hb4
    have HAll4 := Lib.hid (HA18.out w4 hb4)
    clear f0 f1 f2 f3 f4
    obtain ⟨f0, f1, f2, f3, f4⟩ := HX18.out w4 hb4
    rw [HOp.out] at f0
    clear hb4
    go_wp2
    go_ret
    refine ⟨false, by first | rfl | simp, ⟨fun hf => absurd hf (by simp), fun hh => ?_⟩, HR.out.low.trans (HB4.out.mono HR.out.low.size)⟩
    have hi := HInv.out.1 (HOK.out.1 hh.2).2.1
    exact absurd (hi.1.symm.trans HEb.out) (by simp)
 ·have d1 : ((bs t.s).toList == []) = false := by rw [Lib.toList_data, bs_list, beq_eq_false_iff_ne]; exact hs
  have HSx := Lib.hid hs
  clear hs
  by_cases hn : t.n = 0
  ·have d2 : (t.n == 0) = true := by rw [hn]; rfl
   have HNx := Lib.hid hn
   clear hn
   cases rb with
   | true =>
    by_cases hk : t.l.length = 2
    ·have d3 : ((t.l.length : Int) == 2) = true := by rw [hk]; rfl
     have HKx := Lib.hid hk
     clear hk
     go_enter Try.func65, Try.ntmps65
     go_wp2_with (first | (go_at_call 63; refine (HN.out _).mono ?_; rintro e w' ⟨rfl, rfl⟩) | (go_at_call 78; refine (HWd.out _).mono ?_; rintro e w' ⟨rfl, rfl⟩))
     go_at_call 83
     refine (HBn.out _).mono ?_
     rintro e w4 ⟨rfl, hb4⟩
     have HB4 := Lib.hid hb4
     have HAll4 := Lib.hid (HA18.out w4 hb4)
     clear f0 f1 f2 f3 f4
     obtain ⟨f0, f1, f2, f3, f4⟩ := HX18.out w4 hb4
     rw [HOp.out] at f0
     clear hb4
     go_wp2_with ((go_at_call 64; refine HAll4.out.mono ?_; rintro e w5 ⟨b, rfl, hb, hb5⟩; have HB := Lib.hid (And.intro hb hb5); clear hb hb5))
     go_ret
     refine ⟨b, by first | rfl | simp, ?_, HR.out.low.trans ((HB4.out.trans (HB.out.2.mono HB4.out.size)).mono HR.out.low.size)⟩
     rw [HB.out.1, HOK.out, HInv.out]
     constructor
     ·intro hh
      obtain ⟨a, b', hl0⟩ := len2 HKx.out
      exact ⟨HE.out, by omega, ⟨HEb.out, HNx.out, a, b', hl0, (hh a (by rw [hl0]; simp)).1, (hh b' (by rw [hl0]; simp)).1⟩, fun y hy => (hh y hy).2⟩
     ·rintro ⟨-, -, ⟨-, -, a, b', hl0, ea, eb⟩, hp⟩ y hy
      refine ⟨?_, hp y hy⟩
      rw [hl0] at hy
      simp only [List.mem_cons, List.not_mem_nil, or_false] at hy
      rcases hy with rfl | rfl
      ·exact ea
      ·exact eb
    ·have d3 : ((t.l.length : Int) == 2) = false := by simp; omega
     have HKx := Lib.hid hk
     clear hk
     go_enter Try.func65, Try.ntmps65
     go_wp2_with (first | (go_at_call 63; refine (HN.out _).mono ?_; rintro e w' ⟨rfl, rfl⟩) | (go_at_call 78; refine (HWd.out _).mono ?_; rintro e w' ⟨rfl, rfl⟩))
     go_at_call 83
     refine (HBn.out _).mono ?_
     rintro e w4 ⟨rfl, hb4⟩
     have HB4 := Lib.hid hb4
     have HAll4 := Lib.hid (HA18.out w4 hb4)
     clear f0 f1 f2 f3 f4
     obtain ⟨f0, f1, f2, f3, f4⟩ := HX18.out w4 hb4
     rw [HOp.out] at f0
     clear hb4
     go_wp2
     go_ret
     refine ⟨false, by first | rfl | simp, ⟨fun hf => absurd hf (by simp), fun hh => ?_⟩, HR.out.low.trans (HB4.out.mono HR.out.low.size)⟩
     have hi := HInv.out.1 (HOK.out.1 hh.2).2.1
     obtain ⟨-, -, a, b', hl0, -⟩ := hi
     exact absurd (by rw [hl0]; rfl) HKx.out
   | false =>
    go_enter Try.func65, Try.ntmps65
    go_wp2_with (first | (go_at_call 63; refine (HN.out _).mono ?_; rintro e w' ⟨rfl, rfl⟩) | (go_at_call 78; refine (HWd.out _).mono ?_; rintro e w' ⟨rfl, rfl⟩))
    go_at_call 83
    refine (HBn.out _).mono ?_
    rintro e w4 ⟨rfl, hb4⟩
    have HB4 := Lib.hid hb4
    have HAll4 := Lib.hid (HA18.out w4 hb4)
    clear f0 f1 f2 f3 f4
    obtain ⟨f0, f1, f2, f3, f4⟩ := HX18.out w4 hb4
    rw [HOp.out] at f0
    clear hb4
    go_wp2
    go_ret
    refine ⟨false, by first | rfl | simp, ⟨fun hf => absurd hf (by simp), fun hh => ?_⟩, HR.out.low.trans (HB4.out.mono HR.out.low.size)⟩
    have hi := HInv.out.1 (HOK.out.1 hh.2).2.1
    exact absurd (hi.1.symm.trans HEb.out) (by simp)
  ·have d2 : (t.n == 0) = false := by simpa using hn
   have HNx := Lib.hid hn
   clear hn
   cases rb with
   | true =>
    go_enter Try.func65, Try.ntmps65
    go_wp2_with (first | (go_at_call 63; refine (HN.out _).mono ?_; rintro e w' ⟨rfl, rfl⟩) | (go_at_call 78; refine (HWd.out _).mono ?_; rintro e w' ⟨rfl, rfl⟩))
    go_at_call 83
    refine (HBn.out _).mono ?_
    rintro e w4 ⟨rfl, hb4⟩
    have HB4 := Lib.hid hb4
    have HAll4 := Lib.hid (HA18.out w4 hb4)
    clear f0 f1 f2 f3 f4
    obtain ⟨f0, f1, f2, f3, f4⟩ := HX18.out w4 hb4
    rw [HOp.out] at f0
    clear hb4
    go_wp2
    go_ret
    refine ⟨false, by first | rfl | simp, ⟨fun hf => absurd hf (by simp), fun hh => ?_⟩, HR.out.low.trans (HB4.out.mono HR.out.low.size)⟩
    have hi := HInv.out.1 (HOK.out.1 hh.2).2.1
    exact absurd hi.2.1 HNx.out
   | false =>
    go_enter Try.func65, Try.ntmps65
    go_wp2_with (first | (go_at_call 63; refine (HN.out _).mono ?_; rintro e w' ⟨rfl, rfl⟩) | (go_at_call 78; refine (HWd.out _).mono ?_; rintro e w' ⟨rfl, rfl⟩))
    go_at_call 83
    refine (HBn.out _).mono ?_
    rintro e w4 ⟨rfl, hb4⟩
    have HB4 := Lib.hid hb4
    have HAll4 := Lib.hid (HA18.out w4 hb4)
    clear f0 f1 f2 f3 f4
    obtain ⟨f0, f1, f2, f3, f4⟩ := HX18.out w4 hb4
    rw [HOp.out] at f0
    clear hb4
    go_wp2
    go_ret
    refine ⟨false, by first | rfl | simp, ⟨fun hf => absurd hf (by simp), fun hh => ?_⟩, HR.out.low.trans (HB4.out.mono HR.out.low.size)⟩
    have hi := HInv.out.1 (HOK.out.1 hh.2).2.1
    exact absurd (hi.1.symm.trans HEb.out) (by simp)
theorem isE_cases {t : Tr} (h : isE t) : t.op = 1 ∨ t.op = 2 ∨ t.op = 3 ∨ t.op = 4 ∨ t.op = 5 ∨ t.op = 6 ∨ t.op = 7 ∨ t.op = 8 ∨ t.op = 9 ∨ t.op = 10 ∨ t.op = 11 ∨ t.op = 13 ∨ t.op = 14 ∨ t.op = 15 ∨ t.op = 16 ∨ t.op = 17 ∨ t.op = 18 ∨ t.op = 19 ∨ t.op = 20 ∨ t.op = 21 ∨ t.op = 22 ∨ t.op = 23 := by
 unfold isE hasB at h
 simp at h
 omega
theorem isS_cases {t : Tr} (h : isS t) : t.op = 30 ∨ t.op = 31 ∨ t.op = 32 ∨ t.op = 33 ∨ t.op = 34 ∨ t.op = 35 ∨ t.op = 36 ∨ t.op = 37 ∨ t.op = 38 ∨ t.op = 39 ∨ t.op = 40 ∨ t.op = 41 := by
 unfold isS hasB at h
 simp at h
 omega
def fewOp (op : Int) : Bool := op == 1 || op == 18 || op == 30 || op == 31 || op == 32 || op == 36 || op == 41
def fewT (t : Tr) : Bool := t.flat.all fun z => fewOp z.op
theorem few_part {t y : Tr} (h : fewT t = true) (hy : y ∈ t.l) : fewT y = true := by
 unfold fewT at h ⊢
 rw [List.all_eq_true] at h ⊢
 intro z hz
 refine h z ?_
 rw [flat_eq]
 refine List.mem_cons_of_mem _ ?_
 have key : ∀ l : List Tr, y ∈ l → z ∈ flats l := by
  intro l
  induction l with
  | nil => intro h; cases h
  | cons a r ih =>
   intro h
   rw [flats_cons, List.mem_append]
   rcases List.mem_cons.1 h with rfl | h
   ·exact .inl hz
   ·exact .inr (ih h)
 exact key t.l hy
theorem few_self {t : Tr} (h : fewT t = true) : fewOp t.op = true := by
 unfold fewT at h
 rw [List.all_eq_true] at h
 exact h t (by rw [flat_eq]; exact List.mem_cons_self)
theorem ref_few (t : Tr) : fewT t = true → t.size ≤ 1000000 → ∀ h : Int, h ≤ 1000 → RefE h t ∧ RefS h t := by
 induction t using tree_ind with
 | h t ih =>
 intro hw hsz h hh
 have hlen : t.l.length ≤ 1000000 := by
  have := length_le_sizes t.l
  have := size_eq t
  omega
 have hop := few_self hw
 unfold fewOp at hop
 simp only [Bool.or_eq_true, beq_iff_eq] at hop
 have hE : ∀ y ∈ t.l, RefE (h - 1) y := fun y hy => (ih y (size_part hy) (few_part hw hy) (by have := size_part hy; omega) (h - 1) (by omega)).1
 have hS : ∀ y ∈ t.l, RefS (h - 1) y := fun y hy => (ih y (size_part hy) (few_part hw hy) (by have := size_part hy; omega) (h - 1) (by omega)).2
 constructor
 ·intro v w hA
  by_cases h1 : 1 ≤ h
  ·obtain ⟨u, rfl, hrow, -⟩ := (At_iff _ _ _ _).1 hA
   obtain ⟨A, c, rfl, -, -⟩ := row_at hrow
   by_cases hi : isE t
   ·have h2 : t.op = 1 ∨ t.op = 18 := by
     have := isE_cases hi
     omega
    rcases h2 with e | e
    ·exact rex_1 h t A c w e h1 hh hA hE hlen
    ·exact rex_18 h t A c w e h1 hh hA hE hlen
   ·exact rex_none h t A c w h1 hh hA hi
  ·exact rex_low h t v w hA (by omega)
 ·intro v w hA
  by_cases h1 : 1 ≤ h
  ·obtain ⟨u, rfl, hrow, -⟩ := (At_iff _ _ _ _).1 hA
   obtain ⟨A, c, rfl, -, -⟩ := row_at hrow
   by_cases hi : isS t
   ·have h2 : t.op = 30 ∨ t.op = 31 ∨ t.op = 32 ∨ t.op = 36 ∨ t.op = 41 := by
     have := isS_cases hi
     omega
    rcases h2 with e | e | e | e | e
    ·exact rst_30 h t A c w e h1 hh hA hE hS hlen
    ·exact rst_31 h t A c w e h1 hh hA hE hS hlen
    ·exact rst_32 h t A c w e h1 hh hA hE hS hlen
    ·exact rst_36 h t A c w e h1 hh hA hE hS hlen
    ·exact rst_41 h t A c w e h1 hh hA hE hS hlen
   ·exact rst_none h t A c w h1 hh hA hi
  ·exact rst_low h t v w hA (by omega)
theorem rright_few (t : Tr) (hw : fewT t = true) (v : Value) (w : World) (ht : At w w.heap.size t v) (hsz : t.size ≤ 1000000) :
    Calls Try.prog 20 #[v] w fun e w' => e = .returned (.bool (rightP t)) ∧ Below w.heap.size w w' := by
  obtain ⟨u, rfl, -, -⟩ := (At_iff _ _ _ _).1 ht
  have hW : Below w.heap.size w (w.alloc (.cells #[.int .i64 t.op, .string (bs t.s), .int .i64 t.n, u, .int .i64 t.line] 24)) := (Below.refl _ w).alloc (Nat.le_refl _) _
  have h1 := block_any 100 t (ref_few t hw hsz 100 (by decide)).2 _ (w.alloc (.cells #[.int .i64 t.op, .string (bs t.s), .int .i64 t.n, u, .int .i64 t.line] 24)) (At.keep t ht hW.size fun p hp => hW.cell hp)
  unfold nodeV at h1 ⊢
  have HB := Lib.hid h1
  have HW := Lib.hid hW
  have HO := Lib.hid (right_ok t)
  clear ht hW h1
  go_enter Try.func20, Try.ntmps20
  go_wp2_with fail
  go_at_call 34
  first
  | (refine HB.out.mono ?_
     rintro e w5 ⟨b, rfl, hb, hb5⟩
     have HC := Lib.hid (And.intro hb (HW.out.trans (hb5.mono HW.out.size)))
     clear hb hb5
     go_wp2
     go_ret
     have h9 := Bool.eq_iff_iff.2 (HC.out.1.trans HO.out.symm)
     subst h9
     exact ⟨by simp, HC.out.2⟩)
end
end Go.Proofs.Ytejbdoiamhfbjaa
