/- gumshoeref03.expr: what is plain and has parts. gumshoeref03.stmt. -/
import Derived.Test.YtbpodijcndglgaaProg
import Derived.Test.YtbpodijcndglgaaPn25
import Derived.Test.YtbpodijcndglgaaPn26
set_option linter.unusedSimpArgs false
set_option linter.unusedVariables false
set_option maxRecDepth 100000
set_option maxHeartbeats 40000000
namespace Go.Proofs.Ytbpodijcndglgaa
section
open Go.RowKit Go.Proofs
def RefWalk (op : Int) : Prop := ∀ (h : Int) (t : Tr) (A : Option Addr) (c : Nat) (w : World), t.op = op → 1 ≤ h → h ≤ 1000 → At w w.heap.size t (nodeV t (.slice A t.l.length c)) → (∀ y ∈ t.l, RefE (h - 1) y) → t.l.length ≤ 9223372036854775807 →
 Calls Try.prog 56 #[nodeV t (.slice A t.l.length c), .int .i64 h] w (Says (isE t ∧ OK h t) w)
structure RIn (h : Int) (t : Tr) (A : Option Addr) (c : Nat) (w W1 : World) : Prop where
 world : w.alloc (.cells #[.int .i64 t.op, .string (bs t.s), .int .i64 t.n, .slice A t.l.length c, .int .i64 t.line] 24) = W1
 low : Below w.heap.size w W1
 box : W1.heap[w.heap.size]? = some (.cells #[.int .i64 t.op, .string (bs t.s), .int .i64 t.n, .slice A t.l.length c, .int .i64 t.line] 24 (0, 0))
 row : Row W1 W1.heap.size t.l (.slice A t.l.length c)
 name : ∀ w', Calls Try.prog 54 #[.string (bs t.s)] w' fun e w'' => e = .returned (.bool (isNameL t.s)) ∧ w' = w''
 word : ∀ w', Calls Try.prog 69 #[.string (bs t.s)] w' fun e w'' => e = .returned (.bool (isWordL t.s)) ∧ w' = w''
theorem r_in (h : Int) (t : Tr) (A : Option Addr) (c : Nat) (w : World) (hA : At w w.heap.size t (nodeV t (.slice A t.l.length c))) :
  RIn h t A c w (w.alloc (.cells #[.int .i64 t.op, .string (bs t.s), .int .i64 t.n, .slice A t.l.length c, .int .i64 t.line] 24)) := by
 obtain ⟨u, e, hr, hf⟩ := (At_iff _ _ _ _).1 hA
 have hb : Below w.heap.size w (w.alloc (.cells #[.int .i64 t.op, .string (bs t.s), .int .i64 t.n, .slice A t.l.length c, .int .i64 t.line] 24)) := (Below.refl _ w).alloc (Nat.le_refl _) _
 unfold nodeV at e
 simp only [Value.agg.injEq, Array.mk.injEq, List.cons.injEq, and_true, true_and] at e
 subst e
 refine { world := rfl, low := hb, box := heap_alloc_new w _, row := hr.keep hb.size fun p hp => hb.cell hp, name := fun w' => ?_, word := fun w' => ?_ }
 ·have := risName_any (bs t.s) w' (by rw [bs_size]; exact hf.1)
  rw [bs_list] at this
  exact this
 ·have := risWord_any (bs t.s) w'
  rw [bs_list] at this
  exact this
theorem RIn.cells {h : Int} {t : Tr} {A : Option Addr} {c : Nat} {w W1 : World} (r : RIn h t A c w W1) : BoxAt W1 w.heap.size t (.slice A t.l.length c) := box_in (Below.refl _ _) r.box
theorem rex_14 : RefWalk 14 := by
 intro h t A c w e h1 h2 hA hE hl
 obtain ⟨W1, hr⟩ : ∃ W, RIn h t A c w W := ⟨_, r_in h t A c w hA⟩
 have hall := all_any (h - 1) t.l _ W1 hr.row hE hl
 have hbx := hr.cells
 have hiE : isE t := by unfold isE hasB; rw [e]; rfl
 have HR := Lib.hid hr
 have HN := Lib.hid hr.name
 have HWd := Lib.hid hr.word
 have HAll := Lib.hid hall
 have HOK := Lib.hid (ok_iff h t)
 have HInv := Lib.hid (inv_14 e)
 have HE := Lib.hid hiE
 have hW : w.alloc (.cells #[.int .i64 14, .string (bs t.s), .int .i64 t.n, .slice A t.l.length c, .int .i64 t.line] 24) = W1 := by rw [← e]; exact hr.world
 unfold BoxAt at hbx
 rw [e] at hbx
 obtain ⟨f0, f1, f2, f3, f4⟩ := hbx
 unfold nodeV
 rw [e]
 obtain ⟨rn, en⟩ : ∃ b, isNameL t.s = b := ⟨_, rfl⟩
 obtain ⟨rw_, ew⟩ : ∃ b, isWordL t.s = b := ⟨_, rfl⟩
 rw [en] at HN
 rw [ew] at HWd
 clear hA hE hr hall hiE e en ew
 by_cases hs : t.s = []
 ·have d1 : ((bs t.s).toList == []) = true := by rw [hs, Lib.toList_data, bs_list]; rfl
  have HSx := Lib.hid hs
  clear hs
  by_cases hn : t.n = 0
  ·have d2 : (t.n == 0) = true := by rw [hn]; rfl
   have HNx := Lib.hid hn
   clear hn
   by_cases hk : t.l.length = 2
   ·have d3 : ((t.l.length : Int) == 2) = true := by rw [hk]; rfl
    have HK := Lib.hid hk
    clear hk
    go_enter Try.func56, Try.ntmps56
    go_wp2_with (first | (go_at_call 54; refine (HN.out _).mono ?_; rintro e w' ⟨rfl, rfl⟩) | (go_at_call 69; refine (HWd.out _).mono ?_; rintro e w' ⟨rfl, rfl⟩) | (go_at_call 55; refine HAll.out.mono ?_; rintro e w5 ⟨b, rfl, hb, hb5⟩; have HB := Lib.hid (And.intro hb hb5); clear hb hb5))
    go_ret
    refine ⟨b, by first | rfl | simp, ?_, HR.out.low.trans (HB.out.2.mono HR.out.low.size)⟩
    rw [HB.out.1, HOK.out, HInv.out]
    constructor
    ·intro hh
     refine ⟨HE.out, by omega, ⟨HSx.out, HNx.out, ?_⟩, fun y hy => (hh y hy).2⟩
     obtain ⟨a, b, hl0⟩ := len2 HK.out
     exact ⟨a, b, hl0, (hh a (by rw [hl0]; simp)).1, (hh b (by rw [hl0]; simp)).1⟩
    ·rintro ⟨-, -, ⟨-, -, a, b, hl0, ea, eb⟩, hp⟩ y hy
     refine ⟨?_, hp y hy⟩
     rw [hl0] at hy
     simp only [List.mem_cons, List.not_mem_nil, or_false] at hy
     rcases hy with rfl | rfl
     ·exact ea
     ·exact eb
   ·have d3 : ((t.l.length : Int) == 2) = false := by simp; omega
    have HK := Lib.hid hk
    clear hk
    go_enter Try.func56, Try.ntmps56
    go_wp2_with (first | (go_at_call 54; refine (HN.out _).mono ?_; rintro e w' ⟨rfl, rfl⟩) | (go_at_call 69; refine (HWd.out _).mono ?_; rintro e w' ⟨rfl, rfl⟩) | (go_at_call 55; refine HAll.out.mono ?_; rintro e w5 ⟨b, rfl, hb, hb5⟩; have HB := Lib.hid (And.intro hb hb5); clear hb hb5))
    go_ret
    refine ⟨false, by first | rfl | simp, ⟨fun hf => absurd hf (by simp), fun hh => ?_⟩, HR.out.low⟩
    have hi := HInv.out.1 (HOK.out.1 hh.2).2.1
    obtain ⟨-, -, a, b, hl0, -⟩ := hi
    exact absurd (by rw [hl0]; rfl) HK.out
  ·have d2 : (t.n == 0) = false := by simpa using hn
   have HNx := Lib.hid hn
   clear hn
   go_enter Try.func56, Try.ntmps56
   go_wp2_with (first | (go_at_call 54; refine (HN.out _).mono ?_; rintro e w' ⟨rfl, rfl⟩) | (go_at_call 69; refine (HWd.out _).mono ?_; rintro e w' ⟨rfl, rfl⟩) | (go_at_call 55; refine HAll.out.mono ?_; rintro e w5 ⟨b, rfl, hb, hb5⟩; have HB := Lib.hid (And.intro hb hb5); clear hb hb5))
   go_ret
   refine ⟨false, by first | rfl | simp, ⟨fun hf => absurd hf (by simp), fun hh => ?_⟩, HR.out.low⟩
   have hi := HInv.out.1 (HOK.out.1 hh.2).2.1
   exact absurd hi.2.1 HNx.out
 ·have d1 : ((bs t.s).toList == []) = false := by rw [Lib.toList_data, bs_list, beq_eq_false_iff_ne]; exact hs
  have HSx := Lib.hid hs
  clear hs
  go_enter Try.func56, Try.ntmps56
  go_wp2_with (first | (go_at_call 54; refine (HN.out _).mono ?_; rintro e w' ⟨rfl, rfl⟩) | (go_at_call 69; refine (HWd.out _).mono ?_; rintro e w' ⟨rfl, rfl⟩) | (go_at_call 55; refine HAll.out.mono ?_; rintro e w5 ⟨b, rfl, hb, hb5⟩; have HB := Lib.hid (And.intro hb hb5); clear hb hb5))
  go_ret
  refine ⟨false, by first | rfl | simp, ⟨fun hf => absurd hf (by simp), fun hh => ?_⟩, HR.out.low⟩
  have hi := HInv.out.1 (HOK.out.1 hh.2).2.1
  exact absurd hi.1 HSx.out
theorem rex_19 : RefWalk 19 := by
 intro h t A c w e h1 h2 hA hE hl
 obtain ⟨W1, hr⟩ : ∃ W, RIn h t A c w W := ⟨_, r_in h t A c w hA⟩
 have hall := all_any (h - 1) t.l _ W1 hr.row hE hl
 have hbx := hr.cells
 have hiE : isE t := by unfold isE hasB; rw [e]; rfl
 have HR := Lib.hid hr
 have HN := Lib.hid hr.name
 have HWd := Lib.hid hr.word
 have HAll := Lib.hid hall
 have HOK := Lib.hid (ok_iff h t)
 have HInv := Lib.hid (inv_19 e)
 have HE := Lib.hid hiE
 have hW : w.alloc (.cells #[.int .i64 19, .string (bs t.s), .int .i64 t.n, .slice A t.l.length c, .int .i64 t.line] 24) = W1 := by rw [← e]; exact hr.world
 unfold BoxAt at hbx
 rw [e] at hbx
 obtain ⟨f0, f1, f2, f3, f4⟩ := hbx
 unfold nodeV
 rw [e]
 obtain ⟨rn, en⟩ : ∃ b, isNameL t.s = b := ⟨_, rfl⟩
 obtain ⟨rw_, ew⟩ : ∃ b, isWordL t.s = b := ⟨_, rfl⟩
 rw [en] at HN
 rw [ew] at HWd
 clear hA hE hr hall hiE e en ew
 by_cases hs : t.s = []
 ·have d1 : ((bs t.s).toList == []) = true := by rw [hs, Lib.toList_data, bs_list]; rfl
  have HSx := Lib.hid hs
  clear hs
  by_cases hn : t.n = 0
  ·have d2 : (t.n == 0) = true := by rw [hn]; rfl
   have HNx := Lib.hid hn
   clear hn
   by_cases hk : t.l.length = 1
   ·have d3 : ((t.l.length : Int) == 1) = true := by rw [hk]; rfl
    have HK := Lib.hid hk
    clear hk
    go_enter Try.func56, Try.ntmps56
    go_wp2_with (first | (go_at_call 54; refine (HN.out _).mono ?_; rintro e w' ⟨rfl, rfl⟩) | (go_at_call 69; refine (HWd.out _).mono ?_; rintro e w' ⟨rfl, rfl⟩) | (go_at_call 55; refine HAll.out.mono ?_; rintro e w5 ⟨b, rfl, hb, hb5⟩; have HB := Lib.hid (And.intro hb hb5); clear hb hb5))
    go_ret
    refine ⟨b, by first | rfl | simp, ?_, HR.out.low.trans (HB.out.2.mono HR.out.low.size)⟩
    rw [HB.out.1, HOK.out, HInv.out]
    constructor
    ·intro hh
     refine ⟨HE.out, by omega, ⟨HSx.out, HNx.out, ?_⟩, fun y hy => (hh y hy).2⟩
     obtain ⟨a, hl0⟩ := len1 HK.out
     exact ⟨a, hl0, (hh a (by rw [hl0]; simp)).1⟩
    ·rintro ⟨-, -, ⟨-, -, a, hl0, ea⟩, hp⟩ y hy
     refine ⟨?_, hp y hy⟩
     rw [hl0] at hy
     simp only [List.mem_cons, List.not_mem_nil, or_false] at hy
     subst hy
     exact ea
   ·have d3 : ((t.l.length : Int) == 1) = false := by simp; omega
    have HK := Lib.hid hk
    clear hk
    go_enter Try.func56, Try.ntmps56
    go_wp2_with (first | (go_at_call 54; refine (HN.out _).mono ?_; rintro e w' ⟨rfl, rfl⟩) | (go_at_call 69; refine (HWd.out _).mono ?_; rintro e w' ⟨rfl, rfl⟩) | (go_at_call 55; refine HAll.out.mono ?_; rintro e w5 ⟨b, rfl, hb, hb5⟩; have HB := Lib.hid (And.intro hb hb5); clear hb hb5))
    go_ret
    refine ⟨false, by first | rfl | simp, ⟨fun hf => absurd hf (by simp), fun hh => ?_⟩, HR.out.low⟩
    have hi := HInv.out.1 (HOK.out.1 hh.2).2.1
    obtain ⟨-, -, a, hl0, -⟩ := hi
    exact absurd (by rw [hl0]; rfl) HK.out
  ·have d2 : (t.n == 0) = false := by simpa using hn
   have HNx := Lib.hid hn
   clear hn
   go_enter Try.func56, Try.ntmps56
   go_wp2_with (first | (go_at_call 54; refine (HN.out _).mono ?_; rintro e w' ⟨rfl, rfl⟩) | (go_at_call 69; refine (HWd.out _).mono ?_; rintro e w' ⟨rfl, rfl⟩) | (go_at_call 55; refine HAll.out.mono ?_; rintro e w5 ⟨b, rfl, hb, hb5⟩; have HB := Lib.hid (And.intro hb hb5); clear hb hb5))
   go_ret
   refine ⟨false, by first | rfl | simp, ⟨fun hf => absurd hf (by simp), fun hh => ?_⟩, HR.out.low⟩
   have hi := HInv.out.1 (HOK.out.1 hh.2).2.1
   exact absurd hi.2.1 HNx.out
 ·have d1 : ((bs t.s).toList == []) = false := by rw [Lib.toList_data, bs_list, beq_eq_false_iff_ne]; exact hs
  have HSx := Lib.hid hs
  clear hs
  go_enter Try.func56, Try.ntmps56
  go_wp2_with (first | (go_at_call 54; refine (HN.out _).mono ?_; rintro e w' ⟨rfl, rfl⟩) | (go_at_call 69; refine (HWd.out _).mono ?_; rintro e w' ⟨rfl, rfl⟩) | (go_at_call 55; refine HAll.out.mono ?_; rintro e w5 ⟨b, rfl, hb, hb5⟩; have HB := Lib.hid (And.intro hb hb5); clear hb hb5))
  go_ret
  refine ⟨false, by first | rfl | simp, ⟨fun hf => absurd hf (by simp), fun hh => ?_⟩, HR.out.low⟩
  have hi := HInv.out.1 (HOK.out.1 hh.2).2.1
  exact absurd hi.1 HSx.out
theorem rex_20 : RefWalk 20 := by
 intro h t A c w e h1 h2 hA hE hl
 obtain ⟨W1, hr⟩ : ∃ W, RIn h t A c w W := ⟨_, r_in h t A c w hA⟩
 have hall := all_any (h - 1) t.l _ W1 hr.row hE hl
 have hbx := hr.cells
 have hiE : isE t := by unfold isE hasB; rw [e]; rfl
 have HR := Lib.hid hr
 have HN := Lib.hid hr.name
 have HWd := Lib.hid hr.word
 have HAll := Lib.hid hall
 have HOK := Lib.hid (ok_iff h t)
 have HInv := Lib.hid (inv_20 e)
 have HE := Lib.hid hiE
 have hW : w.alloc (.cells #[.int .i64 20, .string (bs t.s), .int .i64 t.n, .slice A t.l.length c, .int .i64 t.line] 24) = W1 := by rw [← e]; exact hr.world
 unfold BoxAt at hbx
 rw [e] at hbx
 obtain ⟨f0, f1, f2, f3, f4⟩ := hbx
 unfold nodeV
 rw [e]
 obtain ⟨rn, en⟩ : ∃ b, isNameL t.s = b := ⟨_, rfl⟩
 obtain ⟨rw_, ew⟩ : ∃ b, isWordL t.s = b := ⟨_, rfl⟩
 rw [en] at HN
 rw [ew] at HWd
 clear hA hE hr hall hiE e en ew
 by_cases hs : t.s = []
 ·have d1 : ((bs t.s).toList == []) = true := by rw [hs, Lib.toList_data, bs_list]; rfl
  have HSx := Lib.hid hs
  clear hs
  by_cases hn : t.n = 0
  ·have d2 : (t.n == 0) = true := by rw [hn]; rfl
   have HNx := Lib.hid hn
   clear hn
   by_cases hk : t.l.length = 1
   ·have d3 : ((t.l.length : Int) == 1) = true := by rw [hk]; rfl
    have HK := Lib.hid hk
    clear hk
    go_enter Try.func56, Try.ntmps56
    go_wp2_with (first | (go_at_call 54; refine (HN.out _).mono ?_; rintro e w' ⟨rfl, rfl⟩) | (go_at_call 69; refine (HWd.out _).mono ?_; rintro e w' ⟨rfl, rfl⟩) | (go_at_call 55; refine HAll.out.mono ?_; rintro e w5 ⟨b, rfl, hb, hb5⟩; have HB := Lib.hid (And.intro hb hb5); clear hb hb5))
    go_ret
    refine ⟨b, by first | rfl | simp, ?_, HR.out.low.trans (HB.out.2.mono HR.out.low.size)⟩
    rw [HB.out.1, HOK.out, HInv.out]
    constructor
    ·intro hh
     refine ⟨HE.out, by omega, ⟨HSx.out, HNx.out, ?_⟩, fun y hy => (hh y hy).2⟩
     obtain ⟨a, hl0⟩ := len1 HK.out
     exact ⟨a, hl0, (hh a (by rw [hl0]; simp)).1⟩
    ·rintro ⟨-, -, ⟨-, -, a, hl0, ea⟩, hp⟩ y hy
     refine ⟨?_, hp y hy⟩
     rw [hl0] at hy
     simp only [List.mem_cons, List.not_mem_nil, or_false] at hy
     subst hy
     exact ea
   ·have d3 : ((t.l.length : Int) == 1) = false := by simp; omega
    have HK := Lib.hid hk
    clear hk
    go_enter Try.func56, Try.ntmps56
    go_wp2_with (first | (go_at_call 54; refine (HN.out _).mono ?_; rintro e w' ⟨rfl, rfl⟩) | (go_at_call 69; refine (HWd.out _).mono ?_; rintro e w' ⟨rfl, rfl⟩) | (go_at_call 55; refine HAll.out.mono ?_; rintro e w5 ⟨b, rfl, hb, hb5⟩; have HB := Lib.hid (And.intro hb hb5); clear hb hb5))
    go_ret
    refine ⟨false, by first | rfl | simp, ⟨fun hf => absurd hf (by simp), fun hh => ?_⟩, HR.out.low⟩
    have hi := HInv.out.1 (HOK.out.1 hh.2).2.1
    obtain ⟨-, -, a, hl0, -⟩ := hi
    exact absurd (by rw [hl0]; rfl) HK.out
  ·have d2 : (t.n == 0) = false := by simpa using hn
   have HNx := Lib.hid hn
   clear hn
   go_enter Try.func56, Try.ntmps56
   go_wp2_with (first | (go_at_call 54; refine (HN.out _).mono ?_; rintro e w' ⟨rfl, rfl⟩) | (go_at_call 69; refine (HWd.out _).mono ?_; rintro e w' ⟨rfl, rfl⟩) | (go_at_call 55; refine HAll.out.mono ?_; rintro e w5 ⟨b, rfl, hb, hb5⟩; have HB := Lib.hid (And.intro hb hb5); clear hb hb5))
   go_ret
   refine ⟨false, by first | rfl | simp, ⟨fun hf => absurd hf (by simp), fun hh => ?_⟩, HR.out.low⟩
   have hi := HInv.out.1 (HOK.out.1 hh.2).2.1
   exact absurd hi.2.1 HNx.out
 ·have d1 : ((bs t.s).toList == []) = false := by rw [Lib.toList_data, bs_list, beq_eq_false_iff_ne]; exact hs
  have HSx := Lib.hid hs
  clear hs
  go_enter Try.func56, Try.ntmps56
  go_wp2_with (first | (go_at_call 54; refine (HN.out _).mono ?_; rintro e w' ⟨rfl, rfl⟩) | (go_at_call 69; refine (HWd.out _).mono ?_; rintro e w' ⟨rfl, rfl⟩) | (go_at_call 55; refine HAll.out.mono ?_; rintro e w5 ⟨b, rfl, hb, hb5⟩; have HB := Lib.hid (And.intro hb hb5); clear hb hb5))
  go_ret
  refine ⟨false, by first | rfl | simp, ⟨fun hf => absurd hf (by simp), fun hh => ?_⟩, HR.out.low⟩
  have hi := HInv.out.1 (HOK.out.1 hh.2).2.1
  exact absurd hi.1 HSx.out
theorem rex_21 : RefWalk 21 := by
 intro h t A c w e h1 h2 hA hE hl
 obtain ⟨W1, hr⟩ : ∃ W, RIn h t A c w W := ⟨_, r_in h t A c w hA⟩
 have hall := all_any (h - 1) t.l _ W1 hr.row hE hl
 have hbx := hr.cells
 have hiE : isE t := by unfold isE hasB; rw [e]; rfl
 have HR := Lib.hid hr
 have HN := Lib.hid hr.name
 have HWd := Lib.hid hr.word
 have HAll := Lib.hid hall
 have HOK := Lib.hid (ok_iff h t)
 have HInv := Lib.hid (inv_21 e)
 have HE := Lib.hid hiE
 have hW : w.alloc (.cells #[.int .i64 21, .string (bs t.s), .int .i64 t.n, .slice A t.l.length c, .int .i64 t.line] 24) = W1 := by rw [← e]; exact hr.world
 unfold BoxAt at hbx
 rw [e] at hbx
 obtain ⟨f0, f1, f2, f3, f4⟩ := hbx
 unfold nodeV
 rw [e]
 obtain ⟨rn, en⟩ : ∃ b, isNameL t.s = b := ⟨_, rfl⟩
 obtain ⟨rw_, ew⟩ : ∃ b, isWordL t.s = b := ⟨_, rfl⟩
 rw [en] at HN
 rw [ew] at HWd
 clear hA hE hr hall hiE e en ew
 by_cases hs : t.s = []
 ·have d1 : ((bs t.s).toList == []) = true := by rw [hs, Lib.toList_data, bs_list]; rfl
  have HSx := Lib.hid hs
  clear hs
  by_cases hn : t.n = 0
  ·have d2 : (t.n == 0) = true := by rw [hn]; rfl
   have HNx := Lib.hid hn
   clear hn
   by_cases hk : t.l.length = 2
   ·have d3 : ((t.l.length : Int) == 2) = true := by rw [hk]; rfl
    have HK := Lib.hid hk
    clear hk
    go_enter Try.func56, Try.ntmps56
    go_wp2_with (first | (go_at_call 54; refine (HN.out _).mono ?_; rintro e w' ⟨rfl, rfl⟩) | (go_at_call 69; refine (HWd.out _).mono ?_; rintro e w' ⟨rfl, rfl⟩) | (go_at_call 55; refine HAll.out.mono ?_; rintro e w5 ⟨b, rfl, hb, hb5⟩; have HB := Lib.hid (And.intro hb hb5); clear hb hb5))
    go_ret
    refine ⟨b, by first | rfl | simp, ?_, HR.out.low.trans (HB.out.2.mono HR.out.low.size)⟩
    rw [HB.out.1, HOK.out, HInv.out]
    constructor
    ·intro hh
     refine ⟨HE.out, by omega, ⟨HSx.out, HNx.out, ?_⟩, fun y hy => (hh y hy).2⟩
     obtain ⟨a, b, hl0⟩ := len2 HK.out
     exact ⟨a, b, hl0, (hh a (by rw [hl0]; simp)).1, (hh b (by rw [hl0]; simp)).1⟩
    ·rintro ⟨-, -, ⟨-, -, a, b, hl0, ea, eb⟩, hp⟩ y hy
     refine ⟨?_, hp y hy⟩
     rw [hl0] at hy
     simp only [List.mem_cons, List.not_mem_nil, or_false] at hy
     rcases hy with rfl | rfl
     ·exact ea
     ·exact eb
   ·have d3 : ((t.l.length : Int) == 2) = false := by simp; omega
    have HK := Lib.hid hk
    clear hk
    go_enter Try.func56, Try.ntmps56
    go_wp2_with (first | (go_at_call 54; refine (HN.out _).mono ?_; rintro e w' ⟨rfl, rfl⟩) | (go_at_call 69; refine (HWd.out _).mono ?_; rintro e w' ⟨rfl, rfl⟩) | (go_at_call 55; refine HAll.out.mono ?_; rintro e w5 ⟨b, rfl, hb, hb5⟩; have HB := Lib.hid (And.intro hb hb5); clear hb hb5))
    go_ret
    refine ⟨false, by first | rfl | simp, ⟨fun hf => absurd hf (by simp), fun hh => ?_⟩, HR.out.low⟩
    have hi := HInv.out.1 (HOK.out.1 hh.2).2.1
    obtain ⟨-, -, a, b, hl0, -⟩ := hi
    exact absurd (by rw [hl0]; rfl) HK.out
  ·have d2 : (t.n == 0) = false := by simpa using hn
   have HNx := Lib.hid hn
   clear hn
   go_enter Try.func56, Try.ntmps56
   go_wp2_with (first | (go_at_call 54; refine (HN.out _).mono ?_; rintro e w' ⟨rfl, rfl⟩) | (go_at_call 69; refine (HWd.out _).mono ?_; rintro e w' ⟨rfl, rfl⟩) | (go_at_call 55; refine HAll.out.mono ?_; rintro e w5 ⟨b, rfl, hb, hb5⟩; have HB := Lib.hid (And.intro hb hb5); clear hb hb5))
   go_ret
   refine ⟨false, by first | rfl | simp, ⟨fun hf => absurd hf (by simp), fun hh => ?_⟩, HR.out.low⟩
   have hi := HInv.out.1 (HOK.out.1 hh.2).2.1
   exact absurd hi.2.1 HNx.out
 ·have d1 : ((bs t.s).toList == []) = false := by rw [Lib.toList_data, bs_list, beq_eq_false_iff_ne]; exact hs
  have HSx := Lib.hid hs
  clear hs
  go_enter Try.func56, Try.ntmps56
  go_wp2_with (first | (go_at_call 54; refine (HN.out _).mono ?_; rintro e w' ⟨rfl, rfl⟩) | (go_at_call 69; refine (HWd.out _).mono ?_; rintro e w' ⟨rfl, rfl⟩) | (go_at_call 55; refine HAll.out.mono ?_; rintro e w5 ⟨b, rfl, hb, hb5⟩; have HB := Lib.hid (And.intro hb hb5); clear hb hb5))
  go_ret
  refine ⟨false, by first | rfl | simp, ⟨fun hf => absurd hf (by simp), fun hh => ?_⟩, HR.out.low⟩
  have hi := HInv.out.1 (HOK.out.1 hh.2).2.1
  exact absurd hi.1 HSx.out
theorem rex_22 : RefWalk 22 := by
 intro h t A c w e h1 h2 hA hE hl
 obtain ⟨W1, hr⟩ : ∃ W, RIn h t A c w W := ⟨_, r_in h t A c w hA⟩
 have hall := all_any (h - 1) t.l _ W1 hr.row hE hl
 have hbx := hr.cells
 have hiE : isE t := by unfold isE hasB; rw [e]; rfl
 have HR := Lib.hid hr
 have HN := Lib.hid hr.name
 have HWd := Lib.hid hr.word
 have HAll := Lib.hid hall
 have HOK := Lib.hid (ok_iff h t)
 have HInv := Lib.hid (inv_22 e)
 have HE := Lib.hid hiE
 have hW : w.alloc (.cells #[.int .i64 22, .string (bs t.s), .int .i64 t.n, .slice A t.l.length c, .int .i64 t.line] 24) = W1 := by rw [← e]; exact hr.world
 unfold BoxAt at hbx
 rw [e] at hbx
 obtain ⟨f0, f1, f2, f3, f4⟩ := hbx
 unfold nodeV
 rw [e]
 obtain ⟨rn, en⟩ : ∃ b, isNameL t.s = b := ⟨_, rfl⟩
 obtain ⟨rw_, ew⟩ : ∃ b, isWordL t.s = b := ⟨_, rfl⟩
 rw [en] at HN
 rw [ew] at HWd
 clear hA hE hr hall hiE e en ew
 by_cases hs : t.s = []
 ·have d1 : ((bs t.s).toList == []) = true := by rw [hs, Lib.toList_data, bs_list]; rfl
  have HSx := Lib.hid hs
  clear hs
  by_cases hn : t.n = 0
  ·have d2 : (t.n == 0) = true := by rw [hn]; rfl
   have HNx := Lib.hid hn
   clear hn
   by_cases hk : t.l.length = 2
   ·have d3 : ((t.l.length : Int) == 2) = true := by rw [hk]; rfl
    have HK := Lib.hid hk
    clear hk
    go_enter Try.func56, Try.ntmps56
    go_wp2_with (first | (go_at_call 54; refine (HN.out _).mono ?_; rintro e w' ⟨rfl, rfl⟩) | (go_at_call 69; refine (HWd.out _).mono ?_; rintro e w' ⟨rfl, rfl⟩) | (go_at_call 55; refine HAll.out.mono ?_; rintro e w5 ⟨b, rfl, hb, hb5⟩; have HB := Lib.hid (And.intro hb hb5); clear hb hb5))
    go_ret
    refine ⟨b, by first | rfl | simp, ?_, HR.out.low.trans (HB.out.2.mono HR.out.low.size)⟩
    rw [HB.out.1, HOK.out, HInv.out]
    constructor
    ·intro hh
     refine ⟨HE.out, by omega, ⟨HSx.out, HNx.out, ?_⟩, fun y hy => (hh y hy).2⟩
     obtain ⟨a, b, hl0⟩ := len2 HK.out
     exact ⟨a, b, hl0, (hh a (by rw [hl0]; simp)).1, (hh b (by rw [hl0]; simp)).1⟩
    ·rintro ⟨-, -, ⟨-, -, a, b, hl0, ea, eb⟩, hp⟩ y hy
     refine ⟨?_, hp y hy⟩
     rw [hl0] at hy
     simp only [List.mem_cons, List.not_mem_nil, or_false] at hy
     rcases hy with rfl | rfl
     ·exact ea
     ·exact eb
   ·have d3 : ((t.l.length : Int) == 2) = false := by simp; omega
    have HK := Lib.hid hk
    clear hk
    go_enter Try.func56, Try.ntmps56
    go_wp2_with (first | (go_at_call 54; refine (HN.out _).mono ?_; rintro e w' ⟨rfl, rfl⟩) | (go_at_call 69; refine (HWd.out _).mono ?_; rintro e w' ⟨rfl, rfl⟩) | (go_at_call 55; refine HAll.out.mono ?_; rintro e w5 ⟨b, rfl, hb, hb5⟩; have HB := Lib.hid (And.intro hb hb5); clear hb hb5))
    go_ret
    refine ⟨false, by first | rfl | simp, ⟨fun hf => absurd hf (by simp), fun hh => ?_⟩, HR.out.low⟩
    have hi := HInv.out.1 (HOK.out.1 hh.2).2.1
    obtain ⟨-, -, a, b, hl0, -⟩ := hi
    exact absurd (by rw [hl0]; rfl) HK.out
  ·have d2 : (t.n == 0) = false := by simpa using hn
   have HNx := Lib.hid hn
   clear hn
   go_enter Try.func56, Try.ntmps56
   go_wp2_with (first | (go_at_call 54; refine (HN.out _).mono ?_; rintro e w' ⟨rfl, rfl⟩) | (go_at_call 69; refine (HWd.out _).mono ?_; rintro e w' ⟨rfl, rfl⟩) | (go_at_call 55; refine HAll.out.mono ?_; rintro e w5 ⟨b, rfl, hb, hb5⟩; have HB := Lib.hid (And.intro hb hb5); clear hb hb5))
   go_ret
   refine ⟨false, by first | rfl | simp, ⟨fun hf => absurd hf (by simp), fun hh => ?_⟩, HR.out.low⟩
   have hi := HInv.out.1 (HOK.out.1 hh.2).2.1
   exact absurd hi.2.1 HNx.out
 ·have d1 : ((bs t.s).toList == []) = false := by rw [Lib.toList_data, bs_list, beq_eq_false_iff_ne]; exact hs
  have HSx := Lib.hid hs
  clear hs
  go_enter Try.func56, Try.ntmps56
  go_wp2_with (first | (go_at_call 54; refine (HN.out _).mono ?_; rintro e w' ⟨rfl, rfl⟩) | (go_at_call 69; refine (HWd.out _).mono ?_; rintro e w' ⟨rfl, rfl⟩) | (go_at_call 55; refine HAll.out.mono ?_; rintro e w5 ⟨b, rfl, hb, hb5⟩; have HB := Lib.hid (And.intro hb hb5); clear hb hb5))
  go_ret
  refine ⟨false, by first | rfl | simp, ⟨fun hf => absurd hf (by simp), fun hh => ?_⟩, HR.out.low⟩
  have hi := HInv.out.1 (HOK.out.1 hh.2).2.1
  exact absurd hi.1 HSx.out
theorem rex_23 : RefWalk 23 := by
 intro h t A c w e h1 h2 hA hE hl
 obtain ⟨W1, hr⟩ : ∃ W, RIn h t A c w W := ⟨_, r_in h t A c w hA⟩
 have hall := all_any (h - 1) t.l _ W1 hr.row hE hl
 have hbx := hr.cells
 have hiE : isE t := by unfold isE hasB; rw [e]; rfl
 have HR := Lib.hid hr
 have HN := Lib.hid hr.name
 have HWd := Lib.hid hr.word
 have HAll := Lib.hid hall
 have HOK := Lib.hid (ok_iff h t)
 have HInv := Lib.hid (inv_23 e)
 have HE := Lib.hid hiE
 have hW : w.alloc (.cells #[.int .i64 23, .string (bs t.s), .int .i64 t.n, .slice A t.l.length c, .int .i64 t.line] 24) = W1 := by rw [← e]; exact hr.world
 unfold BoxAt at hbx
 rw [e] at hbx
 obtain ⟨f0, f1, f2, f3, f4⟩ := hbx
 unfold nodeV
 rw [e]
 obtain ⟨rn, en⟩ : ∃ b, isNameL t.s = b := ⟨_, rfl⟩
 obtain ⟨rw_, ew⟩ : ∃ b, isWordL t.s = b := ⟨_, rfl⟩
 rw [en] at HN
 rw [ew] at HWd
 clear hA hE hr hall hiE e en ew
 by_cases hs : t.s = []
 ·have d1 : ((bs t.s).toList == []) = true := by rw [hs, Lib.toList_data, bs_list]; rfl
  have HSx := Lib.hid hs
  clear hs
  by_cases hn : t.n = 0
  ·have d2 : (t.n == 0) = true := by rw [hn]; rfl
   have HNx := Lib.hid hn
   clear hn
   by_cases hk : t.l.length = 3
   ·have d3 : ((t.l.length : Int) == 3) = true := by rw [hk]; rfl
    have HK := Lib.hid hk
    clear hk
    go_enter Try.func56, Try.ntmps56
    go_wp2_with (first | (go_at_call 54; refine (HN.out _).mono ?_; rintro e w' ⟨rfl, rfl⟩) | (go_at_call 69; refine (HWd.out _).mono ?_; rintro e w' ⟨rfl, rfl⟩) | (go_at_call 55; refine HAll.out.mono ?_; rintro e w5 ⟨b, rfl, hb, hb5⟩; have HB := Lib.hid (And.intro hb hb5); clear hb hb5))
    go_ret
    refine ⟨b, by first | rfl | simp, ?_, HR.out.low.trans (HB.out.2.mono HR.out.low.size)⟩
    rw [HB.out.1, HOK.out, HInv.out]
    constructor
    ·intro hh
     refine ⟨HE.out, by omega, ⟨HSx.out, HNx.out, ?_⟩, fun y hy => (hh y hy).2⟩
     obtain ⟨a, b, c, hl0⟩ := len3 HK.out
     exact ⟨a, b, c, hl0, (hh a (by rw [hl0]; simp)).1, (hh b (by rw [hl0]; simp)).1, (hh c (by rw [hl0]; simp)).1⟩
    ·rintro ⟨-, -, ⟨-, -, a, b, c, hl0, ea, eb, ec⟩, hp⟩ y hy
     refine ⟨?_, hp y hy⟩
     rw [hl0] at hy
     simp only [List.mem_cons, List.not_mem_nil, or_false] at hy
     rcases hy with rfl | rfl | rfl
     ·exact ea
     ·exact eb
     ·exact ec
   ·have d3 : ((t.l.length : Int) == 3) = false := by simp; omega
    have HK := Lib.hid hk
    clear hk
    go_enter Try.func56, Try.ntmps56
    go_wp2_with (first | (go_at_call 54; refine (HN.out _).mono ?_; rintro e w' ⟨rfl, rfl⟩) | (go_at_call 69; refine (HWd.out _).mono ?_; rintro e w' ⟨rfl, rfl⟩) | (go_at_call 55; refine HAll.out.mono ?_; rintro e w5 ⟨b, rfl, hb, hb5⟩; have HB := Lib.hid (And.intro hb hb5); clear hb hb5))
    go_ret
    refine ⟨false, by first | rfl | simp, ⟨fun hf => absurd hf (by simp), fun hh => ?_⟩, HR.out.low⟩
    have hi := HInv.out.1 (HOK.out.1 hh.2).2.1
    obtain ⟨-, -, a, b, c, hl0, -⟩ := hi
    exact absurd (by rw [hl0]; rfl) HK.out
  ·have d2 : (t.n == 0) = false := by simpa using hn
   have HNx := Lib.hid hn
   clear hn
   go_enter Try.func56, Try.ntmps56
   go_wp2_with (first | (go_at_call 54; refine (HN.out _).mono ?_; rintro e w' ⟨rfl, rfl⟩) | (go_at_call 69; refine (HWd.out _).mono ?_; rintro e w' ⟨rfl, rfl⟩) | (go_at_call 55; refine HAll.out.mono ?_; rintro e w5 ⟨b, rfl, hb, hb5⟩; have HB := Lib.hid (And.intro hb hb5); clear hb hb5))
   go_ret
   refine ⟨false, by first | rfl | simp, ⟨fun hf => absurd hf (by simp), fun hh => ?_⟩, HR.out.low⟩
   have hi := HInv.out.1 (HOK.out.1 hh.2).2.1
   exact absurd hi.2.1 HNx.out
 ·have d1 : ((bs t.s).toList == []) = false := by rw [Lib.toList_data, bs_list, beq_eq_false_iff_ne]; exact hs
  have HSx := Lib.hid hs
  clear hs
  go_enter Try.func56, Try.ntmps56
  go_wp2_with (first | (go_at_call 54; refine (HN.out _).mono ?_; rintro e w' ⟨rfl, rfl⟩) | (go_at_call 69; refine (HWd.out _).mono ?_; rintro e w' ⟨rfl, rfl⟩) | (go_at_call 55; refine HAll.out.mono ?_; rintro e w5 ⟨b, rfl, hb, hb5⟩; have HB := Lib.hid (And.intro hb hb5); clear hb hb5))
  go_ret
  refine ⟨false, by first | rfl | simp, ⟨fun hf => absurd hf (by simp), fun hh => ?_⟩, HR.out.low⟩
  have hi := HInv.out.1 (HOK.out.1 hh.2).2.1
  exact absurd hi.1 HSx.out
end
section
open Go.RowKit Go.Proofs
def RefWalkS (op : Int) : Prop := ∀ (h : Int) (t : Tr) (A : Option Addr) (c : Nat) (w : World), t.op = op → 1 ≤ h → h ≤ 1000 → At w w.heap.size t (nodeV t (.slice A t.l.length c)) → (∀ y ∈ t.l, RefE (h - 1) y) → (∀ y ∈ t.l, RefS (h - 1) y) → t.l.length ≤ 9223372036854775807 →
 Calls Try.prog 38 #[nodeV t (.slice A t.l.length c), .int .i64 h] w (Says (isS t ∧ OK h t) w)
theorem row_elem {W1 : World} {l : List Tr} {A : Option Addr} {c : Nat} (hr : Row W1 W1.heap.size l (.slice A l.length c)) (hl : 0 < l.length) :
  ∃ g off, A = some ⟨g, off, none⟩ ∧ l.length ≤ c ∧ ∀ w', Below W1.heap.size W1 w' → ∀ k y, l[k]? = some y → ∃ Av cv, At w' w'.heap.size y (nodeV y (.slice Av y.l.length cv)) ∧ w'.cell? ⟨g, off + k * 5, none⟩ = some (.int .i64 y.op) ∧ w'.cell? ⟨g, off + k * 5 + 1, none⟩ = some (.string (bs y.s)) ∧ w'.cell? ⟨g, off + k * 5 + 2, none⟩ = some (.int .i64 y.n) ∧
   w'.cell? ⟨g, off + k * 5 + 3, none⟩ = some (.slice Av y.l.length cv) ∧ w'.cell? ⟨g, off + k * 5 + 4, none⟩ = some (.int .i64 y.line) := by
 obtain ⟨A', c', e', ⟨hlc, -⟩, hrow⟩ := hr
 cases e'
 obtain ⟨g, off, rfl, hg, ha⟩ := hrow hl
 refine ⟨g, off, rfl, hlc, fun w' hb k y hy => ?_⟩
 obtain ⟨Av, cv, hA, x⟩ := elem_at ha hg hb hy
 exact ⟨Av, cv, At.keep y hA hb.size fun _ _ => rfl, x⟩
theorem rst_30 : RefWalkS 30 := by
 intro h t A c w e h1 h2 hA hE hS hl
 obtain ⟨W1, hr⟩ : ∃ W, RIn h t A c w W := ⟨_, r_in h t A c w hA⟩
 have hbx := hr.cells
 have hiS : isS t := by unfold isS hasB; rw [e]; rfl
 have HR := Lib.hid hr
 have HN := Lib.hid hr.name
 have HX := Lib.hid (fun w' (hb : Below W1.heap.size W1 w') => box_in hb hr.box)
 have HOp := Lib.hid e
 have HOK := Lib.hid (ok_iff h t)
 have HInv := Lib.hid (inv_30 e)
 have HI := Lib.hid hiS
 have HE := Lib.hid hE
 have HS := Lib.hid hS
 have HLn := Lib.hid hl
 have hW : w.alloc (.cells #[.int .i64 30, .string (bs t.s), .int .i64 t.n, .slice A t.l.length c, .int .i64 t.line] 24) = W1 := by rw [← e]; exact hr.world
 unfold BoxAt at hbx
 rw [e] at hbx
 obtain ⟨f0, f1, f2, f3, f4⟩ := hbx
 unfold nodeV
 rw [e]
 obtain ⟨rn, en⟩ : ∃ b, isNameL t.s = b := ⟨_, rfl⟩
 rw [en] at HN
 have HEn := Lib.hid en
 clear hA hE hS hr hiS e en
 have HAll := Lib.hid (all_any (h - 1) t.l _ W1 HR.out.row HE.out hl)
 by_cases hn : t.n = 0
 ·have d2 : (t.n != 0) = false := by rw [hn]; rfl
  have HNx := Lib.hid hn
  clear hn
  cases rn with
  | true =>
   by_cases hk : t.l.length ≤ 1
   ·have HKx := Lib.hid hk
    go_enter Try.func38, Try.ntmps38
    go_wp2_with (first | (go_at_call 54; refine (HN.out _).mono ?_; rintro e w' ⟨rfl, rfl⟩) | (go_at_call 55; refine HAll.out.mono ?_; rintro e w5 ⟨b, rfl, hb, hb5⟩; have HB := Lib.hid (And.intro hb hb5); clear hb hb5))
    go_ret
    refine ⟨b, by first | rfl | simp, ?_, HR.out.low.trans (HB.out.2.mono HR.out.low.size)⟩
    rw [HB.out.1, HOK.out, HInv.out]
    constructor
    ·intro hh
     refine ⟨HI.out, by omega, ⟨HEn.out, HNx.out, ?_⟩, fun y hy => (hh y hy).2⟩
     by_cases hz : t.l.length = 0
     ·exact .inl (List.eq_nil_of_length_eq_zero hz)
     ·obtain ⟨a, hl0⟩ := len1 (l := t.l) (by have := HKx.out; omega)
      exact .inr ⟨a, hl0, (hh a (by rw [hl0]; simp)).1⟩
    ·rintro ⟨-, -, ⟨-, -, hl0 | ⟨a, hl0, ea⟩⟩, hp⟩ y hy
     ·rw [hl0] at hy
      cases hy
     ·refine ⟨?_, hp y hy⟩
      rw [hl0] at hy
      simp only [List.mem_cons, List.not_mem_nil, or_false] at hy
      subst hy
      exact ea
   ·have hk2 : 1 < t.l.length := by omega
    have HKx := Lib.hid hk
    go_enter Try.func38, Try.ntmps38
    go_wp2_with (first | (go_at_call 54; refine (HN.out _).mono ?_; rintro e w' ⟨rfl, rfl⟩))
    go_ret
    refine ⟨false, by first | rfl | simp, ⟨fun hf => absurd hf (by simp), fun hh => ?_⟩, HR.out.low⟩
    have hi := HInv.out.1 (HOK.out.1 hh.2).2.1
    exfalso
    rcases hi.2.2 with hl0 | ⟨a, hl0, -⟩
    ·exact HKx.out (by rw [hl0]; simp)
    ·exact HKx.out (by rw [hl0]; simp)
  | false =>
   go_enter Try.func38, Try.ntmps38
   go_wp2_with (first | (go_at_call 54; refine (HN.out _).mono ?_; rintro e w' ⟨rfl, rfl⟩))
   go_ret
   refine ⟨false, by first | rfl | simp, ⟨fun hf => absurd hf (by simp), fun hh => ?_⟩, HR.out.low⟩
   have hi := HInv.out.1 (HOK.out.1 hh.2).2.1
   exact absurd (hi.1.symm.trans HEn.out) (by simp)
 ·have d2 : (t.n != 0) = true := by simpa using hn
  have HNx := Lib.hid hn
  clear hn
  go_enter Try.func38, Try.ntmps38
  go_wp2_with (first | (go_at_call 54; refine (HN.out _).mono ?_; rintro e w' ⟨rfl, rfl⟩))
  go_ret
  refine ⟨false, by first | rfl | simp, ⟨fun hf => absurd hf (by simp), fun hh => ?_⟩, HR.out.low⟩
  have hi := HInv.out.1 (HOK.out.1 hh.2).2.1
  exact absurd hi.2.1 HNx.out
theorem rst_39 : RefWalkS 39 := by
 intro h t A c w e h1 h2 hA hE hS hl
 obtain ⟨W1, hr⟩ : ∃ W, RIn h t A c w W := ⟨_, r_in h t A c w hA⟩
 have hbx := hr.cells
 have hiS : isS t := by unfold isS hasB; rw [e]; rfl
 have HR := Lib.hid hr
 have HN := Lib.hid hr.name
 have HX := Lib.hid (fun w' (hb : Below W1.heap.size W1 w') => box_in hb hr.box)
 have HOp := Lib.hid e
 have HOK := Lib.hid (ok_iff h t)
 have HInv := Lib.hid (inv_39 e)
 have HI := Lib.hid hiS
 have HE := Lib.hid hE
 have HS := Lib.hid hS
 have HLn := Lib.hid hl
 have hW : w.alloc (.cells #[.int .i64 39, .string (bs t.s), .int .i64 t.n, .slice A t.l.length c, .int .i64 t.line] 24) = W1 := by rw [← e]; exact hr.world
 unfold BoxAt at hbx
 rw [e] at hbx
 obtain ⟨f0, f1, f2, f3, f4⟩ := hbx
 unfold nodeV
 rw [e]
 obtain ⟨rn, en⟩ : ∃ b, isNameL t.s = b := ⟨_, rfl⟩
 rw [en] at HN
 have HEn := Lib.hid en
 clear hA hE hS hr hiS e en
 by_cases hn : t.n = 0
 ·have d2 : (t.n != 0) = false := by rw [hn]; rfl
  have HNx := Lib.hid hn
  clear hn
  by_cases hs : t.s = []
  ·have d1 : ((bs t.s).toList == []) = true := by rw [hs, Lib.toList_data, bs_list]; rfl
   have HSx := Lib.hid hs
   clear hs
   by_cases hk : t.l.length = 0
   ·have d3 : ((t.l.length : Int) == 0) = true := by rw [hk]; rfl
    have HKx := Lib.hid hk
    clear hk
    go_enter Try.func38, Try.ntmps38
    go_wp2_with (first | (go_at_call 54; refine (HN.out _).mono ?_; rintro e w' ⟨rfl, rfl⟩))
    go_ret
    refine ⟨true, by first | rfl | simp, ⟨fun _ => ⟨HI.out, HOK.out.2 ⟨by omega, HInv.out.2 ⟨HSx.out, HNx.out, List.eq_nil_of_length_eq_zero HKx.out⟩, fun y hy => ?_⟩⟩, fun _ => rfl⟩, HR.out.low⟩
    rw [List.eq_nil_of_length_eq_zero HKx.out] at hy
    cases hy
   ·have d3 : ((t.l.length : Int) == 0) = false := by rw [beq_eq_false_iff_ne]; omega
    have HKx := Lib.hid hk
    clear hk
    go_enter Try.func38, Try.ntmps38
    go_wp2_with (first | (go_at_call 54; refine (HN.out _).mono ?_; rintro e w' ⟨rfl, rfl⟩))
    go_ret
    refine ⟨false, by first | rfl | simp, ⟨fun hf => absurd hf (by simp), fun hh => ?_⟩, HR.out.low⟩
    have hi := HInv.out.1 (HOK.out.1 hh.2).2.1
    exact absurd (by rw [hi.2.2]; rfl) HKx.out
  ·have d1 : ((bs t.s).toList == []) = false := by rw [Lib.toList_data, bs_list, beq_eq_false_iff_ne]; exact hs
   have HSx := Lib.hid hs
   clear hs
   go_enter Try.func38, Try.ntmps38
   go_wp2_with (first | (go_at_call 54; refine (HN.out _).mono ?_; rintro e w' ⟨rfl, rfl⟩))
   go_ret
   refine ⟨false, by first | rfl | simp, ⟨fun hf => absurd hf (by simp), fun hh => ?_⟩, HR.out.low⟩
   have hi := HInv.out.1 (HOK.out.1 hh.2).2.1
   exact absurd hi.1 HSx.out
 ·have d2 : (t.n != 0) = true := by simpa using hn
  have HNx := Lib.hid hn
  clear hn
  go_enter Try.func38, Try.ntmps38
  go_wp2_with (first | (go_at_call 54; refine (HN.out _).mono ?_; rintro e w' ⟨rfl, rfl⟩))
  go_ret
  refine ⟨false, by first | rfl | simp, ⟨fun hf => absurd hf (by simp), fun hh => ?_⟩, HR.out.low⟩
  have hi := HInv.out.1 (HOK.out.1 hh.2).2.1
  exact absurd hi.2.1 HNx.out
theorem rst_41 : RefWalkS 41 := by
 intro h t A c w e h1 h2 hA hE hS hl
 obtain ⟨W1, hr⟩ : ∃ W, RIn h t A c w W := ⟨_, r_in h t A c w hA⟩
 have hbx := hr.cells
 have hiS : isS t := by unfold isS hasB; rw [e]; rfl
 have HR := Lib.hid hr
 have HN := Lib.hid hr.name
 have HX := Lib.hid (fun w' (hb : Below W1.heap.size W1 w') => box_in hb hr.box)
 have HOp := Lib.hid e
 have HOK := Lib.hid (ok_iff h t)
 have HInv := Lib.hid (inv_41 e)
 have HI := Lib.hid hiS
 have HE := Lib.hid hE
 have HS := Lib.hid hS
 have HLn := Lib.hid hl
 have hW : w.alloc (.cells #[.int .i64 41, .string (bs t.s), .int .i64 t.n, .slice A t.l.length c, .int .i64 t.line] 24) = W1 := by rw [← e]; exact hr.world
 unfold BoxAt at hbx
 rw [e] at hbx
 obtain ⟨f0, f1, f2, f3, f4⟩ := hbx
 unfold nodeV
 rw [e]
 obtain ⟨rn, en⟩ : ∃ b, isNameL t.s = b := ⟨_, rfl⟩
 rw [en] at HN
 have HEn := Lib.hid en
 clear hA hE hS hr hiS e en
 have HFn := Lib.hid (fun_any (h - 1) t.l _ W1 HR.out.row HE.out HS.out hl)
 by_cases hn : t.n = 0
 ·have d2 : (t.n != 0) = false := by rw [hn]; rfl
  have HNx := Lib.hid hn
  clear hn
  cases rn with
  | true =>
   go_enter Try.func38, Try.ntmps38
   go_wp2_with (first | (go_at_call 54; refine (HN.out _).mono ?_; rintro e w' ⟨rfl, rfl⟩) | (go_at_call 57; refine HFn.out.mono ?_; rintro e w5 ⟨b, rfl, hb, hb5⟩; have HB := Lib.hid (And.intro hb hb5); clear hb hb5))
   go_ret
   refine ⟨b, by first | rfl | simp, ?_, HR.out.low.trans (HB.out.2.mono HR.out.low.size)⟩
   rw [HB.out.1, HOK.out, HInv.out]
   constructor
   ·rintro ⟨hle, xs, b', hl0, hx, hb1, hb2⟩
    refine ⟨HI.out, by omega, ⟨HEn.out, HNx.out, hle, xs, b', hl0, fun x hx' => (hx x hx').1, hb1⟩, fun y hy => ?_⟩
    rw [hl0, List.mem_append, List.mem_singleton] at hy
    rcases hy with hy | rfl
    ·exact (hx y hy).2
    ·exact hb2
   ·rintro ⟨-, -, ⟨-, -, hle, xs, b', hl0, hx, hb1⟩, hp⟩
    exact ⟨hle, xs, b', hl0, fun x hx' => ⟨hx x hx', hp x (by rw [hl0]; simp [hx'])⟩, hb1, hp b' (by rw [hl0]; simp)⟩
  | false =>
   go_enter Try.func38, Try.ntmps38
   go_wp2_with (first | (go_at_call 54; refine (HN.out _).mono ?_; rintro e w' ⟨rfl, rfl⟩))
   go_ret
   refine ⟨false, by first | rfl | simp, ⟨fun hf => absurd hf (by simp), fun hh => ?_⟩, HR.out.low⟩
   have hi := HInv.out.1 (HOK.out.1 hh.2).2.1
   exact absurd (hi.1.symm.trans HEn.out) (by simp)
 ·have d2 : (t.n != 0) = true := by simpa using hn
  have HNx := Lib.hid hn
  clear hn
  go_enter Try.func38, Try.ntmps38
  go_wp2_with (first | (go_at_call 54; refine (HN.out _).mono ?_; rintro e w' ⟨rfl, rfl⟩))
  go_ret
  refine ⟨false, by first | rfl | simp, ⟨fun hf => absurd hf (by simp), fun hh => ?_⟩, HR.out.low⟩
  have hi := HInv.out.1 (HOK.out.1 hh.2).2.1
  exact absurd hi.2.1 HNx.out
end
end Go.Proofs.Ytbpodijcndglgaa
