/- gumshoeref03.stmt. gumshoeref03.stmt. gumshoeref03.stmt. gumshoeref03.stmt: blocks; what is none. -/
import Derived.Test.YtbpodijcndglgaaProg
import Derived.Test.YtbpodijcndglgaaPn27
set_option linter.unusedSimpArgs false
set_option linter.unusedVariables false
set_option maxRecDepth 100000
set_option maxHeartbeats 40000000
namespace Go.Proofs.Ytbpodijcndglgaa
section
open Go.RowKit Go.Proofs
theorem rst_31 : RefWalkS 31 := by
 intro h t A c w e h1 h2 hA hE hS hl
 obtain ⟨W1, hr⟩ : ∃ W, RIn h t A c w W := ⟨_, r_in h t A c w hA⟩
 have hbx := hr.cells
 have hiS : isS t := by unfold isS hasB; rw [e]; rfl
 have HR := Lib.hid hr
 have HN := Lib.hid hr.name
 have HX := Lib.hid (fun w' (hb : Below W1.heap.size W1 w') => box_in hb hr.box)
 have HOp := Lib.hid e
 have HOK := Lib.hid (ok_iff h t)
 have HInv := Lib.hid (inv_31 e)
 have HI := Lib.hid hiS
 have HE := Lib.hid hE
 have HS := Lib.hid hS
 have HLn := Lib.hid hl
 have hW : w.alloc (.cells #[.int .i64 31, .string (bs t.s), .int .i64 t.n, .slice A t.l.length c, .int .i64 t.line] 24) = W1 := by rw [← e]; exact hr.world
 unfold BoxAt at hbx
 rw [e] at hbx
 obtain ⟨f0, f1, f2, f3, f4⟩ := hbx
 unfold nodeV
 rw [e]
 obtain ⟨rn, en⟩ : ∃ b, isNameL t.s = b := ⟨_, rfl⟩
 rw [en] at HN
 have HEn := Lib.hid en
 clear hA hE hS hr hiS e en
 have HAll := Lib.hid (all_any (h - 1) t.l _ W1 HR.out.row HE.out hl)
 by_cases hn : t.n = 0
 ·have d2 : (t.n != 0) = false := by rw [hn]; rfl
  have HNx := Lib.hid hn
  clear hn
  by_cases hs : t.s = []
  ·have d1 : ((bs t.s).toList == []) = true := by rw [hs, Lib.toList_data, bs_list]; rfl
   have HSx := Lib.hid hs
   clear hs
   by_cases hk : t.l.length = 1
   ·have d3 : ((t.l.length : Int) == 1) = true := by rw [hk]; rfl
    have HKx := Lib.hid hk
    clear hk
    go_enter Try.func38, Try.ntmps38
    go_wp2_with (first | (go_at_call 54; refine (HN.out _).mono ?_; rintro e w' ⟨rfl, rfl⟩) | (go_at_call 55; refine HAll.out.mono ?_; rintro e w5 ⟨b, rfl, hb, hb5⟩; have HB := Lib.hid (And.intro hb hb5); clear hb hb5))
    go_ret
    refine ⟨b, by first | rfl | simp, ?_, HR.out.low.trans (HB.out.2.mono HR.out.low.size)⟩
    rw [HB.out.1, HOK.out, HInv.out]
    constructor
    ·intro hh
     obtain ⟨a, hl0⟩ := len1 HKx.out
     exact ⟨HI.out, by omega, ⟨HSx.out, HNx.out, a, hl0, (hh a (by rw [hl0]; simp)).1⟩, fun y hy => (hh y hy).2⟩
    ·rintro ⟨-, -, ⟨-, -, a, hl0, ea⟩, hp⟩ y hy
     refine ⟨?_, hp y hy⟩
     rw [hl0] at hy
     simp only [List.mem_cons, List.not_mem_nil, or_false] at hy
     subst hy
     exact ea
   ·have d3 : ((t.l.length : Int) == 1) = false := by simp; omega
    have HKx := Lib.hid hk
    clear hk
    go_enter Try.func38, Try.ntmps38
    go_wp2_with (first | (go_at_call 54; refine (HN.out _).mono ?_; rintro e w' ⟨rfl, rfl⟩))
    go_ret
    refine ⟨false, by first | rfl | simp, ⟨fun hf => absurd hf (by simp), fun hh => ?_⟩, HR.out.low⟩
    have hi := HInv.out.1 (HOK.out.1 hh.2).2.1
    obtain ⟨-, -, a, hl0, -⟩ := hi
    exact absurd (by rw [hl0]; rfl) HKx.out
  ·have d1 : ((bs t.s).toList == []) = false := by rw [Lib.toList_data, bs_list, beq_eq_false_iff_ne]; exact hs
   have HSx := Lib.hid hs
   clear hs
   go_enter Try.func38, Try.ntmps38
   go_wp2_with (first | (go_at_call 54; refine (HN.out _).mono ?_; rintro e w' ⟨rfl, rfl⟩))
   go_ret
   refine ⟨false, by first | rfl | simp, ⟨fun hf => absurd hf (by simp), fun hh => ?_⟩, HR.out.low⟩
   have hi := HInv.out.1 (HOK.out.1 hh.2).2.1
   exact absurd hi.1 HSx.out
 ·have d2 : (t.n != 0) = true := by simpa using hn
  have HNx := Lib.hid hn
  clear hn
  go_enter Try.func38, Try.ntmps38
  go_wp2_with (first | (go_at_call 54; refine (HN.out _).mono ?_; rintro e w' ⟨rfl, rfl⟩))
  go_ret
  refine ⟨false, by first | rfl | simp, ⟨fun hf => absurd hf (by simp), fun hh => ?_⟩, HR.out.low⟩
  have hi := HInv.out.1 (HOK.out.1 hh.2).2.1
  exact absurd hi.2.1 HNx.out
theorem rst_36 : RefWalkS 36 := by
 intro h t A c w e h1 h2 hA hE hS hl
 obtain ⟨W1, hr⟩ : ∃ W, RIn h t A c w W := ⟨_, r_in h t A c w hA⟩
 have hbx := hr.cells
 have hiS : isS t := by unfold isS hasB; rw [e]; rfl
 have HR := Lib.hid hr
 have HN := Lib.hid hr.name
 have HX := Lib.hid (fun w' (hb : Below W1.heap.size W1 w') => box_in hb hr.box)
 have HOp := Lib.hid e
 have HOK := Lib.hid (ok_iff h t)
 have HInv := Lib.hid (inv_36 e)
 have HI := Lib.hid hiS
 have HE := Lib.hid hE
 have HS := Lib.hid hS
 have HLn := Lib.hid hl
 have hW : w.alloc (.cells #[.int .i64 36, .string (bs t.s), .int .i64 t.n, .slice A t.l.length c, .int .i64 t.line] 24) = W1 := by rw [← e]; exact hr.world
 unfold BoxAt at hbx
 rw [e] at hbx
 obtain ⟨f0, f1, f2, f3, f4⟩ := hbx
 unfold nodeV
 rw [e]
 obtain ⟨rn, en⟩ : ∃ b, isNameL t.s = b := ⟨_, rfl⟩
 rw [en] at HN
 have HEn := Lib.hid en
 clear hA hE hS hr hiS e en
 have HAll := Lib.hid (all_any (h - 1) t.l _ W1 HR.out.row HE.out hl)
 by_cases hn : t.n = 0
 ·have d2 : (t.n != 0) = false := by rw [hn]; rfl
  have HNx := Lib.hid hn
  clear hn
  by_cases hs : t.s = []
  ·have d1 : ((bs t.s).toList == []) = true := by rw [hs, Lib.toList_data, bs_list]; rfl
   have HSx := Lib.hid hs
   clear hs
   by_cases hk : t.l.length ≤ 1
   ·have HKx := Lib.hid hk
    go_enter Try.func38, Try.ntmps38
    go_wp2_with (first | (go_at_call 54; refine (HN.out _).mono ?_; rintro e w' ⟨rfl, rfl⟩) | (go_at_call 55; refine HAll.out.mono ?_; rintro e w5 ⟨b, rfl, hb, hb5⟩; have HB := Lib.hid (And.intro hb hb5); clear hb hb5))
    go_ret
    refine ⟨b, by first | rfl | simp, ?_, HR.out.low.trans (HB.out.2.mono HR.out.low.size)⟩
    rw [HB.out.1, HOK.out, HInv.out]
    constructor
    ·intro hh
     refine ⟨HI.out, by omega, ⟨HSx.out, HNx.out, ?_⟩, fun y hy => (hh y hy).2⟩
     by_cases hz : t.l.length = 0
     ·exact .inl (List.eq_nil_of_length_eq_zero hz)
     ·obtain ⟨a, hl0⟩ := len1 (l := t.l) (by have := HKx.out; omega)
      exact .inr ⟨a, hl0, (hh a (by rw [hl0]; simp)).1⟩
    ·rintro ⟨-, -, ⟨-, -, hl0 | ⟨a, hl0, ea⟩⟩, hp⟩ y hy
     ·rw [hl0] at hy
      cases hy
     ·refine ⟨?_, hp y hy⟩
      rw [hl0] at hy
      simp only [List.mem_cons, List.not_mem_nil, or_false] at hy
      subst hy
      exact ea
   ·have hk2 : 1 < t.l.length := by omega
    have HKx := Lib.hid hk
    go_enter Try.func38, Try.ntmps38
    go_wp2_with (first | (go_at_call 54; refine (HN.out _).mono ?_; rintro e w' ⟨rfl, rfl⟩))
    go_ret
    refine ⟨false, by first | rfl | simp, ⟨fun hf => absurd hf (by simp), fun hh => ?_⟩, HR.out.low⟩
    have hi := HInv.out.1 (HOK.out.1 hh.2).2.1
    exfalso
    rcases hi.2.2 with hl0 | ⟨a, hl0, -⟩
    ·exact HKx.out (by rw [hl0]; simp)
    ·exact HKx.out (by rw [hl0]; simp)
  ·have d1 : ((bs t.s).toList == []) = false := by rw [Lib.toList_data, bs_list, beq_eq_false_iff_ne]; exact hs
   have HSx := Lib.hid hs
   clear hs
   go_enter Try.func38, Try.ntmps38
   go_wp2_with (first | (go_at_call 54; refine (HN.out _).mono ?_; rintro e w' ⟨rfl, rfl⟩))
   go_ret
   refine ⟨false, by first | rfl | simp, ⟨fun hf => absurd hf (by simp), fun hh => ?_⟩, HR.out.low⟩
   have hi := HInv.out.1 (HOK.out.1 hh.2).2.1
   exact absurd hi.1 HSx.out
 ·have d2 : (t.n != 0) = true := by simpa using hn
  have HNx := Lib.hid hn
  clear hn
  go_enter Try.func38, Try.ntmps38
  go_wp2_with (first | (go_at_call 54; refine (HN.out _).mono ?_; rintro e w' ⟨rfl, rfl⟩))
  go_ret
  refine ⟨false, by first | rfl | simp, ⟨fun hf => absurd hf (by simp), fun hh => ?_⟩, HR.out.low⟩
  have hi := HInv.out.1 (HOK.out.1 hh.2).2.1
  exact absurd hi.2.1 HNx.out
theorem rst_37 : RefWalkS 37 := by
 intro h t A c w e h1 h2 hA hE hS hl
 obtain ⟨W1, hr⟩ : ∃ W, RIn h t A c w W := ⟨_, r_in h t A c w hA⟩
 have hbx := hr.cells
 have hiS : isS t := by unfold isS hasB; rw [e]; rfl
 have HR := Lib.hid hr
 have HN := Lib.hid hr.name
 have HX := Lib.hid (fun w' (hb : Below W1.heap.size W1 w') => box_in hb hr.box)
 have HOp := Lib.hid e
 have HOK := Lib.hid (ok_iff h t)
 have HInv := Lib.hid (inv_37 e)
 have HI := Lib.hid hiS
 have HE := Lib.hid hE
 have HS := Lib.hid hS
 have HLn := Lib.hid hl
 have hW : w.alloc (.cells #[.int .i64 37, .string (bs t.s), .int .i64 t.n, .slice A t.l.length c, .int .i64 t.line] 24) = W1 := by rw [← e]; exact hr.world
 unfold BoxAt at hbx
 rw [e] at hbx
 obtain ⟨f0, f1, f2, f3, f4⟩ := hbx
 unfold nodeV
 rw [e]
 obtain ⟨rn, en⟩ : ∃ b, isNameL t.s = b := ⟨_, rfl⟩
 rw [en] at HN
 have HEn := Lib.hid en
 clear hA hE hS hr hiS e en
 have HAll := Lib.hid (all_any (h - 1) t.l _ W1 HR.out.row HE.out hl)
 by_cases hn : t.n = 0
 ·have d2 : (t.n != 0) = false := by rw [hn]; rfl
  have HNx := Lib.hid hn
  clear hn
  by_cases hs : t.s = []
  ·have d1 : ((bs t.s).toList == []) = true := by rw [hs, Lib.toList_data, bs_list]; rfl
   have HSx := Lib.hid hs
   clear hs
   by_cases hk : t.l.length = 1
   ·have d3 : ((t.l.length : Int) == 1) = true := by rw [hk]; rfl
    have HKx := Lib.hid hk
    clear hk
    go_enter Try.func38, Try.ntmps38
    go_wp2_with (first | (go_at_call 54; refine (HN.out _).mono ?_; rintro e w' ⟨rfl, rfl⟩) | (go_at_call 55; refine HAll.out.mono ?_; rintro e w5 ⟨b, rfl, hb, hb5⟩; have HB := Lib.hid (And.intro hb hb5); clear hb hb5))
    go_ret
    refine ⟨b, by first | rfl | simp, ?_, HR.out.low.trans (HB.out.2.mono HR.out.low.size)⟩
    rw [HB.out.1, HOK.out, HInv.out]
    constructor
    ·intro hh
     obtain ⟨a, hl0⟩ := len1 HKx.out
     exact ⟨HI.out, by omega, ⟨HSx.out, HNx.out, a, hl0, (hh a (by rw [hl0]; simp)).1⟩, fun y hy => (hh y hy).2⟩
    ·rintro ⟨-, -, ⟨-, -, a, hl0, ea⟩, hp⟩ y hy
     refine ⟨?_, hp y hy⟩
     rw [hl0] at hy
     simp only [List.mem_cons, List.not_mem_nil, or_false] at hy
     subst hy
     exact ea
   ·have d3 : ((t.l.length : Int) == 1) = false := by simp; omega
    have HKx := Lib.hid hk
    clear hk
    go_enter Try.func38, Try.ntmps38
    go_wp2_with (first | (go_at_call 54; refine (HN.out _).mono ?_; rintro e w' ⟨rfl, rfl⟩))
    go_ret
    refine ⟨false, by first | rfl | simp, ⟨fun hf => absurd hf (by simp), fun hh => ?_⟩, HR.out.low⟩
    have hi := HInv.out.1 (HOK.out.1 hh.2).2.1
    obtain ⟨-, -, a, hl0, -⟩ := hi
    exact absurd (by rw [hl0]; rfl) HKx.out
  ·have d1 : ((bs t.s).toList == []) = false := by rw [Lib.toList_data, bs_list, beq_eq_false_iff_ne]; exact hs
   have HSx := Lib.hid hs
   clear hs
   go_enter Try.func38, Try.ntmps38
   go_wp2_with (first | (go_at_call 54; refine (HN.out _).mono ?_; rintro e w' ⟨rfl, rfl⟩))
   go_ret
   refine ⟨false, by first | rfl | simp, ⟨fun hf => absurd hf (by simp), fun hh => ?_⟩, HR.out.low⟩
   have hi := HInv.out.1 (HOK.out.1 hh.2).2.1
   exact absurd hi.1 HSx.out
 ·have d2 : (t.n != 0) = true := by simpa using hn
  have HNx := Lib.hid hn
  clear hn
  go_enter Try.func38, Try.ntmps38
  go_wp2_with (first | (go_at_call 54; refine (HN.out _).mono ?_; rintro e w' ⟨rfl, rfl⟩))
  go_ret
  refine ⟨false, by first | rfl | simp, ⟨fun hf => absurd hf (by simp), fun hh => ?_⟩, HR.out.low⟩
  have hi := HInv.out.1 (HOK.out.1 hh.2).2.1
  exact absurd hi.2.1 HNx.out
theorem rst_40 : RefWalkS 40 := by
 intro h t A c w e h1 h2 hA hE hS hl
 obtain ⟨W1, hr⟩ : ∃ W, RIn h t A c w W := ⟨_, r_in h t A c w hA⟩
 have hbx := hr.cells
 have hiS : isS t := by unfold isS hasB; rw [e]; rfl
 have HR := Lib.hid hr
 have HN := Lib.hid hr.name
 have HX := Lib.hid (fun w' (hb : Below W1.heap.size W1 w') => box_in hb hr.box)
 have HOp := Lib.hid e
 have HOK := Lib.hid (ok_iff h t)
 have HInv := Lib.hid (inv_40 e)
 have HI := Lib.hid hiS
 have HE := Lib.hid hE
 have HS := Lib.hid hS
 have HLn := Lib.hid hl
 have hW : w.alloc (.cells #[.int .i64 40, .string (bs t.s), .int .i64 t.n, .slice A t.l.length c, .int .i64 t.line] 24) = W1 := by rw [← e]; exact hr.world
 unfold BoxAt at hbx
 rw [e] at hbx
 obtain ⟨f0, f1, f2, f3, f4⟩ := hbx
 unfold nodeV
 rw [e]
 obtain ⟨rn, en⟩ : ∃ b, isNameL t.s = b := ⟨_, rfl⟩
 rw [en] at HN
 have HEn := Lib.hid en
 clear hA hE hS hr hiS e en
 by_cases hn : t.n = 0
 ·have d2 : (t.n != 0) = false := by rw [hn]; rfl
  have HNx := Lib.hid hn
  clear hn
  by_cases hs : t.s = []
  ·have d1 : ((bs t.s).toList == []) = true := by rw [hs, Lib.toList_data, bs_list]; rfl
   have HSx := Lib.hid hs
   clear hs
   by_cases hk : t.l.length = 0
   ·have d3 : ((t.l.length : Int) == 0) = true := by rw [hk]; rfl
    have HKx := Lib.hid hk
    clear hk
    go_enter Try.func38, Try.ntmps38
    go_wp2_with (first | (go_at_call 54; refine (HN.out _).mono ?_; rintro e w' ⟨rfl, rfl⟩))
    go_ret
    refine ⟨true, by first | rfl | simp, ⟨fun _ => ⟨HI.out, HOK.out.2 ⟨by omega, HInv.out.2 ⟨HSx.out, HNx.out, List.eq_nil_of_length_eq_zero HKx.out⟩, fun y hy => ?_⟩⟩, fun _ => rfl⟩, HR.out.low⟩
    rw [List.eq_nil_of_length_eq_zero HKx.out] at hy
    cases hy
   ·have d3 : ((t.l.length : Int) == 0) = false := by rw [beq_eq_false_iff_ne]; omega
    have HKx := Lib.hid hk
    clear hk
    go_enter Try.func38, Try.ntmps38
    go_wp2_with (first | (go_at_call 54; refine (HN.out _).mono ?_; rintro e w' ⟨rfl, rfl⟩))
    go_ret
    refine ⟨false, by first | rfl | simp, ⟨fun hf => absurd hf (by simp), fun hh => ?_⟩, HR.out.low⟩
    have hi := HInv.out.1 (HOK.out.1 hh.2).2.1
    exact absurd (by rw [hi.2.2]; rfl) HKx.out
  ·have d1 : ((bs t.s).toList == []) = false := by rw [Lib.toList_data, bs_list, beq_eq_false_iff_ne]; exact hs
   have HSx := Lib.hid hs
   clear hs
   go_enter Try.func38, Try.ntmps38
   go_wp2_with (first | (go_at_call 54; refine (HN.out _).mono ?_; rintro e w' ⟨rfl, rfl⟩))
   go_ret
   refine ⟨false, by first | rfl | simp, ⟨fun hf => absurd hf (by simp), fun hh => ?_⟩, HR.out.low⟩
   have hi := HInv.out.1 (HOK.out.1 hh.2).2.1
   exact absurd hi.1 HSx.out
 ·have d2 : (t.n != 0) = true := by simpa using hn
  have HNx := Lib.hid hn
  clear hn
  go_enter Try.func38, Try.ntmps38
  go_wp2_with (first | (go_at_call 54; refine (HN.out _).mono ?_; rintro e w' ⟨rfl, rfl⟩))
  go_ret
  refine ⟨false, by first | rfl | simp, ⟨fun hf => absurd hf (by simp), fun hh => ?_⟩, HR.out.low⟩
  have hi := HInv.out.1 (HOK.out.1 hh.2).2.1
  exact absurd hi.2.1 HNx.out
open Go.RowKit Go.Proofs
theorem rst_34 : RefWalkS 34 := by
 intro h t A c w e h1 h2 hA hE hS hl
 obtain ⟨W1, hr⟩ : ∃ W, RIn h t A c w W := ⟨_, r_in h t A c w hA⟩
 have hbx := hr.cells
 have hiS : isS t := by unfold isS hasB; rw [e]; rfl
 have HR := Lib.hid hr
 have HN := Lib.hid hr.name
 have HX := Lib.hid (fun w' (hb : Below W1.heap.size W1 w') => box_in hb hr.box)
 have HOp := Lib.hid e
 have HOK := Lib.hid (ok_iff h t)
 have HInv := Lib.hid (inv_34 e)
 have HI := Lib.hid hiS
 have HE := Lib.hid hE
 have HS := Lib.hid hS
 have HLn := Lib.hid hl
 have hW : w.alloc (.cells #[.int .i64 34, .string (bs t.s), .int .i64 t.n, .slice A t.l.length c, .int .i64 t.line] 24) = W1 := by rw [← e]; exact hr.world
 unfold BoxAt at hbx
 rw [e] at hbx
 obtain ⟨f0, f1, f2, f3, f4⟩ := hbx
 unfold nodeV
 rw [e]
 obtain ⟨rn, en⟩ : ∃ b, isNameL t.s = b := ⟨_, rfl⟩
 rw [en] at HN
 have HEn := Lib.hid en
 clear hA hE hS hr hiS e en
 by_cases hn : t.n = 0
 ·have d2 : (t.n != 0) = false := by rw [hn]; rfl
  have HNx := Lib.hid hn
  clear hn
  by_cases hs : t.s = []
  ·have d1 : ((bs t.s).toList == []) = true := by rw [hs, Lib.toList_data, bs_list]; rfl
   have HSx := Lib.hid hs
   clear hs
   by_cases hk : t.l.length = 2
   ·have d3 : ((t.l.length : Int) == 2) = true := by rw [hk]; rfl
    have HKx := Lib.hid hk
    clear hk
    have hk := HKx.out
    obtain ⟨a, b, hl0⟩ := len2 hk
    obtain ⟨A0, off, rfl, hlc, hEl⟩ := row_elem HR.out.row (by omega)
    have HEl := Lib.hid hEl
    have HL0 := Lib.hid hl0
    rw [hk] at f3 hW hlc ⊢
    have e0 : t.l[0]? = some a := by rw [hl0]; rfl
    have m0 : a ∈ t.l := by rw [hl0]; simp
    have e1 : t.l[1]? = some b := by rw [hl0]; rfl
    have m1 : b ∈ t.l := by rw [hl0]; simp
    have HM := Lib.hid (And.intro e0 (And.intro e1 (And.intro m0 m1)))
    clear hl0 hk hEl e0 m0 e1 m1
    clear d3
    have hb0 : Below W1.heap.size W1 W1 := Below.refl _ _
    have HB0 := Lib.hid hb0
    clear hb0
    obtain ⟨Av0, cv0, hAt0, x0, x1, x2, x3, x4⟩ := HEl.out W1 HB0.out 0 a HM.out.1
    have z0 : W1.cell? ⟨A0, off, none⟩ = some (.int .i64 a.op) := x0
    have z1 : W1.cell? ⟨A0, off + 1, none⟩ = some (.string (bs a.s)) := x1
    have z2 : W1.cell? ⟨A0, off + 2, none⟩ = some (.int .i64 a.n) := x2
    have z3 : W1.cell? ⟨A0, off + 3, none⟩ = some (.slice Av0 a.l.length cv0) := x3
    have z4 : W1.cell? ⟨A0, off + 4, none⟩ = some (.int .i64 a.line) := x4
    have y1 := x1
    have y2 := x2
    have y3 := x3
    have y4 := x4
    clear x0 x1 x2 x3 x4
    have hc := HE.out a HM.out.2.2.1 _ W1 hAt0
    unfold nodeV at hc
    have HC0 := Lib.hid hc
    clear hc hAt0
    go_enter Try.func38, Try.ntmps38
    go_wp2_with (first | (go_at_call 54; refine (HN.out _).mono ?_; rintro e w' ⟨rfl, rfl⟩))
    go_at_call 56
    refine HC0.out.mono ?_
    rintro e w1 ⟨b0, rfl, hb, hb5⟩
    have HS0 := Lib.hid hb
    have HB1 := Lib.hid (HB0.out.trans (hb5.mono HB0.out.size))
    clear hb hb5 z0 z1 z2 z3 z4 y1 y2 y3 y4
    clear f0 f1 f2 f3 f4
    obtain ⟨f0, f1, f2, f3, f4⟩ := HX.out w1 HB1.out
    rw [HOp.out] at f0
    rw [HKx.out] at f3
    obtain ⟨Av1, cv1, hAt1, x0, x1, x2, x3, x4⟩ := HEl.out w1 HB1.out 1 b HM.out.2.1
    have z0 : w1.cell? ⟨A0, off + 5, none⟩ = some (.int .i64 b.op) := x0
    have z1 : w1.cell? ⟨A0, off + 6, none⟩ = some (.string (bs b.s)) := x1
    have z2 : w1.cell? ⟨A0, off + 7, none⟩ = some (.int .i64 b.n) := x2
    have z3 : w1.cell? ⟨A0, off + 8, none⟩ = some (.slice Av1 b.l.length cv1) := x3
    have z4 : w1.cell? ⟨A0, off + 9, none⟩ = some (.int .i64 b.line) := x4
    have y1 : w1.cell? ⟨A0, off + 5 + 1, none⟩ = some (.string (bs b.s)) := x1
    have y2 : w1.cell? ⟨A0, off + 5 + 2, none⟩ = some (.int .i64 b.n) := x2
    have y3 : w1.cell? ⟨A0, off + 5 + 3, none⟩ = some (.slice Av1 b.l.length cv1) := x3
    have y4 : w1.cell? ⟨A0, off + 5 + 4, none⟩ = some (.int .i64 b.line) := x4
    clear x0 x1 x2 x3 x4
    have hc := block_any (h - 1) b (HS.out b HM.out.2.2.2) _ w1 hAt1
    unfold nodeV at hc
    have HC1 := Lib.hid hc
    clear hc hAt1
    cases b0 with
    | true =>
     go_wp2_with fail
     go_at_call 25
     refine HC1.out.mono ?_
     rintro e w2 ⟨b1, rfl, hb, hb5⟩
     have HS1 := Lib.hid hb
     have HB2 := Lib.hid (HB1.out.trans (hb5.mono HB1.out.size))
     clear hb hb5 z0 z1 z2 z3 z4 y1 y2 y3 y4
     go_wp2
     go_ret
     refine ⟨b1, by first | rfl | simp, ?_, HR.out.low.trans (HB2.out.mono HR.out.low.size)⟩
     rw [HS1.out]
     constructor
     ·intro hx1
      have hx0 := HS0.out.1 (by trivial)
      refine ⟨HI.out, HOK.out.2 ⟨by omega, HInv.out.2 ⟨HSx.out, HNx.out, a, b, HL0.out, hx0.1, hx1.1⟩, fun y hy => ?_⟩⟩
      rw [HL0.out] at hy
      simp only [List.mem_cons, List.not_mem_nil, or_false] at hy
      rcases hy with rfl | rfl
      ·exact hx0.2
      ·exact hx1.2
     ·intro hh
      have ho := (HOK.out.1 hh.2).2.2
      have hi := (HInv.out.1 (HOK.out.1 hh.2).2.1).2.2
      obtain ⟨a9, b9, hl9, g0, g1⟩ := hi
      rw [HL0.out] at hl9
      cases hl9
      exact ⟨g1, ho b HM.out.2.2.2⟩
    | false =>
     go_wp2
     go_ret
     refine ⟨false, by first | rfl | simp, ⟨fun hf => absurd hf (by simp), fun hh => ?_⟩, HR.out.low.trans (HB1.out.mono HR.out.low.size)⟩
     have ho := (HOK.out.1 hh.2).2.2
     have hi := (HInv.out.1 (HOK.out.1 hh.2).2.1).2.2
     obtain ⟨a9, b9, hl9, g0, g1⟩ := hi
     rw [HL0.out] at hl9
     cases hl9
     exact absurd (HS0.out.2 ⟨g0, ho a HM.out.2.2.1⟩) (by simp)
   ·have d3 : ((t.l.length : Int) == 2) = false := by simp; omega
    have HKx := Lib.hid hk
    clear hk
    go_enter Try.func38, Try.ntmps38
    go_wp2_with (first | (go_at_call 54; refine (HN.out _).mono ?_; rintro e w' ⟨rfl, rfl⟩))
    go_ret
    refine ⟨false, by first | rfl | simp, ⟨fun hf => absurd hf (by simp), fun hh => ?_⟩, HR.out.low⟩
    have hi := HInv.out.1 (HOK.out.1 hh.2).2.1
    obtain ⟨-, -, a8, b8, hl8, -⟩ := hi
    exact absurd (by rw [hl8]; rfl) HKx.out
  ·have d1 : ((bs t.s).toList == []) = false := by rw [Lib.toList_data, bs_list, beq_eq_false_iff_ne]; exact hs
   have HSx := Lib.hid hs
   clear hs
   go_enter Try.func38, Try.ntmps38
   go_wp2_with (first | (go_at_call 54; refine (HN.out _).mono ?_; rintro e w' ⟨rfl, rfl⟩))
   go_ret
   refine ⟨false, by first | rfl | simp, ⟨fun hf => absurd hf (by simp), fun hh => ?_⟩, HR.out.low⟩
   have hi := HInv.out.1 (HOK.out.1 hh.2).2.1
   exact absurd hi.1 HSx.out
 ·have d2 : (t.n != 0) = true := by simpa using hn
  have HNx := Lib.hid hn
  clear hn
  go_enter Try.func38, Try.ntmps38
  go_wp2_with (first | (go_at_call 54; refine (HN.out _).mono ?_; rintro e w' ⟨rfl, rfl⟩))
  go_ret
  refine ⟨false, by first | rfl | simp, ⟨fun hf => absurd hf (by simp), fun hh => ?_⟩, HR.out.low⟩
  have hi := HInv.out.1 (HOK.out.1 hh.2).2.1
  exact absurd hi.2.1 HNx.out
theorem rst_35 : RefWalkS 35 := by
 intro h t A c w e h1 h2 hA hE hS hl
 obtain ⟨W1, hr⟩ : ∃ W, RIn h t A c w W := ⟨_, r_in h t A c w hA⟩
 have hbx := hr.cells
 have hiS : isS t := by unfold isS hasB; rw [e]; rfl
 have HR := Lib.hid hr
 have HN := Lib.hid hr.name
 have HX := Lib.hid (fun w' (hb : Below W1.heap.size W1 w') => box_in hb hr.box)
 have HOp := Lib.hid e
 have HOK := Lib.hid (ok_iff h t)
 have HInv := Lib.hid (inv_35 e)
 have HI := Lib.hid hiS
 have HE := Lib.hid hE
 have HS := Lib.hid hS
 have HLn := Lib.hid hl
 have hW : w.alloc (.cells #[.int .i64 35, .string (bs t.s), .int .i64 t.n, .slice A t.l.length c, .int .i64 t.line] 24) = W1 := by rw [← e]; exact hr.world
 unfold BoxAt at hbx
 rw [e] at hbx
 obtain ⟨f0, f1, f2, f3, f4⟩ := hbx
 unfold nodeV
 rw [e]
 obtain ⟨rn, en⟩ : ∃ b, isNameL t.s = b := ⟨_, rfl⟩
 rw [en] at HN
 have HEn := Lib.hid en
 clear hA hE hS hr hiS e en
 by_cases hn : t.n = 0
 ·have d2 : (t.n != 0) = false := by rw [hn]; rfl
  have HNx := Lib.hid hn
  clear hn
  cases rn with
  | true =>
   by_cases hk : t.l.length = 2
   ·have d3 : ((t.l.length : Int) == 2) = true := by rw [hk]; rfl
    have HKx := Lib.hid hk
    clear hk
    have hk := HKx.out
    obtain ⟨a, b, hl0⟩ := len2 hk
    obtain ⟨A0, off, rfl, hlc, hEl⟩ := row_elem HR.out.row (by omega)
    have HEl := Lib.hid hEl
    have HL0 := Lib.hid hl0
    rw [hk] at f3 hW hlc ⊢
    have e0 : t.l[0]? = some a := by rw [hl0]; rfl
    have m0 : a ∈ t.l := by rw [hl0]; simp
    have e1 : t.l[1]? = some b := by rw [hl0]; rfl
    have m1 : b ∈ t.l := by rw [hl0]; simp
    have HM := Lib.hid (And.intro e0 (And.intro e1 (And.intro m0 m1)))
    clear hl0 hk hEl e0 m0 e1 m1
    clear d3
    have hb0 : Below W1.heap.size W1 W1 := Below.refl _ _
    have HB0 := Lib.hid hb0
    clear hb0
    obtain ⟨Av0, cv0, hAt0, x0, x1, x2, x3, x4⟩ := HEl.out W1 HB0.out 0 a HM.out.1
    have z0 : W1.cell? ⟨A0, off, none⟩ = some (.int .i64 a.op) := x0
    have z1 : W1.cell? ⟨A0, off + 1, none⟩ = some (.string (bs a.s)) := x1
    have z2 : W1.cell? ⟨A0, off + 2, none⟩ = some (.int .i64 a.n) := x2
    have z3 : W1.cell? ⟨A0, off + 3, none⟩ = some (.slice Av0 a.l.length cv0) := x3
    have z4 : W1.cell? ⟨A0, off + 4, none⟩ = some (.int .i64 a.line) := x4
    have y1 := x1
    have y2 := x2
    have y3 := x3
    have y4 := x4
    clear x0 x1 x2 x3 x4
    have hc := HE.out a HM.out.2.2.1 _ W1 hAt0
    unfold nodeV at hc
    have HC0 := Lib.hid hc
    clear hc hAt0
    go_enter Try.func38, Try.ntmps38
    go_wp2_with (first | (go_at_call 54; refine (HN.out _).mono ?_; rintro e w' ⟨rfl, rfl⟩))
    go_at_call 56
    refine HC0.out.mono ?_
    rintro e w1 ⟨b0, rfl, hb, hb5⟩
    have HS0 := Lib.hid hb
    have HB1 := Lib.hid (HB0.out.trans (hb5.mono HB0.out.size))
    clear hb hb5 z0 z1 z2 z3 z4 y1 y2 y3 y4
    clear f0 f1 f2 f3 f4
    obtain ⟨f0, f1, f2, f3, f4⟩ := HX.out w1 HB1.out
    rw [HOp.out] at f0
    rw [HKx.out] at f3
    obtain ⟨Av1, cv1, hAt1, x0, x1, x2, x3, x4⟩ := HEl.out w1 HB1.out 1 b HM.out.2.1
    have z0 : w1.cell? ⟨A0, off + 5, none⟩ = some (.int .i64 b.op) := x0
    have z1 : w1.cell? ⟨A0, off + 6, none⟩ = some (.string (bs b.s)) := x1
    have z2 : w1.cell? ⟨A0, off + 7, none⟩ = some (.int .i64 b.n) := x2
    have z3 : w1.cell? ⟨A0, off + 8, none⟩ = some (.slice Av1 b.l.length cv1) := x3
    have z4 : w1.cell? ⟨A0, off + 9, none⟩ = some (.int .i64 b.line) := x4
    have y1 : w1.cell? ⟨A0, off + 5 + 1, none⟩ = some (.string (bs b.s)) := x1
    have y2 : w1.cell? ⟨A0, off + 5 + 2, none⟩ = some (.int .i64 b.n) := x2
    have y3 : w1.cell? ⟨A0, off + 5 + 3, none⟩ = some (.slice Av1 b.l.length cv1) := x3
    have y4 : w1.cell? ⟨A0, off + 5 + 4, none⟩ = some (.int .i64 b.line) := x4
    clear x0 x1 x2 x3 x4
    have hc := block_any (h - 1) b (HS.out b HM.out.2.2.2) _ w1 hAt1
    unfold nodeV at hc
    have HC1 := Lib.hid hc
    clear hc hAt1
    cases b0 with
    | true =>
     go_wp2_with fail
     go_at_call 25
     refine HC1.out.mono ?_
     rintro e w2 ⟨b1, rfl, hb, hb5⟩
     have HS1 := Lib.hid hb
     have HB2 := Lib.hid (HB1.out.trans (hb5.mono HB1.out.size))
     clear hb hb5 z0 z1 z2 z3 z4 y1 y2 y3 y4
     go_wp2
     go_ret
     refine ⟨b1, by first | rfl | simp, ?_, HR.out.low.trans (HB2.out.mono HR.out.low.size)⟩
     rw [HS1.out]
     constructor
     ·intro hx1
      have hx0 := HS0.out.1 (by trivial)
      refine ⟨HI.out, HOK.out.2 ⟨by omega, HInv.out.2 ⟨HEn.out, HNx.out, a, b, HL0.out, hx0.1, hx1.1⟩, fun y hy => ?_⟩⟩
      rw [HL0.out] at hy
      simp only [List.mem_cons, List.not_mem_nil, or_false] at hy
      rcases hy with rfl | rfl
      ·exact hx0.2
      ·exact hx1.2
     ·intro hh
      have ho := (HOK.out.1 hh.2).2.2
      have hi := (HInv.out.1 (HOK.out.1 hh.2).2.1).2.2
      obtain ⟨a9, b9, hl9, g0, g1⟩ := hi
      rw [HL0.out] at hl9
      cases hl9
      exact ⟨g1, ho b HM.out.2.2.2⟩
    | false =>
     go_wp2
     go_ret
     refine ⟨false, by first | rfl | simp, ⟨fun hf => absurd hf (by simp), fun hh => ?_⟩, HR.out.low.trans (HB1.out.mono HR.out.low.size)⟩
     have ho := (HOK.out.1 hh.2).2.2
     have hi := (HInv.out.1 (HOK.out.1 hh.2).2.1).2.2
     obtain ⟨a9, b9, hl9, g0, g1⟩ := hi
     rw [HL0.out] at hl9
     cases hl9
     exact absurd (HS0.out.2 ⟨g0, ho a HM.out.2.2.1⟩) (by simp)
   ·have d3 : ((t.l.length : Int) == 2) = false := by simp; omega
    have HKx := Lib.hid hk
    clear hk
    go_enter Try.func38, Try.ntmps38
    go_wp2_with (first | (go_at_call 54; refine (HN.out _).mono ?_; rintro e w' ⟨rfl, rfl⟩))
    go_ret
    refine ⟨false, by first | rfl | simp, ⟨fun hf => absurd hf (by simp), fun hh => ?_⟩, HR.out.low⟩
    have hi := HInv.out.1 (HOK.out.1 hh.2).2.1
    obtain ⟨-, -, a8, b8, hl8, -⟩ := hi
    exact absurd (by rw [hl8]; rfl) HKx.out
  | false =>
   go_enter Try.func38, Try.ntmps38
   go_wp2_with (first | (go_at_call 54; refine (HN.out _).mono ?_; rintro e w' ⟨rfl, rfl⟩))
   go_ret
   refine ⟨false, by first | rfl | simp, ⟨fun hf => absurd hf (by simp), fun hh => ?_⟩, HR.out.low⟩
   have hi := HInv.out.1 (HOK.out.1 hh.2).2.1
   exact absurd (hi.1.symm.trans HEn.out) (by simp)
 ·have d2 : (t.n != 0) = true := by simpa using hn
  have HNx := Lib.hid hn
  clear hn
  go_enter Try.func38, Try.ntmps38
  go_wp2_with (first | (go_at_call 54; refine (HN.out _).mono ?_; rintro e w' ⟨rfl, rfl⟩))
  go_ret
  refine ⟨false, by first | rfl | simp, ⟨fun hf => absurd hf (by simp), fun hh => ?_⟩, HR.out.low⟩
  have hi := HInv.out.1 (HOK.out.1 hh.2).2.1
  exact absurd hi.2.1 HNx.out
theorem rst_38 : RefWalkS 38 := by
 intro h t A c w e h1 h2 hA hE hS hl
 obtain ⟨W1, hr⟩ : ∃ W, RIn h t A c w W := ⟨_, r_in h t A c w hA⟩
 have hbx := hr.cells
 have hiS : isS t := by unfold isS hasB; rw [e]; rfl
 have HR := Lib.hid hr
 have HN := Lib.hid hr.name
 have HX := Lib.hid (fun w' (hb : Below W1.heap.size W1 w') => box_in hb hr.box)
 have HOp := Lib.hid e
 have HOK := Lib.hid (ok_iff h t)
 have HInv := Lib.hid (inv_38 e)
 have HI := Lib.hid hiS
 have HE := Lib.hid hE
 have HS := Lib.hid hS
 have HLn := Lib.hid hl
 have hW : w.alloc (.cells #[.int .i64 38, .string (bs t.s), .int .i64 t.n, .slice A t.l.length c, .int .i64 t.line] 24) = W1 := by rw [← e]; exact hr.world
 unfold BoxAt at hbx
 rw [e] at hbx
 obtain ⟨f0, f1, f2, f3, f4⟩ := hbx
 unfold nodeV
 rw [e]
 obtain ⟨rn, en⟩ : ∃ b, isNameL t.s = b := ⟨_, rfl⟩
 rw [en] at HN
 have HEn := Lib.hid en
 clear hA hE hS hr hiS e en
 by_cases hn : t.n = 0
 ·have d2 : (t.n != 0) = false := by rw [hn]; rfl
  have HNx := Lib.hid hn
  clear hn
  cases rn with
  | true =>
   by_cases hk : t.l.length = 2
   ·have d3 : ((t.l.length : Int) == 2) = true := by rw [hk]; rfl
    have HKx := Lib.hid hk
    clear hk
    have hk := HKx.out
    obtain ⟨a, b, hl0⟩ := len2 hk
    obtain ⟨A0, off, rfl, hlc, hEl⟩ := row_elem HR.out.row (by omega)
    have HEl := Lib.hid hEl
    have HL0 := Lib.hid hl0
    rw [hk] at f3 hW hlc ⊢
    have e0 : t.l[0]? = some a := by rw [hl0]; rfl
    have m0 : a ∈ t.l := by rw [hl0]; simp
    have e1 : t.l[1]? = some b := by rw [hl0]; rfl
    have m1 : b ∈ t.l := by rw [hl0]; simp
    have HM := Lib.hid (And.intro e0 (And.intro e1 (And.intro m0 m1)))
    clear hl0 hk hEl e0 m0 e1 m1
    clear d3
    have hb0 : Below W1.heap.size W1 W1 := Below.refl _ _
    have HB0 := Lib.hid hb0
    clear hb0
    obtain ⟨Av0, cv0, hAt0, x0, x1, x2, x3, x4⟩ := HEl.out W1 HB0.out 0 a HM.out.1
    have z0 : W1.cell? ⟨A0, off, none⟩ = some (.int .i64 a.op) := x0
    have z1 : W1.cell? ⟨A0, off + 1, none⟩ = some (.string (bs a.s)) := x1
    have z2 : W1.cell? ⟨A0, off + 2, none⟩ = some (.int .i64 a.n) := x2
    have z3 : W1.cell? ⟨A0, off + 3, none⟩ = some (.slice Av0 a.l.length cv0) := x3
    have z4 : W1.cell? ⟨A0, off + 4, none⟩ = some (.int .i64 a.line) := x4
    have y1 := x1
    have y2 := x2
    have y3 := x3
    have y4 := x4
    clear x0 x1 x2 x3 x4
    have hc := block_any (h - 1) a (HS.out a HM.out.2.2.1) _ W1 hAt0
    unfold nodeV at hc
    have HC0 := Lib.hid hc
    clear hc hAt0
    go_enter Try.func38, Try.ntmps38
    go_wp2_with (first | (go_at_call 54; refine (HN.out _).mono ?_; rintro e w' ⟨rfl, rfl⟩))
    go_at_call 25
    refine HC0.out.mono ?_
    rintro e w1 ⟨b0, rfl, hb, hb5⟩
    have HS0 := Lib.hid hb
    have HB1 := Lib.hid (HB0.out.trans (hb5.mono HB0.out.size))
    clear hb hb5 z0 z1 z2 z3 z4 y1 y2 y3 y4
    clear f0 f1 f2 f3 f4
    obtain ⟨f0, f1, f2, f3, f4⟩ := HX.out w1 HB1.out
    rw [HOp.out] at f0
    rw [HKx.out] at f3
    obtain ⟨Av1, cv1, hAt1, x0, x1, x2, x3, x4⟩ := HEl.out w1 HB1.out 1 b HM.out.2.1
    have z0 : w1.cell? ⟨A0, off + 5, none⟩ = some (.int .i64 b.op) := x0
    have z1 : w1.cell? ⟨A0, off + 6, none⟩ = some (.string (bs b.s)) := x1
    have z2 : w1.cell? ⟨A0, off + 7, none⟩ = some (.int .i64 b.n) := x2
    have z3 : w1.cell? ⟨A0, off + 8, none⟩ = some (.slice Av1 b.l.length cv1) := x3
    have z4 : w1.cell? ⟨A0, off + 9, none⟩ = some (.int .i64 b.line) := x4
    have y1 : w1.cell? ⟨A0, off + 5 + 1, none⟩ = some (.string (bs b.s)) := x1
    have y2 : w1.cell? ⟨A0, off + 5 + 2, none⟩ = some (.int .i64 b.n) := x2
    have y3 : w1.cell? ⟨A0, off + 5 + 3, none⟩ = some (.slice Av1 b.l.length cv1) := x3
    have y4 : w1.cell? ⟨A0, off + 5 + 4, none⟩ = some (.int .i64 b.line) := x4
    clear x0 x1 x2 x3 x4
    have hc := block_any (h - 1) b (HS.out b HM.out.2.2.2) _ w1 hAt1
    unfold nodeV at hc
    have HC1 := Lib.hid hc
    clear hc hAt1
    cases b0 with
    | true =>
     go_wp2_with fail
     go_at_call 25
     refine HC1.out.mono ?_
     rintro e w2 ⟨b1, rfl, hb, hb5⟩
     have HS1 := Lib.hid hb
     have HB2 := Lib.hid (HB1.out.trans (hb5.mono HB1.out.size))
     clear hb hb5 z0 z1 z2 z3 z4 y1 y2 y3 y4
     go_wp2
     go_ret
     refine ⟨b1, by first | rfl | simp, ?_, HR.out.low.trans (HB2.out.mono HR.out.low.size)⟩
     rw [HS1.out]
     constructor
     ·intro hx1
      have hx0 := HS0.out.1 (by trivial)
      refine ⟨HI.out, HOK.out.2 ⟨by omega, HInv.out.2 ⟨HEn.out, HNx.out, a, b, HL0.out, hx0.1, hx1.1⟩, fun y hy => ?_⟩⟩
      rw [HL0.out] at hy
      simp only [List.mem_cons, List.not_mem_nil, or_false] at hy
      rcases hy with rfl | rfl
      ·exact hx0.2
      ·exact hx1.2
     ·intro hh
      have ho := (HOK.out.1 hh.2).2.2
      have hi := (HInv.out.1 (HOK.out.1 hh.2).2.1).2.2
      obtain ⟨a9, b9, hl9, g0, g1⟩ := hi
      rw [HL0.out] at hl9
      cases hl9
      exact ⟨g1, ho b HM.out.2.2.2⟩
    | false =>
     go_wp2
     go_ret
     refine ⟨false, by first | rfl | simp, ⟨fun hf => absurd hf (by simp), fun hh => ?_⟩, HR.out.low.trans (HB1.out.mono HR.out.low.size)⟩
     have ho := (HOK.out.1 hh.2).2.2
     have hi := (HInv.out.1 (HOK.out.1 hh.2).2.1).2.2
     obtain ⟨a9, b9, hl9, g0, g1⟩ := hi
     rw [HL0.out] at hl9
     cases hl9
     exact absurd (HS0.out.2 ⟨g0, ho a HM.out.2.2.1⟩) (by simp)
   ·have d3 : ((t.l.length : Int) == 2) = false := by simp; omega
    have HKx := Lib.hid hk
    clear hk
    go_enter Try.func38, Try.ntmps38
    go_wp2_with (first | (go_at_call 54; refine (HN.out _).mono ?_; rintro e w' ⟨rfl, rfl⟩))
    go_ret
    refine ⟨false, by first | rfl | simp, ⟨fun hf => absurd hf (by simp), fun hh => ?_⟩, HR.out.low⟩
    have hi := HInv.out.1 (HOK.out.1 hh.2).2.1
    obtain ⟨-, -, a8, b8, hl8, -⟩ := hi
    exact absurd (by rw [hl8]; rfl) HKx.out
  | false =>
   go_enter Try.func38, Try.ntmps38
   go_wp2_with (first | (go_at_call 54; refine (HN.out _).mono ?_; rintro e w' ⟨rfl, rfl⟩))
   go_ret
   refine ⟨false, by first | rfl | simp, ⟨fun hf => absurd hf (by simp), fun hh => ?_⟩, HR.out.low⟩
   have hi := HInv.out.1 (HOK.out.1 hh.2).2.1
   exact absurd (hi.1.symm.trans HEn.out) (by simp)
 ·have d2 : (t.n != 0) = true := by simpa using hn
  have HNx := Lib.hid hn
  clear hn
  go_enter Try.func38, Try.ntmps38
  go_wp2_with (first | (go_at_call 54; refine (HN.out _).mono ?_; rintro e w' ⟨rfl, rfl⟩))
  go_ret
  refine ⟨false, by first | rfl | simp, ⟨fun hf => absurd hf (by simp), fun hh => ?_⟩, HR.out.low⟩
  have hi := HInv.out.1 (HOK.out.1 hh.2).2.1
  exact absurd hi.2.1 HNx.out
open Go.RowKit Go.Proofs
theorem rst_33 : RefWalkS 33 := by
 intro h t A c w e h1 h2 hA hE hS hl
 obtain ⟨W1, hr⟩ : ∃ W, RIn h t A c w W := ⟨_, r_in h t A c w hA⟩
 have hbx := hr.cells
 have hiS : isS t := by unfold isS hasB; rw [e]; rfl
 have HR := Lib.hid hr
 have HN := Lib.hid hr.name
 have HX := Lib.hid (fun w' (hb : Below W1.heap.size W1 w') => box_in hb hr.box)
 have HOp := Lib.hid e
 have HOK := Lib.hid (ok_iff h t)
 have HInv := Lib.hid (inv_33 e)
 have HI := Lib.hid hiS
 have HE := Lib.hid hE
 have HS := Lib.hid hS
 have HLn := Lib.hid hl
 have hW : w.alloc (.cells #[.int .i64 33, .string (bs t.s), .int .i64 t.n, .slice A t.l.length c, .int .i64 t.line] 24) = W1 := by rw [← e]; exact hr.world
 unfold BoxAt at hbx
 rw [e] at hbx
 obtain ⟨f0, f1, f2, f3, f4⟩ := hbx
 unfold nodeV
 rw [e]
 obtain ⟨rn, en⟩ : ∃ b, isNameL t.s = b := ⟨_, rfl⟩
 rw [en] at HN
 have HEn := Lib.hid en
 clear hA hE hS hr hiS e en
 by_cases hn : t.n = 0
 ·have d2 : (t.n != 0) = false := by rw [hn]; rfl
  have HNx := Lib.hid hn
  clear hn
  by_cases hs : t.s = []
  ·have d1 : ((bs t.s).toList == []) = true := by rw [hs, Lib.toList_data, bs_list]; rfl
   have HSx := Lib.hid hs
   clear hs
   by_cases hk : t.l.length = 2
   ·have d3 : ((t.l.length : Int) == 2) = true := by rw [hk]; rfl
    have HKx := Lib.hid hk
    clear hk
    have hk := HKx.out
    obtain ⟨a, b, hl0⟩ := len2 hk
    obtain ⟨A0, off, rfl, hlc, hEl⟩ := row_elem HR.out.row (by omega)
    have HEl := Lib.hid hEl
    have HL0 := Lib.hid hl0
    rw [hk] at f3 hW hlc ⊢
    have e0 : t.l[0]? = some a := by rw [hl0]; rfl
    have m0 : a ∈ t.l := by rw [hl0]; simp
    have e1 : t.l[1]? = some b := by rw [hl0]; rfl
    have m1 : b ∈ t.l := by rw [hl0]; simp
    have HM := Lib.hid (And.intro e0 (And.intro e1 (And.intro m0 m1)))
    clear hl0 hk hEl e0 m0 e1 m1
    clear d3
    have hb0 : Below W1.heap.size W1 W1 := Below.refl _ _
    have HB0 := Lib.hid hb0
    clear hb0
    obtain ⟨Av0, cv0, hAt0, x0, x1, x2, x3, x4⟩ := HEl.out W1 HB0.out 0 a HM.out.1
    have z0 : W1.cell? ⟨A0, off, none⟩ = some (.int .i64 a.op) := x0
    have z1 : W1.cell? ⟨A0, off + 1, none⟩ = some (.string (bs a.s)) := x1
    have z2 : W1.cell? ⟨A0, off + 2, none⟩ = some (.int .i64 a.n) := x2
    have z3 : W1.cell? ⟨A0, off + 3, none⟩ = some (.slice Av0 a.l.length cv0) := x3
    have z4 : W1.cell? ⟨A0, off + 4, none⟩ = some (.int .i64 a.line) := x4
    have y1 := x1
    have y2 := x2
    have y3 := x3
    have y4 := x4
    clear x0 x1 x2 x3 x4
    have hc := HE.out a HM.out.2.2.1 _ W1 hAt0
    unfold nodeV at hc
    have HC0 := Lib.hid hc
    clear hc hAt0
    go_enter Try.func38, Try.ntmps38
    go_wp2_with (first | (go_at_call 54; refine (HN.out _).mono ?_; rintro e w' ⟨rfl, rfl⟩))
    go_at_call 56
    refine HC0.out.mono ?_
    rintro e w1 ⟨b0, rfl, hb, hb5⟩
    have HS0 := Lib.hid hb
    have HB1 := Lib.hid (HB0.out.trans (hb5.mono HB0.out.size))
    clear hb hb5 z0 z1 z2 z3 z4 y1 y2 y3 y4
    clear f0 f1 f2 f3 f4
    obtain ⟨f0, f1, f2, f3, f4⟩ := HX.out w1 HB1.out
    rw [HOp.out] at f0
    rw [HKx.out] at f3
    obtain ⟨Av1, cv1, hAt1, x0, x1, x2, x3, x4⟩ := HEl.out w1 HB1.out 1 b HM.out.2.1
    have z0 : w1.cell? ⟨A0, off + 5, none⟩ = some (.int .i64 b.op) := x0
    have z1 : w1.cell? ⟨A0, off + 6, none⟩ = some (.string (bs b.s)) := x1
    have z2 : w1.cell? ⟨A0, off + 7, none⟩ = some (.int .i64 b.n) := x2
    have z3 : w1.cell? ⟨A0, off + 8, none⟩ = some (.slice Av1 b.l.length cv1) := x3
    have z4 : w1.cell? ⟨A0, off + 9, none⟩ = some (.int .i64 b.line) := x4
    have y1 : w1.cell? ⟨A0, off + 5 + 1, none⟩ = some (.string (bs b.s)) := x1
    have y2 : w1.cell? ⟨A0, off + 5 + 2, none⟩ = some (.int .i64 b.n) := x2
    have y3 : w1.cell? ⟨A0, off + 5 + 3, none⟩ = some (.slice Av1 b.l.length cv1) := x3
    have y4 : w1.cell? ⟨A0, off + 5 + 4, none⟩ = some (.int .i64 b.line) := x4
    clear x0 x1 x2 x3 x4
    have hc := block_any (h - 1) b (HS.out b HM.out.2.2.2) _ w1 hAt1
    unfold nodeV at hc
    have HC1 := Lib.hid hc
    clear hc hAt1
    cases b0 with
    | true =>
     go_wp2_with fail
     go_at_call 25
     refine HC1.out.mono ?_
     rintro e w2 ⟨b1, rfl, hb, hb5⟩
     have HS1 := Lib.hid hb
     have HB2 := Lib.hid (HB1.out.trans (hb5.mono HB1.out.size))
     clear hb hb5 z0 z1 z2 z3 z4 y1 y2 y3 y4
     clear f0 f1 f2 f3 f4
     obtain ⟨f0, f1, f2, f3, f4⟩ := HX.out w2 HB2.out
     rw [HOp.out] at f0
     rw [HKx.out] at f3
     obtain ⟨Av2, cv2, hAt2, x0, x1, x2, x3, x4⟩ := HEl.out w2 HB2.out 1 b HM.out.2.1
     have z0 : w2.cell? ⟨A0, off + 5, none⟩ = some (.int .i64 b.op) := x0
     have z1 : w2.cell? ⟨A0, off + 6, none⟩ = some (.string (bs b.s)) := x1
     have z2 : w2.cell? ⟨A0, off + 7, none⟩ = some (.int .i64 b.n) := x2
     have z3 : w2.cell? ⟨A0, off + 8, none⟩ = some (.slice Av2 b.l.length cv2) := x3
     have z4 : w2.cell? ⟨A0, off + 9, none⟩ = some (.int .i64 b.line) := x4
     have y1 : w2.cell? ⟨A0, off + 5 + 1, none⟩ = some (.string (bs b.s)) := x1
     have y2 : w2.cell? ⟨A0, off + 5 + 2, none⟩ = some (.int .i64 b.n) := x2
     have y3 : w2.cell? ⟨A0, off + 5 + 3, none⟩ = some (.slice Av2 b.l.length cv2) := x3
     have y4 : w2.cell? ⟨A0, off + 5 + 4, none⟩ = some (.int .i64 b.line) := x4
     clear x0 x1 x2 x3 x4
     have hc := block_any (h - 1) b (HS.out b HM.out.2.2.2) _ w2 hAt2
     unfold nodeV at hc
     have HC2 := Lib.hid hc
     clear hc hAt2
     cases b1 with
     | true =>
      go_wp2_with fail
      go_at_call 25
      refine HC2.out.mono ?_
      rintro e w3 ⟨b2, rfl, hb, hb5⟩
      have HS2 := Lib.hid hb
      have HB3 := Lib.hid (HB2.out.trans (hb5.mono HB2.out.size))
      clear hb hb5 z0 z1 z2 z3 z4 y1 y2 y3 y4
      go_wp2
      go_ret
      refine ⟨b2, by first | rfl | simp, ?_, HR.out.low.trans (HB3.out.mono HR.out.low.size)⟩
      rw [HS2.out]
      constructor
      ·intro hx2
       have hx0 := HS0.out.1 (by trivial)
       have hx1 := HS1.out.1 (by trivial)
       refine ⟨HI.out, HOK.out.2 ⟨by omega, HInv.out.2 ⟨HSx.out, HNx.out, .inl ⟨a, b, HL0.out, hx0.1, hx1.1⟩⟩, fun y hy => ?_⟩⟩
       rw [HL0.out] at hy
       simp only [List.mem_cons, List.not_mem_nil, or_false] at hy
       rcases hy with rfl | rfl
       ·exact hx0.2
       ·exact hx1.2
      ·intro hh
       have ho := (HOK.out.1 hh.2).2.2
       have hi := (HInv.out.1 (HOK.out.1 hh.2).2.1).2.2
       have hi2 : ∃ a9 b9, t.l = [a9, b9] ∧ isE a9 ∧ b9.op = 32 := by
        rcases hi with ⟨a8, b8, hl8, g⟩ | ⟨a8, b8, c8, hl8, g⟩
        ·exact ⟨a8, b8, hl8, g⟩
        ·have := congrArg List.length hl8
         rw [HKx.out] at this
         simp at this
       obtain ⟨a9, b9, hl9, g0, g1⟩ := hi2
       rw [HL0.out] at hl9
       cases hl9
       exact ⟨g1, ho b HM.out.2.2.2⟩
     | false =>
      go_wp2
      go_ret
      refine ⟨false, by first | rfl | simp, ⟨fun hf => absurd hf (by simp), fun hh => ?_⟩, HR.out.low.trans (HB2.out.mono HR.out.low.size)⟩
      have ho := (HOK.out.1 hh.2).2.2
      have hi := (HInv.out.1 (HOK.out.1 hh.2).2.1).2.2
      have hi2 : ∃ a9 b9, t.l = [a9, b9] ∧ isE a9 ∧ b9.op = 32 := by
       rcases hi with ⟨a8, b8, hl8, g⟩ | ⟨a8, b8, c8, hl8, g⟩
       ·exact ⟨a8, b8, hl8, g⟩
       ·have := congrArg List.length hl8
        rw [HKx.out] at this
        simp at this
      obtain ⟨a9, b9, hl9, g0, g1⟩ := hi2
      rw [HL0.out] at hl9
      cases hl9
      exact absurd (HS1.out.2 ⟨g1, ho b HM.out.2.2.2⟩) (by simp)
    | false =>
     go_wp2
     go_ret
     refine ⟨false, by first | rfl | simp, ⟨fun hf => absurd hf (by simp), fun hh => ?_⟩, HR.out.low.trans (HB1.out.mono HR.out.low.size)⟩
     have ho := (HOK.out.1 hh.2).2.2
     have hi := (HInv.out.1 (HOK.out.1 hh.2).2.1).2.2
     have hi2 : ∃ a9 b9, t.l = [a9, b9] ∧ isE a9 ∧ b9.op = 32 := by
      rcases hi with ⟨a8, b8, hl8, g⟩ | ⟨a8, b8, c8, hl8, g⟩
      ·exact ⟨a8, b8, hl8, g⟩
      ·have := congrArg List.length hl8
       rw [HKx.out] at this
       simp at this
     obtain ⟨a9, b9, hl9, g0, g1⟩ := hi2
     rw [HL0.out] at hl9
     cases hl9
     exact absurd (HS0.out.2 ⟨g0, ho a HM.out.2.2.1⟩) (by simp)
   ·have d3 : ((t.l.length : Int) == 2) = false := by simp; omega
    have HKx := Lib.hid hk
    clear hk
    by_cases hk3 : t.l.length = 3
    ·have d3b : ((t.l.length : Int) == 3) = true := by rw [hk3]; rfl
     have HKy := Lib.hid hk3
     clear hk3
     have hk := HKy.out
     obtain ⟨a, b, c0, hl0⟩ := len3 hk
     obtain ⟨A0, off, rfl, hlc, hEl⟩ := row_elem HR.out.row (by omega)
     have HEl := Lib.hid hEl
     have HL0 := Lib.hid hl0
     rw [hk] at f3 hW hlc ⊢
     have e0 : t.l[0]? = some a := by rw [hl0]; rfl
     have m0 : a ∈ t.l := by rw [hl0]; simp
     have e1 : t.l[1]? = some b := by rw [hl0]; rfl
     have m1 : b ∈ t.l := by rw [hl0]; simp
     have e2 : t.l[2]? = some c0 := by rw [hl0]; rfl
     have m2 : c0 ∈ t.l := by rw [hl0]; simp
     have HM := Lib.hid (And.intro e0 (And.intro e1 (And.intro e2 (And.intro m0 (And.intro m1 m2)))))
     clear hl0 hk hEl e0 m0 e1 m1 e2 m2
     clear d3 d3b
     have hb0 : Below W1.heap.size W1 W1 := Below.refl _ _
     have HB0 := Lib.hid hb0
     clear hb0
     obtain ⟨Av0, cv0, hAt0, x0, x1, x2, x3, x4⟩ := HEl.out W1 HB0.out 0 a HM.out.1
     have z0 : W1.cell? ⟨A0, off, none⟩ = some (.int .i64 a.op) := x0
     have z1 : W1.cell? ⟨A0, off + 1, none⟩ = some (.string (bs a.s)) := x1
     have z2 : W1.cell? ⟨A0, off + 2, none⟩ = some (.int .i64 a.n) := x2
     have z3 : W1.cell? ⟨A0, off + 3, none⟩ = some (.slice Av0 a.l.length cv0) := x3
     have z4 : W1.cell? ⟨A0, off + 4, none⟩ = some (.int .i64 a.line) := x4
     have y1 := x1
     have y2 := x2
     have y3 := x3
     have y4 := x4
     clear x0 x1 x2 x3 x4
     have hc := HE.out a HM.out.2.2.2.1 _ W1 hAt0
     unfold nodeV at hc
     have HC0 := Lib.hid hc
     clear hc hAt0
     go_enter Try.func38, Try.ntmps38
     go_wp2_with (first | (go_at_call 54; refine (HN.out _).mono ?_; rintro e w' ⟨rfl, rfl⟩))
     go_at_call 56
     refine HC0.out.mono ?_
     rintro e w1 ⟨b0, rfl, hb, hb5⟩
     have HS0 := Lib.hid hb
     have HB1 := Lib.hid (HB0.out.trans (hb5.mono HB0.out.size))
     clear hb hb5 z0 z1 z2 z3 z4 y1 y2 y3 y4
     clear f0 f1 f2 f3 f4
     obtain ⟨f0, f1, f2, f3, f4⟩ := HX.out w1 HB1.out
     rw [HOp.out] at f0
     rw [HKy.out] at f3
     obtain ⟨Av1, cv1, hAt1, x0, x1, x2, x3, x4⟩ := HEl.out w1 HB1.out 1 b HM.out.2.1
     have z0 : w1.cell? ⟨A0, off + 5, none⟩ = some (.int .i64 b.op) := x0
     have z1 : w1.cell? ⟨A0, off + 6, none⟩ = some (.string (bs b.s)) := x1
     have z2 : w1.cell? ⟨A0, off + 7, none⟩ = some (.int .i64 b.n) := x2
     have z3 : w1.cell? ⟨A0, off + 8, none⟩ = some (.slice Av1 b.l.length cv1) := x3
     have z4 : w1.cell? ⟨A0, off + 9, none⟩ = some (.int .i64 b.line) := x4
     have y1 : w1.cell? ⟨A0, off + 5 + 1, none⟩ = some (.string (bs b.s)) := x1
     have y2 : w1.cell? ⟨A0, off + 5 + 2, none⟩ = some (.int .i64 b.n) := x2
     have y3 : w1.cell? ⟨A0, off + 5 + 3, none⟩ = some (.slice Av1 b.l.length cv1) := x3
     have y4 : w1.cell? ⟨A0, off + 5 + 4, none⟩ = some (.int .i64 b.line) := x4
     clear x0 x1 x2 x3 x4
     have hc := block_any (h - 1) b (HS.out b HM.out.2.2.2.2.1) _ w1 hAt1
     unfold nodeV at hc
     have HC1 := Lib.hid hc
     clear hc hAt1
     cases b0 with
     | true =>
      go_wp2_with fail
      go_at_call 25
      refine HC1.out.mono ?_
      rintro e w2 ⟨b1, rfl, hb, hb5⟩
      have HS1 := Lib.hid hb
      have HB2 := Lib.hid (HB1.out.trans (hb5.mono HB1.out.size))
      clear hb hb5 z0 z1 z2 z3 z4 y1 y2 y3 y4
      clear f0 f1 f2 f3 f4
      obtain ⟨f0, f1, f2, f3, f4⟩ := HX.out w2 HB2.out
      rw [HOp.out] at f0
      rw [HKy.out] at f3
      obtain ⟨Av2, cv2, hAt2, x0, x1, x2, x3, x4⟩ := HEl.out w2 HB2.out 2 c0 HM.out.2.2.1
      have z0 : w2.cell? ⟨A0, off + 10, none⟩ = some (.int .i64 c0.op) := x0
      have z1 : w2.cell? ⟨A0, off + 11, none⟩ = some (.string (bs c0.s)) := x1
      have z2 : w2.cell? ⟨A0, off + 12, none⟩ = some (.int .i64 c0.n) := x2
      have z3 : w2.cell? ⟨A0, off + 13, none⟩ = some (.slice Av2 c0.l.length cv2) := x3
      have z4 : w2.cell? ⟨A0, off + 14, none⟩ = some (.int .i64 c0.line) := x4
      have y1 : w2.cell? ⟨A0, off + 10 + 1, none⟩ = some (.string (bs c0.s)) := x1
      have y2 : w2.cell? ⟨A0, off + 10 + 2, none⟩ = some (.int .i64 c0.n) := x2
      have y3 : w2.cell? ⟨A0, off + 10 + 3, none⟩ = some (.slice Av2 c0.l.length cv2) := x3
      have y4 : w2.cell? ⟨A0, off + 10 + 4, none⟩ = some (.int .i64 c0.line) := x4
      clear x0 x1 x2 x3 x4
      have hc := block_any (h - 1) c0 (HS.out c0 HM.out.2.2.2.2.2) _ w2 hAt2
      unfold nodeV at hc
      have HC2 := Lib.hid hc
      clear hc hAt2
      cases b1 with
      | true =>
       go_wp2_with fail
       go_at_call 25
       refine HC2.out.mono ?_
       rintro e w3 ⟨b2, rfl, hb, hb5⟩
       have HS2 := Lib.hid hb
       have HB3 := Lib.hid (HB2.out.trans (hb5.mono HB2.out.size))
       clear hb hb5 z0 z1 z2 z3 z4 y1 y2 y3 y4
       go_wp2
       go_ret
       refine ⟨b2, by first | rfl | simp, ?_, HR.out.low.trans (HB3.out.mono HR.out.low.size)⟩
       rw [HS2.out]
       constructor
       ·intro hx2
        have hx0 := HS0.out.1 (by trivial)
        have hx1 := HS1.out.1 (by trivial)
        refine ⟨HI.out, HOK.out.2 ⟨by omega, HInv.out.2 ⟨HSx.out, HNx.out, .inr ⟨a, b, c0, HL0.out, hx0.1, hx1.1, hx2.1⟩⟩, fun y hy => ?_⟩⟩
        rw [HL0.out] at hy
        simp only [List.mem_cons, List.not_mem_nil, or_false] at hy
        rcases hy with rfl | rfl | rfl
        ·exact hx0.2
        ·exact hx1.2
        ·exact hx2.2
       ·intro hh
        have ho := (HOK.out.1 hh.2).2.2
        have hi := (HInv.out.1 (HOK.out.1 hh.2).2.1).2.2
        have hi2 : ∃ a9 b9 c09, t.l = [a9, b9, c09] ∧ isE a9 ∧ b9.op = 32 ∧ c09.op = 32 := by
         rcases hi with ⟨a8, b8, hl8, g⟩ | ⟨a8, b8, c8, hl8, g⟩
         ·have := congrArg List.length hl8
          rw [HKy.out] at this
          simp at this
         ·exact ⟨a8, b8, c8, hl8, g⟩
        obtain ⟨a9, b9, c09, hl9, g0, g1, g2⟩ := hi2
        rw [HL0.out] at hl9
        cases hl9
        exact ⟨g2, ho c0 HM.out.2.2.2.2.2⟩
      | false =>
       go_wp2
       go_ret
       refine ⟨false, by first | rfl | simp, ⟨fun hf => absurd hf (by simp), fun hh => ?_⟩, HR.out.low.trans (HB2.out.mono HR.out.low.size)⟩
       have ho := (HOK.out.1 hh.2).2.2
       have hi := (HInv.out.1 (HOK.out.1 hh.2).2.1).2.2
       have hi2 : ∃ a9 b9 c09, t.l = [a9, b9, c09] ∧ isE a9 ∧ b9.op = 32 ∧ c09.op = 32 := by
        rcases hi with ⟨a8, b8, hl8, g⟩ | ⟨a8, b8, c8, hl8, g⟩
        ·have := congrArg List.length hl8
         rw [HKy.out] at this
         simp at this
        ·exact ⟨a8, b8, c8, hl8, g⟩
       obtain ⟨a9, b9, c09, hl9, g0, g1, g2⟩ := hi2
       rw [HL0.out] at hl9
       cases hl9
       exact absurd (HS1.out.2 ⟨g1, ho b HM.out.2.2.2.2.1⟩) (by simp)
     | false =>
      go_wp2
      go_ret
      refine ⟨false, by first | rfl | simp, ⟨fun hf => absurd hf (by simp), fun hh => ?_⟩, HR.out.low.trans (HB1.out.mono HR.out.low.size)⟩
      have ho := (HOK.out.1 hh.2).2.2
      have hi := (HInv.out.1 (HOK.out.1 hh.2).2.1).2.2
      have hi2 : ∃ a9 b9 c09, t.l = [a9, b9, c09] ∧ isE a9 ∧ b9.op = 32 ∧ c09.op = 32 := by
       rcases hi with ⟨a8, b8, hl8, g⟩ | ⟨a8, b8, c8, hl8, g⟩
       ·have := congrArg List.length hl8
        rw [HKy.out] at this
        simp at this
       ·exact ⟨a8, b8, c8, hl8, g⟩
      obtain ⟨a9, b9, c09, hl9, g0, g1, g2⟩ := hi2
      rw [HL0.out] at hl9
      cases hl9
      exact absurd (HS0.out.2 ⟨g0, ho a HM.out.2.2.2.1⟩) (by simp)
    ·have d3b : ((t.l.length : Int) == 3) = false := by simp; omega
     have HKy := Lib.hid hk3
     clear hk3
     go_enter Try.func38, Try.ntmps38
     go_wp2_with (first | (go_at_call 54; refine (HN.out _).mono ?_; rintro e w' ⟨rfl, rfl⟩))
     go_ret
     refine ⟨false, by first | rfl | simp, ⟨fun hf => absurd hf (by simp), fun hh => ?_⟩, HR.out.low⟩
     have hi := HInv.out.1 (HOK.out.1 hh.2).2.1
     rcases hi.2.2 with ⟨a8, b8, hl8, -⟩ | ⟨a8, b8, c8, hl8, -⟩
     ·exact absurd (by rw [hl8]; rfl) HKx.out
     ·exact absurd (by rw [hl8]; rfl) HKy.out
  ·have d1 : ((bs t.s).toList == []) = false := by rw [Lib.toList_data, bs_list, beq_eq_false_iff_ne]; exact hs
   have HSx := Lib.hid hs
   clear hs
   go_enter Try.func38, Try.ntmps38
   go_wp2_with (first | (go_at_call 54; refine (HN.out _).mono ?_; rintro e w' ⟨rfl, rfl⟩))
   go_ret
   refine ⟨false, by first | rfl | simp, ⟨fun hf => absurd hf (by simp), fun hh => ?_⟩, HR.out.low⟩
   have hi := HInv.out.1 (HOK.out.1 hh.2).2.1
   exact absurd hi.1 HSx.out
 ·have d2 : (t.n != 0) = true := by simpa using hn
  have HNx := Lib.hid hn
  clear hn
  go_enter Try.func38, Try.ntmps38
  go_wp2_with (first | (go_at_call 54; refine (HN.out _).mono ?_; rintro e w' ⟨rfl, rfl⟩))
  go_ret
  refine ⟨false, by first | rfl | simp, ⟨fun hf => absurd hf (by simp), fun hh => ?_⟩, HR.out.low⟩
  have hi := HInv.out.1 (HOK.out.1 hh.2).2.1
  exact absurd hi.2.1 HNx.out
open Go.RowKit Go.Proofs
theorem rst_32 : RefWalkS 32 := by
 intro h t A c w e h1 h2 hA hE hS hl
 obtain ⟨W1, hr⟩ : ∃ W, RIn h t A c w W := ⟨_, r_in h t A c w hA⟩
 have hbx := hr.cells
 have hiS : isS t := by unfold isS hasB; rw [e]; rfl
 have HR := Lib.hid hr
 have HN := Lib.hid hr.name
 have HX := Lib.hid (fun w' (hb : Below W1.heap.size W1 w') => box_in hb hr.box)
 have HOp := Lib.hid e
 have HOK := Lib.hid (ok_iff h t)
 have HInv := Lib.hid (inv_32 e)
 have HI := Lib.hid hiS
 have HE := Lib.hid hE
 have HS := Lib.hid hS
 have HLn := Lib.hid hl
 have hW : w.alloc (.cells #[.int .i64 32, .string (bs t.s), .int .i64 t.n, .slice A t.l.length c, .int .i64 t.line] 24) = W1 := by rw [← e]; exact hr.world
 unfold BoxAt at hbx
 rw [e] at hbx
 obtain ⟨f0, f1, f2, f3, f4⟩ := hbx
 unfold nodeV
 rw [e]
 obtain ⟨rn, en⟩ : ∃ b, isNameL t.s = b := ⟨_, rfl⟩
 rw [en] at HN
 have HEn := Lib.hid en
 clear hA hE hS hr hiS e en
 by_cases hn : t.n = 0
 ·have d2 : (t.n != 0) = false := by rw [hn]; rfl
  have HNx := Lib.hid hn
  clear hn
  by_cases hs : t.s = []
  ·have d1 : ((bs t.s).toList == []) = true := by rw [hs, Lib.toList_data, bs_list]; rfl
   have HSx := Lib.hid hs
   clear hs
   have hem : ∀ (k : Nat) (y : Tr), t.l[k]? = some y → ∃ g off, A = some ⟨g, off, none⟩ ∧ ∀ w', Below W1.heap.size W1 w' → ∃ Av cv, At w' w'.heap.size y (nodeV y (.slice Av y.l.length cv)) ∧ w'.cell? ⟨g, off + k * 5, none⟩ = some (.int .i64 y.op) ∧ w'.cell? ⟨g, off + k * 5 + 1, none⟩ = some (.string (bs y.s)) ∧ w'.cell? ⟨g, off + k * 5 + 2, none⟩ = some (.int .i64 y.n) ∧
     w'.cell? ⟨g, off + k * 5 + 3, none⟩ = some (.slice Av y.l.length cv) ∧ w'.cell? ⟨g, off + k * 5 + 4, none⟩ = some (.int .i64 y.line) := fun k y hy => by
    obtain ⟨g, off, e1, -, h3⟩ := row_elem HR.out.row (by have := (List.getElem?_eq_some_iff.1 hy).1; omega)
    exact ⟨g, off, e1, fun w' hb => h3 w' hb k y hy⟩
   have HF := Lib.hid hem
   have hlc : t.l.length ≤ c := by obtain ⟨A', c', e', ⟨hlc, -⟩, -⟩ := HR.out.row; cases e'; exact hlc
   have HLc := Lib.hid hlc
   clear hem hlc
   go_enter Try.func38, Try.ntmps38
   go_wp2_with (first | (go_at_call 54; refine (HN.out _).mono ?_; rintro e w' ⟨rfl, rfl⟩))
   go_loopw [8] (fun i wr => ∃ k : Nat, k ≤ t.l.length ∧ i = .int .i64 k ∧ RowKit.Hid ((∀ (j : Nat) (y : Tr), j < k → t.l[j]? = some y → isS y ∧ OK (h - 1) y) ∧ Below W1.heap.size W1 wr)) (fun i _ => t.l.length - (intOf i).toNat)
   case atStart => exact ⟨0, Nat.zero_le _, rfl, Lib.hid ⟨fun j y hj => by omega, Below.refl _ _⟩⟩
   case round =>
    obtain ⟨k, hk, rfl, HRd⟩ := hrel
    clear f0 f1 f2 f3 f4
    obtain ⟨f0, f1, f2, f3, f4⟩ := HX.out wr HRd.out.2
    have hlow : Below w.heap.size w wr := HR.out.low.trans (HRd.out.2.mono HR.out.low.size)
    have HLow := Lib.hid hlow
    clear hlow
    by_cases hlt : k < t.l.length
    ·obtain ⟨y, hy⟩ : ∃ y, t.l[k]? = some y := ⟨_, List.getElem?_eq_getElem hlt⟩
     have hym := List.mem_of_getElem? hy
     obtain ⟨g, off, hAg, hcell⟩ := HF.out k y hy
     obtain ⟨Av, cv, hyA, x0, x1, x2, x3, x4⟩ := hcell wr HRd.out.2
     subst hAg
     have hkc : k < c := by have := HLc.out; omega
     have hc := HS.out y hym _ wr hyA
     unfold nodeV at hc
     have HC := Lib.hid hc
     have HY := Lib.hid (And.intro hy hym)
     clear hc hym hyA hcell hy
     go_wp2_with fail
     go_at_call 38
     refine HC.out.mono ?_
     rintro e w5 ⟨b, rfl, hb, hb5⟩
     have HB := Lib.hid (And.intro hb hb5)
     clear hb hb5
     cases b with
     | true =>
      go_wp2
      go_roundw
      case rel =>
       refine ⟨k + 1, by omega, by simp, Lib.hid ⟨fun j z hj hz => ?_, HRd.out.2.trans (HB.out.2.mono HRd.out.2.size)⟩⟩
       by_cases hjk : j < k
       ·exact HRd.out.1 j z hjk hz
       ·obtain rfl : j = k := by omega
        rw [HY.out.1] at hz
        cases hz
        exact HB.out.1.1 (by trivial)
      case measure => simp [intOf]; omega
     | false =>
      go_wp2
      go_ret
      refine ⟨false, by first | rfl | simp, ⟨fun hf => absurd hf (by simp), fun hh => ?_⟩, HLow.out.trans (HB.out.2.mono HLow.out.size)⟩
      have ho := HOK.out.1 hh.2
      exact absurd (HB.out.1.2 ⟨(HInv.out.1 ho.2.1).2.2.2 y HY.out.2, ho.2.2 y HY.out.2⟩) (by simp)
    ·obtain rfl : k = t.l.length := by omega
     go_wp2
     go_ret
     refine ⟨true, by first | rfl | simp, ⟨fun _ => ⟨HI.out, HOK.out.2 ⟨by omega, HInv.out.2 ⟨HSx.out, HNx.out, by have := HLn.out; omega, fun y hy => ?_⟩, fun y hy => ?_⟩⟩, fun _ => rfl⟩, HLow.out⟩
     ·obtain ⟨j, hj, ej⟩ := List.mem_iff_getElem.1 hy
      exact (HRd.out.1 j y hj (by rw [List.getElem?_eq_getElem hj, ej])).1
     ·obtain ⟨j, hj, ej⟩ := List.mem_iff_getElem.1 hy
      exact (HRd.out.1 j y hj (by rw [List.getElem?_eq_getElem hj, ej])).2
  ·have d1 : ((bs t.s).toList == []) = false := by rw [Lib.toList_data, bs_list, beq_eq_false_iff_ne]; exact hs
   have HSx := Lib.hid hs
   clear hs
   have hem : ∀ (k : Nat) (y : Tr), t.l[k]? = some y → ∃ g off, A = some ⟨g, off, none⟩ ∧ ∀ w', Below W1.heap.size W1 w' → ∃ Av cv, At w' w'.heap.size y (nodeV y (.slice Av y.l.length cv)) ∧ w'.cell? ⟨g, off + k * 5, none⟩ = some (.int .i64 y.op) ∧ w'.cell? ⟨g, off + k * 5 + 1, none⟩ = some (.string (bs y.s)) ∧ w'.cell? ⟨g, off + k * 5 + 2, none⟩ = some (.int .i64 y.n) ∧
     w'.cell? ⟨g, off + k * 5 + 3, none⟩ = some (.slice Av y.l.length cv) ∧ w'.cell? ⟨g, off + k * 5 + 4, none⟩ = some (.int .i64 y.line) := fun k y hy => by
    obtain ⟨g, off, e1, -, h3⟩ := row_elem HR.out.row (by have := (List.getElem?_eq_some_iff.1 hy).1; omega)
    exact ⟨g, off, e1, fun w' hb => h3 w' hb k y hy⟩
   have HF := Lib.hid hem
   have hlc : t.l.length ≤ c := by obtain ⟨A', c', e', ⟨hlc, -⟩, -⟩ := HR.out.row; cases e'; exact hlc
   have HLc := Lib.hid hlc
   clear hem hlc
   go_enter Try.func38, Try.ntmps38
   go_wp2_with (first | (go_at_call 54; refine (HN.out _).mono ?_; rintro e w' ⟨rfl, rfl⟩))
   go_loopw [8] (fun i wr => ∃ k : Nat, k ≤ t.l.length ∧ i = .int .i64 k ∧ RowKit.Hid ((∀ (j : Nat) (y : Tr), j < k → t.l[j]? = some y → isS y ∧ OK (h - 1) y) ∧ Below W1.heap.size W1 wr)) (fun i _ => t.l.length - (intOf i).toNat)
   case atStart => exact ⟨0, Nat.zero_le _, rfl, Lib.hid ⟨fun j y hj => by omega, Below.refl _ _⟩⟩
   case round =>
    obtain ⟨k, hk, rfl, HRd⟩ := hrel
    clear f0 f1 f2 f3 f4
    obtain ⟨f0, f1, f2, f3, f4⟩ := HX.out wr HRd.out.2
    have hlow : Below w.heap.size w wr := HR.out.low.trans (HRd.out.2.mono HR.out.low.size)
    have HLow := Lib.hid hlow
    clear hlow
    by_cases hlt : k < t.l.length
    ·obtain ⟨y, hy⟩ : ∃ y, t.l[k]? = some y := ⟨_, List.getElem?_eq_getElem hlt⟩
     have hym := List.mem_of_getElem? hy
     obtain ⟨g, off, hAg, hcell⟩ := HF.out k y hy
     obtain ⟨Av, cv, hyA, x0, x1, x2, x3, x4⟩ := hcell wr HRd.out.2
     subst hAg
     have hkc : k < c := by have := HLc.out; omega
     have hc := HS.out y hym _ wr hyA
     unfold nodeV at hc
     have HC := Lib.hid hc
     have HY := Lib.hid (And.intro hy hym)
     clear hc hym hyA hcell hy
     go_wp2_with fail
     go_at_call 38
     refine HC.out.mono ?_
     rintro e w5 ⟨b, rfl, hb, hb5⟩
     have HB := Lib.hid (And.intro hb hb5)
     clear hb hb5
     cases b with
     | true =>
      go_wp2
      go_roundw
      case rel =>
       refine ⟨k + 1, by omega, by simp, Lib.hid ⟨fun j z hj hz => ?_, HRd.out.2.trans (HB.out.2.mono HRd.out.2.size)⟩⟩
       by_cases hjk : j < k
       ·exact HRd.out.1 j z hjk hz
       ·obtain rfl : j = k := by omega
        rw [HY.out.1] at hz
        cases hz
        exact HB.out.1.1 (by trivial)
      case measure => simp [intOf]; omega
     | false =>
      go_wp2
      go_ret
      refine ⟨false, by first | rfl | simp, ⟨fun hf => absurd hf (by simp), fun hh => ?_⟩, HLow.out.trans (HB.out.2.mono HLow.out.size)⟩
      have ho := HOK.out.1 hh.2
      exact absurd (HB.out.1.2 ⟨(HInv.out.1 ho.2.1).2.2.2 y HY.out.2, ho.2.2 y HY.out.2⟩) (by simp)
    ·obtain rfl : k = t.l.length := by omega
     go_wp2
     go_ret
     refine ⟨false, by first | rfl | simp, ⟨fun hf => absurd hf (by simp), fun hh => ?_⟩, HLow.out⟩
     exact absurd (HInv.out.1 (HOK.out.1 hh.2).2.1).1 HSx.out
 ·have d2 : (t.n != 0) = true := by simpa using hn
  have HNx := Lib.hid hn
  clear hn
  go_enter Try.func38, Try.ntmps38
  go_wp2_with (first | (go_at_call 54; refine (HN.out _).mono ?_; rintro e w' ⟨rfl, rfl⟩))
  go_ret
  refine ⟨false, by first | rfl | simp, ⟨fun hf => absurd hf (by simp), fun hh => ?_⟩, HR.out.low⟩
  have hi := HInv.out.1 (HOK.out.1 hh.2).2.1
  exact absurd hi.2.1 HNx.out
theorem rst_low (h : Int) (t : Tr) (v : Value) (w : World) (hA : At w w.heap.size t v) (h1 : h < 1) : Calls Try.prog 38 #[v, .int .i64 h] w (Says (isS t ∧ OK h t) w) := by
 obtain ⟨u, rfl, -, -⟩ := (At_iff _ _ _ _).1 hA
 have HOK := Lib.hid (ok_iff h t)
 clear hA
 unfold nodeV
 go_enter Try.func38, Try.ntmps38
 go_wp2
 go_ret
 exact ⟨false, by first | rfl | simp, ⟨fun hf => absurd hf (by simp), fun hh => by have := (HOK.out.1 hh.2).1; omega⟩, (Below.refl _ w).alloc (Nat.le_refl _) _⟩
theorem rex_low (h : Int) (t : Tr) (v : Value) (w : World) (hA : At w w.heap.size t v) (h1 : h < 1) : Calls Try.prog 56 #[v, .int .i64 h] w (Says (isE t ∧ OK h t) w) := by
 obtain ⟨u, rfl, -, -⟩ := (At_iff _ _ _ _).1 hA
 have HOK := Lib.hid (ok_iff h t)
 clear hA
 unfold nodeV
 go_enter Try.func56, Try.ntmps56
 go_wp2
 go_ret
 exact ⟨false, by first | rfl | simp, ⟨fun hf => absurd hf (by simp), fun hh => by have := (HOK.out.1 hh.2).1; omega⟩, (Below.refl _ w).alloc (Nat.le_refl _) _⟩
theorem rex_none (h : Int) (t : Tr) (A : Option Addr) (c : Nat) (w : World) (h1 : 1 ≤ h) (h2 : h ≤ 1000) (hA : At w w.heap.size t (nodeV t (.slice A t.l.length c))) (hno : ¬ isE t) :
  Calls Try.prog 56 #[nodeV t (.slice A t.l.length c), .int .i64 h] w (Says (isE t ∧ OK h t) w) := by
 obtain ⟨W1, hr⟩ : ∃ W, RIn h t A c w W := ⟨_, r_in h t A c w hA⟩
 have hbx := hr.cells
 have HR := Lib.hid hr
 have HN := Lib.hid hr.name
 have HWd := Lib.hid hr.word
 have HNo := Lib.hid hno
 have hW := hr.world
 unfold BoxAt at hbx
 obtain ⟨f0, f1, f2, f3, f4⟩ := hbx
 unfold nodeV
 obtain ⟨rn, en⟩ : ∃ b, isNameL t.s = b := ⟨_, rfl⟩
 obtain ⟨rw_, ew⟩ : ∃ b, isWordL t.s = b := ⟨_, rfl⟩
 rw [en] at HN
 rw [ew] at HWd
 have o1 : (t.op == 1) = false := by rw [beq_eq_false_iff_ne]; intro h; apply hno; unfold isE hasB; rw [h]; rfl
 have o2 : (t.op == 2) = false := by rw [beq_eq_false_iff_ne]; intro h; apply hno; unfold isE hasB; rw [h]; rfl
 have o3 : (t.op == 3) = false := by rw [beq_eq_false_iff_ne]; intro h; apply hno; unfold isE hasB; rw [h]; rfl
 have o4 : (t.op == 4) = false := by rw [beq_eq_false_iff_ne]; intro h; apply hno; unfold isE hasB; rw [h]; rfl
 have o5 : (t.op == 5) = false := by rw [beq_eq_false_iff_ne]; intro h; apply hno; unfold isE hasB; rw [h]; rfl
 have o6 : (t.op == 6) = false := by rw [beq_eq_false_iff_ne]; intro h; apply hno; unfold isE hasB; rw [h]; rfl
 have o7 : (t.op == 7) = false := by rw [beq_eq_false_iff_ne]; intro h; apply hno; unfold isE hasB; rw [h]; rfl
 have o8 : (t.op == 8) = false := by rw [beq_eq_false_iff_ne]; intro h; apply hno; unfold isE hasB; rw [h]; rfl
 have o9 : (t.op == 9) = false := by rw [beq_eq_false_iff_ne]; intro h; apply hno; unfold isE hasB; rw [h]; rfl
 have o10 : (t.op == 10) = false := by rw [beq_eq_false_iff_ne]; intro h; apply hno; unfold isE hasB; rw [h]; rfl
 have o11 : (t.op == 11) = false := by rw [beq_eq_false_iff_ne]; intro h; apply hno; unfold isE hasB; rw [h]; rfl
 have o13 : (t.op == 13) = false := by rw [beq_eq_false_iff_ne]; intro h; apply hno; unfold isE hasB; rw [h]; rfl
 have o14 : (t.op == 14) = false := by rw [beq_eq_false_iff_ne]; intro h; apply hno; unfold isE hasB; rw [h]; rfl
 have o15 : (t.op == 15) = false := by rw [beq_eq_false_iff_ne]; intro h; apply hno; unfold isE hasB; rw [h]; rfl
 have o16 : (t.op == 16) = false := by rw [beq_eq_false_iff_ne]; intro h; apply hno; unfold isE hasB; rw [h]; rfl
 have o17 : (t.op == 17) = false := by rw [beq_eq_false_iff_ne]; intro h; apply hno; unfold isE hasB; rw [h]; rfl
 have o18 : (t.op == 18) = false := by rw [beq_eq_false_iff_ne]; intro h; apply hno; unfold isE hasB; rw [h]; rfl
 have o19 : (t.op == 19) = false := by rw [beq_eq_false_iff_ne]; intro h; apply hno; unfold isE hasB; rw [h]; rfl
 have o20 : (t.op == 20) = false := by rw [beq_eq_false_iff_ne]; intro h; apply hno; unfold isE hasB; rw [h]; rfl
 have o21 : (t.op == 21) = false := by rw [beq_eq_false_iff_ne]; intro h; apply hno; unfold isE hasB; rw [h]; rfl
 have o22 : (t.op == 22) = false := by rw [beq_eq_false_iff_ne]; intro h; apply hno; unfold isE hasB; rw [h]; rfl
 have o23 : (t.op == 23) = false := by rw [beq_eq_false_iff_ne]; intro h; apply hno; unfold isE hasB; rw [h]; rfl
 clear hA hr hno en ew
 by_cases hs : t.s = []
 ·have d1 : ((bs t.s).toList == []) = true := by rw [hs, Lib.toList_data, bs_list]; rfl
  have HSx := Lib.hid hs
  clear hs
  by_cases hn : t.n = 0
  ·have d2 : (t.n == 0) = true := by rw [hn]; rfl
   clear hn
   go_enter Try.func56, Try.ntmps56
   go_wp2_with (first | (go_at_call 54; refine (HN.out _).mono ?_; rintro e w' ⟨rfl, rfl⟩) | (go_at_call 69; refine (HWd.out _).mono ?_; rintro e w' ⟨rfl, rfl⟩))
   go_ret
   exact ⟨false, by first | rfl | simp, ⟨fun hf => absurd hf (by simp), fun hh => absurd hh.1 HNo.out⟩, HR.out.low⟩
  ·have d2 : (t.n == 0) = false := by simpa using hn
   clear hn
   go_enter Try.func56, Try.ntmps56
   go_wp2_with (first | (go_at_call 54; refine (HN.out _).mono ?_; rintro e w' ⟨rfl, rfl⟩) | (go_at_call 69; refine (HWd.out _).mono ?_; rintro e w' ⟨rfl, rfl⟩))
   go_ret
   exact ⟨false, by first | rfl | simp, ⟨fun hf => absurd hf (by simp), fun hh => absurd hh.1 HNo.out⟩, HR.out.low⟩
 ·have d1 : ((bs t.s).toList == []) = false := by rw [Lib.toList_data, bs_list, beq_eq_false_iff_ne]; exact hs
  have HSx := Lib.hid hs
  clear hs
  by_cases hn : t.n = 0
  ·have d2 : (t.n == 0) = true := by rw [hn]; rfl
   clear hn
   go_enter Try.func56, Try.ntmps56
   go_wp2_with (first | (go_at_call 54; refine (HN.out _).mono ?_; rintro e w' ⟨rfl, rfl⟩) | (go_at_call 69; refine (HWd.out _).mono ?_; rintro e w' ⟨rfl, rfl⟩))
   go_ret
   exact ⟨false, by first | rfl | simp, ⟨fun hf => absurd hf (by simp), fun hh => absurd hh.1 HNo.out⟩, HR.out.low⟩
  ·have d2 : (t.n == 0) = false := by simpa using hn
   clear hn
   go_enter Try.func56, Try.ntmps56
   go_wp2_with (first | (go_at_call 54; refine (HN.out _).mono ?_; rintro e w' ⟨rfl, rfl⟩) | (go_at_call 69; refine (HWd.out _).mono ?_; rintro e w' ⟨rfl, rfl⟩))
   go_ret
   exact ⟨false, by first | rfl | simp, ⟨fun hf => absurd hf (by simp), fun hh => absurd hh.1 HNo.out⟩, HR.out.low⟩
theorem rst_none (h : Int) (t : Tr) (A : Option Addr) (c : Nat) (w : World) (h1 : 1 ≤ h) (h2 : h ≤ 1000) (hA : At w w.heap.size t (nodeV t (.slice A t.l.length c))) (hno : ¬ isS t) :
  Calls Try.prog 38 #[nodeV t (.slice A t.l.length c), .int .i64 h] w (Says (isS t ∧ OK h t) w) := by
 obtain ⟨W1, hr⟩ : ∃ W, RIn h t A c w W := ⟨_, r_in h t A c w hA⟩
 have hbx := hr.cells
 have HR := Lib.hid hr
 have HN := Lib.hid hr.name
 have HWd := Lib.hid hr.word
 have HNo := Lib.hid hno
 have hW := hr.world
 unfold BoxAt at hbx
 obtain ⟨f0, f1, f2, f3, f4⟩ := hbx
 unfold nodeV
 obtain ⟨rn, en⟩ : ∃ b, isNameL t.s = b := ⟨_, rfl⟩
 obtain ⟨rw_, ew⟩ : ∃ b, isWordL t.s = b := ⟨_, rfl⟩
 rw [en] at HN
 rw [ew] at HWd
 have o30 : (t.op == 30) = false := by rw [beq_eq_false_iff_ne]; intro h; apply hno; unfold isS hasB; rw [h]; rfl
 have o31 : (t.op == 31) = false := by rw [beq_eq_false_iff_ne]; intro h; apply hno; unfold isS hasB; rw [h]; rfl
 have o32 : (t.op == 32) = false := by rw [beq_eq_false_iff_ne]; intro h; apply hno; unfold isS hasB; rw [h]; rfl
 have o33 : (t.op == 33) = false := by rw [beq_eq_false_iff_ne]; intro h; apply hno; unfold isS hasB; rw [h]; rfl
 have o34 : (t.op == 34) = false := by rw [beq_eq_false_iff_ne]; intro h; apply hno; unfold isS hasB; rw [h]; rfl
 have o35 : (t.op == 35) = false := by rw [beq_eq_false_iff_ne]; intro h; apply hno; unfold isS hasB; rw [h]; rfl
 have o36 : (t.op == 36) = false := by rw [beq_eq_false_iff_ne]; intro h; apply hno; unfold isS hasB; rw [h]; rfl
 have o37 : (t.op == 37) = false := by rw [beq_eq_false_iff_ne]; intro h; apply hno; unfold isS hasB; rw [h]; rfl
 have o38 : (t.op == 38) = false := by rw [beq_eq_false_iff_ne]; intro h; apply hno; unfold isS hasB; rw [h]; rfl
 have o39 : (t.op == 39) = false := by rw [beq_eq_false_iff_ne]; intro h; apply hno; unfold isS hasB; rw [h]; rfl
 have o40 : (t.op == 40) = false := by rw [beq_eq_false_iff_ne]; intro h; apply hno; unfold isS hasB; rw [h]; rfl
 have o41 : (t.op == 41) = false := by rw [beq_eq_false_iff_ne]; intro h; apply hno; unfold isS hasB; rw [h]; rfl
 clear hA hr hno en ew
 by_cases hn : t.n = 0
 ·have d2 : (t.n != 0) = false := by rw [hn]; rfl
  have HNx := Lib.hid hn
  clear hn
  go_enter Try.func38, Try.ntmps38
  go_wp2_with (first | (go_at_call 54; refine (HN.out _).mono ?_; rintro e w' ⟨rfl, rfl⟩) | (go_at_call 69; refine (HWd.out _).mono ?_; rintro e w' ⟨rfl, rfl⟩))
  go_ret
  exact ⟨false, by first | rfl | simp, ⟨fun hf => absurd hf (by simp), fun hh => absurd hh.1 HNo.out⟩, HR.out.low⟩
 ·have d2 : (t.n != 0) = true := by simpa using hn
  have HNx := Lib.hid hn
  clear hn
  go_enter Try.func38, Try.ntmps38
  go_wp2_with (first | (go_at_call 54; refine (HN.out _).mono ?_; rintro e w' ⟨rfl, rfl⟩) | (go_at_call 69; refine (HWd.out _).mono ?_; rintro e w' ⟨rfl, rfl⟩))
  go_ret
  exact ⟨false, by first | rfl | simp, ⟨fun hf => absurd hf (by simp), fun hh => absurd hh.1 HNo.out⟩, HR.out.low⟩
end
end Go.Proofs.Ytbpodijcndglgaa
