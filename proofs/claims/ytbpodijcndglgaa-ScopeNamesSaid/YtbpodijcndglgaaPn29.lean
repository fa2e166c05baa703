/- gumshoeref03.expr: what has no parts. -/
import Derived.Test.YtbpodijcndglgaaProg
import Derived.Test.YtbpodijcndglgaaPn27
set_option linter.unusedSimpArgs false
set_option linter.unusedVariables false
set_option maxRecDepth 100000
set_option maxHeartbeats 40000000
namespace Go.Proofs.Ytbpodijcndglgaa
section
open Go.RowKit Go.Proofs
theorem rex_3 : RefWalk 3 := by
 intro h t A c w e h1 h2 hA hE hl
 obtain ⟨W1, hr⟩ : ∃ W, RIn h t A c w W := ⟨_, r_in h t A c w hA⟩
 have hall := all_any (h - 1) t.l _ W1 hr.row hE hl
 have hbx := hr.cells
 have hiE : isE t := by unfold isE hasB; rw [e]; rfl
 have HR := Lib.hid hr
 have HN := Lib.hid hr.name
 have HWd := Lib.hid hr.word
 have HAll := Lib.hid hall
 have HOK := Lib.hid (ok_iff h t)
 have HInv := Lib.hid (inv_3 e)
 have HE := Lib.hid hiE
 have hW : w.alloc (.cells #[.int .i64 3, .string (bs t.s), .int .i64 t.n, .slice A t.l.length c, .int .i64 t.line] 24) = W1 := by rw [← e]; exact hr.world
 unfold BoxAt at hbx
 rw [e] at hbx
 obtain ⟨f0, f1, f2, f3, f4⟩ := hbx
 unfold nodeV
 rw [e]
 obtain ⟨rn, en⟩ : ∃ b, isNameL t.s = b := ⟨_, rfl⟩
 obtain ⟨rw_, ew⟩ : ∃ b, isWordL t.s = b := ⟨_, rfl⟩
 rw [en] at HN
 rw [ew] at HWd
 clear hA hE hr hall hiE e en ew
 by_cases hs : t.s = []
 ·have d1 : ((bs t.s).toList == []) = true := by rw [hs, Lib.toList_data, bs_list]; rfl
  clear hs
  by_cases hn : t.n = 0
  ·have d2 : (t.n == 0) = true := by rw [hn]; rfl
   have HNx := Lib.hid hn
   clear hn
   by_cases hk : t.l.length = 0
   ·have d3 : ((t.l.length : Int) == 0) = true := by rw [hk]; rfl
    have HKx := Lib.hid hk
    clear hk
    go_enter Try.func56, Try.ntmps56
    go_wp2_with (first | (go_at_call 54; refine (HN.out _).mono ?_; rintro e w' ⟨rfl, rfl⟩) | (go_at_call 69; refine (HWd.out _).mono ?_; rintro e w' ⟨rfl, rfl⟩))
    go_ret
    refine ⟨true, by first | rfl | simp, ⟨fun _ => ⟨HE.out, HOK.out.2 ⟨by omega, HInv.out.2 ⟨HNx.out, (List.eq_nil_of_length_eq_zero HKx.out)⟩, fun y hy => ?_⟩⟩, fun _ => rfl⟩, HR.out.low⟩
    rw [List.eq_nil_of_length_eq_zero HKx.out] at hy
    cases hy
   ·have d3 : ((t.l.length : Int) == 0) = false := by rw [beq_eq_false_iff_ne]; omega
    have HKx := Lib.hid hk
    clear hk
    go_enter Try.func56, Try.ntmps56
    go_wp2_with (first | (go_at_call 54; refine (HN.out _).mono ?_; rintro e w' ⟨rfl, rfl⟩) | (go_at_call 69; refine (HWd.out _).mono ?_; rintro e w' ⟨rfl, rfl⟩))
    go_ret
    refine ⟨false, by first | rfl | simp, ⟨fun hf => absurd hf (by simp), fun hh => ?_⟩, HR.out.low⟩
    have hi := HInv.out.1 (HOK.out.1 hh.2).2.1
    exact absurd (by rw [hi.2]; rfl) HKx.out
  ·have d2 : (t.n == 0) = false := by simpa using hn
   have HNx := Lib.hid hn
   clear hn
   go_enter Try.func56, Try.ntmps56
   go_wp2_with (first | (go_at_call 54; refine (HN.out _).mono ?_; rintro e w' ⟨rfl, rfl⟩) | (go_at_call 69; refine (HWd.out _).mono ?_; rintro e w' ⟨rfl, rfl⟩))
   go_ret
   refine ⟨false, by first | rfl | simp, ⟨fun hf => absurd hf (by simp), fun hh => ?_⟩, HR.out.low⟩
   have hi := HInv.out.1 (HOK.out.1 hh.2).2.1
   exact absurd hi.1 HNx.out
 ·have d1 : ((bs t.s).toList == []) = false := by rw [Lib.toList_data, bs_list, beq_eq_false_iff_ne]; exact hs
  clear hs
  by_cases hn : t.n = 0
  ·have d2 : (t.n == 0) = true := by rw [hn]; rfl
   have HNx := Lib.hid hn
   clear hn
   by_cases hk : t.l.length = 0
   ·have d3 : ((t.l.length : Int) == 0) = true := by rw [hk]; rfl
    have HKx := Lib.hid hk
    clear hk
    go_enter Try.func56, Try.ntmps56
    go_wp2_with (first | (go_at_call 54; refine (HN.out _).mono ?_; rintro e w' ⟨rfl, rfl⟩) | (go_at_call 69; refine (HWd.out _).mono ?_; rintro e w' ⟨rfl, rfl⟩))
    go_ret
    refine ⟨true, by first | rfl | simp, ⟨fun _ => ⟨HE.out, HOK.out.2 ⟨by omega, HInv.out.2 ⟨HNx.out, (List.eq_nil_of_length_eq_zero HKx.out)⟩, fun y hy => ?_⟩⟩, fun _ => rfl⟩, HR.out.low⟩
    rw [List.eq_nil_of_length_eq_zero HKx.out] at hy
    cases hy
   ·have d3 : ((t.l.length : Int) == 0) = false := by rw [beq_eq_false_iff_ne]; omega
    have HKx := Lib.hid hk
    clear hk
    go_enter Try.func56, Try.ntmps56
    go_wp2_with (first | (go_at_call 54; refine (HN.out _).mono ?_; rintro e w' ⟨rfl, rfl⟩) | (go_at_call 69; refine (HWd.out _).mono ?_; rintro e w' ⟨rfl, rfl⟩))
    go_ret
    refine ⟨false, by first | rfl | simp, ⟨fun hf => absurd hf (by simp), fun hh => ?_⟩, HR.out.low⟩
    have hi := HInv.out.1 (HOK.out.1 hh.2).2.1
    exact absurd (by rw [hi.2]; rfl) HKx.out
  ·have d2 : (t.n == 0) = false := by simpa using hn
   have HNx := Lib.hid hn
   clear hn
   go_enter Try.func56, Try.ntmps56
   go_wp2_with (first | (go_at_call 54; refine (HN.out _).mono ?_; rintro e w' ⟨rfl, rfl⟩) | (go_at_call 69; refine (HWd.out _).mono ?_; rintro e w' ⟨rfl, rfl⟩))
   go_ret
   refine ⟨false, by first | rfl | simp, ⟨fun hf => absurd hf (by simp), fun hh => ?_⟩, HR.out.low⟩
   have hi := HInv.out.1 (HOK.out.1 hh.2).2.1
   exact absurd hi.1 HNx.out
theorem rex_4 : RefWalk 4 := by
 intro h t A c w e h1 h2 hA hE hl
 obtain ⟨W1, hr⟩ : ∃ W, RIn h t A c w W := ⟨_, r_in h t A c w hA⟩
 have hall := all_any (h - 1) t.l _ W1 hr.row hE hl
 have hbx := hr.cells
 have hiE : isE t := by unfold isE hasB; rw [e]; rfl
 have HR := Lib.hid hr
 have HN := Lib.hid hr.name
 have HWd := Lib.hid hr.word
 have HAll := Lib.hid hall
 have HOK := Lib.hid (ok_iff h t)
 have HInv := Lib.hid (inv_4 e)
 have HE := Lib.hid hiE
 have hW : w.alloc (.cells #[.int .i64 4, .string (bs t.s), .int .i64 t.n, .slice A t.l.length c, .int .i64 t.line] 24) = W1 := by rw [← e]; exact hr.world
 unfold BoxAt at hbx
 rw [e] at hbx
 obtain ⟨f0, f1, f2, f3, f4⟩ := hbx
 unfold nodeV
 rw [e]
 obtain ⟨rn, en⟩ : ∃ b, isNameL t.s = b := ⟨_, rfl⟩
 obtain ⟨rw_, ew⟩ : ∃ b, isWordL t.s = b := ⟨_, rfl⟩
 rw [en] at HN
 rw [ew] at HWd
 clear hA hE hr hall hiE e en ew
 by_cases hs : t.s = []
 ·have d1 : ((bs t.s).toList == []) = true := by rw [hs, Lib.toList_data, bs_list]; rfl
  have HSx := Lib.hid hs
  clear hs
  by_cases hn : t.n = 0
  ·have d2 : (t.n == 0) = true := by rw [hn]; rfl
   have HNx := Lib.hid hn
   clear hn
   by_cases hk : t.l.length = 0
   ·have d3 : ((t.l.length : Int) == 0) = true := by rw [hk]; rfl
    have HKx := Lib.hid hk
    clear hk
    go_enter Try.func56, Try.ntmps56
    go_wp2_with (first | (go_at_call 54; refine (HN.out _).mono ?_; rintro e w' ⟨rfl, rfl⟩) | (go_at_call 69; refine (HWd.out _).mono ?_; rintro e w' ⟨rfl, rfl⟩))
    go_ret
    refine ⟨true, by first | rfl | simp, ⟨fun _ => ⟨HE.out, HOK.out.2 ⟨by omega, HInv.out.2 ⟨HSx.out, HNx.out, (List.eq_nil_of_length_eq_zero HKx.out)⟩, fun y hy => ?_⟩⟩, fun _ => rfl⟩, HR.out.low⟩
    rw [List.eq_nil_of_length_eq_zero HKx.out] at hy
    cases hy
   ·have d3 : ((t.l.length : Int) == 0) = false := by rw [beq_eq_false_iff_ne]; omega
    have HKx := Lib.hid hk
    clear hk
    go_enter Try.func56, Try.ntmps56
    go_wp2_with (first | (go_at_call 54; refine (HN.out _).mono ?_; rintro e w' ⟨rfl, rfl⟩) | (go_at_call 69; refine (HWd.out _).mono ?_; rintro e w' ⟨rfl, rfl⟩))
    go_ret
    refine ⟨false, by first | rfl | simp, ⟨fun hf => absurd hf (by simp), fun hh => ?_⟩, HR.out.low⟩
    have hi := HInv.out.1 (HOK.out.1 hh.2).2.1
    exact absurd (by rw [hi.2.2]; rfl) HKx.out
  ·have d2 : (t.n == 0) = false := by simpa using hn
   have HNx := Lib.hid hn
   clear hn
   go_enter Try.func56, Try.ntmps56
   go_wp2_with (first | (go_at_call 54; refine (HN.out _).mono ?_; rintro e w' ⟨rfl, rfl⟩) | (go_at_call 69; refine (HWd.out _).mono ?_; rintro e w' ⟨rfl, rfl⟩))
   go_ret
   refine ⟨false, by first | rfl | simp, ⟨fun hf => absurd hf (by simp), fun hh => ?_⟩, HR.out.low⟩
   have hi := HInv.out.1 (HOK.out.1 hh.2).2.1
   exact absurd hi.2.1 HNx.out
 ·have d1 : ((bs t.s).toList == []) = false := by rw [Lib.toList_data, bs_list, beq_eq_false_iff_ne]; exact hs
  have HSx := Lib.hid hs
  clear hs
  go_enter Try.func56, Try.ntmps56
  go_wp2_with (first | (go_at_call 54; refine (HN.out _).mono ?_; rintro e w' ⟨rfl, rfl⟩) | (go_at_call 69; refine (HWd.out _).mono ?_; rintro e w' ⟨rfl, rfl⟩))
  go_ret
  refine ⟨false, by first | rfl | simp, ⟨fun hf => absurd hf (by simp), fun hh => ?_⟩, HR.out.low⟩
  have hi := HInv.out.1 (HOK.out.1 hh.2).2.1
  exact absurd hi.1 HSx.out
theorem rex_5 : RefWalk 5 := by
 intro h t A c w e h1 h2 hA hE hl
 obtain ⟨W1, hr⟩ : ∃ W, RIn h t A c w W := ⟨_, r_in h t A c w hA⟩
 have hall := all_any (h - 1) t.l _ W1 hr.row hE hl
 have hbx := hr.cells
 have hiE : isE t := by unfold isE hasB; rw [e]; rfl
 have HR := Lib.hid hr
 have HN := Lib.hid hr.name
 have HWd := Lib.hid hr.word
 have HAll := Lib.hid hall
 have HOK := Lib.hid (ok_iff h t)
 have HInv := Lib.hid (inv_5 e)
 have HE := Lib.hid hiE
 have hW : w.alloc (.cells #[.int .i64 5, .string (bs t.s), .int .i64 t.n, .slice A t.l.length c, .int .i64 t.line] 24) = W1 := by rw [← e]; exact hr.world
 unfold BoxAt at hbx
 rw [e] at hbx
 obtain ⟨f0, f1, f2, f3, f4⟩ := hbx
 unfold nodeV
 rw [e]
 obtain ⟨rn, en⟩ : ∃ b, isNameL t.s = b := ⟨_, rfl⟩
 obtain ⟨rw_, ew⟩ : ∃ b, isWordL t.s = b := ⟨_, rfl⟩
 rw [en] at HN
 rw [ew] at HWd
 clear hA hE hr hall hiE e en ew
 by_cases hs : t.s = []
 ·have d1 : ((bs t.s).toList == []) = true := by rw [hs, Lib.toList_data, bs_list]; rfl
  have HSx := Lib.hid hs
  clear hs
  by_cases hn : t.n = 0
  ·have d2 : (t.n == 0) = true := by rw [hn]; rfl
   have HNx := Lib.hid hn
   clear hn
   by_cases hk : t.l.length = 0
   ·have d3 : ((t.l.length : Int) == 0) = true := by rw [hk]; rfl
    have HKx := Lib.hid hk
    clear hk
    go_enter Try.func56, Try.ntmps56
    go_wp2_with (first | (go_at_call 54; refine (HN.out _).mono ?_; rintro e w' ⟨rfl, rfl⟩) | (go_at_call 69; refine (HWd.out _).mono ?_; rintro e w' ⟨rfl, rfl⟩))
    go_ret
    refine ⟨true, by first | rfl | simp, ⟨fun _ => ⟨HE.out, HOK.out.2 ⟨by omega, HInv.out.2 ⟨HSx.out, HNx.out, (List.eq_nil_of_length_eq_zero HKx.out)⟩, fun y hy => ?_⟩⟩, fun _ => rfl⟩, HR.out.low⟩
    rw [List.eq_nil_of_length_eq_zero HKx.out] at hy
    cases hy
   ·have d3 : ((t.l.length : Int) == 0) = false := by rw [beq_eq_false_iff_ne]; omega
    have HKx := Lib.hid hk
    clear hk
    go_enter Try.func56, Try.ntmps56
    go_wp2_with (first | (go_at_call 54; refine (HN.out _).mono ?_; rintro e w' ⟨rfl, rfl⟩) | (go_at_call 69; refine (HWd.out _).mono ?_; rintro e w' ⟨rfl, rfl⟩))
    go_ret
    refine ⟨false, by first | rfl | simp, ⟨fun hf => absurd hf (by simp), fun hh => ?_⟩, HR.out.low⟩
    have hi := HInv.out.1 (HOK.out.1 hh.2).2.1
    exact absurd (by rw [hi.2.2]; rfl) HKx.out
  ·have d2 : (t.n == 0) = false := by simpa using hn
   have HNx := Lib.hid hn
   clear hn
   go_enter Try.func56, Try.ntmps56
   go_wp2_with (first | (go_at_call 54; refine (HN.out _).mono ?_; rintro e w' ⟨rfl, rfl⟩) | (go_at_call 69; refine (HWd.out _).mono ?_; rintro e w' ⟨rfl, rfl⟩))
   go_ret
   refine ⟨false, by first | rfl | simp, ⟨fun hf => absurd hf (by simp), fun hh => ?_⟩, HR.out.low⟩
   have hi := HInv.out.1 (HOK.out.1 hh.2).2.1
   exact absurd hi.2.1 HNx.out
 ·have d1 : ((bs t.s).toList == []) = false := by rw [Lib.toList_data, bs_list, beq_eq_false_iff_ne]; exact hs
  have HSx := Lib.hid hs
  clear hs
  go_enter Try.func56, Try.ntmps56
  go_wp2_with (first | (go_at_call 54; refine (HN.out _).mono ?_; rintro e w' ⟨rfl, rfl⟩) | (go_at_call 69; refine (HWd.out _).mono ?_; rintro e w' ⟨rfl, rfl⟩))
  go_ret
  refine ⟨false, by first | rfl | simp, ⟨fun hf => absurd hf (by simp), fun hh => ?_⟩, HR.out.low⟩
  have hi := HInv.out.1 (HOK.out.1 hh.2).2.1
  exact absurd hi.1 HSx.out
theorem rex_6 : RefWalk 6 := by
 intro h t A c w e h1 h2 hA hE hl
 obtain ⟨W1, hr⟩ : ∃ W, RIn h t A c w W := ⟨_, r_in h t A c w hA⟩
 have hall := all_any (h - 1) t.l _ W1 hr.row hE hl
 have hbx := hr.cells
 have hiE : isE t := by unfold isE hasB; rw [e]; rfl
 have HR := Lib.hid hr
 have HN := Lib.hid hr.name
 have HWd := Lib.hid hr.word
 have HAll := Lib.hid hall
 have HOK := Lib.hid (ok_iff h t)
 have HInv := Lib.hid (inv_6 e)
 have HE := Lib.hid hiE
 have hW : w.alloc (.cells #[.int .i64 6, .string (bs t.s), .int .i64 t.n, .slice A t.l.length c, .int .i64 t.line] 24) = W1 := by rw [← e]; exact hr.world
 unfold BoxAt at hbx
 rw [e] at hbx
 obtain ⟨f0, f1, f2, f3, f4⟩ := hbx
 unfold nodeV
 rw [e]
 obtain ⟨rn, en⟩ : ∃ b, isNameL t.s = b := ⟨_, rfl⟩
 obtain ⟨rw_, ew⟩ : ∃ b, isWordL t.s = b := ⟨_, rfl⟩
 rw [en] at HN
 rw [ew] at HWd
 clear hA hE hr hall hiE e en ew
 by_cases hs : t.s = []
 ·have d1 : ((bs t.s).toList == []) = true := by rw [hs, Lib.toList_data, bs_list]; rfl
  have HSx := Lib.hid hs
  clear hs
  by_cases hn : t.n = 0
  ·have d2 : (t.n == 0) = true := by rw [hn]; rfl
   have HNx := Lib.hid hn
   clear hn
   by_cases hk : t.l.length = 0
   ·have d3 : ((t.l.length : Int) == 0) = true := by rw [hk]; rfl
    have HKx := Lib.hid hk
    clear hk
    go_enter Try.func56, Try.ntmps56
    go_wp2_with (first | (go_at_call 54; refine (HN.out _).mono ?_; rintro e w' ⟨rfl, rfl⟩) | (go_at_call 69; refine (HWd.out _).mono ?_; rintro e w' ⟨rfl, rfl⟩))
    go_ret
    refine ⟨true, by first | rfl | simp, ⟨fun _ => ⟨HE.out, HOK.out.2 ⟨by omega, HInv.out.2 ⟨HSx.out, HNx.out, (List.eq_nil_of_length_eq_zero HKx.out)⟩, fun y hy => ?_⟩⟩, fun _ => rfl⟩, HR.out.low⟩
    rw [List.eq_nil_of_length_eq_zero HKx.out] at hy
    cases hy
   ·have d3 : ((t.l.length : Int) == 0) = false := by rw [beq_eq_false_iff_ne]; omega
    have HKx := Lib.hid hk
    clear hk
    go_enter Try.func56, Try.ntmps56
    go_wp2_with (first | (go_at_call 54; refine (HN.out _).mono ?_; rintro e w' ⟨rfl, rfl⟩) | (go_at_call 69; refine (HWd.out _).mono ?_; rintro e w' ⟨rfl, rfl⟩))
    go_ret
    refine ⟨false, by first | rfl | simp, ⟨fun hf => absurd hf (by simp), fun hh => ?_⟩, HR.out.low⟩
    have hi := HInv.out.1 (HOK.out.1 hh.2).2.1
    exact absurd (by rw [hi.2.2]; rfl) HKx.out
  ·have d2 : (t.n == 0) = false := by simpa using hn
   have HNx := Lib.hid hn
   clear hn
   go_enter Try.func56, Try.ntmps56
   go_wp2_with (first | (go_at_call 54; refine (HN.out _).mono ?_; rintro e w' ⟨rfl, rfl⟩) | (go_at_call 69; refine (HWd.out _).mono ?_; rintro e w' ⟨rfl, rfl⟩))
   go_ret
   refine ⟨false, by first | rfl | simp, ⟨fun hf => absurd hf (by simp), fun hh => ?_⟩, HR.out.low⟩
   have hi := HInv.out.1 (HOK.out.1 hh.2).2.1
   exact absurd hi.2.1 HNx.out
 ·have d1 : ((bs t.s).toList == []) = false := by rw [Lib.toList_data, bs_list, beq_eq_false_iff_ne]; exact hs
  have HSx := Lib.hid hs
  clear hs
  go_enter Try.func56, Try.ntmps56
  go_wp2_with (first | (go_at_call 54; refine (HN.out _).mono ?_; rintro e w' ⟨rfl, rfl⟩) | (go_at_call 69; refine (HWd.out _).mono ?_; rintro e w' ⟨rfl, rfl⟩))
  go_ret
  refine ⟨false, by first | rfl | simp, ⟨fun hf => absurd hf (by simp), fun hh => ?_⟩, HR.out.low⟩
  have hi := HInv.out.1 (HOK.out.1 hh.2).2.1
  exact absurd hi.1 HSx.out
theorem rex_7 : RefWalk 7 := by
 intro h t A c w e h1 h2 hA hE hl
 obtain ⟨W1, hr⟩ : ∃ W, RIn h t A c w W := ⟨_, r_in h t A c w hA⟩
 have hall := all_any (h - 1) t.l _ W1 hr.row hE hl
 have hbx := hr.cells
 have hiE : isE t := by unfold isE hasB; rw [e]; rfl
 have HR := Lib.hid hr
 have HN := Lib.hid hr.name
 have HWd := Lib.hid hr.word
 have HAll := Lib.hid hall
 have HOK := Lib.hid (ok_iff h t)
 have HInv := Lib.hid (inv_7 e)
 have HE := Lib.hid hiE
 have hW : w.alloc (.cells #[.int .i64 7, .string (bs t.s), .int .i64 t.n, .slice A t.l.length c, .int .i64 t.line] 24) = W1 := by rw [← e]; exact hr.world
 unfold BoxAt at hbx
 rw [e] at hbx
 obtain ⟨f0, f1, f2, f3, f4⟩ := hbx
 unfold nodeV
 rw [e]
 obtain ⟨rn, en⟩ : ∃ b, isNameL t.s = b := ⟨_, rfl⟩
 obtain ⟨rw_, ew⟩ : ∃ b, isWordL t.s = b := ⟨_, rfl⟩
 rw [en] at HN
 rw [ew] at HWd
 clear hA hE hr hall hiE e en ew
 by_cases hs : t.s = []
 ·have d1 : ((bs t.s).toList == []) = true := by rw [hs, Lib.toList_data, bs_list]; rfl
  have HSx := Lib.hid hs
  clear hs
  by_cases hn : t.n = 0
  ·have d2 : (t.n == 0) = true := by rw [hn]; rfl
   have HNx := Lib.hid hn
   clear hn
   by_cases hk : t.l.length = 0
   ·have d3 : ((t.l.length : Int) == 0) = true := by rw [hk]; rfl
    have HKx := Lib.hid hk
    clear hk
    go_enter Try.func56, Try.ntmps56
    go_wp2_with (first | (go_at_call 54; refine (HN.out _).mono ?_; rintro e w' ⟨rfl, rfl⟩) | (go_at_call 69; refine (HWd.out _).mono ?_; rintro e w' ⟨rfl, rfl⟩))
    go_ret
    refine ⟨true, by first | rfl | simp, ⟨fun _ => ⟨HE.out, HOK.out.2 ⟨by omega, HInv.out.2 ⟨HSx.out, HNx.out, (List.eq_nil_of_length_eq_zero HKx.out)⟩, fun y hy => ?_⟩⟩, fun _ => rfl⟩, HR.out.low⟩
    rw [List.eq_nil_of_length_eq_zero HKx.out] at hy
    cases hy
   ·have d3 : ((t.l.length : Int) == 0) = false := by rw [beq_eq_false_iff_ne]; omega
    have HKx := Lib.hid hk
    clear hk
    go_enter Try.func56, Try.ntmps56
    go_wp2_with (first | (go_at_call 54; refine (HN.out _).mono ?_; rintro e w' ⟨rfl, rfl⟩) | (go_at_call 69; refine (HWd.out _).mono ?_; rintro e w' ⟨rfl, rfl⟩))
    go_ret
    refine ⟨false, by first | rfl | simp, ⟨fun hf => absurd hf (by simp), fun hh => ?_⟩, HR.out.low⟩
    have hi := HInv.out.1 (HOK.out.1 hh.2).2.1
    exact absurd (by rw [hi.2.2]; rfl) HKx.out
  ·have d2 : (t.n == 0) = false := by simpa using hn
   have HNx := Lib.hid hn
   clear hn
   go_enter Try.func56, Try.ntmps56
   go_wp2_with (first | (go_at_call 54; refine (HN.out _).mono ?_; rintro e w' ⟨rfl, rfl⟩) | (go_at_call 69; refine (HWd.out _).mono ?_; rintro e w' ⟨rfl, rfl⟩))
   go_ret
   refine ⟨false, by first | rfl | simp, ⟨fun hf => absurd hf (by simp), fun hh => ?_⟩, HR.out.low⟩
   have hi := HInv.out.1 (HOK.out.1 hh.2).2.1
   exact absurd hi.2.1 HNx.out
 ·have d1 : ((bs t.s).toList == []) = false := by rw [Lib.toList_data, bs_list, beq_eq_false_iff_ne]; exact hs
  have HSx := Lib.hid hs
  clear hs
  go_enter Try.func56, Try.ntmps56
  go_wp2_with (first | (go_at_call 54; refine (HN.out _).mono ?_; rintro e w' ⟨rfl, rfl⟩) | (go_at_call 69; refine (HWd.out _).mono ?_; rintro e w' ⟨rfl, rfl⟩))
  go_ret
  refine ⟨false, by first | rfl | simp, ⟨fun hf => absurd hf (by simp), fun hh => ?_⟩, HR.out.low⟩
  have hi := HInv.out.1 (HOK.out.1 hh.2).2.1
  exact absurd hi.1 HSx.out
theorem rex_8 : RefWalk 8 := by
 intro h t A c w e h1 h2 hA hE hl
 obtain ⟨W1, hr⟩ : ∃ W, RIn h t A c w W := ⟨_, r_in h t A c w hA⟩
 have hall := all_any (h - 1) t.l _ W1 hr.row hE hl
 have hbx := hr.cells
 have hiE : isE t := by unfold isE hasB; rw [e]; rfl
 have HR := Lib.hid hr
 have HN := Lib.hid hr.name
 have HWd := Lib.hid hr.word
 have HAll := Lib.hid hall
 have HOK := Lib.hid (ok_iff h t)
 have HInv := Lib.hid (inv_8 e)
 have HE := Lib.hid hiE
 have hW : w.alloc (.cells #[.int .i64 8, .string (bs t.s), .int .i64 t.n, .slice A t.l.length c, .int .i64 t.line] 24) = W1 := by rw [← e]; exact hr.world
 unfold BoxAt at hbx
 rw [e] at hbx
 obtain ⟨f0, f1, f2, f3, f4⟩ := hbx
 unfold nodeV
 rw [e]
 obtain ⟨rn, en⟩ : ∃ b, isNameL t.s = b := ⟨_, rfl⟩
 obtain ⟨rw_, ew⟩ : ∃ b, isWordL t.s = b := ⟨_, rfl⟩
 rw [en] at HN
 rw [ew] at HWd
 clear hA hE hr hall hiE e en ew
 by_cases hs : t.s = []
 ·have d1 : ((bs t.s).toList == []) = true := by rw [hs, Lib.toList_data, bs_list]; rfl
  have HSx := Lib.hid hs
  clear hs
  by_cases hn : t.n = 0
  ·have d2 : (t.n == 0) = true := by rw [hn]; rfl
   have HNx := Lib.hid hn
   clear hn
   by_cases hk : t.l.length = 0
   ·have d3 : ((t.l.length : Int) == 0) = true := by rw [hk]; rfl
    have HKx := Lib.hid hk
    clear hk
    go_enter Try.func56, Try.ntmps56
    go_wp2_with (first | (go_at_call 54; refine (HN.out _).mono ?_; rintro e w' ⟨rfl, rfl⟩) | (go_at_call 69; refine (HWd.out _).mono ?_; rintro e w' ⟨rfl, rfl⟩))
    go_ret
    refine ⟨true, by first | rfl | simp, ⟨fun _ => ⟨HE.out, HOK.out.2 ⟨by omega, HInv.out.2 ⟨HSx.out, HNx.out, (List.eq_nil_of_length_eq_zero HKx.out)⟩, fun y hy => ?_⟩⟩, fun _ => rfl⟩, HR.out.low⟩
    rw [List.eq_nil_of_length_eq_zero HKx.out] at hy
    cases hy
   ·have d3 : ((t.l.length : Int) == 0) = false := by rw [beq_eq_false_iff_ne]; omega
    have HKx := Lib.hid hk
    clear hk
    go_enter Try.func56, Try.ntmps56
    go_wp2_with (first | (go_at_call 54; refine (HN.out _).mono ?_; rintro e w' ⟨rfl, rfl⟩) | (go_at_call 69; refine (HWd.out _).mono ?_; rintro e w' ⟨rfl, rfl⟩))
    go_ret
    refine ⟨false, by first | rfl | simp, ⟨fun hf => absurd hf (by simp), fun hh => ?_⟩, HR.out.low⟩
    have hi := HInv.out.1 (HOK.out.1 hh.2).2.1
    exact absurd (by rw [hi.2.2]; rfl) HKx.out
  ·have d2 : (t.n == 0) = false := by simpa using hn
   have HNx := Lib.hid hn
   clear hn
   go_enter Try.func56, Try.ntmps56
   go_wp2_with (first | (go_at_call 54; refine (HN.out _).mono ?_; rintro e w' ⟨rfl, rfl⟩) | (go_at_call 69; refine (HWd.out _).mono ?_; rintro e w' ⟨rfl, rfl⟩))
   go_ret
   refine ⟨false, by first | rfl | simp, ⟨fun hf => absurd hf (by simp), fun hh => ?_⟩, HR.out.low⟩
   have hi := HInv.out.1 (HOK.out.1 hh.2).2.1
   exact absurd hi.2.1 HNx.out
 ·have d1 : ((bs t.s).toList == []) = false := by rw [Lib.toList_data, bs_list, beq_eq_false_iff_ne]; exact hs
  have HSx := Lib.hid hs
  clear hs
  go_enter Try.func56, Try.ntmps56
  go_wp2_with (first | (go_at_call 54; refine (HN.out _).mono ?_; rintro e w' ⟨rfl, rfl⟩) | (go_at_call 69; refine (HWd.out _).mono ?_; rintro e w' ⟨rfl, rfl⟩))
  go_ret
  refine ⟨false, by first | rfl | simp, ⟨fun hf => absurd hf (by simp), fun hh => ?_⟩, HR.out.low⟩
  have hi := HInv.out.1 (HOK.out.1 hh.2).2.1
  exact absurd hi.1 HSx.out
theorem rex_9 : RefWalk 9 := by
 intro h t A c w e h1 h2 hA hE hl
 obtain ⟨W1, hr⟩ : ∃ W, RIn h t A c w W := ⟨_, r_in h t A c w hA⟩
 have hall := all_any (h - 1) t.l _ W1 hr.row hE hl
 have hbx := hr.cells
 have hiE : isE t := by unfold isE hasB; rw [e]; rfl
 have HR := Lib.hid hr
 have HN := Lib.hid hr.name
 have HWd := Lib.hid hr.word
 have HAll := Lib.hid hall
 have HOK := Lib.hid (ok_iff h t)
 have HInv := Lib.hid (inv_9 e)
 have HE := Lib.hid hiE
 have hW : w.alloc (.cells #[.int .i64 9, .string (bs t.s), .int .i64 t.n, .slice A t.l.length c, .int .i64 t.line] 24) = W1 := by rw [← e]; exact hr.world
 unfold BoxAt at hbx
 rw [e] at hbx
 obtain ⟨f0, f1, f2, f3, f4⟩ := hbx
 unfold nodeV
 rw [e]
 obtain ⟨rn, en⟩ : ∃ b, isNameL t.s = b := ⟨_, rfl⟩
 obtain ⟨rw_, ew⟩ : ∃ b, isWordL t.s = b := ⟨_, rfl⟩
 rw [en] at HN
 rw [ew] at HWd
 clear hA hE hr hall hiE e en ew
 by_cases hs : t.s = []
 ·have d1 : ((bs t.s).toList == []) = true := by rw [hs, Lib.toList_data, bs_list]; rfl
  have HSx := Lib.hid hs
  clear hs
  by_cases hn : t.n = 0
  ·have d2 : (t.n == 0) = true := by rw [hn]; rfl
   have HNx := Lib.hid hn
   clear hn
   by_cases hk : t.l.length = 0
   ·have d3 : ((t.l.length : Int) == 0) = true := by rw [hk]; rfl
    have HKx := Lib.hid hk
    clear hk
    go_enter Try.func56, Try.ntmps56
    go_wp2_with (first | (go_at_call 54; refine (HN.out _).mono ?_; rintro e w' ⟨rfl, rfl⟩) | (go_at_call 69; refine (HWd.out _).mono ?_; rintro e w' ⟨rfl, rfl⟩))
    go_ret
    refine ⟨true, by first | rfl | simp, ⟨fun _ => ⟨HE.out, HOK.out.2 ⟨by omega, HInv.out.2 ⟨HSx.out, HNx.out, (List.eq_nil_of_length_eq_zero HKx.out)⟩, fun y hy => ?_⟩⟩, fun _ => rfl⟩, HR.out.low⟩
    rw [List.eq_nil_of_length_eq_zero HKx.out] at hy
    cases hy
   ·have d3 : ((t.l.length : Int) == 0) = false := by rw [beq_eq_false_iff_ne]; omega
    have HKx := Lib.hid hk
    clear hk
    go_enter Try.func56, Try.ntmps56
    go_wp2_with (first | (go_at_call 54; refine (HN.out _).mono ?_; rintro e w' ⟨rfl, rfl⟩) | (go_at_call 69; refine (HWd.out _).mono ?_; rintro e w' ⟨rfl, rfl⟩))
    go_ret
    refine ⟨false, by first | rfl | simp, ⟨fun hf => absurd hf (by simp), fun hh => ?_⟩, HR.out.low⟩
    have hi := HInv.out.1 (HOK.out.1 hh.2).2.1
    exact absurd (by rw [hi.2.2]; rfl) HKx.out
  ·have d2 : (t.n == 0) = false := by simpa using hn
   have HNx := Lib.hid hn
   clear hn
   go_enter Try.func56, Try.ntmps56
   go_wp2_with (first | (go_at_call 54; refine (HN.out _).mono ?_; rintro e w' ⟨rfl, rfl⟩) | (go_at_call 69; refine (HWd.out _).mono ?_; rintro e w' ⟨rfl, rfl⟩))
   go_ret
   refine ⟨false, by first | rfl | simp, ⟨fun hf => absurd hf (by simp), fun hh => ?_⟩, HR.out.low⟩
   have hi := HInv.out.1 (HOK.out.1 hh.2).2.1
   exact absurd hi.2.1 HNx.out
 ·have d1 : ((bs t.s).toList == []) = false := by rw [Lib.toList_data, bs_list, beq_eq_false_iff_ne]; exact hs
  have HSx := Lib.hid hs
  clear hs
  go_enter Try.func56, Try.ntmps56
  go_wp2_with (first | (go_at_call 54; refine (HN.out _).mono ?_; rintro e w' ⟨rfl, rfl⟩) | (go_at_call 69; refine (HWd.out _).mono ?_; rintro e w' ⟨rfl, rfl⟩))
  go_ret
  refine ⟨false, by first | rfl | simp, ⟨fun hf => absurd hf (by simp), fun hh => ?_⟩, HR.out.low⟩
  have hi := HInv.out.1 (HOK.out.1 hh.2).2.1
  exact absurd hi.1 HSx.out
end
end Go.Proofs.Ytbpodijcndglgaa
