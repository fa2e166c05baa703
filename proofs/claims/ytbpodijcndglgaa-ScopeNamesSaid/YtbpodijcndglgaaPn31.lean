/- gumshoeref03.expr: names, numbers, functions, members, calls, sets, signs. gumshoeref03.expr: names, numbers, functions, members, calls, sets, signs. gumshoeref03.expr: names, numbers, functions, members, calls, sets, signs. gumshoeref03.expr: objects. -/
import Derived.Test.YtbpodijcndglgaaProg
import Derived.Test.YtbpodijcndglgaaPn27
set_option linter.unusedSimpArgs false
set_option linter.unusedVariables false
set_option maxRecDepth 100000
set_option maxHeartbeats 40000000
namespace Go.Proofs.Ytbpodijcndglgaa
section
open Go.RowKit Go.Proofs
theorem rex_1 : RefWalk 1 := by
 intro h t A c w e h1 h2 hA hE hl
 obtain ⟨W1, hr⟩ : ∃ W, RIn h t A c w W := ⟨_, r_in h t A c w hA⟩
 have hall := all_any (h - 1) t.l _ W1 hr.row hE hl
 have hbx := hr.cells
 have hiE : isE t := by unfold isE hasB; rw [e]; rfl
 have HR := Lib.hid hr
 have HN := Lib.hid hr.name
 have HWd := Lib.hid hr.word
 have HAll := Lib.hid hall
 have HOK := Lib.hid (ok_iff h t)
 have HInv := Lib.hid (inv_1 e)
 have HE := Lib.hid hiE
 have hW : w.alloc (.cells #[.int .i64 1, .string (bs t.s), .int .i64 t.n, .slice A t.l.length c, .int .i64 t.line] 24) = W1 := by rw [← e]; exact hr.world
 unfold BoxAt at hbx
 rw [e] at hbx
 obtain ⟨f0, f1, f2, f3, f4⟩ := hbx
 unfold nodeV
 rw [e]
 obtain ⟨rn, en⟩ : ∃ b, isNameL t.s = b := ⟨_, rfl⟩
 obtain ⟨rw_, ew⟩ : ∃ b, isWordL t.s = b := ⟨_, rfl⟩
 rw [en] at HN
 rw [ew] at HWd
 have HEn := Lib.hid en
 have HEw := Lib.hid ew
 clear hA hE hr hall hiE e en ew
 by_cases hs : t.s = []
 ·have d1 : ((bs t.s).toList == []) = true := by rw [hs, Lib.toList_data, bs_list]; rfl
  have HSx := Lib.hid hs
  clear hs
  by_cases hn : t.n = 0
  ·have d2 : (t.n == 0) = true := by rw [hn]; rfl
   have HNx := Lib.hid hn
   clear hn
   cases rn with
   | true =>
    by_cases hk : t.l.length = 0
    ·have d3 : ((t.l.length : Int) == 0) = true := by rw [hk]; rfl
     have HKx := Lib.hid hk
     clear hk
     go_enter Try.func56, Try.ntmps56
     go_wp2_with (first | (go_at_call 54; refine (HN.out _).mono ?_; rintro e w' ⟨rfl, rfl⟩) | (go_at_call 69; refine (HWd.out _).mono ?_; rintro e w' ⟨rfl, rfl⟩))
     go_ret
     refine ⟨true, by first | rfl | simp, ⟨fun _ => ⟨HE.out, HOK.out.2 ⟨by omega, HInv.out.2 ⟨HEn.out, HNx.out, List.eq_nil_of_length_eq_zero HKx.out⟩, fun y hy => ?_⟩⟩, fun _ => rfl⟩, HR.out.low⟩
     rw [List.eq_nil_of_length_eq_zero HKx.out] at hy
     cases hy
    ·have d3 : ((t.l.length : Int) == 0) = false := by rw [beq_eq_false_iff_ne]; omega
     have HKx := Lib.hid hk
     clear hk
     go_enter Try.func56, Try.ntmps56
     go_wp2_with (first | (go_at_call 54; refine (HN.out _).mono ?_; rintro e w' ⟨rfl, rfl⟩) | (go_at_call 69; refine (HWd.out _).mono ?_; rintro e w' ⟨rfl, rfl⟩))
     go_ret
     refine ⟨false, by first | rfl | simp, ⟨fun hf => absurd hf (by simp), fun hh => ?_⟩, HR.out.low⟩
     have hi := HInv.out.1 (HOK.out.1 hh.2).2.1
     exact absurd (by rw [hi.2.2]; rfl) HKx.out
   | false =>
    go_enter Try.func56, Try.ntmps56
    go_wp2_with (first | (go_at_call 54; refine (HN.out _).mono ?_; rintro e w' ⟨rfl, rfl⟩) | (go_at_call 69; refine (HWd.out _).mono ?_; rintro e w' ⟨rfl, rfl⟩))
    go_ret
    refine ⟨false, by first | rfl | simp, ⟨fun hf => absurd hf (by simp), fun hh => ?_⟩, HR.out.low⟩
    have hi := HInv.out.1 (HOK.out.1 hh.2).2.1
    exact absurd (hi.1.symm.trans HEn.out) (by simp)
  ·have d2 : (t.n == 0) = false := by simpa using hn
   have HNx := Lib.hid hn
   clear hn
   cases rn with
   | true =>
    go_enter Try.func56, Try.ntmps56
    go_wp2_with (first | (go_at_call 54; refine (HN.out _).mono ?_; rintro e w' ⟨rfl, rfl⟩) | (go_at_call 69; refine (HWd.out _).mono ?_; rintro e w' ⟨rfl, rfl⟩))
    go_ret
    refine ⟨false, by first | rfl | simp, ⟨fun hf => absurd hf (by simp), fun hh => ?_⟩, HR.out.low⟩
    have hi := HInv.out.1 (HOK.out.1 hh.2).2.1
    exact absurd hi.2.1 HNx.out
   | false =>
    go_enter Try.func56, Try.ntmps56
    go_wp2_with (first | (go_at_call 54; refine (HN.out _).mono ?_; rintro e w' ⟨rfl, rfl⟩) | (go_at_call 69; refine (HWd.out _).mono ?_; rintro e w' ⟨rfl, rfl⟩))
    go_ret
    refine ⟨false, by first | rfl | simp, ⟨fun hf => absurd hf (by simp), fun hh => ?_⟩, HR.out.low⟩
    have hi := HInv.out.1 (HOK.out.1 hh.2).2.1
    exact absurd (hi.1.symm.trans HEn.out) (by simp)
 ·have d1 : ((bs t.s).toList == []) = false := by rw [Lib.toList_data, bs_list, beq_eq_false_iff_ne]; exact hs
  have HSx := Lib.hid hs
  clear hs
  by_cases hn : t.n = 0
  ·have d2 : (t.n == 0) = true := by rw [hn]; rfl
   have HNx := Lib.hid hn
   clear hn
   cases rn with
   | true =>
    by_cases hk : t.l.length = 0
    ·have d3 : ((t.l.length : Int) == 0) = true := by rw [hk]; rfl
     have HKx := Lib.hid hk
     clear hk
     go_enter Try.func56, Try.ntmps56
     go_wp2_with (first | (go_at_call 54; refine (HN.out _).mono ?_; rintro e w' ⟨rfl, rfl⟩) | (go_at_call 69; refine (HWd.out _).mono ?_; rintro e w' ⟨rfl, rfl⟩))
     go_ret
     refine ⟨true, by first | rfl | simp, ⟨fun _ => ⟨HE.out, HOK.out.2 ⟨by omega, HInv.out.2 ⟨HEn.out, HNx.out, List.eq_nil_of_length_eq_zero HKx.out⟩, fun y hy => ?_⟩⟩, fun _ => rfl⟩, HR.out.low⟩
     rw [List.eq_nil_of_length_eq_zero HKx.out] at hy
     cases hy
    ·have d3 : ((t.l.length : Int) == 0) = false := by rw [beq_eq_false_iff_ne]; omega
     have HKx := Lib.hid hk
     clear hk
     go_enter Try.func56, Try.ntmps56
     go_wp2_with (first | (go_at_call 54; refine (HN.out _).mono ?_; rintro e w' ⟨rfl, rfl⟩) | (go_at_call 69; refine (HWd.out _).mono ?_; rintro e w' ⟨rfl, rfl⟩))
     go_ret
     refine ⟨false, by first | rfl | simp, ⟨fun hf => absurd hf (by simp), fun hh => ?_⟩, HR.out.low⟩
     have hi := HInv.out.1 (HOK.out.1 hh.2).2.1
     exact absurd (by rw [hi.2.2]; rfl) HKx.out
   | false =>
    go_enter Try.func56, Try.ntmps56
    go_wp2_with (first | (go_at_call 54; refine (HN.out _).mono ?_; rintro e w' ⟨rfl, rfl⟩) | (go_at_call 69; refine (HWd.out _).mono ?_; rintro e w' ⟨rfl, rfl⟩))
    go_ret
    refine ⟨false, by first | rfl | simp, ⟨fun hf => absurd hf (by simp), fun hh => ?_⟩, HR.out.low⟩
    have hi := HInv.out.1 (HOK.out.1 hh.2).2.1
    exact absurd (hi.1.symm.trans HEn.out) (by simp)
  ·have d2 : (t.n == 0) = false := by simpa using hn
   have HNx := Lib.hid hn
   clear hn
   cases rn with
   | true =>
    go_enter Try.func56, Try.ntmps56
    go_wp2_with (first | (go_at_call 54; refine (HN.out _).mono ?_; rintro e w' ⟨rfl, rfl⟩) | (go_at_call 69; refine (HWd.out _).mono ?_; rintro e w' ⟨rfl, rfl⟩))
    go_ret
    refine ⟨false, by first | rfl | simp, ⟨fun hf => absurd hf (by simp), fun hh => ?_⟩, HR.out.low⟩
    have hi := HInv.out.1 (HOK.out.1 hh.2).2.1
    exact absurd hi.2.1 HNx.out
   | false =>
    go_enter Try.func56, Try.ntmps56
    go_wp2_with (first | (go_at_call 54; refine (HN.out _).mono ?_; rintro e w' ⟨rfl, rfl⟩) | (go_at_call 69; refine (HWd.out _).mono ?_; rintro e w' ⟨rfl, rfl⟩))
    go_ret
    refine ⟨false, by first | rfl | simp, ⟨fun hf => absurd hf (by simp), fun hh => ?_⟩, HR.out.low⟩
    have hi := HInv.out.1 (HOK.out.1 hh.2).2.1
    exact absurd (hi.1.symm.trans HEn.out) (by simp)
theorem rex_2 : RefWalk 2 := by
 intro h t A c w e h1 h2 hA hE hl
 obtain ⟨W1, hr⟩ : ∃ W, RIn h t A c w W := ⟨_, r_in h t A c w hA⟩
 have hall := all_any (h - 1) t.l _ W1 hr.row hE hl
 have hbx := hr.cells
 have hiE : isE t := by unfold isE hasB; rw [e]; rfl
 have HR := Lib.hid hr
 have HN := Lib.hid hr.name
 have HWd := Lib.hid hr.word
 have HAll := Lib.hid hall
 have HOK := Lib.hid (ok_iff h t)
 have HInv := Lib.hid (inv_2 e)
 have HE := Lib.hid hiE
 have hW : w.alloc (.cells #[.int .i64 2, .string (bs t.s), .int .i64 t.n, .slice A t.l.length c, .int .i64 t.line] 24) = W1 := by rw [← e]; exact hr.world
 unfold BoxAt at hbx
 rw [e] at hbx
 obtain ⟨f0, f1, f2, f3, f4⟩ := hbx
 unfold nodeV
 rw [e]
 obtain ⟨rn, en⟩ : ∃ b, isNameL t.s = b := ⟨_, rfl⟩
 obtain ⟨rw_, ew⟩ : ∃ b, isWordL t.s = b := ⟨_, rfl⟩
 rw [en] at HN
 rw [ew] at HWd
 have HEn := Lib.hid en
 have HEw := Lib.hid ew
 clear hA hE hr hall hiE e en ew
 by_cases hs : t.s = []
 ·have d1 : ((bs t.s).toList == []) = true := by rw [hs, Lib.toList_data, bs_list]; rfl
  have HSx := Lib.hid hs
  clear hs
  by_cases hn : t.n = 0
  ·have d2 : (t.n == 0) = true := by rw [hn]; rfl
   have HNx := Lib.hid hn
   clear hn
   by_cases hn0 : 0 ≤ t.n
   ·have HN0 := Lib.hid hn0
    by_cases hnm : t.n ≤ 999999999999999
    ·have HNm := Lib.hid hnm
     by_cases hk : t.l.length = 0
     ·have d3 : ((t.l.length : Int) == 0) = true := by rw [hk]; rfl
      have HKx := Lib.hid hk
      clear hk
      go_enter Try.func56, Try.ntmps56
      go_wp2_with (first | (go_at_call 54; refine (HN.out _).mono ?_; rintro e w' ⟨rfl, rfl⟩) | (go_at_call 69; refine (HWd.out _).mono ?_; rintro e w' ⟨rfl, rfl⟩))
      go_ret
      refine ⟨true, by first | rfl | simp, ⟨fun _ => ⟨HE.out, HOK.out.2 ⟨by omega, HInv.out.2 ⟨HSx.out, HN0.out, HNm.out, List.eq_nil_of_length_eq_zero HKx.out⟩, fun y hy => ?_⟩⟩, fun _ => rfl⟩, HR.out.low⟩
      rw [List.eq_nil_of_length_eq_zero HKx.out] at hy
      cases hy
     ·have d3 : ((t.l.length : Int) == 0) = false := by rw [beq_eq_false_iff_ne]; omega
      have HKx := Lib.hid hk
      clear hk
      go_enter Try.func56, Try.ntmps56
      go_wp2_with (first | (go_at_call 54; refine (HN.out _).mono ?_; rintro e w' ⟨rfl, rfl⟩) | (go_at_call 69; refine (HWd.out _).mono ?_; rintro e w' ⟨rfl, rfl⟩))
      go_ret
      refine ⟨false, by first | rfl | simp, ⟨fun hf => absurd hf (by simp), fun hh => ?_⟩, HR.out.low⟩
      have hi := HInv.out.1 (HOK.out.1 hh.2).2.1
      exact absurd (by rw [hi.2.2.2]; rfl) HKx.out
    ·have HNm := Lib.hid hnm
     go_enter Try.func56, Try.ntmps56
     go_wp2_with (first | (go_at_call 54; refine (HN.out _).mono ?_; rintro e w' ⟨rfl, rfl⟩) | (go_at_call 69; refine (HWd.out _).mono ?_; rintro e w' ⟨rfl, rfl⟩))
     go_ret
     refine ⟨false, by first | rfl | simp, ⟨fun hf => absurd hf (by simp), fun hh => ?_⟩, HR.out.low⟩
     have hi := HInv.out.1 (HOK.out.1 hh.2).2.1
     have h8 := hi.2.2.1
     have h9 := HNm.out
     omega
   ·have HN0 := Lib.hid hn0
    go_enter Try.func56, Try.ntmps56
    go_wp2_with (first | (go_at_call 54; refine (HN.out _).mono ?_; rintro e w' ⟨rfl, rfl⟩) | (go_at_call 69; refine (HWd.out _).mono ?_; rintro e w' ⟨rfl, rfl⟩))
    go_ret
    refine ⟨false, by first | rfl | simp, ⟨fun hf => absurd hf (by simp), fun hh => ?_⟩, HR.out.low⟩
    have hi := HInv.out.1 (HOK.out.1 hh.2).2.1
    have h8 := hi.2.1
    have h9 := HN0.out
    omega
  ·have d2 : (t.n == 0) = false := by simpa using hn
   have HNx := Lib.hid hn
   clear hn
   by_cases hn0 : 0 ≤ t.n
   ·have HN0 := Lib.hid hn0
    by_cases hnm : t.n ≤ 999999999999999
    ·have HNm := Lib.hid hnm
     by_cases hk : t.l.length = 0
     ·have d3 : ((t.l.length : Int) == 0) = true := by rw [hk]; rfl
      have HKx := Lib.hid hk
      clear hk
      go_enter Try.func56, Try.ntmps56
      go_wp2_with (first | (go_at_call 54; refine (HN.out _).mono ?_; rintro e w' ⟨rfl, rfl⟩) | (go_at_call 69; refine (HWd.out _).mono ?_; rintro e w' ⟨rfl, rfl⟩))
      go_ret
      refine ⟨true, by first | rfl | simp, ⟨fun _ => ⟨HE.out, HOK.out.2 ⟨by omega, HInv.out.2 ⟨HSx.out, HN0.out, HNm.out, List.eq_nil_of_length_eq_zero HKx.out⟩, fun y hy => ?_⟩⟩, fun _ => rfl⟩, HR.out.low⟩
      rw [List.eq_nil_of_length_eq_zero HKx.out] at hy
      cases hy
     ·have d3 : ((t.l.length : Int) == 0) = false := by rw [beq_eq_false_iff_ne]; omega
      have HKx := Lib.hid hk
      clear hk
      go_enter Try.func56, Try.ntmps56
      go_wp2_with (first | (go_at_call 54; refine (HN.out _).mono ?_; rintro e w' ⟨rfl, rfl⟩) | (go_at_call 69; refine (HWd.out _).mono ?_; rintro e w' ⟨rfl, rfl⟩))
      go_ret
      refine ⟨false, by first | rfl | simp, ⟨fun hf => absurd hf (by simp), fun hh => ?_⟩, HR.out.low⟩
      have hi := HInv.out.1 (HOK.out.1 hh.2).2.1
      exact absurd (by rw [hi.2.2.2]; rfl) HKx.out
    ·have HNm := Lib.hid hnm
     go_enter Try.func56, Try.ntmps56
     go_wp2_with (first | (go_at_call 54; refine (HN.out _).mono ?_; rintro e w' ⟨rfl, rfl⟩) | (go_at_call 69; refine (HWd.out _).mono ?_; rintro e w' ⟨rfl, rfl⟩))
     go_ret
     refine ⟨false, by first | rfl | simp, ⟨fun hf => absurd hf (by simp), fun hh => ?_⟩, HR.out.low⟩
     have hi := HInv.out.1 (HOK.out.1 hh.2).2.1
     have h8 := hi.2.2.1
     have h9 := HNm.out
     omega
   ·have HN0 := Lib.hid hn0
    go_enter Try.func56, Try.ntmps56
    go_wp2_with (first | (go_at_call 54; refine (HN.out _).mono ?_; rintro e w' ⟨rfl, rfl⟩) | (go_at_call 69; refine (HWd.out _).mono ?_; rintro e w' ⟨rfl, rfl⟩))
    go_ret
    refine ⟨false, by first | rfl | simp, ⟨fun hf => absurd hf (by simp), fun hh => ?_⟩, HR.out.low⟩
    have hi := HInv.out.1 (HOK.out.1 hh.2).2.1
    have h8 := hi.2.1
    have h9 := HN0.out
    omega
 ·have d1 : ((bs t.s).toList == []) = false := by rw [Lib.toList_data, bs_list, beq_eq_false_iff_ne]; exact hs
  have HSx := Lib.hid hs
  clear hs
  go_enter Try.func56, Try.ntmps56
  go_wp2_with (first | (go_at_call 54; refine (HN.out _).mono ?_; rintro e w' ⟨rfl, rfl⟩) | (go_at_call 69; refine (HWd.out _).mono ?_; rintro e w' ⟨rfl, rfl⟩))
  go_ret
  refine ⟨false, by first | rfl | simp, ⟨fun hf => absurd hf (by simp), fun hh => ?_⟩, HR.out.low⟩
  have hi := HInv.out.1 (HOK.out.1 hh.2).2.1
  exact absurd hi.1 HSx.out
open Go.RowKit Go.Proofs
theorem isE_target {a : Tr} (h : hasB 5 a.op = true) : isE a := by
 have h3 : a.op = 13 ∨ a.op = 14 ∨ a.op = 1 := by unfold hasB at h; simpa [or_assoc] using h
 unfold isE
 rcases h3 with h3 | h3 | h3 <;> rw [h3] <;> rfl
theorem rex_17 : RefWalk 17 := by
 intro h t A c w e h1 h2 hA hE hl
 obtain ⟨W1, hr⟩ : ∃ W, RIn h t A c w W := ⟨_, r_in h t A c w hA⟩
 have hall := all_any (h - 1) t.l _ W1 hr.row hE hl
 have hbx := hr.cells
 have hiE : isE t := by unfold isE hasB; rw [e]; rfl
 have HR := Lib.hid hr
 have HN := Lib.hid hr.name
 have HWd := Lib.hid hr.word
 have HAll := Lib.hid hall
 have HOK := Lib.hid (ok_iff h t)
 have HInv := Lib.hid (inv_17 e)
 have HE := Lib.hid hiE
 have hW : w.alloc (.cells #[.int .i64 17, .string (bs t.s), .int .i64 t.n, .slice A t.l.length c, .int .i64 t.line] 24) = W1 := by rw [← e]; exact hr.world
 unfold BoxAt at hbx
 rw [e] at hbx
 obtain ⟨f0, f1, f2, f3, f4⟩ := hbx
 unfold nodeV
 rw [e]
 obtain ⟨rn, en⟩ : ∃ b, isNameL t.s = b := ⟨_, rfl⟩
 obtain ⟨rw_, ew⟩ : ∃ b, isWordL t.s = b := ⟨_, rfl⟩
 rw [en] at HN
 rw [ew] at HWd
 have HEn := Lib.hid en
 have HEw := Lib.hid ew
 have hA17 : ∀ a r, t.l = a :: r → ∃ (A0 : Nat) (off : Nat), A = some ⟨A0, off, none⟩ ∧ ∀ w', Below W1.heap.size W1 w' → w'.cell? ⟨A0, off, none⟩ = some (.int .i64 a.op) := fun a r hl0 => by
  obtain ⟨A', c', e', -, h2⟩ := hr.row
  cases e'
  obtain ⟨g, off, rfl, hg, ha⟩ := h2 (by rw [hl0]; simp)
  rw [hl0, AtL_cons] at ha
  obtain ⟨⟨v0, -, c0, -⟩, -⟩ := ha
  exact ⟨g, off, rfl, fun w' hb => (hb.cell hg).trans c0⟩
 have HA17 := Lib.hid hA17
 have hbx17 := fun w' (hb : Below W1.heap.size W1 w') => box_in hb hr.box
 have HX17 := Lib.hid hbx17
 have HOp := Lib.hid e
 clear hA17 hbx17
 clear hA hE hr hall hiE e en ew
 by_cases hs : t.s = []
 ·have d1 : ((bs t.s).toList == []) = true := by rw [hs, Lib.toList_data, bs_list]; rfl
  have HSx := Lib.hid hs
  clear hs
  by_cases hn : t.n = 0
  ·have d2 : (t.n == 0) = true := by rw [hn]; rfl
   have HNx := Lib.hid hn
   clear hn
   by_cases hk : t.l.length = 2
   ·have d3 : ((t.l.length : Int) == 2) = true := by rw [hk]; rfl
    have HKx := Lib.hid hk
    clear hk
    obtain ⟨a, b0, hl0⟩ := len2 HKx.out
    obtain ⟨A0, off, rfl, hA0⟩ := HA17.out a [b0] hl0
    have HL0 := Lib.hid hl0
    have HA0 := Lib.hid hA0
    clear hl0 hA0
    go_enter Try.func56, Try.ntmps56
    go_wp2_with (first | (go_at_call 54; refine (HN.out _).mono ?_; rintro e w' ⟨rfl, rfl⟩) | (go_at_call 69; refine (HWd.out _).mono ?_; rintro e w' ⟨rfl, rfl⟩))
    go_at_call 55
    refine HAll.out.mono ?_
    rintro e w5 ⟨b, rfl, hb, hb5⟩
    have HB := Lib.hid (And.intro hb hb5)
    have cop := HA0.out w5 hb5
    clear f0 f1 f2 f3 f4
    obtain ⟨f0, f1, f2, f3, f4⟩ := HX17.out w5 hb5
    rw [HOp.out] at f0
    clear hb hb5
    have hk0 : 0 < t.l.length := by rw [HKx.out]; decide
    cases b with
    | true =>
     by_cases ht : hasB 5 a.op = true
     ·have HT := Lib.hid ht
      have h3 : a.op = 13 ∨ a.op = 14 ∨ a.op = 1 := by unfold hasB at ht; simpa [or_assoc] using ht
      clear ht
      rcases h3 with h3 | h3 | h3
      ·rw [h3] at cop
       go_wp2
       go_ret
       refine ⟨true, by first | rfl | simp, ⟨fun _ => ⟨HE.out, HOK.out.2 ⟨by omega, HInv.out.2 ⟨HSx.out, HNx.out, a, b0, HL0.out, HT.out, ?_⟩, fun y hy => ((HB.out.1.1 trivial) y hy).2⟩⟩, fun _ => rfl⟩, HR.out.low.trans (HB.out.2.mono HR.out.low.size)⟩
       exact ((HB.out.1.1 trivial) b0 (by rw [HL0.out]; simp)).1
      ·rw [h3] at cop
       go_wp2
       go_ret
       refine ⟨true, by first | rfl | simp, ⟨fun _ => ⟨HE.out, HOK.out.2 ⟨by omega, HInv.out.2 ⟨HSx.out, HNx.out, a, b0, HL0.out, HT.out, ?_⟩, fun y hy => ((HB.out.1.1 trivial) y hy).2⟩⟩, fun _ => rfl⟩, HR.out.low.trans (HB.out.2.mono HR.out.low.size)⟩
       exact ((HB.out.1.1 trivial) b0 (by rw [HL0.out]; simp)).1
      ·rw [h3] at cop
       go_wp2
       go_ret
       refine ⟨true, by first | rfl | simp, ⟨fun _ => ⟨HE.out, HOK.out.2 ⟨by omega, HInv.out.2 ⟨HSx.out, HNx.out, a, b0, HL0.out, HT.out, ?_⟩, fun y hy => ((HB.out.1.1 trivial) y hy).2⟩⟩, fun _ => rfl⟩, HR.out.low.trans (HB.out.2.mono HR.out.low.size)⟩
       exact ((HB.out.1.1 trivial) b0 (by rw [HL0.out]; simp)).1
     ·have HT := Lib.hid ht
      have n1 : (a.op == 1) = false := by rw [beq_eq_false_iff_ne]; intro h; apply ht; rw [h]; rfl
      have n13 : (a.op == 13) = false := by rw [beq_eq_false_iff_ne]; intro h; apply ht; rw [h]; rfl
      have n14 : (a.op == 14) = false := by rw [beq_eq_false_iff_ne]; intro h; apply ht; rw [h]; rfl
      clear ht
      go_wp2
      go_ret
      refine ⟨false, by first | rfl | simp, ⟨fun hf => absurd hf (by simp), fun hh => ?_⟩, HR.out.low.trans (HB.out.2.mono HR.out.low.size)⟩
      obtain ⟨-, -, a2, b2, e2, ht, -⟩ := HInv.out.1 (HOK.out.1 hh.2).2.1
      rw [HL0.out] at e2
      cases e2
      exact absurd ht HT.out
    | false =>
     go_wp2
     go_ret
     refine ⟨false, by first | rfl | simp, ⟨fun hf => absurd hf (by simp), fun hh => ?_⟩, HR.out.low.trans (HB.out.2.mono HR.out.low.size)⟩
     have h9 := HB.out.1.2 (fun y hy => ?_)
     ·exact absurd h9 (by simp)
     ·obtain ⟨-, -, a2, b2, e2, ht, hb2⟩ := HInv.out.1 (HOK.out.1 hh.2).2.1
      refine ⟨?_, (HOK.out.1 hh.2).2.2 y hy⟩
      rw [e2] at hy
      simp only [List.mem_cons, List.not_mem_nil, or_false] at hy
      rcases hy with rfl | rfl
      ·exact isE_target ht
      ·exact hb2
   ·have d3 : ((t.l.length : Int) == 2) = false := by simp; omega
    have HKx := Lib.hid hk
    clear hk
    go_enter Try.func56, Try.ntmps56
    go_wp2_with (first | (go_at_call 54; refine (HN.out _).mono ?_; rintro e w' ⟨rfl, rfl⟩) | (go_at_call 69; refine (HWd.out _).mono ?_; rintro e w' ⟨rfl, rfl⟩) | (go_at_call 55; refine HAll.out.mono ?_; rintro e w5 ⟨b, rfl, hb, hb5⟩; have HB := Lib.hid (And.intro hb hb5); clear hb hb5))
    go_ret
    refine ⟨false, by first | rfl | simp, ⟨fun hf => absurd hf (by simp), fun hh => ?_⟩, HR.out.low⟩
    have hi := HInv.out.1 (HOK.out.1 hh.2).2.1
    obtain ⟨-, -, a, b', hl0, -⟩ := hi
    exact absurd (by rw [hl0]; rfl) HKx.out
  ·have d2 : (t.n == 0) = false := by simpa using hn
   have HNx := Lib.hid hn
   clear hn
   go_enter Try.func56, Try.ntmps56
   go_wp2_with (first | (go_at_call 54; refine (HN.out _).mono ?_; rintro e w' ⟨rfl, rfl⟩) | (go_at_call 69; refine (HWd.out _).mono ?_; rintro e w' ⟨rfl, rfl⟩) | (go_at_call 55; refine HAll.out.mono ?_; rintro e w5 ⟨b, rfl, hb, hb5⟩; have HB := Lib.hid (And.intro hb hb5); clear hb hb5))
   go_ret
   refine ⟨false, by first | rfl | simp, ⟨fun hf => absurd hf (by simp), fun hh => ?_⟩, HR.out.low⟩
   have hi := HInv.out.1 (HOK.out.1 hh.2).2.1
   exact absurd hi.2.1 HNx.out
 ·have d1 : ((bs t.s).toList == []) = false := by rw [Lib.toList_data, bs_list, beq_eq_false_iff_ne]; exact hs
  have HSx := Lib.hid hs
  clear hs
  go_enter Try.func56, Try.ntmps56
  go_wp2_with (first | (go_at_call 54; refine (HN.out _).mono ?_; rintro e w' ⟨rfl, rfl⟩) | (go_at_call 69; refine (HWd.out _).mono ?_; rintro e w' ⟨rfl, rfl⟩) | (go_at_call 55; refine HAll.out.mono ?_; rintro e w5 ⟨b, rfl, hb, hb5⟩; have HB := Lib.hid (And.intro hb hb5); clear hb hb5))
  go_ret
  refine ⟨false, by first | rfl | simp, ⟨fun hf => absurd hf (by simp), fun hh => ?_⟩, HR.out.low⟩
  have hi := HInv.out.1 (HOK.out.1 hh.2).2.1
  exact absurd hi.1 HSx.out
open Go.RowKit Go.Proofs
def RefWalkF (op : Int) : Prop := ∀ (h : Int) (t : Tr) (A : Option Addr) (c : Nat) (w : World), t.op = op → 1 ≤ h → h ≤ 1000 → At w w.heap.size t (nodeV t (.slice A t.l.length c)) → (∀ y ∈ t.l, RefE (h - 1) y) → t.l.length ≤ 9223372036854775807 → (∀ y ∈ t.l, RefS (h - 1) y) →
 Calls Try.prog 56 #[nodeV t (.slice A t.l.length c), .int .i64 h] w (Says (isE t ∧ OK h t) w)
theorem rex_10 : RefWalkF 10 := by
 intro h t A c w e h1 h2 hA hE hl hS
 obtain ⟨W1, hr⟩ : ∃ W, RIn h t A c w W := ⟨_, r_in h t A c w hA⟩
 have hall := all_any (h - 1) t.l _ W1 hr.row hE hl
 have hbx := hr.cells
 have hiE : isE t := by unfold isE hasB; rw [e]; rfl
 have HR := Lib.hid hr
 have HN := Lib.hid hr.name
 have HWd := Lib.hid hr.word
 have HAll := Lib.hid hall
 have HOK := Lib.hid (ok_iff h t)
 have HInv := Lib.hid (inv_10 e)
 have HE := Lib.hid hiE
 have hW : w.alloc (.cells #[.int .i64 10, .string (bs t.s), .int .i64 t.n, .slice A t.l.length c, .int .i64 t.line] 24) = W1 := by rw [← e]; exact hr.world
 unfold BoxAt at hbx
 rw [e] at hbx
 obtain ⟨f0, f1, f2, f3, f4⟩ := hbx
 unfold nodeV
 rw [e]
 obtain ⟨rn, en⟩ : ∃ b, isNameL t.s = b := ⟨_, rfl⟩
 obtain ⟨rw_, ew⟩ : ∃ b, isWordL t.s = b := ⟨_, rfl⟩
 rw [en] at HN
 rw [ew] at HWd
 have HEn := Lib.hid en
 have HEw := Lib.hid ew
 have HFn := Lib.hid (fun_any (h - 1) t.l _ W1 hr.row hE hS hl)
 clear hA hE hr hall hiE e en ew
 by_cases hs : t.s = []
 ·have d1 : ((bs t.s).toList == []) = true := by rw [hs, Lib.toList_data, bs_list]; rfl
  have HSx := Lib.hid hs
  clear hs
  by_cases hn : t.n = 0
  ·have d2 : (t.n == 0) = true := by rw [hn]; rfl
   have HNx := Lib.hid hn
   clear hn
   cases rn with
   | true =>
    go_enter Try.func56, Try.ntmps56
    go_wp2_with (first | (go_at_call 54; refine (HN.out _).mono ?_; rintro e w' ⟨rfl, rfl⟩) | (go_at_call 69; refine (HWd.out _).mono ?_; rintro e w' ⟨rfl, rfl⟩) | (go_at_call 57; refine HFn.out.mono ?_; rintro e w5 ⟨b, rfl, hb, hb5⟩; have HB := Lib.hid (And.intro hb hb5); clear hb hb5))
    go_ret
    refine ⟨b, by first | rfl | simp, ?_, HR.out.low.trans (HB.out.2.mono HR.out.low.size)⟩
    rw [HB.out.1, HOK.out, HInv.out]
    constructor
    ·rintro ⟨hle, xs, b', hl0, hx, hb1, hb2⟩
     refine ⟨HE.out, by omega, ⟨.inl HSx.out, HNx.out, hle, xs, b', hl0, fun x hx' => (hx x hx').1, hb1⟩, fun y hy => ?_⟩
     rw [hl0, List.mem_append, List.mem_singleton] at hy
     rcases hy with hy | rfl
     ·exact (hx y hy).2
     ·exact hb2
    ·rintro ⟨-, -, ⟨-, -, hle, xs, b', hl0, hx, hb1⟩, hp⟩
     exact ⟨hle, xs, b', hl0, fun x hx' => ⟨hx x hx', hp x (by rw [hl0]; simp [hx'])⟩, hb1, hp b' (by rw [hl0]; simp)⟩
   | false =>
    go_enter Try.func56, Try.ntmps56
    go_wp2_with (first | (go_at_call 54; refine (HN.out _).mono ?_; rintro e w' ⟨rfl, rfl⟩) | (go_at_call 69; refine (HWd.out _).mono ?_; rintro e w' ⟨rfl, rfl⟩) | (go_at_call 57; refine HFn.out.mono ?_; rintro e w5 ⟨b, rfl, hb, hb5⟩; have HB := Lib.hid (And.intro hb hb5); clear hb hb5))
    go_ret
    refine ⟨b, by first | rfl | simp, ?_, HR.out.low.trans (HB.out.2.mono HR.out.low.size)⟩
    rw [HB.out.1, HOK.out, HInv.out]
    constructor
    ·rintro ⟨hle, xs, b', hl0, hx, hb1, hb2⟩
     refine ⟨HE.out, by omega, ⟨.inl HSx.out, HNx.out, hle, xs, b', hl0, fun x hx' => (hx x hx').1, hb1⟩, fun y hy => ?_⟩
     rw [hl0, List.mem_append, List.mem_singleton] at hy
     rcases hy with hy | rfl
     ·exact (hx y hy).2
     ·exact hb2
    ·rintro ⟨-, -, ⟨-, -, hle, xs, b', hl0, hx, hb1⟩, hp⟩
     exact ⟨hle, xs, b', hl0, fun x hx' => ⟨hx x hx', hp x (by rw [hl0]; simp [hx'])⟩, hb1, hp b' (by rw [hl0]; simp)⟩
  ·have d2 : (t.n == 0) = false := by simpa using hn
   have HNx := Lib.hid hn
   clear hn
   cases rn with
   | true =>
    go_enter Try.func56, Try.ntmps56
    go_wp2_with (first | (go_at_call 54; refine (HN.out _).mono ?_; rintro e w' ⟨rfl, rfl⟩) | (go_at_call 69; refine (HWd.out _).mono ?_; rintro e w' ⟨rfl, rfl⟩) | (go_at_call 57; refine HFn.out.mono ?_; rintro e w5 ⟨b, rfl, hb, hb5⟩; have HB := Lib.hid (And.intro hb hb5); clear hb hb5))
    go_ret
    refine ⟨false, by first | rfl | simp, ⟨fun hf => absurd hf (by simp), fun hh => ?_⟩, HR.out.low⟩
    have hi := HInv.out.1 (HOK.out.1 hh.2).2.1
    exact absurd hi.2.1 HNx.out
   | false =>
    go_enter Try.func56, Try.ntmps56
    go_wp2_with (first | (go_at_call 54; refine (HN.out _).mono ?_; rintro e w' ⟨rfl, rfl⟩) | (go_at_call 69; refine (HWd.out _).mono ?_; rintro e w' ⟨rfl, rfl⟩) | (go_at_call 57; refine HFn.out.mono ?_; rintro e w5 ⟨b, rfl, hb, hb5⟩; have HB := Lib.hid (And.intro hb hb5); clear hb hb5))
    go_ret
    refine ⟨false, by first | rfl | simp, ⟨fun hf => absurd hf (by simp), fun hh => ?_⟩, HR.out.low⟩
    have hi := HInv.out.1 (HOK.out.1 hh.2).2.1
    exact absurd hi.2.1 HNx.out
 ·have d1 : ((bs t.s).toList == []) = false := by rw [Lib.toList_data, bs_list, beq_eq_false_iff_ne]; exact hs
  have HSx := Lib.hid hs
  clear hs
  by_cases hn : t.n = 0
  ·have d2 : (t.n == 0) = true := by rw [hn]; rfl
   have HNx := Lib.hid hn
   clear hn
   cases rn with
   | true =>
    go_enter Try.func56, Try.ntmps56
    go_wp2_with (first | (go_at_call 54; refine (HN.out _).mono ?_; rintro e w' ⟨rfl, rfl⟩) | (go_at_call 69; refine (HWd.out _).mono ?_; rintro e w' ⟨rfl, rfl⟩) | (go_at_call 57; refine HFn.out.mono ?_; rintro e w5 ⟨b, rfl, hb, hb5⟩; have HB := Lib.hid (And.intro hb hb5); clear hb hb5))
    go_ret
    refine ⟨b, by first | rfl | simp, ?_, HR.out.low.trans (HB.out.2.mono HR.out.low.size)⟩
    rw [HB.out.1, HOK.out, HInv.out]
    constructor
    ·rintro ⟨hle, xs, b', hl0, hx, hb1, hb2⟩
     refine ⟨HE.out, by omega, ⟨.inr HEn.out, HNx.out, hle, xs, b', hl0, fun x hx' => (hx x hx').1, hb1⟩, fun y hy => ?_⟩
     rw [hl0, List.mem_append, List.mem_singleton] at hy
     rcases hy with hy | rfl
     ·exact (hx y hy).2
     ·exact hb2
    ·rintro ⟨-, -, ⟨-, -, hle, xs, b', hl0, hx, hb1⟩, hp⟩
     exact ⟨hle, xs, b', hl0, fun x hx' => ⟨hx x hx', hp x (by rw [hl0]; simp [hx'])⟩, hb1, hp b' (by rw [hl0]; simp)⟩
   | false =>
    go_enter Try.func56, Try.ntmps56
    go_wp2_with (first | (go_at_call 54; refine (HN.out _).mono ?_; rintro e w' ⟨rfl, rfl⟩) | (go_at_call 69; refine (HWd.out _).mono ?_; rintro e w' ⟨rfl, rfl⟩) | (go_at_call 57; refine HFn.out.mono ?_; rintro e w5 ⟨b, rfl, hb, hb5⟩; have HB := Lib.hid (And.intro hb hb5); clear hb hb5))
    go_ret
    refine ⟨false, by first | rfl | simp, ⟨fun hf => absurd hf (by simp), fun hh => ?_⟩, HR.out.low⟩
    have hi := HInv.out.1 (HOK.out.1 hh.2).2.1
    rcases hi.1 with h | h
    ·exact absurd h HSx.out
    ·exact absurd (h.symm.trans HEn.out) (by simp)
  ·have d2 : (t.n == 0) = false := by simpa using hn
   have HNx := Lib.hid hn
   clear hn
   cases rn with
   | true =>
    go_enter Try.func56, Try.ntmps56
    go_wp2_with (first | (go_at_call 54; refine (HN.out _).mono ?_; rintro e w' ⟨rfl, rfl⟩) | (go_at_call 69; refine (HWd.out _).mono ?_; rintro e w' ⟨rfl, rfl⟩) | (go_at_call 57; refine HFn.out.mono ?_; rintro e w5 ⟨b, rfl, hb, hb5⟩; have HB := Lib.hid (And.intro hb hb5); clear hb hb5))
    go_ret
    refine ⟨false, by first | rfl | simp, ⟨fun hf => absurd hf (by simp), fun hh => ?_⟩, HR.out.low⟩
    have hi := HInv.out.1 (HOK.out.1 hh.2).2.1
    exact absurd hi.2.1 HNx.out
   | false =>
    go_enter Try.func56, Try.ntmps56
    go_wp2_with (first | (go_at_call 54; refine (HN.out _).mono ?_; rintro e w' ⟨rfl, rfl⟩) | (go_at_call 69; refine (HWd.out _).mono ?_; rintro e w' ⟨rfl, rfl⟩) | (go_at_call 57; refine HFn.out.mono ?_; rintro e w5 ⟨b, rfl, hb, hb5⟩; have HB := Lib.hid (And.intro hb hb5); clear hb hb5))
    go_ret
    refine ⟨false, by first | rfl | simp, ⟨fun hf => absurd hf (by simp), fun hh => ?_⟩, HR.out.low⟩
    have hi := HInv.out.1 (HOK.out.1 hh.2).2.1
    rcases hi.1 with h | h
    ·exact absurd h HSx.out
    ·exact absurd (h.symm.trans HEn.out) (by simp)
open Go.RowKit Go.Proofs
theorem pair_ok {h : Int} {y : Tr} (e : y.op = 12) : OK (h - 1) y ↔ 2 ≤ h ∧ y.n = 0 ∧ ∃ a, y.l = [a] ∧ isE a ∧ OK (h - 2) a := by
 rw [ok_iff, inv_12 e]
 constructor
 ·rintro ⟨h1, ⟨h2, a, h3, h4⟩, h5⟩
  refine ⟨by omega, h2, a, h3, h4, ?_⟩
  have := h5 a (by rw [h3]; simp)
  rwa [show h - 1 - 1 = h - 2 by omega] at this
 ·rintro ⟨h1, h2, a, h3, h4, h5⟩
  refine ⟨by omega, ⟨h2, a, h3, h4⟩, fun z hz => ?_⟩
  rw [h3] at hz
  obtain rfl := List.mem_singleton.1 hz
  rwa [show h - 1 - 1 = h - 2 by omega]
theorem one_part {W : World} {n : Nat} {y a : Tr} {Av : Option Addr} {cv : Nat} (h : At W n y (nodeV y (.slice Av y.l.length cv))) (hl : y.l = [a]) :
  ∃ g off Aa ca, Av = some ⟨g, off, none⟩ ∧ 1 ≤ cv ∧ g < n ∧ At W n a (nodeV a (.slice Aa a.l.length ca)) ∧ W.cell? ⟨g, off, none⟩ = some (.int .i64 a.op) ∧ W.cell? ⟨g, off + 1, none⟩ = some (.string (bs a.s)) ∧ W.cell? ⟨g, off + 2, none⟩ = some (.int .i64 a.n) ∧ W.cell? ⟨g, off + 3, none⟩ = some (.slice Aa a.l.length ca) ∧ W.cell? ⟨g, off + 4, none⟩ = some (.int .i64 a.line) := by
 obtain ⟨u, e, ⟨A', c', e', ⟨hc, -⟩, h2⟩, -⟩ := (At_iff _ _ _ _).1 h
 unfold nodeV at e
 simp only [Value.agg.injEq, Array.mk.injEq, List.cons.injEq, and_true, true_and] at e
 rw [← e] at e'
 cases e'
 obtain ⟨g, off, rfl, hg, ha⟩ := h2 (by rw [hl]; simp)
 rw [hl, AtL_cons] at ha
 obtain ⟨⟨v, h3, c0, c1, c2, c3, c4⟩, -⟩ := ha
 obtain ⟨u', e2, ⟨Aa, ca, hv, -⟩, -⟩ := (At_iff _ _ _ _).1 h3
 unfold nodeV at e2
 simp only [Value.agg.injEq, Array.mk.injEq, List.cons.injEq, and_true, true_and] at e2
 subst e2
 subst hv
 exact ⟨g, off, Aa, ca, rfl, by rw [hl] at hc; exact hc, hg, h3, c0, c1, c2, c3, c4⟩
theorem rex_11 (h : Int) (t : Tr) (A : Option Addr) (c : Nat) (w : World) (e : t.op = 11) (h1 : 1 ≤ h) (h2 : h ≤ 1000) (hA : At w w.heap.size t (nodeV t (.slice A t.l.length c))) (hE : ∀ y ∈ t.l, ∀ z ∈ y.l, RefE (h - 2) z) (hl : t.l.length ≤ 9223372036854775807) :
  Calls Try.prog 56 #[nodeV t (.slice A t.l.length c), .int .i64 h] w (Says (isE t ∧ OK h t) w) := by
 obtain ⟨W1, hr⟩ : ∃ W, RIn h t A c w W := ⟨_, r_in h t A c w hA⟩
 have hbx := hr.cells
 have hiE : isE t := by unfold isE hasB; rw [e]; rfl
 have HR := Lib.hid hr
 have HN := Lib.hid hr.name
 have HWd := Lib.hid hr.word
 have HOK := Lib.hid (ok_iff h t)
 have HInv := Lib.hid (inv_11 e)
 have HE := Lib.hid hiE
 have hW : w.alloc (.cells #[.int .i64 11, .string (bs t.s), .int .i64 t.n, .slice A t.l.length c, .int .i64 t.line] 24) = W1 := by rw [← e]; exact hr.world
 unfold BoxAt at hbx
 rw [e] at hbx
 obtain ⟨f0, f1, f2, f3, f4⟩ := hbx
 unfold nodeV
 rw [e]
 obtain ⟨rn, en⟩ : ∃ b, isNameL t.s = b := ⟨_, rfl⟩
 obtain ⟨rw_, ew⟩ : ∃ b, isWordL t.s = b := ⟨_, rfl⟩
 rw [en] at HN
 rw [ew] at HWd
 clear hA hiE e en ew
 by_cases hs : t.s = []
 ·have d1 : ((bs t.s).toList == []) = true := by rw [hs, Lib.toList_data, bs_list]; rfl
  have HSx := Lib.hid hs
  clear hs
  by_cases hn : t.n = 0
  ·have d2 : (t.n == 0) = true := by rw [hn]; rfl
   have HNx := Lib.hid hn
   clear hn
   by_cases hk : t.l.length ≤ 200
   ·have HKx := Lib.hid hk
    obtain ⟨A', c', e', ⟨hlc, -⟩, hrow⟩ := hr.row
    cases e'
    have hform : ∀ k y, t.l[k]? = some y → ∃ g off, A = some ⟨g, off, none⟩ ∧ ∀ w', Below W1.heap.size W1 w' → ∃ Av cv, g < w'.heap.size ∧ At w' w'.heap.size y (nodeV y (.slice Av y.l.length cv)) ∧ w'.cell? ⟨g, off + k * 5, none⟩ = some (.int .i64 y.op) ∧ w'.cell? ⟨g, off + k * 5 + 1, none⟩ = some (.string (bs y.s)) ∧ w'.cell? ⟨g, off + k * 5 + 2, none⟩ = some (.int .i64 y.n) ∧
      w'.cell? ⟨g, off + k * 5 + 3, none⟩ = some (.slice Av y.l.length cv) ∧ w'.cell? ⟨g, off + k * 5 + 4, none⟩ = some (.int .i64 y.line) := fun k y hy => by
     obtain ⟨hk, -⟩ := List.getElem?_eq_some_iff.1 hy
     obtain ⟨g, off, rfl, hg, ha⟩ := hrow (by omega)
     refine ⟨g, off, rfl, fun w' hb => ?_⟩
     obtain ⟨Av, cv, hA, x⟩ := elem_at ha hg hb hy
     exact ⟨Av, cv, by have := hb.size; omega, At.keep y hA hb.size fun _ _ => rfl, x⟩
    have HF := Lib.hid hform
    have HEE := Lib.hid hE
    have HLc := Lib.hid hlc
    have HX := Lib.hid (fun w' (hb : Below W1.heap.size W1 w') => box_in hb hr.box)
    have HOp := Lib.hid (show W1.heap.size = w.heap.size + 1 by rw [← hr.world]; simp)
    have HRes := Lib.hid (show (isE t ∧ OK h t) ↔ ∀ (j : Nat) (y : Tr), t.l[j]? = some y → y.op = 12 ∧ OK (h - 1) y by
     rw [HOK.out, HInv.out]
     constructor
     ·rintro ⟨-, -, ⟨-, -, -, g1⟩, g2⟩ j y hy
      exact ⟨g1 y (List.mem_of_getElem? hy), g2 y (List.mem_of_getElem? hy)⟩
     ·intro hh
      refine ⟨HE.out, h1, ⟨HSx.out, HNx.out, hk, fun y hy => ?_⟩, fun y hy => ?_⟩
      ·obtain ⟨j, hj, ej⟩ := List.mem_iff_getElem.1 hy
       exact (hh j y (by rw [List.getElem?_eq_getElem hj, ej])).1
      ·obtain ⟨j, hj, ej⟩ := List.mem_iff_getElem.1 hy
       exact (hh j y (by rw [List.getElem?_eq_getElem hj, ej])).2)
    rw [HRes.out]
    clear hr hE hform hlc hrow HRes
    go_enter Try.func56, Try.ntmps56
    go_wp2_with (first | (go_at_call 54; refine (HN.out _).mono ?_; rintro e w' ⟨rfl, rfl⟩) | (go_at_call 69; refine (HWd.out _).mono ?_; rintro e w' ⟨rfl, rfl⟩))
    go_loopw [9] (fun i wr => ∃ k : Nat, k ≤ t.l.length ∧ i = .int .i64 k ∧ RowKit.Hid ((∀ (j : Nat) (y : Tr), j < k → t.l[j]? = some y → y.op = 12 ∧ OK (h - 1) y) ∧ Below W1.heap.size W1 wr)) (fun i _ => t.l.length - (intOf i).toNat)
    case atStart => exact ⟨0, Nat.zero_le _, rfl, Lib.hid ⟨fun j y hj => by omega, Below.refl _ _⟩⟩
    case round =>
     obtain ⟨k, hk, rfl, HRd⟩ := hrel
     clear f0 f1 f2 f3 f4
     obtain ⟨f0, f1, f2, f3, f4⟩ := HX.out wr HRd.out.2
     have hq1 : w.heap.size < wr.heap.size := by have := HRd.out.2.size; have := HOp.out; omega
     have hlow : Below w.heap.size w wr := HR.out.low.trans (HRd.out.2.mono HR.out.low.size)
     have HLow := Lib.hid hlow
     clear hlow
     by_cases hlt : k < t.l.length
     ·obtain ⟨y, hy⟩ : ∃ y, t.l[k]? = some y := ⟨_, List.getElem?_eq_getElem hlt⟩
      have hym := List.mem_of_getElem? hy
      obtain ⟨g, off, hAg, hcell⟩ := HF.out k y hy
      obtain ⟨Av, cv, hgl, hyA, x0, x1, x2, x3, x4⟩ := hcell wr HRd.out.2
      subst hAg
      have hkc : k < c := by have := HLc.out; omega
      have HY := Lib.hid (And.intro hy (And.intro hym hyA))
      clear hym hyA hcell hy
      by_cases hh2 : 2 ≤ h
      ·have hhx : ¬ h < 2 := by omega
       by_cases hop : y.op = 12
       ·have hop2 : (y.op != 12) = false := by rw [hop]; rfl
        have HOy := Lib.hid hop
        clear hop
        by_cases hyn : y.n = 0
        ·have hyn2 : (y.n != 0) = false := by rw [hyn]; rfl
         have HNy := Lib.hid hyn
         clear hyn
         by_cases hyl : y.l.length = 1
         ·have hyl2 : ((y.l.length : Int) != 1) = false := by rw [hyl]; rfl
          obtain ⟨a, ha⟩ := len1 hyl
          obtain ⟨g2, off2, Aa, ca, rfl, hcv, hg2, hAa, z0, z1, z2, z3, z4⟩ := one_part HY.out.2.2 ha
          have hyl3 : 0 < y.l.length := by omega
          have hc30 := HEE.out y HY.out.2.1 a (by rw [ha]; simp) _ (wr.alloc (.cells #[.int .i64 y.op, .string (bs y.s), .int .i64 y.n, .slice (some ⟨g2, off2, none⟩) y.l.length cv, .int .i64 y.line] 24)) (At.keep a hAa (by simp) fun p hp => World.cell?_alloc_lt wr _ p hp)
          unfold nodeV at hc30
          have HC := Lib.hid hc30
          have HL1 := Lib.hid ha
          clear hc30 hAa ha hyl
          go_wp2_with fail
          go_at_call 56
          refine HC.out.mono ?_
          rintro e w5 ⟨b, rfl, hb, hb5⟩
          have HB := Lib.hid (And.intro hb (show Below wr.heap.size wr w5 from ((Below.refl _ wr).alloc (Nat.le_refl _) _).trans (hb5.mono (by simp))))
          clear hb hb5
          cases b with
          | true =>
           go_wp2
           go_roundw
           case rel =>
            refine ⟨k + 1, by omega, by simp, Lib.hid ⟨fun j z hj hz => ?_, HRd.out.2.trans (HB.out.2.mono HRd.out.2.size)⟩⟩
            by_cases hjk : j < k
            ·exact HRd.out.1 j z hjk hz
            ·obtain rfl : j = k := by omega
             rw [HY.out.1] at hz
             cases hz
             have h9 := HB.out.1.1 (by trivial)
             exact ⟨HOy.out, (pair_ok HOy.out).2 ⟨hh2, HNy.out, a, HL1.out, h9.1, h9.2⟩⟩
           case measure => simp [intOf]; omega
          | false =>
           go_wp2
           go_ret
           refine ⟨false, by first | rfl | simp, ⟨fun hf => absurd hf (by simp), fun hh => ?_⟩, HLow.out.trans (HB.out.2.mono HLow.out.size)⟩
           have h9 := (pair_ok HOy.out).1 (hh k y HY.out.1).2
           obtain ⟨-, -, a', ha', h10, h11⟩ := h9
           rw [HL1.out] at ha'
           cases ha'
           exact absurd (HB.out.1.2 ⟨h10, h11⟩) (by simp)
         ·have hyl2 : ((y.l.length : Int) != 1) = true := by simp; omega
          have HLy := Lib.hid hyl
          clear hyl
          go_wp2
          go_ret
          refine ⟨false, by first | rfl | simp, ⟨fun hf => absurd hf (by simp), fun hh => ?_⟩, HLow.out.trans (by first | exact Below.refl _ _ | exact (Below.refl _ _).alloc HLow.out.size _)⟩
          obtain ⟨-, -, a', ha', -⟩ := (pair_ok HOy.out).1 (hh k y HY.out.1).2
          exact absurd (by rw [ha']; rfl) HLy.out
        ·have hyn2 : (y.n != 0) = true := by simpa using hyn
         have HNy := Lib.hid hyn
         clear hyn
         go_wp2
         go_ret
         refine ⟨false, by first | rfl | simp, ⟨fun hf => absurd hf (by simp), fun hh => ?_⟩, HLow.out.trans (by first | exact Below.refl _ _ | exact (Below.refl _ _).alloc HLow.out.size _)⟩
         exact absurd ((pair_ok HOy.out).1 (hh k y HY.out.1).2).2.1 HNy.out
       ·have hop2 : (y.op != 12) = true := by simpa using hop
        have HOy := Lib.hid hop
        clear hop
        go_wp2
        go_ret
        refine ⟨false, by first | rfl | simp, ⟨fun hf => absurd hf (by simp), fun hh => ?_⟩, HLow.out.trans (by first | exact Below.refl _ _ | exact (Below.refl _ _).alloc HLow.out.size _)⟩
        exact absurd (hh k y HY.out.1).1 HOy.out
      ·have hhx : h < 2 := by omega
       go_wp2
       go_ret
       refine ⟨false, by first | rfl | simp, ⟨fun hf => absurd hf (by simp), fun hh => ?_⟩, HLow.out.trans (by first | exact Below.refl _ _ | exact (Below.refl _ _).alloc HLow.out.size _)⟩
       have h9 := hh k y HY.out.1
       have h8 := ((pair_ok h9.1).1 h9.2).1
       omega
     ·obtain rfl : k = t.l.length := by omega
      go_wp2
      go_ret
      refine ⟨true, by first | rfl | simp, ⟨fun _ j y hy => ?_, fun _ => rfl⟩, HLow.out⟩
      exact HRd.out.1 j y (List.getElem?_eq_some_iff.1 hy).1 hy
   ·have hk2 : 200 < t.l.length := by omega
    have HKx := Lib.hid hk
    clear hk
    clear hr hE
    go_enter Try.func56, Try.ntmps56
    go_wp2_with (first | (go_at_call 54; refine (HN.out _).mono ?_; rintro e w' ⟨rfl, rfl⟩) | (go_at_call 69; refine (HWd.out _).mono ?_; rintro e w' ⟨rfl, rfl⟩))
    go_ret
    refine ⟨false, by first | rfl | simp, ⟨fun hf => absurd hf (by simp), fun hh => ?_⟩, HR.out.low⟩
    have hi := HInv.out.1 (HOK.out.1 hh.2).2.1
    exact absurd hi.2.2.1 HKx.out
  ·have d2 : (t.n == 0) = false := by simpa using hn
   have HNx := Lib.hid hn
   clear hn
   clear hr hE
   go_enter Try.func56, Try.ntmps56
   go_wp2_with (first | (go_at_call 54; refine (HN.out _).mono ?_; rintro e w' ⟨rfl, rfl⟩) | (go_at_call 69; refine (HWd.out _).mono ?_; rintro e w' ⟨rfl, rfl⟩))
   go_ret
   refine ⟨false, by first | rfl | simp, ⟨fun hf => absurd hf (by simp), fun hh => ?_⟩, HR.out.low⟩
   have hi := HInv.out.1 (HOK.out.1 hh.2).2.1
   exact absurd hi.2.1 HNx.out
 ·have d1 : ((bs t.s).toList == []) = false := by rw [Lib.toList_data, bs_list, beq_eq_false_iff_ne]; exact hs
  have HSx := Lib.hid hs
  clear hs
  clear hr hE
  go_enter Try.func56, Try.ntmps56
  go_wp2_with (first | (go_at_call 54; refine (HN.out _).mono ?_; rintro e w' ⟨rfl, rfl⟩) | (go_at_call 69; refine (HWd.out _).mono ?_; rintro e w' ⟨rfl, rfl⟩))
  go_ret
  refine ⟨false, by first | rfl | simp, ⟨fun hf => absurd hf (by simp), fun hh => ?_⟩, HR.out.low⟩
  have hi := HInv.out.1 (HOK.out.1 hh.2).2.1
  exact absurd hi.1 HSx.out
end
end Go.Proofs.Ytbpodijcndglgaa
