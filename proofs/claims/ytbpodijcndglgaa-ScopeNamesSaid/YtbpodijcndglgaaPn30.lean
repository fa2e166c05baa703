/- gumshoeref03.expr: names, numbers, functions, members, calls, sets, signs. gumshoeref03.expr: names, numbers, functions, members, calls, sets, signs. gumshoeref03.expr: names, numbers, functions, members, calls, sets, signs. -/
import Derived.Test.YtbpodijcndglgaaProg
import Derived.Test.YtbpodijcndglgaaPn27
set_option linter.unusedSimpArgs false
set_option linter.unusedVariables false
set_option maxRecDepth 100000
set_option maxHeartbeats 40000000
namespace Go.Proofs.Ytbpodijcndglgaa
section
open Go.RowKit Go.Proofs
theorem rex_13 : RefWalk 13 := by
 intro h t A c w e h1 h2 hA hE hl
 obtain ⟨W1, hr⟩ : ∃ W, RIn h t A c w W := ⟨_, r_in h t A c w hA⟩
 have hall := all_any (h - 1) t.l _ W1 hr.row hE hl
 have hbx := hr.cells
 have hiE : isE t := by unfold isE hasB; rw [e]; rfl
 have HR := Lib.hid hr
 have HN := Lib.hid hr.name
 have HWd := Lib.hid hr.word
 have HAll := Lib.hid hall
 have HOK := Lib.hid (ok_iff h t)
 have HInv := Lib.hid (inv_13 e)
 have HE := Lib.hid hiE
 have hW : w.alloc (.cells #[.int .i64 13, .string (bs t.s), .int .i64 t.n, .slice A t.l.length c, .int .i64 t.line] 24) = W1 := by rw [← e]; exact hr.world
 unfold BoxAt at hbx
 rw [e] at hbx
 obtain ⟨f0, f1, f2, f3, f4⟩ := hbx
 unfold nodeV
 rw [e]
 obtain ⟨rn, en⟩ : ∃ b, isNameL t.s = b := ⟨_, rfl⟩
 obtain ⟨rw_, ew⟩ : ∃ b, isWordL t.s = b := ⟨_, rfl⟩
 rw [en] at HN
 rw [ew] at HWd
 have HEn := Lib.hid en
 have HEw := Lib.hid ew
 clear hA hE hr hall hiE e en ew
 by_cases hs : t.s = []
 ·have d1 : ((bs t.s).toList == []) = true := by rw [hs, Lib.toList_data, bs_list]; rfl
  have HSx := Lib.hid hs
  clear hs
  by_cases hn : t.n = 0
  ·have d2 : (t.n == 0) = true := by rw [hn]; rfl
   have HNx := Lib.hid hn
   clear hn
   cases rn with
   | true =>
    cases rw_ with
    | true =>
     by_cases hk : t.l.length = 1
     ·have d3 : ((t.l.length : Int) == 1) = true := by rw [hk]; rfl
      have HKx := Lib.hid hk
      clear hk
      go_enter Try.func56, Try.ntmps56
      go_wp2_with (first | (go_at_call 54; refine (HN.out _).mono ?_; rintro e w' ⟨rfl, rfl⟩) | (go_at_call 69; refine (HWd.out _).mono ?_; rintro e w' ⟨rfl, rfl⟩) | (go_at_call 55; refine HAll.out.mono ?_; rintro e w5 ⟨b, rfl, hb, hb5⟩; have HB := Lib.hid (And.intro hb hb5); clear hb hb5))
      go_ret
      refine ⟨b, by first | rfl | simp, ?_, HR.out.low.trans (HB.out.2.mono HR.out.low.size)⟩
      rw [HB.out.1, HOK.out, HInv.out]
      constructor
      ·intro hh
       obtain ⟨a, hl0⟩ := len1 HKx.out
       exact ⟨HE.out, by omega, ⟨.inr HEn.out, HNx.out, a, hl0, (hh a (by rw [hl0]; simp)).1⟩, fun y hy => (hh y hy).2⟩
      ·rintro ⟨-, -, ⟨-, -, a, hl0, ea⟩, hp⟩ y hy
       refine ⟨?_, hp y hy⟩
       rw [hl0] at hy
       simp only [List.mem_cons, List.not_mem_nil, or_false] at hy
       subst hy
       exact ea
     ·have d3 : ((t.l.length : Int) == 1) = false := by simp; omega
      have HKx := Lib.hid hk
      clear hk
      go_enter Try.func56, Try.ntmps56
      go_wp2_with (first | (go_at_call 54; refine (HN.out _).mono ?_; rintro e w' ⟨rfl, rfl⟩) | (go_at_call 69; refine (HWd.out _).mono ?_; rintro e w' ⟨rfl, rfl⟩) | (go_at_call 55; refine HAll.out.mono ?_; rintro e w5 ⟨b, rfl, hb, hb5⟩; have HB := Lib.hid (And.intro hb hb5); clear hb hb5))
      go_ret
      refine ⟨false, by first | rfl | simp, ⟨fun hf => absurd hf (by simp), fun hh => ?_⟩, HR.out.low⟩
      have hi := HInv.out.1 (HOK.out.1 hh.2).2.1
      obtain ⟨-, -, a, hl0, -⟩ := hi
      exact absurd (by rw [hl0]; rfl) HKx.out
    | false =>
     by_cases hk : t.l.length = 1
     ·have d3 : ((t.l.length : Int) == 1) = true := by rw [hk]; rfl
      have HKx := Lib.hid hk
      clear hk
      go_enter Try.func56, Try.ntmps56
      go_wp2_with (first | (go_at_call 54; refine (HN.out _).mono ?_; rintro e w' ⟨rfl, rfl⟩) | (go_at_call 69; refine (HWd.out _).mono ?_; rintro e w' ⟨rfl, rfl⟩) | (go_at_call 55; refine HAll.out.mono ?_; rintro e w5 ⟨b, rfl, hb, hb5⟩; have HB := Lib.hid (And.intro hb hb5); clear hb hb5))
      go_ret
      refine ⟨b, by first | rfl | simp, ?_, HR.out.low.trans (HB.out.2.mono HR.out.low.size)⟩
      rw [HB.out.1, HOK.out, HInv.out]
      constructor
      ·intro hh
       obtain ⟨a, hl0⟩ := len1 HKx.out
       exact ⟨HE.out, by omega, ⟨.inr HEn.out, HNx.out, a, hl0, (hh a (by rw [hl0]; simp)).1⟩, fun y hy => (hh y hy).2⟩
      ·rintro ⟨-, -, ⟨-, -, a, hl0, ea⟩, hp⟩ y hy
       refine ⟨?_, hp y hy⟩
       rw [hl0] at hy
       simp only [List.mem_cons, List.not_mem_nil, or_false] at hy
       subst hy
       exact ea
     ·have d3 : ((t.l.length : Int) == 1) = false := by simp; omega
      have HKx := Lib.hid hk
      clear hk
      go_enter Try.func56, Try.ntmps56
      go_wp2_with (first | (go_at_call 54; refine (HN.out _).mono ?_; rintro e w' ⟨rfl, rfl⟩) | (go_at_call 69; refine (HWd.out _).mono ?_; rintro e w' ⟨rfl, rfl⟩) | (go_at_call 55; refine HAll.out.mono ?_; rintro e w5 ⟨b, rfl, hb, hb5⟩; have HB := Lib.hid (And.intro hb hb5); clear hb hb5))
      go_ret
      refine ⟨false, by first | rfl | simp, ⟨fun hf => absurd hf (by simp), fun hh => ?_⟩, HR.out.low⟩
      have hi := HInv.out.1 (HOK.out.1 hh.2).2.1
      obtain ⟨-, -, a, hl0, -⟩ := hi
      exact absurd (by rw [hl0]; rfl) HKx.out
   | false =>
    cases rw_ with
    | true =>
     by_cases hk : t.l.length = 1
     ·have d3 : ((t.l.length : Int) == 1) = true := by rw [hk]; rfl
      have HKx := Lib.hid hk
      clear hk
      go_enter Try.func56, Try.ntmps56
      go_wp2_with (first | (go_at_call 54; refine (HN.out _).mono ?_; rintro e w' ⟨rfl, rfl⟩) | (go_at_call 69; refine (HWd.out _).mono ?_; rintro e w' ⟨rfl, rfl⟩) | (go_at_call 55; refine HAll.out.mono ?_; rintro e w5 ⟨b, rfl, hb, hb5⟩; have HB := Lib.hid (And.intro hb hb5); clear hb hb5))
      go_ret
      refine ⟨b, by first | rfl | simp, ?_, HR.out.low.trans (HB.out.2.mono HR.out.low.size)⟩
      rw [HB.out.1, HOK.out, HInv.out]
      constructor
      ·intro hh
       obtain ⟨a, hl0⟩ := len1 HKx.out
       exact ⟨HE.out, by omega, ⟨.inl HEw.out, HNx.out, a, hl0, (hh a (by rw [hl0]; simp)).1⟩, fun y hy => (hh y hy).2⟩
      ·rintro ⟨-, -, ⟨-, -, a, hl0, ea⟩, hp⟩ y hy
       refine ⟨?_, hp y hy⟩
       rw [hl0] at hy
       simp only [List.mem_cons, List.not_mem_nil, or_false] at hy
       subst hy
       exact ea
     ·have d3 : ((t.l.length : Int) == 1) = false := by simp; omega
      have HKx := Lib.hid hk
      clear hk
      go_enter Try.func56, Try.ntmps56
      go_wp2_with (first | (go_at_call 54; refine (HN.out _).mono ?_; rintro e w' ⟨rfl, rfl⟩) | (go_at_call 69; refine (HWd.out _).mono ?_; rintro e w' ⟨rfl, rfl⟩) | (go_at_call 55; refine HAll.out.mono ?_; rintro e w5 ⟨b, rfl, hb, hb5⟩; have HB := Lib.hid (And.intro hb hb5); clear hb hb5))
      go_ret
      refine ⟨false, by first | rfl | simp, ⟨fun hf => absurd hf (by simp), fun hh => ?_⟩, HR.out.low⟩
      have hi := HInv.out.1 (HOK.out.1 hh.2).2.1
      obtain ⟨-, -, a, hl0, -⟩ := hi
      exact absurd (by rw [hl0]; rfl) HKx.out
    | false =>
     go_enter Try.func56, Try.ntmps56
     go_wp2_with (first | (go_at_call 54; refine (HN.out _).mono ?_; rintro e w' ⟨rfl, rfl⟩) | (go_at_call 69; refine (HWd.out _).mono ?_; rintro e w' ⟨rfl, rfl⟩) | (go_at_call 55; refine HAll.out.mono ?_; rintro e w5 ⟨b, rfl, hb, hb5⟩; have HB := Lib.hid (And.intro hb hb5); clear hb hb5))
     go_ret
     refine ⟨false, by first | rfl | simp, ⟨fun hf => absurd hf (by simp), fun hh => ?_⟩, HR.out.low⟩
     have hi := HInv.out.1 (HOK.out.1 hh.2).2.1
     rcases hi.1 with h | h
     ·exact absurd (h.symm.trans HEw.out) (by simp)
     ·exact absurd (h.symm.trans HEn.out) (by simp)
  ·have d2 : (t.n == 0) = false := by simpa using hn
   have HNx := Lib.hid hn
   clear hn
   cases rn with
   | true =>
    cases rw_ with
    | true =>
     go_enter Try.func56, Try.ntmps56
     go_wp2_with (first | (go_at_call 54; refine (HN.out _).mono ?_; rintro e w' ⟨rfl, rfl⟩) | (go_at_call 69; refine (HWd.out _).mono ?_; rintro e w' ⟨rfl, rfl⟩) | (go_at_call 55; refine HAll.out.mono ?_; rintro e w5 ⟨b, rfl, hb, hb5⟩; have HB := Lib.hid (And.intro hb hb5); clear hb hb5))
     go_ret
     refine ⟨false, by first | rfl | simp, ⟨fun hf => absurd hf (by simp), fun hh => ?_⟩, HR.out.low⟩
     have hi := HInv.out.1 (HOK.out.1 hh.2).2.1
     exact absurd hi.2.1 HNx.out
    | false =>
     go_enter Try.func56, Try.ntmps56
     go_wp2_with (first | (go_at_call 54; refine (HN.out _).mono ?_; rintro e w' ⟨rfl, rfl⟩) | (go_at_call 69; refine (HWd.out _).mono ?_; rintro e w' ⟨rfl, rfl⟩) | (go_at_call 55; refine HAll.out.mono ?_; rintro e w5 ⟨b, rfl, hb, hb5⟩; have HB := Lib.hid (And.intro hb hb5); clear hb hb5))
     go_ret
     refine ⟨false, by first | rfl | simp, ⟨fun hf => absurd hf (by simp), fun hh => ?_⟩, HR.out.low⟩
     have hi := HInv.out.1 (HOK.out.1 hh.2).2.1
     exact absurd hi.2.1 HNx.out
   | false =>
    cases rw_ with
    | true =>
     go_enter Try.func56, Try.ntmps56
     go_wp2_with (first | (go_at_call 54; refine (HN.out _).mono ?_; rintro e w' ⟨rfl, rfl⟩) | (go_at_call 69; refine (HWd.out _).mono ?_; rintro e w' ⟨rfl, rfl⟩) | (go_at_call 55; refine HAll.out.mono ?_; rintro e w5 ⟨b, rfl, hb, hb5⟩; have HB := Lib.hid (And.intro hb hb5); clear hb hb5))
     go_ret
     refine ⟨false, by first | rfl | simp, ⟨fun hf => absurd hf (by simp), fun hh => ?_⟩, HR.out.low⟩
     have hi := HInv.out.1 (HOK.out.1 hh.2).2.1
     exact absurd hi.2.1 HNx.out
    | false =>
     go_enter Try.func56, Try.ntmps56
     go_wp2_with (first | (go_at_call 54; refine (HN.out _).mono ?_; rintro e w' ⟨rfl, rfl⟩) | (go_at_call 69; refine (HWd.out _).mono ?_; rintro e w' ⟨rfl, rfl⟩) | (go_at_call 55; refine HAll.out.mono ?_; rintro e w5 ⟨b, rfl, hb, hb5⟩; have HB := Lib.hid (And.intro hb hb5); clear hb hb5))
     go_ret
     refine ⟨false, by first | rfl | simp, ⟨fun hf => absurd hf (by simp), fun hh => ?_⟩, HR.out.low⟩
     have hi := HInv.out.1 (HOK.out.1 hh.2).2.1
     rcases hi.1 with h | h
     ·exact absurd (h.symm.trans HEw.out) (by simp)
     ·exact absurd (h.symm.trans HEn.out) (by simp)
 ·have d1 : ((bs t.s).toList == []) = false := by rw [Lib.toList_data, bs_list, beq_eq_false_iff_ne]; exact hs
  have HSx := Lib.hid hs
  clear hs
  by_cases hn : t.n = 0
  ·have d2 : (t.n == 0) = true := by rw [hn]; rfl
   have HNx := Lib.hid hn
   clear hn
   cases rn with
   | true =>
    cases rw_ with
    | true =>
     by_cases hk : t.l.length = 1
     ·have d3 : ((t.l.length : Int) == 1) = true := by rw [hk]; rfl
      have HKx := Lib.hid hk
      clear hk
      go_enter Try.func56, Try.ntmps56
      go_wp2_with (first | (go_at_call 54; refine (HN.out _).mono ?_; rintro e w' ⟨rfl, rfl⟩) | (go_at_call 69; refine (HWd.out _).mono ?_; rintro e w' ⟨rfl, rfl⟩) | (go_at_call 55; refine HAll.out.mono ?_; rintro e w5 ⟨b, rfl, hb, hb5⟩; have HB := Lib.hid (And.intro hb hb5); clear hb hb5))
      go_ret
      refine ⟨b, by first | rfl | simp, ?_, HR.out.low.trans (HB.out.2.mono HR.out.low.size)⟩
      rw [HB.out.1, HOK.out, HInv.out]
      constructor
      ·intro hh
       obtain ⟨a, hl0⟩ := len1 HKx.out
       exact ⟨HE.out, by omega, ⟨.inr HEn.out, HNx.out, a, hl0, (hh a (by rw [hl0]; simp)).1⟩, fun y hy => (hh y hy).2⟩
      ·rintro ⟨-, -, ⟨-, -, a, hl0, ea⟩, hp⟩ y hy
       refine ⟨?_, hp y hy⟩
       rw [hl0] at hy
       simp only [List.mem_cons, List.not_mem_nil, or_false] at hy
       subst hy
       exact ea
     ·have d3 : ((t.l.length : Int) == 1) = false := by simp; omega
      have HKx := Lib.hid hk
      clear hk
      go_enter Try.func56, Try.ntmps56
      go_wp2_with (first | (go_at_call 54; refine (HN.out _).mono ?_; rintro e w' ⟨rfl, rfl⟩) | (go_at_call 69; refine (HWd.out _).mono ?_; rintro e w' ⟨rfl, rfl⟩) | (go_at_call 55; refine HAll.out.mono ?_; rintro e w5 ⟨b, rfl, hb, hb5⟩; have HB := Lib.hid (And.intro hb hb5); clear hb hb5))
      go_ret
      refine ⟨false, by first | rfl | simp, ⟨fun hf => absurd hf (by simp), fun hh => ?_⟩, HR.out.low⟩
      have hi := HInv.out.1 (HOK.out.1 hh.2).2.1
      obtain ⟨-, -, a, hl0, -⟩ := hi
      exact absurd (by rw [hl0]; rfl) HKx.out
    | false =>
     by_cases hk : t.l.length = 1
     ·have d3 : ((t.l.length : Int) == 1) = true := by rw [hk]; rfl
      have HKx := Lib.hid hk
      clear hk
      go_enter Try.func56, Try.ntmps56
      go_wp2_with (first | (go_at_call 54; refine (HN.out _).mono ?_; rintro e w' ⟨rfl, rfl⟩) | (go_at_call 69; refine (HWd.out _).mono ?_; rintro e w' ⟨rfl, rfl⟩) | (go_at_call 55; refine HAll.out.mono ?_; rintro e w5 ⟨b, rfl, hb, hb5⟩; have HB := Lib.hid (And.intro hb hb5); clear hb hb5))
      go_ret
      refine ⟨b, by first | rfl | simp, ?_, HR.out.low.trans (HB.out.2.mono HR.out.low.size)⟩
      rw [HB.out.1, HOK.out, HInv.out]
      constructor
      ·intro hh
       obtain ⟨a, hl0⟩ := len1 HKx.out
       exact ⟨HE.out, by omega, ⟨.inr HEn.out, HNx.out, a, hl0, (hh a (by rw [hl0]; simp)).1⟩, fun y hy => (hh y hy).2⟩
      ·rintro ⟨-, -, ⟨-, -, a, hl0, ea⟩, hp⟩ y hy
       refine ⟨?_, hp y hy⟩
       rw [hl0] at hy
       simp only [List.mem_cons, List.not_mem_nil, or_false] at hy
       subst hy
       exact ea
     ·have d3 : ((t.l.length : Int) == 1) = false := by simp; omega
      have HKx := Lib.hid hk
      clear hk
      go_enter Try.func56, Try.ntmps56
      go_wp2_with (first | (go_at_call 54; refine (HN.out _).mono ?_; rintro e w' ⟨rfl, rfl⟩) | (go_at_call 69; refine (HWd.out _).mono ?_; rintro e w' ⟨rfl, rfl⟩) | (go_at_call 55; refine HAll.out.mono ?_; rintro e w5 ⟨b, rfl, hb, hb5⟩; have HB := Lib.hid (And.intro hb hb5); clear hb hb5))
      go_ret
      refine ⟨false, by first | rfl | simp, ⟨fun hf => absurd hf (by simp), fun hh => ?_⟩, HR.out.low⟩
      have hi := HInv.out.1 (HOK.out.1 hh.2).2.1
      obtain ⟨-, -, a, hl0, -⟩ := hi
      exact absurd (by rw [hl0]; rfl) HKx.out
   | false =>
    cases rw_ with
    | true =>
     by_cases hk : t.l.length = 1
     ·have d3 : ((t.l.length : Int) == 1) = true := by rw [hk]; rfl
      have HKx := Lib.hid hk
      clear hk
      go_enter Try.func56, Try.ntmps56
      go_wp2_with (first | (go_at_call 54; refine (HN.out _).mono ?_; rintro e w' ⟨rfl, rfl⟩) | (go_at_call 69; refine (HWd.out _).mono ?_; rintro e w' ⟨rfl, rfl⟩) | (go_at_call 55; refine HAll.out.mono ?_; rintro e w5 ⟨b, rfl, hb, hb5⟩; have HB := Lib.hid (And.intro hb hb5); clear hb hb5))
      go_ret
      refine ⟨b, by first | rfl | simp, ?_, HR.out.low.trans (HB.out.2.mono HR.out.low.size)⟩
      rw [HB.out.1, HOK.out, HInv.out]
      constructor
      ·intro hh
       obtain ⟨a, hl0⟩ := len1 HKx.out
       exact ⟨HE.out, by omega, ⟨.inl HEw.out, HNx.out, a, hl0, (hh a (by rw [hl0]; simp)).1⟩, fun y hy => (hh y hy).2⟩
      ·rintro ⟨-, -, ⟨-, -, a, hl0, ea⟩, hp⟩ y hy
       refine ⟨?_, hp y hy⟩
       rw [hl0] at hy
       simp only [List.mem_cons, List.not_mem_nil, or_false] at hy
       subst hy
       exact ea
     ·have d3 : ((t.l.length : Int) == 1) = false := by simp; omega
      have HKx := Lib.hid hk
      clear hk
      go_enter Try.func56, Try.ntmps56
      go_wp2_with (first | (go_at_call 54; refine (HN.out _).mono ?_; rintro e w' ⟨rfl, rfl⟩) | (go_at_call 69; refine (HWd.out _).mono ?_; rintro e w' ⟨rfl, rfl⟩) | (go_at_call 55; refine HAll.out.mono ?_; rintro e w5 ⟨b, rfl, hb, hb5⟩; have HB := Lib.hid (And.intro hb hb5); clear hb hb5))
      go_ret
      refine ⟨false, by first | rfl | simp, ⟨fun hf => absurd hf (by simp), fun hh => ?_⟩, HR.out.low⟩
      have hi := HInv.out.1 (HOK.out.1 hh.2).2.1
      obtain ⟨-, -, a, hl0, -⟩ := hi
      exact absurd (by rw [hl0]; rfl) HKx.out
    | false =>
     go_enter Try.func56, Try.ntmps56
     go_wp2_with (first | (go_at_call 54; refine (HN.out _).mono ?_; rintro e w' ⟨rfl, rfl⟩) | (go_at_call 69; refine (HWd.out _).mono ?_; rintro e w' ⟨rfl, rfl⟩) | (go_at_call 55; refine HAll.out.mono ?_; rintro e w5 ⟨b, rfl, hb, hb5⟩; have HB := Lib.hid (And.intro hb hb5); clear hb hb5))
     go_ret
     refine ⟨false, by first | rfl | simp, ⟨fun hf => absurd hf (by simp), fun hh => ?_⟩, HR.out.low⟩
     have hi := HInv.out.1 (HOK.out.1 hh.2).2.1
     rcases hi.1 with h | h
     ·exact absurd (h.symm.trans HEw.out) (by simp)
     ·exact absurd (h.symm.trans HEn.out) (by simp)
  ·have d2 : (t.n == 0) = false := by simpa using hn
   have HNx := Lib.hid hn
   clear hn
   cases rn with
   | true =>
    cases rw_ with
    | true =>
     go_enter Try.func56, Try.ntmps56
     go_wp2_with (first | (go_at_call 54; refine (HN.out _).mono ?_; rintro e w' ⟨rfl, rfl⟩) | (go_at_call 69; refine (HWd.out _).mono ?_; rintro e w' ⟨rfl, rfl⟩) | (go_at_call 55; refine HAll.out.mono ?_; rintro e w5 ⟨b, rfl, hb, hb5⟩; have HB := Lib.hid (And.intro hb hb5); clear hb hb5))
     go_ret
     refine ⟨false, by first | rfl | simp, ⟨fun hf => absurd hf (by simp), fun hh => ?_⟩, HR.out.low⟩
     have hi := HInv.out.1 (HOK.out.1 hh.2).2.1
     exact absurd hi.2.1 HNx.out
    | false =>
     go_enter Try.func56, Try.ntmps56
     go_wp2_with (first | (go_at_call 54; refine (HN.out _).mono ?_; rintro e w' ⟨rfl, rfl⟩) | (go_at_call 69; refine (HWd.out _).mono ?_; rintro e w' ⟨rfl, rfl⟩) | (go_at_call 55; refine HAll.out.mono ?_; rintro e w5 ⟨b, rfl, hb, hb5⟩; have HB := Lib.hid (And.intro hb hb5); clear hb hb5))
     go_ret
     refine ⟨false, by first | rfl | simp, ⟨fun hf => absurd hf (by simp), fun hh => ?_⟩, HR.out.low⟩
     have hi := HInv.out.1 (HOK.out.1 hh.2).2.1
     exact absurd hi.2.1 HNx.out
   | false =>
    cases rw_ with
    | true =>
     go_enter Try.func56, Try.ntmps56
     go_wp2_with (first | (go_at_call 54; refine (HN.out _).mono ?_; rintro e w' ⟨rfl, rfl⟩) | (go_at_call 69; refine (HWd.out _).mono ?_; rintro e w' ⟨rfl, rfl⟩) | (go_at_call 55; refine HAll.out.mono ?_; rintro e w5 ⟨b, rfl, hb, hb5⟩; have HB := Lib.hid (And.intro hb hb5); clear hb hb5))
     go_ret
     refine ⟨false, by first | rfl | simp, ⟨fun hf => absurd hf (by simp), fun hh => ?_⟩, HR.out.low⟩
     have hi := HInv.out.1 (HOK.out.1 hh.2).2.1
     exact absurd hi.2.1 HNx.out
    | false =>
     go_enter Try.func56, Try.ntmps56
     go_wp2_with (first | (go_at_call 54; refine (HN.out _).mono ?_; rintro e w' ⟨rfl, rfl⟩) | (go_at_call 69; refine (HWd.out _).mono ?_; rintro e w' ⟨rfl, rfl⟩) | (go_at_call 55; refine HAll.out.mono ?_; rintro e w5 ⟨b, rfl, hb, hb5⟩; have HB := Lib.hid (And.intro hb hb5); clear hb hb5))
     go_ret
     refine ⟨false, by first | rfl | simp, ⟨fun hf => absurd hf (by simp), fun hh => ?_⟩, HR.out.low⟩
     have hi := HInv.out.1 (HOK.out.1 hh.2).2.1
     rcases hi.1 with h | h
     ·exact absurd (h.symm.trans HEw.out) (by simp)
     ·exact absurd (h.symm.trans HEn.out) (by simp)
open Go.RowKit Go.Proofs
theorem rex_15 : RefWalk 15 := by
 intro h t A c w e h1 h2 hA hE hl
 obtain ⟨W1, hr⟩ : ∃ W, RIn h t A c w W := ⟨_, r_in h t A c w hA⟩
 have hall := all_any (h - 1) t.l _ W1 hr.row hE hl
 have hbx := hr.cells
 have hiE : isE t := by unfold isE hasB; rw [e]; rfl
 have HR := Lib.hid hr
 have HN := Lib.hid hr.name
 have HWd := Lib.hid hr.word
 have HAll := Lib.hid hall
 have HOK := Lib.hid (ok_iff h t)
 have HInv := Lib.hid (inv_15 e)
 have HE := Lib.hid hiE
 have hW : w.alloc (.cells #[.int .i64 15, .string (bs t.s), .int .i64 t.n, .slice A t.l.length c, .int .i64 t.line] 24) = W1 := by rw [← e]; exact hr.world
 unfold BoxAt at hbx
 rw [e] at hbx
 obtain ⟨f0, f1, f2, f3, f4⟩ := hbx
 unfold nodeV
 rw [e]
 obtain ⟨rn, en⟩ : ∃ b, isNameL t.s = b := ⟨_, rfl⟩
 obtain ⟨rw_, ew⟩ : ∃ b, isWordL t.s = b := ⟨_, rfl⟩
 rw [en] at HN
 rw [ew] at HWd
 have HEn := Lib.hid en
 have HEw := Lib.hid ew
 clear hA hE hr hall hiE e en ew
 by_cases hs : t.s = []
 ·have d1 : ((bs t.s).toList == []) = true := by rw [hs, Lib.toList_data, bs_list]; rfl
  have HSx := Lib.hid hs
  clear hs
  by_cases hn : t.n = 0
  ·have d2 : (t.n == 0) = true := by rw [hn]; rfl
   have HNx := Lib.hid hn
   clear hn
   by_cases hk1 : 1 ≤ t.l.length
   ·have HK1 := Lib.hid hk1
    by_cases hk2 : t.l.length ≤ 200
    ·have HK2 := Lib.hid hk2
     go_enter Try.func56, Try.ntmps56
     go_wp2_with (first | (go_at_call 54; refine (HN.out _).mono ?_; rintro e w' ⟨rfl, rfl⟩) | (go_at_call 69; refine (HWd.out _).mono ?_; rintro e w' ⟨rfl, rfl⟩) | (go_at_call 55; refine HAll.out.mono ?_; rintro e w5 ⟨b, rfl, hb, hb5⟩; have HB := Lib.hid (And.intro hb hb5); clear hb hb5))
     go_ret
     refine ⟨b, by first | rfl | simp, ?_, HR.out.low.trans (HB.out.2.mono HR.out.low.size)⟩
     rw [HB.out.1, HOK.out, HInv.out]
     constructor
     ·intro hh
      obtain ⟨a, r, hl0⟩ := List.exists_cons_of_length_pos (l := t.l) (by have := HK1.out; omega)
      exact ⟨HE.out, by omega, ⟨HSx.out, HNx.out, HK2.out, a, r, hl0, fun x hx => (hh x (by rw [hl0]; exact hx)).1⟩, fun y hy => (hh y hy).2⟩
     ·rintro ⟨-, -, ⟨-, -, -, a, r, hl0, ea⟩, hp⟩ y hy
      exact ⟨ea y (by rw [← hl0]; exact hy), hp y hy⟩
    ·have HK2 := Lib.hid hk2
     go_enter Try.func56, Try.ntmps56
     go_wp2_with (first | (go_at_call 54; refine (HN.out _).mono ?_; rintro e w' ⟨rfl, rfl⟩) | (go_at_call 69; refine (HWd.out _).mono ?_; rintro e w' ⟨rfl, rfl⟩) | (go_at_call 55; refine HAll.out.mono ?_; rintro e w5 ⟨b, rfl, hb, hb5⟩; have HB := Lib.hid (And.intro hb hb5); clear hb hb5))
     go_ret
     refine ⟨false, by first | rfl | simp, ⟨fun hf => absurd hf (by simp), fun hh => ?_⟩, HR.out.low⟩
     have hi := HInv.out.1 (HOK.out.1 hh.2).2.1
     have h8 := hi.2.2.1
     have h9 := HK2.out
     omega
   ·have HK1 := Lib.hid hk1
    go_enter Try.func56, Try.ntmps56
    go_wp2_with (first | (go_at_call 54; refine (HN.out _).mono ?_; rintro e w' ⟨rfl, rfl⟩) | (go_at_call 69; refine (HWd.out _).mono ?_; rintro e w' ⟨rfl, rfl⟩) | (go_at_call 55; refine HAll.out.mono ?_; rintro e w5 ⟨b, rfl, hb, hb5⟩; have HB := Lib.hid (And.intro hb hb5); clear hb hb5))
    go_ret
    refine ⟨false, by first | rfl | simp, ⟨fun hf => absurd hf (by simp), fun hh => ?_⟩, HR.out.low⟩
    have hi := HInv.out.1 (HOK.out.1 hh.2).2.1
    obtain ⟨-, -, -, a, r, hl0, -⟩ := hi
    have h8 := congrArg List.length hl0
    rw [List.length_cons] at h8
    have h9 := HK1.out
    omega
  ·have d2 : (t.n == 0) = false := by simpa using hn
   have HNx := Lib.hid hn
   clear hn
   go_enter Try.func56, Try.ntmps56
   go_wp2_with (first | (go_at_call 54; refine (HN.out _).mono ?_; rintro e w' ⟨rfl, rfl⟩) | (go_at_call 69; refine (HWd.out _).mono ?_; rintro e w' ⟨rfl, rfl⟩) | (go_at_call 55; refine HAll.out.mono ?_; rintro e w5 ⟨b, rfl, hb, hb5⟩; have HB := Lib.hid (And.intro hb hb5); clear hb hb5))
   go_ret
   refine ⟨false, by first | rfl | simp, ⟨fun hf => absurd hf (by simp), fun hh => ?_⟩, HR.out.low⟩
   have hi := HInv.out.1 (HOK.out.1 hh.2).2.1
   exact absurd hi.2.1 HNx.out
 ·have d1 : ((bs t.s).toList == []) = false := by rw [Lib.toList_data, bs_list, beq_eq_false_iff_ne]; exact hs
  have HSx := Lib.hid hs
  clear hs
  go_enter Try.func56, Try.ntmps56
  go_wp2_with (first | (go_at_call 54; refine (HN.out _).mono ?_; rintro e w' ⟨rfl, rfl⟩) | (go_at_call 69; refine (HWd.out _).mono ?_; rintro e w' ⟨rfl, rfl⟩) | (go_at_call 55; refine HAll.out.mono ?_; rintro e w5 ⟨b, rfl, hb, hb5⟩; have HB := Lib.hid (And.intro hb hb5); clear hb hb5))
  go_ret
  refine ⟨false, by first | rfl | simp, ⟨fun hf => absurd hf (by simp), fun hh => ?_⟩, HR.out.low⟩
  have hi := HInv.out.1 (HOK.out.1 hh.2).2.1
  exact absurd hi.1 HSx.out
theorem rex_16 : RefWalk 16 := by
 intro h t A c w e h1 h2 hA hE hl
 obtain ⟨W1, hr⟩ : ∃ W, RIn h t A c w W := ⟨_, r_in h t A c w hA⟩
 have hall := all_any (h - 1) t.l _ W1 hr.row hE hl
 have hbx := hr.cells
 have hiE : isE t := by unfold isE hasB; rw [e]; rfl
 have HR := Lib.hid hr
 have HN := Lib.hid hr.name
 have HWd := Lib.hid hr.word
 have HAll := Lib.hid hall
 have HOK := Lib.hid (ok_iff h t)
 have HInv := Lib.hid (inv_16 e)
 have HE := Lib.hid hiE
 have hW : w.alloc (.cells #[.int .i64 16, .string (bs t.s), .int .i64 t.n, .slice A t.l.length c, .int .i64 t.line] 24) = W1 := by rw [← e]; exact hr.world
 unfold BoxAt at hbx
 rw [e] at hbx
 obtain ⟨f0, f1, f2, f3, f4⟩ := hbx
 unfold nodeV
 rw [e]
 obtain ⟨rn, en⟩ : ∃ b, isNameL t.s = b := ⟨_, rfl⟩
 obtain ⟨rw_, ew⟩ : ∃ b, isWordL t.s = b := ⟨_, rfl⟩
 rw [en] at HN
 rw [ew] at HWd
 have HEn := Lib.hid en
 have HEw := Lib.hid ew
 clear hA hE hr hall hiE e en ew
 by_cases hs : t.s = []
 ·have d1 : ((bs t.s).toList == []) = true := by rw [hs, Lib.toList_data, bs_list]; rfl
  have HSx := Lib.hid hs
  clear hs
  by_cases hn : t.n = 0
  ·have d2 : (t.n == 0) = true := by rw [hn]; rfl
   have HNx := Lib.hid hn
   clear hn
   by_cases hk1 : 1 ≤ t.l.length
   ·have HK1 := Lib.hid hk1
    by_cases hk2 : t.l.length ≤ 200
    ·have HK2 := Lib.hid hk2
     go_enter Try.func56, Try.ntmps56
     go_wp2_with (first | (go_at_call 54; refine (HN.out _).mono ?_; rintro e w' ⟨rfl, rfl⟩) | (go_at_call 69; refine (HWd.out _).mono ?_; rintro e w' ⟨rfl, rfl⟩) | (go_at_call 55; refine HAll.out.mono ?_; rintro e w5 ⟨b, rfl, hb, hb5⟩; have HB := Lib.hid (And.intro hb hb5); clear hb hb5))
     go_ret
     refine ⟨b, by first | rfl | simp, ?_, HR.out.low.trans (HB.out.2.mono HR.out.low.size)⟩
     rw [HB.out.1, HOK.out, HInv.out]
     constructor
     ·intro hh
      obtain ⟨a, r, hl0⟩ := List.exists_cons_of_length_pos (l := t.l) (by have := HK1.out; omega)
      exact ⟨HE.out, by omega, ⟨HSx.out, HNx.out, HK2.out, a, r, hl0, fun x hx => (hh x (by rw [hl0]; exact hx)).1⟩, fun y hy => (hh y hy).2⟩
     ·rintro ⟨-, -, ⟨-, -, -, a, r, hl0, ea⟩, hp⟩ y hy
      exact ⟨ea y (by rw [← hl0]; exact hy), hp y hy⟩
    ·have HK2 := Lib.hid hk2
     go_enter Try.func56, Try.ntmps56
     go_wp2_with (first | (go_at_call 54; refine (HN.out _).mono ?_; rintro e w' ⟨rfl, rfl⟩) | (go_at_call 69; refine (HWd.out _).mono ?_; rintro e w' ⟨rfl, rfl⟩) | (go_at_call 55; refine HAll.out.mono ?_; rintro e w5 ⟨b, rfl, hb, hb5⟩; have HB := Lib.hid (And.intro hb hb5); clear hb hb5))
     go_ret
     refine ⟨false, by first | rfl | simp, ⟨fun hf => absurd hf (by simp), fun hh => ?_⟩, HR.out.low⟩
     have hi := HInv.out.1 (HOK.out.1 hh.2).2.1
     have h8 := hi.2.2.1
     have h9 := HK2.out
     omega
   ·have HK1 := Lib.hid hk1
    go_enter Try.func56, Try.ntmps56
    go_wp2_with (first | (go_at_call 54; refine (HN.out _).mono ?_; rintro e w' ⟨rfl, rfl⟩) | (go_at_call 69; refine (HWd.out _).mono ?_; rintro e w' ⟨rfl, rfl⟩) | (go_at_call 55; refine HAll.out.mono ?_; rintro e w5 ⟨b, rfl, hb, hb5⟩; have HB := Lib.hid (And.intro hb hb5); clear hb hb5))
    go_ret
    refine ⟨false, by first | rfl | simp, ⟨fun hf => absurd hf (by simp), fun hh => ?_⟩, HR.out.low⟩
    have hi := HInv.out.1 (HOK.out.1 hh.2).2.1
    obtain ⟨-, -, -, a, r, hl0, -⟩ := hi
    have h8 := congrArg List.length hl0
    rw [List.length_cons] at h8
    have h9 := HK1.out
    omega
  ·have d2 : (t.n == 0) = false := by simpa using hn
   have HNx := Lib.hid hn
   clear hn
   go_enter Try.func56, Try.ntmps56
   go_wp2_with (first | (go_at_call 54; refine (HN.out _).mono ?_; rintro e w' ⟨rfl, rfl⟩) | (go_at_call 69; refine (HWd.out _).mono ?_; rintro e w' ⟨rfl, rfl⟩) | (go_at_call 55; refine HAll.out.mono ?_; rintro e w5 ⟨b, rfl, hb, hb5⟩; have HB := Lib.hid (And.intro hb hb5); clear hb hb5))
   go_ret
   refine ⟨false, by first | rfl | simp, ⟨fun hf => absurd hf (by simp), fun hh => ?_⟩, HR.out.low⟩
   have hi := HInv.out.1 (HOK.out.1 hh.2).2.1
   exact absurd hi.2.1 HNx.out
 ·have d1 : ((bs t.s).toList == []) = false := by rw [Lib.toList_data, bs_list, beq_eq_false_iff_ne]; exact hs
  have HSx := Lib.hid hs
  clear hs
  go_enter Try.func56, Try.ntmps56
  go_wp2_with (first | (go_at_call 54; refine (HN.out _).mono ?_; rintro e w' ⟨rfl, rfl⟩) | (go_at_call 69; refine (HWd.out _).mono ?_; rintro e w' ⟨rfl, rfl⟩) | (go_at_call 55; refine HAll.out.mono ?_; rintro e w5 ⟨b, rfl, hb, hb5⟩; have HB := Lib.hid (And.intro hb hb5); clear hb hb5))
  go_ret
  refine ⟨false, by first | rfl | simp, ⟨fun hf => absurd hf (by simp), fun hh => ?_⟩, HR.out.low⟩
  have hi := HInv.out.1 (HOK.out.1 hh.2).2.1
  exact absurd hi.1 HSx.out
open Go.RowKit Go.Proofs
theorem rex_18 : RefWalk 18 := by
 intro h t A c w e h1 h2 hA hE hl
 obtain ⟨W1, hr⟩ : ∃ W, RIn h t A c w W := ⟨_, r_in h t A c w hA⟩
 have hall := all_any (h - 1) t.l _ W1 hr.row hE hl
 have hbx := hr.cells
 have hiE : isE t := by unfold isE hasB; rw [e]; rfl
 have HR := Lib.hid hr
 have HN := Lib.hid hr.name
 have HWd := Lib.hid hr.word
 have HAll := Lib.hid hall
 have HOK := Lib.hid (ok_iff h t)
 have HInv := Lib.hid (inv_18 e)
 have HE := Lib.hid hiE
 have hW : w.alloc (.cells #[.int .i64 18, .string (bs t.s), .int .i64 t.n, .slice A t.l.length c, .int .i64 t.line] 24) = W1 := by rw [← e]; exact hr.world
 unfold BoxAt at hbx
 rw [e] at hbx
 obtain ⟨f0, f1, f2, f3, f4⟩ := hbx
 unfold nodeV
 rw [e]
 obtain ⟨rn, en⟩ : ∃ b, isNameL t.s = b := ⟨_, rfl⟩
 obtain ⟨rw_, ew⟩ : ∃ b, isWordL t.s = b := ⟨_, rfl⟩
 rw [en] at HN
 rw [ew] at HWd
 have HEn := Lib.hid en
 have HEw := Lib.hid ew
 have HBn := Lib.hid (fun w => bin_any t.s w)
 have hA18 := fun w' (hb : Below W1.heap.size W1 w') => all_any (h - 1) t.l _ w' (hr.row.keep hb.size fun p hp => hb.cell hp) hE hl
 have HA18 := Lib.hid hA18
 have hbx18 := fun w' (hb : Below W1.heap.size W1 w') => box_in hb hr.box
 have HX18 := Lib.hid hbx18
 have HOp := Lib.hid e
 clear hA18 hbx18
 obtain ⟨rb, eb⟩ : ∃ b, signsB.contains t.s = b := ⟨_, rfl⟩
 rw [eb] at HBn
 have HEb := Lib.hid eb
 clear eb
 clear hA hE hr hall hiE e en ew
 by_cases hs : t.s = []
 ·have d1 : ((bs t.s).toList == []) = true := by rw [hs, Lib.toList_data, bs_list]; rfl
  have HSx := Lib.hid hs
  clear hs
  by_cases hn : t.n = 0
  ·have d2 : (t.n == 0) = true := by rw [hn]; rfl
   have HNx := Lib.hid hn
   clear hn
   cases rb with
   | true =>
    by_cases hk : t.l.length = 2
    ·have d3 : ((t.l.length : Int) == 2) = true := by rw [hk]; rfl
     have HKx := Lib.hid hk
     clear hk
     go_enter Try.func56, Try.ntmps56
     go_wp2_with (first | (go_at_call 54; refine (HN.out _).mono ?_; rintro e w' ⟨rfl, rfl⟩) | (go_at_call 69; refine (HWd.out _).mono ?_; rintro e w' ⟨rfl, rfl⟩))
     go_at_call 74
     refine (HBn.out _).mono ?_
     rintro e w4 ⟨rfl, hb4⟩
     have HB4 := Lib.hid hb4
     have HAll4 := Lib.hid (HA18.out w4 hb4)
     clear f0 f1 f2 f3 f4
     obtain ⟨f0, f1, f2, f3, f4⟩ := HX18.out w4 hb4
     rw [HOp.out] at f0
     clear hb4
     go_wp2_with ((go_at_call 55; refine HAll4.out.mono ?_; rintro e w5 ⟨b, rfl, hb, hb5⟩; have HB := Lib.hid (And.intro hb hb5); clear hb hb5))
     go_ret
     refine ⟨b, by first | rfl | simp, ?_, HR.out.low.trans ((HB4.out.trans (HB.out.2.mono HB4.out.size)).mono HR.out.low.size)⟩
     rw [HB.out.1, HOK.out, HInv.out]
     constructor
     ·intro hh
      obtain ⟨a, b', hl0⟩ := len2 HKx.out
      exact ⟨HE.out, by omega, ⟨HEb.out, HNx.out, a, b', hl0, (hh a (by rw [hl0]; simp)).1, (hh b' (by rw [hl0]; simp)).1⟩, fun y hy => (hh y hy).2⟩
     ·rintro ⟨-, -, ⟨-, -, a, b', hl0, ea, eb⟩, hp⟩ y hy
      refine ⟨?_, hp y hy⟩
      rw [hl0] at hy
      simp only [List.mem_cons, List.not_mem_nil, or_false] at hy
      rcases hy with rfl | rfl
      ·exact ea
      ·exact eb
    ·have d3 : ((t.l.length : Int) == 2) = false := by simp; omega
     have HKx := Lib.hid hk
     clear hk
     go_enter Try.func56, Try.ntmps56
     go_wp2_with (first | (go_at_call 54; refine (HN.out _).mono ?_; rintro e w' ⟨rfl, rfl⟩) | (go_at_call 69; refine (HWd.out _).mono ?_; rintro e w' ⟨rfl, rfl⟩))
     go_at_call 74
     refine (HBn.out _).mono ?_
     rintro e w4 ⟨rfl, hb4⟩
     have HB4 := Lib.hid hb4
     have HAll4 := Lib.hid (HA18.out w4 hb4)
     clear f0 f1 f2 f3 f4
     obtain ⟨f0, f1, f2, f3, f4⟩ := HX18.out w4 hb4
     rw [HOp.out] at f0
     clear hb4
     go_wp2
     go_ret
     refine ⟨false, by first | rfl | simp, ⟨fun hf => absurd hf (by simp), fun hh => ?_⟩, HR.out.low.trans (HB4.out.mono HR.out.low.size)⟩
     have hi := HInv.out.1 (HOK.out.1 hh.2).2.1
     obtain ⟨-, -, a, b', hl0, -⟩ := hi
     exact absurd (by rw [hl0]; rfl) HKx.out
   | false =>
    go_enter Try.func56, Try.ntmps56
    go_wp2_with (first | (go_at_call 54; refine (HN.out _).mono ?_; rintro e w' ⟨rfl, rfl⟩) | (go_at_call 69; refine (HWd.out _).mono ?_; rintro e w' ⟨rfl, rfl⟩))
    go_at_call 74
    refine (HBn.out _).mono ?_
    rintro e w4 ⟨rfl, hb4⟩
    have HB4 := Lib.hid hb4
    have HAll4 := Lib.hid (HA18.out w4 hb4)
    clear f0 f1 f2 f3 f4
    obtain ⟨f0, f1, f2, f3, f4⟩ := HX18.out w4 hb4
    rw [HOp.out] at f0
    clear hb4
    go_wp2
    go_ret
    refine ⟨false, by first | rfl | simp, ⟨fun hf => absurd hf (by simp), fun hh => ?_⟩, HR.out.low.trans (HB4.out.mono HR.out.low.size)⟩
    have hi := HInv.out.1 (HOK.out.1 hh.2).2.1
    exact absurd (hi.1.symm.trans HEb.out) (by simp)
  ·have d2 : (t.n == 0) = false := by simpa using hn
   have HNx := Lib.hid hn
   clear hn
   cases rb with
   | true =>
    go_enter Try.func56, Try.ntmps56
    go_wp2_with (first | (go_at_call 54; refine (HN.out _).mono ?_; rintro e w' ⟨rfl, rfl⟩) | (go_at_call 69; refine (HWd.out _).mono ?_; rintro e w' ⟨rfl, rfl⟩))
    go_at_call 74
    refine (HBn.out _).mono ?_
    rintro e w4 ⟨rfl, hb4⟩
    have HB4 := Lib.hid hb4
    have HAll4 := Lib.hid (HA18.out w4 hb4)
    clear f0 f1 f2 f3 f4
    obtain ⟨f0, f1, f2, f3, f4⟩ := HX18.out w4 hb4
    rw [HOp.out] at f0
    clear hb4
    go_wp2
    go_ret
    refine ⟨false, by first | rfl | simp, ⟨fun hf => absurd hf (by simp), fun hh => ?_⟩, HR.out.low.trans (HB4.out.mono HR.out.low.size)⟩
    have hi := HInv.out.1 (HOK.out.1 hh.2).2.1
    exact absurd hi.2.1 HNx.out
   | false =>
    go_enter Try.func56, Try.ntmps56
    go_wp2_with (first | (go_at_call 54; refine (HN.out _).mono ?_; rintro e w' ⟨rfl, rfl⟩) | (go_at_call 69; refine (HWd.out _).mono ?_; rintro e w' ⟨rfl, rfl⟩))
    go_at_call 74
    refine (HBn.out _).mono ?_
    rintro e w4 ⟨rfl, hb4⟩
    have HB4 := Lib.hid hb4
    have HAll4 := Lib.hid (HA18.out w4 hb4)
    clear f0 f1 f2 f3 f4
    obtain ⟨f0, f1, f2, f3, f4⟩ := HX18.out w4 hb4
    rw [HOp.out] at f0
    clear hb4
    go_wp2
    go_ret
    refine ⟨false, by first | rfl | simp, ⟨fun hf => absurd hf (by simp), fun hh => ?_⟩, HR.out.low.trans (HB4.out.mono HR.out.low.size)⟩
    have hi := HInv.out.1 (HOK.out.1 hh.2).2.1
    exact absurd (hi.1.symm.trans HEb.out) (by simp)
 ·have d1 : ((bs t.s).toList == []) = false := by rw [Lib.toList_data, bs_list, beq_eq_false_iff_ne]; exact hs
  have HSx := Lib.hid hs
  clear hs
  by_cases hn : t.n = 0
  ·have d2 : (t.n == 0) = true := by rw [hn]; rfl
   have HNx := Lib.hid hn
   clear hn
   cases rb with
   | true =>
    by_cases hk : t.l.length = 2
    ·have d3 : ((t.l.length : Int) == 2) = true := by rw [hk]; rfl
     have HKx := Lib.hid hk
     clear hk
     go_enter Try.func56, Try.ntmps56
     go_wp2_with (first | (go_at_call 54; refine (HN.out _).mono ?_; rintro e w' ⟨rfl, rfl⟩) | (go_at_call 69; refine (HWd.out _).mono ?_; rintro e w' ⟨rfl, rfl⟩))
     go_at_call 74
     refine (HBn.out _).mono ?_
     rintro e w4 ⟨rfl, hb4⟩
     have HB4 := Lib.hid hb4
     have HAll4 := Lib.hid (HA18.out w4 hb4)
     clear f0 f1 f2 f3 f4
     obtain ⟨f0, f1, f2, f3, f4⟩ := HX18.out w4 hb4
     rw [HOp.out] at f0
     clear hb4
     go_wp2_with ((go_at_call 55; refine HAll4.out.mono ?_; rintro e w5 ⟨b, rfl, hb, hb5⟩; have HB := Lib.hid (And.intro hb hb5); clear hb hb5))
     go_ret
     refine ⟨b, by first | rfl | simp, ?_, HR.out.low.trans ((HB4.out.trans (HB.out.2.mono HB4.out.size)).mono HR.out.low.size)⟩
     rw [HB.out.1, HOK.out, HInv.out]
     constructor
     ·intro hh
      obtain ⟨a, b', hl0⟩ := len2 HKx.out
      exact ⟨HE.out, by omega, ⟨HEb.out, HNx.out, a, b', hl0, (hh a (by rw [hl0]; simp)).1, (hh b' (by rw [hl0]; simp)).1⟩, fun y hy => (hh y hy).2⟩
     ·rintro ⟨-, -, ⟨-, -, a, b', hl0, ea, eb⟩, hp⟩ y hy
      refine ⟨?_, hp y hy⟩
      rw [hl0] at hy
      simp only [List.mem_cons, List.not_mem_nil, or_false] at hy
      rcases hy with rfl | rfl
      ·exact ea
      ·exact eb
    ·have d3 : ((t.l.length : Int) == 2) = false := by simp; omega
     have HKx := Lib.hid hk
     clear hk
     go_enter Try.func56, Try.ntmps56
     go_wp2_with (first | (go_at_call 54; refine (HN.out _).mono ?_; rintro e w' ⟨rfl, rfl⟩) | (go_at_call 69; refine (HWd.out _).mono ?_; rintro e w' ⟨rfl, rfl⟩))
     go_at_call 74
     refine (HBn.out _).mono ?_
     rintro e w4 ⟨rfl, hb4⟩
     have HB4 := Lib.hid hb4
     have HAll4 := Lib.hid (HA18.out w4 hb4)
     clear f0 f1 f2 f3 f4
     obtain ⟨f0, f1, f2, f3, f4⟩ := HX18.out w4 hb4
     rw [HOp.out] at f0
     clear hb4
     go_wp2
     go_ret
     refine ⟨false, by first | rfl | simp, ⟨fun hf => absurd hf (by simp), fun hh => ?_⟩, HR.out.low.trans (HB4.out.mono HR.out.low.size)⟩
     have hi := HInv.out.1 (HOK.out.1 hh.2).2.1
     obtain ⟨-, -, a, b', hl0, -⟩ := hi
     exact absurd (by rw [hl0]; rfl) HKx.out
   | false =>
    go_enter Try.func56, Try.ntmps56
    go_wp2_with (first | (go_at_call 54; refine (HN.out _).mono ?_; rintro e w' ⟨rfl, rfl⟩) | (go_at_call 69; refine (HWd.out _).mono ?_; rintro e w' ⟨rfl, rfl⟩))
    go_at_call 74
    refine (HBn.out _).mono ?_
    rintro e w4 ⟨rfl, hb4⟩
    have HB4 := Lib.hid hb4
    have HAll4 := Lib.hid (HA18.out w4 hb4)
    clear f0 f1 f2 f3 f4
    obtain ⟨f0, f1, f2, f3, f4⟩ := HX18.out w4 hb4
    rw [HOp.out] at f0
    clear hb4
    go_wp2
    go_ret
    refine ⟨false, by first | rfl | simp, ⟨fun hf => absurd hf (by simp), fun hh => ?_⟩, HR.out.low.trans (HB4.out.mono HR.out.low.size)⟩
    have hi := HInv.out.1 (HOK.out.1 hh.2).2.1
    exact absurd (hi.1.symm.trans HEb.out) (by simp)
  ·have d2 : (t.n == 0) = false := by simpa using hn
   have HNx := Lib.hid hn
   clear hn
   cases rb with
   | true =>
    go_enter Try.func56, Try.ntmps56
    go_wp2_with (first | (go_at_call 54; refine (HN.out _).mono ?_; rintro e w' ⟨rfl, rfl⟩) | (go_at_call 69; refine (HWd.out _).mono ?_; rintro e w' ⟨rfl, rfl⟩))
    go_at_call 74
    refine (HBn.out _).mono ?_
    rintro e w4 ⟨rfl, hb4⟩
    have HB4 := Lib.hid hb4
    have HAll4 := Lib.hid (HA18.out w4 hb4)
    clear f0 f1 f2 f3 f4
    obtain ⟨f0, f1, f2, f3, f4⟩ := HX18.out w4 hb4
    rw [HOp.out] at f0
    clear hb4
    go_wp2
    go_ret
    refine ⟨false, by first | rfl | simp, ⟨fun hf => absurd hf (by simp), fun hh => ?_⟩, HR.out.low.trans (HB4.out.mono HR.out.low.size)⟩
    have hi := HInv.out.1 (HOK.out.1 hh.2).2.1
    exact absurd hi.2.1 HNx.out
   | false =>
    go_enter Try.func56, Try.ntmps56
    go_wp2_with (first | (go_at_call 54; refine (HN.out _).mono ?_; rintro e w' ⟨rfl, rfl⟩) | (go_at_call 69; refine (HWd.out _).mono ?_; rintro e w' ⟨rfl, rfl⟩))
    go_at_call 74
    refine (HBn.out _).mono ?_
    rintro e w4 ⟨rfl, hb4⟩
    have HB4 := Lib.hid hb4
    have HAll4 := Lib.hid (HA18.out w4 hb4)
    clear f0 f1 f2 f3 f4
    obtain ⟨f0, f1, f2, f3, f4⟩ := HX18.out w4 hb4
    rw [HOp.out] at f0
    clear hb4
    go_wp2
    go_ret
    refine ⟨false, by first | rfl | simp, ⟨fun hf => absurd hf (by simp), fun hh => ?_⟩, HR.out.low.trans (HB4.out.mono HR.out.low.size)⟩
    have hi := HInv.out.1 (HOK.out.1 hh.2).2.1
    exact absurd (hi.1.symm.trans HEb.out) (by simp)
end
end Go.Proofs.Ytbpodijcndglgaa
