/- The document's reader: thing. -/
import Derived.Deep.RegionHeldLaw
import Derived.Deep.LoopGhost
import Derived.Test.YtejbdoiamhfbjaaPm12
set_option linter.unusedSimpArgs false
set_option linter.unusedVariables false
set_option maxRecDepth 100000
set_option maxHeartbeats 4000000
namespace Go.Proofs.Ytejbdoiamhfbjaa
section
open Go.RowKit Go.Proofs
section
variable {R cp : Nat} {A : Option Addr} {L : List Tok} {st : St} {F : Nat}
theorem thing_ok (ih : All R A cp L F) (l : List Tr) (st1 : St) (hr : run L (F + 1) .thing st = some (l, st1)) : Spec R A cp L .thing st l st1 := by
 intro w h
 rw [run] at hr
 dsimp only at hr
 cases ht : tokR L st 0 with | mk kd ts tn ln nl =>
 rw [ht] at hr
 dsimp only at hr
 have htl := tok_len h ht
 have hpz := tok_pos h ht
 have m0 := Mid.start h
 obtain ⟨W1, eW1⟩ : ∃ W, w.alloc (.cells #[.int .i64 0, .string ⟨#[]⟩, .int .i64 0, .slice none 0 0, .int .i64 0] 24) = W := ⟨_, rfl⟩
 rw [eW1] at m0
 have hz0 := m0.gt
 have M0 := Lib.hid m0
 have hR := h.lt
 clear h m0
 by_cases he : st.e = 0
 ·have HE := Lib.hid he
  rw [if_neg (show ¬ st.e ≠ 0 by simpa using he)] at hr
  clear he
  by_cases k1 : kd = 1
  ·subst k1
   have hps := Lib.hid (hpz (by decide))
   clear hpz
   rw [if_pos rfl] at hr
   by_cases hE : ts = evalW ∨ ts = argsW
   ·obtain ⟨rfl, rfl⟩ : [Tr.mk 0 [] 0 ln []] = l ∧ failR L st 43 = st1 := by simpa [hE, one] using hr
    clear hr
    go_enter Try.func111, Try.ntmps111
    have HQ0 := tok_any 0 W1 M0.out.rd (by omega)
    rw [ht] at HQ0
    unfold tokV at HQ0
    have HQ := Lib.hid HQ0
    clear HQ0
    go_wp2_with fail
    go_at_call 55
    refine (HQ.out).mono ?_
    rintro e w2 ⟨rfl, hb⟩
    have f2 := Fr.of_below (R := R) hb (Nat.le_refl _)
    have h2 := M0.out.rd.below hb M0.out.rd.lt
    have z2 := f2.size
    clear hb
    have M2 := Lib.hid ((M0.out.call h2 f2))
    clear h2 f2
    clear HQ
    obtain ⟨w3, e3, m3, f3, b3, zq3⟩ := M2.out.tok_ (1) ts tn ln nl
    have z3 : w2.heap.size < w3.heap.size := by omega
    clear zq3
    have M3 := Lib.hid (And.intro m3 (b3))
    have hl3 := heap_lt b3
    clear m3 f3 b3
    obtain ⟨c0, c1, c2, c3⟩ := M3.out.1.rd.cells
    have d1 : (st.e != 0) = false := by simpa using HE.out
    rw [HE.out] at c2
    obtain ⟨t0, t1, t2, t3, t4⟩ := (box_facts M3.out.2).1
    obtain ⟨w4, e4, m4, f4, b4, zq4⟩ := M3.out.1.box_ (.int .i64 0) (.string ⟨#[]⟩) (.int .i64 0) (.slice none 0 0) (.int .i64 ln)
    have z4 : w3.heap.size < w4.heap.size := by omega
    clear zq4
    have M4 := Lib.hid (And.intro m4 (And.intro (blk_fr M3.out.2 f4 (by omega)) (b4)))
    clear m4 f4 b4
    obtain ⟨t0, t1, t2, t3, t4⟩ := (box_facts M4.out.2.1).1
    obtain ⟨x0, x1, x2, x3, x4⟩ := M4.out.2.2.cells
    obtain ⟨q0, q1, q2, q3, q4⟩ := M4.out.2.2.thaw
    have HQ := Lib.hid (fail_any 43 w4 M4.out.1.rd)
    have s2 := bs_eq ts [97, 114, 103, 117, 109, 101, 110, 116, 115]
    have s1 := bs_eq ts [101, 118, 97, 108]
    by_cases hE1 : ts = evalW
    ·have q1 : ((bs ts).toList == [101, 118, 97, 108]) = true := by rw [s1]; simpa [evalW] using hE1
     clear s1 s2 hE hE1
     go_wp2_with fail
     go_at_call 59
     refine (HQ.out).mono ?_
     rintro e w5 ⟨rfl, h5, f5⟩
     have z5 := f5.size
     have M5 := Lib.hid (And.intro (M4.out.1.call h5 f5) (And.intro (blk_fr M4.out.2.1 f5 (by omega)) (M4.out.2.2.fr f5 (by omega))))
     clear h5 f5
     obtain ⟨x0, x1, x2, x3, x4⟩ := M5.out.2.2.cells
     obtain ⟨⟨y0, y1, y2, y3, y4⟩, g0, g1, g2, g3, g4⟩ := M5.out.1.facts
     go_wp2
     exact M5.out.1.gives' 2 (TreeAt.leaf (o := 0) (k := 0) (i := ln) (s := []) _ ⟨by simp, by omega, by omega⟩) rfl rfl rfl
    ·have q1 : ((bs ts).toList == [101, 118, 97, 108]) = false := by rw [s1]; simpa [evalW] using hE1
     have q2 : ((bs ts).toList == [97, 114, 103, 117, 109, 101, 110, 116, 115]) = true := by rw [s2]; simpa [argsW] using hE.resolve_left hE1
     clear s1 s2 hE hE1
     go_wp2_with fail
     go_at_call 59
     refine (HQ.out).mono ?_
     rintro e w5 ⟨rfl, h5, f5⟩
     have z5 := f5.size
     have M5 := Lib.hid (And.intro (M4.out.1.call h5 f5) (And.intro (blk_fr M4.out.2.1 f5 (by omega)) (M4.out.2.2.fr f5 (by omega))))
     clear h5 f5
     obtain ⟨x0, x1, x2, x3, x4⟩ := M5.out.2.2.cells
     obtain ⟨⟨y0, y1, y2, y3, y4⟩, g0, g1, g2, g3, g4⟩ := M5.out.1.facts
     go_wp2
     exact M5.out.1.gives' 2 (TreeAt.leaf (o := 0) (k := 0) (i := ln) (s := []) _ ⟨by simp, by omega, by omega⟩) rfl rfl rfl
   ·obtain ⟨rfl, rfl⟩ : [Tr.mk 1 ts 0 ln []] = l ∧ st.next = st1 := by simpa [hE, one] using hr
    clear hr
    have q1 : ((bs ts).toList == [101, 118, 97, 108]) = false := by rw [bs_eq]; simpa [evalW] using fun h => hE (.inl h)
    have q2 : ((bs ts).toList == [97, 114, 103, 117, 109, 101, 110, 116, 115]) = false := by rw [bs_eq]; simpa [argsW] using fun h => hE (.inr h)
    clear hE
    go_enter Try.func111, Try.ntmps111
    have HQ0 := tok_any 0 W1 M0.out.rd (by omega)
    rw [ht] at HQ0
    unfold tokV at HQ0
    have HQ := Lib.hid HQ0
    clear HQ0
    go_wp2_with fail
    go_at_call 55
    refine (HQ.out).mono ?_
    rintro e w2 ⟨rfl, hb⟩
    have f2 := Fr.of_below (R := R) hb (Nat.le_refl _)
    have h2 := M0.out.rd.below hb M0.out.rd.lt
    have z2 := f2.size
    clear hb
    have M2 := Lib.hid ((M0.out.call h2 f2))
    clear h2 f2
    clear HQ
    obtain ⟨w3, e3, m3, f3, b3, zq3⟩ := M2.out.tok_ (1) ts tn ln nl
    have z3 : w2.heap.size < w3.heap.size := by omega
    clear zq3
    have M3 := Lib.hid (And.intro m3 (b3))
    have hl3 := heap_lt b3
    clear m3 f3 b3
    obtain ⟨c0, c1, c2, c3⟩ := M3.out.1.rd.cells
    have d1 : (st.e != 0) = false := by simpa using HE.out
    rw [HE.out] at c2
    obtain ⟨t0, t1, t2, t3, t4⟩ := (box_facts M3.out.2).1
    obtain ⟨w4, e4, m4, f4, b4, zq4⟩ := M3.out.1.box_ (.int .i64 0) (.string ⟨#[]⟩) (.int .i64 0) (.slice none 0 0) (.int .i64 ln)
    have z4 : w3.heap.size < w4.heap.size := by omega
    clear zq4
    have M4 := Lib.hid (And.intro m4 (And.intro (blk_fr M3.out.2 f4 (by omega)) (b4)))
    clear m4 f4 b4
    obtain ⟨t0, t1, t2, t3, t4⟩ := (box_facts M4.out.2.1).1
    obtain ⟨x0, x1, x2, x3, x4⟩ := M4.out.2.2.cells
    obtain ⟨q0, q1, q2, q3, q4⟩ := M4.out.2.2.thaw
    obtain ⟨w5, e5⟩ : ∃ W, w4.setCell ⟨w3.heap.size, 0, none⟩ (.int .i64 1) = W := ⟨_, rfl⟩
    have m5 := M4.out.1.set (B := w3.heap.size) (by omega) 0 (.int .i64 1)
    have i5_0 := blk_away (B' := w3.heap.size) M4.out.2.1 (by omega) 0 (.int .i64 1)
    have i5_1 := M4.out.2.2.put0 (.int .i64 1)
    have z5 : w5.heap.size = w4.heap.size := by rw [← e5]; simp
    rw [e5] at m5 i5_0 i5_1
    have M5 := Lib.hid (And.intro m5 (And.intro i5_0 (i5_1)))
    clear m5 i5_0 i5_1
    obtain ⟨t0, t1, t2, t3, t4⟩ := (box_facts M5.out.2.1).1
    obtain ⟨x0, x1, x2, x3, x4⟩ := M5.out.2.2.cells
    obtain ⟨q0, q1, q2, q3, q4⟩ := M5.out.2.2.thaw
    obtain ⟨w6, e6⟩ : ∃ W, w5.setCell ⟨w3.heap.size, 1, none⟩ (.string (bs ts)) = W := ⟨_, rfl⟩
    have m6 := M5.out.1.set (B := w3.heap.size) (by omega) 1 (.string (bs ts))
    have i6_0 := blk_away (B' := w3.heap.size) M5.out.2.1 (by omega) 1 (.string (bs ts))
    have i6_1 := M5.out.2.2.put1 (.string (bs ts))
    have z6 : w6.heap.size = w5.heap.size := by rw [← e6]; simp
    rw [e6] at m6 i6_0 i6_1
    have M6 := Lib.hid (And.intro m6 (And.intro i6_0 (i6_1)))
    clear m6 i6_0 i6_1
    obtain ⟨t0, t1, t2, t3, t4⟩ := (box_facts M6.out.2.1).1
    obtain ⟨x0, x1, x2, x3, x4⟩ := M6.out.2.2.cells
    obtain ⟨q0, q1, q2, q3, q4⟩ := M6.out.2.2.thaw
    obtain ⟨c0, c1, c2, c3⟩ := M6.out.1.rd.cells
    have fR1 := M6.out.1.rd.thaw 1
    have hw := wrap_next hps.out M6.out.1.rd.len
    obtain ⟨w7, e7, h7, f7⟩ := M6.out.1.next_ hps.out
    have z7 := f7.size
    have M7 := Lib.hid (And.intro (M6.out.1.call h7 f7) (And.intro (blk_fr M6.out.2.1 f7 (by omega)) (M6.out.2.2.fr f7 (by omega))))
    clear h7 f7
    obtain ⟨x0, x1, x2, x3, x4⟩ := M7.out.2.2.cells
    obtain ⟨⟨y0, y1, y2, y3, y4⟩, g0, g1, g2, g3, g4⟩ := M7.out.1.facts
    go_wp2
    exact M7.out.1.gives' 2 (TreeAt.leaf (o := 1) (k := 0) (i := ln) (s := ts) _ (fine_s htl.1 (by omega))) rfl rfl rfl
  ·rw [if_neg k1] at hr
   by_cases k3 : kd = 3
   ·subst k3
    have hps := Lib.hid (hpz (by decide))
    clear hpz
    obtain ⟨rfl, rfl⟩ : [Tr.mk 2 [] tn ln []] = l ∧ st.next = st1 := by simpa [one] using hr
    clear hr k1
    go_enter Try.func111, Try.ntmps111
    have HQ0 := tok_any 0 W1 M0.out.rd (by omega)
    rw [ht] at HQ0
    unfold tokV at HQ0
    have HQ := Lib.hid HQ0
    clear HQ0
    go_wp2_with fail
    go_at_call 55
    refine (HQ.out).mono ?_
    rintro e w2 ⟨rfl, hb⟩
    have f2 := Fr.of_below (R := R) hb (Nat.le_refl _)
    have h2 := M0.out.rd.below hb M0.out.rd.lt
    have z2 := f2.size
    clear hb
    have M2 := Lib.hid ((M0.out.call h2 f2))
    clear h2 f2
    clear HQ
    obtain ⟨w3, e3, m3, f3, b3, zq3⟩ := M2.out.tok_ (3) ts tn ln nl
    have z3 : w2.heap.size < w3.heap.size := by omega
    clear zq3
    have M3 := Lib.hid (And.intro m3 (b3))
    have hl3 := heap_lt b3
    clear m3 f3 b3
    obtain ⟨c0, c1, c2, c3⟩ := M3.out.1.rd.cells
    have d1 : (st.e != 0) = false := by simpa using HE.out
    rw [HE.out] at c2
    obtain ⟨t0, t1, t2, t3, t4⟩ := (box_facts M3.out.2).1
    obtain ⟨w4, e4, m4, f4, b4, zq4⟩ := M3.out.1.box_ (.int .i64 0) (.string ⟨#[]⟩) (.int .i64 0) (.slice none 0 0) (.int .i64 ln)
    have z4 : w3.heap.size < w4.heap.size := by omega
    clear zq4
    have M4 := Lib.hid (And.intro m4 (And.intro (blk_fr M3.out.2 f4 (by omega)) (b4)))
    clear m4 f4 b4
    obtain ⟨t0, t1, t2, t3, t4⟩ := (box_facts M4.out.2.1).1
    obtain ⟨x0, x1, x2, x3, x4⟩ := M4.out.2.2.cells
    obtain ⟨q0, q1, q2, q3, q4⟩ := M4.out.2.2.thaw
    obtain ⟨w5, e5⟩ : ∃ W, w4.setCell ⟨w3.heap.size, 0, none⟩ (.int .i64 2) = W := ⟨_, rfl⟩
    have m5 := M4.out.1.set (B := w3.heap.size) (by omega) 0 (.int .i64 2)
    have i5_0 := blk_away (B' := w3.heap.size) M4.out.2.1 (by omega) 0 (.int .i64 2)
    have i5_1 := M4.out.2.2.put0 (.int .i64 2)
    have z5 : w5.heap.size = w4.heap.size := by rw [← e5]; simp
    rw [e5] at m5 i5_0 i5_1
    have M5 := Lib.hid (And.intro m5 (And.intro i5_0 (i5_1)))
    clear m5 i5_0 i5_1
    obtain ⟨t0, t1, t2, t3, t4⟩ := (box_facts M5.out.2.1).1
    obtain ⟨x0, x1, x2, x3, x4⟩ := M5.out.2.2.cells
    obtain ⟨q0, q1, q2, q3, q4⟩ := M5.out.2.2.thaw
    obtain ⟨w6, e6⟩ : ∃ W, w5.setCell ⟨w3.heap.size, 2, none⟩ (.int .i64 tn) = W := ⟨_, rfl⟩
    have m6 := M5.out.1.set (B := w3.heap.size) (by omega) 2 (.int .i64 tn)
    have i6_0 := blk_away (B' := w3.heap.size) M5.out.2.1 (by omega) 2 (.int .i64 tn)
    have i6_1 := M5.out.2.2.put2 (.int .i64 tn)
    have z6 : w6.heap.size = w5.heap.size := by rw [← e6]; simp
    rw [e6] at m6 i6_0 i6_1
    have M6 := Lib.hid (And.intro m6 (And.intro i6_0 (i6_1)))
    clear m6 i6_0 i6_1
    obtain ⟨t0, t1, t2, t3, t4⟩ := (box_facts M6.out.2.1).1
    obtain ⟨x0, x1, x2, x3, x4⟩ := M6.out.2.2.cells
    obtain ⟨q0, q1, q2, q3, q4⟩ := M6.out.2.2.thaw
    obtain ⟨c0, c1, c2, c3⟩ := M6.out.1.rd.cells
    have fR1 := M6.out.1.rd.thaw 1
    have hw := wrap_next hps.out M6.out.1.rd.len
    obtain ⟨w7, e7, h7, f7⟩ := M6.out.1.next_ hps.out
    have z7 := f7.size
    have M7 := Lib.hid (And.intro (M6.out.1.call h7 f7) (And.intro (blk_fr M6.out.2.1 f7 (by omega)) (M6.out.2.2.fr f7 (by omega))))
    clear h7 f7
    obtain ⟨x0, x1, x2, x3, x4⟩ := M7.out.2.2.cells
    obtain ⟨⟨y0, y1, y2, y3, y4⟩, g0, g1, g2, g3, g4⟩ := M7.out.1.facts
    go_wp2
    exact M7.out.1.gives' 2 (TreeAt.leaf (o := 2) (k := tn) (i := ln) (s := []) _ ⟨by simp, by omega, by omega⟩) rfl rfl rfl
   ·rw [if_neg k3] at hr
    by_cases k4 : kd = 4
    ·subst k4
     have hps := Lib.hid (hpz (by decide))
     clear hpz
     obtain ⟨rfl, rfl⟩ : [Tr.mk 3 ts 0 ln []] = l ∧ st.next = st1 := by simpa [one] using hr
     clear hr k1 k3
     go_enter Try.func111, Try.ntmps111
     have HQ0 := tok_any 0 W1 M0.out.rd (by omega)
     rw [ht] at HQ0
     unfold tokV at HQ0
     have HQ := Lib.hid HQ0
     clear HQ0
     go_wp2_with fail
     go_at_call 55
     refine (HQ.out).mono ?_
     rintro e w2 ⟨rfl, hb⟩
     have f2 := Fr.of_below (R := R) hb (Nat.le_refl _)
     have h2 := M0.out.rd.below hb M0.out.rd.lt
     have z2 := f2.size
     clear hb
     have M2 := Lib.hid ((M0.out.call h2 f2))
     clear h2 f2
     clear HQ
     obtain ⟨w3, e3, m3, f3, b3, zq3⟩ := M2.out.tok_ (4) ts tn ln nl
     have z3 : w2.heap.size < w3.heap.size := by omega
     clear zq3
     have M3 := Lib.hid (And.intro m3 (b3))
     have hl3 := heap_lt b3
     clear m3 f3 b3
     obtain ⟨c0, c1, c2, c3⟩ := M3.out.1.rd.cells
     have d1 : (st.e != 0) = false := by simpa using HE.out
     rw [HE.out] at c2
     obtain ⟨t0, t1, t2, t3, t4⟩ := (box_facts M3.out.2).1
     obtain ⟨w4, e4, m4, f4, b4, zq4⟩ := M3.out.1.box_ (.int .i64 0) (.string ⟨#[]⟩) (.int .i64 0) (.slice none 0 0) (.int .i64 ln)
     have z4 : w3.heap.size < w4.heap.size := by omega
     clear zq4
     have M4 := Lib.hid (And.intro m4 (And.intro (blk_fr M3.out.2 f4 (by omega)) (b4)))
     clear m4 f4 b4
     obtain ⟨t0, t1, t2, t3, t4⟩ := (box_facts M4.out.2.1).1
     obtain ⟨x0, x1, x2, x3, x4⟩ := M4.out.2.2.cells
     obtain ⟨q0, q1, q2, q3, q4⟩ := M4.out.2.2.thaw
     obtain ⟨w5, e5⟩ : ∃ W, w4.setCell ⟨w3.heap.size, 0, none⟩ (.int .i64 3) = W := ⟨_, rfl⟩
     have m5 := M4.out.1.set (B := w3.heap.size) (by omega) 0 (.int .i64 3)
     have i5_0 := blk_away (B' := w3.heap.size) M4.out.2.1 (by omega) 0 (.int .i64 3)
     have i5_1 := M4.out.2.2.put0 (.int .i64 3)
     have z5 : w5.heap.size = w4.heap.size := by rw [← e5]; simp
     rw [e5] at m5 i5_0 i5_1
     have M5 := Lib.hid (And.intro m5 (And.intro i5_0 (i5_1)))
     clear m5 i5_0 i5_1
     obtain ⟨t0, t1, t2, t3, t4⟩ := (box_facts M5.out.2.1).1
     obtain ⟨x0, x1, x2, x3, x4⟩ := M5.out.2.2.cells
     obtain ⟨q0, q1, q2, q3, q4⟩ := M5.out.2.2.thaw
     obtain ⟨w6, e6⟩ : ∃ W, w5.setCell ⟨w3.heap.size, 1, none⟩ (.string (bs ts)) = W := ⟨_, rfl⟩
     have m6 := M5.out.1.set (B := w3.heap.size) (by omega) 1 (.string (bs ts))
     have i6_0 := blk_away (B' := w3.heap.size) M5.out.2.1 (by omega) 1 (.string (bs ts))
     have i6_1 := M5.out.2.2.put1 (.string (bs ts))
     have z6 : w6.heap.size = w5.heap.size := by rw [← e6]; simp
     rw [e6] at m6 i6_0 i6_1
     have M6 := Lib.hid (And.intro m6 (And.intro i6_0 (i6_1)))
     clear m6 i6_0 i6_1
     obtain ⟨t0, t1, t2, t3, t4⟩ := (box_facts M6.out.2.1).1
     obtain ⟨x0, x1, x2, x3, x4⟩ := M6.out.2.2.cells
     obtain ⟨q0, q1, q2, q3, q4⟩ := M6.out.2.2.thaw
     obtain ⟨c0, c1, c2, c3⟩ := M6.out.1.rd.cells
     have fR1 := M6.out.1.rd.thaw 1
     have hw := wrap_next hps.out M6.out.1.rd.len
     obtain ⟨w7, e7, h7, f7⟩ := M6.out.1.next_ hps.out
     have z7 := f7.size
     have M7 := Lib.hid (And.intro (M6.out.1.call h7 f7) (And.intro (blk_fr M6.out.2.1 f7 (by omega)) (M6.out.2.2.fr f7 (by omega))))
     clear h7 f7
     obtain ⟨x0, x1, x2, x3, x4⟩ := M7.out.2.2.cells
     obtain ⟨⟨y0, y1, y2, y3, y4⟩, g0, g1, g2, g3, g4⟩ := M7.out.1.facts
     go_wp2
     exact M7.out.1.gives' 2 (TreeAt.leaf (o := 3) (k := 0) (i := ln) (s := ts) _ (fine_s htl.1 (by omega))) rfl rfl rfl
    ·rw [if_neg k4] at hr
     by_cases k2 : kd = 2
     ·subst k2
      have hps := Lib.hid (hpz (by decide))
      clear hpz k1 k3 k4
      rw [if_pos rfl] at hr
      by_cases hf : ts = funW
      ·rw [if_pos hf] at hr
       have q1 : ((bs ts).toList == [102, 117, 110, 99, 116, 105, 111, 110]) = true := by rw [bs_eq]; simpa [funW] using hf
       cases ht2 : tokR L st.next 0 with | mk kd2 ts2 tn2 ln2 nl2 =>
       rw [ht2] at hr
       dsimp only at hr
       by_cases hk2 : kd2 = 1
       ·rw [if_pos hk2] at hr
        have dk : (kd2 == 1) = true := by simpa using hk2
        cases e1 : run L F .rest (nameR L st.next).2 with
        | none => rw [e1] at hr; cases hr
        | some x =>
        obtain ⟨x, s2⟩ := x
        rw [e1] at hr
        obtain ⟨rfl, rfl⟩ : [Tr.mk 10 (nameR L st.next).1 0 ln x] = l ∧ s2 = st1 := by simpa [one] using hr
        have H1 := Lib.hid (ih .rest _ _ _ e1)
        clear hr e1 hf hk2
        go_enter Try.func111, Try.ntmps111
        have HQ0 := tok_any 0 W1 M0.out.rd (by omega)
        rw [ht] at HQ0
        unfold tokV at HQ0
        have HQ := Lib.hid HQ0
        clear HQ0
        go_wp2_with fail
        go_at_call 55
        refine (HQ.out).mono ?_
        rintro e w2 ⟨rfl, hb⟩
        have f2 := Fr.of_below (R := R) hb (Nat.le_refl _)
        have h2 := M0.out.rd.below hb M0.out.rd.lt
        have z2 := f2.size
        clear hb
        have M2 := Lib.hid ((M0.out.call h2 f2))
        clear h2 f2
        clear HQ
        obtain ⟨w3, e3, m3, f3, b3, zq3⟩ := M2.out.tok_ (2) ts tn ln nl
        have z3 : w2.heap.size < w3.heap.size := by omega
        clear zq3
        have M3 := Lib.hid (And.intro m3 (b3))
        have hl3 := heap_lt b3
        clear m3 f3 b3
        obtain ⟨c0, c1, c2, c3⟩ := M3.out.1.rd.cells
        have d1 : (st.e != 0) = false := by simpa using HE.out
        rw [HE.out] at c2
        obtain ⟨t0, t1, t2, t3, t4⟩ := (box_facts M3.out.2).1
        obtain ⟨w4, e4, m4, f4, b4, zq4⟩ := M3.out.1.box_ (.int .i64 0) (.string ⟨#[]⟩) (.int .i64 0) (.slice none 0 0) (.int .i64 ln)
        have z4 : w3.heap.size < w4.heap.size := by omega
        clear zq4
        have M4 := Lib.hid (And.intro m4 (And.intro (blk_fr M3.out.2 f4 (by omega)) (b4)))
        clear m4 f4 b4
        obtain ⟨t0, t1, t2, t3, t4⟩ := (box_facts M4.out.2.1).1
        obtain ⟨x0, x1, x2, x3, x4⟩ := M4.out.2.2.cells
        obtain ⟨q0, q1, q2, q3, q4⟩ := M4.out.2.2.thaw
        obtain ⟨c0, c1, c2, c3⟩ := M4.out.1.rd.cells
        have fR1 := M4.out.1.rd.thaw 1
        have hw := wrap_next hps.out M4.out.1.rd.len
        obtain ⟨w5, e5, h5, f5⟩ := M4.out.1.next_ hps.out
        have z5 := f5.size
        have M5 := Lib.hid (And.intro (M4.out.1.call h5 f5) (And.intro (blk_fr M4.out.2.1 f5 (by omega)) (M4.out.2.2.fr f5 (by omega))))
        clear h5 f5
        obtain ⟨t0, t1, t2, t3, t4⟩ := (box_facts M5.out.2.1).1
        obtain ⟨x0, x1, x2, x3, x4⟩ := M5.out.2.2.cells
        obtain ⟨q0, q1, q2, q3, q4⟩ := M5.out.2.2.thaw
        obtain ⟨w6, e6⟩ : ∃ W, w5.setCell ⟨w3.heap.size, 0, none⟩ (.int .i64 10) = W := ⟨_, rfl⟩
        have m6 := M5.out.1.set (B := w3.heap.size) (by omega) 0 (.int .i64 10)
        have i6_0 := blk_away (B' := w3.heap.size) M5.out.2.1 (by omega) 0 (.int .i64 10)
        have i6_1 := M5.out.2.2.put0 (.int .i64 10)
        have z6 : w6.heap.size = w5.heap.size := by rw [← e6]; simp
        rw [e6] at m6 i6_0 i6_1
        have M6 := Lib.hid (And.intro m6 (And.intro i6_0 (i6_1)))
        clear m6 i6_0 i6_1
        obtain ⟨t0, t1, t2, t3, t4⟩ := (box_facts M6.out.2.1).1
        obtain ⟨x0, x1, x2, x3, x4⟩ := M6.out.2.2.cells
        obtain ⟨q0, q1, q2, q3, q4⟩ := M6.out.2.2.thaw
        have HQ0 := tok_any 0 w6 M6.out.1.rd (by omega)
        rw [ht2] at HQ0
        unfold tokV at HQ0
        have HQ := Lib.hid HQ0
        clear HQ0
        go_wp2_with fail
        go_at_call 55
        refine (HQ.out).mono ?_
        rintro e w7 ⟨rfl, hb⟩
        have f7 := Fr.of_below (R := R) hb (Nat.le_refl _)
        have h7 := M6.out.1.rd.below hb M6.out.1.rd.lt
        have z7 := f7.size
        clear hb
        have M7 := Lib.hid (And.intro (M6.out.1.call h7 f7) (And.intro (blk_fr M6.out.2.1 f7 (by omega)) (M6.out.2.2.fr f7 (by omega))))
        clear h7 f7
        clear HQ
        have fk := tok_kind kd2 ts2 tn2 ln2 nl2 w7
        obtain ⟨x0, x1, x2, x3, x4⟩ := M7.out.2.2.cells
        obtain ⟨q0, q1, q2, q3, q4⟩ := M7.out.2.2.thaw
        have HQ := Lib.hid (name_any w7 M7.out.1.rd)
        have hnl := name_len M7.out.1.rd
        go_wp2_with fail
        go_at_call 90
        refine (HQ.out).mono ?_
        rintro e w8 ⟨rfl, h8, f8⟩
        have z8 := f8.size
        have M8 := Lib.hid (And.intro (M7.out.1.call h8 f8) (And.intro (blk_fr M7.out.2.1 f8 (by omega)) (M7.out.2.2.fr f8 (by omega))))
        clear h8 f8
        clear HQ
        obtain ⟨x0, x1, x2, x3, x4⟩ := M8.out.2.2.cells
        obtain ⟨q0, q1, q2, q3, q4⟩ := M8.out.2.2.thaw
        obtain ⟨w9, e9⟩ : ∃ W, w8.setCell ⟨w3.heap.size, 1, none⟩ (.string (bs (nameR L st.next).1)) = W := ⟨_, rfl⟩
        have m9 := M8.out.1.set (B := w3.heap.size) (by omega) 1 (.string (bs (nameR L st.next).1))
        have i9_0 := blk_away (B' := w3.heap.size) M8.out.2.1 (by omega) 1 (.string (bs (nameR L st.next).1))
        have i9_1 := M8.out.2.2.put1 (.string (bs (nameR L st.next).1))
        have z9 : w9.heap.size = w8.heap.size := by rw [← e9]; simp
        rw [e9] at m9 i9_0 i9_1
        have M9 := Lib.hid (And.intro m9 (And.intro i9_0 (i9_1)))
        clear m9 i9_0 i9_1
        obtain ⟨t0, t1, t2, t3, t4⟩ := (box_facts M9.out.2.1).1
        obtain ⟨x0, x1, x2, x3, x4⟩ := M9.out.2.2.cells
        obtain ⟨q0, q1, q2, q3, q4⟩ := M9.out.2.2.thaw
        go_wp2_with fail
        go_at_call 93
        refine (H1.out w9 M9.out.1.rd).mono ?_
        rintro e w10 ⟨v10, rfl, h10, f10, t10⟩
        obtain ⟨A10, c10, rfl, -, -⟩ := t10.slice
        have z10 := f10.size
        have M10 := Lib.hid (And.intro (M9.out.1.call h10 f10) (And.intro (blk_fr M9.out.2.1 f10 (by omega)) (And.intro (M9.out.2.2.fr f10 (by omega)) (t10.af (B := w3.heap.size) (by omega)))))
        clear h10 f10 t10
        obtain ⟨x0, x1, x2, x3, x4⟩ := M10.out.2.2.1.cells
        obtain ⟨q0, q1, q2, q3, q4⟩ := M10.out.2.2.1.thaw
        obtain ⟨w11, e11⟩ : ∃ W, w10.setCell ⟨w3.heap.size, 3, none⟩ (.slice A10 x.length c10) = W := ⟨_, rfl⟩
        have m11 := M10.out.1.set (B := w3.heap.size) (by omega) 3 (.slice A10 x.length c10)
        have i11_0 := blk_away (B' := w3.heap.size) M10.out.2.1 (by omega) 3 (.slice A10 x.length c10)
        have i11_1 := M10.out.2.2.1.put3 (.slice A10 x.length c10)
        have i11_2 := M10.out.2.2.2.set 3 (.slice A10 x.length c10)
        have z11 : w11.heap.size = w10.heap.size := by rw [← e11]; simp
        rw [e11] at m11 i11_0 i11_1 i11_2
        have M11 := Lib.hid (And.intro m11 (And.intro i11_0 (And.intro i11_1 (i11_2))))
        clear m11 i11_0 i11_1 i11_2
        obtain ⟨x0, x1, x2, x3, x4⟩ := M11.out.2.2.1.cells
        obtain ⟨⟨y0, y1, y2, y3, y4⟩, g0, g1, g2, g3, g4⟩ := M11.out.1.facts
        go_wp2
        exact M11.out.1.gives' 2 (TreeAt.mk (o := 10) (k := 0) (i := ln) (s := (nameR L st.next).1) (M11.out.2.2.2.lower (by omega)) (fine_s hnl (by omega))) rfl rfl rfl
       ·rw [if_neg hk2] at hr
        have dk : (kd2 == 1) = false := by simpa using hk2
        cases e1 : run L F .rest st.next with
        | none => rw [e1] at hr; cases hr
        | some x =>
        obtain ⟨x, s2⟩ := x
        rw [e1] at hr
        obtain ⟨rfl, rfl⟩ : [Tr.mk 10 [] 0 ln x] = l ∧ s2 = st1 := by simpa [one] using hr
        have H1 := Lib.hid (ih .rest _ _ _ e1)
        clear hr e1 hf hk2
        go_enter Try.func111, Try.ntmps111
        have HQ0 := tok_any 0 W1 M0.out.rd (by omega)
        rw [ht] at HQ0
        unfold tokV at HQ0
        have HQ := Lib.hid HQ0
        clear HQ0
        go_wp2_with fail
        go_at_call 55
        refine (HQ.out).mono ?_
        rintro e w2 ⟨rfl, hb⟩
        have f2 := Fr.of_below (R := R) hb (Nat.le_refl _)
        have h2 := M0.out.rd.below hb M0.out.rd.lt
        have z2 := f2.size
        clear hb
        have M2 := Lib.hid ((M0.out.call h2 f2))
        clear h2 f2
        clear HQ
        obtain ⟨w3, e3, m3, f3, b3, zq3⟩ := M2.out.tok_ (2) ts tn ln nl
        have z3 : w2.heap.size < w3.heap.size := by omega
        clear zq3
        have M3 := Lib.hid (And.intro m3 (b3))
        have hl3 := heap_lt b3
        clear m3 f3 b3
        obtain ⟨c0, c1, c2, c3⟩ := M3.out.1.rd.cells
        have d1 : (st.e != 0) = false := by simpa using HE.out
        rw [HE.out] at c2
        obtain ⟨t0, t1, t2, t3, t4⟩ := (box_facts M3.out.2).1
        obtain ⟨w4, e4, m4, f4, b4, zq4⟩ := M3.out.1.box_ (.int .i64 0) (.string ⟨#[]⟩) (.int .i64 0) (.slice none 0 0) (.int .i64 ln)
        have z4 : w3.heap.size < w4.heap.size := by omega
        clear zq4
        have M4 := Lib.hid (And.intro m4 (And.intro (blk_fr M3.out.2 f4 (by omega)) (b4)))
        clear m4 f4 b4
        obtain ⟨t0, t1, t2, t3, t4⟩ := (box_facts M4.out.2.1).1
        obtain ⟨x0, x1, x2, x3, x4⟩ := M4.out.2.2.cells
        obtain ⟨q0, q1, q2, q3, q4⟩ := M4.out.2.2.thaw
        obtain ⟨c0, c1, c2, c3⟩ := M4.out.1.rd.cells
        have fR1 := M4.out.1.rd.thaw 1
        have hw := wrap_next hps.out M4.out.1.rd.len
        obtain ⟨w5, e5, h5, f5⟩ := M4.out.1.next_ hps.out
        have z5 := f5.size
        have M5 := Lib.hid (And.intro (M4.out.1.call h5 f5) (And.intro (blk_fr M4.out.2.1 f5 (by omega)) (M4.out.2.2.fr f5 (by omega))))
        clear h5 f5
        obtain ⟨t0, t1, t2, t3, t4⟩ := (box_facts M5.out.2.1).1
        obtain ⟨x0, x1, x2, x3, x4⟩ := M5.out.2.2.cells
        obtain ⟨q0, q1, q2, q3, q4⟩ := M5.out.2.2.thaw
        obtain ⟨w6, e6⟩ : ∃ W, w5.setCell ⟨w3.heap.size, 0, none⟩ (.int .i64 10) = W := ⟨_, rfl⟩
        have m6 := M5.out.1.set (B := w3.heap.size) (by omega) 0 (.int .i64 10)
        have i6_0 := blk_away (B' := w3.heap.size) M5.out.2.1 (by omega) 0 (.int .i64 10)
        have i6_1 := M5.out.2.2.put0 (.int .i64 10)
        have z6 : w6.heap.size = w5.heap.size := by rw [← e6]; simp
        rw [e6] at m6 i6_0 i6_1
        have M6 := Lib.hid (And.intro m6 (And.intro i6_0 (i6_1)))
        clear m6 i6_0 i6_1
        obtain ⟨t0, t1, t2, t3, t4⟩ := (box_facts M6.out.2.1).1
        obtain ⟨x0, x1, x2, x3, x4⟩ := M6.out.2.2.cells
        obtain ⟨q0, q1, q2, q3, q4⟩ := M6.out.2.2.thaw
        have HQ0 := tok_any 0 w6 M6.out.1.rd (by omega)
        rw [ht2] at HQ0
        unfold tokV at HQ0
        have HQ := Lib.hid HQ0
        clear HQ0
        go_wp2_with fail
        go_at_call 55
        refine (HQ.out).mono ?_
        rintro e w7 ⟨rfl, hb⟩
        have f7 := Fr.of_below (R := R) hb (Nat.le_refl _)
        have h7 := M6.out.1.rd.below hb M6.out.1.rd.lt
        have z7 := f7.size
        clear hb
        have M7 := Lib.hid (And.intro (M6.out.1.call h7 f7) (And.intro (blk_fr M6.out.2.1 f7 (by omega)) (M6.out.2.2.fr f7 (by omega))))
        clear h7 f7
        clear HQ
        have fk := tok_kind kd2 ts2 tn2 ln2 nl2 w7
        obtain ⟨x0, x1, x2, x3, x4⟩ := M7.out.2.2.cells
        obtain ⟨q0, q1, q2, q3, q4⟩ := M7.out.2.2.thaw
        go_wp2_with fail
        go_at_call 93
        refine (H1.out w7 M7.out.1.rd).mono ?_
        rintro e w8 ⟨v8, rfl, h8, f8, t8⟩
        obtain ⟨A8, c8, rfl, -, -⟩ := t8.slice
        have z8 := f8.size
        have M8 := Lib.hid (And.intro (M7.out.1.call h8 f8) (And.intro (blk_fr M7.out.2.1 f8 (by omega)) (And.intro (M7.out.2.2.fr f8 (by omega)) (t8.af (B := w3.heap.size) (by omega)))))
        clear h8 f8 t8
        obtain ⟨x0, x1, x2, x3, x4⟩ := M8.out.2.2.1.cells
        obtain ⟨q0, q1, q2, q3, q4⟩ := M8.out.2.2.1.thaw
        obtain ⟨w9, e9⟩ : ∃ W, w8.setCell ⟨w3.heap.size, 3, none⟩ (.slice A8 x.length c8) = W := ⟨_, rfl⟩
        have m9 := M8.out.1.set (B := w3.heap.size) (by omega) 3 (.slice A8 x.length c8)
        have i9_0 := blk_away (B' := w3.heap.size) M8.out.2.1 (by omega) 3 (.slice A8 x.length c8)
        have i9_1 := M8.out.2.2.1.put3 (.slice A8 x.length c8)
        have i9_2 := M8.out.2.2.2.set 3 (.slice A8 x.length c8)
        have z9 : w9.heap.size = w8.heap.size := by rw [← e9]; simp
        rw [e9] at m9 i9_0 i9_1 i9_2
        have M9 := Lib.hid (And.intro m9 (And.intro i9_0 (And.intro i9_1 (i9_2))))
        clear m9 i9_0 i9_1 i9_2
        obtain ⟨x0, x1, x2, x3, x4⟩ := M9.out.2.2.1.cells
        obtain ⟨⟨y0, y1, y2, y3, y4⟩, g0, g1, g2, g3, g4⟩ := M9.out.1.facts
        go_wp2
        exact M9.out.1.gives' 2 (TreeAt.mk (o := 10) (k := 0) (i := ln) (s := []) (M9.out.2.2.2.lower (by omega)) ⟨by simp, by omega, by omega⟩) rfl rfl rfl
      ·rw [if_neg hf] at hr
       have q1 : ((bs ts).toList == [102, 117, 110, 99, 116, 105, 111, 110]) = false := by rw [bs_eq]; simpa [funW] using hf
       have HP := Lib.hid (plain_any ts)
       have hrange : 0 ≤ plainR ts ∧ plainR ts ≤ 9 := by unfold plainR; repeat' split <;> omega
       obtain ⟨pl, hpl⟩ : ∃ x, plainR ts = x := ⟨_, rfl⟩
       rw [hpl] at hr HP hrange
       clear hf
       by_cases hp0 : pl = 0
       ·obtain ⟨rfl, rfl⟩ : [Tr.zero] = l ∧ stopR L st true = st1 := by simpa [one, hp0] using hr
        subst hp0
        clear hr hpl hrange
        go_enter Try.func111, Try.ntmps111
        have HQ0 := tok_any 0 W1 M0.out.rd (by omega)
        rw [ht] at HQ0
        unfold tokV at HQ0
        have HQ := Lib.hid HQ0
        clear HQ0
        go_wp2_with fail
        go_at_call 55
        refine (HQ.out).mono ?_
        rintro e w2 ⟨rfl, hb⟩
        have f2 := Fr.of_below (R := R) hb (Nat.le_refl _)
        have h2 := M0.out.rd.below hb M0.out.rd.lt
        have z2 := f2.size
        clear hb
        have M2 := Lib.hid ((M0.out.call h2 f2))
        clear h2 f2
        clear HQ
        obtain ⟨w3, e3, m3, f3, b3, zq3⟩ := M2.out.tok_ (2) ts tn ln nl
        have z3 : w2.heap.size < w3.heap.size := by omega
        clear zq3
        have M3 := Lib.hid (And.intro m3 (b3))
        have hl3 := heap_lt b3
        clear m3 f3 b3
        obtain ⟨c0, c1, c2, c3⟩ := M3.out.1.rd.cells
        have d1 : (st.e != 0) = false := by simpa using HE.out
        rw [HE.out] at c2
        obtain ⟨t0, t1, t2, t3, t4⟩ := (box_facts M3.out.2).1
        obtain ⟨w4, e4, m4, f4, b4, zq4⟩ := M3.out.1.box_ (.int .i64 0) (.string ⟨#[]⟩) (.int .i64 0) (.slice none 0 0) (.int .i64 ln)
        have z4 : w3.heap.size < w4.heap.size := by omega
        clear zq4
        have M4 := Lib.hid (And.intro m4 (And.intro (blk_fr M3.out.2 f4 (by omega)) (b4)))
        clear m4 f4 b4
        obtain ⟨t0, t1, t2, t3, t4⟩ := (box_facts M4.out.2.1).1
        obtain ⟨x0, x1, x2, x3, x4⟩ := M4.out.2.2.cells
        obtain ⟨q0, q1, q2, q3, q4⟩ := M4.out.2.2.thaw
        go_wp2_with fail
        go_at_call 113
        refine (HP.out _).mono ?_
        rintro e w' ⟨rfl, rfl⟩
        obtain ⟨w5, e5⟩ : ∃ W, w4.setCell ⟨w3.heap.size, 0, none⟩ (.int .i64 0) = W := ⟨_, rfl⟩
        have m5 := M4.out.1.set (B := w3.heap.size) (by omega) 0 (.int .i64 0)
        have i5_0 := blk_away (B' := w3.heap.size) M4.out.2.1 (by omega) 0 (.int .i64 0)
        have i5_1 := M4.out.2.2.put0 (.int .i64 0)
        have z5 : w5.heap.size = w4.heap.size := by rw [← e5]; simp
        rw [e5] at m5 i5_0 i5_1
        have M5 := Lib.hid (And.intro m5 (And.intro i5_0 (i5_1)))
        clear m5 i5_0 i5_1
        obtain ⟨t0, t1, t2, t3, t4⟩ := (box_facts M5.out.2.1).1
        obtain ⟨x0, x1, x2, x3, x4⟩ := M5.out.2.2.cells
        obtain ⟨q0, q1, q2, q3, q4⟩ := M5.out.2.2.thaw
        have HQ := Lib.hid (stop_any true w5 M5.out.1.rd)
        go_wp2_with fail
        go_at_call 45
        refine (HQ.out).mono ?_
        rintro e w6 ⟨rfl, h6, f6⟩
        have z6 := f6.size
        have M6 := Lib.hid (And.intro (M5.out.1.call h6 f6) (And.intro (blk_fr M5.out.2.1 f6 (by omega)) (M5.out.2.2.fr f6 (by omega))))
        clear h6 f6
        obtain ⟨⟨y0, y1, y2, y3, y4⟩, g0, g1, g2, g3, g4⟩ := M6.out.1.facts
        go_wp2
        exact M6.out.1.gives' 2 (TreeAt.zero _ _) rfl rfl rfl
       ·obtain ⟨rfl, rfl⟩ : [Tr.mk pl [] 0 ln []] = l ∧ st.next = st1 := by simpa [one, hp0] using hr
        have dp : (pl == 0) = false := by simpa using hp0
        clear hr hpl
        go_enter Try.func111, Try.ntmps111
        have HQ0 := tok_any 0 W1 M0.out.rd (by omega)
        rw [ht] at HQ0
        unfold tokV at HQ0
        have HQ := Lib.hid HQ0
        clear HQ0
        go_wp2_with fail
        go_at_call 55
        refine (HQ.out).mono ?_
        rintro e w2 ⟨rfl, hb⟩
        have f2 := Fr.of_below (R := R) hb (Nat.le_refl _)
        have h2 := M0.out.rd.below hb M0.out.rd.lt
        have z2 := f2.size
        clear hb
        have M2 := Lib.hid ((M0.out.call h2 f2))
        clear h2 f2
        clear HQ
        obtain ⟨w3, e3, m3, f3, b3, zq3⟩ := M2.out.tok_ (2) ts tn ln nl
        have z3 : w2.heap.size < w3.heap.size := by omega
        clear zq3
        have M3 := Lib.hid (And.intro m3 (b3))
        have hl3 := heap_lt b3
        clear m3 f3 b3
        obtain ⟨c0, c1, c2, c3⟩ := M3.out.1.rd.cells
        have d1 : (st.e != 0) = false := by simpa using HE.out
        rw [HE.out] at c2
        obtain ⟨t0, t1, t2, t3, t4⟩ := (box_facts M3.out.2).1
        obtain ⟨w4, e4, m4, f4, b4, zq4⟩ := M3.out.1.box_ (.int .i64 0) (.string ⟨#[]⟩) (.int .i64 0) (.slice none 0 0) (.int .i64 ln)
        have z4 : w3.heap.size < w4.heap.size := by omega
        clear zq4
        have M4 := Lib.hid (And.intro m4 (And.intro (blk_fr M3.out.2 f4 (by omega)) (b4)))
        clear m4 f4 b4
        obtain ⟨t0, t1, t2, t3, t4⟩ := (box_facts M4.out.2.1).1
        obtain ⟨x0, x1, x2, x3, x4⟩ := M4.out.2.2.cells
        obtain ⟨q0, q1, q2, q3, q4⟩ := M4.out.2.2.thaw
        go_wp2_with fail
        go_at_call 113
        refine (HP.out _).mono ?_
        rintro e w' ⟨rfl, rfl⟩
        obtain ⟨w5, e5⟩ : ∃ W, w4.setCell ⟨w3.heap.size, 0, none⟩ (.int .i64 pl) = W := ⟨_, rfl⟩
        have m5 := M4.out.1.set (B := w3.heap.size) (by omega) 0 (.int .i64 pl)
        have i5_0 := blk_away (B' := w3.heap.size) M4.out.2.1 (by omega) 0 (.int .i64 pl)
        have i5_1 := M4.out.2.2.put0 (.int .i64 pl)
        have z5 : w5.heap.size = w4.heap.size := by rw [← e5]; simp
        rw [e5] at m5 i5_0 i5_1
        have M5 := Lib.hid (And.intro m5 (And.intro i5_0 (i5_1)))
        clear m5 i5_0 i5_1
        obtain ⟨t0, t1, t2, t3, t4⟩ := (box_facts M5.out.2.1).1
        obtain ⟨x0, x1, x2, x3, x4⟩ := M5.out.2.2.cells
        obtain ⟨q0, q1, q2, q3, q4⟩ := M5.out.2.2.thaw
        obtain ⟨c0, c1, c2, c3⟩ := M5.out.1.rd.cells
        have fR1 := M5.out.1.rd.thaw 1
        have hw := wrap_next hps.out M5.out.1.rd.len
        obtain ⟨w6, e6, h6, f6⟩ := M5.out.1.next_ hps.out
        have z6 := f6.size
        have M6 := Lib.hid (And.intro (M5.out.1.call h6 f6) (And.intro (blk_fr M5.out.2.1 f6 (by omega)) (M5.out.2.2.fr f6 (by omega))))
        clear h6 f6
        obtain ⟨x0, x1, x2, x3, x4⟩ := M6.out.2.2.cells
        obtain ⟨⟨y0, y1, y2, y3, y4⟩, g0, g1, g2, g3, g4⟩ := M6.out.1.facts
        go_wp2
        exact M6.out.1.gives' 2 (TreeAt.leaf (o := pl) (k := 0) (i := ln) (s := []) _ ⟨by simp, by omega, by omega⟩) rfl rfl rfl
     ·rw [if_neg k2] at hr
      clear hpz
      by_cases k5 : kd = 5
      ·subst k5
       clear k1 k2 k3 k4
       by_cases ho : ts = [40]
       ·have q1 : ((bs ts).toList == [40]) = true := by rw [bs_eq]; simpa using ho
        have e1 : run L F .head st = some (l, st1) := by simpa [ho] using hr
        have H1 := Lib.hid (ih .head _ _ _ e1)
        clear hr e1 ho
        go_enter Try.func111, Try.ntmps111
        have HQ0 := tok_any 0 W1 M0.out.rd (by omega)
        rw [ht] at HQ0
        unfold tokV at HQ0
        have HQ := Lib.hid HQ0
        clear HQ0
        go_wp2_with fail
        go_at_call 55
        refine (HQ.out).mono ?_
        rintro e w2 ⟨rfl, hb⟩
        have f2 := Fr.of_below (R := R) hb (Nat.le_refl _)
        have h2 := M0.out.rd.below hb M0.out.rd.lt
        have z2 := f2.size
        clear hb
        have M2 := Lib.hid ((M0.out.call h2 f2))
        clear h2 f2
        clear HQ
        obtain ⟨w3, e3, m3, f3, b3, zq3⟩ := M2.out.tok_ (5) ts tn ln nl
        have z3 : w2.heap.size < w3.heap.size := by omega
        clear zq3
        have M3 := Lib.hid (And.intro m3 (b3))
        have hl3 := heap_lt b3
        clear m3 f3 b3
        obtain ⟨c0, c1, c2, c3⟩ := M3.out.1.rd.cells
        have d1 : (st.e != 0) = false := by simpa using HE.out
        rw [HE.out] at c2
        obtain ⟨t0, t1, t2, t3, t4⟩ := (box_facts M3.out.2).1
        obtain ⟨w4, e4, m4, f4, b4, zq4⟩ := M3.out.1.box_ (.int .i64 0) (.string ⟨#[]⟩) (.int .i64 0) (.slice none 0 0) (.int .i64 ln)
        have z4 : w3.heap.size < w4.heap.size := by omega
        clear zq4
        have M4 := Lib.hid (And.intro m4 (And.intro (blk_fr M3.out.2 f4 (by omega)) (b4)))
        clear m4 f4 b4
        obtain ⟨t0, t1, t2, t3, t4⟩ := (box_facts M4.out.2.1).1
        obtain ⟨x0, x1, x2, x3, x4⟩ := M4.out.2.2.cells
        obtain ⟨q0, q1, q2, q3, q4⟩ := M4.out.2.2.thaw
        go_wp2_with fail
        go_at_call 91
        refine (H1.out w4 M4.out.1.rd).mono ?_
        rintro e w5 ⟨v5, rfl, h5, f5, t5⟩
        obtain ⟨A5, c5, rfl, -, -⟩ := t5.form
        have z5 := f5.size
        have M5 := Lib.hid (And.intro (M4.out.1.call h5 f5) (And.intro (blk_fr M4.out.2.1 f5 (by omega)) (And.intro (M4.out.2.2.fr f5 (by omega)) (t5.af (B := w.heap.size) (by omega)))))
        clear h5 f5 t5
        obtain ⟨⟨y0, y1, y2, y3, y4⟩, g0, g1, g2, g3, g4⟩ := M5.out.1.facts
        go_wp2
        exact M5.out.1.gives' 2 M5.out.2.2.2 rfl rfl rfl
       ·have q1 : ((bs ts).toList == [40]) = false := by rw [bs_eq]; simpa using ho
        by_cases ho2 : ts = [123]
        ·have q2 : ((bs ts).toList == [123]) = true := by rw [bs_eq]; simpa using ho2
         have e1 : run L F (.object ln []) (mustR L st [123]) = some (l, st1) := by simpa [ho2] using hr
         have H1 := Lib.hid (ih (.object ln []) _ _ _ e1 rfl st rfl (by rw [ht]))
         clear hr e1 ho ho2
         go_enter Try.func111, Try.ntmps111
         have HQ0 := tok_any 0 W1 M0.out.rd (by omega)
         rw [ht] at HQ0
         unfold tokV at HQ0
         have HQ := Lib.hid HQ0
         clear HQ0
         go_wp2_with fail
         go_at_call 55
         refine (HQ.out).mono ?_
         rintro e w2 ⟨rfl, hb⟩
         have f2 := Fr.of_below (R := R) hb (Nat.le_refl _)
         have h2 := M0.out.rd.below hb M0.out.rd.lt
         have z2 := f2.size
         clear hb
         have M2 := Lib.hid ((M0.out.call h2 f2))
         clear h2 f2
         clear HQ
         obtain ⟨w3, e3, m3, f3, b3, zq3⟩ := M2.out.tok_ (5) ts tn ln nl
         have z3 : w2.heap.size < w3.heap.size := by omega
         clear zq3
         have M3 := Lib.hid (And.intro m3 (b3))
         have hl3 := heap_lt b3
         clear m3 f3 b3
         obtain ⟨c0, c1, c2, c3⟩ := M3.out.1.rd.cells
         have d1 : (st.e != 0) = false := by simpa using HE.out
         rw [HE.out] at c2
         obtain ⟨t0, t1, t2, t3, t4⟩ := (box_facts M3.out.2).1
         obtain ⟨w4, e4, m4, f4, b4, zq4⟩ := M3.out.1.box_ (.int .i64 0) (.string ⟨#[]⟩) (.int .i64 0) (.slice none 0 0) (.int .i64 ln)
         have z4 : w3.heap.size < w4.heap.size := by omega
         clear zq4
         have M4 := Lib.hid (And.intro m4 (And.intro (blk_fr M3.out.2 f4 (by omega)) (b4)))
         clear m4 f4 b4
         obtain ⟨t0, t1, t2, t3, t4⟩ := (box_facts M4.out.2.1).1
         obtain ⟨x0, x1, x2, x3, x4⟩ := M4.out.2.2.cells
         obtain ⟨q0, q1, q2, q3, q4⟩ := M4.out.2.2.thaw
         go_wp2_with fail
         go_at_call 114
         refine (H1.out w4 M4.out.1.rd).mono ?_
         rintro e w5 ⟨v5, rfl, h5, f5, t5⟩
         obtain ⟨A5, c5, rfl, -, -⟩ := t5.form
         have z5 := f5.size
         have M5 := Lib.hid (And.intro (M4.out.1.call h5 f5) (And.intro (blk_fr M4.out.2.1 f5 (by omega)) (And.intro (M4.out.2.2.fr f5 (by omega)) (t5.af (B := w.heap.size) (by omega)))))
         clear h5 f5 t5
         obtain ⟨⟨y0, y1, y2, y3, y4⟩, g0, g1, g2, g3, g4⟩ := M5.out.1.facts
         go_wp2
         exact M5.out.1.gives' 2 M5.out.2.2.2 rfl rfl rfl
        ·have q2 : ((bs ts).toList == [123]) = false := by rw [bs_eq]; simpa using ho2
         obtain ⟨rfl, rfl⟩ : [Tr.zero] = l ∧ stopR L st true = st1 := by simpa [one, ho, ho2] using hr
         clear hr ho ho2
         go_enter Try.func111, Try.ntmps111
         have HQ0 := tok_any 0 W1 M0.out.rd (by omega)
         rw [ht] at HQ0
         unfold tokV at HQ0
         have HQ := Lib.hid HQ0
         clear HQ0
         go_wp2_with fail
         go_at_call 55
         refine (HQ.out).mono ?_
         rintro e w2 ⟨rfl, hb⟩
         have f2 := Fr.of_below (R := R) hb (Nat.le_refl _)
         have h2 := M0.out.rd.below hb M0.out.rd.lt
         have z2 := f2.size
         clear hb
         have M2 := Lib.hid ((M0.out.call h2 f2))
         clear h2 f2
         clear HQ
         obtain ⟨w3, e3, m3, f3, b3, zq3⟩ := M2.out.tok_ (5) ts tn ln nl
         have z3 : w2.heap.size < w3.heap.size := by omega
         clear zq3
         have M3 := Lib.hid (And.intro m3 (b3))
         have hl3 := heap_lt b3
         clear m3 f3 b3
         obtain ⟨c0, c1, c2, c3⟩ := M3.out.1.rd.cells
         have d1 : (st.e != 0) = false := by simpa using HE.out
         rw [HE.out] at c2
         obtain ⟨t0, t1, t2, t3, t4⟩ := (box_facts M3.out.2).1
         obtain ⟨w4, e4, m4, f4, b4, zq4⟩ := M3.out.1.box_ (.int .i64 0) (.string ⟨#[]⟩) (.int .i64 0) (.slice none 0 0) (.int .i64 ln)
         have z4 : w3.heap.size < w4.heap.size := by omega
         clear zq4
         have M4 := Lib.hid (And.intro m4 (And.intro (blk_fr M3.out.2 f4 (by omega)) (b4)))
         clear m4 f4 b4
         obtain ⟨t0, t1, t2, t3, t4⟩ := (box_facts M4.out.2.1).1
         obtain ⟨x0, x1, x2, x3, x4⟩ := M4.out.2.2.cells
         obtain ⟨q0, q1, q2, q3, q4⟩ := M4.out.2.2.thaw
         have HQ := Lib.hid (stop_any true w4 M4.out.1.rd)
         go_wp2_with fail
         go_at_call 45
         refine (HQ.out).mono ?_
         rintro e w5 ⟨rfl, h5, f5⟩
         have z5 := f5.size
         have M5 := Lib.hid (And.intro (M4.out.1.call h5 f5) (And.intro (blk_fr M4.out.2.1 f5 (by omega)) (M4.out.2.2.fr f5 (by omega))))
         clear h5 f5
         obtain ⟨⟨y0, y1, y2, y3, y4⟩, g0, g1, g2, g3, g4⟩ := M5.out.1.facts
         go_wp2
         exact M5.out.1.gives' 2 (TreeAt.zero _ _) rfl rfl rfl
      ·obtain ⟨rfl, rfl⟩ : [Tr.zero] = l ∧ stopR L st true = st1 := by simpa [one, k5] using hr
       have d2 : (kd == 1) = false := by simpa using k1
       have d3 : (kd == 2) = false := by simpa using k2
       have d4 : (kd == 3) = false := by simpa using k3
       have d5 : (kd == 4) = false := by simpa using k4
       have d6 : (kd == 5) = false := by simpa using k5
       clear hr k1 k2 k3 k4 k5
       go_enter Try.func111, Try.ntmps111
       have HQ0 := tok_any 0 W1 M0.out.rd (by omega)
       rw [ht] at HQ0
       unfold tokV at HQ0
       have HQ := Lib.hid HQ0
       clear HQ0
       go_wp2_with fail
       go_at_call 55
       refine (HQ.out).mono ?_
       rintro e w2 ⟨rfl, hb⟩
       have f2 := Fr.of_below (R := R) hb (Nat.le_refl _)
       have h2 := M0.out.rd.below hb M0.out.rd.lt
       have z2 := f2.size
       clear hb
       have M2 := Lib.hid ((M0.out.call h2 f2))
       clear h2 f2
       clear HQ
       obtain ⟨w3, e3, m3, f3, b3, zq3⟩ := M2.out.tok_ kd ts tn ln nl
       have z3 : w2.heap.size < w3.heap.size := by omega
       clear zq3
       have M3 := Lib.hid (And.intro m3 (b3))
       have hl3 := heap_lt b3
       clear m3 f3 b3
       obtain ⟨c0, c1, c2, c3⟩ := M3.out.1.rd.cells
       have d1 : (st.e != 0) = false := by simpa using HE.out
       rw [HE.out] at c2
       obtain ⟨t0, t1, t2, t3, t4⟩ := (box_facts M3.out.2).1
       obtain ⟨w4, e4, m4, f4, b4, zq4⟩ := M3.out.1.box_ (.int .i64 0) (.string ⟨#[]⟩) (.int .i64 0) (.slice none 0 0) (.int .i64 ln)
       have z4 : w3.heap.size < w4.heap.size := by omega
       clear zq4
       have M4 := Lib.hid (And.intro m4 (And.intro (blk_fr M3.out.2 f4 (by omega)) (b4)))
       clear m4 f4 b4
       obtain ⟨t0, t1, t2, t3, t4⟩ := (box_facts M4.out.2.1).1
       obtain ⟨x0, x1, x2, x3, x4⟩ := M4.out.2.2.cells
       obtain ⟨q0, q1, q2, q3, q4⟩ := M4.out.2.2.thaw
       have HQ := Lib.hid (stop_any true w4 M4.out.1.rd)
       go_wp2_with fail
       go_at_call 45
       refine (HQ.out).mono ?_
       rintro e w5 ⟨rfl, h5, f5⟩
       have z5 := f5.size
       have M5 := Lib.hid (And.intro (M4.out.1.call h5 f5) (And.intro (blk_fr M4.out.2.1 f5 (by omega)) (M4.out.2.2.fr f5 (by omega))))
       clear h5 f5
       obtain ⟨⟨y0, y1, y2, y3, y4⟩, g0, g1, g2, g3, g4⟩ := M5.out.1.facts
       go_wp2
       exact M5.out.1.gives' 2 (TreeAt.zero _ _) rfl rfl rfl
 ·rw [if_pos he] at hr
  obtain ⟨rfl, rfl⟩ : [Tr.zero] = l ∧ st = st1 := by simpa [one] using hr
  clear hr
  go_enter Try.func111, Try.ntmps111
  have HQ0 := tok_any 0 W1 M0.out.rd (by omega)
  rw [ht] at HQ0
  unfold tokV at HQ0
  have HQ := Lib.hid HQ0
  clear HQ0
  go_wp2_with fail
  go_at_call 55
  refine (HQ.out).mono ?_
  rintro e w2 ⟨rfl, hb⟩
  have f2 := Fr.of_below (R := R) hb (Nat.le_refl _)
  have h2 := M0.out.rd.below hb M0.out.rd.lt
  have z2 := f2.size
  clear hb
  have M2 := Lib.hid ((M0.out.call h2 f2))
  clear h2 f2
  clear HQ
  obtain ⟨w3, e3, m3, f3, b3, zq3⟩ := M2.out.tok_ kd ts tn ln nl
  have z3 : w2.heap.size < w3.heap.size := by omega
  clear zq3
  have M3 := Lib.hid (And.intro m3 (b3))
  have hl3 := heap_lt b3
  clear m3 f3 b3
  obtain ⟨c0, c1, c2, c3⟩ := M3.out.1.rd.cells
  obtain ⟨t0, t1, t2, t3, t4⟩ := (box_facts M3.out.2).1
  have d1 : (st.e != 0) = true := by simpa using he
  obtain ⟨⟨y0, y1, y2, y3, y4⟩, g0, g1, g2, g3, g4⟩ := M3.out.1.facts
  go_wp2
  exact M3.out.1.gives' 2 (TreeAt.zero _ _) rfl rfl rfl
end
end
end Go.Proofs.Ytejbdoiamhfbjaa
