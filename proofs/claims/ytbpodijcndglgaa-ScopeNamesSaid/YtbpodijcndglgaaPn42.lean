/- The document's reader: rest. The document's reader: thing. -/
import Derived.Deep.RegionHeldLaw
import Derived.Deep.LoopGhost
import Derived.Deep.DeepCutAuto
import Derived.Test.YtbpodijcndglgaaPn34
set_option linter.unusedSimpArgs false
set_option linter.unusedVariables false
set_option maxRecDepth 100000
set_option maxHeartbeats 40000000
namespace Go.Proofs.Ytbpodijcndglgaa
section
open Go.RowKit Go.Proofs
section
variable {R cp : Nat} {A : Option Addr} {L : List Tok} {st : St} {F : Nat}
theorem rest_ok (ihs : ∀ F', F' ≤ F → All R A cp L F') (hF : F ≤ 2000000) (l : List Tr) (st1 : St) (hr : run L (F + 1) .rest st = some (l, st1)) : Spec R A cp L .rest st l st1 := by
 intro w h
 have hR := h.lt
 have M0 := Lib.hid (Pl.start h)
 clear h
 rw [run] at hr
 dsimp only at hr
 cases e1 : run L F (.params [] (!isR L (mustR L st [40]) [41])) (mustR L st [40]) with
 | none => rw [e1] at hr; cases hr
 | some x =>
 obtain ⟨ps, s2⟩ := x
 cases e2 : run L F .block (mustR L s2 [41]) with
 | none => simp [e1, e2] at hr
 | some y =>
 obtain ⟨y, s3⟩ := y
 obtain ⟨rfl, rfl⟩ : ps ++ [hd y] = l ∧ s3 = st1 := by simpa [e1, e2] using hr
 have H2 := Lib.hid (ihs F (Nat.le_refl _) .block _ _ _ e2)
 clear hr e2
 go_enter Try.func84, Try.ntmps84
 have HQ := Lib.hid (must_any [40] ⟨#[40]⟩ rfl w M0.out.rd)
 go_wp2_with fail
 go_at_call 80
 refine (HQ.out).mono ?_
 rintro e w2 ⟨rfl, h2, f2⟩
 have z2 := f2.size
 have M2 := Lib.hid ((M0.out.call h2 f2))
 clear h2 f2
 clear HQ
 have HQ := Lib.hid (is_any [41] ⟨#[41]⟩ rfl w2 M2.out.rd)
 go_wp2_with fail
 go_at_call 47
 refine (HQ.out).mono ?_
 rintro e w3 ⟨rfl, hb⟩
 have f3 := Fr.of_below (R := R) hb (Nat.le_refl _)
 have h3 := M2.out.rd.below hb M2.out.rd.lt
 have z3 := f3.size
 clear hb
 have M3 := Lib.hid ((M2.out.call h3 f3))
 clear h3 f3
 clear HQ
 go_wp2
 go_loopg [3, 5] F (fun gn v b wr => ∃ (acc : List Tr) (bb : Bool) (s' : St), b = .bool bb ∧ RowKit.Hid (run L gn (.params acc bb) s' = some (ps, s2) ∧ acc.length + gn ≤ F ∧ Pl R A cp L w wr s' ∧ AccAt w.heap.size wr acc v ∧ w.heap.size ≤ wr.heap.size))
 case atStart => exact ⟨[], _, _, rfl, Lib.hid ⟨e1, by simp, M3.out, AccAt.nil _ _, by omega⟩⟩
 case round =>
  obtain ⟨acc, bb, s', rfl, HH⟩ := hrel
  obtain ⟨hrun, hacc, hpl, hac, hz0⟩ := HH.out
  obtain ⟨W0, hW0⟩ : ∃ x, x = wr := ⟨_, rfl⟩
  subst hW0
  obtain ⟨A0, c0', rfl, hlc, hcm⟩ := hac.slice
  obtain ⟨c0, c1, c2, c3⟩ := hpl.rd.cells
  have MR := Lib.hid (And.intro hpl hac)
  clear hpl hac HH e1
  cases gk with
  | zero => simp [run] at hrun
  | succ G =>
  rw [run] at hrun
  by_cases he : s'.e = 0 ∧ bb = true
  ·obtain ⟨he1, rfl⟩ := he
   cases ht : tokR L s' 0 with | mk kd ts tn ln nl =>
   have HN := Lib.hid (show run L G (.params (acc ++ [.mk 1 (nameR L s').1 0 ln []]) (isR L (nameR L s').2 [44])) (takeR L (nameR L s').2 [44]) = some (ps, s2) by simpa [he1, ht] using hrun)
   have d1 : (s'.e == 0) = true := by simpa using he1
   rw [he1] at c2
   clear hrun he1
   have HQ0 := tok_any 0 W0 MR.out.1.rd (by omega)
   rw [ht] at HQ0
   unfold tokV at HQ0
   have HQ := Lib.hid HQ0
   clear HQ0
   go_wp2_with fail
   go_at_call 46
   refine (HQ.out).mono ?_
   rintro e w3 ⟨rfl, hb⟩
   have f3 := Fr.of_below (R := R) hb (Nat.le_refl _)
   have h3 := MR.out.1.rd.below hb MR.out.1.rd.lt
   have z3 := f3.size
   clear hb
   have M3 := Lib.hid (And.intro (MR.out.1.call h3 f3) (MR.out.2.fr f3 (by omega)))
   clear h3 f3
   clear HQ
   have fl := tok_line kd ts tn ln nl w3
   have HQ := Lib.hid (name_any w3 M3.out.1.rd)
   have hnl := name_len M3.out.1.rd
   go_wp2_with fail
   go_at_call 81
   refine (HQ.out).mono ?_
   rintro e w4 ⟨rfl, h4, f4⟩
   have z4 := f4.size
   have M4 := Lib.hid (And.intro (M3.out.1.call h4 f4) (M3.out.2.fr f4 (by omega)))
   clear h4 f4
   clear HQ
   have HP := Lib.hid (AccAt.push (R := R) (w := w4) M4.out.2 (TreeAt.leaf (o := 1) (k := 0) (i := ln) (s := (nameR L s').1) _ (fine_s hnl (by omega))) (by omega) (by omega) 22 #[.int .i64 1, .string (bs (nameR L s').1), .int .i64 0, .slice none 0 0, .int .i64 ln] rfl)
   go_wp2_with (at_builtin; refine wl_app rfl _ _ 22 rfl _ (.slice (some ⟨w4.heap.size, 0, none⟩) 1 1) rfl rfl _ HP.out ?_; rintro u w5 ⟨hacc, hon, A5, c5, rfl⟩; have z5 := hon.size; have M5 := Lib.hid (And.intro (M4.out.1.push M4.out.2 hon (by omega)) hacc); clear hacc hon)
   clear HP
   have HQ := Lib.hid (take_any [44] ⟨#[44]⟩ rfl w5 M5.out.1.rd)
   go_at_call 48
   refine (HQ.out).mono ?_
   rintro e w6 ⟨rfl, h6, f6⟩
   have z6 := f6.size
   have M6 := Lib.hid (And.intro (M5.out.1.call h6 f6) (M5.out.2.fr f6 (by omega)))
   clear h6 f6
   go_wp2
   go_roundg G
   case rel => exact ⟨acc ++ [.mk 1 (nameR L s').1 0 ln []], _, _, rfl, Lib.hid ⟨HN.out, by simp; omega, M6.out.1, M6.out.2, by omega⟩⟩
   case measure => omega
  ·obtain ⟨rfl, rfl⟩ : acc = ps ∧ s' = s2 := by simpa [he] using hrun
   have HE := Lib.hid he
   clear he hrun
   cases bb with
   | true =>
    have d1 : (s'.e == 0) = false := by simpa using fun h => HE.out ⟨h, rfl⟩
    have HQ := Lib.hid (must_any [41] ⟨#[41]⟩ rfl W0 MR.out.1.rd)
    go_wp2_with fail
    go_at_call 80
    refine (HQ.out).mono ?_
    rintro e w3 ⟨rfl, h3, f3⟩
    have z3 := f3.size
    have M3 := Lib.hid (And.intro (MR.out.1.call h3 f3) (MR.out.2.fr f3 (by omega)))
    clear h3 f3
    clear HQ
    go_wp2_with fail
    go_at_call 63
    refine (H2.out w3 M3.out.1.rd).mono ?_
    rintro e w4 ⟨v4, rfl, h4, f4, t4⟩
    obtain ⟨A4, c4, rfl, -, -⟩ := t4.form
    have z4 := f4.size
    have HP := Lib.hid (AccAt.push (R := R) (w := w4) (M3.out.2.fr f4 (by omega)) (M3.out.2.fresh t4 (by omega)) (by omega) (by omega) 22 #[.int .i64 (hd y).op, .string (bs (hd y).s), .int .i64 (hd y).n, .slice A4 (hd y).l.length c4, .int .i64 (hd y).line] rfl)
    have M4 := Lib.hid (And.intro (M3.out.1.call h4 f4) (M3.out.2.fr f4 (by omega)))
    clear h4 f4 t4
    go_wp2_with (at_builtin; refine wl_app rfl _ _ 22 rfl _ (.slice (some ⟨w4.heap.size, 0, none⟩) 1 1) rfl rfl _ HP.out ?_; rintro u w5 ⟨hacc, hon, A5, c5, rfl⟩; have z5 := hon.size; have M5 := Lib.hid (And.intro (M4.out.1.push M4.out.2 hon (by omega)) hacc); clear hacc hon)
    clear HP
    go_wp2
    go_ret
    exact M5.out.1.givesL M5.out.2
   | false =>
    by_cases he : s'.e = 0
    ·have d1 : (s'.e == 0) = true := by simpa using he
     rw [he] at c2
     have HQ := Lib.hid (must_any [41] ⟨#[41]⟩ rfl W0 MR.out.1.rd)
     go_wp2_with fail
     go_at_call 80
     refine (HQ.out).mono ?_
     rintro e w3 ⟨rfl, h3, f3⟩
     have z3 := f3.size
     have M3 := Lib.hid (And.intro (MR.out.1.call h3 f3) (MR.out.2.fr f3 (by omega)))
     clear h3 f3
     clear HQ
     go_wp2_with fail
     go_at_call 63
     refine (H2.out w3 M3.out.1.rd).mono ?_
     rintro e w4 ⟨v4, rfl, h4, f4, t4⟩
     obtain ⟨A4, c4, rfl, -, -⟩ := t4.form
     have z4 := f4.size
     have HP := Lib.hid (AccAt.push (R := R) (w := w4) (M3.out.2.fr f4 (by omega)) (M3.out.2.fresh t4 (by omega)) (by omega) (by omega) 22 #[.int .i64 (hd y).op, .string (bs (hd y).s), .int .i64 (hd y).n, .slice A4 (hd y).l.length c4, .int .i64 (hd y).line] rfl)
     have M4 := Lib.hid (And.intro (M3.out.1.call h4 f4) (M3.out.2.fr f4 (by omega)))
     clear h4 f4 t4
     go_wp2_with (at_builtin; refine wl_app rfl _ _ 22 rfl _ (.slice (some ⟨w4.heap.size, 0, none⟩) 1 1) rfl rfl _ HP.out ?_; rintro u w5 ⟨hacc, hon, A5, c5, rfl⟩; have z5 := hon.size; have M5 := Lib.hid (And.intro (M4.out.1.push M4.out.2 hon (by omega)) hacc); clear hacc hon)
     clear HP
     go_wp2
     go_ret
     exact M5.out.1.givesL M5.out.2
    ·have d1 : (s'.e == 0) = false := by simpa using he
     have HQ := Lib.hid (must_any [41] ⟨#[41]⟩ rfl W0 MR.out.1.rd)
     go_wp2_with fail
     go_at_call 80
     refine (HQ.out).mono ?_
     rintro e w3 ⟨rfl, h3, f3⟩
     have z3 := f3.size
     have M3 := Lib.hid (And.intro (MR.out.1.call h3 f3) (MR.out.2.fr f3 (by omega)))
     clear h3 f3
     clear HQ
     go_wp2_with fail
     go_at_call 63
     refine (H2.out w3 M3.out.1.rd).mono ?_
     rintro e w4 ⟨v4, rfl, h4, f4, t4⟩
     obtain ⟨A4, c4, rfl, -, -⟩ := t4.form
     have z4 := f4.size
     have HP := Lib.hid (AccAt.push (R := R) (w := w4) (M3.out.2.fr f4 (by omega)) (M3.out.2.fresh t4 (by omega)) (by omega) (by omega) 22 #[.int .i64 (hd y).op, .string (bs (hd y).s), .int .i64 (hd y).n, .slice A4 (hd y).l.length c4, .int .i64 (hd y).line] rfl)
     have M4 := Lib.hid (And.intro (M3.out.1.call h4 f4) (M3.out.2.fr f4 (by omega)))
     clear h4 f4 t4
     go_wp2_with (at_builtin; refine wl_app rfl _ _ 22 rfl _ (.slice (some ⟨w4.heap.size, 0, none⟩) 1 1) rfl rfl _ HP.out ?_; rintro u w5 ⟨hacc, hon, A5, c5, rfl⟩; have z5 := hon.size; have M5 := Lib.hid (And.intro (M4.out.1.push M4.out.2 hon (by omega)) hacc); clear hacc hon)
     clear HP
     go_wp2
     go_ret
     exact M5.out.1.givesL M5.out.2
end
end
section
open Go.RowKit Go.Proofs
section
variable {R cp : Nat} {A : Option Addr} {L : List Tok} {st : St} {F : Nat}
theorem thing_ok (ih : All R A cp L F) (l : List Tr) (st1 : St) (hr : run L (F + 1) .thing st = some (l, st1)) : Spec R A cp L .thing st l st1 := by
 intro w h
 rw [run] at hr
 try dsimp only at hr
 cases ht : tokR L st 0 with | mk kd ts tn ln nl =>
 rw [ht] at hr
 try dsimp only at hr
 have htl := tok_len h ht
 have hpz := tok_pos h ht
 have m0 := Mid.start h
 obtain ⟨W1, eW1⟩ : ∃ W, w.alloc (.cells #[.int .i64 0, .string ⟨#[]⟩, .int .i64 0, .slice none 0 0, .int .i64 0] 24) = W := ⟨_, rfl⟩
 rw [eW1] at m0
 have hz0 := m0.gt
 have M0 := Lib.hid m0
 have hR := h.lt
 clear h m0
 by_cases he : st.e = 0
 ·have HE := Lib.hid he
  rw [if_neg (show ¬ st.e ≠ 0 by simpa using he)] at hr
  clear he
  by_cases k1 : kd = 1
  ·subst k1
   have hps := Lib.hid (hpz (by decide))
   clear hpz
   rw [if_pos rfl] at hr
   by_cases hE : ts = evalW ∨ ts = argsW
   ·rw [if_pos hE] at hr
    cases hr
   ·obtain ⟨rfl, rfl⟩ : [Tr.mk 1 ts 0 ln []] = l ∧ st.next = st1 := by simpa [hE, one] using hr
    clear hr
    have q1 : ((bs ts).toList == [101, 118, 97, 108]) = false := by rw [bs_eq]; simpa [evalW] using fun h => hE (.inl h)
    have q2 : ((bs ts).toList == [97, 114, 103, 117, 109, 101, 110, 116, 115]) = false := by rw [bs_eq]; simpa [argsW] using fun h => hE (.inr h)
    clear hE
    go_enter Try.func102, Try.ntmps102
    have HQ0 := tok_any 0 W1 M0.out.rd (by omega)
    rw [ht] at HQ0
    unfold tokV at HQ0
    have HQ := Lib.hid HQ0
    clear HQ0
    go_wp2_with fail
    go_at_call 46
    refine (HQ.out).mono ?_
    rintro e w2 ⟨rfl, hb⟩
    have f2 := Fr.of_below (R := R) hb (Nat.le_refl _)
    have h2 := M0.out.rd.below hb M0.out.rd.lt
    have z2 := f2.size
    clear hb
    have M2 := Lib.hid ((M0.out.call h2 f2))
    clear h2 f2
    clear HQ
    obtain ⟨w3, e3, m3, f3, b3, zq3⟩ := M2.out.tok_ (1) ts tn ln nl
    have z3 : w2.heap.size < w3.heap.size := by omega
    clear zq3
    have M3 := Lib.hid (And.intro m3 (b3))
    have hl3 := heap_lt b3
    clear m3 f3 b3
    obtain ⟨c0, c1, c2, c3⟩ := M3.out.1.rd.cells
    have d1 : (st.e != 0) = false := by simpa using HE.out
    rw [HE.out] at c2
    obtain ⟨t0, t1, t2, t3, t4⟩ := (box_facts M3.out.2).1
    obtain ⟨w4, e4, m4, f4, b4, zq4⟩ := M3.out.1.box_ (.int .i64 0) (.string ⟨#[]⟩) (.int .i64 0) (.slice none 0 0) (.int .i64 ln)
    have z4 : w3.heap.size < w4.heap.size := by omega
    clear zq4
    have M4 := Lib.hid (And.intro m4 (And.intro (blk_fr M3.out.2 f4 (by omega)) (b4)))
    clear m4 f4 b4
    obtain ⟨t0, t1, t2, t3, t4⟩ := (box_facts M4.out.2.1).1
    obtain ⟨x0, x1, x2, x3, x4⟩ := M4.out.2.2.cells
    obtain ⟨q0, q1, q2, q3, q4⟩ := M4.out.2.2.thaw
    obtain ⟨w5, e5⟩ : ∃ W, w4.setCell ⟨w3.heap.size, 0, none⟩ (.int .i64 1) = W := ⟨_, rfl⟩
    have m5 := M4.out.1.set (B := w3.heap.size) (by omega) 0 (.int .i64 1)
    have i5_0 := blk_away (B' := w3.heap.size) M4.out.2.1 (by omega) 0 (.int .i64 1)
    have i5_1 := M4.out.2.2.put0 (.int .i64 1)
    have z5 : w4.heap.size ≤ w5.heap.size := by rw [← e5]; simp
    rw [e5] at m5 i5_0 i5_1
    have M5 := Lib.hid (And.intro m5 (And.intro i5_0 (i5_1)))
    clear m5 i5_0 i5_1
    obtain ⟨t0, t1, t2, t3, t4⟩ := (box_facts M5.out.2.1).1
    obtain ⟨x0, x1, x2, x3, x4⟩ := M5.out.2.2.cells
    obtain ⟨q0, q1, q2, q3, q4⟩ := M5.out.2.2.thaw
    obtain ⟨w6, e6⟩ : ∃ W, w5.setCell ⟨w3.heap.size, 1, none⟩ (.string (bs ts)) = W := ⟨_, rfl⟩
    have m6 := M5.out.1.set (B := w3.heap.size) (by omega) 1 (.string (bs ts))
    have i6_0 := blk_away (B' := w3.heap.size) M5.out.2.1 (by omega) 1 (.string (bs ts))
    have i6_1 := M5.out.2.2.put1 (.string (bs ts))
    have z6 : w5.heap.size ≤ w6.heap.size := by rw [← e6]; simp
    rw [e6] at m6 i6_0 i6_1
    have M6 := Lib.hid (And.intro m6 (And.intro i6_0 (i6_1)))
    clear m6 i6_0 i6_1
    obtain ⟨t0, t1, t2, t3, t4⟩ := (box_facts M6.out.2.1).1
    obtain ⟨x0, x1, x2, x3, x4⟩ := M6.out.2.2.cells
    obtain ⟨q0, q1, q2, q3, q4⟩ := M6.out.2.2.thaw
    obtain ⟨c0, c1, c2, c3⟩ := M6.out.1.rd.cells
    have fR1 := M6.out.1.rd.thaw 1
    have hw := wrap_next hps.out M6.out.1.rd.len
    obtain ⟨w7, e7, h7, f7⟩ := M6.out.1.next_ hps.out
    have z7 := f7.size
    have M7 := Lib.hid (And.intro (M6.out.1.call h7 f7) (And.intro (blk_fr M6.out.2.1 f7 (by omega)) (M6.out.2.2.fr f7 (by omega))))
    clear h7 f7
    obtain ⟨x0, x1, x2, x3, x4⟩ := M7.out.2.2.cells
    obtain ⟨⟨y0, y1, y2, y3, y4⟩, g0, g1, g2, g3, g4⟩ := M7.out.1.facts
    go_wp2
    exact M7.out.1.gives' 2 (TreeAt.leaf (o := 1) (k := 0) (i := ln) (s := ts) _ (fine_s htl.1 (by omega))) rfl rfl rfl
  ·rw [if_neg k1] at hr
   clear hpz
   by_cases ho2 : kd = 5 ∧ ts = [123]
   ·rw [if_pos ho2] at hr
    obtain ⟨rfl, ho2⟩ := ho2
    clear k1
    have q1 : ((bs ts).toList == [40]) = false := by rw [bs_eq, ho2]; decide
    have q2 : ((bs ts).toList == [123]) = true := by rw [bs_eq]; simpa using ho2
    have H1 := Lib.hid (ih (.object ln []) _ _ _ hr rfl st rfl (by rw [ht]))
    clear hr ho2
    go_enter Try.func102, Try.ntmps102
    have HQ0 := tok_any 0 W1 M0.out.rd (by omega)
    rw [ht] at HQ0
    unfold tokV at HQ0
    have HQ := Lib.hid HQ0
    clear HQ0
    go_wp2_with fail
    go_at_call 46
    refine (HQ.out).mono ?_
    rintro e w2 ⟨rfl, hb⟩
    have f2 := Fr.of_below (R := R) hb (Nat.le_refl _)
    have h2 := M0.out.rd.below hb M0.out.rd.lt
    have z2 := f2.size
    clear hb
    have M2 := Lib.hid ((M0.out.call h2 f2))
    clear h2 f2
    clear HQ
    obtain ⟨w3, e3, m3, f3, b3, zq3⟩ := M2.out.tok_ (5) ts tn ln nl
    have z3 : w2.heap.size < w3.heap.size := by omega
    clear zq3
    have M3 := Lib.hid (And.intro m3 (b3))
    have hl3 := heap_lt b3
    clear m3 f3 b3
    obtain ⟨c0, c1, c2, c3⟩ := M3.out.1.rd.cells
    have d1 : (st.e != 0) = false := by simpa using HE.out
    rw [HE.out] at c2
    obtain ⟨t0, t1, t2, t3, t4⟩ := (box_facts M3.out.2).1
    obtain ⟨w4, e4, m4, f4, b4, zq4⟩ := M3.out.1.box_ (.int .i64 0) (.string ⟨#[]⟩) (.int .i64 0) (.slice none 0 0) (.int .i64 ln)
    have z4 : w3.heap.size < w4.heap.size := by omega
    clear zq4
    have M4 := Lib.hid (And.intro m4 (And.intro (blk_fr M3.out.2 f4 (by omega)) (b4)))
    clear m4 f4 b4
    obtain ⟨t0, t1, t2, t3, t4⟩ := (box_facts M4.out.2.1).1
    obtain ⟨x0, x1, x2, x3, x4⟩ := M4.out.2.2.cells
    obtain ⟨q0, q1, q2, q3, q4⟩ := M4.out.2.2.thaw
    go_wp2_with fail
    go_at_call 105
    refine (H1.out w4 M4.out.1.rd).mono ?_
    rintro e w5 ⟨v5, rfl, h5, f5, t5⟩
    obtain ⟨A5, c5, rfl, -, -⟩ := t5.form
    have z5 := f5.size
    have M5 := Lib.hid (And.intro (M4.out.1.call h5 f5) (And.intro (blk_fr M4.out.2.1 f5 (by omega)) (And.intro (M4.out.2.2.fr f5 (by omega)) (t5.af (B := w.heap.size) (by omega)))))
    clear h5 f5 t5
    obtain ⟨⟨y0, y1, y2, y3, y4⟩, g0, g1, g2, g3, g4⟩ := M5.out.1.facts
    go_wp2
    exact M5.out.1.gives' 2 M5.out.2.2.2 rfl rfl rfl
   ·rw [if_neg ho2] at hr
    cases hr
 ·rw [if_pos he] at hr
  cases hr
end
end
end Go.Proofs.Ytbpodijcndglgaa
