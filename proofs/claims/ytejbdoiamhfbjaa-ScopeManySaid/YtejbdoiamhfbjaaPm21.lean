/- The document's reader: object. -/
import Derived.Deep.RegionLaw
import Derived.Deep.RegionHeldLaw
import Derived.Deep.LoopGhost
import Derived.Deep.DeepCutAuto
import Derived.Test.YtejbdoiamhfbjaaPm16
set_option linter.unusedSimpArgs false
set_option linter.unusedVariables false
set_option maxRecDepth 100000
set_option maxHeartbeats 4000000
namespace Go.Proofs.Ytejbdoiamhfbjaa
section
open Go.RowKit Go.Proofs
section
variable {R cp : Nat} {A : Option Addr} {L : List Tok} {st : St} {F : Nat}
theorem object_ok (ihs : ∀ F', F' ≤ F → All R A cp L F') (hF : F ≤ 2000000) (line : Int) (acc : List Tr) (l : List Tr) (st1 : St) (hr : run L (F + 1) (.object line acc) st = some (l, st1)) : Spec R A cp L (.object line acc) st l st1 := by
 intro hacc st0 hst hln w h
 cases ht0 : tokR L st0 0 with | mk kd0 ts0 tn0 ln nl0 =>
 rw [ht0] at hln
 dsimp only at hln
 subst hacc hst hln
 have m0 := Mid.start h
 obtain ⟨W1, eW1⟩ : ∃ W, w.alloc (.cells #[.int .i64 0, .string ⟨#[]⟩, .int .i64 0, .slice none 0 0, .int .i64 0] 24) = W := ⟨_, rfl⟩
 rw [eW1] at m0
 have hz0 := m0.gt
 have M0 := Lib.hid m0
 have hR := h.lt
 clear h m0
 have HR0 := Lib.hid hr
 clear hr
 go_enter Try.func114, Try.ntmps114
 have HQ0 := tok_any 0 W1 M0.out.rd (by omega)
 rw [ht0] at HQ0
 unfold tokV at HQ0
 have HQ := Lib.hid HQ0
 clear HQ0
 go_wp2_with fail
 go_at_call 55
 refine (HQ.out).mono ?_
 rintro e w2 ⟨rfl, hb⟩
 have f2 := Fr.of_below (R := R) hb (Nat.le_refl _)
 have h2 := M0.out.rd.below hb M0.out.rd.lt
 have z2 := f2.size
 clear hb
 have M2 := Lib.hid ((M0.out.call h2 f2))
 clear h2 f2
 clear HQ
 have fl := tok_line kd0 ts0 tn0 ln nl0 w2
 obtain ⟨w3, e3, m3, f3, b3, zq3⟩ := M2.out.box_ (.int .i64 11) (.string ⟨#[]⟩) (.int .i64 0) (.slice none 0 0) (.int .i64 ln)
 have z3 : w2.heap.size < w3.heap.size := by omega
 clear zq3
 have M3 := Lib.hid (And.intro m3 (b3))
 clear m3 f3 b3
 have HQ := Lib.hid (must_any [123] ⟨#[123]⟩ rfl w3 M3.out.1.rd)
 go_wp2_with fail
 go_at_call 89
 refine (HQ.out).mono ?_
 rintro e w4 ⟨rfl, h4, f4⟩
 have z4 := f4.size
 have M4 := Lib.hid (And.intro (M3.out.1.call h4 f4) (M3.out.2.fr f4 (by omega)))
 clear h4 f4
 clear HQ
 obtain ⟨nB, hnB⟩ : ∃ x, w2.heap.size = x := ⟨_, rfl⟩
 have M8 := Lib.hid (show Mid R A cp L w w4 (mustR L st0 [123]) ∧ Bx w4 nB (.int .i64 11) (.string ⟨#[]⟩) (.int .i64 0) (.slice none 0 0) (.int .i64 ln) from by rw [← hnB]; exact ⟨M4.out.1, M4.out.2⟩)
 have hnw : w.heap.size < nB := by omega
 have hnr : nB < w4.heap.size := by omega
 go_wp2
 go_loopg [] (F + 1) (fun gn wr => ∃ (acc : List Tr) (s' : St) (A' : Option Addr) (c' : Nat), RowKit.Hid (run L gn (.object ln acc) s' = some (l, st1) ∧ acc.length + gn ≤ F + 1 ∧ Mid R A cp L w wr s' ∧ Bx wr nB (.int .i64 11) (.string ⟨#[]⟩) (.int .i64 0) (.slice A' acc.length c') (.int .i64 ln) ∧ AccAt (nB + 1) wr acc (.slice A' acc.length c') ∧ nB < wr.heap.size))
 case atStart => exact ⟨[], _, none, 0, Lib.hid ⟨HR0.out, by simp, M8.out.1, M8.out.2, AccAt.nil _ _, hnr⟩⟩
 case round =>
  obtain ⟨acc, s', A0, c0', HH⟩ := hrel
  obtain ⟨hrun, hgn, hm, hbx, hac, hBr⟩ := HH.out
  obtain ⟨W0, hW0⟩ : ∃ x, x = wr := ⟨_, rfl⟩
  subst hW0
  have hz1 := hm.gt
  have hne : acc.length ≤ 3000000 := by omega
  obtain ⟨c0, c1, c2, c3⟩ := hm.rd.cells
  have MR := Lib.hid (And.intro hm (And.intro hbx hac))
  clear HH hm hbx hac HR0 M8
  cases gk with
  | zero => simp [run] at hrun
  | succ G =>
  rw [run] at hrun
  dsimp only at hrun
  by_cases he : s'.e = 0
  ·rw [he] at c2
   have d1 : (s'.e == 0) = true := by simpa using he
   rw [if_pos he] at hrun
   have HE := Lib.hid he
   clear he
   cases hc : isR L s' [125] with
   | true =>
    rw [hc] at hrun
    obtain ⟨rfl, rfl⟩ : [Tr.mk 11 [] 0 ln acc] = l ∧ s'.next = st1 := by simpa [one] using hrun
    clear hrun
    have HQ0 := take_any [125] ⟨#[125]⟩ rfl W0 MR.out.1.rd
    unfold takeR at HQ0
    rw [hc] at HQ0
    have HQ := Lib.hid HQ0
    clear HQ0
    go_wp2_with fail
    go_at_call 57
    refine (HQ.out).mono ?_
    rintro e w21 ⟨rfl, h21, f21⟩
    have h21 : RdAt w21 R A cp L (s'.next) := h21
    have z21 := f21.size
    have M21 := Lib.hid (And.intro (MR.out.1.call h21 f21) (And.intro (MR.out.2.1.fr f21 (by omega)) (MR.out.2.2.fr f21 (by omega))))
    clear h21 f21
    clear HQ
    obtain ⟨x0, x1, x2, x3, x4⟩ := M21.out.2.1.cells
    obtain ⟨⟨y0, y1, y2, y3, y4⟩, g0, g1, g2, g3, g4⟩ := M21.out.1.facts
    go_wp2
    exact M21.out.1.gives' 2 (TreeAt.mk (o := 11) (k := 0) (i := ln) (s := []) (M21.out.2.2.af (b := w.heap.size) (by omega)) ⟨by simp, by omega, by omega⟩) rfl rfl rfl
   | false =>
    rw [hc] at hrun
    simp only [Bool.false_eq_true, if_false] at hrun
    cases ht : tokR L s' 0 with | mk kd ts tn tl nl =>
    rw [ht] at hrun
    dsimp only at hrun
    have htl := tok_len MR.out.1.rd ht
    have hpz := tok_pos MR.out.1.rd ht
    have HK := Lib.hid (isKey_any ⟨kd, ts, tn, tl, nl⟩)
    unfold tokV at HK
    dsimp only at HK
    cases hk : isKeyR ⟨kd, ts, tn, tl, nl⟩ with
    | false =>
     rw [hk] at hrun HK
     obtain ⟨rfl, rfl⟩ : [Tr.zero] = l ∧ stopR L s' false = st1 := by simpa [one] using hrun
     clear hrun hpz
     have HQ0 := take_any [125] ⟨#[125]⟩ rfl W0 MR.out.1.rd
     unfold takeR at HQ0
     rw [hc] at HQ0
     have HQ := Lib.hid HQ0
     clear HQ0
     go_wp2_with fail
     go_at_call 57
     refine (HQ.out).mono ?_
     rintro e w21 ⟨rfl, h21, f21⟩
     have h21 : RdAt w21 R A cp L (s') := h21
     have z21 := f21.size
     have M21 := Lib.hid (And.intro (MR.out.1.call h21 f21) (And.intro (MR.out.2.1.fr f21 (by omega)) (MR.out.2.2.fr f21 (by omega))))
     clear h21 f21
     clear HQ
     have HQ0 := tok_any 0 w21 M21.out.1.rd (by omega)
     rw [ht] at HQ0
     unfold tokV at HQ0
     have HQ := Lib.hid HQ0
     clear HQ0
     go_wp2_with fail
     go_at_call 55
     refine (HQ.out).mono ?_
     rintro e w22 ⟨rfl, hb⟩
     have f22 := Fr.of_below (R := R) hb (Nat.le_refl _)
     have h22 := M21.out.1.rd.below hb M21.out.1.rd.lt
     have z22 := f22.size
     clear hb
     have M22 := Lib.hid (And.intro (M21.out.1.call h22 f22) (And.intro (M21.out.2.1.fr f22 (by omega)) (M21.out.2.2.fr f22 (by omega))))
     clear h22 f22
     clear HQ
     obtain ⟨w23, e23, m23, f23, b23, zq23⟩ := M22.out.1.tok_ kd ts tn tl nl
     have z23 : w22.heap.size < w23.heap.size := by omega
     clear zq23
     have M23 := Lib.hid (And.intro m23 (And.intro (M22.out.2.1.fr f23 (by omega)) (And.intro (M22.out.2.2.fr f23 (by omega)) (b23))))
     have hl23 := heap_lt b23
     clear m23 f23 b23
     obtain ⟨t0, t1, t2, t3, t4⟩ := (box_facts M23.out.2.2.2).1
     go_wp2_with fail
     go_at_call 115
     refine (HK.out _).mono ?_
     rintro e w24 ⟨rfl, hb⟩
     have f24 := Fr.of_below (R := R) hb (Nat.le_refl _)
     have h24 := M23.out.1.rd.below hb M23.out.1.rd.lt
     have z24 := f24.size
     clear hb
     have M24 := Lib.hid (And.intro (M23.out.1.call h24 f24) (And.intro (M23.out.2.1.fr f24 (by omega)) (And.intro (M23.out.2.2.1.fr f24 (by omega)) (blk_fr M23.out.2.2.2 f24 (by omega)))))
     clear h24 f24
     obtain ⟨t0, t1, t2, t3, t4⟩ := (box_facts M24.out.2.2.2).1
     have HQ := Lib.hid (stop_any false w24 M24.out.1.rd)
     go_wp2_with fail
     go_at_call 45
     refine (HQ.out).mono ?_
     rintro e w25 ⟨rfl, h25, f25⟩
     have z25 := f25.size
     have M25 := Lib.hid (And.intro (M24.out.1.call h25 f25) (And.intro (M24.out.2.1.fr f25 (by omega)) (And.intro (M24.out.2.2.1.fr f25 (by omega)) (blk_fr M24.out.2.2.2 f25 (by omega)))))
     clear h25 f25
     clear HQ
     obtain ⟨⟨y0, y1, y2, y3, y4⟩, g0, g1, g2, g3, g4⟩ := M25.out.1.facts
     go_wp2
     exact M25.out.1.gives' 2 (TreeAt.zero _ _) rfl rfl rfl
    | true =>
     rw [hk] at hrun HK
     simp only [Bool.true_eq_false, if_false] at hrun
     have hps := Lib.hid (hpz (by intro h0; subst h0; simp [isKeyR] at hk))
     clear hpz
     cases ht2 : tokR L s'.next 0 with | mk kd2 ts2 tn2 tl2 nl2 =>
     rw [ht2] at hrun
     have HK2 := Lib.hid (isKey_any ⟨kd2, ts2, tn2, tl2, nl2⟩)
     unfold tokV at HK2
     dsimp only at HK2
     obtain ⟨kb, hkb⟩ : ∃ x, isKeyR ⟨kd2, ts2, tn2, tl2, nl2⟩ = x := ⟨_, rfl⟩
     rw [hkb] at hrun HK2
     by_cases hg : kd = 1 ∧ (ts = [103, 101, 116] ∨ ts = [115, 101, 116]) ∧ kb = true
     ·rw [if_pos hg] at hrun
      obtain ⟨rfl, rfl⟩ : [Tr.mk 11 [] 0 ln acc] = l ∧ failR L s'.next 46 = st1 := by simpa [one] using hrun
      obtain ⟨k1, hs, rfl⟩ := hg
      have dk1 : (kd == 1) = true := by simpa using k1
      have hq : ((bs ts).toList == [103, 101, 116]) = true ∨ (((bs ts).toList == [103, 101, 116]) = false ∧ ((bs ts).toList == [115, 101, 116]) = true) := by
       rw [bs_eq, bs_eq]; rcases hs with h | h <;> simp [h]
      clear hrun hs k1
      rcases hq with q1 | ⟨q1, q2⟩
      all_goals
       have HQ0 := take_any [125] ⟨#[125]⟩ rfl W0 MR.out.1.rd
       unfold takeR at HQ0
       rw [hc] at HQ0
       have HQ := Lib.hid HQ0
       clear HQ0
       go_wp2_with fail
       go_at_call 57
       refine (HQ.out).mono ?_
       rintro e w21 ⟨rfl, h21, f21⟩
       have h21 : RdAt w21 R A cp L (s') := h21
       have z21 := f21.size
       have M21 := Lib.hid (And.intro (MR.out.1.call h21 f21) (And.intro (MR.out.2.1.fr f21 (by omega)) (MR.out.2.2.fr f21 (by omega))))
       clear h21 f21
       clear HQ
       have HQ0 := tok_any 0 w21 M21.out.1.rd (by omega)
       rw [ht] at HQ0
       unfold tokV at HQ0
       have HQ := Lib.hid HQ0
       clear HQ0
       go_wp2_with fail
       go_at_call 55
       refine (HQ.out).mono ?_
       rintro e w22 ⟨rfl, hb⟩
       have f22 := Fr.of_below (R := R) hb (Nat.le_refl _)
       have h22 := M21.out.1.rd.below hb M21.out.1.rd.lt
       have z22 := f22.size
       clear hb
       have M22 := Lib.hid (And.intro (M21.out.1.call h22 f22) (And.intro (M21.out.2.1.fr f22 (by omega)) (M21.out.2.2.fr f22 (by omega))))
       clear h22 f22
       clear HQ
       obtain ⟨w23, e23, m23, f23, b23, zq23⟩ := M22.out.1.tok_ kd ts tn tl nl
       have z23 : w22.heap.size < w23.heap.size := by omega
       clear zq23
       have M23 := Lib.hid (And.intro m23 (And.intro (M22.out.2.1.fr f23 (by omega)) (And.intro (M22.out.2.2.fr f23 (by omega)) (b23))))
       have hl23 := heap_lt b23
       clear m23 f23 b23
       obtain ⟨t0, t1, t2, t3, t4⟩ := (box_facts M23.out.2.2.2).1
       go_wp2_with fail
       go_at_call 115
       refine (HK.out _).mono ?_
       rintro e w24 ⟨rfl, hb⟩
       have f24 := Fr.of_below (R := R) hb (Nat.le_refl _)
       have h24 := M23.out.1.rd.below hb M23.out.1.rd.lt
       have z24 := f24.size
       clear hb
       have M24 := Lib.hid (And.intro (M23.out.1.call h24 f24) (And.intro (M23.out.2.1.fr f24 (by omega)) (And.intro (M23.out.2.2.1.fr f24 (by omega)) (blk_fr M23.out.2.2.2 f24 (by omega)))))
       clear h24 f24
       obtain ⟨t0, t1, t2, t3, t4⟩ := (box_facts M24.out.2.2.2).1
       obtain ⟨c0, c1, c2, c3⟩ := M24.out.1.rd.cells
       have fR1 := M24.out.1.rd.thaw 1
       have hw := wrap_next hps.out M24.out.1.rd.len
       obtain ⟨w25, e25, h25, f25⟩ := M24.out.1.next_ hps.out
       have z25 := f25.size
       have M25 := Lib.hid (And.intro (M24.out.1.call h25 f25) (And.intro (M24.out.2.1.fr f25 (by omega)) (And.intro (M24.out.2.2.1.fr f25 (by omega)) (blk_fr M24.out.2.2.2 f25 (by omega)))))
       clear h25 f25
       obtain ⟨t0, t1, t2, t3, t4⟩ := (box_facts M25.out.2.2.2).1
       have HQ0 := tok_any 0 w25 M25.out.1.rd (by omega)
       rw [ht2] at HQ0
       unfold tokV at HQ0
       have HQ := Lib.hid HQ0
       clear HQ0
       go_wp2_with fail
       go_at_call 55
       refine (HQ.out).mono ?_
       rintro e w26 ⟨rfl, hb⟩
       have f26 := Fr.of_below (R := R) hb (Nat.le_refl _)
       have h26 := M25.out.1.rd.below hb M25.out.1.rd.lt
       have z26 := f26.size
       clear hb
       have M26 := Lib.hid (And.intro (M25.out.1.call h26 f26) (And.intro (M25.out.2.1.fr f26 (by omega)) (And.intro (M25.out.2.2.1.fr f26 (by omega)) (blk_fr M25.out.2.2.2 f26 (by omega)))))
       clear h26 f26
       clear HQ
       go_wp2_with fail
       go_at_call 115
       refine (HK2.out _).mono ?_
       rintro e w27 ⟨rfl, hb⟩
       have f27 := Fr.of_below (R := R) hb (Nat.le_refl _)
       have h27 := M26.out.1.rd.below hb M26.out.1.rd.lt
       have z27 := f27.size
       clear hb
       have M27 := Lib.hid (And.intro (M26.out.1.call h27 f27) (And.intro (M26.out.2.1.fr f27 (by omega)) (And.intro (M26.out.2.2.1.fr f27 (by omega)) (blk_fr M26.out.2.2.2 f27 (by omega)))))
       clear h27 f27
       obtain ⟨t0, t1, t2, t3, t4⟩ := (box_facts M27.out.2.2.2).1
       have HQ := Lib.hid (fail_any 46 w27 M27.out.1.rd)
       go_wp2_with fail
       go_at_call 59
       refine (HQ.out).mono ?_
       rintro e w28 ⟨rfl, h28, f28⟩
       have z28 := f28.size
       have M28 := Lib.hid (And.intro (M27.out.1.call h28 f28) (And.intro (M27.out.2.1.fr f28 (by omega)) (And.intro (M27.out.2.2.1.fr f28 (by omega)) (blk_fr M27.out.2.2.2 f28 (by omega)))))
       clear h28 f28
       clear HQ
       obtain ⟨x0, x1, x2, x3, x4⟩ := M28.out.2.1.cells
       obtain ⟨⟨y0, y1, y2, y3, y4⟩, g0, g1, g2, g3, g4⟩ := M28.out.1.facts
       go_wp2
       exact M28.out.1.gives' 2 (TreeAt.mk (o := 11) (k := 0) (i := ln) (s := []) (M28.out.2.2.1.af (b := w.heap.size) (by omega)) ⟨by simp, by omega, by omega⟩) rfl rfl rfl
     ·rw [if_neg hg] at hrun
      cases e1 : run L G .expr (mustR L s'.next [58]) with
      | none => simp [e1] at hrun
      | some x =>
      obtain ⟨x, s2⟩ := x
      have H1 := Lib.hid (ihs G (by omega) .expr _ _ _ e1)
      by_cases k3 : kd = 3
      ·subst k3
       have dk1 : ((3 : Int) == 1) = false := by decide
       have HN := Lib.hid (show (if isR L s2 [44] = true then run L G (.object ln (acc ++ [.mk 12 (numR tn) 0 tl [hd x]])) s2.next else one (.mk 11 [] 0 ln (acc ++ [.mk 12 (numR tn) 0 tl [hd x]])) (mustR L s2 [125])) = some (l, st1) by simpa [e1] using hrun)
       clear hrun e1 hg
       obtain ⟨tm, rfl⟩ : ∃ m : Nat, tn = m := ⟨tn.toNat, by omega⟩
       have HNu := Lib.hid (num_any 20 tm (by omega) (Nat.lt_of_le_of_lt (show tm ≤ 999999999999999 by omega) (by decide)) (by omega) (by omega))
       have HNl := Lib.hid (decN_len 20 tm)
       have HQ0 := take_any [125] ⟨#[125]⟩ rfl W0 MR.out.1.rd
       unfold takeR at HQ0
       rw [hc] at HQ0
       have HQ := Lib.hid HQ0
       clear HQ0
       go_wp2_with fail
       go_at_call 57
       refine (HQ.out).mono ?_
       rintro e w21 ⟨rfl, h21, f21⟩
       have h21 : RdAt w21 R A cp L (s') := h21
       have z21 := f21.size
       have M21 := Lib.hid (And.intro (MR.out.1.call h21 f21) (And.intro (MR.out.2.1.fr f21 (by omega)) (MR.out.2.2.fr f21 (by omega))))
       clear h21 f21
       clear HQ
       have HQ0 := tok_any 0 w21 M21.out.1.rd (by omega)
       rw [ht] at HQ0
       unfold tokV at HQ0
       have HQ := Lib.hid HQ0
       clear HQ0
       go_wp2_with fail
       go_at_call 55
       refine (HQ.out).mono ?_
       rintro e w22 ⟨rfl, hb⟩
       have f22 := Fr.of_below (R := R) hb (Nat.le_refl _)
       have h22 := M21.out.1.rd.below hb M21.out.1.rd.lt
       have z22 := f22.size
       clear hb
       have M22 := Lib.hid (And.intro (M21.out.1.call h22 f22) (And.intro (M21.out.2.1.fr f22 (by omega)) (M21.out.2.2.fr f22 (by omega))))
       clear h22 f22
       clear HQ
       obtain ⟨w23, e23, m23, f23, b23, zq23⟩ := M22.out.1.tok_ (3) ts (tm : Int) tl nl
       have z23 : w22.heap.size < w23.heap.size := by omega
       clear zq23
       have M23 := Lib.hid (And.intro m23 (And.intro (M22.out.2.1.fr f23 (by omega)) (And.intro (M22.out.2.2.fr f23 (by omega)) (b23))))
       have hl23 := heap_lt b23
       clear m23 f23 b23
       obtain ⟨t0, t1, t2, t3, t4⟩ := (box_facts M23.out.2.2.2).1
       go_wp2_with fail
       go_at_call 115
       refine (HK.out _).mono ?_
       rintro e w24 ⟨rfl, hb⟩
       have f24 := Fr.of_below (R := R) hb (Nat.le_refl _)
       have h24 := M23.out.1.rd.below hb M23.out.1.rd.lt
       have z24 := f24.size
       clear hb
       have M24 := Lib.hid (And.intro (M23.out.1.call h24 f24) (And.intro (M23.out.2.1.fr f24 (by omega)) (And.intro (M23.out.2.2.1.fr f24 (by omega)) (blk_fr M23.out.2.2.2 f24 (by omega)))))
       clear h24 f24
       obtain ⟨t0, t1, t2, t3, t4⟩ := (box_facts M24.out.2.2.2).1
       obtain ⟨c0, c1, c2, c3⟩ := M24.out.1.rd.cells
       have fR1 := M24.out.1.rd.thaw 1
       have hw := wrap_next hps.out M24.out.1.rd.len
       obtain ⟨w25, e25, h25, f25⟩ := M24.out.1.next_ hps.out
       have z25 := f25.size
       have M25 := Lib.hid (And.intro (M24.out.1.call h25 f25) (And.intro (M24.out.2.1.fr f25 (by omega)) (And.intro (M24.out.2.2.1.fr f25 (by omega)) (blk_fr M24.out.2.2.2 f25 (by omega)))))
       clear h25 f25
       obtain ⟨t0, t1, t2, t3, t4⟩ := (box_facts M25.out.2.2.2).1
       have HQ0 := tok_any 0 w25 M25.out.1.rd (by omega)
       rw [ht2] at HQ0
       unfold tokV at HQ0
       have HQ := Lib.hid HQ0
       clear HQ0
       go_wp2_with fail
       go_at_call 55
       refine (HQ.out).mono ?_
       rintro e w26 ⟨rfl, hb⟩
       have f26 := Fr.of_below (R := R) hb (Nat.le_refl _)
       have h26 := M25.out.1.rd.below hb M25.out.1.rd.lt
       have z26 := f26.size
       clear hb
       have M26 := Lib.hid (And.intro (M25.out.1.call h26 f26) (And.intro (M25.out.2.1.fr f26 (by omega)) (And.intro (M25.out.2.2.1.fr f26 (by omega)) (blk_fr M25.out.2.2.2 f26 (by omega)))))
       clear h26 f26
       clear HQ
       go_wp2_with fail
       go_at_call 115
       refine (HK2.out _).mono ?_
       rintro e w27 ⟨rfl, hb⟩
       have f27 := Fr.of_below (R := R) hb (Nat.le_refl _)
       have h27 := M26.out.1.rd.below hb M26.out.1.rd.lt
       have z27 := f27.size
       clear hb
       have M27 := Lib.hid (And.intro (M26.out.1.call h27 f27) (And.intro (M26.out.2.1.fr f27 (by omega)) (And.intro (M26.out.2.2.1.fr f27 (by omega)) (blk_fr M26.out.2.2.2 f27 (by omega)))))
       clear h27 f27
       obtain ⟨t0, t1, t2, t3, t4⟩ := (box_facts M27.out.2.2.2).1
       obtain ⟨w28, e28, m28, f28, b28, zq28⟩ := M27.out.1.box_ (.int .i64 12) (.string (bs ts)) (.int .i64 0) (.slice none 0 0) (.int .i64 tl)
       have z28 : w27.heap.size < w28.heap.size := by omega
       clear zq28
       have M28 := Lib.hid (And.intro m28 (And.intro (M27.out.2.1.fr f28 (by omega)) (And.intro ((AccAt.u M27.out.2.2.1).fr f28 (by omega)) (And.intro (blk_fr M27.out.2.2.2 f28 (by omega)) (b28)))))
       clear m28 f28 b28
       obtain ⟨t0, t1, t2, t3, t4⟩ := (box_facts M28.out.2.2.2.1).1
       obtain ⟨p0, p1, p2, p3, p4⟩ := M28.out.2.2.2.2.cells
       obtain ⟨pq0, pq1, pq2, pq3, pq4⟩ := M28.out.2.2.2.2.thaw
       go_wp2_with fail
       go_at_call 116
       refine (HNu.out _).mono ?_
       rintro e w29 ⟨rfl, hb⟩
       have f29 := Fr.of_below (R := R) hb (Nat.le_refl _)
       have h29 := M28.out.1.rd.below hb M28.out.1.rd.lt
       have z29 := f29.size
       clear hb
       have M29 := Lib.hid (And.intro (M28.out.1.call h29 f29) (And.intro (M28.out.2.1.fr f29 (by omega)) (And.intro (M28.out.2.2.1.fr f29 (by omega)) (And.intro (blk_fr M28.out.2.2.2.1 f29 (by omega)) (M28.out.2.2.2.2.fr f29 (by omega))))))
       clear h29 f29
       obtain ⟨p0, p1, p2, p3, p4⟩ := M29.out.2.2.2.2.cells
       obtain ⟨pq0, pq1, pq2, pq3, pq4⟩ := M29.out.2.2.2.2.thaw
       obtain ⟨w30, e30⟩ : ∃ W, w29.setCell ⟨w27.heap.size, 1, none⟩ (.string (bs (decN 20 tm))) = W := ⟨_, rfl⟩
       have m30 := M29.out.1.set (B := w27.heap.size) (by omega) 1 (.string (bs (decN 20 tm)))
       have i30_0 := M29.out.2.1.away (B' := w27.heap.size) (by omega) 1 (.string (bs (decN 20 tm)))
       have i30_1 := M29.out.2.2.1.hi (B' := w27.heap.size) (by omega) 1 (.string (bs (decN 20 tm)))
       have i30_2 := blk_away (B' := w27.heap.size) M29.out.2.2.2.1 (by omega) 1 (.string (bs (decN 20 tm)))
       have i30_3 := M29.out.2.2.2.2.put1 (.string (bs (decN 20 tm)))
       have z30 : w29.heap.size ≤ w30.heap.size := by rw [← e30]; simp
       rw [e30] at m30 i30_0 i30_1 i30_2 i30_3
       have M30 := Lib.hid (And.intro m30 (And.intro i30_0 (And.intro i30_1 (And.intro i30_2 (i30_3)))))
       clear m30 i30_0 i30_1 i30_2 i30_3
       have HQ := Lib.hid (must_any [58] ⟨#[58]⟩ rfl w30 M30.out.1.rd)
       go_wp2_with fail
       go_at_call 89
       refine (HQ.out).mono ?_
       rintro e w31 ⟨rfl, h31, f31⟩
       have z31 := f31.size
       have M31 := Lib.hid (And.intro (M30.out.1.call h31 f31) (And.intro (M30.out.2.1.fr f31 (by omega)) (And.intro (M30.out.2.2.1.fr f31 (by omega)) (And.intro (blk_fr M30.out.2.2.2.1 f31 (by omega)) (M30.out.2.2.2.2.fr f31 (by omega))))))
       clear h31 f31
       clear HQ
       go_wp2_with fail
       go_at_call 74
       refine (H1.out w31 M31.out.1.rd).mono ?_
       rintro e w32 ⟨v32, rfl, h32, f32, t32⟩
       obtain ⟨A32, c32, rfl, -, -⟩ := t32.form
       have z32 := f32.size
       have M32 := Lib.hid (And.intro (M31.out.1.call h32 f32) (And.intro (M31.out.2.1.fr f32 (by omega)) (And.intro (M31.out.2.2.1.fr f32 (by omega)) (And.intro (blk_fr M31.out.2.2.2.1 f32 (by omega)) (And.intro (M31.out.2.2.2.2.fr f32 (by omega)) (t32.af (B := w27.heap.size) (by omega)))))))
       clear h32 f32 t32
       obtain ⟨w33, e33, m33, f33, b33, zq33⟩ := M32.out.1.arr #[.int .i64 (hd x).op, .string (bs (hd x).s), .int .i64 (hd x).n, .slice A32 (hd x).l.length c32, .int .i64 (hd x).line]
       have z33 : w32.heap.size < w33.heap.size := by omega
       clear zq33
       have M33 := Lib.hid (And.intro m33 (And.intro (M32.out.2.1.fr f33 (by omega)) (And.intro (M32.out.2.2.1.fr f33 (by omega)) (And.intro (blk_fr M32.out.2.2.2.1 f33 (by omega)) (And.intro (M32.out.2.2.2.2.1.fr f33 (by omega)) (And.intro (M32.out.2.2.2.2.2.up f33 (by omega)) (b33)))))))
       clear m33 f33 b33
       have r34 := RowAt.one M33.out.2.2.2.2.2.1 M33.out.2.2.2.2.2.2 rfl (show Af w27.heap.size w33 w32.heap.size from ⟨by omega, by omega⟩)
       have M34 := Lib.hid (And.intro M33.out.1 (And.intro M33.out.2.1 (And.intro M33.out.2.2.1 (And.intro M33.out.2.2.2.1 (And.intro M33.out.2.2.2.2.1 (r34))))))
       clear r34
       obtain ⟨p0, p1, p2, p3, p4⟩ := M34.out.2.2.2.2.1.cells
       obtain ⟨pq0, pq1, pq2, pq3, pq4⟩ := M34.out.2.2.2.2.1.thaw
       obtain ⟨w35, e35⟩ : ∃ W, w33.setCell ⟨w27.heap.size, 3, none⟩ (.slice (some ⟨w32.heap.size, 0, none⟩) 1 1) = W := ⟨_, rfl⟩
       have m35 := M34.out.1.set (B := w27.heap.size) (by omega) 3 (.slice (some ⟨w32.heap.size, 0, none⟩) 1 1)
       have i35_0 := M34.out.2.1.away (B' := w27.heap.size) (by omega) 3 (.slice (some ⟨w32.heap.size, 0, none⟩) 1 1)
       have i35_1 := M34.out.2.2.1.hi (B' := w27.heap.size) (by omega) 3 (.slice (some ⟨w32.heap.size, 0, none⟩) 1 1)
       have i35_2 := blk_away (B' := w27.heap.size) M34.out.2.2.2.1 (by omega) 3 (.slice (some ⟨w32.heap.size, 0, none⟩) 1 1)
       have i35_3 := M34.out.2.2.2.2.1.put3 (.slice (some ⟨w32.heap.size, 0, none⟩) 1 1)
       have i35_4 := M34.out.2.2.2.2.2.set 3 (.slice (some ⟨w32.heap.size, 0, none⟩) 1 1)
       have z35 : w33.heap.size ≤ w35.heap.size := by rw [← e35]; simp
       rw [e35] at m35 i35_0 i35_1 i35_2 i35_3 i35_4
       have M35 := Lib.hid (And.intro m35 (And.intro i35_0 (And.intro i35_1 (And.intro i35_2 (And.intro i35_3 (i35_4))))))
       clear m35 i35_0 i35_1 i35_2 i35_3 i35_4
       obtain ⟨p0, p1, p2, p3, p4⟩ := M35.out.2.2.2.2.1.cells
       obtain ⟨x0, x1, x2, x3, x4⟩ := M35.out.2.1.cells
       obtain ⟨q0, q1, q2, q3, q4⟩ := M35.out.2.1.thaw
       have HTr := Lib.hid (TreeAt.mk (o := 12) (k := 0) (i := tl) (s := (decN 20 tm)) M35.out.2.2.2.2.2 (fine_s (by have := HNl.out; omega) (by omega)))
       have hnk : nB < w35.heap.size := by omega
       have hix : (acc.length : Int) < (acc.length : Int) + 1 := by omega
       have HP := Lib.hid (AccAt.push (R := R) (w := w35) M35.out.2.2.1.acc (TreeAt.keep (w' := w35) HTr.out (S' := fun k => (nB + 1 ≤ k ∧ k < w35.heap.size) ∧ (Value.slice A0 acc.length c0').ownBlock ≠ some k) (fun k hk => ⟨⟨by have := hk.1; omega, hk.2⟩, fun e => by have := (M35.out.2.2.1.2.1 k e).2; have := hk.1; omega⟩) (fun k hk => rfl)) (by omega) (by omega) 22 #[.int .i64 12, .string (bs (decN 20 tm)), .int .i64 0, .slice (some ⟨w32.heap.size, 0, none⟩) 1 1, .int .i64 tl] rfl)
       go_wp2_with (at_builtin; refine wl_app rfl _ _ 22 rfl _ (.slice (some ⟨w35.heap.size, 0, none⟩) 1 1) rfl rfl _ HP.out ?_; rintro u w36 ⟨hacc, hon, A36, c36, rfl⟩; have z36 := hon.size; have M36 := Lib.hid (And.intro (M35.out.1.push (B := nB + 1) M35.out.2.2.1.acc (by omega) hon) (And.intro (Bx.push M35.out.2.1 M35.out.2.2.1.acc (Nat.lt_succ_self nB) hon) hacc)); clear hacc hon x0 x1 x2 x3 x4 q0 q1 q2 q3 q4; obtain ⟨x0, x1, x2, x3, x4⟩ := M36.out.2.1.cells; obtain ⟨q0, q1, q2, q3, q4⟩ := M36.out.2.1.thaw)
       clear HP HTr
       have zn36 := heap_lt M36.out.2.1
       obtain ⟨w37, e37⟩ : ∃ W, w36.setCell ⟨nB, 3, none⟩ (.slice A36 (acc.length + 1) c36) = W := ⟨_, rfl⟩
       have m37 := M36.out.1.set (B := nB) (by omega) 3 (.slice A36 (acc.length + 1) c36)
       have i37_0 := M36.out.2.1.put3 (.slice A36 (acc.length + 1) c36)
       have i37_1 := M36.out.2.2.away (b := nB) (by omega) 3 (.slice A36 (acc.length + 1) c36)
       have z37 : w36.heap.size ≤ w37.heap.size := by rw [← e37]; simp
       rw [e37] at m37 i37_0 i37_1
       have M37 := Lib.hid (And.intro m37 (And.intro i37_0 (i37_1)))
       clear m37 i37_0 i37_1
       rw [e37]
       cases hq : isR L s2 [44] with
       | true =>
        have HQ0 := take_any [44] ⟨#[44]⟩ rfl w37 M37.out.1.rd
        unfold takeR at HQ0
        rw [hq] at HQ0
        have HQ := Lib.hid HQ0
        clear HQ0
        go_at_call 57
        refine (HQ.out).mono ?_
        rintro e w38 ⟨rfl, h38, f38⟩
        have h38 : RdAt w38 R A cp L (s2.next) := h38
        have z38 := f38.size
        have M38 := Lib.hid (And.intro (M37.out.1.call h38 f38) (And.intro (M37.out.2.1.fr f38 (by omega)) (M37.out.2.2.fr f38 (by omega))))
        clear h38 f38
        clear HQ
        go_wp2
        go_roundg G
        case rel =>
         refine ⟨acc ++ [.mk 12 (numR (tm : Int)) 0 tl [hd x]], _, A36, c36, Lib.hid ⟨by simpa [hq] using HN.out, by simp; omega, M38.out.1, ?_, ?_, by omega⟩⟩
         ·rw [List.length_append]; exact M38.out.2.1
         ·rw [List.length_append]; exact M38.out.2.2
        case measure => omega
       | false =>
        obtain ⟨rfl, rfl⟩ : [Tr.mk 11 [] 0 ln (acc ++ [.mk 12 (numR (tm : Int)) 0 tl [hd x]])] = l ∧ mustR L s2 [125] = st1 := by simpa [hq, one] using HN.out
        have HQ0 := take_any [44] ⟨#[44]⟩ rfl w37 M37.out.1.rd
        unfold takeR at HQ0
        rw [hq] at HQ0
        have HQ := Lib.hid HQ0
        clear HQ0
        go_at_call 57
        refine (HQ.out).mono ?_
        rintro e w38 ⟨rfl, h38, f38⟩
        have h38 : RdAt w38 R A cp L (s2) := h38
        have z38 := f38.size
        have M38 := Lib.hid (And.intro (M37.out.1.call h38 f38) (And.intro (M37.out.2.1.fr f38 (by omega)) (M37.out.2.2.fr f38 (by omega))))
        clear h38 f38
        clear HQ
        have HQ := Lib.hid (must_any [125] ⟨#[125]⟩ rfl w38 M38.out.1.rd)
        go_wp2_with fail
        go_at_call 89
        refine (HQ.out).mono ?_
        rintro e w39 ⟨rfl, h39, f39⟩
        have z39 := f39.size
        have M39 := Lib.hid (And.intro (M38.out.1.call h39 f39) (And.intro (M38.out.2.1.fr f39 (by omega)) (M38.out.2.2.fr f39 (by omega))))
        clear h39 f39
        clear HQ
        obtain ⟨x0, x1, x2, x3, x4⟩ := M39.out.2.1.cells
        obtain ⟨⟨y0, y1, y2, y3, y4⟩, g0, g1, g2, g3, g4⟩ := M39.out.1.facts
        go_wp2
        exact M39.out.1.gives' 2 (TreeAt.mk (o := 11) (k := 0) (i := ln) (s := []) (l := acc ++ [.mk 12 (numR (tm : Int)) 0 tl [hd x]]) (M39.out.2.2.af (b := w.heap.size) (by omega)) ⟨by simp, by omega, by omega⟩) rfl rfl rfl
      ·have dk3 : (kd == 3) = false := by simpa using k3
       have hf : ((kd == 1) = true ∧ ((bs ts).toList == [103, 101, 116]) = true ∧ kb = false) ∨ ((kd == 1) = true ∧ ((bs ts).toList == [103, 101, 116]) = false ∧ ((bs ts).toList == [115, 101, 116]) = true ∧ kb = false) ∨ ((kd == 1) = true ∧ ((bs ts).toList == [103, 101, 116]) = false ∧ ((bs ts).toList == [115, 101, 116]) = false) ∨ (kd == 1) = false := by
        rw [bs_eq, bs_eq]
        by_cases k1 : kd = 1
        ·by_cases s1 : ts = [103, 101, 116]
         ·exact .inl ⟨by simpa using k1, by simpa using s1, Bool.eq_false_iff.2 (fun h => hg ⟨k1, .inl s1, h⟩)⟩
         ·by_cases s2 : ts = [115, 101, 116]
          ·exact .inr (.inl ⟨by simpa using k1, by simpa using s1, by simpa using s2, Bool.eq_false_iff.2 (fun h => hg ⟨k1, .inr s2, h⟩)⟩)
          ·exact .inr (.inr (.inl ⟨by simpa using k1, by simpa using s1, by simpa using s2⟩))
        ·exact .inr (.inr (.inr (by simpa using k1)))
       have HN := Lib.hid (show (if isR L s2 [44] = true then run L G (.object ln (acc ++ [.mk 12 ts 0 tl [hd x]])) s2.next else one (.mk 11 [] 0 ln (acc ++ [.mk 12 ts 0 tl [hd x]])) (mustR L s2 [125])) = some (l, st1) by simpa [e1, k3] using hrun)
       clear hrun e1 hg k3
       rcases hf with ⟨dk1, q1, rfl⟩ | ⟨dk1, q1, q2, rfl⟩ | ⟨dk1, q1, q2⟩ | dk1
       all_goals
        have HQ0 := take_any [125] ⟨#[125]⟩ rfl W0 MR.out.1.rd
        unfold takeR at HQ0
        rw [hc] at HQ0
        have HQ := Lib.hid HQ0
        clear HQ0
        go_wp2_with fail
        go_at_call 57
        refine (HQ.out).mono ?_
        rintro e w21 ⟨rfl, h21, f21⟩
        have h21 : RdAt w21 R A cp L (s') := h21
        have z21 := f21.size
        have M21 := Lib.hid (And.intro (MR.out.1.call h21 f21) (And.intro (MR.out.2.1.fr f21 (by omega)) (MR.out.2.2.fr f21 (by omega))))
        clear h21 f21
        clear HQ
        have HQ0 := tok_any 0 w21 M21.out.1.rd (by omega)
        rw [ht] at HQ0
        unfold tokV at HQ0
        have HQ := Lib.hid HQ0
        clear HQ0
        go_wp2_with fail
        go_at_call 55
        refine (HQ.out).mono ?_
        rintro e w22 ⟨rfl, hb⟩
        have f22 := Fr.of_below (R := R) hb (Nat.le_refl _)
        have h22 := M21.out.1.rd.below hb M21.out.1.rd.lt
        have z22 := f22.size
        clear hb
        have M22 := Lib.hid (And.intro (M21.out.1.call h22 f22) (And.intro (M21.out.2.1.fr f22 (by omega)) (M21.out.2.2.fr f22 (by omega))))
        clear h22 f22
        clear HQ
        obtain ⟨w23, e23, m23, f23, b23, zq23⟩ := M22.out.1.tok_ kd ts tn tl nl
        have z23 : w22.heap.size < w23.heap.size := by omega
        clear zq23
        have M23 := Lib.hid (And.intro m23 (And.intro (M22.out.2.1.fr f23 (by omega)) (And.intro (M22.out.2.2.fr f23 (by omega)) (b23))))
        have hl23 := heap_lt b23
        clear m23 f23 b23
        obtain ⟨t0, t1, t2, t3, t4⟩ := (box_facts M23.out.2.2.2).1
        go_wp2_with fail
        go_at_call 115
        refine (HK.out _).mono ?_
        rintro e w24 ⟨rfl, hb⟩
        have f24 := Fr.of_below (R := R) hb (Nat.le_refl _)
        have h24 := M23.out.1.rd.below hb M23.out.1.rd.lt
        have z24 := f24.size
        clear hb
        have M24 := Lib.hid (And.intro (M23.out.1.call h24 f24) (And.intro (M23.out.2.1.fr f24 (by omega)) (And.intro (M23.out.2.2.1.fr f24 (by omega)) (blk_fr M23.out.2.2.2 f24 (by omega)))))
        clear h24 f24
        obtain ⟨t0, t1, t2, t3, t4⟩ := (box_facts M24.out.2.2.2).1
        obtain ⟨c0, c1, c2, c3⟩ := M24.out.1.rd.cells
        have fR1 := M24.out.1.rd.thaw 1
        have hw := wrap_next hps.out M24.out.1.rd.len
        obtain ⟨w25, e25, h25, f25⟩ := M24.out.1.next_ hps.out
        have z25 := f25.size
        have M25 := Lib.hid (And.intro (M24.out.1.call h25 f25) (And.intro (M24.out.2.1.fr f25 (by omega)) (And.intro (M24.out.2.2.1.fr f25 (by omega)) (blk_fr M24.out.2.2.2 f25 (by omega)))))
        clear h25 f25
        obtain ⟨t0, t1, t2, t3, t4⟩ := (box_facts M25.out.2.2.2).1
        have HQ0 := tok_any 0 w25 M25.out.1.rd (by omega)
        rw [ht2] at HQ0
        unfold tokV at HQ0
        have HQ := Lib.hid HQ0
        clear HQ0
        go_wp2_with fail
        go_at_call 55
        refine (HQ.out).mono ?_
        rintro e w26 ⟨rfl, hb⟩
        have f26 := Fr.of_below (R := R) hb (Nat.le_refl _)
        have h26 := M25.out.1.rd.below hb M25.out.1.rd.lt
        have z26 := f26.size
        clear hb
        have M26 := Lib.hid (And.intro (M25.out.1.call h26 f26) (And.intro (M25.out.2.1.fr f26 (by omega)) (And.intro (M25.out.2.2.1.fr f26 (by omega)) (blk_fr M25.out.2.2.2 f26 (by omega)))))
        clear h26 f26
        clear HQ
        go_wp2_with fail
        go_at_call 115
        refine (HK2.out _).mono ?_
        rintro e w27 ⟨rfl, hb⟩
        have f27 := Fr.of_below (R := R) hb (Nat.le_refl _)
        have h27 := M26.out.1.rd.below hb M26.out.1.rd.lt
        have z27 := f27.size
        clear hb
        have M27 := Lib.hid (And.intro (M26.out.1.call h27 f27) (And.intro (M26.out.2.1.fr f27 (by omega)) (And.intro (M26.out.2.2.1.fr f27 (by omega)) (blk_fr M26.out.2.2.2 f27 (by omega)))))
        clear h27 f27
        obtain ⟨t0, t1, t2, t3, t4⟩ := (box_facts M27.out.2.2.2).1
        obtain ⟨w28, e28, m28, f28, b28, zq28⟩ := M27.out.1.box_ (.int .i64 12) (.string (bs ts)) (.int .i64 0) (.slice none 0 0) (.int .i64 tl)
        have z28 : w27.heap.size < w28.heap.size := by omega
        clear zq28
        have M28 := Lib.hid (And.intro m28 (And.intro (M27.out.2.1.fr f28 (by omega)) (And.intro ((AccAt.u M27.out.2.2.1).fr f28 (by omega)) (And.intro (blk_fr M27.out.2.2.2 f28 (by omega)) (b28)))))
        clear m28 f28 b28
        obtain ⟨t0, t1, t2, t3, t4⟩ := (box_facts M28.out.2.2.2.1).1
        obtain ⟨p0, p1, p2, p3, p4⟩ := M28.out.2.2.2.2.cells
        obtain ⟨pq0, pq1, pq2, pq3, pq4⟩ := M28.out.2.2.2.2.thaw
        have HQ := Lib.hid (must_any [58] ⟨#[58]⟩ rfl w28 M28.out.1.rd)
        go_wp2_with fail
        go_at_call 89
        refine (HQ.out).mono ?_
        rintro e w29 ⟨rfl, h29, f29⟩
        have z29 := f29.size
        have M29 := Lib.hid (And.intro (M28.out.1.call h29 f29) (And.intro (M28.out.2.1.fr f29 (by omega)) (And.intro (M28.out.2.2.1.fr f29 (by omega)) (And.intro (blk_fr M28.out.2.2.2.1 f29 (by omega)) (M28.out.2.2.2.2.fr f29 (by omega))))))
        clear h29 f29
        clear HQ
        go_wp2_with fail
        go_at_call 74
        refine (H1.out w29 M29.out.1.rd).mono ?_
        rintro e w30 ⟨v30, rfl, h30, f30, t30⟩
        obtain ⟨A30, c30, rfl, -, -⟩ := t30.form
        have z30 := f30.size
        have M30 := Lib.hid (And.intro (M29.out.1.call h30 f30) (And.intro (M29.out.2.1.fr f30 (by omega)) (And.intro (M29.out.2.2.1.fr f30 (by omega)) (And.intro (blk_fr M29.out.2.2.2.1 f30 (by omega)) (And.intro (M29.out.2.2.2.2.fr f30 (by omega)) (t30.af (B := w27.heap.size) (by omega)))))))
        clear h30 f30 t30
        obtain ⟨w31, e31, m31, f31, b31, zq31⟩ := M30.out.1.arr #[.int .i64 (hd x).op, .string (bs (hd x).s), .int .i64 (hd x).n, .slice A30 (hd x).l.length c30, .int .i64 (hd x).line]
        have z31 : w30.heap.size < w31.heap.size := by omega
        clear zq31
        have M31 := Lib.hid (And.intro m31 (And.intro (M30.out.2.1.fr f31 (by omega)) (And.intro (M30.out.2.2.1.fr f31 (by omega)) (And.intro (blk_fr M30.out.2.2.2.1 f31 (by omega)) (And.intro (M30.out.2.2.2.2.1.fr f31 (by omega)) (And.intro (M30.out.2.2.2.2.2.up f31 (by omega)) (b31)))))))
        clear m31 f31 b31
        have r32 := RowAt.one M31.out.2.2.2.2.2.1 M31.out.2.2.2.2.2.2 rfl (show Af w27.heap.size w31 w30.heap.size from ⟨by omega, by omega⟩)
        have M32 := Lib.hid (And.intro M31.out.1 (And.intro M31.out.2.1 (And.intro M31.out.2.2.1 (And.intro M31.out.2.2.2.1 (And.intro M31.out.2.2.2.2.1 (r32))))))
        clear r32
        obtain ⟨p0, p1, p2, p3, p4⟩ := M32.out.2.2.2.2.1.cells
        obtain ⟨pq0, pq1, pq2, pq3, pq4⟩ := M32.out.2.2.2.2.1.thaw
        obtain ⟨w33, e33⟩ : ∃ W, w31.setCell ⟨w27.heap.size, 3, none⟩ (.slice (some ⟨w30.heap.size, 0, none⟩) 1 1) = W := ⟨_, rfl⟩
        have m33 := M32.out.1.set (B := w27.heap.size) (by omega) 3 (.slice (some ⟨w30.heap.size, 0, none⟩) 1 1)
        have i33_0 := M32.out.2.1.away (B' := w27.heap.size) (by omega) 3 (.slice (some ⟨w30.heap.size, 0, none⟩) 1 1)
        have i33_1 := M32.out.2.2.1.hi (B' := w27.heap.size) (by omega) 3 (.slice (some ⟨w30.heap.size, 0, none⟩) 1 1)
        have i33_2 := blk_away (B' := w27.heap.size) M32.out.2.2.2.1 (by omega) 3 (.slice (some ⟨w30.heap.size, 0, none⟩) 1 1)
        have i33_3 := M32.out.2.2.2.2.1.put3 (.slice (some ⟨w30.heap.size, 0, none⟩) 1 1)
        have i33_4 := M32.out.2.2.2.2.2.set 3 (.slice (some ⟨w30.heap.size, 0, none⟩) 1 1)
        have z33 : w31.heap.size ≤ w33.heap.size := by rw [← e33]; simp
        rw [e33] at m33 i33_0 i33_1 i33_2 i33_3 i33_4
        have M33 := Lib.hid (And.intro m33 (And.intro i33_0 (And.intro i33_1 (And.intro i33_2 (And.intro i33_3 (i33_4))))))
        clear m33 i33_0 i33_1 i33_2 i33_3 i33_4
        obtain ⟨p0, p1, p2, p3, p4⟩ := M33.out.2.2.2.2.1.cells
        obtain ⟨x0, x1, x2, x3, x4⟩ := M33.out.2.1.cells
        obtain ⟨q0, q1, q2, q3, q4⟩ := M33.out.2.1.thaw
        have HTr := Lib.hid (TreeAt.mk (o := 12) (k := 0) (i := tl) (s := ts) M33.out.2.2.2.2.2 (fine_s htl.1 (by omega)))
        have hnk : nB < w33.heap.size := by omega
        have hix : (acc.length : Int) < (acc.length : Int) + 1 := by omega
        have HP := Lib.hid (AccAt.push (R := R) (w := w33) M33.out.2.2.1.acc (TreeAt.keep (w' := w33) HTr.out (S' := fun k => (nB + 1 ≤ k ∧ k < w33.heap.size) ∧ (Value.slice A0 acc.length c0').ownBlock ≠ some k) (fun k hk => ⟨⟨by have := hk.1; omega, hk.2⟩, fun e => by have := (M33.out.2.2.1.2.1 k e).2; have := hk.1; omega⟩) (fun k hk => rfl)) (by omega) (by omega) 22 #[.int .i64 12, .string (bs ts), .int .i64 0, .slice (some ⟨w30.heap.size, 0, none⟩) 1 1, .int .i64 tl] rfl)
        go_wp2_with (at_builtin; refine wl_app rfl _ _ 22 rfl _ (.slice (some ⟨w33.heap.size, 0, none⟩) 1 1) rfl rfl _ HP.out ?_; rintro u w34 ⟨hacc, hon, A34, c34, rfl⟩; have z34 := hon.size; have M34 := Lib.hid (And.intro (M33.out.1.push (B := nB + 1) M33.out.2.2.1.acc (by omega) hon) (And.intro (Bx.push M33.out.2.1 M33.out.2.2.1.acc (Nat.lt_succ_self nB) hon) hacc)); clear hacc hon x0 x1 x2 x3 x4 q0 q1 q2 q3 q4; obtain ⟨x0, x1, x2, x3, x4⟩ := M34.out.2.1.cells; obtain ⟨q0, q1, q2, q3, q4⟩ := M34.out.2.1.thaw)
        clear HP HTr
        have zn34 := heap_lt M34.out.2.1
        obtain ⟨w35, e35⟩ : ∃ W, w34.setCell ⟨nB, 3, none⟩ (.slice A34 (acc.length + 1) c34) = W := ⟨_, rfl⟩
        have m35 := M34.out.1.set (B := nB) (by omega) 3 (.slice A34 (acc.length + 1) c34)
        have i35_0 := M34.out.2.1.put3 (.slice A34 (acc.length + 1) c34)
        have i35_1 := M34.out.2.2.away (b := nB) (by omega) 3 (.slice A34 (acc.length + 1) c34)
        have z35 : w34.heap.size ≤ w35.heap.size := by rw [← e35]; simp
        rw [e35] at m35 i35_0 i35_1
        have M35 := Lib.hid (And.intro m35 (And.intro i35_0 (i35_1)))
        clear m35 i35_0 i35_1
        rw [e35]
        cases hq : isR L s2 [44] with
        | true =>
         have HQ0 := take_any [44] ⟨#[44]⟩ rfl w35 M35.out.1.rd
         unfold takeR at HQ0
         rw [hq] at HQ0
         have HQ := Lib.hid HQ0
         clear HQ0
         go_at_call 57
         refine (HQ.out).mono ?_
         rintro e w36 ⟨rfl, h36, f36⟩
         have h36 : RdAt w36 R A cp L (s2.next) := h36
         have z36 := f36.size
         have M36 := Lib.hid (And.intro (M35.out.1.call h36 f36) (And.intro (M35.out.2.1.fr f36 (by omega)) (M35.out.2.2.fr f36 (by omega))))
         clear h36 f36
         clear HQ
         go_wp2
         go_roundg G
         case rel =>
          refine ⟨acc ++ [.mk 12 ts 0 tl [hd x]], _, A34, c34, Lib.hid ⟨by simpa [hq] using HN.out, by simp; omega, M36.out.1, ?_, ?_, by omega⟩⟩
          ·rw [List.length_append]; exact M36.out.2.1
          ·rw [List.length_append]; exact M36.out.2.2
         case measure => omega
        | false =>
         obtain ⟨rfl, rfl⟩ : [Tr.mk 11 [] 0 ln (acc ++ [.mk 12 ts 0 tl [hd x]])] = l ∧ mustR L s2 [125] = st1 := by simpa [hq, one] using HN.out
         have HQ0 := take_any [44] ⟨#[44]⟩ rfl w35 M35.out.1.rd
         unfold takeR at HQ0
         rw [hq] at HQ0
         have HQ := Lib.hid HQ0
         clear HQ0
         go_at_call 57
         refine (HQ.out).mono ?_
         rintro e w36 ⟨rfl, h36, f36⟩
         have h36 : RdAt w36 R A cp L (s2) := h36
         have z36 := f36.size
         have M36 := Lib.hid (And.intro (M35.out.1.call h36 f36) (And.intro (M35.out.2.1.fr f36 (by omega)) (M35.out.2.2.fr f36 (by omega))))
         clear h36 f36
         clear HQ
         have HQ := Lib.hid (must_any [125] ⟨#[125]⟩ rfl w36 M36.out.1.rd)
         go_wp2_with fail
         go_at_call 89
         refine (HQ.out).mono ?_
         rintro e w37 ⟨rfl, h37, f37⟩
         have z37 := f37.size
         have M37 := Lib.hid (And.intro (M36.out.1.call h37 f37) (And.intro (M36.out.2.1.fr f37 (by omega)) (M36.out.2.2.fr f37 (by omega))))
         clear h37 f37
         clear HQ
         obtain ⟨x0, x1, x2, x3, x4⟩ := M37.out.2.1.cells
         obtain ⟨⟨y0, y1, y2, y3, y4⟩, g0, g1, g2, g3, g4⟩ := M37.out.1.facts
         go_wp2
         exact M37.out.1.gives' 2 (TreeAt.mk (o := 11) (k := 0) (i := ln) (s := []) (l := acc ++ [.mk 12 ts 0 tl [hd x]]) (M37.out.2.2.af (b := w.heap.size) (by omega)) ⟨by simp, by omega, by omega⟩) rfl rfl rfl
  ·obtain ⟨rfl, rfl⟩ : [Tr.mk 11 [] 0 ln acc] = l ∧ s' = st1 := by simpa [he, one] using hrun
   have d1 : (s'.e == 0) = false := by simpa using he
   clear hrun
   obtain ⟨x0, x1, x2, x3, x4⟩ := MR.out.2.1.cells
   obtain ⟨⟨y0, y1, y2, y3, y4⟩, g0, g1, g2, g3, g4⟩ := MR.out.1.facts
   go_wp2
   exact MR.out.1.gives' 2 (TreeAt.mk (o := 11) (k := 0) (i := ln) (s := []) (MR.out.2.2.af (b := w.heap.size) (by omega)) ⟨by simp, by omega, by omega⟩) rfl rfl rfl
end
end
end Go.Proofs.Ytejbdoiamhfbjaa
