/- The document's reader: parts. -/
import Derived.Deep.RegionLaw
import Derived.Deep.RegionHeldLaw
import Derived.Deep.LoopGhost
import Derived.Test.YtejbdoiamhfbjaaPm25
import Derived.Test.YtejbdoiamhfbjaaPm26
set_option linter.unusedSimpArgs false
set_option linter.unusedVariables false
set_option maxRecDepth 100000
set_option maxHeartbeats 4000000
namespace Go.Proofs.Ytejbdoiamhfbjaa
section
open Go.RowKit Go.Proofs
section
variable {R cp : Nat} {A : Option Addr} {L : List Tok} {st : St} {F : Nat}
theorem parts_ok (ihs : ∀ F', F' ≤ F → All R A cp L F') (hF : F ≤ 2000000) (x0 : Tr) (calls : Bool) (l : List Tr) (st1 : St) (hr : run L (F + 1) (.parts x0 calls) st = some (l, st1)) : Spec R A cp L (.parts x0 calls) st l st1 := by
 intro w S v h hx hS
 have hR := h.lt
 have HS := Lib.hid hS
 obtain ⟨A0, c0', rfl, -, -⟩ := hx.form
 obtain ⟨W1, eW1⟩ : ∃ W, w.alloc (.cells #[.int .i64 x0.op, .string (bs x0.s), .int .i64 x0.n, .slice A0 x0.l.length c0', .int .i64 x0.line] 24) = W := ⟨_, rfl⟩
 obtain ⟨W2, eW2⟩ : ∃ W, W1.alloc (.cells #[.int .i64 0, .string ⟨#[]⟩, .int .i64 0, .slice none 0 0, .int .i64 0] 24) = W := ⟨_, rfl⟩
 have hz1 : W1.heap.size = w.heap.size + 1 := by rw [← eW1]; simp
 have f1 : Fr R w W1 := by rw [← eW1]; exact Only.alloc _ _
 have f2 : Fr R W1 W2 := by rw [← eW2]; exact Only.alloc _ _
 have b1 : Bx W1 w.heap.size (.int .i64 x0.op) (.string (bs x0.s)) (.int .i64 x0.n) (.slice A0 x0.l.length c0') (.int .i64 x0.line) := by rw [← eW1]; exact heap_alloc_new _ _
 have m2 : MidP R A cp L w W2 st := ⟨by rw [← eW2, ← eW1]; exact (h.alloc _).alloc _, f1.trans' f2, by rw [← hz1, ← eW2]; exact heap_alloc_new _ _, hR⟩
 have HI := Lib.hid (And.intro m2 (And.intro (b1.fr f2 hR) (show TreeAt W2 (AfS S w W2) x0 _ from hx.fr (f1.trans' f2) (fun k hk => .inl hk) (fun k hk => hS k hk))))
 have HR0 := Lib.hid hr
 clear h hx hS hr m2 b1 f1 f2
 have hz1' : w.heap.size < W1.heap.size := by omega
 go_enter Try.func110, Try.ntmps110
 go_wp2
 go_loopg [] (F + 1) (fun gn wr => ∃ (x : Tr) (s' : St) (Ax : Option Addr) (cx : Nat), RowKit.Hid (run L gn (.parts x calls) s' = some (l, st1) ∧ gn ≤ F + 1 ∧ MidP R A cp L w wr s' ∧ Bx wr w.heap.size (.int .i64 x.op) (.string (bs x.s)) (.int .i64 x.n) (.slice Ax x.l.length cx) (.int .i64 x.line) ∧ TreeAt wr (AfS S w wr) x (.agg #[.int .i64 x.op, .string (bs x.s), .int .i64 x.n, .slice Ax x.l.length cx, .int .i64 x.line])))
 case atStart => exact ⟨x0, st, A0, c0', Lib.hid ⟨HR0.out, Nat.le_refl _, HI.out.1, HI.out.2.1, HI.out.2.2⟩⟩
 case round =>
  obtain ⟨x, s', Ax, cx, HH⟩ := hrel
  obtain ⟨hrun, hgn, hm, hbx, htx⟩ := HH.out
  obtain ⟨W0, hW0⟩ : ∃ x, x = wr := ⟨_, rfl⟩
  subst hW0
  have hz2 := hm.gt
  obtain ⟨c0, c1, c2, c3⟩ := hm.rd.cells
  have MR := Lib.hid (And.intro hm (And.intro hbx htx))
  clear HH hm hbx htx HR0 HI
  cases gk with
  | zero => simp [run] at hrun
  | succ G =>
  rw [run] at hrun
  by_cases he : s'.e = 0
  ·rw [he] at c2
   have d1 : (s'.e == 0) = true := by simpa using he
   rw [if_pos he] at hrun
   have HE := Lib.hid he
   clear he
   cases hd_ : isR L s' [46] with
   | true =>
    rw [if_pos hd_] at hrun
    dsimp only at hrun
    cases ht : tokR L s'.next 0 with | mk kd ts tn ln nl =>
    rw [ht] at hrun
    dsimp only at hrun
    have HQ0 := take_any [46] ⟨#[46]⟩ rfl W0 MR.out.1.rd
    unfold takeR at HQ0
    rw [hd_] at HQ0
    have HQ := Lib.hid HQ0
    clear HQ0
    go_wp2_with fail
    go_at_call 57
    refine (HQ.out).mono ?_
    rintro e w4 ⟨rfl, h4, f4⟩
    have h4 : RdAt w4 R A cp L (s'.next) := h4
    have z4 := f4.size
    have M4 := Lib.hid (And.intro (MR.out.1.call h4 f4) (And.intro (MR.out.2.1.fr f4 (by omega)) (MR.out.2.2.ups f4 HS.out hR (by omega))))
    clear h4 f4
    clear HQ
    have HQ0 := tok_any 0 w4 M4.out.1.rd (by omega)
    rw [ht] at HQ0
    unfold tokV at HQ0
    have HQ := Lib.hid HQ0
    clear HQ0
    go_wp2_with fail
    go_at_call 55
    refine (HQ.out).mono ?_
    rintro e w5 ⟨rfl, hb⟩
    have f5 := Fr.of_below (R := R) hb (Nat.le_refl _)
    have h5 := M4.out.1.rd.below hb M4.out.1.rd.lt
    have z5 := f5.size
    clear hb
    have M5 := Lib.hid (And.intro (M4.out.1.call h5 f5) (And.intro (M4.out.2.1.fr f5 (by omega)) (M4.out.2.2.ups f5 HS.out hR (by omega))))
    clear h5 f5
    clear HQ
    obtain ⟨w6, e6, m6, f6, b6, zq6⟩ := M5.out.1.tok_ kd ts tn ln nl
    have z6 : w5.heap.size < w6.heap.size := by omega
    clear zq6
    have M6 := Lib.hid (And.intro m6 (And.intro (M5.out.2.1.fr f6 (by omega)) (And.intro (M5.out.2.2.ups f6 HS.out hR (by omega)) (b6))))
    have hl6 := heap_lt b6
    clear m6 f6 b6
    obtain ⟨t0, t1, t2, t3, t4⟩ := (box_facts M6.out.2.2.2).1
    by_cases hk : kd ≠ 1 ∧ kd ≠ 2
    ·rw [if_pos hk] at hrun
     obtain ⟨rfl, rfl⟩ : [Tr.zero] = l ∧ stopR L s'.next false = st1 := by simpa [one] using hrun
     have d5 : (kd != 1) = true := by simpa using hk.1
     have d6 : (kd != 2) = true := by simpa using hk.2
     clear hrun hk
     have HQ := Lib.hid (stop_any false w6 M6.out.1.rd)
     go_wp2_with fail
     go_at_call 45
     refine (HQ.out).mono ?_
     rintro e w7 ⟨rfl, h7, f7⟩
     have z7 := f7.size
     have M7 := Lib.hid (And.intro (M6.out.1.call h7 f7) (And.intro (M6.out.2.1.fr f7 (by omega)) (And.intro (M6.out.2.2.1.ups f7 HS.out hR (by omega)) (blk_fr M6.out.2.2.2 f7 (by omega)))))
     clear h7 f7
     clear HQ
     obtain ⟨⟨y0, y1, y2, y3, y4⟩, g0, g1, g2, g3, g4⟩ := M7.out.1.facts
     go_wp2
     exact M7.out.1.gives 6 HS.out (TreeAt.zero _ _) rfl rfl rfl
    ·rw [if_neg hk] at hrun
     have HN := Lib.hid hrun
     have hk0 : kd ≠ 0 := fun h => hk (by rw [h]; exact ⟨by decide, by decide⟩)
     have hps := Lib.hid (tok_pos M6.out.1.rd ht hk0)
     have htl := tok_len M6.out.1.rd ht
     clear hrun hk0
     by_cases hk1 : kd = 1
     ·subst hk1
      clear hk
      obtain ⟨t0, t1, t2, t3, t4⟩ := (box_facts M6.out.2.2.2).1
      obtain ⟨c0, c1, c2, c3⟩ := M6.out.1.rd.cells
      have fR1 := M6.out.1.rd.thaw 1
      have hw := wrap_next hps.out M6.out.1.rd.len
      obtain ⟨w7, e7, h7, f7⟩ := M6.out.1.next_ hps.out
      have z7 := f7.size
      have M7 := Lib.hid (And.intro (M6.out.1.call h7 f7) (And.intro (M6.out.2.1.fr f7 (by omega)) (And.intro (M6.out.2.2.1.ups f7 HS.out hR (by omega)) (blk_fr M6.out.2.2.2 f7 (by omega)))))
      clear h7 f7
      obtain ⟨t0, t1, t2, t3, t4⟩ := (box_facts M7.out.2.2.2).1
      obtain ⟨x0, x1, x2, x3, x4⟩ := M7.out.2.1.cells
      obtain ⟨q0, q1, q2, q3, q4⟩ := M7.out.2.1.thaw
      obtain ⟨w8, e8, m8, f8, b8, zq8⟩ := M7.out.1.arr #[.int .i64 x.op, .string (bs x.s), .int .i64 x.n, .slice Ax x.l.length cx, .int .i64 x.line]
      have z8 : w7.heap.size < w8.heap.size := by omega
      clear zq8
      have tr := TreeAt.mk (o := 13) (k := 0) (i := x.line) (s := ts) (RowAt.one ((M7.out.2.2.1.ups f8 HS.out hR (by omega))) b8 rfl (show AfS S w w8 w7.heap.size from .inr ⟨by omega, by omega⟩)) (fine_s htl.1 (by omega))
      have bx := (M7.out.2.1.fr f8 (by omega))
      obtain ⟨x0, x1, x2, x3, x4⟩ := bx.cells
      obtain ⟨q0, q1, q2, q3, q4⟩ := bx.thaw
      have MF := Lib.hid (And.intro (m8.putAll (B := w.heap.size) (Nat.le_refl _) (by omega) (.int .i64 13) (.string (bs ts)) (.int .i64 0) (.slice (some ⟨w7.heap.size, 0, none⟩) 1 1) (.int .i64 x.line)) (And.intro (bx.put5 (.int .i64 13) (.string (bs ts)) (.int .i64 0) (.slice (some ⟨w7.heap.size, 0, none⟩) 1 1) (.int .i64 x.line)) (tr.put5s HS.out (.int .i64 13) (.string (bs ts)) (.int .i64 0) (.slice (some ⟨w7.heap.size, 0, none⟩) 1 1) (.int .i64 x.line))))
      clear m8 f8 b8 tr bx
      go_wp2
      go_roundg G
      case rel => exact ⟨.mk 13 ts 0 x.line [x], _, some ⟨w7.heap.size, 0, none⟩, 1, Lib.hid ⟨HN.out, by omega, MF.out.1, MF.out.2.1, MF.out.2.2⟩⟩
      case measure => omega
     ·have d5 : (kd != 1) = true := by simpa using hk1
      have hk2 : kd = 2 := Classical.byContradiction fun h => hk ⟨hk1, h⟩
      subst hk2
      clear hk hk1
      obtain ⟨t0, t1, t2, t3, t4⟩ := (box_facts M6.out.2.2.2).1
      obtain ⟨c0, c1, c2, c3⟩ := M6.out.1.rd.cells
      have fR1 := M6.out.1.rd.thaw 1
      have hw := wrap_next hps.out M6.out.1.rd.len
      obtain ⟨w7, e7, h7, f7⟩ := M6.out.1.next_ hps.out
      have z7 := f7.size
      have M7 := Lib.hid (And.intro (M6.out.1.call h7 f7) (And.intro (M6.out.2.1.fr f7 (by omega)) (And.intro (M6.out.2.2.1.ups f7 HS.out hR (by omega)) (blk_fr M6.out.2.2.2 f7 (by omega)))))
      clear h7 f7
      obtain ⟨t0, t1, t2, t3, t4⟩ := (box_facts M7.out.2.2.2).1
      obtain ⟨x0, x1, x2, x3, x4⟩ := M7.out.2.1.cells
      obtain ⟨q0, q1, q2, q3, q4⟩ := M7.out.2.1.thaw
      obtain ⟨w8, e8, m8, f8, b8, zq8⟩ := M7.out.1.arr #[.int .i64 x.op, .string (bs x.s), .int .i64 x.n, .slice Ax x.l.length cx, .int .i64 x.line]
      have z8 : w7.heap.size < w8.heap.size := by omega
      clear zq8
      have tr := TreeAt.mk (o := 13) (k := 0) (i := x.line) (s := ts) (RowAt.one ((M7.out.2.2.1.ups f8 HS.out hR (by omega))) b8 rfl (show AfS S w w8 w7.heap.size from .inr ⟨by omega, by omega⟩)) (fine_s htl.1 (by omega))
      have bx := (M7.out.2.1.fr f8 (by omega))
      obtain ⟨x0, x1, x2, x3, x4⟩ := bx.cells
      obtain ⟨q0, q1, q2, q3, q4⟩ := bx.thaw
      have MF := Lib.hid (And.intro (m8.putAll (B := w.heap.size) (Nat.le_refl _) (by omega) (.int .i64 13) (.string (bs ts)) (.int .i64 0) (.slice (some ⟨w7.heap.size, 0, none⟩) 1 1) (.int .i64 x.line)) (And.intro (bx.put5 (.int .i64 13) (.string (bs ts)) (.int .i64 0) (.slice (some ⟨w7.heap.size, 0, none⟩) 1 1) (.int .i64 x.line)) (tr.put5s HS.out (.int .i64 13) (.string (bs ts)) (.int .i64 0) (.slice (some ⟨w7.heap.size, 0, none⟩) 1 1) (.int .i64 x.line))))
      clear m8 f8 b8 tr bx
      go_wp2
      go_roundg G
      case rel => exact ⟨.mk 13 ts 0 x.line [x], _, some ⟨w7.heap.size, 0, none⟩, 1, Lib.hid ⟨HN.out, by omega, MF.out.1, MF.out.2.1, MF.out.2.2⟩⟩
      case measure => omega
   | false =>
    rw [if_neg (show ¬ isR L s' [46] = true by rw [hd_]; decide)] at hrun
    cases hb_ : isR L s' [91] with
    | true =>
     rw [if_pos hb_] at hrun
     cases e1 : run L G .expr s'.next with
     | none => rw [e1] at hrun; cases hrun
     | some k =>
     obtain ⟨k, s2⟩ := k
     rw [e1] at hrun
     have HN := Lib.hid (show run L G (.parts (.mk 14 [] 0 x.line [x, hd k]) calls) (mustR L s2 [93]) = some (l, st1) from hrun)
     have H1 := Lib.hid (ihs G (by omega) .expr _ _ _ e1)
     clear hrun e1
     have HQ0 := take_any [46] ⟨#[46]⟩ rfl W0 MR.out.1.rd
     unfold takeR at HQ0
     rw [hd_] at HQ0
     have HQ := Lib.hid HQ0
     clear HQ0
     go_wp2_with fail
     go_at_call 57
     refine (HQ.out).mono ?_
     rintro e w4 ⟨rfl, h4, f4⟩
     have h4 : RdAt w4 R A cp L (s') := h4
     have z4 := f4.size
     have M4 := Lib.hid (And.intro (MR.out.1.call h4 f4) (And.intro (MR.out.2.1.fr f4 (by omega)) (MR.out.2.2.ups f4 HS.out hR (by omega))))
     clear h4 f4
     clear HQ
     have HQ0 := take_any [91] ⟨#[91]⟩ rfl w4 M4.out.1.rd
     unfold takeR at HQ0
     rw [hb_] at HQ0
     have HQ := Lib.hid HQ0
     clear HQ0
     go_wp2_with fail
     go_at_call 57
     refine (HQ.out).mono ?_
     rintro e w5 ⟨rfl, h5, f5⟩
     have h5 : RdAt w5 R A cp L (s'.next) := h5
     have z5 := f5.size
     have M5 := Lib.hid (And.intro (M4.out.1.call h5 f5) (And.intro (M4.out.2.1.fr f5 (by omega)) (M4.out.2.2.ups f5 HS.out hR (by omega))))
     clear h5 f5
     clear HQ
     go_wp2_with fail
     go_at_call 74
     refine (H1.out w5 M5.out.1.rd).mono ?_
     rintro e w6 ⟨v6, rfl, h6, f6, t6⟩
     obtain ⟨A6, c6, rfl, -, -⟩ := t6.form
     have z6 := f6.size
     obtain ⟨w7, e7, m7, f7, b7, zq7⟩ := (M5.out.1.call h6 f6).box_ (.int .i64 (hd k).op) (.string (bs (hd k).s)) (.int .i64 (hd k).n) (.slice A6 (hd k).l.length c6) (.int .i64 (hd k).line)
     have z7 : w6.heap.size < w7.heap.size := by omega
     clear zq7
     have M7 := Lib.hid (And.intro m7 (And.intro ((M5.out.2.1.fr f6 (by omega)).fr f7 (by omega)) (And.intro ((M5.out.2.2.ups f6 HS.out hR (by omega)).ups f7 HS.out hR (by omega)) (And.intro ((TreeAt.s_new (w := w) (S := S) t6 (by omega)).ups f7 HS.out hR (by omega)) (b7)))))
     clear h6 f6 t6 m7 f7 b7
     have HQ := Lib.hid (must_any [93] ⟨#[93]⟩ rfl w7 M7.out.1.rd)
     go_wp2_with fail
     go_at_call 89
     refine (HQ.out).mono ?_
     rintro e w8 ⟨rfl, h8, f8⟩
     have z8 := f8.size
     have M8 := Lib.hid (And.intro (M7.out.1.call h8 f8) (And.intro (M7.out.2.1.fr f8 (by omega)) (And.intro (M7.out.2.2.1.ups f8 HS.out hR (by omega)) (And.intro (M7.out.2.2.2.1.ups f8 HS.out hR (by omega)) (M7.out.2.2.2.2.fr f8 (by omega))))))
     clear h8 f8
     clear HQ
     obtain ⟨p0, p1, p2, p3, p4⟩ := M8.out.2.2.2.2.cells
     obtain ⟨x0, x1, x2, x3, x4⟩ := M8.out.2.1.cells
     obtain ⟨q0, q1, q2, q3, q4⟩ := M8.out.2.1.thaw
     obtain ⟨w9, e9, m9, f9, b9, zq9⟩ := M8.out.1.arr #[.int .i64 x.op, .string (bs x.s), .int .i64 x.n, .slice Ax x.l.length cx, .int .i64 x.line, .int .i64 (hd k).op, .string (bs (hd k).s), .int .i64 (hd k).n, .slice A6 (hd k).l.length c6, .int .i64 (hd k).line]
     have z9 : w8.heap.size < w9.heap.size := by omega
     clear zq9
     have tr := TreeAt.mk (o := 14) (k := 0) (i := x.line) (s := []) (RowAt.two ((M8.out.2.2.1.ups f9 HS.out hR (by omega))) ((M8.out.2.2.2.1.ups f9 HS.out hR (by omega))) b9 rfl (show AfS S w w9 w8.heap.size from .inr ⟨by omega, by omega⟩)) ⟨by simp, by omega, by omega⟩
     have bx := (M8.out.2.1.fr f9 (by omega))
     obtain ⟨x0, x1, x2, x3, x4⟩ := bx.cells
     obtain ⟨q0, q1, q2, q3, q4⟩ := bx.thaw
     have MF := Lib.hid (And.intro (m9.putAll (B := w.heap.size) (Nat.le_refl _) (by omega) (.int .i64 14) (.string ⟨#[]⟩) (.int .i64 0) (.slice (some ⟨w8.heap.size, 0, none⟩) 2 2) (.int .i64 x.line)) (And.intro (bx.put5 (.int .i64 14) (.string ⟨#[]⟩) (.int .i64 0) (.slice (some ⟨w8.heap.size, 0, none⟩) 2 2) (.int .i64 x.line)) (tr.put5s HS.out (.int .i64 14) (.string ⟨#[]⟩) (.int .i64 0) (.slice (some ⟨w8.heap.size, 0, none⟩) 2 2) (.int .i64 x.line))))
     clear m9 f9 b9 tr bx
     go_wp2
     go_roundg G
     case rel => exact ⟨.mk 14 [] 0 x.line [x, hd k], _, some ⟨w8.heap.size, 0, none⟩, 2, Lib.hid ⟨HN.out, by omega, MF.out.1, MF.out.2.1, MF.out.2.2⟩⟩
     case measure => omega
    | false =>
     rw [if_neg (show ¬ isR L s' [91] = true by rw [hb_]; decide)] at hrun
     cases calls with
     | false =>
      obtain ⟨rfl, rfl⟩ : [x] = l ∧ s' = st1 := by simpa [one] using hrun
      clear hrun
      have HQ0 := take_any [46] ⟨#[46]⟩ rfl W0 MR.out.1.rd
      unfold takeR at HQ0
      rw [hd_] at HQ0
      have HQ := Lib.hid HQ0
      clear HQ0
      go_wp2_with fail
      go_at_call 57
      refine (HQ.out).mono ?_
      rintro e w4 ⟨rfl, h4, f4⟩
      have h4 : RdAt w4 R A cp L (s') := h4
      have z4 := f4.size
      have M4 := Lib.hid (And.intro (MR.out.1.call h4 f4) (And.intro (MR.out.2.1.fr f4 (by omega)) (MR.out.2.2.ups f4 HS.out hR (by omega))))
      clear h4 f4
      clear HQ
      have HQ0 := take_any [91] ⟨#[91]⟩ rfl w4 M4.out.1.rd
      unfold takeR at HQ0
      rw [hb_] at HQ0
      have HQ := Lib.hid HQ0
      clear HQ0
      go_wp2_with fail
      go_at_call 57
      refine (HQ.out).mono ?_
      rintro e w5 ⟨rfl, h5, f5⟩
      have h5 : RdAt w5 R A cp L (s') := h5
      have z5 := f5.size
      have M5 := Lib.hid (And.intro (M4.out.1.call h5 f5) (And.intro (M4.out.2.1.fr f5 (by omega)) (M4.out.2.2.ups f5 HS.out hR (by omega))))
      clear h5 f5
      clear HQ
      obtain ⟨x0, x1, x2, x3, x4⟩ := M5.out.2.1.cells
      obtain ⟨⟨y0, y1, y2, y3, y4⟩, g0, g1, g2, g3, g4⟩ := M5.out.1.facts
      go_wp2
      exact M5.out.1.gives 6 HS.out M5.out.2.2 rfl rfl rfl
     | true =>
      cases hc_ : isR L s' [40] with
      | false =>
       obtain ⟨rfl, rfl⟩ : [x] = l ∧ s' = st1 := by simpa [one, hc_] using hrun
       clear hrun
       have HQ0 := take_any [46] ⟨#[46]⟩ rfl W0 MR.out.1.rd
       unfold takeR at HQ0
       rw [hd_] at HQ0
       have HQ := Lib.hid HQ0
       clear HQ0
       go_wp2_with fail
       go_at_call 57
       refine (HQ.out).mono ?_
       rintro e w4 ⟨rfl, h4, f4⟩
       have h4 : RdAt w4 R A cp L (s') := h4
       have z4 := f4.size
       have M4 := Lib.hid (And.intro (MR.out.1.call h4 f4) (And.intro (MR.out.2.1.fr f4 (by omega)) (MR.out.2.2.ups f4 HS.out hR (by omega))))
       clear h4 f4
       clear HQ
       have HQ0 := take_any [91] ⟨#[91]⟩ rfl w4 M4.out.1.rd
       unfold takeR at HQ0
       rw [hb_] at HQ0
       have HQ := Lib.hid HQ0
       clear HQ0
       go_wp2_with fail
       go_at_call 57
       refine (HQ.out).mono ?_
       rintro e w5 ⟨rfl, h5, f5⟩
       have h5 : RdAt w5 R A cp L (s') := h5
       have z5 := f5.size
       have M5 := Lib.hid (And.intro (M4.out.1.call h5 f5) (And.intro (M4.out.2.1.fr f5 (by omega)) (M4.out.2.2.ups f5 HS.out hR (by omega))))
       clear h5 f5
       clear HQ
       have HQ0 := take_any [40] ⟨#[40]⟩ rfl w5 M5.out.1.rd
       unfold takeR at HQ0
       rw [hc_] at HQ0
       have HQ := Lib.hid HQ0
       clear HQ0
       go_wp2_with fail
       go_at_call 57
       refine (HQ.out).mono ?_
       rintro e w6 ⟨rfl, h6, f6⟩
       have h6 : RdAt w6 R A cp L (s') := h6
       have z6 := f6.size
       have M6 := Lib.hid (And.intro (M5.out.1.call h6 f6) (And.intro (M5.out.2.1.fr f6 (by omega)) (M5.out.2.2.ups f6 HS.out hR (by omega))))
       clear h6 f6
       clear HQ
       obtain ⟨x0, x1, x2, x3, x4⟩ := M6.out.2.1.cells
       obtain ⟨⟨y0, y1, y2, y3, y4⟩, g0, g1, g2, g3, g4⟩ := M6.out.1.facts
       go_wp2
       exact M6.out.1.gives 6 HS.out M6.out.2.2 rfl rfl rfl
      | true =>
       cases e1 : run L G (.args [] (!isR L s'.next [41])) s'.next with
       | none => simp [hc_, e1] at hrun
       | some lA =>
       obtain ⟨lA, s4⟩ := lA
       have HN := Lib.hid (show run L G (.parts (.mk 15 [] 0 x.line (x :: lA)) true) s4 = some (l, st1) by simpa [hc_, e1] using hrun)
       have H4 := Lib.hid (ihs G (by omega) (.args [] (!isR L s'.next [41])) _ _ _ e1 rfl rfl)
       have HLA := Lib.hid (args_len e1)
       clear hrun e1
       have HQ0 := take_any [46] ⟨#[46]⟩ rfl W0 MR.out.1.rd
       unfold takeR at HQ0
       rw [hd_] at HQ0
       have HQ := Lib.hid HQ0
       clear HQ0
       go_wp2_with fail
       go_at_call 57
       refine (HQ.out).mono ?_
       rintro e w4 ⟨rfl, h4, f4⟩
       have h4 : RdAt w4 R A cp L (s') := h4
       have z4 := f4.size
       have M4 := Lib.hid (And.intro (MR.out.1.call h4 f4) (And.intro (MR.out.2.1.fr f4 (by omega)) (MR.out.2.2.ups f4 HS.out hR (by omega))))
       clear h4 f4
       clear HQ
       have HQ0 := take_any [91] ⟨#[91]⟩ rfl w4 M4.out.1.rd
       unfold takeR at HQ0
       rw [hb_] at HQ0
       have HQ := Lib.hid HQ0
       clear HQ0
       go_wp2_with fail
       go_at_call 57
       refine (HQ.out).mono ?_
       rintro e w5 ⟨rfl, h5, f5⟩
       have h5 : RdAt w5 R A cp L (s') := h5
       have z5 := f5.size
       have M5 := Lib.hid (And.intro (M4.out.1.call h5 f5) (And.intro (M4.out.2.1.fr f5 (by omega)) (M4.out.2.2.ups f5 HS.out hR (by omega))))
       clear h5 f5
       clear HQ
       have HQ0 := take_any [40] ⟨#[40]⟩ rfl w5 M5.out.1.rd
       unfold takeR at HQ0
       rw [hc_] at HQ0
       have HQ := Lib.hid HQ0
       clear HQ0
       go_wp2_with fail
       go_at_call 57
       refine (HQ.out).mono ?_
       rintro e w6 ⟨rfl, h6, f6⟩
       have h6 : RdAt w6 R A cp L (s'.next) := h6
       have z6 := f6.size
       have M6 := Lib.hid (And.intro (M5.out.1.call h6 f6) (And.intro (M5.out.2.1.fr f6 (by omega)) (M5.out.2.2.ups f6 HS.out hR (by omega))))
       clear h6 f6
       clear HQ
       obtain ⟨x0, x1, x2, x3, x4⟩ := M6.out.2.1.cells
       obtain ⟨w7, e7, m7, f7, b7, zq7⟩ := M6.out.1.arr #[.int .i64 x.op, .string (bs x.s), .int .i64 x.n, .slice Ax x.l.length cx, .int .i64 x.line]
       have z7 : w6.heap.size < w7.heap.size := by omega
       clear zq7
       have hb7 : Below w6.heap.size w6 w7 := by rw [← e7]; exact (Below.refl _ _).alloc (Nat.le_refl _) _
       obtain ⟨nB, hnB⟩ : ∃ x, w7.heap.size = x := ⟨_, rfl⟩
       have HnB := Lib.hid hnB
       have zn1 : w6.heap.size < nB := by omega
       have zn2 : nB ≤ w7.heap.size := by omega
       have zn3 : w7.heap.size ≤ nB := by omega
       clear hnB
       have ac := AccP.lit1 (P := fun k => S k ∨ (w.heap.size + 1 < k ∧ k ≠ nB)) (B := w6.heap.size) (M6.out.2.2.keep (S' := fun k => ((S k ∨ (w.heap.size + 1 < k ∧ k ≠ nB)) ∧ k < w7.heap.size) ∧ k ≠ w6.heap.size) (fun k hk => hk.elim (fun hk => ⟨⟨.inl hk, by have := (HS.out k hk).1; omega⟩, by have := (HS.out k hk).1; omega⟩) (fun hk => ⟨⟨.inr ⟨hk.1, by have := hk.2; omega⟩, by have := hk.2; omega⟩, by have := hk.2; omega⟩)) (fun k hk => hb7.block k (hk.elim (fun hk => by have := (HS.out k hk).1; omega) (fun hk => hk.2)))) b7 rfl (Nat.le_refl _)
       have M7 := Lib.hid (And.intro m7 (And.intro (M6.out.2.1.fr f7 (by omega)) ac))
       clear m7 f7 b7 hb7 ac
       obtain ⟨w8, e8, m8, f8, b8, zq8⟩ := M7.out.1.box_ (.int .i64 15) (.string ⟨#[]⟩) (.int .i64 0) (.slice (some ⟨w6.heap.size, 0, none⟩) 1 1) (.int .i64 x.line)
       have z8 : w7.heap.size < w8.heap.size := by omega
       clear zq8
       have M8 := Lib.hid (And.intro m8 (And.intro (M7.out.2.1.fr f8 (by omega)) (And.intro b8 (M7.out.2.2.keep (by omega) (fun k hk hl => f8.block k hl (hk.elim (fun hk => hk.elim (fun hk => (HS.out k hk).2) (fun hk => by have := hk.1; omega)) (fun hk => by omega)))))))
       clear m8 f8 b8
       have zd : w8.heap.size ≤ w8.drew.heap.size := Nat.le_refl _
       have M9 := Lib.hid (And.intro M8.out.1.drew (And.intro (M8.out.2.1.fr ((Only.refl (fun k => k = R) w8).drew) (by omega)) (And.intro (M8.out.2.2.1.fr ((Only.refl (fun k => k = R) w8).drew) (by omega)) (M8.out.2.2.2.keep (Nat.le_refl _) (fun k hk hl => rfl)))))
       obtain ⟨x0, x1, x2, x3, x4⟩ := M9.out.2.2.1.cells
       obtain ⟨q0, q1, q2, q3, q4⟩ := M9.out.2.2.1.thaw
       go_wp2_with fail
       go_region_law (first
        | (refine step_app rfl _ _ 22 rfl _ _ rfl rfl _ HP.out ?_; rintro u w11 ⟨hacc, hon, ⟨A11, c11, rfl⟩, hlie⟩; have z11 := hon.size; have m11 := M10.out.1.pushP M10.out.2.2.2 (by omega) hon; have bx11 := M10.out.2.1.pushP M10.out.2.2.2 (by omega) hon; have bn11 : Bx w11 (w7.heap.size) _ _ _ _ _ := (hon.block _ (heap_lt M10.out.2.2.1) (by simp [Value.ownBlock]; omega)).trans M10.out.2.2.1; obtain ⟨x0, x1, x2, x3, x4⟩ := bn11.cells; obtain ⟨q0, q1, q2, q3, q4⟩ := bn11.thaw; obtain ⟨w12, e12⟩ : ∃ W, w11.setCell ⟨w7.heap.size, 3, none⟩ (.slice A11 (1 + lA.length) c11) = W := ⟨_, rfl⟩; have me := m11.set (B := w7.heap.size) (by omega) (by omega) 3 (.slice A11 (1 + lA.length) c11); have be := bn11.put3 (.slice A11 (1 + lA.length) c11); have ae := bx11.away (B' := w7.heap.size) (by omega) 3 (.slice A11 (1 + lA.length) c11); have ze : w11.heap.size ≤ w12.heap.size := (by rw [← e12]; simp); have re := hacc.rowO.keep (w' := w11.setCell ⟨w7.heap.size, 3, none⟩ (.slice A11 (1 + lA.length) c11)) (S' := AfS S w (w11.setCell ⟨w7.heap.size, 3, none⟩ (.slice A11 (1 + lA.length) c11))) (fun k hk => hk.1.elim (fun h => h.elim (fun h => .inl h) (fun h => .inr ⟨h.1, by simp; exact hk.2⟩)) (fun h => .inr ⟨by rcases hlie with e | e <;> (rw [e] at h; simp [Value.ownBlock] at h; omega), by simp; exact hk.2⟩)) (fun k hk => Below.heap_setCell _ _ _ k (by show k ≠ w7.heap.size; have hz := HnB.out; exact hk.1.elim (fun h => h.elim (fun h => by have := (HS.out k h).1; omega) (fun h => by have := h.2; omega)) (fun h => by rcases hlie with e | e <;> (rw [e] at h; simp [Value.ownBlock] at h; omega)))); rw [e12] at me be ae re; obtain ⟨x0, x1, x2, x3, x4⟩ := be.cells; obtain ⟨p0, p1, p2, p3, p4⟩ := ae.cells; obtain ⟨q0, q1, q2, q3, q4⟩ := ae.thaw; have tr := TreeAt.mk (o := 15) (k := 0) (i := x.line) (s := []) re ⟨by simp, by omega, by omega⟩; have MF := Lib.hid (And.intro (me.putAll (B := w.heap.size) (Nat.le_refl _) (by omega) (.int .i64 15) (.string ⟨#[]⟩) (.int .i64 0) (.slice A11 (1 + lA.length) c11) (.int .i64 x.line)) (And.intro (ae.put5 (.int .i64 15) (.string ⟨#[]⟩) (.int .i64 0) (.slice A11 (1 + lA.length) c11) (.int .i64 x.line)) (tr.put5s HS.out (.int .i64 15) (.string ⟨#[]⟩) (.int .i64 0) (.slice A11 (1 + lA.length) c11) (.int .i64 x.line)))); clear me be ae re tr hacc hon m11 bx11 bn11)
        | (go_simp; go_at_call 112; refine (H4.out w8.drew M9.out.1.rd).mono ?_; rintro e w10 ⟨v10, rfl, h10, f10, t10⟩; obtain ⟨A10, c10, rfl, hlA, -⟩ := t10.slice; have z10 := f10.size; have M10 := Lib.hid (And.intro (M9.out.1.call h10 f10) (And.intro (M9.out.2.1.fr f10 (by omega)) (And.intro (M9.out.2.2.1.fr f10 (by omega)) (M9.out.2.2.2.keep (by omega) (fun k hk hl => f10.block k hl (hk.elim (fun hk => hk.elim (fun hk => (HS.out k hk).2) (fun hk => by have := hk.1; omega)) (fun hk => by omega))))))); have HP := Lib.hid (AccP.pushL M10.out.2.2.2 (M9.out.2.2.2.freshL t10 (fun k hk => .inr ⟨by omega, by omega⟩)) (by have := HLA.out; simp only [List.length_cons, List.length_nil] at this ⊢; omega) (by omega) 22); obtain ⟨x0, x1, x2, x3, x4⟩ := M10.out.2.2.1.cells; obtain ⟨q0, q1, q2, q3, q4⟩ := M10.out.2.2.1.thaw; clear h10 f10 t10))
       all_goals
        go_wp2
        go_roundg G
        case rel => exact ⟨.mk 15 [] 0 x.line (x :: lA), _, A11, c11, Lib.hid ⟨HN.out, by omega, MF.out.1, MF.out.2.1.cast3 (len_cons _ _ x lA), MF.out.2.2.castv (by show Value.agg #[.int .i64 15, .string (bs []), .int .i64 0, .slice A11 (1 + lA.length) c11, .int .i64 x.line] = _; rw [len_cons _ _ x lA]; rfl)⟩⟩
        case measure => omega
  ·obtain ⟨rfl, rfl⟩ : [x] = l ∧ s' = st1 := by simpa [he, one] using hrun
   have d1 : (s'.e == 0) = false := by simpa using he
   obtain ⟨x0, x1, x2, x3, x4⟩ := MR.out.2.1.cells
   obtain ⟨⟨y0, y1, y2, y3, y4⟩, g0, g1, g2, g3, g4⟩ := MR.out.1.facts
   clear hrun he
   go_wp2
   exact MR.out.1.gives 6 HS.out MR.out.2.2 rfl rfl rfl
end
end
end Go.Proofs.Ytejbdoiamhfbjaa
