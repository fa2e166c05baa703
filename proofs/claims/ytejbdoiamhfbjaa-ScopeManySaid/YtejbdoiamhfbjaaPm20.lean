/- The document's reader: jump. -/
import Derived.Deep.RegionHeldLaw
import Derived.Deep.LoopGhost
import Derived.Test.YtejbdoiamhfbjaaPm14
set_option linter.unusedSimpArgs false
set_option linter.unusedVariables false
set_option maxRecDepth 100000
set_option maxHeartbeats 4000000
namespace Go.Proofs.Ytejbdoiamhfbjaa
section
open Go.RowKit Go.Proofs
section
variable {R cp : Nat} {A : Option Addr} {L : List Tok} {st : St} {F : Nat}
theorem jump_break (ih : All R A cp L F) (hps : st.pos < L.length) (line : Int) (l : List Tr) (st1 : St) (hr : wordedR L (run L F) line [98, 114, 101, 97, 107] st = some (l, st1)) (w : World) (B : Nat) (h : RdAt w R A cp L st) (hRB : R < B)
  (hB0 : w.heap[B]? = some (.cells #[.int .i64 0, .string ⟨#[]⟩, .int .i64 0, .slice none 0 0, .int .i64 line] 24 (0, 0))) :
  Calls Try.prog 94 #[ptr R, ptr B, .string (bs [98, 114, 101, 97, 107])] w (Told R B A cp L w l st1) := by
 have hBw := heap_lt hB0
 have M0 := Lib.hid (And.intro (Wd.start h hRB hBw) (show Bx w B _ _ _ _ _ from hB0))
 have H0 := h
 obtain ⟨rfl, rfl⟩ : [Tr.mk 39 [] 0 line []] = l ∧ endR L st.next = st1 := by simpa [wordedR, funW, one] using hr
 clear hr
 have q_return : ((bs [98, 114, 101, 97, 107]).toList == [114, 101, 116, 117, 114, 110]) = false := by rw [bs_eq]; decide
 have q_throw : ((bs [98, 114, 101, 97, 107]).toList == [116, 104, 114, 111, 119]) = false := by rw [bs_eq]; decide
 have q_break : ((bs [98, 114, 101, 97, 107]).toList == [98, 114, 101, 97, 107]) = true := by rw [bs_eq]; decide
 clear h hB0 H0
 go_enter Try.func94, Try.ntmps94
 obtain ⟨x0, x1, x2, x3, x4⟩ := M0.out.2.cells
 obtain ⟨q0, q1, q2, q3, q4⟩ := M0.out.2.thaw
 obtain ⟨c0, c1, c2, c3⟩ := M0.out.1.rd.cells
 have fR1 := M0.out.1.rd.thaw 1
 have hw := wrap_next hps M0.out.1.rd.len
 obtain ⟨w2, e2, h2, f2⟩ := M0.out.1.next_ hps
 have z2 := f2.size
 have M2 := Lib.hid (And.intro (M0.out.1.call h2 f2) (M0.out.2.fr f2 (by omega)))
 clear h2 f2
 obtain ⟨x0, x1, x2, x3, x4⟩ := M2.out.2.cells
 obtain ⟨q0, q1, q2, q3, q4⟩ := M2.out.2.thaw
 obtain ⟨w3, e3⟩ : ∃ W, w2.setCell ⟨B, 0, none⟩ (.int .i64 39) = W := ⟨_, rfl⟩
 have m3 := M2.out.1.set 0 (.int .i64 39)
 have i3_0 := M2.out.2.put0 (.int .i64 39)
 have z3 : w2.heap.size ≤ w3.heap.size := by rw [← e3]; simp
 rw [e3] at m3 i3_0
 have M3 := Lib.hid (And.intro m3 (i3_0))
 clear m3 i3_0
 obtain ⟨x0, x1, x2, x3, x4⟩ := M3.out.2.cells
 obtain ⟨q0, q1, q2, q3, q4⟩ := M3.out.2.thaw
 have HQ := Lib.hid (end_any w3 M3.out.1.rd)
 go_wp2_with fail
 go_at_call 75
 refine (HQ.out).mono ?_
 rintro e w4 ⟨rfl, h4, f4⟩
 have z4 := f4.size
 have M4 := Lib.hid (And.intro (M3.out.1.call h4 f4) (M3.out.2.fr f4 (by omega)))
 clear h4 f4
 clear HQ
 obtain ⟨x0, x1, x2, x3, x4⟩ := M4.out.2.cells
 obtain ⟨q0, q1, q2, q3, q4⟩ := M4.out.2.thaw
 go_wp2
 go_ret
 exact M4.out.1.told_nil M4.out.2 ⟨by simp, by omega, by omega⟩
theorem jump_continue (ih : All R A cp L F) (hps : st.pos < L.length) (line : Int) (l : List Tr) (st1 : St) (hr : wordedR L (run L F) line [99, 111, 110, 116, 105, 110, 117, 101] st = some (l, st1)) (w : World) (B : Nat) (h : RdAt w R A cp L st) (hRB : R < B)
  (hB0 : w.heap[B]? = some (.cells #[.int .i64 0, .string ⟨#[]⟩, .int .i64 0, .slice none 0 0, .int .i64 line] 24 (0, 0))) :
  Calls Try.prog 94 #[ptr R, ptr B, .string (bs [99, 111, 110, 116, 105, 110, 117, 101])] w (Told R B A cp L w l st1) := by
 have hBw := heap_lt hB0
 have M0 := Lib.hid (And.intro (Wd.start h hRB hBw) (show Bx w B _ _ _ _ _ from hB0))
 have H0 := h
 obtain ⟨rfl, rfl⟩ : [Tr.mk 40 [] 0 line []] = l ∧ endR L st.next = st1 := by simpa [wordedR, funW, one] using hr
 clear hr
 have q_return : ((bs [99, 111, 110, 116, 105, 110, 117, 101]).toList == [114, 101, 116, 117, 114, 110]) = false := by rw [bs_eq]; decide
 have q_throw : ((bs [99, 111, 110, 116, 105, 110, 117, 101]).toList == [116, 104, 114, 111, 119]) = false := by rw [bs_eq]; decide
 have q_break : ((bs [99, 111, 110, 116, 105, 110, 117, 101]).toList == [98, 114, 101, 97, 107]) = false := by rw [bs_eq]; decide
 have q_continue : ((bs [99, 111, 110, 116, 105, 110, 117, 101]).toList == [99, 111, 110, 116, 105, 110, 117, 101]) = true := by rw [bs_eq]; decide
 clear h hB0 H0
 go_enter Try.func94, Try.ntmps94
 obtain ⟨x0, x1, x2, x3, x4⟩ := M0.out.2.cells
 obtain ⟨q0, q1, q2, q3, q4⟩ := M0.out.2.thaw
 obtain ⟨c0, c1, c2, c3⟩ := M0.out.1.rd.cells
 have fR1 := M0.out.1.rd.thaw 1
 have hw := wrap_next hps M0.out.1.rd.len
 obtain ⟨w2, e2, h2, f2⟩ := M0.out.1.next_ hps
 have z2 := f2.size
 have M2 := Lib.hid (And.intro (M0.out.1.call h2 f2) (M0.out.2.fr f2 (by omega)))
 clear h2 f2
 obtain ⟨x0, x1, x2, x3, x4⟩ := M2.out.2.cells
 obtain ⟨q0, q1, q2, q3, q4⟩ := M2.out.2.thaw
 obtain ⟨w3, e3⟩ : ∃ W, w2.setCell ⟨B, 0, none⟩ (.int .i64 40) = W := ⟨_, rfl⟩
 have m3 := M2.out.1.set 0 (.int .i64 40)
 have i3_0 := M2.out.2.put0 (.int .i64 40)
 have z3 : w2.heap.size ≤ w3.heap.size := by rw [← e3]; simp
 rw [e3] at m3 i3_0
 have M3 := Lib.hid (And.intro m3 (i3_0))
 clear m3 i3_0
 obtain ⟨x0, x1, x2, x3, x4⟩ := M3.out.2.cells
 obtain ⟨q0, q1, q2, q3, q4⟩ := M3.out.2.thaw
 have HQ := Lib.hid (end_any w3 M3.out.1.rd)
 go_wp2_with fail
 go_at_call 75
 refine (HQ.out).mono ?_
 rintro e w4 ⟨rfl, h4, f4⟩
 have z4 := f4.size
 have M4 := Lib.hid (And.intro (M3.out.1.call h4 f4) (M3.out.2.fr f4 (by omega)))
 clear h4 f4
 clear HQ
 obtain ⟨x0, x1, x2, x3, x4⟩ := M4.out.2.cells
 obtain ⟨q0, q1, q2, q3, q4⟩ := M4.out.2.thaw
 go_wp2
 go_ret
 exact M4.out.1.told_nil M4.out.2 ⟨by simp, by omega, by omega⟩
theorem jump_none (s : Bs) (w : World) (B : Nat) (h : RdAt w R A cp L st) (hRB : R < B) (hBw : B < w.heap.size) (h1 : s ≠ [114, 101, 116, 117, 114, 110]) (h2 : s ≠ [116, 104, 114, 111, 119]) (h3 : s ≠ [98, 114, 101, 97, 107]) (h4 : s ≠ [99, 111, 110, 116, 105, 110, 117, 101]) :
  Calls Try.prog 94 #[ptr R, ptr B, .string (bs s)] w (Told R B A cp L w [] st) := by
 have q1 : ((bs s).toList == [114, 101, 116, 117, 114, 110]) = false := by rw [bs_eq]; simpa using h1
 have q2 : ((bs s).toList == [116, 104, 114, 111, 119]) = false := by rw [bs_eq]; simpa using h2
 have q3 : ((bs s).toList == [98, 114, 101, 97, 107]) = false := by rw [bs_eq]; simpa using h3
 have q4 : ((bs s).toList == [99, 111, 110, 116, 105, 110, 117, 101]) = false := by rw [bs_eq]; simpa using h4
 have M0 := Lib.hid (Wd.start h hRB hBw)
 clear h h1 h2 h3 h4
 go_enter Try.func94, Try.ntmps94
 go_wp2
 go_ret
 exact M0.out.no rfl rfl
theorem jump_throw (ih : All R A cp L F) (hps : st.pos < L.length) (line : Int) (l : List Tr) (st1 : St) (hr : wordedR L (run L F) line [116, 104, 114, 111, 119] st = some (l, st1)) (w : World) (B : Nat) (h : RdAt w R A cp L st) (hRB : R < B)
  (hB0 : w.heap[B]? = some (.cells #[.int .i64 0, .string ⟨#[]⟩, .int .i64 0, .slice none 0 0, .int .i64 line] 24 (0, 0))) :
  Calls Try.prog 94 #[ptr R, ptr B, .string (bs [116, 104, 114, 111, 119])] w (Told R B A cp L w l st1) := by
 have hBw := heap_lt hB0
 have M0 := Lib.hid (And.intro (Wd.start h hRB hBw) (show Bx w B _ _ _ _ _ from hB0))
 have H0 := h
 cases ht : tokR L st.next 0 with | mk kd ts tn ln nl =>
 obtain ⟨s2, hs2⟩ : ∃ x, (if nl = true then stopR L st.next false else st.next) = x := ⟨_, rfl⟩
 cases e1 : run L F .expr s2 with
 | none => simp [wordedR, funW, one, ht, hs2, e1] at hr
 | some y =>
 obtain ⟨y, s3⟩ := y
 obtain ⟨rfl, rfl⟩ : [Tr.mk 37 [] 0 line [hd y]] = l ∧ endR L s3 = st1 := by simpa [wordedR, funW, one, ht, hs2, e1] using hr
 have H1 := Lib.hid (ih .expr _ _ _ e1)
 clear hr e1
 cases nl with
 | true =>
  obtain rfl : stopR L st.next false = s2 := by simpa using hs2
  clear hs2
  have q_return : ((bs [116, 104, 114, 111, 119]).toList == [114, 101, 116, 117, 114, 110]) = false := by rw [bs_eq]; decide
  have q_throw : ((bs [116, 104, 114, 111, 119]).toList == [116, 104, 114, 111, 119]) = true := by rw [bs_eq]; decide
  clear h hB0 H0
  go_enter Try.func94, Try.ntmps94
  obtain ⟨x0, x1, x2, x3, x4⟩ := M0.out.2.cells
  obtain ⟨q0, q1, q2, q3, q4⟩ := M0.out.2.thaw
  obtain ⟨c0, c1, c2, c3⟩ := M0.out.1.rd.cells
  have fR1 := M0.out.1.rd.thaw 1
  have hw := wrap_next hps M0.out.1.rd.len
  obtain ⟨w2, e2, h2, f2⟩ := M0.out.1.next_ hps
  have z2 := f2.size
  have M2 := Lib.hid (And.intro (M0.out.1.call h2 f2) (M0.out.2.fr f2 (by omega)))
  clear h2 f2
  obtain ⟨x0, x1, x2, x3, x4⟩ := M2.out.2.cells
  obtain ⟨q0, q1, q2, q3, q4⟩ := M2.out.2.thaw
  obtain ⟨w3, e3⟩ : ∃ W, w2.setCell ⟨B, 0, none⟩ (.int .i64 37) = W := ⟨_, rfl⟩
  have m3 := M2.out.1.set 0 (.int .i64 37)
  have i3_0 := M2.out.2.put0 (.int .i64 37)
  have z3 : w2.heap.size ≤ w3.heap.size := by rw [← e3]; simp
  rw [e3] at m3 i3_0
  have M3 := Lib.hid (And.intro m3 (i3_0))
  clear m3 i3_0
  obtain ⟨x0, x1, x2, x3, x4⟩ := M3.out.2.cells
  obtain ⟨q0, q1, q2, q3, q4⟩ := M3.out.2.thaw
  have HQ0 := tok_any 0 w3 M3.out.1.rd (by omega)
  rw [ht] at HQ0
  unfold tokV at HQ0
  have HQ := Lib.hid HQ0
  clear HQ0
  go_wp2_with fail
  go_at_call 55
  refine (HQ.out).mono ?_
  rintro e w4 ⟨rfl, hb⟩
  have f4 := Fr.of_below (R := R) hb (Nat.le_refl _)
  have h4 := M3.out.1.rd.below hb M3.out.1.rd.lt
  have z4 := f4.size
  clear hb
  have M4 := Lib.hid (And.intro (M3.out.1.call h4 f4) (M3.out.2.fr f4 (by omega)))
  clear h4 f4
  clear HQ
  have fl := tok_nl kd ts tn ln true w4
  obtain ⟨x0, x1, x2, x3, x4⟩ := M4.out.2.cells
  obtain ⟨q0, q1, q2, q3, q4⟩ := M4.out.2.thaw
  have HQ := Lib.hid (stop_any false w4 M4.out.1.rd)
  go_wp2_with fail
  go_at_call 45
  refine (HQ.out).mono ?_
  rintro e w5 ⟨rfl, h5, f5⟩
  have z5 := f5.size
  have M5 := Lib.hid (And.intro (M4.out.1.call h5 f5) (M4.out.2.fr f5 (by omega)))
  clear h5 f5
  clear HQ
  obtain ⟨x0, x1, x2, x3, x4⟩ := M5.out.2.cells
  obtain ⟨q0, q1, q2, q3, q4⟩ := M5.out.2.thaw
  go_wp2_with fail
  go_at_call 74
  refine (H1.out w5 M5.out.1.rd).mono ?_
  rintro e w6 ⟨v6, rfl, h6, f6, t6⟩
  obtain ⟨A6, c6, rfl, -, -⟩ := t6.form
  have z6 := f6.size
  obtain ⟨w7, e7, m7, f7, b7, zq7⟩ := (M5.out.1.call h6 f6).arr #[.int .i64 (hd y).op, .string (bs (hd y).s), .int .i64 (hd y).n, .slice A6 (hd y).l.length c6, .int .i64 (hd y).line]
  have z7 : w6.heap.size < w7.heap.size := by omega
  clear zq7
  have a7 := AccAt.lit_new (b := w.heap.size) (cs := #[.int .i64 (hd y).op, .string (bs (hd y).s), .int .i64 (hd y).n, .slice A6 (hd y).l.length c6, .int .i64 (hd y).line]) t6 rfl (by omega) (by omega)
  rw [e7] at a7
  have M7 := Lib.hid (And.intro m7 (And.intro ((M5.out.2.fr f6 (by omega)).fr f7 (by omega)) (a7)))
  clear h6 f6 t6 m7 f7 b7 a7
  obtain ⟨x0, x1, x2, x3, x4⟩ := M7.out.2.1.cells
  obtain ⟨q0, q1, q2, q3, q4⟩ := M7.out.2.1.thaw
  obtain ⟨w8, e8⟩ : ∃ W, w7.setCell ⟨B, 3, none⟩ (.slice (some ⟨w6.heap.size, 0, none⟩) 1 1) = W := ⟨_, rfl⟩
  have m8 := M7.out.1.set 3 (.slice (some ⟨w6.heap.size, 0, none⟩) 1 1)
  have i8_0 := M7.out.2.1.put3 (.slice (some ⟨w6.heap.size, 0, none⟩) 1 1)
  have i8_1 := M7.out.2.2.away (b := B) (by omega) 3 (.slice (some ⟨w6.heap.size, 0, none⟩) 1 1)
  have z8 : w7.heap.size ≤ w8.heap.size := by rw [← e8]; simp
  rw [e8] at m8 i8_0 i8_1
  have M8 := Lib.hid (And.intro m8 (And.intro i8_0 (i8_1)))
  clear m8 i8_0 i8_1
  obtain ⟨x0, x1, x2, x3, x4⟩ := M8.out.2.1.cells
  obtain ⟨q0, q1, q2, q3, q4⟩ := M8.out.2.1.thaw
  have HQ := Lib.hid (end_any w8 M8.out.1.rd)
  go_wp2_with fail
  go_at_call 75
  refine (HQ.out).mono ?_
  rintro e w9 ⟨rfl, h9, f9⟩
  have z9 := f9.size
  have M9 := Lib.hid (And.intro (M8.out.1.call h9 f9) (And.intro (M8.out.2.1.fr f9 (by omega)) (M8.out.2.2.fr f9 (by omega))))
  clear h9 f9
  clear HQ
  obtain ⟨x0, x1, x2, x3, x4⟩ := M9.out.2.1.cells
  obtain ⟨q0, q1, q2, q3, q4⟩ := M9.out.2.1.thaw
  go_wp2
  go_ret
  exact M9.out.1.told_acc M9.out.2.1 M9.out.2.2 ⟨by simp, by omega, by omega⟩
 | false =>
  obtain rfl : st.next = s2 := by simpa using hs2
  clear hs2
  have q_return : ((bs [116, 104, 114, 111, 119]).toList == [114, 101, 116, 117, 114, 110]) = false := by rw [bs_eq]; decide
  have q_throw : ((bs [116, 104, 114, 111, 119]).toList == [116, 104, 114, 111, 119]) = true := by rw [bs_eq]; decide
  clear h hB0 H0
  go_enter Try.func94, Try.ntmps94
  obtain ⟨x0, x1, x2, x3, x4⟩ := M0.out.2.cells
  obtain ⟨q0, q1, q2, q3, q4⟩ := M0.out.2.thaw
  obtain ⟨c0, c1, c2, c3⟩ := M0.out.1.rd.cells
  have fR1 := M0.out.1.rd.thaw 1
  have hw := wrap_next hps M0.out.1.rd.len
  obtain ⟨w2, e2, h2, f2⟩ := M0.out.1.next_ hps
  have z2 := f2.size
  have M2 := Lib.hid (And.intro (M0.out.1.call h2 f2) (M0.out.2.fr f2 (by omega)))
  clear h2 f2
  obtain ⟨x0, x1, x2, x3, x4⟩ := M2.out.2.cells
  obtain ⟨q0, q1, q2, q3, q4⟩ := M2.out.2.thaw
  obtain ⟨w3, e3⟩ : ∃ W, w2.setCell ⟨B, 0, none⟩ (.int .i64 37) = W := ⟨_, rfl⟩
  have m3 := M2.out.1.set 0 (.int .i64 37)
  have i3_0 := M2.out.2.put0 (.int .i64 37)
  have z3 : w2.heap.size ≤ w3.heap.size := by rw [← e3]; simp
  rw [e3] at m3 i3_0
  have M3 := Lib.hid (And.intro m3 (i3_0))
  clear m3 i3_0
  obtain ⟨x0, x1, x2, x3, x4⟩ := M3.out.2.cells
  obtain ⟨q0, q1, q2, q3, q4⟩ := M3.out.2.thaw
  have HQ0 := tok_any 0 w3 M3.out.1.rd (by omega)
  rw [ht] at HQ0
  unfold tokV at HQ0
  have HQ := Lib.hid HQ0
  clear HQ0
  go_wp2_with fail
  go_at_call 55
  refine (HQ.out).mono ?_
  rintro e w4 ⟨rfl, hb⟩
  have f4 := Fr.of_below (R := R) hb (Nat.le_refl _)
  have h4 := M3.out.1.rd.below hb M3.out.1.rd.lt
  have z4 := f4.size
  clear hb
  have M4 := Lib.hid (And.intro (M3.out.1.call h4 f4) (M3.out.2.fr f4 (by omega)))
  clear h4 f4
  clear HQ
  have fl := tok_nl kd ts tn ln false w4
  obtain ⟨x0, x1, x2, x3, x4⟩ := M4.out.2.cells
  obtain ⟨q0, q1, q2, q3, q4⟩ := M4.out.2.thaw
  go_wp2_with fail
  go_at_call 74
  refine (H1.out w4 M4.out.1.rd).mono ?_
  rintro e w5 ⟨v5, rfl, h5, f5, t5⟩
  obtain ⟨A5, c5, rfl, -, -⟩ := t5.form
  have z5 := f5.size
  obtain ⟨w6, e6, m6, f6, b6, zq6⟩ := (M4.out.1.call h5 f5).arr #[.int .i64 (hd y).op, .string (bs (hd y).s), .int .i64 (hd y).n, .slice A5 (hd y).l.length c5, .int .i64 (hd y).line]
  have z6 : w5.heap.size < w6.heap.size := by omega
  clear zq6
  have a6 := AccAt.lit_new (b := w.heap.size) (cs := #[.int .i64 (hd y).op, .string (bs (hd y).s), .int .i64 (hd y).n, .slice A5 (hd y).l.length c5, .int .i64 (hd y).line]) t5 rfl (by omega) (by omega)
  rw [e6] at a6
  have M6 := Lib.hid (And.intro m6 (And.intro ((M4.out.2.fr f5 (by omega)).fr f6 (by omega)) (a6)))
  clear h5 f5 t5 m6 f6 b6 a6
  obtain ⟨x0, x1, x2, x3, x4⟩ := M6.out.2.1.cells
  obtain ⟨q0, q1, q2, q3, q4⟩ := M6.out.2.1.thaw
  obtain ⟨w7, e7⟩ : ∃ W, w6.setCell ⟨B, 3, none⟩ (.slice (some ⟨w5.heap.size, 0, none⟩) 1 1) = W := ⟨_, rfl⟩
  have m7 := M6.out.1.set 3 (.slice (some ⟨w5.heap.size, 0, none⟩) 1 1)
  have i7_0 := M6.out.2.1.put3 (.slice (some ⟨w5.heap.size, 0, none⟩) 1 1)
  have i7_1 := M6.out.2.2.away (b := B) (by omega) 3 (.slice (some ⟨w5.heap.size, 0, none⟩) 1 1)
  have z7 : w6.heap.size ≤ w7.heap.size := by rw [← e7]; simp
  rw [e7] at m7 i7_0 i7_1
  have M7 := Lib.hid (And.intro m7 (And.intro i7_0 (i7_1)))
  clear m7 i7_0 i7_1
  obtain ⟨x0, x1, x2, x3, x4⟩ := M7.out.2.1.cells
  obtain ⟨q0, q1, q2, q3, q4⟩ := M7.out.2.1.thaw
  have HQ := Lib.hid (end_any w7 M7.out.1.rd)
  go_wp2_with fail
  go_at_call 75
  refine (HQ.out).mono ?_
  rintro e w8 ⟨rfl, h8, f8⟩
  have z8 := f8.size
  have M8 := Lib.hid (And.intro (M7.out.1.call h8 f8) (And.intro (M7.out.2.1.fr f8 (by omega)) (M7.out.2.2.fr f8 (by omega))))
  clear h8 f8
  clear HQ
  obtain ⟨x0, x1, x2, x3, x4⟩ := M8.out.2.1.cells
  obtain ⟨q0, q1, q2, q3, q4⟩ := M8.out.2.1.thaw
  go_wp2
  go_ret
  exact M8.out.1.told_acc M8.out.2.1 M8.out.2.2 ⟨by simp, by omega, by omega⟩
theorem jump_return (ih : All R A cp L F) (hps : st.pos < L.length) (line : Int) (l : List Tr) (st1 : St) (hr : wordedR L (run L F) line [114, 101, 116, 117, 114, 110] st = some (l, st1)) (w : World) (B : Nat) (h : RdAt w R A cp L st) (hRB : R < B)
  (hB0 : w.heap[B]? = some (.cells #[.int .i64 0, .string ⟨#[]⟩, .int .i64 0, .slice none 0 0, .int .i64 line] 24 (0, 0))) :
  Calls Try.prog 94 #[ptr R, ptr B, .string (bs [114, 101, 116, 117, 114, 110])] w (Told R B A cp L w l st1) := by
 have hBw := heap_lt hB0
 have M0 := Lib.hid (And.intro (Wd.start h hRB hBw) (show Bx w B _ _ _ _ _ from hB0))
 have H0 := h
 cases ht : tokR L st.next 0 with | mk kd ts tn ln nl =>
 by_cases k0 : kd = 0
 ·subst k0
  obtain ⟨rfl, rfl⟩ : [Tr.mk 36 [] 0 line []] = l ∧ endR L st.next = st1 := by simpa [wordedR, funW, one, ht] using hr
  clear hr
  have d0 : ((0 : Int) != 0) = false := by decide
  have q_return : ((bs [114, 101, 116, 117, 114, 110]).toList == [114, 101, 116, 117, 114, 110]) = true := by rw [bs_eq]; decide
  clear h hB0 H0
  go_enter Try.func94, Try.ntmps94
  obtain ⟨x0, x1, x2, x3, x4⟩ := M0.out.2.cells
  obtain ⟨q0, q1, q2, q3, q4⟩ := M0.out.2.thaw
  obtain ⟨c0, c1, c2, c3⟩ := M0.out.1.rd.cells
  have fR1 := M0.out.1.rd.thaw 1
  have hw := wrap_next hps M0.out.1.rd.len
  obtain ⟨w2, e2, h2, f2⟩ := M0.out.1.next_ hps
  have z2 := f2.size
  have M2 := Lib.hid (And.intro (M0.out.1.call h2 f2) (M0.out.2.fr f2 (by omega)))
  clear h2 f2
  obtain ⟨x0, x1, x2, x3, x4⟩ := M2.out.2.cells
  obtain ⟨q0, q1, q2, q3, q4⟩ := M2.out.2.thaw
  obtain ⟨w3, e3⟩ : ∃ W, w2.setCell ⟨B, 0, none⟩ (.int .i64 36) = W := ⟨_, rfl⟩
  have m3 := M2.out.1.set 0 (.int .i64 36)
  have i3_0 := M2.out.2.put0 (.int .i64 36)
  have z3 : w2.heap.size ≤ w3.heap.size := by rw [← e3]; simp
  rw [e3] at m3 i3_0
  have M3 := Lib.hid (And.intro m3 (i3_0))
  clear m3 i3_0
  obtain ⟨x0, x1, x2, x3, x4⟩ := M3.out.2.cells
  obtain ⟨q0, q1, q2, q3, q4⟩ := M3.out.2.thaw
  have HQ0 := tok_any 0 w3 M3.out.1.rd (by omega)
  rw [ht] at HQ0
  unfold tokV at HQ0
  have HQ := Lib.hid HQ0
  clear HQ0
  go_wp2_with fail
  go_at_call 55
  refine (HQ.out).mono ?_
  rintro e w4 ⟨rfl, hb⟩
  have f4 := Fr.of_below (R := R) hb (Nat.le_refl _)
  have h4 := M3.out.1.rd.below hb M3.out.1.rd.lt
  have z4 := f4.size
  clear hb
  have M4 := Lib.hid (And.intro (M3.out.1.call h4 f4) (M3.out.2.fr f4 (by omega)))
  clear h4 f4
  clear HQ
  obtain ⟨w5, e5, m5, f5, b5, zq5⟩ := M4.out.1.tok_ 0 ts tn ln nl
  have z5 : w4.heap.size < w5.heap.size := by omega
  clear zq5
  have M5 := Lib.hid (And.intro m5 (And.intro (M4.out.2.fr f5 (by omega)) (b5)))
  have hl5 := heap_lt b5
  clear m5 f5 b5
  obtain ⟨x0, x1, x2, x3, x4⟩ := M5.out.2.1.cells
  obtain ⟨q0, q1, q2, q3, q4⟩ := M5.out.2.1.thaw
  obtain ⟨t0, t1, t2, t3, t4⟩ := (box_facts M5.out.2.2).1
  have HQ := Lib.hid (end_any w5 M5.out.1.rd)
  go_wp2_with fail
  go_at_call 75
  refine (HQ.out).mono ?_
  rintro e w6 ⟨rfl, h6, f6⟩
  have z6 := f6.size
  have M6 := Lib.hid (And.intro (M5.out.1.call h6 f6) (And.intro (M5.out.2.1.fr f6 (by omega)) (blk_fr M5.out.2.2 f6 (by omega))))
  clear h6 f6
  clear HQ
  obtain ⟨x0, x1, x2, x3, x4⟩ := M6.out.2.1.cells
  obtain ⟨q0, q1, q2, q3, q4⟩ := M6.out.2.1.thaw
  go_wp2
  go_ret
  exact M6.out.1.told_nil M6.out.2.1 ⟨by simp, by omega, by omega⟩
 ·have d0 : (kd != 0) = true := by simpa using k0
  by_cases hnl : nl = true
  ·skip
   obtain ⟨rfl, rfl⟩ : [Tr.mk 36 [] 0 line []] = l ∧ endR L st.next = st1 := by simpa [wordedR, funW, one, ht, hnl] using hr
   clear hr
   clear k0
   have dn : (!nl) = false := by simp [hnl]
   clear hnl
   have q_return : ((bs [114, 101, 116, 117, 114, 110]).toList == [114, 101, 116, 117, 114, 110]) = true := by rw [bs_eq]; decide
   clear h hB0 H0
   go_enter Try.func94, Try.ntmps94
   obtain ⟨x0, x1, x2, x3, x4⟩ := M0.out.2.cells
   obtain ⟨q0, q1, q2, q3, q4⟩ := M0.out.2.thaw
   obtain ⟨c0, c1, c2, c3⟩ := M0.out.1.rd.cells
   have fR1 := M0.out.1.rd.thaw 1
   have hw := wrap_next hps M0.out.1.rd.len
   obtain ⟨w2, e2, h2, f2⟩ := M0.out.1.next_ hps
   have z2 := f2.size
   have M2 := Lib.hid (And.intro (M0.out.1.call h2 f2) (M0.out.2.fr f2 (by omega)))
   clear h2 f2
   obtain ⟨x0, x1, x2, x3, x4⟩ := M2.out.2.cells
   obtain ⟨q0, q1, q2, q3, q4⟩ := M2.out.2.thaw
   obtain ⟨w3, e3⟩ : ∃ W, w2.setCell ⟨B, 0, none⟩ (.int .i64 36) = W := ⟨_, rfl⟩
   have m3 := M2.out.1.set 0 (.int .i64 36)
   have i3_0 := M2.out.2.put0 (.int .i64 36)
   have z3 : w2.heap.size ≤ w3.heap.size := by rw [← e3]; simp
   rw [e3] at m3 i3_0
   have M3 := Lib.hid (And.intro m3 (i3_0))
   clear m3 i3_0
   obtain ⟨x0, x1, x2, x3, x4⟩ := M3.out.2.cells
   obtain ⟨q0, q1, q2, q3, q4⟩ := M3.out.2.thaw
   have HQ0 := tok_any 0 w3 M3.out.1.rd (by omega)
   rw [ht] at HQ0
   unfold tokV at HQ0
   have HQ := Lib.hid HQ0
   clear HQ0
   go_wp2_with fail
   go_at_call 55
   refine (HQ.out).mono ?_
   rintro e w4 ⟨rfl, hb⟩
   have f4 := Fr.of_below (R := R) hb (Nat.le_refl _)
   have h4 := M3.out.1.rd.below hb M3.out.1.rd.lt
   have z4 := f4.size
   clear hb
   have M4 := Lib.hid (And.intro (M3.out.1.call h4 f4) (M3.out.2.fr f4 (by omega)))
   clear h4 f4
   clear HQ
   obtain ⟨w5, e5, m5, f5, b5, zq5⟩ := M4.out.1.tok_ kd ts tn ln nl
   have z5 : w4.heap.size < w5.heap.size := by omega
   clear zq5
   have M5 := Lib.hid (And.intro m5 (And.intro (M4.out.2.fr f5 (by omega)) (b5)))
   have hl5 := heap_lt b5
   clear m5 f5 b5
   obtain ⟨x0, x1, x2, x3, x4⟩ := M5.out.2.1.cells
   obtain ⟨q0, q1, q2, q3, q4⟩ := M5.out.2.1.thaw
   obtain ⟨t0, t1, t2, t3, t4⟩ := (box_facts M5.out.2.2).1
   have HQ := Lib.hid (end_any w5 M5.out.1.rd)
   go_wp2_with fail
   go_at_call 75
   refine (HQ.out).mono ?_
   rintro e w6 ⟨rfl, h6, f6⟩
   have z6 := f6.size
   have M6 := Lib.hid (And.intro (M5.out.1.call h6 f6) (And.intro (M5.out.2.1.fr f6 (by omega)) (blk_fr M5.out.2.2 f6 (by omega))))
   clear h6 f6
   clear HQ
   obtain ⟨x0, x1, x2, x3, x4⟩ := M6.out.2.1.cells
   obtain ⟨q0, q1, q2, q3, q4⟩ := M6.out.2.1.thaw
   go_wp2
   go_ret
   exact M6.out.1.told_nil M6.out.2.1 ⟨by simp, by omega, by omega⟩
  ·obtain rfl : nl = false := by simpa using hnl
   by_cases k5 : kd = 5
   ·subst k5
    clear k0
    by_cases s1 : ts = [59]
    ·subst s1
     obtain ⟨rfl, rfl⟩ : [Tr.mk 36 [] 0 line []] = l ∧ endR L st.next = st1 := by simpa [wordedR, funW, one, ht] using hr
     clear hr
     have p1 : ((bs [59]).toList == [59]) = true := by rw [bs_eq]; decide
     have q_return : ((bs [114, 101, 116, 117, 114, 110]).toList == [114, 101, 116, 117, 114, 110]) = true := by rw [bs_eq]; decide
     clear h hB0 H0
     go_enter Try.func94, Try.ntmps94
     obtain ⟨x0, x1, x2, x3, x4⟩ := M0.out.2.cells
     obtain ⟨q0, q1, q2, q3, q4⟩ := M0.out.2.thaw
     obtain ⟨c0, c1, c2, c3⟩ := M0.out.1.rd.cells
     have fR1 := M0.out.1.rd.thaw 1
     have hw := wrap_next hps M0.out.1.rd.len
     obtain ⟨w2, e2, h2, f2⟩ := M0.out.1.next_ hps
     have z2 := f2.size
     have M2 := Lib.hid (And.intro (M0.out.1.call h2 f2) (M0.out.2.fr f2 (by omega)))
     clear h2 f2
     obtain ⟨x0, x1, x2, x3, x4⟩ := M2.out.2.cells
     obtain ⟨q0, q1, q2, q3, q4⟩ := M2.out.2.thaw
     obtain ⟨w3, e3⟩ : ∃ W, w2.setCell ⟨B, 0, none⟩ (.int .i64 36) = W := ⟨_, rfl⟩
     have m3 := M2.out.1.set 0 (.int .i64 36)
     have i3_0 := M2.out.2.put0 (.int .i64 36)
     have z3 : w2.heap.size ≤ w3.heap.size := by rw [← e3]; simp
     rw [e3] at m3 i3_0
     have M3 := Lib.hid (And.intro m3 (i3_0))
     clear m3 i3_0
     obtain ⟨x0, x1, x2, x3, x4⟩ := M3.out.2.cells
     obtain ⟨q0, q1, q2, q3, q4⟩ := M3.out.2.thaw
     have HQ0 := tok_any 0 w3 M3.out.1.rd (by omega)
     rw [ht] at HQ0
     unfold tokV at HQ0
     have HQ := Lib.hid HQ0
     clear HQ0
     go_wp2_with fail
     go_at_call 55
     refine (HQ.out).mono ?_
     rintro e w4 ⟨rfl, hb⟩
     have f4 := Fr.of_below (R := R) hb (Nat.le_refl _)
     have h4 := M3.out.1.rd.below hb M3.out.1.rd.lt
     have z4 := f4.size
     clear hb
     have M4 := Lib.hid (And.intro (M3.out.1.call h4 f4) (M3.out.2.fr f4 (by omega)))
     clear h4 f4
     clear HQ
     obtain ⟨w5, e5, m5, f5, b5, zq5⟩ := M4.out.1.tok_ (5) [59] tn ln false
     have z5 : w4.heap.size < w5.heap.size := by omega
     clear zq5
     have M5 := Lib.hid (And.intro m5 (And.intro (M4.out.2.fr f5 (by omega)) (b5)))
     have hl5 := heap_lt b5
     clear m5 f5 b5
     obtain ⟨x0, x1, x2, x3, x4⟩ := M5.out.2.1.cells
     obtain ⟨q0, q1, q2, q3, q4⟩ := M5.out.2.1.thaw
     obtain ⟨t0, t1, t2, t3, t4⟩ := (box_facts M5.out.2.2).1
     have hsame := setCell_same (i := 4) (u := .bool false) M5.out.2.2 rfl
     obtain ⟨tq0, tq1, tq2, tq3, tq4⟩ := (box_facts M5.out.2.2).2
     have HQ := Lib.hid (end_any w5 M5.out.1.rd)
     go_wp2_with fail
     go_at_call 75
     refine (HQ.out).mono ?_
     rintro e w6 ⟨rfl, h6, f6⟩
     have z6 := f6.size
     have M6 := Lib.hid (And.intro (M5.out.1.call h6 f6) (And.intro (M5.out.2.1.fr f6 (by omega)) (blk_fr M5.out.2.2 f6 (by omega))))
     clear h6 f6
     clear HQ
     obtain ⟨x0, x1, x2, x3, x4⟩ := M6.out.2.1.cells
     obtain ⟨q0, q1, q2, q3, q4⟩ := M6.out.2.1.thaw
     go_wp2
     go_ret
     exact M6.out.1.told_nil M6.out.2.1 ⟨by simp, by omega, by omega⟩
    ·have p1 : ((bs ts).toList == [59]) = false := by rw [bs_eq]; simpa using s1
     by_cases s2 : ts = [125]
     ·subst s2
      obtain ⟨rfl, rfl⟩ : [Tr.mk 36 [] 0 line []] = l ∧ endR L st.next = st1 := by simpa [wordedR, funW, one, ht] using hr
      clear hr
      have p2 : ((bs [125]).toList == [125]) = true := by rw [bs_eq]; decide
      have q_return : ((bs [114, 101, 116, 117, 114, 110]).toList == [114, 101, 116, 117, 114, 110]) = true := by rw [bs_eq]; decide
      clear h hB0 H0
      go_enter Try.func94, Try.ntmps94
      obtain ⟨x0, x1, x2, x3, x4⟩ := M0.out.2.cells
      obtain ⟨q0, q1, q2, q3, q4⟩ := M0.out.2.thaw
      obtain ⟨c0, c1, c2, c3⟩ := M0.out.1.rd.cells
      have fR1 := M0.out.1.rd.thaw 1
      have hw := wrap_next hps M0.out.1.rd.len
      obtain ⟨w2, e2, h2, f2⟩ := M0.out.1.next_ hps
      have z2 := f2.size
      have M2 := Lib.hid (And.intro (M0.out.1.call h2 f2) (M0.out.2.fr f2 (by omega)))
      clear h2 f2
      obtain ⟨x0, x1, x2, x3, x4⟩ := M2.out.2.cells
      obtain ⟨q0, q1, q2, q3, q4⟩ := M2.out.2.thaw
      obtain ⟨w3, e3⟩ : ∃ W, w2.setCell ⟨B, 0, none⟩ (.int .i64 36) = W := ⟨_, rfl⟩
      have m3 := M2.out.1.set 0 (.int .i64 36)
      have i3_0 := M2.out.2.put0 (.int .i64 36)
      have z3 : w2.heap.size ≤ w3.heap.size := by rw [← e3]; simp
      rw [e3] at m3 i3_0
      have M3 := Lib.hid (And.intro m3 (i3_0))
      clear m3 i3_0
      obtain ⟨x0, x1, x2, x3, x4⟩ := M3.out.2.cells
      obtain ⟨q0, q1, q2, q3, q4⟩ := M3.out.2.thaw
      have HQ0 := tok_any 0 w3 M3.out.1.rd (by omega)
      rw [ht] at HQ0
      unfold tokV at HQ0
      have HQ := Lib.hid HQ0
      clear HQ0
      go_wp2_with fail
      go_at_call 55
      refine (HQ.out).mono ?_
      rintro e w4 ⟨rfl, hb⟩
      have f4 := Fr.of_below (R := R) hb (Nat.le_refl _)
      have h4 := M3.out.1.rd.below hb M3.out.1.rd.lt
      have z4 := f4.size
      clear hb
      have M4 := Lib.hid (And.intro (M3.out.1.call h4 f4) (M3.out.2.fr f4 (by omega)))
      clear h4 f4
      clear HQ
      obtain ⟨w5, e5, m5, f5, b5, zq5⟩ := M4.out.1.tok_ (5) [125] tn ln false
      have z5 : w4.heap.size < w5.heap.size := by omega
      clear zq5
      have M5 := Lib.hid (And.intro m5 (And.intro (M4.out.2.fr f5 (by omega)) (b5)))
      have hl5 := heap_lt b5
      clear m5 f5 b5
      obtain ⟨x0, x1, x2, x3, x4⟩ := M5.out.2.1.cells
      obtain ⟨q0, q1, q2, q3, q4⟩ := M5.out.2.1.thaw
      obtain ⟨t0, t1, t2, t3, t4⟩ := (box_facts M5.out.2.2).1
      have hsame := setCell_same (i := 4) (u := .bool false) M5.out.2.2 rfl
      obtain ⟨tq0, tq1, tq2, tq3, tq4⟩ := (box_facts M5.out.2.2).2
      have HQ := Lib.hid (end_any w5 M5.out.1.rd)
      go_wp2_with fail
      go_at_call 75
      refine (HQ.out).mono ?_
      rintro e w6 ⟨rfl, h6, f6⟩
      have z6 := f6.size
      have M6 := Lib.hid (And.intro (M5.out.1.call h6 f6) (And.intro (M5.out.2.1.fr f6 (by omega)) (blk_fr M5.out.2.2 f6 (by omega))))
      clear h6 f6
      clear HQ
      obtain ⟨x0, x1, x2, x3, x4⟩ := M6.out.2.1.cells
      obtain ⟨q0, q1, q2, q3, q4⟩ := M6.out.2.1.thaw
      go_wp2
      go_ret
      exact M6.out.1.told_nil M6.out.2.1 ⟨by simp, by omega, by omega⟩
     ·have p2 : ((bs ts).toList == [125]) = false := by rw [bs_eq]; simpa using s2
      cases e1 : run L F .expr st.next with
      | none => simp [wordedR, funW, one, ht, e1, s1, s2] at hr
      | some y =>
      obtain ⟨y, s3⟩ := y
      obtain ⟨rfl, rfl⟩ : [Tr.mk 36 [] 0 line [hd y]] = l ∧ endR L s3 = st1 := by simpa [wordedR, funW, one, ht, e1, s1, s2] using hr
      have H1 := Lib.hid (ih .expr _ _ _ e1)
      clear hr e1
      clear s1 s2
      have q_return : ((bs [114, 101, 116, 117, 114, 110]).toList == [114, 101, 116, 117, 114, 110]) = true := by rw [bs_eq]; decide
      clear h hB0 H0
      go_enter Try.func94, Try.ntmps94
      obtain ⟨x0, x1, x2, x3, x4⟩ := M0.out.2.cells
      obtain ⟨q0, q1, q2, q3, q4⟩ := M0.out.2.thaw
      obtain ⟨c0, c1, c2, c3⟩ := M0.out.1.rd.cells
      have fR1 := M0.out.1.rd.thaw 1
      have hw := wrap_next hps M0.out.1.rd.len
      obtain ⟨w2, e2, h2, f2⟩ := M0.out.1.next_ hps
      have z2 := f2.size
      have M2 := Lib.hid (And.intro (M0.out.1.call h2 f2) (M0.out.2.fr f2 (by omega)))
      clear h2 f2
      obtain ⟨x0, x1, x2, x3, x4⟩ := M2.out.2.cells
      obtain ⟨q0, q1, q2, q3, q4⟩ := M2.out.2.thaw
      obtain ⟨w3, e3⟩ : ∃ W, w2.setCell ⟨B, 0, none⟩ (.int .i64 36) = W := ⟨_, rfl⟩
      have m3 := M2.out.1.set 0 (.int .i64 36)
      have i3_0 := M2.out.2.put0 (.int .i64 36)
      have z3 : w2.heap.size ≤ w3.heap.size := by rw [← e3]; simp
      rw [e3] at m3 i3_0
      have M3 := Lib.hid (And.intro m3 (i3_0))
      clear m3 i3_0
      obtain ⟨x0, x1, x2, x3, x4⟩ := M3.out.2.cells
      obtain ⟨q0, q1, q2, q3, q4⟩ := M3.out.2.thaw
      have HQ0 := tok_any 0 w3 M3.out.1.rd (by omega)
      rw [ht] at HQ0
      unfold tokV at HQ0
      have HQ := Lib.hid HQ0
      clear HQ0
      go_wp2_with fail
      go_at_call 55
      refine (HQ.out).mono ?_
      rintro e w4 ⟨rfl, hb⟩
      have f4 := Fr.of_below (R := R) hb (Nat.le_refl _)
      have h4 := M3.out.1.rd.below hb M3.out.1.rd.lt
      have z4 := f4.size
      clear hb
      have M4 := Lib.hid (And.intro (M3.out.1.call h4 f4) (M3.out.2.fr f4 (by omega)))
      clear h4 f4
      clear HQ
      obtain ⟨w5, e5, m5, f5, b5, zq5⟩ := M4.out.1.tok_ (5) ts tn ln false
      have z5 : w4.heap.size < w5.heap.size := by omega
      clear zq5
      have M5 := Lib.hid (And.intro m5 (And.intro (M4.out.2.fr f5 (by omega)) (b5)))
      have hl5 := heap_lt b5
      clear m5 f5 b5
      obtain ⟨x0, x1, x2, x3, x4⟩ := M5.out.2.1.cells
      obtain ⟨q0, q1, q2, q3, q4⟩ := M5.out.2.1.thaw
      obtain ⟨t0, t1, t2, t3, t4⟩ := (box_facts M5.out.2.2).1
      have hsame := setCell_same (i := 4) (u := .bool false) M5.out.2.2 rfl
      obtain ⟨tq0, tq1, tq2, tq3, tq4⟩ := (box_facts M5.out.2.2).2
      go_wp2_with fail
      go_at_call 74
      refine (H1.out w5 M5.out.1.rd).mono ?_
      rintro e w6 ⟨v6, rfl, h6, f6, t6⟩
      obtain ⟨A6, c6, rfl, -, -⟩ := t6.form
      have z6 := f6.size
      obtain ⟨w7, e7, m7, f7, b7, zq7⟩ := (M5.out.1.call h6 f6).arr #[.int .i64 (hd y).op, .string (bs (hd y).s), .int .i64 (hd y).n, .slice A6 (hd y).l.length c6, .int .i64 (hd y).line]
      have z7 : w6.heap.size < w7.heap.size := by omega
      clear zq7
      have a7 := AccAt.lit_new (b := w.heap.size) (cs := #[.int .i64 (hd y).op, .string (bs (hd y).s), .int .i64 (hd y).n, .slice A6 (hd y).l.length c6, .int .i64 (hd y).line]) t6 rfl (by omega) (by omega)
      rw [e7] at a7
      have M7 := Lib.hid (And.intro m7 (And.intro ((M5.out.2.1.fr f6 (by omega)).fr f7 (by omega)) (And.intro (blk_fr (blk_fr M5.out.2.2 f6 (by omega)) f7 (by omega)) (a7))))
      clear h6 f6 t6 m7 f7 b7 a7
      obtain ⟨x0, x1, x2, x3, x4⟩ := M7.out.2.1.cells
      obtain ⟨q0, q1, q2, q3, q4⟩ := M7.out.2.1.thaw
      obtain ⟨w8, e8⟩ : ∃ W, w7.setCell ⟨B, 3, none⟩ (.slice (some ⟨w6.heap.size, 0, none⟩) 1 1) = W := ⟨_, rfl⟩
      have m8 := M7.out.1.set 3 (.slice (some ⟨w6.heap.size, 0, none⟩) 1 1)
      have i8_0 := M7.out.2.1.put3 (.slice (some ⟨w6.heap.size, 0, none⟩) 1 1)
      have i8_1 := blk_away (B' := B) M7.out.2.2.1 (by omega) 3 (.slice (some ⟨w6.heap.size, 0, none⟩) 1 1)
      have i8_2 := M7.out.2.2.2.away (b := B) (by omega) 3 (.slice (some ⟨w6.heap.size, 0, none⟩) 1 1)
      have z8 : w7.heap.size ≤ w8.heap.size := by rw [← e8]; simp
      rw [e8] at m8 i8_0 i8_1 i8_2
      have M8 := Lib.hid (And.intro m8 (And.intro i8_0 (And.intro i8_1 (i8_2))))
      clear m8 i8_0 i8_1 i8_2
      obtain ⟨x0, x1, x2, x3, x4⟩ := M8.out.2.1.cells
      obtain ⟨q0, q1, q2, q3, q4⟩ := M8.out.2.1.thaw
      have HQ := Lib.hid (end_any w8 M8.out.1.rd)
      go_wp2_with fail
      go_at_call 75
      refine (HQ.out).mono ?_
      rintro e w9 ⟨rfl, h9, f9⟩
      have z9 := f9.size
      have M9 := Lib.hid (And.intro (M8.out.1.call h9 f9) (And.intro (M8.out.2.1.fr f9 (by omega)) (And.intro (blk_fr M8.out.2.2.1 f9 (by omega)) (M8.out.2.2.2.fr f9 (by omega)))))
      clear h9 f9
      clear HQ
      obtain ⟨x0, x1, x2, x3, x4⟩ := M9.out.2.1.cells
      obtain ⟨q0, q1, q2, q3, q4⟩ := M9.out.2.1.thaw
      go_wp2
      go_ret
      exact M9.out.1.told_acc M9.out.2.1 M9.out.2.2.2 ⟨by simp, by omega, by omega⟩
   ·have d5 : (kd == 5) = false := by simpa using k5
    cases e1 : run L F .expr st.next with
    | none => simp [wordedR, funW, one, ht, e1, k0, k5] at hr
    | some y =>
    obtain ⟨y, s3⟩ := y
    obtain ⟨rfl, rfl⟩ : [Tr.mk 36 [] 0 line [hd y]] = l ∧ endR L s3 = st1 := by simpa [wordedR, funW, one, ht, e1, k0, k5] using hr
    have H1 := Lib.hid (ih .expr _ _ _ e1)
    clear hr e1
    clear k0 k5
    have q_return : ((bs [114, 101, 116, 117, 114, 110]).toList == [114, 101, 116, 117, 114, 110]) = true := by rw [bs_eq]; decide
    clear h hB0 H0
    go_enter Try.func94, Try.ntmps94
    obtain ⟨x0, x1, x2, x3, x4⟩ := M0.out.2.cells
    obtain ⟨q0, q1, q2, q3, q4⟩ := M0.out.2.thaw
    obtain ⟨c0, c1, c2, c3⟩ := M0.out.1.rd.cells
    have fR1 := M0.out.1.rd.thaw 1
    have hw := wrap_next hps M0.out.1.rd.len
    obtain ⟨w2, e2, h2, f2⟩ := M0.out.1.next_ hps
    have z2 := f2.size
    have M2 := Lib.hid (And.intro (M0.out.1.call h2 f2) (M0.out.2.fr f2 (by omega)))
    clear h2 f2
    obtain ⟨x0, x1, x2, x3, x4⟩ := M2.out.2.cells
    obtain ⟨q0, q1, q2, q3, q4⟩ := M2.out.2.thaw
    obtain ⟨w3, e3⟩ : ∃ W, w2.setCell ⟨B, 0, none⟩ (.int .i64 36) = W := ⟨_, rfl⟩
    have m3 := M2.out.1.set 0 (.int .i64 36)
    have i3_0 := M2.out.2.put0 (.int .i64 36)
    have z3 : w2.heap.size ≤ w3.heap.size := by rw [← e3]; simp
    rw [e3] at m3 i3_0
    have M3 := Lib.hid (And.intro m3 (i3_0))
    clear m3 i3_0
    obtain ⟨x0, x1, x2, x3, x4⟩ := M3.out.2.cells
    obtain ⟨q0, q1, q2, q3, q4⟩ := M3.out.2.thaw
    have HQ0 := tok_any 0 w3 M3.out.1.rd (by omega)
    rw [ht] at HQ0
    unfold tokV at HQ0
    have HQ := Lib.hid HQ0
    clear HQ0
    go_wp2_with fail
    go_at_call 55
    refine (HQ.out).mono ?_
    rintro e w4 ⟨rfl, hb⟩
    have f4 := Fr.of_below (R := R) hb (Nat.le_refl _)
    have h4 := M3.out.1.rd.below hb M3.out.1.rd.lt
    have z4 := f4.size
    clear hb
    have M4 := Lib.hid (And.intro (M3.out.1.call h4 f4) (M3.out.2.fr f4 (by omega)))
    clear h4 f4
    clear HQ
    obtain ⟨w5, e5, m5, f5, b5, zq5⟩ := M4.out.1.tok_ kd ts tn ln false
    have z5 : w4.heap.size < w5.heap.size := by omega
    clear zq5
    have M5 := Lib.hid (And.intro m5 (And.intro (M4.out.2.fr f5 (by omega)) (b5)))
    have hl5 := heap_lt b5
    clear m5 f5 b5
    obtain ⟨x0, x1, x2, x3, x4⟩ := M5.out.2.1.cells
    obtain ⟨q0, q1, q2, q3, q4⟩ := M5.out.2.1.thaw
    obtain ⟨t0, t1, t2, t3, t4⟩ := (box_facts M5.out.2.2).1
    have hsame := setCell_same (i := 4) (u := .bool false) M5.out.2.2 rfl
    obtain ⟨tq0, tq1, tq2, tq3, tq4⟩ := (box_facts M5.out.2.2).2
    go_wp2_with fail
    go_at_call 74
    refine (H1.out w5 M5.out.1.rd).mono ?_
    rintro e w6 ⟨v6, rfl, h6, f6, t6⟩
    obtain ⟨A6, c6, rfl, -, -⟩ := t6.form
    have z6 := f6.size
    obtain ⟨w7, e7, m7, f7, b7, zq7⟩ := (M5.out.1.call h6 f6).arr #[.int .i64 (hd y).op, .string (bs (hd y).s), .int .i64 (hd y).n, .slice A6 (hd y).l.length c6, .int .i64 (hd y).line]
    have z7 : w6.heap.size < w7.heap.size := by omega
    clear zq7
    have a7 := AccAt.lit_new (b := w.heap.size) (cs := #[.int .i64 (hd y).op, .string (bs (hd y).s), .int .i64 (hd y).n, .slice A6 (hd y).l.length c6, .int .i64 (hd y).line]) t6 rfl (by omega) (by omega)
    rw [e7] at a7
    have M7 := Lib.hid (And.intro m7 (And.intro ((M5.out.2.1.fr f6 (by omega)).fr f7 (by omega)) (And.intro (blk_fr (blk_fr M5.out.2.2 f6 (by omega)) f7 (by omega)) (a7))))
    clear h6 f6 t6 m7 f7 b7 a7
    obtain ⟨x0, x1, x2, x3, x4⟩ := M7.out.2.1.cells
    obtain ⟨q0, q1, q2, q3, q4⟩ := M7.out.2.1.thaw
    obtain ⟨w8, e8⟩ : ∃ W, w7.setCell ⟨B, 3, none⟩ (.slice (some ⟨w6.heap.size, 0, none⟩) 1 1) = W := ⟨_, rfl⟩
    have m8 := M7.out.1.set 3 (.slice (some ⟨w6.heap.size, 0, none⟩) 1 1)
    have i8_0 := M7.out.2.1.put3 (.slice (some ⟨w6.heap.size, 0, none⟩) 1 1)
    have i8_1 := blk_away (B' := B) M7.out.2.2.1 (by omega) 3 (.slice (some ⟨w6.heap.size, 0, none⟩) 1 1)
    have i8_2 := M7.out.2.2.2.away (b := B) (by omega) 3 (.slice (some ⟨w6.heap.size, 0, none⟩) 1 1)
    have z8 : w7.heap.size ≤ w8.heap.size := by rw [← e8]; simp
    rw [e8] at m8 i8_0 i8_1 i8_2
    have M8 := Lib.hid (And.intro m8 (And.intro i8_0 (And.intro i8_1 (i8_2))))
    clear m8 i8_0 i8_1 i8_2
    obtain ⟨x0, x1, x2, x3, x4⟩ := M8.out.2.1.cells
    obtain ⟨q0, q1, q2, q3, q4⟩ := M8.out.2.1.thaw
    have HQ := Lib.hid (end_any w8 M8.out.1.rd)
    go_wp2_with fail
    go_at_call 75
    refine (HQ.out).mono ?_
    rintro e w9 ⟨rfl, h9, f9⟩
    have z9 := f9.size
    have M9 := Lib.hid (And.intro (M8.out.1.call h9 f9) (And.intro (M8.out.2.1.fr f9 (by omega)) (And.intro (blk_fr M8.out.2.2.1 f9 (by omega)) (M8.out.2.2.2.fr f9 (by omega)))))
    clear h9 f9
    clear HQ
    obtain ⟨x0, x1, x2, x3, x4⟩ := M9.out.2.1.cells
    obtain ⟨q0, q1, q2, q3, q4⟩ := M9.out.2.1.thaw
    go_wp2
    go_ret
    exact M9.out.1.told_acc M9.out.2.1 M9.out.2.2.2 ⟨by simp, by omega, by omega⟩
end
end
end Go.Proofs.Ytejbdoiamhfbjaa
