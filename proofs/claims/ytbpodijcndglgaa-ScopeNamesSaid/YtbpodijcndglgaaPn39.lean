/- The document's reader: worded. -/
import Derived.Deep.RegionHeldLaw
import Derived.Deep.LoopGhost
import Derived.Deep.DeepCutAuto
import Derived.Test.YtbpodijcndglgaaPn37
set_option linter.unusedSimpArgs false
set_option linter.unusedVariables false
set_option maxRecDepth 100000
set_option maxHeartbeats 40000000
namespace Go.Proofs.Ytbpodijcndglgaa
section
open Go.RowKit Go.Proofs
section
variable {R cp : Nat} {A : Option Addr} {L : List Tok} {st : St} {F : Nat}
theorem worded_var (ih : All R A cp L F) (hps : st.pos < L.length) (line : Int) (l : List Tr) (st1 : St) (hr : wordedR L (run L F) line [118, 97, 114] st = some (l, st1)) (w : World) (B : Nat) (h : RdAt w R A cp L st) (hRB : R < B)
  (hB0 : w.heap[B]? = some (.cells #[.int .i64 0, .string ⟨#[]⟩, .int .i64 0, .slice none 0 0, .int .i64 line] 24 (0, 0))) :
  Calls Try.prog 64 #[ptr R, ptr B, .string (bs [118, 97, 114])] w (Told R B A cp L w l st1) := by
 have hBw := heap_lt hB0
 have M0 := Lib.hid (And.intro (Wd.start h hRB hBw) (show Bx w B _ _ _ _ _ from hB0))
 have H0 := h
 cases hq : isR L (nameR L st.next).2 [61] with
 | false =>
  obtain ⟨rfl, rfl⟩ : [Tr.mk 30 (nameR L st.next).1 0 line []] = l ∧ endR L (nameR L st.next).2 = st1 := by simpa [wordedR, one, hq] using hr
  clear hr
  have q_var : ((bs [118, 97, 114]).toList == [118, 97, 114]) = true := by rw [bs_eq]; decide
  clear h hB0 H0
  go_enter Try.func64, Try.ntmps64
  obtain ⟨x0_1, x1_1, x2_1, x3_1, x4_1⟩ := M0.out.2.cells
  obtain ⟨q0_1, q1_1, q2_1, q3_1, q4_1⟩ := M0.out.2.thaw
  obtain ⟨c0, c1, c2, c3⟩ := M0.out.1.rd.cells
  have fR1 := M0.out.1.rd.thaw 1
  have hw := wrap_next hps M0.out.1.rd.len
  obtain ⟨w2, e2, h2, f2⟩ := M0.out.1.next_ hps
  have z2 := f2.size
  have M2 := Lib.hid (And.intro (M0.out.1.call h2 f2) (M0.out.2.fr f2 (by omega)))
  clear h2 f2
  obtain ⟨x0_2, x1_2, x2_2, x3_2, x4_2⟩ := M2.out.2.cells
  obtain ⟨q0_2, q1_2, q2_2, q3_2, q4_2⟩ := M2.out.2.thaw
  obtain ⟨w3, e3⟩ : ∃ W, w2.setCell ⟨B, 0, none⟩ (.int .i64 30) = W := ⟨_, rfl⟩
  have m3 := M2.out.1.set 0 (.int .i64 30)
  have i3_0 := M2.out.2.put0 (.int .i64 30)
  have z3 : w2.heap.size ≤ w3.heap.size := by rw [← e3]; simp
  rw [e3] at m3 i3_0
  have M3 := Lib.hid (And.intro m3 (i3_0))
  clear m3 i3_0
  obtain ⟨x0_3, x1_3, x2_3, x3_3, x4_3⟩ := M3.out.2.cells
  obtain ⟨q0_3, q1_3, q2_3, q3_3, q4_3⟩ := M3.out.2.thaw
  have HQ := Lib.hid (name_any w3 M3.out.1.rd)
  have hnl := name_len M3.out.1.rd
  go_wp2_with fail
  go_at_call 81
  refine (HQ.out).mono ?_
  rintro e w4 ⟨rfl, h4, f4⟩
  have z4 := f4.size
  have M4 := Lib.hid (And.intro (M3.out.1.call h4 f4) (M3.out.2.fr f4 (by omega)))
  clear h4 f4
  clear x0_1 x1_1 x2_1 x3_1 x4_1 q0_1 q1_1 q2_1 q3_1 q4_1 x0_2 x1_2 x2_2 x3_2 x4_2 q0_2 q1_2 q2_2 q3_2 q4_2 x0_3 x1_3 x2_3 x3_3 x4_3 q0_3 q1_3 q2_3 q3_3 q4_3
  clear c0 c1 c2 c3 fR1 hw
  clear HQ
  obtain ⟨x0_4, x1_4, x2_4, x3_4, x4_4⟩ := M4.out.2.cells
  obtain ⟨q0_4, q1_4, q2_4, q3_4, q4_4⟩ := M4.out.2.thaw
  obtain ⟨w5, e5⟩ : ∃ W, w4.setCell ⟨B, 1, none⟩ (.string (bs (nameR L (st.next)).1)) = W := ⟨_, rfl⟩
  have m5 := M4.out.1.set 1 (.string (bs (nameR L (st.next)).1))
  have i5_0 := M4.out.2.put1 (.string (bs (nameR L (st.next)).1))
  have z5 : w4.heap.size ≤ w5.heap.size := by rw [← e5]; simp
  rw [e5] at m5 i5_0
  have M5 := Lib.hid (And.intro m5 (i5_0))
  clear m5 i5_0
  obtain ⟨x0_5, x1_5, x2_5, x3_5, x4_5⟩ := M5.out.2.cells
  obtain ⟨q0_5, q1_5, q2_5, q3_5, q4_5⟩ := M5.out.2.thaw
  have HQ0 := take_any [61] ⟨#[61]⟩ rfl w5 M5.out.1.rd
  unfold takeR at HQ0
  rw [hq] at HQ0
  have HQ := Lib.hid HQ0
  clear HQ0
  go_wp2_with fail
  go_at_call 48
  refine (HQ.out).mono ?_
  rintro e w6 ⟨rfl, h6, f6⟩
  have h6 : RdAt w6 R A cp L ((nameR L st.next).2) := h6
  have z6 := f6.size
  have M6 := Lib.hid (And.intro (M5.out.1.call h6 f6) (M5.out.2.fr f6 (by omega)))
  clear h6 f6
  clear x0_4 x1_4 x2_4 x3_4 x4_4 q0_4 q1_4 q2_4 q3_4 q4_4 x0_5 x1_5 x2_5 x3_5 x4_5 q0_5 q1_5 q2_5 q3_5 q4_5
  clear HQ
  obtain ⟨x0_6, x1_6, x2_6, x3_6, x4_6⟩ := M6.out.2.cells
  obtain ⟨q0_6, q1_6, q2_6, q3_6, q4_6⟩ := M6.out.2.thaw
  have HQ := Lib.hid (end_any w6 M6.out.1.rd)
  go_wp2_with fail
  go_at_call 66
  refine (HQ.out).mono ?_
  rintro e w7 ⟨rfl, h7, f7⟩
  have z7 := f7.size
  have M7 := Lib.hid (And.intro (M6.out.1.call h7 f7) (M6.out.2.fr f7 (by omega)))
  clear h7 f7
  clear x0_6 x1_6 x2_6 x3_6 x4_6 q0_6 q1_6 q2_6 q3_6 q4_6
  clear HQ
  obtain ⟨x0_7, x1_7, x2_7, x3_7, x4_7⟩ := M7.out.2.cells
  obtain ⟨q0_7, q1_7, q2_7, q3_7, q4_7⟩ := M7.out.2.thaw
  go_wp2
  go_ret
  exact M7.out.1.told_nil M7.out.2 (fine_s hnl (by omega))
 | true =>
  cases e1 : run L F .expr (nameR L st.next).2.next with
  | none => simp [wordedR, one, hq, e1] at hr
  | some y =>
  obtain ⟨y, s3⟩ := y
  obtain ⟨rfl, rfl⟩ : [Tr.mk 30 (nameR L st.next).1 0 line [hd y]] = l ∧ endR L s3 = st1 := by simpa [wordedR, one, hq, e1] using hr
  have H1 := Lib.hid (ih .expr _ _ _ e1)
  clear hr e1
  have q_var : ((bs [118, 97, 114]).toList == [118, 97, 114]) = true := by rw [bs_eq]; decide
  clear h hB0 H0
  go_enter Try.func64, Try.ntmps64
  obtain ⟨x0_1, x1_1, x2_1, x3_1, x4_1⟩ := M0.out.2.cells
  obtain ⟨q0_1, q1_1, q2_1, q3_1, q4_1⟩ := M0.out.2.thaw
  obtain ⟨c0, c1, c2, c3⟩ := M0.out.1.rd.cells
  have fR1 := M0.out.1.rd.thaw 1
  have hw := wrap_next hps M0.out.1.rd.len
  obtain ⟨w2, e2, h2, f2⟩ := M0.out.1.next_ hps
  have z2 := f2.size
  have M2 := Lib.hid (And.intro (M0.out.1.call h2 f2) (M0.out.2.fr f2 (by omega)))
  clear h2 f2
  obtain ⟨x0_2, x1_2, x2_2, x3_2, x4_2⟩ := M2.out.2.cells
  obtain ⟨q0_2, q1_2, q2_2, q3_2, q4_2⟩ := M2.out.2.thaw
  obtain ⟨w3, e3⟩ : ∃ W, w2.setCell ⟨B, 0, none⟩ (.int .i64 30) = W := ⟨_, rfl⟩
  have m3 := M2.out.1.set 0 (.int .i64 30)
  have i3_0 := M2.out.2.put0 (.int .i64 30)
  have z3 : w2.heap.size ≤ w3.heap.size := by rw [← e3]; simp
  rw [e3] at m3 i3_0
  have M3 := Lib.hid (And.intro m3 (i3_0))
  clear m3 i3_0
  obtain ⟨x0_3, x1_3, x2_3, x3_3, x4_3⟩ := M3.out.2.cells
  obtain ⟨q0_3, q1_3, q2_3, q3_3, q4_3⟩ := M3.out.2.thaw
  have HQ := Lib.hid (name_any w3 M3.out.1.rd)
  have hnl := name_len M3.out.1.rd
  go_wp2_with fail
  go_at_call 81
  refine (HQ.out).mono ?_
  rintro e w4 ⟨rfl, h4, f4⟩
  have z4 := f4.size
  have M4 := Lib.hid (And.intro (M3.out.1.call h4 f4) (M3.out.2.fr f4 (by omega)))
  clear h4 f4
  clear x0_1 x1_1 x2_1 x3_1 x4_1 q0_1 q1_1 q2_1 q3_1 q4_1 x0_2 x1_2 x2_2 x3_2 x4_2 q0_2 q1_2 q2_2 q3_2 q4_2 x0_3 x1_3 x2_3 x3_3 x4_3 q0_3 q1_3 q2_3 q3_3 q4_3
  clear c0 c1 c2 c3 fR1 hw
  clear HQ
  obtain ⟨x0_4, x1_4, x2_4, x3_4, x4_4⟩ := M4.out.2.cells
  obtain ⟨q0_4, q1_4, q2_4, q3_4, q4_4⟩ := M4.out.2.thaw
  obtain ⟨w5, e5⟩ : ∃ W, w4.setCell ⟨B, 1, none⟩ (.string (bs (nameR L (st.next)).1)) = W := ⟨_, rfl⟩
  have m5 := M4.out.1.set 1 (.string (bs (nameR L (st.next)).1))
  have i5_0 := M4.out.2.put1 (.string (bs (nameR L (st.next)).1))
  have z5 : w4.heap.size ≤ w5.heap.size := by rw [← e5]; simp
  rw [e5] at m5 i5_0
  have M5 := Lib.hid (And.intro m5 (i5_0))
  clear m5 i5_0
  obtain ⟨x0_5, x1_5, x2_5, x3_5, x4_5⟩ := M5.out.2.cells
  obtain ⟨q0_5, q1_5, q2_5, q3_5, q4_5⟩ := M5.out.2.thaw
  have HQ0 := take_any [61] ⟨#[61]⟩ rfl w5 M5.out.1.rd
  unfold takeR at HQ0
  rw [hq] at HQ0
  have HQ := Lib.hid HQ0
  clear HQ0
  go_wp2_with fail
  go_at_call 48
  refine (HQ.out).mono ?_
  rintro e w6 ⟨rfl, h6, f6⟩
  have h6 : RdAt w6 R A cp L ((nameR L st.next).2.next) := h6
  have z6 := f6.size
  have M6 := Lib.hid (And.intro (M5.out.1.call h6 f6) (M5.out.2.fr f6 (by omega)))
  clear h6 f6
  clear x0_4 x1_4 x2_4 x3_4 x4_4 q0_4 q1_4 q2_4 q3_4 q4_4 x0_5 x1_5 x2_5 x3_5 x4_5 q0_5 q1_5 q2_5 q3_5 q4_5
  clear HQ
  obtain ⟨x0_6, x1_6, x2_6, x3_6, x4_6⟩ := M6.out.2.cells
  obtain ⟨q0_6, q1_6, q2_6, q3_6, q4_6⟩ := M6.out.2.thaw
  go_wp2_with fail
  go_at_call 65
  refine (H1.out w6 M6.out.1.rd).mono ?_
  rintro e w7 ⟨v7, rfl, h7, f7, t7⟩
  obtain ⟨A7, c7, rfl, -, -⟩ := t7.form
  have z7 := f7.size
  obtain ⟨w8, e8, m8, f8, b8, zq8⟩ := (M6.out.1.call h7 f7).arr #[.int .i64 (hd y).op, .string (bs (hd y).s), .int .i64 (hd y).n, .slice A7 (hd y).l.length c7, .int .i64 (hd y).line]
  have z8 : w7.heap.size < w8.heap.size := by omega
  clear zq8
  have a8 := AccAt.lit_new (b := w.heap.size) (cs := #[.int .i64 (hd y).op, .string (bs (hd y).s), .int .i64 (hd y).n, .slice A7 (hd y).l.length c7, .int .i64 (hd y).line]) t7 rfl (by omega) (by omega)
  rw [e8] at a8
  have M8 := Lib.hid (And.intro m8 (And.intro ((M6.out.2.fr f7 (by omega)).fr f8 (by omega)) (a8)))
  clear h7 f7 t7 m8 f8 b8 a8
  clear x0_6 x1_6 x2_6 x3_6 x4_6 q0_6 q1_6 q2_6 q3_6 q4_6
  obtain ⟨x0_7, x1_7, x2_7, x3_7, x4_7⟩ := M8.out.2.1.cells
  obtain ⟨q0_7, q1_7, q2_7, q3_7, q4_7⟩ := M8.out.2.1.thaw
  obtain ⟨w9, e9⟩ : ∃ W, w8.setCell ⟨B, 3, none⟩ (.slice (some ⟨w7.heap.size, 0, none⟩) 1 1) = W := ⟨_, rfl⟩
  have m9 := M8.out.1.set 3 (.slice (some ⟨w7.heap.size, 0, none⟩) 1 1)
  have i9_0 := M8.out.2.1.put3 (.slice (some ⟨w7.heap.size, 0, none⟩) 1 1)
  have i9_1 := M8.out.2.2.away (b := B) (by omega) 3 (.slice (some ⟨w7.heap.size, 0, none⟩) 1 1)
  have z9 : w8.heap.size ≤ w9.heap.size := by rw [← e9]; simp
  rw [e9] at m9 i9_0 i9_1
  have M9 := Lib.hid (And.intro m9 (And.intro i9_0 (i9_1)))
  clear m9 i9_0 i9_1
  obtain ⟨x0_8, x1_8, x2_8, x3_8, x4_8⟩ := M9.out.2.1.cells
  obtain ⟨q0_8, q1_8, q2_8, q3_8, q4_8⟩ := M9.out.2.1.thaw
  have HQ := Lib.hid (end_any w9 M9.out.1.rd)
  go_wp2_with fail
  go_at_call 66
  refine (HQ.out).mono ?_
  rintro e w10 ⟨rfl, h10, f10⟩
  have z10 := f10.size
  have M10 := Lib.hid (And.intro (M9.out.1.call h10 f10) (And.intro (M9.out.2.1.fr f10 (by omega)) (M9.out.2.2.fr f10 (by omega))))
  clear h10 f10
  clear x0_7 x1_7 x2_7 x3_7 x4_7 q0_7 q1_7 q2_7 q3_7 q4_7 x0_8 x1_8 x2_8 x3_8 x4_8 q0_8 q1_8 q2_8 q3_8 q4_8
  clear HQ
  obtain ⟨x0_9, x1_9, x2_9, x3_9, x4_9⟩ := M10.out.2.1.cells
  obtain ⟨q0_9, q1_9, q2_9, q3_9, q4_9⟩ := M10.out.2.1.thaw
  go_wp2
  go_ret
  exact M10.out.1.told_acc M10.out.2.1 M10.out.2.2 (fine_s hnl (by omega))
theorem worded_function (ih : All R A cp L F) (hps : st.pos < L.length) (line : Int) (l : List Tr) (st1 : St) (hr : wordedR L (run L F) line [102, 117, 110, 99, 116, 105, 111, 110] st = some (l, st1)) (w : World) (B : Nat) (h : RdAt w R A cp L st) (hRB : R < B)
  (hB0 : w.heap[B]? = some (.cells #[.int .i64 0, .string ⟨#[]⟩, .int .i64 0, .slice none 0 0, .int .i64 line] 24 (0, 0))) :
  Calls Try.prog 64 #[ptr R, ptr B, .string (bs [102, 117, 110, 99, 116, 105, 111, 110])] w (Told R B A cp L w l st1) := by
 have hBw := heap_lt hB0
 have M0 := Lib.hid (And.intro (Wd.start h hRB hBw) (show Bx w B _ _ _ _ _ from hB0))
 have H0 := h
 cases e1 : run L F .rest (nameR L st.next).2 with
 | none => simp [wordedR, funW, one, e1] at hr
 | some y =>
 obtain ⟨y, s3⟩ := y
 obtain ⟨rfl, rfl⟩ : [Tr.mk 41 (nameR L st.next).1 0 line y] = l ∧ s3 = st1 := by simpa [wordedR, funW, one, e1] using hr
 have H1 := Lib.hid (ih .rest _ _ _ e1)
 clear hr e1
 have q_var : ((bs [102, 117, 110, 99, 116, 105, 111, 110]).toList == [118, 97, 114]) = false := by rw [bs_eq]; decide
 have q_if : ((bs [102, 117, 110, 99, 116, 105, 111, 110]).toList == [105, 102]) = false := by rw [bs_eq]; decide
 have q_while : ((bs [102, 117, 110, 99, 116, 105, 111, 110]).toList == [119, 104, 105, 108, 101]) = false := by rw [bs_eq]; decide
 have q_for : ((bs [102, 117, 110, 99, 116, 105, 111, 110]).toList == [102, 111, 114]) = false := by rw [bs_eq]; decide
 have q_try : ((bs [102, 117, 110, 99, 116, 105, 111, 110]).toList == [116, 114, 121]) = false := by rw [bs_eq]; decide
 have q_function : ((bs [102, 117, 110, 99, 116, 105, 111, 110]).toList == [102, 117, 110, 99, 116, 105, 111, 110]) = true := by rw [bs_eq]; decide
 clear h hB0 H0
 go_enter Try.func64, Try.ntmps64
 obtain ⟨x0_1, x1_1, x2_1, x3_1, x4_1⟩ := M0.out.2.cells
 obtain ⟨q0_1, q1_1, q2_1, q3_1, q4_1⟩ := M0.out.2.thaw
 obtain ⟨c0, c1, c2, c3⟩ := M0.out.1.rd.cells
 have fR1 := M0.out.1.rd.thaw 1
 have hw := wrap_next hps M0.out.1.rd.len
 obtain ⟨w2, e2, h2, f2⟩ := M0.out.1.next_ hps
 have z2 := f2.size
 have M2 := Lib.hid (And.intro (M0.out.1.call h2 f2) (M0.out.2.fr f2 (by omega)))
 clear h2 f2
 obtain ⟨x0_2, x1_2, x2_2, x3_2, x4_2⟩ := M2.out.2.cells
 obtain ⟨q0_2, q1_2, q2_2, q3_2, q4_2⟩ := M2.out.2.thaw
 obtain ⟨w3, e3⟩ : ∃ W, w2.setCell ⟨B, 0, none⟩ (.int .i64 41) = W := ⟨_, rfl⟩
 have m3 := M2.out.1.set 0 (.int .i64 41)
 have i3_0 := M2.out.2.put0 (.int .i64 41)
 have z3 : w2.heap.size ≤ w3.heap.size := by rw [← e3]; simp
 rw [e3] at m3 i3_0
 have M3 := Lib.hid (And.intro m3 (i3_0))
 clear m3 i3_0
 obtain ⟨x0_3, x1_3, x2_3, x3_3, x4_3⟩ := M3.out.2.cells
 obtain ⟨q0_3, q1_3, q2_3, q3_3, q4_3⟩ := M3.out.2.thaw
 have HQ := Lib.hid (name_any w3 M3.out.1.rd)
 have hnl := name_len M3.out.1.rd
 go_wp2_with fail
 go_at_call 81
 refine (HQ.out).mono ?_
 rintro e w4 ⟨rfl, h4, f4⟩
 have z4 := f4.size
 have M4 := Lib.hid (And.intro (M3.out.1.call h4 f4) (M3.out.2.fr f4 (by omega)))
 clear h4 f4
 clear x0_1 x1_1 x2_1 x3_1 x4_1 q0_1 q1_1 q2_1 q3_1 q4_1 x0_2 x1_2 x2_2 x3_2 x4_2 q0_2 q1_2 q2_2 q3_2 q4_2 x0_3 x1_3 x2_3 x3_3 x4_3 q0_3 q1_3 q2_3 q3_3 q4_3
 clear c0 c1 c2 c3 fR1 hw
 clear HQ
 obtain ⟨x0_4, x1_4, x2_4, x3_4, x4_4⟩ := M4.out.2.cells
 obtain ⟨q0_4, q1_4, q2_4, q3_4, q4_4⟩ := M4.out.2.thaw
 obtain ⟨w5, e5⟩ : ∃ W, w4.setCell ⟨B, 1, none⟩ (.string (bs (nameR L (st.next)).1)) = W := ⟨_, rfl⟩
 have m5 := M4.out.1.set 1 (.string (bs (nameR L (st.next)).1))
 have i5_0 := M4.out.2.put1 (.string (bs (nameR L (st.next)).1))
 have z5 : w4.heap.size ≤ w5.heap.size := by rw [← e5]; simp
 rw [e5] at m5 i5_0
 have M5 := Lib.hid (And.intro m5 (i5_0))
 clear m5 i5_0
 obtain ⟨x0_5, x1_5, x2_5, x3_5, x4_5⟩ := M5.out.2.cells
 obtain ⟨q0_5, q1_5, q2_5, q3_5, q4_5⟩ := M5.out.2.thaw
 go_wp2_with fail
 go_at_call 84
 refine (H1.out w5 M5.out.1.rd).mono ?_
 rintro e w6 ⟨v6, rfl, h6, f6, t6⟩
 obtain ⟨A6, c6, rfl, -, -⟩ := t6.slice
 have z6 := f6.size
 have M6 := Lib.hid (And.intro (M5.out.1.call h6 f6) (And.intro (M5.out.2.fr f6 (by omega)) (t6.af (B := w.heap.size - 1) (by omega))))
 clear h6 f6 t6
 obtain ⟨x0_6, x1_6, x2_6, x3_6, x4_6⟩ := M6.out.2.1.cells
 obtain ⟨q0_6, q1_6, q2_6, q3_6, q4_6⟩ := M6.out.2.1.thaw
 obtain ⟨w7, e7⟩ : ∃ W, w6.setCell ⟨B, 3, none⟩ (.slice A6 y.length c6) = W := ⟨_, rfl⟩
 have m7 := M6.out.1.set 3 (.slice A6 y.length c6)
 have i7_0 := M6.out.2.1.put3 (.slice A6 y.length c6)
 have i7_1 := M6.out.2.2.setlo (B := B) (by omega) 3 (.slice A6 y.length c6)
 have z7 : w6.heap.size ≤ w7.heap.size := by rw [← e7]; simp
 rw [e7] at m7 i7_0 i7_1
 have M7 := Lib.hid (And.intro m7 (And.intro i7_0 (i7_1)))
 clear m7 i7_0 i7_1
 obtain ⟨x0_7, x1_7, x2_7, x3_7, x4_7⟩ := M7.out.2.1.cells
 obtain ⟨q0_7, q1_7, q2_7, q3_7, q4_7⟩ := M7.out.2.1.thaw
 go_wp2
 go_ret
 exact M7.out.1.told M7.out.2.1 M7.out.2.2 (by omega) (fine_s hnl (by omega))
end
end
end Go.Proofs.Ytbpodijcndglgaa
