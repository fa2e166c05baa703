/- The document's reader: worded. -/
import Derived.Deep.RegionHeldLaw
import Derived.Deep.LoopGhost
import Derived.Deep.DeepCutAuto
import Derived.Test.YtejbdoiamhfbjaaPm15
set_option linter.unusedSimpArgs false
set_option linter.unusedVariables false
set_option maxRecDepth 100000
set_option maxHeartbeats 4000000
namespace Go.Proofs.Ytejbdoiamhfbjaa
section
open Go.RowKit Go.Proofs
section
variable {R cp : Nat} {A : Option Addr} {L : List Tok} {st : St} {F : Nat}
theorem worded_for2 (ih : All R A cp L F) (hps : st.pos < L.length) (hv : isR L (mustR L st.next [40]) [118, 97, 114] = false) (ts : Bs) (tn : Int) (ln : Nat) (nl : Bool) (ht : tokR L (mustR L st.next [40]) 0 = ⟨0, ts, tn, ln, nl⟩) (line : Int) (l : List Tr) (st1 : St) (hr : wordedR L (run L F) line [102, 111, 114] st = some (l, st1)) (w : World) (B : Nat) (h : RdAt w R A cp L st) (hRB : R < B)
  (hB0 : w.heap[B]? = some (.cells #[.int .i64 0, .string ⟨#[]⟩, .int .i64 0, .slice none 0 0, .int .i64 line] 24 (0, 0))) :
  Calls Try.prog 73 #[ptr R, ptr B, .string (bs [102, 111, 114])] w (Told R B A cp L w l st1) := by
 have hBw := heap_lt hB0
 have M0 := Lib.hid (And.intro (Wd.start h hRB hBw) (show Bx w B _ _ _ _ _ from hB0))
 have H0 := h
 obtain ⟨s0, hs0⟩ : ∃ x, failR L (stopR L (mustR L st.next [40]) false) 47 = x := ⟨_, rfl⟩
 cases e1 : run L F .expr (mustR L (nameR L s0).2 [105, 110]) with
 | none => simp [wordedR, one, hv, ht, hs0, e1] at hr
 | some y =>
 obtain ⟨y, s2⟩ := y
 cases e2 : run L F .within (mustR L s2 [41]) with
 | none => simp [wordedR, one, hv, ht, hs0, e1, e2] at hr
 | some z =>
 obtain ⟨z, s3⟩ := z
 obtain ⟨rfl, rfl⟩ : [Tr.mk 35 (nameR L s0).1 0 line [hd y, hd z]] = l ∧ s3 = st1 := by simpa [wordedR, one, hv, ht, hs0, e1, e2] using hr
 have H1 := Lib.hid (ih .expr _ _ _ e1)
 have H2 := Lib.hid (ih .within _ _ _ e2)
 subst hs0
 clear hr e1 e2
 have q_var : ((bs [102, 111, 114]).toList == [118, 97, 114]) = false := by rw [bs_eq]; decide
 have q_if : ((bs [102, 111, 114]).toList == [105, 102]) = false := by rw [bs_eq]; decide
 have q_while : ((bs [102, 111, 114]).toList == [119, 104, 105, 108, 101]) = false := by rw [bs_eq]; decide
 have q_for : ((bs [102, 111, 114]).toList == [102, 111, 114]) = true := by rw [bs_eq]; decide
 clear h hB0 H0
 go_enter Try.func73, Try.ntmps73
 obtain ⟨x0_1, x1_1, x2_1, x3_1, x4_1⟩ := M0.out.2.cells
 obtain ⟨q0_1, q1_1, q2_1, q3_1, q4_1⟩ := M0.out.2.thaw
 obtain ⟨c0, c1, c2, c3⟩ := M0.out.1.rd.cells
 have fR1 := M0.out.1.rd.thaw 1
 have hw := wrap_next hps M0.out.1.rd.len
 obtain ⟨w2, e2, h2, f2⟩ := M0.out.1.next_ hps
 have z2 := f2.size
 have M2 := Lib.hid (And.intro (M0.out.1.call h2 f2) (M0.out.2.fr f2 (by omega)))
 clear h2 f2
 obtain ⟨x0_2, x1_2, x2_2, x3_2, x4_2⟩ := M2.out.2.cells
 obtain ⟨q0_2, q1_2, q2_2, q3_2, q4_2⟩ := M2.out.2.thaw
 obtain ⟨w3, e3⟩ : ∃ W, w2.setCell ⟨B, 0, none⟩ (.int .i64 35) = W := ⟨_, rfl⟩
 have m3 := M2.out.1.set 0 (.int .i64 35)
 have i3_0 := M2.out.2.put0 (.int .i64 35)
 have z3 : w2.heap.size ≤ w3.heap.size := by rw [← e3]; simp
 rw [e3] at m3 i3_0
 have M3 := Lib.hid (And.intro m3 (i3_0))
 clear m3 i3_0
 obtain ⟨x0_3, x1_3, x2_3, x3_3, x4_3⟩ := M3.out.2.cells
 obtain ⟨q0_3, q1_3, q2_3, q3_3, q4_3⟩ := M3.out.2.thaw
 have HQ := Lib.hid (must_any [40] ⟨#[40]⟩ rfl w3 M3.out.1.rd)
 go_wp2_with fail
 go_at_call 89
 refine (HQ.out).mono ?_
 rintro e w4 ⟨rfl, h4, f4⟩
 have z4 := f4.size
 have M4 := Lib.hid (And.intro (M3.out.1.call h4 f4) (M3.out.2.fr f4 (by omega)))
 clear h4 f4
 clear x0_1 x1_1 x2_1 x3_1 x4_1 q0_1 q1_1 q2_1 q3_1 q4_1 x0_2 x1_2 x2_2 x3_2 x4_2 q0_2 q1_2 q2_2 q3_2 q4_2 x0_3 x1_3 x2_3 x3_3 x4_3 q0_3 q1_3 q2_3 q3_3 q4_3
 clear c0 c1 c2 c3 fR1 hw
 clear HQ
 have HQ0 := take_any [118, 97, 114] ⟨#[118, 97, 114]⟩ rfl w4 M4.out.1.rd
 unfold takeR at HQ0
 rw [hv] at HQ0
 have HQ := Lib.hid HQ0
 clear HQ0
 go_wp2_with fail
 go_at_call 57
 refine (HQ.out).mono ?_
 rintro e w5 ⟨rfl, h5, f5⟩
 have h5 : RdAt w5 R A cp L ((mustR L st.next [40])) := h5
 have z5 := f5.size
 have M5 := Lib.hid (And.intro (M4.out.1.call h5 f5) (M4.out.2.fr f5 (by omega)))
 clear h5 f5
 clear HQ
 have HQ0 := tok_any 0 w5 M5.out.1.rd (by omega)
 rw [ht] at HQ0
 unfold tokV at HQ0
 have HQ := Lib.hid HQ0
 clear HQ0
 go_wp2_with fail
 go_at_call 55
 refine (HQ.out).mono ?_
 rintro e w6 ⟨rfl, hb⟩
 have f6 := Fr.of_below (R := R) hb (Nat.le_refl _)
 have h6 := M5.out.1.rd.below hb M5.out.1.rd.lt
 have z6 := f6.size
 clear hb
 have M6 := Lib.hid (And.intro (M5.out.1.call h6 f6) (M5.out.2.fr f6 (by omega)))
 clear h6 f6
 clear HQ
 have fk := tok_kind 0 ts tn ln nl w6
 have HQ := Lib.hid (stop_any false w6 M6.out.1.rd)
 go_wp2_with fail
 go_at_call 45
 refine (HQ.out).mono ?_
 rintro e w7 ⟨rfl, h7, f7⟩
 have z7 := f7.size
 have M7 := Lib.hid (And.intro (M6.out.1.call h7 f7) (M6.out.2.fr f7 (by omega)))
 clear h7 f7
 clear HQ
 have HQ := Lib.hid (fail_any 47 w7 M7.out.1.rd)
 go_wp2_with fail
 go_at_call 59
 refine (HQ.out).mono ?_
 rintro e w8 ⟨rfl, h8, f8⟩
 have z8 := f8.size
 have M8 := Lib.hid (And.intro (M7.out.1.call h8 f8) (M7.out.2.fr f8 (by omega)))
 clear h8 f8
 clear HQ
 obtain ⟨x0_4, x1_4, x2_4, x3_4, x4_4⟩ := M8.out.2.cells
 obtain ⟨q0_4, q1_4, q2_4, q3_4, q4_4⟩ := M8.out.2.thaw
 have HQ := Lib.hid (name_any w8 M8.out.1.rd)
 have hnl := name_len M8.out.1.rd
 go_wp2_with fail
 go_at_call 90
 refine (HQ.out).mono ?_
 rintro e w9 ⟨rfl, h9, f9⟩
 have z9 := f9.size
 have M9 := Lib.hid (And.intro (M8.out.1.call h9 f9) (M8.out.2.fr f9 (by omega)))
 clear h9 f9
 clear x0_4 x1_4 x2_4 x3_4 x4_4 q0_4 q1_4 q2_4 q3_4 q4_4
 clear HQ
 obtain ⟨x0_5, x1_5, x2_5, x3_5, x4_5⟩ := M9.out.2.cells
 obtain ⟨q0_5, q1_5, q2_5, q3_5, q4_5⟩ := M9.out.2.thaw
 obtain ⟨w10, e10⟩ : ∃ W, w9.setCell ⟨B, 1, none⟩ (.string (bs (nameR L (failR L (stopR L (mustR L st.next [40]) false) 47)).1)) = W := ⟨_, rfl⟩
 have m10 := M9.out.1.set 1 (.string (bs (nameR L (failR L (stopR L (mustR L st.next [40]) false) 47)).1))
 have i10_0 := M9.out.2.put1 (.string (bs (nameR L (failR L (stopR L (mustR L st.next [40]) false) 47)).1))
 have z10 : w9.heap.size ≤ w10.heap.size := by rw [← e10]; simp
 rw [e10] at m10 i10_0
 have M10 := Lib.hid (And.intro m10 (i10_0))
 clear m10 i10_0
 obtain ⟨x0_6, x1_6, x2_6, x3_6, x4_6⟩ := M10.out.2.cells
 obtain ⟨q0_6, q1_6, q2_6, q3_6, q4_6⟩ := M10.out.2.thaw
 have HQ := Lib.hid (must_any [105, 110] ⟨#[105, 110]⟩ rfl w10 M10.out.1.rd)
 go_wp2_with fail
 go_at_call 89
 refine (HQ.out).mono ?_
 rintro e w11 ⟨rfl, h11, f11⟩
 have z11 := f11.size
 have M11 := Lib.hid (And.intro (M10.out.1.call h11 f11) (M10.out.2.fr f11 (by omega)))
 clear h11 f11
 clear x0_5 x1_5 x2_5 x3_5 x4_5 q0_5 q1_5 q2_5 q3_5 q4_5 x0_6 x1_6 x2_6 x3_6 x4_6 q0_6 q1_6 q2_6 q3_6 q4_6
 clear HQ
 obtain ⟨x0_7, x1_7, x2_7, x3_7, x4_7⟩ := M11.out.2.cells
 obtain ⟨q0_7, q1_7, q2_7, q3_7, q4_7⟩ := M11.out.2.thaw
 go_wp2_with fail
 go_at_call 74
 refine (H1.out w11 M11.out.1.rd).mono ?_
 rintro e w12 ⟨v12, rfl, h12, f12, t12⟩
 obtain ⟨A12, c12, rfl, -, -⟩ := t12.form
 have z12 := f12.size
 obtain ⟨w13, e13, m13, f13, b13, zq13⟩ := (M11.out.1.call h12 f12).arr #[.int .i64 (hd y).op, .string (bs (hd y).s), .int .i64 (hd y).n, .slice A12 (hd y).l.length c12, .int .i64 (hd y).line]
 have z13 : w12.heap.size < w13.heap.size := by omega
 clear zq13
 have a13 := AccAt.lit_new (b := w.heap.size) (cs := #[.int .i64 (hd y).op, .string (bs (hd y).s), .int .i64 (hd y).n, .slice A12 (hd y).l.length c12, .int .i64 (hd y).line]) t12 rfl (by omega) (by omega)
 rw [e13] at a13
 have M13 := Lib.hid (And.intro m13 (And.intro ((M11.out.2.fr f12 (by omega)).fr f13 (by omega)) (a13)))
 clear h12 f12 t12 m13 f13 b13 a13
 clear x0_7 x1_7 x2_7 x3_7 x4_7 q0_7 q1_7 q2_7 q3_7 q4_7
 obtain ⟨x0_8, x1_8, x2_8, x3_8, x4_8⟩ := M13.out.2.1.cells
 obtain ⟨q0_8, q1_8, q2_8, q3_8, q4_8⟩ := M13.out.2.1.thaw
 obtain ⟨w14, e14⟩ : ∃ W, w13.setCell ⟨B, 3, none⟩ (.slice (some ⟨w12.heap.size, 0, none⟩) 1 1) = W := ⟨_, rfl⟩
 have m14 := M13.out.1.set 3 (.slice (some ⟨w12.heap.size, 0, none⟩) 1 1)
 have i14_0 := M13.out.2.1.put3 (.slice (some ⟨w12.heap.size, 0, none⟩) 1 1)
 have i14_1 := M13.out.2.2.away (b := B) (by omega) 3 (.slice (some ⟨w12.heap.size, 0, none⟩) 1 1)
 have z14 : w13.heap.size ≤ w14.heap.size := by rw [← e14]; simp
 rw [e14] at m14 i14_0 i14_1
 have M14 := Lib.hid (And.intro m14 (And.intro i14_0 (i14_1)))
 clear m14 i14_0 i14_1
 obtain ⟨x0_9, x1_9, x2_9, x3_9, x4_9⟩ := M14.out.2.1.cells
 obtain ⟨q0_9, q1_9, q2_9, q3_9, q4_9⟩ := M14.out.2.1.thaw
 have HQ := Lib.hid (must_any [41] ⟨#[41]⟩ rfl w14 M14.out.1.rd)
 go_wp2_with fail
 go_at_call 89
 refine (HQ.out).mono ?_
 rintro e w15 ⟨rfl, h15, f15⟩
 have z15 := f15.size
 have M15 := Lib.hid (And.intro (M14.out.1.call h15 f15) (And.intro (M14.out.2.1.fr f15 (by omega)) (M14.out.2.2.fr f15 (by omega))))
 clear h15 f15
 clear x0_8 x1_8 x2_8 x3_8 x4_8 q0_8 q1_8 q2_8 q3_8 q4_8 x0_9 x1_9 x2_9 x3_9 x4_9 q0_9 q1_9 q2_9 q3_9 q4_9
 clear HQ
 obtain ⟨x0_10, x1_10, x2_10, x3_10, x4_10⟩ := M15.out.2.1.cells
 obtain ⟨q0_10, q1_10, q2_10, q3_10, q4_10⟩ := M15.out.2.1.thaw
 have hBk : B < w15.heap.size := by omega
 have zd : w15.heap.size ≤ w15.drew.heap.size := Nat.le_refl _
 have MD := Lib.hid (And.intro M15.out.1.drew (And.intro (M15.out.2.1.fr ((Only.refl (fun k => k = R) w15).drew) (by omega)) (M15.out.2.2.fr ((Only.refl (fun k => k = R) w15).drew) (by omega))))
 have zda : w15.drew.heap.size < (w15.drew.alloc (.cells #[.int .i64 0, .string ⟨#[]⟩, .int .i64 0, .slice none 0 0, .int .i64 0] 24)).heap.size := by simp
 have zde : (w15.drew.alloc (.cells #[.int .i64 0, .string ⟨#[]⟩, .int .i64 0, .slice none 0 0, .int .i64 0] 24)).heap.size = w15.drew.heap.size + 1 := by simp
 have MA := Lib.hid (And.intro (MD.out.1.call (MD.out.1.rd.alloc _) (Only.alloc (F := fun k => k = R) w15.drew (.cells #[.int .i64 0, .string ⟨#[]⟩, .int .i64 0, .slice none 0 0, .int .i64 0] 24))) (And.intro (MD.out.2.1.fr (Only.alloc (F := fun k => k = R) w15.drew (.cells #[.int .i64 0, .string ⟨#[]⟩, .int .i64 0, .slice none 0 0, .int .i64 0] 24)) (by omega)) (And.intro (MD.out.2.2.fr (Only.alloc (F := fun k => k = R) w15.drew (.cells #[.int .i64 0, .string ⟨#[]⟩, .int .i64 0, .slice none 0 0, .int .i64 0] 24)) (by omega)) (heap_alloc_new w15.drew (.cells #[.int .i64 0, .string ⟨#[]⟩, .int .i64 0, .slice none 0 0, .int .i64 0] 24)))))
 obtain ⟨x0_11, x1_11, x2_11, x3_11, x4_11⟩ := M15.out.2.1.cells
 obtain ⟨q0_11, q1_11, q2_11, q3_11, q4_11⟩ := M15.out.2.1.thaw
 have hfine := Lib.hid (show Fine 35 (nameR L (failR L (stopR L (mustR L st.next [40]) false) 47)).1 0 from (fine_s hnl (by omega)))
 go_wp2_with fail
 go_region_law (first
  | (refine step_app rfl _ _ 22 rfl _ _ rfl rfl _ HP.out ?_; rintro u w17 ⟨gA, cA, rfl, hpz⟩; have zj := hpz.on.size; obtain ⟨hgl, ⟨y0, y1, y2, y3, y4⟩, g0, g1, g2, g3, g4⟩ := hpz.cells 5 6 7 8 9 rfl rfl rfl rfl rfl; have hgB : B < gA := (by have := hpz.lo; omega); have hgB1 : gA ≠ B := (by omega); have hgB2 : B ≠ gA := (by omega); clear x0 x1 x2 x3 x4; obtain ⟨x0, x1, x2, x3, x4⟩ := (Bx.push MX.out.2.1 MX.out.2.2.1 hBw hpz.on).cells; obtain ⟨q0, q1, q2, q3, q4⟩ := (Bx.push MX.out.2.1 MX.out.2.2.1 hBw hpz.on).thaw; have hix : (1 : Int) < 2 := (by decide); have hBw17 : B < w17.heap.size := (by omega); have HZ := Lib.hid hpz; clear hpz HP)
  | (go_simp; go_at_call 92; refine (H2.out w15.drew MD.out.1.rd).mono ?_; rintro e w16 ⟨v16, rfl, h16, f16, t16⟩; obtain ⟨A16, c16, rfl, -, -⟩ := t16.form; have z16 := f16.size; have hBq : B < w16.heap.size := (by omega); have za16 : (w16.alloc (.cells #[.int .i64 0, .string ⟨#[]⟩, .int .i64 0, .slice none 0 0, .int .i64 0] 24)).heap.size = w16.heap.size + 1 := (by simp); have fx16 : Fr R w16 (w16.alloc (.cells #[.int .i64 0, .string ⟨#[]⟩, .int .i64 0, .slice none 0 0, .int .i64 0] 24)) := Only.alloc _ _; have MX := Lib.hid (And.intro ((MD.out.1.call h16 f16).call (h16.alloc _) fx16) (And.intro ((MD.out.2.1.fr f16 (by omega)).fr fx16 (by omega)) (And.intro ((MD.out.2.2.fr f16 (by omega)).fr fx16 (by omega)) (And.intro (heap_alloc_new w16 (.cells #[.int .i64 0, .string ⟨#[]⟩, .int .i64 0, .slice none 0 0, .int .i64 0] 24)) (TreeAt.keep (w' := (w16.alloc (.cells #[.int .i64 0, .string ⟨#[]⟩, .int .i64 0, .slice none 0 0, .int .i64 0] 24))) t16 (S' := fun k => (w.heap.size ≤ k ∧ k < (w16.alloc (.cells #[.int .i64 0, .string ⟨#[]⟩, .int .i64 0, .slice none 0 0, .int .i64 0] 24)).heap.size) ∧ (Value.slice (some ⟨w12.heap.size, 0, none⟩) 1 1).ownBlock ≠ some k) (fun k hk => ⟨⟨by have := hk.1; omega, by have := hk.2; omega⟩, fun e => by have := (own_blk MD.out.2.2 e).2; have := hk.1; omega⟩) (fun k hk => Below.heap_alloc _ _ k hk.2)))))); have HP := Lib.hid (AccAt.pushZ MX.out.2.2.1 w16.heap.size 1 2 rfl rfl MX.out.2.2.2.1 (by decide) (by omega) 22); clear x0_10 x1_10 x2_10 x3_10 x4_10 q0_10 q1_10 q2_10 q3_10 q4_10 x0_11 x1_11 x2_11 x3_11 x4_11 q0_11 q1_11 q2_11 q3_11 q4_11; obtain ⟨x0, x1, x2, x3, x4⟩ := (MD.out.2.1.fr f16 (by omega)).cells; clear h16 f16 t16 fx16)
  | (go_simp; go_at_call 92; refine (H2.out (w15.drew.alloc (.cells #[.int .i64 0, .string ⟨#[]⟩, .int .i64 0, .slice none 0 0, .int .i64 0] 24)) MA.out.1.rd).mono ?_; rintro e w16 ⟨v16, rfl, h16, f16, t16⟩; obtain ⟨A16, c16, rfl, -, -⟩ := t16.form; have z16 := f16.size; have hBq : B < w16.heap.size := (by omega); have MX := Lib.hid (And.intro (MA.out.1.call h16 f16) (And.intro (MA.out.2.1.fr f16 (by omega)) (And.intro (MA.out.2.2.1.fr f16 (by omega)) (And.intro (blk_fr MA.out.2.2.2 f16 (by omega)) (TreeAt.keep (w' := w16) t16 (S' := fun k => (w.heap.size ≤ k ∧ k < w16.heap.size) ∧ (Value.slice (some ⟨w12.heap.size, 0, none⟩) 1 1).ownBlock ≠ some k) (fun k hk => ⟨⟨by have := hk.1; omega, by have := hk.2; omega⟩, fun e => by have := (own_blk MA.out.2.2.1 e).2; have := hk.1; omega⟩) (fun k hk => rfl)))))); have HP := Lib.hid (AccAt.pushZ MX.out.2.2.1 w15.drew.heap.size 1 2 rfl rfl MX.out.2.2.2.1 (by decide) (by omega) 22); clear x0_10 x1_10 x2_10 x3_10 x4_10 q0_10 q1_10 q2_10 q3_10 q4_10 x0_11 x1_11 x2_11 x3_11 x4_11 q0_11 q1_11 q2_11 q3_11 q4_11; obtain ⟨x0, x1, x2, x3, x4⟩ := (MA.out.2.1.fr f16 (by omega)).cells; clear h16 f16 t16))
 all_goals
  go_wp2
  go_ret
  change Told R B A cp L w _ _ (.returned (.bool true)) _
  have hbx : Bx _ B (.int .i64 35) (.string (bs (nameR L (failR L (stopR L (mustR L st.next [40]) false) 47)).1)) (.int .i64 0) _ (.int .i64 line) := MX.out.2.1
  first
   | with_reducible exact Wd.told_1_1 MX.out.1 hbx HZ.out MX.out.2.2.2.2 hfine.out
   | with_reducible exact Wd.told_1_2 MX.out.1 hbx HZ.out MX.out.2.2.2.2 hfine.out
end
end
section
open Go.RowKit Go.Proofs
section
variable {R cp : Nat} {A : Option Addr} {L : List Tok} {st : St} {F : Nat}
theorem worded_for3 (ih : All R A cp L F) (hps : st.pos < L.length) (hv : isR L (mustR L st.next [40]) [118, 97, 114] = false) (kd : Int) (ts : Bs) (tn : Int) (ln : Nat) (nl : Bool) (ht : tokR L (mustR L st.next [40]) 0 = ⟨kd, ts, tn, ln, nl⟩) (hk : kd ≠ 0) (dk : (kd == 0) = false) (line : Int) (l : List Tr) (st1 : St) (hr : wordedR L (run L F) line [102, 111, 114] st = some (l, st1)) (w : World) (B : Nat) (h : RdAt w R A cp L st) (hRB : R < B)
  (hB0 : w.heap[B]? = some (.cells #[.int .i64 0, .string ⟨#[]⟩, .int .i64 0, .slice none 0 0, .int .i64 line] 24 (0, 0))) :
  Calls Try.prog 73 #[ptr R, ptr B, .string (bs [102, 111, 114])] w (Told R B A cp L w l st1) := by
 have hBw := heap_lt hB0
 have M0 := Lib.hid (And.intro (Wd.start h hRB hBw) (show Bx w B _ _ _ _ _ from hB0))
 have H0 := h
 obtain ⟨s0, hs0⟩ : ∃ x, failR L (mustR L st.next [40]) 47 = x := ⟨_, rfl⟩
 cases e1 : run L F .expr (mustR L (nameR L s0).2 [105, 110]) with
 | none => simp [wordedR, one, hv, ht, hk, hs0, e1] at hr
 | some y =>
 obtain ⟨y, s2⟩ := y
 cases e2 : run L F .within (mustR L s2 [41]) with
 | none => simp [wordedR, one, hv, ht, hk, hs0, e1, e2] at hr
 | some z =>
 obtain ⟨z, s3⟩ := z
 obtain ⟨rfl, rfl⟩ : [Tr.mk 35 (nameR L s0).1 0 line [hd y, hd z]] = l ∧ s3 = st1 := by simpa [wordedR, one, hv, ht, hk, hs0, e1, e2] using hr
 have H1 := Lib.hid (ih .expr _ _ _ e1)
 have H2 := Lib.hid (ih .within _ _ _ e2)
 subst hs0
 clear hr e1 e2
 have q_var : ((bs [102, 111, 114]).toList == [118, 97, 114]) = false := by rw [bs_eq]; decide
 have q_if : ((bs [102, 111, 114]).toList == [105, 102]) = false := by rw [bs_eq]; decide
 have q_while : ((bs [102, 111, 114]).toList == [119, 104, 105, 108, 101]) = false := by rw [bs_eq]; decide
 have q_for : ((bs [102, 111, 114]).toList == [102, 111, 114]) = true := by rw [bs_eq]; decide
 clear h hB0 H0
 go_enter Try.func73, Try.ntmps73
 obtain ⟨x0_1, x1_1, x2_1, x3_1, x4_1⟩ := M0.out.2.cells
 obtain ⟨q0_1, q1_1, q2_1, q3_1, q4_1⟩ := M0.out.2.thaw
 obtain ⟨c0, c1, c2, c3⟩ := M0.out.1.rd.cells
 have fR1 := M0.out.1.rd.thaw 1
 have hw := wrap_next hps M0.out.1.rd.len
 obtain ⟨w2, e2, h2, f2⟩ := M0.out.1.next_ hps
 have z2 := f2.size
 have M2 := Lib.hid (And.intro (M0.out.1.call h2 f2) (M0.out.2.fr f2 (by omega)))
 clear h2 f2
 obtain ⟨x0_2, x1_2, x2_2, x3_2, x4_2⟩ := M2.out.2.cells
 obtain ⟨q0_2, q1_2, q2_2, q3_2, q4_2⟩ := M2.out.2.thaw
 obtain ⟨w3, e3⟩ : ∃ W, w2.setCell ⟨B, 0, none⟩ (.int .i64 35) = W := ⟨_, rfl⟩
 have m3 := M2.out.1.set 0 (.int .i64 35)
 have i3_0 := M2.out.2.put0 (.int .i64 35)
 have z3 : w2.heap.size ≤ w3.heap.size := by rw [← e3]; simp
 rw [e3] at m3 i3_0
 have M3 := Lib.hid (And.intro m3 (i3_0))
 clear m3 i3_0
 obtain ⟨x0_3, x1_3, x2_3, x3_3, x4_3⟩ := M3.out.2.cells
 obtain ⟨q0_3, q1_3, q2_3, q3_3, q4_3⟩ := M3.out.2.thaw
 have HQ := Lib.hid (must_any [40] ⟨#[40]⟩ rfl w3 M3.out.1.rd)
 go_wp2_with fail
 go_at_call 89
 refine (HQ.out).mono ?_
 rintro e w4 ⟨rfl, h4, f4⟩
 have z4 := f4.size
 have M4 := Lib.hid (And.intro (M3.out.1.call h4 f4) (M3.out.2.fr f4 (by omega)))
 clear h4 f4
 clear x0_1 x1_1 x2_1 x3_1 x4_1 q0_1 q1_1 q2_1 q3_1 q4_1 x0_2 x1_2 x2_2 x3_2 x4_2 q0_2 q1_2 q2_2 q3_2 q4_2 x0_3 x1_3 x2_3 x3_3 x4_3 q0_3 q1_3 q2_3 q3_3 q4_3
 clear c0 c1 c2 c3 fR1 hw
 clear HQ
 have HQ0 := take_any [118, 97, 114] ⟨#[118, 97, 114]⟩ rfl w4 M4.out.1.rd
 unfold takeR at HQ0
 rw [hv] at HQ0
 have HQ := Lib.hid HQ0
 clear HQ0
 go_wp2_with fail
 go_at_call 57
 refine (HQ.out).mono ?_
 rintro e w5 ⟨rfl, h5, f5⟩
 have h5 : RdAt w5 R A cp L ((mustR L st.next [40])) := h5
 have z5 := f5.size
 have M5 := Lib.hid (And.intro (M4.out.1.call h5 f5) (M4.out.2.fr f5 (by omega)))
 clear h5 f5
 clear HQ
 have HQ0 := tok_any 0 w5 M5.out.1.rd (by omega)
 rw [ht] at HQ0
 unfold tokV at HQ0
 have HQ := Lib.hid HQ0
 clear HQ0
 go_wp2_with fail
 go_at_call 55
 refine (HQ.out).mono ?_
 rintro e w6 ⟨rfl, hb⟩
 have f6 := Fr.of_below (R := R) hb (Nat.le_refl _)
 have h6 := M5.out.1.rd.below hb M5.out.1.rd.lt
 have z6 := f6.size
 clear hb
 have M6 := Lib.hid (And.intro (M5.out.1.call h6 f6) (M5.out.2.fr f6 (by omega)))
 clear h6 f6
 clear HQ
 have fk := tok_kind kd ts tn ln nl w6
 have HQ := Lib.hid (fail_any 47 w6 M6.out.1.rd)
 go_wp2_with fail
 go_at_call 59
 refine (HQ.out).mono ?_
 rintro e w7 ⟨rfl, h7, f7⟩
 have z7 := f7.size
 have M7 := Lib.hid (And.intro (M6.out.1.call h7 f7) (M6.out.2.fr f7 (by omega)))
 clear h7 f7
 clear HQ
 obtain ⟨x0_4, x1_4, x2_4, x3_4, x4_4⟩ := M7.out.2.cells
 obtain ⟨q0_4, q1_4, q2_4, q3_4, q4_4⟩ := M7.out.2.thaw
 have HQ := Lib.hid (name_any w7 M7.out.1.rd)
 have hnl := name_len M7.out.1.rd
 go_wp2_with fail
 go_at_call 90
 refine (HQ.out).mono ?_
 rintro e w8 ⟨rfl, h8, f8⟩
 have z8 := f8.size
 have M8 := Lib.hid (And.intro (M7.out.1.call h8 f8) (M7.out.2.fr f8 (by omega)))
 clear h8 f8
 clear x0_4 x1_4 x2_4 x3_4 x4_4 q0_4 q1_4 q2_4 q3_4 q4_4
 clear HQ
 obtain ⟨x0_5, x1_5, x2_5, x3_5, x4_5⟩ := M8.out.2.cells
 obtain ⟨q0_5, q1_5, q2_5, q3_5, q4_5⟩ := M8.out.2.thaw
 obtain ⟨w9, e9⟩ : ∃ W, w8.setCell ⟨B, 1, none⟩ (.string (bs (nameR L (failR L (mustR L st.next [40]) 47)).1)) = W := ⟨_, rfl⟩
 have m9 := M8.out.1.set 1 (.string (bs (nameR L (failR L (mustR L st.next [40]) 47)).1))
 have i9_0 := M8.out.2.put1 (.string (bs (nameR L (failR L (mustR L st.next [40]) 47)).1))
 have z9 : w8.heap.size ≤ w9.heap.size := by rw [← e9]; simp
 rw [e9] at m9 i9_0
 have M9 := Lib.hid (And.intro m9 (i9_0))
 clear m9 i9_0
 obtain ⟨x0_6, x1_6, x2_6, x3_6, x4_6⟩ := M9.out.2.cells
 obtain ⟨q0_6, q1_6, q2_6, q3_6, q4_6⟩ := M9.out.2.thaw
 have HQ := Lib.hid (must_any [105, 110] ⟨#[105, 110]⟩ rfl w9 M9.out.1.rd)
 go_wp2_with fail
 go_at_call 89
 refine (HQ.out).mono ?_
 rintro e w10 ⟨rfl, h10, f10⟩
 have z10 := f10.size
 have M10 := Lib.hid (And.intro (M9.out.1.call h10 f10) (M9.out.2.fr f10 (by omega)))
 clear h10 f10
 clear x0_5 x1_5 x2_5 x3_5 x4_5 q0_5 q1_5 q2_5 q3_5 q4_5 x0_6 x1_6 x2_6 x3_6 x4_6 q0_6 q1_6 q2_6 q3_6 q4_6
 clear HQ
 obtain ⟨x0_7, x1_7, x2_7, x3_7, x4_7⟩ := M10.out.2.cells
 obtain ⟨q0_7, q1_7, q2_7, q3_7, q4_7⟩ := M10.out.2.thaw
 go_wp2_with fail
 go_at_call 74
 refine (H1.out w10 M10.out.1.rd).mono ?_
 rintro e w11 ⟨v11, rfl, h11, f11, t11⟩
 obtain ⟨A11, c11, rfl, -, -⟩ := t11.form
 have z11 := f11.size
 obtain ⟨w12, e12, m12, f12, b12, zq12⟩ := (M10.out.1.call h11 f11).arr #[.int .i64 (hd y).op, .string (bs (hd y).s), .int .i64 (hd y).n, .slice A11 (hd y).l.length c11, .int .i64 (hd y).line]
 have z12 : w11.heap.size < w12.heap.size := by omega
 clear zq12
 have a12 := AccAt.lit_new (b := w.heap.size) (cs := #[.int .i64 (hd y).op, .string (bs (hd y).s), .int .i64 (hd y).n, .slice A11 (hd y).l.length c11, .int .i64 (hd y).line]) t11 rfl (by omega) (by omega)
 rw [e12] at a12
 have M12 := Lib.hid (And.intro m12 (And.intro ((M10.out.2.fr f11 (by omega)).fr f12 (by omega)) (a12)))
 clear h11 f11 t11 m12 f12 b12 a12
 clear x0_7 x1_7 x2_7 x3_7 x4_7 q0_7 q1_7 q2_7 q3_7 q4_7
 obtain ⟨x0_8, x1_8, x2_8, x3_8, x4_8⟩ := M12.out.2.1.cells
 obtain ⟨q0_8, q1_8, q2_8, q3_8, q4_8⟩ := M12.out.2.1.thaw
 obtain ⟨w13, e13⟩ : ∃ W, w12.setCell ⟨B, 3, none⟩ (.slice (some ⟨w11.heap.size, 0, none⟩) 1 1) = W := ⟨_, rfl⟩
 have m13 := M12.out.1.set 3 (.slice (some ⟨w11.heap.size, 0, none⟩) 1 1)
 have i13_0 := M12.out.2.1.put3 (.slice (some ⟨w11.heap.size, 0, none⟩) 1 1)
 have i13_1 := M12.out.2.2.away (b := B) (by omega) 3 (.slice (some ⟨w11.heap.size, 0, none⟩) 1 1)
 have z13 : w12.heap.size ≤ w13.heap.size := by rw [← e13]; simp
 rw [e13] at m13 i13_0 i13_1
 have M13 := Lib.hid (And.intro m13 (And.intro i13_0 (i13_1)))
 clear m13 i13_0 i13_1
 obtain ⟨x0_9, x1_9, x2_9, x3_9, x4_9⟩ := M13.out.2.1.cells
 obtain ⟨q0_9, q1_9, q2_9, q3_9, q4_9⟩ := M13.out.2.1.thaw
 have HQ := Lib.hid (must_any [41] ⟨#[41]⟩ rfl w13 M13.out.1.rd)
 go_wp2_with fail
 go_at_call 89
 refine (HQ.out).mono ?_
 rintro e w14 ⟨rfl, h14, f14⟩
 have z14 := f14.size
 have M14 := Lib.hid (And.intro (M13.out.1.call h14 f14) (And.intro (M13.out.2.1.fr f14 (by omega)) (M13.out.2.2.fr f14 (by omega))))
 clear h14 f14
 clear x0_8 x1_8 x2_8 x3_8 x4_8 q0_8 q1_8 q2_8 q3_8 q4_8 x0_9 x1_9 x2_9 x3_9 x4_9 q0_9 q1_9 q2_9 q3_9 q4_9
 clear HQ
 obtain ⟨x0_10, x1_10, x2_10, x3_10, x4_10⟩ := M14.out.2.1.cells
 obtain ⟨q0_10, q1_10, q2_10, q3_10, q4_10⟩ := M14.out.2.1.thaw
 have hBk : B < w14.heap.size := by omega
 have zd : w14.heap.size ≤ w14.drew.heap.size := Nat.le_refl _
 have MD := Lib.hid (And.intro M14.out.1.drew (And.intro (M14.out.2.1.fr ((Only.refl (fun k => k = R) w14).drew) (by omega)) (M14.out.2.2.fr ((Only.refl (fun k => k = R) w14).drew) (by omega))))
 have zda : w14.drew.heap.size < (w14.drew.alloc (.cells #[.int .i64 0, .string ⟨#[]⟩, .int .i64 0, .slice none 0 0, .int .i64 0] 24)).heap.size := by simp
 have zde : (w14.drew.alloc (.cells #[.int .i64 0, .string ⟨#[]⟩, .int .i64 0, .slice none 0 0, .int .i64 0] 24)).heap.size = w14.drew.heap.size + 1 := by simp
 have MA := Lib.hid (And.intro (MD.out.1.call (MD.out.1.rd.alloc _) (Only.alloc (F := fun k => k = R) w14.drew (.cells #[.int .i64 0, .string ⟨#[]⟩, .int .i64 0, .slice none 0 0, .int .i64 0] 24))) (And.intro (MD.out.2.1.fr (Only.alloc (F := fun k => k = R) w14.drew (.cells #[.int .i64 0, .string ⟨#[]⟩, .int .i64 0, .slice none 0 0, .int .i64 0] 24)) (by omega)) (And.intro (MD.out.2.2.fr (Only.alloc (F := fun k => k = R) w14.drew (.cells #[.int .i64 0, .string ⟨#[]⟩, .int .i64 0, .slice none 0 0, .int .i64 0] 24)) (by omega)) (heap_alloc_new w14.drew (.cells #[.int .i64 0, .string ⟨#[]⟩, .int .i64 0, .slice none 0 0, .int .i64 0] 24)))))
 obtain ⟨x0_11, x1_11, x2_11, x3_11, x4_11⟩ := M14.out.2.1.cells
 obtain ⟨q0_11, q1_11, q2_11, q3_11, q4_11⟩ := M14.out.2.1.thaw
 have hfine := Lib.hid (show Fine 35 (nameR L (failR L (mustR L st.next [40]) 47)).1 0 from (fine_s hnl (by omega)))
 go_wp2_with fail
 go_region_law (first
  | (refine step_app rfl _ _ 22 rfl _ _ rfl rfl _ HP.out ?_; rintro u w16 ⟨gA, cA, rfl, hpz⟩; have zj := hpz.on.size; obtain ⟨hgl, ⟨y0, y1, y2, y3, y4⟩, g0, g1, g2, g3, g4⟩ := hpz.cells 5 6 7 8 9 rfl rfl rfl rfl rfl; have hgB : B < gA := (by have := hpz.lo; omega); have hgB1 : gA ≠ B := (by omega); have hgB2 : B ≠ gA := (by omega); clear x0 x1 x2 x3 x4; obtain ⟨x0, x1, x2, x3, x4⟩ := (Bx.push MX.out.2.1 MX.out.2.2.1 hBw hpz.on).cells; obtain ⟨q0, q1, q2, q3, q4⟩ := (Bx.push MX.out.2.1 MX.out.2.2.1 hBw hpz.on).thaw; have hix : (1 : Int) < 2 := (by decide); have hBw16 : B < w16.heap.size := (by omega); have HZ := Lib.hid hpz; clear hpz HP)
  | (go_simp; go_at_call 92; refine (H2.out w14.drew MD.out.1.rd).mono ?_; rintro e w15 ⟨v15, rfl, h15, f15, t15⟩; obtain ⟨A15, c15, rfl, -, -⟩ := t15.form; have z15 := f15.size; have hBq : B < w15.heap.size := (by omega); have za15 : (w15.alloc (.cells #[.int .i64 0, .string ⟨#[]⟩, .int .i64 0, .slice none 0 0, .int .i64 0] 24)).heap.size = w15.heap.size + 1 := (by simp); have fx15 : Fr R w15 (w15.alloc (.cells #[.int .i64 0, .string ⟨#[]⟩, .int .i64 0, .slice none 0 0, .int .i64 0] 24)) := Only.alloc _ _; have MX := Lib.hid (And.intro ((MD.out.1.call h15 f15).call (h15.alloc _) fx15) (And.intro ((MD.out.2.1.fr f15 (by omega)).fr fx15 (by omega)) (And.intro ((MD.out.2.2.fr f15 (by omega)).fr fx15 (by omega)) (And.intro (heap_alloc_new w15 (.cells #[.int .i64 0, .string ⟨#[]⟩, .int .i64 0, .slice none 0 0, .int .i64 0] 24)) (TreeAt.keep (w' := (w15.alloc (.cells #[.int .i64 0, .string ⟨#[]⟩, .int .i64 0, .slice none 0 0, .int .i64 0] 24))) t15 (S' := fun k => (w.heap.size ≤ k ∧ k < (w15.alloc (.cells #[.int .i64 0, .string ⟨#[]⟩, .int .i64 0, .slice none 0 0, .int .i64 0] 24)).heap.size) ∧ (Value.slice (some ⟨w11.heap.size, 0, none⟩) 1 1).ownBlock ≠ some k) (fun k hk => ⟨⟨by have := hk.1; omega, by have := hk.2; omega⟩, fun e => by have := (own_blk MD.out.2.2 e).2; have := hk.1; omega⟩) (fun k hk => Below.heap_alloc _ _ k hk.2)))))); have HP := Lib.hid (AccAt.pushZ MX.out.2.2.1 w15.heap.size 1 2 rfl rfl MX.out.2.2.2.1 (by decide) (by omega) 22); clear x0_10 x1_10 x2_10 x3_10 x4_10 q0_10 q1_10 q2_10 q3_10 q4_10 x0_11 x1_11 x2_11 x3_11 x4_11 q0_11 q1_11 q2_11 q3_11 q4_11; obtain ⟨x0, x1, x2, x3, x4⟩ := (MD.out.2.1.fr f15 (by omega)).cells; clear h15 f15 t15 fx15)
  | (go_simp; go_at_call 92; refine (H2.out (w14.drew.alloc (.cells #[.int .i64 0, .string ⟨#[]⟩, .int .i64 0, .slice none 0 0, .int .i64 0] 24)) MA.out.1.rd).mono ?_; rintro e w15 ⟨v15, rfl, h15, f15, t15⟩; obtain ⟨A15, c15, rfl, -, -⟩ := t15.form; have z15 := f15.size; have hBq : B < w15.heap.size := (by omega); have MX := Lib.hid (And.intro (MA.out.1.call h15 f15) (And.intro (MA.out.2.1.fr f15 (by omega)) (And.intro (MA.out.2.2.1.fr f15 (by omega)) (And.intro (blk_fr MA.out.2.2.2 f15 (by omega)) (TreeAt.keep (w' := w15) t15 (S' := fun k => (w.heap.size ≤ k ∧ k < w15.heap.size) ∧ (Value.slice (some ⟨w11.heap.size, 0, none⟩) 1 1).ownBlock ≠ some k) (fun k hk => ⟨⟨by have := hk.1; omega, by have := hk.2; omega⟩, fun e => by have := (own_blk MA.out.2.2.1 e).2; have := hk.1; omega⟩) (fun k hk => rfl)))))); have HP := Lib.hid (AccAt.pushZ MX.out.2.2.1 w14.drew.heap.size 1 2 rfl rfl MX.out.2.2.2.1 (by decide) (by omega) 22); clear x0_10 x1_10 x2_10 x3_10 x4_10 q0_10 q1_10 q2_10 q3_10 q4_10 x0_11 x1_11 x2_11 x3_11 x4_11 q0_11 q1_11 q2_11 q3_11 q4_11; obtain ⟨x0, x1, x2, x3, x4⟩ := (MA.out.2.1.fr f15 (by omega)).cells; clear h15 f15 t15))
 all_goals
  go_wp2
  go_ret
  change Told R B A cp L w _ _ (.returned (.bool true)) _
  have hbx : Bx _ B (.int .i64 35) (.string (bs (nameR L (failR L (mustR L st.next [40]) 47)).1)) (.int .i64 0) _ (.int .i64 line) := MX.out.2.1
  first
   | with_reducible exact Wd.told_1_1 MX.out.1 hbx HZ.out MX.out.2.2.2.2 hfine.out
   | with_reducible exact Wd.told_1_2 MX.out.1 hbx HZ.out MX.out.2.2.2.2 hfine.out
end
end
end Go.Proofs.Ytejbdoiamhfbjaa
