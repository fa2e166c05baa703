/- The document's reader: worded. The document's reader: a statement that begins with a word. The document's reader: args. The document's reader: block. The document's reader: head, block, cond. The document's reader: cond. The document's reader: all its functions. -/
import Derived.Deep.RegionHeldLaw
import Derived.Deep.LoopGhost
import Derived.Deep.DeepCutAuto
import Derived.Test.YtejbdoiamhfbjaaPm18
import Derived.Test.YtejbdoiamhfbjaaPm19
import Derived.Test.YtejbdoiamhfbjaaPm20
import Derived.Test.YtejbdoiamhfbjaaPm21
import Derived.Test.YtejbdoiamhfbjaaPm23
import Derived.Test.YtejbdoiamhfbjaaPm24
import Derived.Test.YtejbdoiamhfbjaaPm27
import Derived.Test.YtejbdoiamhfbjaaPm28
import Derived.Test.YtejbdoiamhfbjaaPm29
set_option linter.unusedSimpArgs false
set_option linter.unusedVariables false
set_option maxRecDepth 100000
set_option maxHeartbeats 4000000
namespace Go.Proofs.Ytejbdoiamhfbjaa
section
open Go.RowKit Go.Proofs
section
variable {R cp : Nat} {A : Option Addr} {L : List Tok} {st : St} {F : Nat}
theorem worded_for1 (ih : All R A cp L F) (hps : st.pos < L.length) (hv : isR L (mustR L st.next [40]) [118, 97, 114] = true) (line : Int) (l : List Tr) (st1 : St) (hr : wordedR L (run L F) line [102, 111, 114] st = some (l, st1)) (w : World) (B : Nat) (h : RdAt w R A cp L st) (hRB : R < B)
  (hB0 : w.heap[B]? = some (.cells #[.int .i64 0, .string ⟨#[]⟩, .int .i64 0, .slice none 0 0, .int .i64 line] 24 (0, 0))) :
  Calls Try.prog 73 #[ptr R, ptr B, .string (bs [102, 111, 114])] w (Told R B A cp L w l st1) := by
 have hBw := heap_lt hB0
 have M0 := Lib.hid (And.intro (Wd.start h hRB hBw) (show Bx w B _ _ _ _ _ from hB0))
 have H0 := h
 obtain ⟨s0, hs0⟩ : ∃ x, (mustR L st.next [40]).next = x := ⟨_, rfl⟩
 cases e1 : run L F .expr (mustR L (nameR L s0).2 [105, 110]) with
 | none => simp [wordedR, one, hv,  hs0, e1] at hr
 | some y =>
 obtain ⟨y, s2⟩ := y
 cases e2 : run L F .within (mustR L s2 [41]) with
 | none => simp [wordedR, one, hv,  hs0, e1, e2] at hr
 | some z =>
 obtain ⟨z, s3⟩ := z
 obtain ⟨rfl, rfl⟩ : [Tr.mk 35 (nameR L s0).1 0 line [hd y, hd z]] = l ∧ s3 = st1 := by simpa [wordedR, one, hv,  hs0, e1, e2] using hr
 have H1 := Lib.hid (ih .expr _ _ _ e1)
 have H2 := Lib.hid (ih .within _ _ _ e2)
 subst hs0
 clear hr e1 e2
 have q_var : ((bs [102, 111, 114]).toList == [118, 97, 114]) = false := by rw [bs_eq]; decide
 have q_if : ((bs [102, 111, 114]).toList == [105, 102]) = false := by rw [bs_eq]; decide
 have q_while : ((bs [102, 111, 114]).toList == [119, 104, 105, 108, 101]) = false := by rw [bs_eq]; decide
 have q_for : ((bs [102, 111, 114]).toList == [102, 111, 114]) = true := by rw [bs_eq]; decide
 clear h hB0 H0
 go_enter Try.func73, Try.ntmps73
 obtain ⟨x0_1, x1_1, x2_1, x3_1, x4_1⟩ := M0.out.2.cells
 obtain ⟨q0_1, q1_1, q2_1, q3_1, q4_1⟩ := M0.out.2.thaw
 obtain ⟨c0, c1, c2, c3⟩ := M0.out.1.rd.cells
 have fR1 := M0.out.1.rd.thaw 1
 have hw := wrap_next hps M0.out.1.rd.len
 obtain ⟨w2, e2, h2, f2⟩ := M0.out.1.next_ hps
 have z2 := f2.size
 have M2 := Lib.hid (And.intro (M0.out.1.call h2 f2) (M0.out.2.fr f2 (by omega)))
 clear h2 f2
 obtain ⟨x0_2, x1_2, x2_2, x3_2, x4_2⟩ := M2.out.2.cells
 obtain ⟨q0_2, q1_2, q2_2, q3_2, q4_2⟩ := M2.out.2.thaw
 obtain ⟨w3, e3⟩ : ∃ W, w2.setCell ⟨B, 0, none⟩ (.int .i64 35) = W := ⟨_, rfl⟩
 have m3 := M2.out.1.set 0 (.int .i64 35)
 have i3_0 := M2.out.2.put0 (.int .i64 35)
 have z3 : w2.heap.size ≤ w3.heap.size := by rw [← e3]; simp
 rw [e3] at m3 i3_0
 have M3 := Lib.hid (And.intro m3 (i3_0))
 clear m3 i3_0
 obtain ⟨x0_3, x1_3, x2_3, x3_3, x4_3⟩ := M3.out.2.cells
 obtain ⟨q0_3, q1_3, q2_3, q3_3, q4_3⟩ := M3.out.2.thaw
 have HQ := Lib.hid (must_any [40] ⟨#[40]⟩ rfl w3 M3.out.1.rd)
 go_wp2_with fail
 go_at_call 89
 refine (HQ.out).mono ?_
 rintro e w4 ⟨rfl, h4, f4⟩
 have z4 := f4.size
 have M4 := Lib.hid (And.intro (M3.out.1.call h4 f4) (M3.out.2.fr f4 (by omega)))
 clear h4 f4
 clear x0_1 x1_1 x2_1 x3_1 x4_1 q0_1 q1_1 q2_1 q3_1 q4_1 x0_2 x1_2 x2_2 x3_2 x4_2 q0_2 q1_2 q2_2 q3_2 q4_2 x0_3 x1_3 x2_3 x3_3 x4_3 q0_3 q1_3 q2_3 q3_3 q4_3
 clear c0 c1 c2 c3 fR1 hw
 clear HQ
 have HQ0 := take_any [118, 97, 114] ⟨#[118, 97, 114]⟩ rfl w4 M4.out.1.rd
 unfold takeR at HQ0
 rw [hv] at HQ0
 have HQ := Lib.hid HQ0
 clear HQ0
 go_wp2_with fail
 go_at_call 57
 refine (HQ.out).mono ?_
 rintro e w5 ⟨rfl, h5, f5⟩
 have h5 : RdAt w5 R A cp L ((mustR L st.next [40]).next) := h5
 have z5 := f5.size
 have M5 := Lib.hid (And.intro (M4.out.1.call h5 f5) (M4.out.2.fr f5 (by omega)))
 clear h5 f5
 clear HQ
 obtain ⟨x0_4, x1_4, x2_4, x3_4, x4_4⟩ := M5.out.2.cells
 obtain ⟨q0_4, q1_4, q2_4, q3_4, q4_4⟩ := M5.out.2.thaw
 have HQ := Lib.hid (name_any w5 M5.out.1.rd)
 have hnl := name_len M5.out.1.rd
 go_wp2_with fail
 go_at_call 90
 refine (HQ.out).mono ?_
 rintro e w6 ⟨rfl, h6, f6⟩
 have z6 := f6.size
 have M6 := Lib.hid (And.intro (M5.out.1.call h6 f6) (M5.out.2.fr f6 (by omega)))
 clear h6 f6
 clear x0_4 x1_4 x2_4 x3_4 x4_4 q0_4 q1_4 q2_4 q3_4 q4_4
 clear HQ
 obtain ⟨x0_5, x1_5, x2_5, x3_5, x4_5⟩ := M6.out.2.cells
 obtain ⟨q0_5, q1_5, q2_5, q3_5, q4_5⟩ := M6.out.2.thaw
 obtain ⟨w7, e7⟩ : ∃ W, w6.setCell ⟨B, 1, none⟩ (.string (bs (nameR L ((mustR L st.next [40]).next)).1)) = W := ⟨_, rfl⟩
 have m7 := M6.out.1.set 1 (.string (bs (nameR L ((mustR L st.next [40]).next)).1))
 have i7_0 := M6.out.2.put1 (.string (bs (nameR L ((mustR L st.next [40]).next)).1))
 have z7 : w6.heap.size ≤ w7.heap.size := by rw [← e7]; simp
 rw [e7] at m7 i7_0
 have M7 := Lib.hid (And.intro m7 (i7_0))
 clear m7 i7_0
 obtain ⟨x0_6, x1_6, x2_6, x3_6, x4_6⟩ := M7.out.2.cells
 obtain ⟨q0_6, q1_6, q2_6, q3_6, q4_6⟩ := M7.out.2.thaw
 have HQ := Lib.hid (must_any [105, 110] ⟨#[105, 110]⟩ rfl w7 M7.out.1.rd)
 go_wp2_with fail
 go_at_call 89
 refine (HQ.out).mono ?_
 rintro e w8 ⟨rfl, h8, f8⟩
 have z8 := f8.size
 have M8 := Lib.hid (And.intro (M7.out.1.call h8 f8) (M7.out.2.fr f8 (by omega)))
 clear h8 f8
 clear x0_5 x1_5 x2_5 x3_5 x4_5 q0_5 q1_5 q2_5 q3_5 q4_5 x0_6 x1_6 x2_6 x3_6 x4_6 q0_6 q1_6 q2_6 q3_6 q4_6
 clear HQ
 obtain ⟨x0_7, x1_7, x2_7, x3_7, x4_7⟩ := M8.out.2.cells
 obtain ⟨q0_7, q1_7, q2_7, q3_7, q4_7⟩ := M8.out.2.thaw
 go_wp2_with fail
 go_at_call 74
 refine (H1.out w8 M8.out.1.rd).mono ?_
 rintro e w9 ⟨v9, rfl, h9, f9, t9⟩
 obtain ⟨A9, c9, rfl, -, -⟩ := t9.form
 have z9 := f9.size
 obtain ⟨w10, e10, m10, f10, b10, zq10⟩ := (M8.out.1.call h9 f9).arr #[.int .i64 (hd y).op, .string (bs (hd y).s), .int .i64 (hd y).n, .slice A9 (hd y).l.length c9, .int .i64 (hd y).line]
 have z10 : w9.heap.size < w10.heap.size := by omega
 clear zq10
 have a10 := AccAt.lit_new (b := w.heap.size) (cs := #[.int .i64 (hd y).op, .string (bs (hd y).s), .int .i64 (hd y).n, .slice A9 (hd y).l.length c9, .int .i64 (hd y).line]) t9 rfl (by omega) (by omega)
 rw [e10] at a10
 have M10 := Lib.hid (And.intro m10 (And.intro ((M8.out.2.fr f9 (by omega)).fr f10 (by omega)) (a10)))
 clear h9 f9 t9 m10 f10 b10 a10
 clear x0_7 x1_7 x2_7 x3_7 x4_7 q0_7 q1_7 q2_7 q3_7 q4_7
 obtain ⟨x0_8, x1_8, x2_8, x3_8, x4_8⟩ := M10.out.2.1.cells
 obtain ⟨q0_8, q1_8, q2_8, q3_8, q4_8⟩ := M10.out.2.1.thaw
 obtain ⟨w11, e11⟩ : ∃ W, w10.setCell ⟨B, 3, none⟩ (.slice (some ⟨w9.heap.size, 0, none⟩) 1 1) = W := ⟨_, rfl⟩
 have m11 := M10.out.1.set 3 (.slice (some ⟨w9.heap.size, 0, none⟩) 1 1)
 have i11_0 := M10.out.2.1.put3 (.slice (some ⟨w9.heap.size, 0, none⟩) 1 1)
 have i11_1 := M10.out.2.2.away (b := B) (by omega) 3 (.slice (some ⟨w9.heap.size, 0, none⟩) 1 1)
 have z11 : w10.heap.size ≤ w11.heap.size := by rw [← e11]; simp
 rw [e11] at m11 i11_0 i11_1
 have M11 := Lib.hid (And.intro m11 (And.intro i11_0 (i11_1)))
 clear m11 i11_0 i11_1
 obtain ⟨x0_9, x1_9, x2_9, x3_9, x4_9⟩ := M11.out.2.1.cells
 obtain ⟨q0_9, q1_9, q2_9, q3_9, q4_9⟩ := M11.out.2.1.thaw
 have HQ := Lib.hid (must_any [41] ⟨#[41]⟩ rfl w11 M11.out.1.rd)
 go_wp2_with fail
 go_at_call 89
 refine (HQ.out).mono ?_
 rintro e w12 ⟨rfl, h12, f12⟩
 have z12 := f12.size
 have M12 := Lib.hid (And.intro (M11.out.1.call h12 f12) (And.intro (M11.out.2.1.fr f12 (by omega)) (M11.out.2.2.fr f12 (by omega))))
 clear h12 f12
 clear x0_8 x1_8 x2_8 x3_8 x4_8 q0_8 q1_8 q2_8 q3_8 q4_8 x0_9 x1_9 x2_9 x3_9 x4_9 q0_9 q1_9 q2_9 q3_9 q4_9
 clear HQ
 obtain ⟨x0_10, x1_10, x2_10, x3_10, x4_10⟩ := M12.out.2.1.cells
 obtain ⟨q0_10, q1_10, q2_10, q3_10, q4_10⟩ := M12.out.2.1.thaw
 have hBk : B < w12.heap.size := by omega
 have zd : w12.heap.size ≤ w12.drew.heap.size := Nat.le_refl _
 have MD := Lib.hid (And.intro M12.out.1.drew (And.intro (M12.out.2.1.fr ((Only.refl (fun k => k = R) w12).drew) (by omega)) (M12.out.2.2.fr ((Only.refl (fun k => k = R) w12).drew) (by omega))))
 have zda : w12.drew.heap.size < (w12.drew.alloc (.cells #[.int .i64 0, .string ⟨#[]⟩, .int .i64 0, .slice none 0 0, .int .i64 0] 24)).heap.size := by simp
 have zde : (w12.drew.alloc (.cells #[.int .i64 0, .string ⟨#[]⟩, .int .i64 0, .slice none 0 0, .int .i64 0] 24)).heap.size = w12.drew.heap.size + 1 := by simp
 have MA := Lib.hid (And.intro (MD.out.1.call (MD.out.1.rd.alloc _) (Only.alloc (F := fun k => k = R) w12.drew (.cells #[.int .i64 0, .string ⟨#[]⟩, .int .i64 0, .slice none 0 0, .int .i64 0] 24))) (And.intro (MD.out.2.1.fr (Only.alloc (F := fun k => k = R) w12.drew (.cells #[.int .i64 0, .string ⟨#[]⟩, .int .i64 0, .slice none 0 0, .int .i64 0] 24)) (by omega)) (And.intro (MD.out.2.2.fr (Only.alloc (F := fun k => k = R) w12.drew (.cells #[.int .i64 0, .string ⟨#[]⟩, .int .i64 0, .slice none 0 0, .int .i64 0] 24)) (by omega)) (heap_alloc_new w12.drew (.cells #[.int .i64 0, .string ⟨#[]⟩, .int .i64 0, .slice none 0 0, .int .i64 0] 24)))))
 obtain ⟨x0_11, x1_11, x2_11, x3_11, x4_11⟩ := M12.out.2.1.cells
 obtain ⟨q0_11, q1_11, q2_11, q3_11, q4_11⟩ := M12.out.2.1.thaw
 have hfine := Lib.hid (show Fine 35 (nameR L ((mustR L st.next [40]).next)).1 0 from (fine_s hnl (by omega)))
 go_wp2_with fail
 go_region_law (first
  | (refine step_app rfl _ _ 22 rfl _ _ rfl rfl _ HP.out ?_; rintro u w14 ⟨gA, cA, rfl, hpz⟩; have zj := hpz.on.size; obtain ⟨hgl, ⟨y0, y1, y2, y3, y4⟩, g0, g1, g2, g3, g4⟩ := hpz.cells 5 6 7 8 9 rfl rfl rfl rfl rfl; have hgB : B < gA := (by have := hpz.lo; omega); have hgB1 : gA ≠ B := (by omega); have hgB2 : B ≠ gA := (by omega); clear x0 x1 x2 x3 x4; obtain ⟨x0, x1, x2, x3, x4⟩ := (Bx.push MX.out.2.1 MX.out.2.2.1 hBw hpz.on).cells; obtain ⟨q0, q1, q2, q3, q4⟩ := (Bx.push MX.out.2.1 MX.out.2.2.1 hBw hpz.on).thaw; have hix : (1 : Int) < 2 := (by decide); have hBw14 : B < w14.heap.size := (by omega); have HZ := Lib.hid hpz; clear hpz HP)
  | (go_simp; go_at_call 92; refine (H2.out w12.drew MD.out.1.rd).mono ?_; rintro e w13 ⟨v13, rfl, h13, f13, t13⟩; obtain ⟨A13, c13, rfl, -, -⟩ := t13.form; have z13 := f13.size; have hBq : B < w13.heap.size := (by omega); have za13 : (w13.alloc (.cells #[.int .i64 0, .string ⟨#[]⟩, .int .i64 0, .slice none 0 0, .int .i64 0] 24)).heap.size = w13.heap.size + 1 := (by simp); have fx13 : Fr R w13 (w13.alloc (.cells #[.int .i64 0, .string ⟨#[]⟩, .int .i64 0, .slice none 0 0, .int .i64 0] 24)) := Only.alloc _ _; have MX := Lib.hid (And.intro ((MD.out.1.call h13 f13).call (h13.alloc _) fx13) (And.intro ((MD.out.2.1.fr f13 (by omega)).fr fx13 (by omega)) (And.intro ((MD.out.2.2.fr f13 (by omega)).fr fx13 (by omega)) (And.intro (heap_alloc_new w13 (.cells #[.int .i64 0, .string ⟨#[]⟩, .int .i64 0, .slice none 0 0, .int .i64 0] 24)) (TreeAt.keep (w' := (w13.alloc (.cells #[.int .i64 0, .string ⟨#[]⟩, .int .i64 0, .slice none 0 0, .int .i64 0] 24))) t13 (S' := fun k => (w.heap.size ≤ k ∧ k < (w13.alloc (.cells #[.int .i64 0, .string ⟨#[]⟩, .int .i64 0, .slice none 0 0, .int .i64 0] 24)).heap.size) ∧ (Value.slice (some ⟨w9.heap.size, 0, none⟩) 1 1).ownBlock ≠ some k) (fun k hk => ⟨⟨by have := hk.1; omega, by have := hk.2; omega⟩, fun e => by have := (own_blk MD.out.2.2 e).2; have := hk.1; omega⟩) (fun k hk => Below.heap_alloc _ _ k hk.2)))))); have HP := Lib.hid (AccAt.pushZ MX.out.2.2.1 w13.heap.size 1 2 rfl rfl MX.out.2.2.2.1 (by decide) (by omega) 22); clear x0_10 x1_10 x2_10 x3_10 x4_10 q0_10 q1_10 q2_10 q3_10 q4_10 x0_11 x1_11 x2_11 x3_11 x4_11 q0_11 q1_11 q2_11 q3_11 q4_11; obtain ⟨x0, x1, x2, x3, x4⟩ := (MD.out.2.1.fr f13 (by omega)).cells; clear h13 f13 t13 fx13)
  | (go_simp; go_at_call 92; refine (H2.out (w12.drew.alloc (.cells #[.int .i64 0, .string ⟨#[]⟩, .int .i64 0, .slice none 0 0, .int .i64 0] 24)) MA.out.1.rd).mono ?_; rintro e w13 ⟨v13, rfl, h13, f13, t13⟩; obtain ⟨A13, c13, rfl, -, -⟩ := t13.form; have z13 := f13.size; have hBq : B < w13.heap.size := (by omega); have MX := Lib.hid (And.intro (MA.out.1.call h13 f13) (And.intro (MA.out.2.1.fr f13 (by omega)) (And.intro (MA.out.2.2.1.fr f13 (by omega)) (And.intro (blk_fr MA.out.2.2.2 f13 (by omega)) (TreeAt.keep (w' := w13) t13 (S' := fun k => (w.heap.size ≤ k ∧ k < w13.heap.size) ∧ (Value.slice (some ⟨w9.heap.size, 0, none⟩) 1 1).ownBlock ≠ some k) (fun k hk => ⟨⟨by have := hk.1; omega, by have := hk.2; omega⟩, fun e => by have := (own_blk MA.out.2.2.1 e).2; have := hk.1; omega⟩) (fun k hk => rfl)))))); have HP := Lib.hid (AccAt.pushZ MX.out.2.2.1 w12.drew.heap.size 1 2 rfl rfl MX.out.2.2.2.1 (by decide) (by omega) 22); clear x0_10 x1_10 x2_10 x3_10 x4_10 q0_10 q1_10 q2_10 q3_10 q4_10 x0_11 x1_11 x2_11 x3_11 x4_11 q0_11 q1_11 q2_11 q3_11 q4_11; obtain ⟨x0, x1, x2, x3, x4⟩ := (MA.out.2.1.fr f13 (by omega)).cells; clear h13 f13 t13))
 all_goals
  go_wp2
  go_ret
  change Told R B A cp L w _ _ (.returned (.bool true)) _
  have hbx : Bx _ B (.int .i64 35) (.string (bs (nameR L ((mustR L st.next [40]).next)).1)) (.int .i64 0) _ (.int .i64 line) := MX.out.2.1
  first
   | with_reducible exact Wd.told_1_1 MX.out.1 hbx HZ.out MX.out.2.2.2.2 hfine.out
   | with_reducible exact Wd.told_1_2 MX.out.1 hbx HZ.out MX.out.2.2.2.2 hfine.out
end
end
section
open Go.RowKit Go.Proofs
section
variable {R cp : Nat} {A : Option Addr} {L : List Tok} {st : St} {F : Nat}
theorem jump_any (ih : All R A cp L F) (hps : st.pos < L.length) (line : Int) (s : Bs) (l : List Tr) (st1 : St) (hr : wordedR L (run L F) line s st = some (l, st1)) (w : World) (B : Nat) (h : RdAt w R A cp L st) (hRB : R < B)
  (hB0 : w.heap[B]? = some (.cells #[.int .i64 0, .string ⟨#[]⟩, .int .i64 0, .slice none 0 0, .int .i64 line] 24 (0, 0))) (n0 : s ≠ [118, 97, 114]) (n1 : s ≠ [105, 102]) (n2 : s ≠ [119, 104, 105, 108, 101]) (n3 : s ≠ [102, 111, 114]) (n4 : s ≠ [116, 114, 121]) (n5 : s ≠ [102, 117, 110, 99, 116, 105, 111, 110]) :
  Calls Try.prog 94 #[ptr R, ptr B, .string (bs s)] w (Told R B A cp L w l st1) := by
 by_cases j0 : s = [114, 101, 116, 117, 114, 110]
 ·subst j0
  exact jump_return ih hps line l st1 hr w B h hRB hB0
 by_cases j1 : s = [116, 104, 114, 111, 119]
 ·subst j1
  exact jump_throw ih hps line l st1 hr w B h hRB hB0
 by_cases j2 : s = [98, 114, 101, 97, 107]
 ·subst j2
  exact jump_break ih hps line l st1 hr w B h hRB hB0
 by_cases j3 : s = [99, 111, 110, 116, 105, 110, 117, 101]
 ·subst j3
  exact jump_continue ih hps line l st1 hr w B h hRB hB0
 have hf : s ≠ funW := n5
 obtain ⟨rfl, rfl⟩ : [] = l ∧ st = st1 := by simpa [wordedR, n0, n1, n2, n3, n4, hf, j0, j1, j2, j3] using hr
 exact jump_none s w B h hRB (heap_lt hB0) j0 j1 j2 j3
theorem worded_any (ih : All R A cp L F) (hps : st.pos < L.length) (line : Int) (s : Bs) (l : List Tr) (st1 : St) (hr : wordedR L (run L F) line s st = some (l, st1)) (w : World) (B : Nat) (h : RdAt w R A cp L st) (hRB : R < B)
  (hB0 : w.heap[B]? = some (.cells #[.int .i64 0, .string ⟨#[]⟩, .int .i64 0, .slice none 0 0, .int .i64 line] 24 (0, 0))) :
  Calls Try.prog 73 #[ptr R, ptr B, .string (bs s)] w (Told R B A cp L w l st1) := by
 by_cases n0 : s = [118, 97, 114]
 ·subst n0
  exact worded_var ih hps line l st1 hr w B h hRB hB0
 by_cases n1 : s = [105, 102]
 ·subst n1
  exact worded_if ih hps line l st1 hr w B h hRB hB0
 by_cases n2 : s = [119, 104, 105, 108, 101]
 ·subst n2
  exact worded_while ih hps line l st1 hr w B h hRB hB0
 by_cases n3 : s = [102, 111, 114]
 ·subst n3
  cases hv : isR L (mustR L st.next [40]) [118, 97, 114] with
  | true => exact worded_for1 ih hps hv line l st1 hr w B h hRB hB0
  | false =>
   cases ht : tokR L (mustR L st.next [40]) 0 with | mk kd ts tn ln nl =>
   by_cases hk : kd = 0
   ·subst hk
    exact worded_for2 ih hps hv ts tn ln nl ht line l st1 hr w B h hRB hB0
   ·exact worded_for3 ih hps hv kd ts tn ln nl ht hk (by simpa using hk) line l st1 hr w B h hRB hB0
 by_cases n4 : s = [116, 114, 121]
 ·subst n4
  exact worded_try ih hps line l st1 hr w B h hRB hB0
 by_cases n5 : s = [102, 117, 110, 99, 116, 105, 111, 110]
 ·subst n5
  exact worded_function ih hps line l st1 hr w B h hRB hB0
 have q0 : ((bs s).toList == [118, 97, 114]) = false := by rw [bs_eq]; simpa using n0
 have q1 : ((bs s).toList == [105, 102]) = false := by rw [bs_eq]; simpa using n1
 have q2 : ((bs s).toList == [119, 104, 105, 108, 101]) = false := by rw [bs_eq]; simpa using n2
 have q3 : ((bs s).toList == [102, 111, 114]) = false := by rw [bs_eq]; simpa using n3
 have q4 : ((bs s).toList == [116, 114, 121]) = false := by rw [bs_eq]; simpa using n4
 have q5 : ((bs s).toList == [102, 117, 110, 99, 116, 105, 111, 110]) = false := by rw [bs_eq]; simpa using n5
 have HC := Lib.hid (jump_any ih hps line s l st1 hr w B h hRB hB0 n0 n1 n2 n3 n4 n5)
 clear h hB0 hr n0 n1 n2 n3 n4 n5 ih
 go_enter Try.func73, Try.ntmps73
 go_wp2_with (go_at_call 94; refine (HC.out).mono ?_; rintro e w1 ⟨rfl, h1⟩)
 go_ret
 exact ⟨rfl, h1⟩
theorem worded_ok (ih : All R A cp L F) (line : Int) (s : Bs) (l : List Tr) (st1 : St) (hr : run L (F + 1) (.worded line s) st = some (l, st1)) : Spec R A cp L (.worded line s) st l st1 := by
 intro hps w B h hRB hB0
 rw [run] at hr
 exact worded_any ih hps line s l st1 hr w B h hRB hB0
end
end
section
open Go.RowKit Go.Proofs
section
variable {R cp : Nat} {A : Option Addr} {L : List Tok} {st : St} {F : Nat}
theorem args_ok (ihs : ∀ F', F' ≤ F → All R A cp L F') (hF : F ≤ 2000000) (more : Bool) (l : List Tr) (st1 : St) (hr : run L (F + 1) (.args [] more) st = some (l, st1)) : Spec R A cp L (.args [] more) st l st1 := by
 intro _ hm w h
 have hR := h.lt
 have HQ := Lib.hid (is_any [41] ⟨#[41]⟩ rfl w h)
 have M0 := Lib.hid (Pl.start h)
 clear h
 go_enter Try.func112, Try.ntmps112
 go_wp2_with fail
 go_at_call 56
 refine (HQ.out).mono ?_
 rintro e w2 ⟨rfl, hb⟩
 have M2 := Lib.hid (M0.out.call (M0.out.rd.below hb hR) (Fr.of_below (R := R) hb (Nat.le_refl _)))
 have z2 := hb.size
 clear hb HQ
 go_wp2
 go_loopg [3, 5] (F + 1) (fun gn v b wr => ∃ (acc : List Tr) (bb : Bool) (s' : St), b = .bool bb ∧ RowKit.Hid (run L gn (.args acc bb) s' = some (l, st1) ∧ acc.length + gn ≤ F + 1 ∧ Pl R A cp L w wr s' ∧ AccAt w.heap.size wr acc v ∧ w.heap.size ≤ wr.heap.size))
 case atStart => exact ⟨[], more, st, by rw [hm], Lib.hid ⟨hr, by simp, M2.out, AccAt.nil _ _, z2⟩⟩
 case round =>
  obtain ⟨acc, bb, s', rfl, HH⟩ := hrel
  obtain ⟨hrun, hacc, hpl, hac, hz0⟩ := HH.out
  obtain ⟨W0, hW0⟩ : ∃ x, x = wr := ⟨_, rfl⟩
  subst hW0
  obtain ⟨A0, c0', rfl, hlc, hcm⟩ := hac.slice
  obtain ⟨c0, c1, c2, c3⟩ := hpl.rd.cells
  have MR := Lib.hid (And.intro hpl hac)
  clear hpl hac HH hr
  cases gk with
  | zero => simp [run] at hrun
  | succ G =>
  rw [run] at hrun
  by_cases he : s'.e = 0 ∧ bb = true
  ·obtain ⟨he1, rfl⟩ := he
   cases e1 : run L G .expr s' with
   | none => simp [he1, e1] at hrun
   | some x =>
   obtain ⟨x, s2⟩ := x
   have hrun : run L G (.args (acc ++ [hd x]) (isR L s2 [44])) (takeR L s2 [44]) = some (l, st1) := by simpa [he1, e1] using hrun
   have H1 := Lib.hid (ihs G (by omega) .expr _ _ _ e1)
   have HN := Lib.hid hrun
   have d1 : (s'.e == 0) = true := by simpa using he1
   rw [he1] at c2
   clear hrun e1
   go_wp2_with fail
   go_at_call 74
   refine (H1.out W0 MR.out.1.rd).mono ?_
   rintro e w3 ⟨v3, rfl, h3, f3, t3⟩
   obtain ⟨A3, c3, rfl, -, -⟩ := t3.form
   have z3 := f3.size
   have HP := Lib.hid (AccAt.push (R := R) (w := w3) (MR.out.2.fr f3 (by omega)) (MR.out.2.fresh t3 (by omega)) (by omega) (by omega) 22 #[.int .i64 (hd x).op, .string (bs (hd x).s), .int .i64 (hd x).n, .slice A3 (hd x).l.length c3, .int .i64 (hd x).line] rfl)
   have M3 := Lib.hid (And.intro (MR.out.1.call h3 f3) (MR.out.2.fr f3 (by omega)))
   clear h3 f3 t3
   go_wp2_with (at_builtin; refine wl_app rfl _ _ 22 rfl _ (.slice (some ⟨w3.heap.size, 0, none⟩) 1 1) rfl rfl _ HP.out ?_; rintro u w4 ⟨hacc, hon, A4, c4, rfl⟩; have z4 := hon.size; have M4 := Lib.hid (And.intro (M3.out.1.push M3.out.2 hon (by omega)) hacc); clear hacc hon)
   clear HP
   have HQ := Lib.hid (take_any [44] ⟨#[44]⟩ rfl w4 M4.out.1.rd)
   go_at_call 57
   refine (HQ.out).mono ?_
   rintro e w5 ⟨rfl, h5, f5⟩
   have z5 := f5.size
   have M5 := Lib.hid (And.intro (M4.out.1.call h5 f5) (M4.out.2.fr f5 (by omega)))
   clear h5 f5
   go_wp2
   go_roundg G
   case rel => exact ⟨acc ++ [hd x], _, _, rfl, Lib.hid ⟨HN.out, by simp; omega, M5.out.1, M5.out.2, by omega⟩⟩
   case measure => omega
  ·obtain ⟨rfl, rfl⟩ : acc = l ∧ mustR L s' [41] = st1 := by simpa [he] using hrun
   have HQ := Lib.hid (must_any [41] ⟨#[41]⟩ rfl W0 MR.out.1.rd)
   have HE := Lib.hid he
   clear he hrun
   cases bb with
   | true =>
    have d1 : (s'.e == 0) = false := by simpa using fun h => HE.out ⟨h, rfl⟩
    go_wp2_with fail
    go_at_call 89
    refine (HQ.out).mono ?_
    rintro e w3 ⟨rfl, h3, f3⟩
    have z3 := f3.size
    have M3 := Lib.hid (And.intro (MR.out.1.call h3 f3) (MR.out.2.fr f3 (by omega)))
    clear h3 f3
    go_wp2
    go_ret
    exact M3.out.1.givesL M3.out.2
   | false =>
    by_cases he : s'.e = 0
    ·have d1 : (s'.e == 0) = true := by simpa using he
     rw [he] at c2
     go_wp2_with fail
     go_at_call 89
     refine (HQ.out).mono ?_
     rintro e w3 ⟨rfl, h3, f3⟩
     have z3 := f3.size
     have M3 := Lib.hid (And.intro (MR.out.1.call h3 f3) (MR.out.2.fr f3 (by omega)))
     clear h3 f3
     go_wp2
     go_ret
     exact M3.out.1.givesL M3.out.2
    ·have d1 : (s'.e == 0) = false := by simpa using he
     go_wp2_with fail
     go_at_call 89
     refine (HQ.out).mono ?_
     rintro e w3 ⟨rfl, h3, f3⟩
     have z3 := f3.size
     have M3 := Lib.hid (And.intro (MR.out.1.call h3 f3) (MR.out.2.fr f3 (by omega)))
     clear h3 f3
     go_wp2
     go_ret
     exact M3.out.1.givesL M3.out.2
end
end
section
open Go.RowKit Go.Proofs
section
variable {R cp : Nat} {A : Option Addr} {L : List Tok} {st : St} {F : Nat}
theorem block_ok (ih : All R A cp L F) (l : List Tr) (st1 : St) (hr : run L (F + 1) .block st = some (l, st1)) : Spec R A cp L .block st l st1 := by
 intro w h
 rw [run] at hr
 dsimp only at hr
 cases e1 : run L F (.stmts []) (mustR L st [123]) with
 | none => rw [e1] at hr; cases hr
 | some x =>
 obtain ⟨x, s2⟩ := x
 rw [e1] at hr
 obtain ⟨rfl, rfl⟩ : [Tr.mk 32 [] 0 (tokR L st 0).line x] = l ∧ mustR L s2 [125] = st1 := by simpa [one] using hr
 have m0 := Mid.start h
 obtain ⟨W1, eW1⟩ : ∃ W, w.alloc (.cells #[.int .i64 0, .string ⟨#[]⟩, .int .i64 0, .slice none 0 0, .int .i64 0] 24) = W := ⟨_, rfl⟩
 rw [eW1] at m0
 have M0 := Lib.hid m0
 have hR := h.lt
 have HT := tok_any 0 W1 m0.rd (by omega)
 cases ht : tokR L st 0 with | mk kd ts tn ln nl =>
 rw [ht] at HT
 unfold tokV at HT
 have HC := Lib.hid HT
 have H2 := Lib.hid (ih (.stmts []) _ _ _ e1 rfl)
 clear h m0 hr e1 HT ht
 go_enter Try.func72, Try.ntmps72
 go_wp2_with fail
 go_at_call 55
 refine (HC.out).mono ?_
 rintro e w1 ⟨rfl, hb⟩
 obtain ⟨W2, eW2, m2, f2, b2, z2⟩ := (M0.out.below hb (Nat.le_refl _)).box_ (.int .i64 32) (.string ⟨#[]⟩) (.int .i64 0) (.slice none 0 0) (.int .i64 ln)
 have hz1 := (M0.out.below hb (Nat.le_refl _)).gt
 have fl := tok_line kd ts tn ln nl w1
 have H1 := Lib.hid (must_any [123] ⟨#[123]⟩ rfl _ m2.rd)
 have M2 := Lib.hid (And.intro m2 b2)
 clear hb m2 f2 b2
 go_wp2_with fail
 go_at_call 89
 refine (H1.out).mono ?_
 rintro e w3 ⟨rfl, h3, f3⟩
 have m3 := M2.out.1.call h3 f3
 have b3 := M2.out.2.fr f3 (by omega)
 have M3 := Lib.hid (And.intro m3 b3)
 clear h3 f3 m3 b3
 go_wp2_with fail
 go_at_call 44
 refine (H2.out w3 M3.out.1.rd).mono ?_
 rintro e w4 ⟨v, rfl, h4, f4, t4⟩
 have m4 := M3.out.1.call h4 f4
 have b4 := M3.out.2.fr f4 (by omega)
 have r4 := t4.af (B := w1.heap.size) (by have := heap_lt M3.out.2; exact this)
 obtain ⟨A2, c2, rfl, hl2, hc2⟩ := t4.slice
 obtain ⟨x0, x1, x2, x3, x4⟩ := b4.cells
 obtain ⟨q0, q1, q2, q3, q4⟩ := b4.thaw
 have M4 := Lib.hid (And.intro m4 (And.intro b4 r4))
 clear h4 f4 t4 m4 b4 r4
 go_wp2_with fail
 have m5 := M4.out.1.set (B := w1.heap.size) (by omega) 3 (.slice A2 x.length c2)
 have b5 := M4.out.2.1.put3 (.slice A2 x.length c2)
 have r5 := M4.out.2.2.set 3 (.slice A2 x.length c2)
 have H5 := Lib.hid (must_any [125] ⟨#[125]⟩ rfl _ m5.rd)
 have M5 := Lib.hid (And.intro m5 (And.intro b5 r5))
 clear m5 b5 r5
 go_at_call 89
 refine (H5.out).mono ?_
 rintro e w6 ⟨rfl, h6, f6⟩
 have m6 := M5.out.1.call h6 f6
 have b6 := M5.out.2.1.fr f6 (by omega)
 have r6 := (M5.out.2.2.up f6 (by omega)).lower (Nat.le_of_lt hz1)
 obtain ⟨⟨y0, y1, y2, y3, y4⟩, g0, g1, g2, g3, g4⟩ := m6.facts
 obtain ⟨o0, o1, o2, o3, o4⟩ := b6.cells
 have M6 := Lib.hid (And.intro m6 (TreeAt.mk (o := 32) (k := 0) (i := ln) (s := []) r6 ⟨by simp, by omega, by omega⟩))
 clear h6 f6 m6 r6 b6
 go_wp2
 exact M6.out.1.gives' 2 M6.out.2 rfl rfl rfl
end
end
section
open Go.RowKit Go.Proofs
section
variable {R cp : Nat} {A : Option Addr} {L : List Tok} {st : St} {F : Nat}
theorem head_ok (ih : All R A cp L F) (l : List Tr) (st1 : St) (hr : run L (F + 1) .head st = some (l, st1)) : Spec R A cp L .head st l st1 := by
 intro w h
 rw [run] at hr
 cases e1 : run L F .expr (mustR L st [40]) with
 | none => rw [e1] at hr; cases hr
 | some x =>
 obtain ⟨x, s2⟩ := x
 rw [e1] at hr
 obtain ⟨rfl, rfl⟩ : x = l ∧ mustR L s2 [41] = st1 := by simpa using hr
 have m0 := Mid.start h
 obtain ⟨W1, eW1⟩ : ∃ W, w.alloc (.cells #[.int .i64 0, .string ⟨#[]⟩, .int .i64 0, .slice none 0 0, .int .i64 0] 24) = W := ⟨_, rfl⟩
 rw [eW1] at m0
 have M0 := Lib.hid m0
 have H1 := Lib.hid (must_any [40] ⟨#[40]⟩ rfl W1 m0.rd)
 have H2 := Lib.hid (ih .expr _ _ _ e1)
 clear h m0 hr e1
 go_enter Try.func91, Try.ntmps91
 go_wp2_with fail
 go_at_call 89
 refine (H1.out).mono ?_
 rintro e w1 ⟨rfl, h1, f1⟩
 have M1 := Lib.hid (M0.out.call h1 f1)
 clear h1 f1
 go_wp2_with fail
 go_at_call 74
 refine (H2.out w1 M1.out.rd).mono ?_
 rintro e w2 ⟨v, rfl, h2, f2, t2⟩
 obtain ⟨A2, c2, rfl, -, -⟩ := t2.form
 obtain ⟨W3, eW3, m3, f3, b3, z3⟩ := (M1.out.call h2 f2).box_ (.int .i64 (hd x).op) (.string (bs (hd x).s)) (.int .i64 (hd x).n) (.slice A2 (hd x).l.length c2) (.int .i64 (hd x).line)
 have t3 := (t2.af (B := w.heap.size) M1.out.gt).up f3 (Nat.le_of_lt M0.out.lt)
 have hz2 := f2.size
 have hz1 := M1.out.gt
 have M3 := Lib.hid (And.intro m3 (And.intro t3 b3))
 have H3 := Lib.hid (must_any [41] ⟨#[41]⟩ rfl _ m3.rd)
 clear h2 f2 t2 m3 f3 t3 b3
 go_wp2_with fail
 go_at_call 89
 refine (H3.out).mono ?_
 rintro e w4 ⟨rfl, h4, f4⟩
 have m4 := M3.out.1.call h4 f4
 have t4 := M3.out.2.1.up f4 (Nat.le_of_lt M0.out.lt)
 have b4 := M3.out.2.2.fr f4 (by have := M0.out.lt; omega)
 obtain ⟨⟨y0, y1, y2, y3, y4⟩, g0, g1, g2, g3, g4⟩ := m4.facts
 obtain ⟨x0, x1, x2, x3, x4⟩ := b4.cells
 have M4 := Lib.hid (And.intro m4 t4)
 clear h4 f4 m4 t4 b4
 go_wp2
 exact M4.out.1.gives' 2 M4.out.2 rfl rfl rfl
end
end
section
open Go.RowKit Go.Proofs
section
variable {R cp : Nat} {A : Option Addr} {L : List Tok} {st : St} {F : Nat}
theorem cond_ok (ih : All R A cp L F) (l : List Tr) (st1 : St) (hr : run L (F + 1) .cond st = some (l, st1)) : Spec R A cp L .cond st l st1 := by
 intro w h
 rw [run] at hr
 dsimp only at hr
 cases e1 : run L F (.chain 0) st with
 | none => rw [e1] at hr; cases hr
 | some x =>
 obtain ⟨x, s2⟩ := x
 rw [e1] at hr
 have m0 := Mid.start h
 obtain ⟨W1, eW1⟩ : ∃ W, w.alloc (.cells #[.int .i64 0, .string ⟨#[]⟩, .int .i64 0, .slice none 0 0, .int .i64 0] 24) = W := ⟨_, rfl⟩
 rw [eW1] at m0
 have M0 := Lib.hid m0
 have hR := h.lt
 have H1 := Lib.hid (ih (.chain 0) _ _ _ e1 (by omega))
 clear h m0 e1
 cases hi : isR L s2 [63] with
 | false =>
  obtain ⟨rfl, rfl⟩ : [hd x] = l ∧ s2 = st1 := by simpa [one, hi] using hr
  go_enter Try.func95, Try.ntmps95
  go_wp2_with fail
  go_at_call 105
  refine (H1.out W1 M0.out.rd).mono ?_
  rintro e w2 ⟨v, rfl, h2, f2, t2⟩
  obtain ⟨A2, c2, rfl, -, -⟩ := t2.form
  obtain ⟨W3, eW3, m3, f3, b3, z3⟩ := (M0.out.call h2 f2).box_ (.int .i64 (hd x).op) (.string (bs (hd x).s)) (.int .i64 (hd x).n) (.slice A2 (hd x).l.length c2) (.int .i64 (hd x).line)
  have t3 := (t2.af (B := w.heap.size) M0.out.gt).up f3 (Nat.le_of_lt M0.out.lt)
  have hz2 := f2.size
  have hz1 := M0.out.gt
  have M3 := Lib.hid (And.intro m3 (And.intro t3 b3))
  have H3 := take_any [63] ⟨#[63]⟩ rfl _ m3.rd
  unfold takeR at H3
  rw [hi] at H3
  have H3 := Lib.hid H3
  clear h2 f2 t2 m3 f3 t3 b3 hr
  go_wp2_with fail
  go_at_call 57
  refine (H3.out).mono ?_
  rintro e w4 ⟨rfl, h4, f4⟩
  have m4 := M3.out.1.call h4 f4
  have t4 := M3.out.2.1.up f4 (Nat.le_of_lt M0.out.lt)
  have b4 := M3.out.2.2.fr f4 (by omega)
  obtain ⟨⟨y0, y1, y2, y3, y4⟩, g0, g1, g2, g3, g4⟩ := m4.facts
  obtain ⟨x0, x1, x2, x3, x4⟩ := b4.cells
  have M4 := Lib.hid (And.intro m4 t4)
  clear h4 f4 m4 t4 b4
  go_wp2
  exact M4.out.1.gives' 2 M4.out.2 rfl rfl rfl
 | true =>
  cases e2 : run L F .expr s2.next with
  | none => simp [one, hi, e2] at hr
  | some a =>
  obtain ⟨a, s3⟩ := a
  cases e3 : run L F .expr (mustR L s3 [58]) with
  | none => simp [one, hi, e2, e3] at hr
  | some b =>
  obtain ⟨b, s4⟩ := b
  obtain ⟨rfl, rfl⟩ : [Tr.mk 23 [] 0 (hd x).line [hd x, hd a, hd b]] = l ∧ s4 = st1 := by simpa [one, hi, e2, e3] using hr
  have H2 := Lib.hid (ih .expr _ _ _ e2)
  have H4 := Lib.hid (ih .expr _ _ _ e3)
  go_enter Try.func95, Try.ntmps95
  go_wp2_with fail
  go_at_call 105
  refine (H1.out W1 M0.out.rd).mono ?_
  rintro e w2 ⟨v, rfl, h2, f2, t2⟩
  obtain ⟨A2, c2, rfl, -, -⟩ := t2.form
  obtain ⟨W3, eW3, m3, f3, b3, z3⟩ := (M0.out.call h2 f2).box_ (.int .i64 (hd x).op) (.string (bs (hd x).s)) (.int .i64 (hd x).n) (.slice A2 (hd x).l.length c2) (.int .i64 (hd x).line)
  have t3 := (t2.af (B := w.heap.size) M0.out.gt).up f3 (Nat.le_of_lt M0.out.lt)
  have hz2 := f2.size
  have hz1 := M0.out.gt
  have M3 := Lib.hid (And.intro m3 (And.intro t3 b3))
  have H3 := take_any [63] ⟨#[63]⟩ rfl _ m3.rd
  unfold takeR at H3
  rw [hi] at H3
  have H3 := Lib.hid H3
  clear h2 f2 t2 m3 f3 t3 b3 hr e2 e3 hi
  go_wp2_with fail
  go_at_call 57
  refine (H3.out).mono ?_
  rintro e w4 ⟨rfl, h4, f4⟩
  have m4 := M3.out.1.call h4 f4
  have t4 := M3.out.2.1.up f4 (Nat.le_of_lt M0.out.lt)
  have b4 := M3.out.2.2.fr f4 (by omega)
  have M4 := Lib.hid (And.intro m4 (And.intro t4 b4))
  have hz4 := m4.gt
  have hz5 := heap_lt b4
  clear h4 f4 m4 t4 b4
  go_wp2_with fail
  go_at_call 74
  refine (H2.out w4 M4.out.1.rd).mono ?_
  rintro e w5 ⟨v, rfl, h5, f5, t5⟩
  obtain ⟨A5, c5, rfl, -, -⟩ := t5.form
  have m5 := M4.out.1.call h5 f5
  have u5 := M4.out.2.1.up f5 (Nat.le_of_lt M0.out.lt)
  have bx5 := M4.out.2.2.fr f5 (by omega)
  have ta5 := t5.af (B := w.heap.size) hz4
  obtain ⟨W6, eW6, m6, f6, b6, z6⟩ := m5.box_ (.int .i64 (hd a).op) (.string (bs (hd a).s)) (.int .i64 (hd a).n) (.slice A5 (hd a).l.length c5) (.int .i64 (hd a).line)
  have hz6 := f5.size
  have M6 := Lib.hid (And.intro m6 (And.intro (u5.up f6 (Nat.le_of_lt M0.out.lt)) (And.intro (bx5.fr f6 (by omega)) (And.intro (ta5.up f6 (Nat.le_of_lt M0.out.lt)) b6))))
  have H6 := Lib.hid (must_any [58] ⟨#[58]⟩ rfl _ m6.rd)
  clear h5 f5 t5 m5 u5 bx5 ta5 m6 f6 b6
  go_wp2_with fail
  go_at_call 89
  refine (H6.out).mono ?_
  rintro e w7 ⟨rfl, h7, f7⟩
  have h7 : RdAt w7.drew R A cp L (mustR L s3 [58]) := h7.keep fun _ _ => rfl
  have f7 := f7.drew
  have M7 := Lib.hid (And.intro (M6.out.1.call h7 f7) (And.intro (M6.out.2.1.up f7 (Nat.le_of_lt M0.out.lt)) (And.intro (M6.out.2.2.1.fr f7 (by omega)) (And.intro (M6.out.2.2.2.1.up f7 (Nat.le_of_lt M0.out.lt)) (M6.out.2.2.2.2.fr f7 (by omega))))))
  have hz7 := f7.size
  clear h7 f7
  obtain ⟨x0, x1, x2, x3, x4⟩ := M7.out.2.2.1.cells
  obtain ⟨p0, p1, p2, p3, p4⟩ := M7.out.2.2.2.2.cells
  go_wp2_with fail
  have hs7 := And.intro (And.intro x0 (And.intro x1 (And.intro x2 (And.intro x3 x4)))) (And.intro p0 (And.intro p1 (And.intro p2 (And.intro p3 p4))))
  go_region_held_law (fun w' => (w'.cell? ⟨w2.heap.size, 0, none⟩ = some (.int .i64 (hd x).op) ∧ w'.cell? ⟨w2.heap.size, 1, none⟩ = some (.string (bs (hd x).s)) ∧ w'.cell? ⟨w2.heap.size, 2, none⟩ = some (.int .i64 (hd x).n) ∧ w'.cell? ⟨w2.heap.size, 3, none⟩ = some (.slice A2 (hd x).l.length c2) ∧ w'.cell? ⟨w2.heap.size, 4, none⟩ = some (.int .i64 (hd x).line)) ∧
    (w'.cell? ⟨w5.heap.size, 0, none⟩ = some (.int .i64 (hd a).op) ∧ w'.cell? ⟨w5.heap.size, 1, none⟩ = some (.string (bs (hd a).s)) ∧ w'.cell? ⟨w5.heap.size, 2, none⟩ = some (.int .i64 (hd a).n) ∧ w'.cell? ⟨w5.heap.size, 3, none⟩ = some (.slice A5 (hd a).l.length c5) ∧ w'.cell? ⟨w5.heap.size, 4, none⟩ = some (.int .i64 (hd a).line)))
   (first | with_reducible exact hs10 _ _ _ _ _ | with_reducible exact hs9 | with_reducible exact hs8 | with_reducible exact hs7)
   (first
    | (go_at_call 74; refine (H4.out w7.drew M7.out.1.rd).mono ?_; rintro e w8 ⟨v8, rfl, h8, f8, t8⟩; have m8 := M7.out.1.call h8 f8; have b8 := M7.out.2.2.1.fr f8 (by omega); have b9 := M7.out.2.2.2.2.fr f8 (by omega); have hs8 := And.intro b8.cells b9.cells; have hz8 := f8.size; obtain ⟨A8, c8, rfl, -, -⟩ := t8.form; have T8 := Lib.hid (And.intro (M7.out.2.1.up f8 (Nat.le_of_lt M0.out.lt)) (And.intro (M7.out.2.2.2.1.up f8 (Nat.le_of_lt M0.out.lt)) (t8.af (B := w.heap.size) (by omega)))); obtain ⟨W9, e9, m9, f9, a9, z9⟩ := m8.arr #[.int .i64 (hd x).op, .string (bs (hd x).s), .int .i64 (hd x).n, .slice A2 (hd x).l.length c2, .int .i64 (hd x).line, .int .i64 (hd a).op, .string (bs (hd a).s), .int .i64 (hd a).n, .slice A5 (hd a).l.length c5, .int .i64 (hd a).line, .int .i64 (hd b).op, .string (bs (hd b).s), .int .i64 (hd b).n, .slice A8 (hd b).l.length c8, .int .i64 (hd b).line]; have hs9 := And.intro (b8.fr f9 (by omega)).cells (b9.fr f9 (by omega)).cells; have hs10 := fun u0 u1 u2 u3 u4 => And.intro ((b8.fr f9 (by omega)).past (b := w.heap.size) (by omega) u0 u1 u2 u3 u4).cells ((b9.fr f9 (by omega)).past (b := w.heap.size) (by omega) u0 u1 u2 u3 u4).cells; obtain ⟨⟨y0, y1, y2, y3, y4⟩, g0, g1, g2, g3, g4⟩ := m9.facts; have M9 := Lib.hid (And.intro m9 (And.intro (T8.out.1.up f9 (Nat.le_of_lt M0.out.lt)) (And.intro (T8.out.2.1.up f9 (Nat.le_of_lt M0.out.lt)) (And.intro (T8.out.2.2.up f9 (Nat.le_of_lt M0.out.lt)) a9)))); clear h8 f8 t8 m8 b8 b9 m9 f9 a9))
  go_wp2
  exact M9.out.1.gives' 2 (TreeAt.mk (o := 23) (k := 0) (i := (hd x).line) (s := []) (RowAt.three M9.out.2.1 M9.out.2.2.1 M9.out.2.2.2.1 M9.out.2.2.2.2 rfl (show Af w.heap.size W9 w8.heap.size from ⟨by omega, by omega⟩)) ⟨by simp, by omega, by omega⟩) rfl rfl rfl
end
end
section
open Go.RowKit Go.Proofs
section
variable {R cp : Nat} {A : Option Addr} {L : List Tok}
theorem all_upto : ∀ (F : Nat), F ≤ 2000001 → ∀ F', F' ≤ F → All R A cp L F'
 | 0, _, F', hF' => by
  obtain rfl : F' = 0 := by omega
  intro m st l st1 hr
  cases hr
 | F + 1, hF, F', hF' => by
  have ihs := all_upto F (by omega)
  by_cases hlt : F' ≤ F
  ·exact ihs F' hlt
  obtain rfl : F' = F + 1 := by omega
  have ih := ihs F (Nat.le_refl _)
  have hF2 : F ≤ 2000000 := by omega
  intro m st l st1 hr
  cases m with
  | block => exact block_ok ih l st1 hr
  | stmts acc =>
   cases acc with
   | nil => exact stmts_ok ihs hF2 l st1 hr
   | cons a r => intro h; cases h
  | within => exact within_ok ih l st1 hr
  | params acc more => trivial
  | rest => exact rest_ok ihs hF2 l st1 hr
  | head => exact head_ok ih l st1 hr
  | stmt => exact stmt_ok ih l st1 hr
  | worded line s => exact worded_ok ih line s l st1 hr
  | expr => exact expr_ok ih l st1 hr
  | cond => exact cond_ok ih l st1 hr
  | chain k =>
   by_cases h6 : k < 6
   ·exact chain_ok ihs k h6 l st1 hr
   ·by_cases e : k = 6
    ·subst e
     exact chain_six ih l st1 hr
    ·intro h; omega
  | chainL k x => trivial
  | signed => exact signed_ok ih hF2 l st1 hr
  | args acc more =>
   cases acc with
   | nil => exact args_ok ihs hF2 more l st1 hr
   | cons a r => intro h; cases h
  | parts x calls => exact parts_ok ihs hF2 x calls l st1 hr
  | thing => exact thing_ok ih l st1 hr
  | object line acc => exact object_ok ihs hF2 line acc l st1 hr
theorem rd_all (F : Nat) (hF : F ≤ 2000001) : All R A cp L F := all_upto F hF F (Nat.le_refl _)
end
end
end Go.Proofs.Ytejbdoiamhfbjaa
