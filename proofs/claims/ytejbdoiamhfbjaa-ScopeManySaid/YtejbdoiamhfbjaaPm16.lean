/- The document's reader: a number's digits. The document's reader: worded. The document's reader: object: rows. -/
import Derived.OwnWalk
import Derived.Deep.RegionLaw
import Derived.Deep.OwnRows
import Derived.Deep.RegionHeldLaw
import Derived.Deep.LoopGhost
import Derived.Deep.DeepCutAuto
import Derived.Test.YtejbdoiamhfbjaaPm15
set_option linter.unusedSimpArgs false
set_option linter.unusedVariables false
set_option maxRecDepth 100000
set_option maxHeartbeats 4000000
namespace Go.Proofs.Ytejbdoiamhfbjaa
section
open Go.RowKit Go.Proofs
theorem conv1 {W : World} {g : Nat} {d : UInt8} (h : W.cell? ⟨g, 0, none⟩ = some (.int .u8 d.toNat)) : (convert 124 9 (.slice (some ⟨g, 0, none⟩) 1 1)).run Try.prog W = .ok (.string (bs [d])) W :=
 run_convert_bytes_back W 124 9 5 ⟨g, 0, none⟩ 1 [d] Try.underlying124 Try.underlying5 Try.underlying9 (fun j hj => by
  have : j = 0 := by simpa using hj
  subst this
  rw [add_mid]
  simpa using h)
theorem bs_join (a b : Bs) : bs a ++ bs b = bs (a ++ b) := by
 apply ByteArray.ext
 simp [bs]
theorem past_one {w w1 : World} {x : Value} {T : TypeId} (hb : Below (w.alloc (.cells #[x] T)).drew.heap.size (w.alloc (.cells #[x] T)).drew w1) : Below w.heap.size w w1 ∧ w1.cell? ⟨w.heap.size, 0, none⟩ = some x := by
 have hs : (w.alloc (.cells #[x] T)).drew.heap.size = w.heap.size + 1 := by show (w.alloc (.cells #[x] T)).heap.size = _; simp
 rw [hs] at hb
 have h0 : Below w.heap.size w (w.alloc (.cells #[x] T)) := (Below.refl _ w).alloc (Nat.le_refl _) _
 have h1 : Below w.heap.size w (w.alloc (.cells #[x] T)).drew := ⟨h0.os, h0.tape, h0.output, h0.size, h0.block⟩
 refine ⟨h1.trans (hb.mono (Nat.le_succ _)), ?_⟩
 rw [cell_block (hb.block w.heap.size (by omega)) _ rfl]
 show (w.alloc (.cells #[x] T)).cell? _ = _
 rw [cell_of_row _ _ _ _ _ _ (heap_alloc_new _ _)]
 rfl
theorem decN_len : ∀ (f n : Nat), (decN f n).length ≤ f
 | 0, n => by simp [decN]
 | f + 1, n => by
  rw [decN]
  split
  ·simp
  ·have := decN_len f (n / 10)
   simp
   omega
theorem num_any : ∀ (f n : Nat), f ≤ 20 → n < 10 ^ f → n ≤ 999999999999999 → 1 ≤ f → ∀ w : World, Calls Try.prog 116 #[.int .i64 n] w fun e w' => e = .returned (.string (bs (decN f n))) ∧ Below w.heap.size w w'
 | 0, n, _, _, _, h, w => by omega
 | f + 1, n, hf, hn, hm, _, w => by
  rw [decN]
  by_cases h : n < 10
  ·rw [if_pos h]
   have d1 : (n : Int) < 10 := by omega
   obtain ⟨d, hd⟩ : ∃ d : UInt8, d = UInt8.ofNat (48 + n) := ⟨_, rfl⟩
   have hdn : d.toNat = 48 + n := by rw [hd]; simp; omega
   have hcv := conv1 (W := w.alloc (.cells #[.int .u8 (48 + (n : Int))] 5)) (g := w.heap.size) (d := d) (by rw [cell_of_row _ _ _ _ _ _ (heap_alloc_new w _)]; simp [hdn])
   have hlow : Below w.heap.size w (w.alloc (.cells #[.int .u8 (48 + (n : Int))] 5)) := (Below.refl _ w).alloc (Nat.le_refl _) _
   have HL := Lib.hid (And.intro hlow hd)
   clear hlow hd hn
   go_enter Try.func116, Try.ntmps116
   go_wp2
   go_ret
   exact ⟨by rw [HL.out.2]; rfl, HL.out.1⟩
  ·rw [if_neg h]
   have d1 : ¬ (n : Int) < 10 := by omega
   obtain ⟨r, hr⟩ : ∃ r, n % 10 = r := ⟨_, rfl⟩
   obtain ⟨q, hq⟩ : ∃ q, n / 10 = q := ⟨_, rfl⟩
   have hr10 : r < 10 := by omega
   have e1 : Int.tmod (n : Int) 10 = (r : Int) := by rw [← hr]; exact Int.ofNat_tmod n 10 |>.symm
   have e2 : Int.tdiv (n : Int) 10 = (q : Int) := by rw [← hq]; exact Int.ofNat_tdiv n 10 |>.symm
   have hq0 : q < 10 ^ f := by rw [← hq]; rw [Nat.pow_succ] at hn; omega
   have hf1 : 1 ≤ f := by
    rcases f with _ | f
    ·simp at hn; omega
    ·omega
   obtain ⟨d, hd⟩ : ∃ d : UInt8, d = UInt8.ofNat (48 + r) := ⟨_, rfl⟩
   have hdn : d.toNat = 48 + r := by rw [hd]; simp; omega
   rw [hq, hr, ← hd]
   have HI := Lib.hid (num_any f q (by omega) hq0 (by omega) hf1)
   have hwq : IntKind.i64.wrap (q : Int) = (q : Int) := IntWalk.i64_in _ (by omega)
   have hwr1 : IntKind.i64.wrap (48 + (r : Int)) = 48 + (r : Int) := IntWalk.i64_in _ (by omega)
   have hwr2 : IntKind.u8.wrap (48 + (r : Int)) = 48 + (r : Int) := IntWalk.u8_in _ (by omega)
   have hl1 : (bs (decN f q)).size ≤ 20 := by rw [bs_size]; have := decN_len f q; omega
   have hl2 : (bs [d]).size = 1 := rfl
   have hl3 : ¬ (9223372036854775807 < (bs (decN f q)).size + 1) := by omega
   have hj := bs_join (decN f q) [d]
   have HD := Lib.hid (And.intro hdn hj)
   have hcv := conv1 (W := w.drew.alloc (.cells #[.int .u8 (48 + (r : Int))] 5)) (g := w.drew.heap.size) (d := d) (by rw [cell_of_row _ _ _ _ _ _ (heap_alloc_new _ _)]; simp [hdn])
   have hcvd := conv1 (W := (w.alloc (.cells #[.int .u8 (48 + (r : Int))] 5)).drew) (g := w.heap.size) (d := d) (by show (w.alloc (.cells #[.int .u8 (48 + (r : Int))] 5)).cell? _ = _; rw [cell_of_row _ _ _ _ _ _ (heap_alloc_new _ _)]; simp [hdn])
   clear hn hm hq0 hd h hdn hj
   go_enter Try.func116, Try.ntmps116
   go_wp2_with fail
   have hz0 : w.drew.heap.size = w.heap.size := rfl
   go_region_law (first
    | (go_simp; go_at_call 116; (with_reducible refine (HI.out w.drew).mono ?_); rintro e w1 ⟨rfl, hb⟩; have hz := hb.size; have HL := Lib.hid ((show Below w.heap.size w w1 from ⟨hb.os, hb.tape, hb.output, hb.size, hb.block⟩).trans ((Below.refl _ _).alloc hz (.cells #[.int .u8 (48 + (r : Int))] 5))); have hcv2 := conv1 (W := w1.alloc (.cells #[.int .u8 (48 + (r : Int))] 5)) (g := w1.heap.size) (d := d) (by rw [cell_of_row _ _ _ _ _ _ (heap_alloc_new _ _)]; simp [HD.out.1]); clear hb)
    | (go_simp; go_at_call 116; (with_reducible refine (HI.out (w.alloc (.cells #[.int .u8 (48 + (r : Int))] 5)).drew).mono ?_); rintro e w1 ⟨rfl, hb⟩; have hpo := past_one hb; have hz := hpo.1.size; have HL := Lib.hid hpo.1; have hcv2 := conv1 (W := w1) (g := w.heap.size) (d := d) (by rw [hpo.2]; simp [HD.out.1]); clear hb hpo))
   all_goals
    go_wp2
    go_ret
    exact ⟨by rw [← HD.out.2]; rfl, HL.out⟩
end
section
open Go.RowKit Go.Proofs
section
variable {R cp : Nat} {A : Option Addr} {L : List Tok} {st : St} {F : Nat}
theorem worded_while (ih : All R A cp L F) (hps : st.pos < L.length) (line : Int) (l : List Tr) (st1 : St) (hr : wordedR L (run L F) line [119, 104, 105, 108, 101] st = some (l, st1)) (w : World) (B : Nat) (h : RdAt w R A cp L st) (hRB : R < B)
  (hB0 : w.heap[B]? = some (.cells #[.int .i64 0, .string ⟨#[]⟩, .int .i64 0, .slice none 0 0, .int .i64 line] 24 (0, 0))) :
  Calls Try.prog 73 #[ptr R, ptr B, .string (bs [119, 104, 105, 108, 101])] w (Told R B A cp L w l st1) := by
 have hBw := heap_lt hB0
 have M0 := Lib.hid (And.intro (Wd.start h hRB hBw) (show Bx w B _ _ _ _ _ from hB0))
 have H0 := h
 cases e1 : run L F .head st.next with
 | none => simp [wordedR, one, e1] at hr
 | some y =>
 obtain ⟨y, s2⟩ := y
 cases e2 : run L F .within s2 with
 | none => simp [wordedR, one, e1, e2] at hr
 | some z =>
 obtain ⟨z, s3⟩ := z
 obtain ⟨rfl, rfl⟩ : [Tr.mk 34 [] 0 line [hd y, hd z]] = l ∧ s3 = st1 := by simpa [wordedR, one, e1, e2] using hr
 have H1 := Lib.hid (ih .head _ _ _ e1)
 have H2 := Lib.hid (ih .within _ _ _ e2)
 clear hr e1 e2
 have q_var : ((bs [119, 104, 105, 108, 101]).toList == [118, 97, 114]) = false := by rw [bs_eq]; decide
 have q_if : ((bs [119, 104, 105, 108, 101]).toList == [105, 102]) = false := by rw [bs_eq]; decide
 have q_while : ((bs [119, 104, 105, 108, 101]).toList == [119, 104, 105, 108, 101]) = true := by rw [bs_eq]; decide
 clear h hB0 H0
 go_enter Try.func73, Try.ntmps73
 obtain ⟨x0_1, x1_1, x2_1, x3_1, x4_1⟩ := M0.out.2.cells
 obtain ⟨q0_1, q1_1, q2_1, q3_1, q4_1⟩ := M0.out.2.thaw
 obtain ⟨c0, c1, c2, c3⟩ := M0.out.1.rd.cells
 have fR1 := M0.out.1.rd.thaw 1
 have hw := wrap_next hps M0.out.1.rd.len
 obtain ⟨w2, e2, h2, f2⟩ := M0.out.1.next_ hps
 have z2 := f2.size
 have M2 := Lib.hid (And.intro (M0.out.1.call h2 f2) (M0.out.2.fr f2 (by omega)))
 clear h2 f2
 obtain ⟨x0_2, x1_2, x2_2, x3_2, x4_2⟩ := M2.out.2.cells
 obtain ⟨q0_2, q1_2, q2_2, q3_2, q4_2⟩ := M2.out.2.thaw
 obtain ⟨w3, e3⟩ : ∃ W, w2.setCell ⟨B, 0, none⟩ (.int .i64 34) = W := ⟨_, rfl⟩
 have m3 := M2.out.1.set 0 (.int .i64 34)
 have i3_0 := M2.out.2.put0 (.int .i64 34)
 have z3 : w2.heap.size ≤ w3.heap.size := by rw [← e3]; simp
 rw [e3] at m3 i3_0
 have M3 := Lib.hid (And.intro m3 (i3_0))
 clear m3 i3_0
 obtain ⟨x0_3, x1_3, x2_3, x3_3, x4_3⟩ := M3.out.2.cells
 obtain ⟨q0_3, q1_3, q2_3, q3_3, q4_3⟩ := M3.out.2.thaw
 go_wp2_with fail
 go_at_call 91
 refine (H1.out w3 M3.out.1.rd).mono ?_
 rintro e w4 ⟨v4, rfl, h4, f4, t4⟩
 obtain ⟨A4, c4, rfl, -, -⟩ := t4.form
 have z4 := f4.size
 obtain ⟨w5, e5, m5, f5, b5, zq5⟩ := (M3.out.1.call h4 f4).arr #[.int .i64 (hd y).op, .string (bs (hd y).s), .int .i64 (hd y).n, .slice A4 (hd y).l.length c4, .int .i64 (hd y).line]
 have z5 : w4.heap.size < w5.heap.size := by omega
 clear zq5
 have a5 := AccAt.lit_new (b := w.heap.size) (cs := #[.int .i64 (hd y).op, .string (bs (hd y).s), .int .i64 (hd y).n, .slice A4 (hd y).l.length c4, .int .i64 (hd y).line]) t4 rfl (by omega) (by omega)
 rw [e5] at a5
 have M5 := Lib.hid (And.intro m5 (And.intro ((M3.out.2.fr f4 (by omega)).fr f5 (by omega)) (a5)))
 clear h4 f4 t4 m5 f5 b5 a5
 clear x0_1 x1_1 x2_1 x3_1 x4_1 q0_1 q1_1 q2_1 q3_1 q4_1 x0_2 x1_2 x2_2 x3_2 x4_2 q0_2 q1_2 q2_2 q3_2 q4_2 x0_3 x1_3 x2_3 x3_3 x4_3 q0_3 q1_3 q2_3 q3_3 q4_3
 clear c0 c1 c2 c3 fR1 hw
 obtain ⟨x0_4, x1_4, x2_4, x3_4, x4_4⟩ := M5.out.2.1.cells
 obtain ⟨q0_4, q1_4, q2_4, q3_4, q4_4⟩ := M5.out.2.1.thaw
 obtain ⟨w6, e6⟩ : ∃ W, w5.setCell ⟨B, 3, none⟩ (.slice (some ⟨w4.heap.size, 0, none⟩) 1 1) = W := ⟨_, rfl⟩
 have m6 := M5.out.1.set 3 (.slice (some ⟨w4.heap.size, 0, none⟩) 1 1)
 have i6_0 := M5.out.2.1.put3 (.slice (some ⟨w4.heap.size, 0, none⟩) 1 1)
 have i6_1 := M5.out.2.2.away (b := B) (by omega) 3 (.slice (some ⟨w4.heap.size, 0, none⟩) 1 1)
 have z6 : w5.heap.size ≤ w6.heap.size := by rw [← e6]; simp
 rw [e6] at m6 i6_0 i6_1
 have M6 := Lib.hid (And.intro m6 (And.intro i6_0 (i6_1)))
 clear m6 i6_0 i6_1
 obtain ⟨x0_5, x1_5, x2_5, x3_5, x4_5⟩ := M6.out.2.1.cells
 obtain ⟨q0_5, q1_5, q2_5, q3_5, q4_5⟩ := M6.out.2.1.thaw
 have hBk : B < w6.heap.size := by omega
 have zd : w6.heap.size ≤ w6.drew.heap.size := Nat.le_refl _
 have MD := Lib.hid (And.intro M6.out.1.drew (And.intro (M6.out.2.1.fr ((Only.refl (fun k => k = R) w6).drew) (by omega)) (M6.out.2.2.fr ((Only.refl (fun k => k = R) w6).drew) (by omega))))
 have zda : w6.drew.heap.size < (w6.drew.alloc (.cells #[.int .i64 0, .string ⟨#[]⟩, .int .i64 0, .slice none 0 0, .int .i64 0] 24)).heap.size := by simp
 have zde : (w6.drew.alloc (.cells #[.int .i64 0, .string ⟨#[]⟩, .int .i64 0, .slice none 0 0, .int .i64 0] 24)).heap.size = w6.drew.heap.size + 1 := by simp
 have MA := Lib.hid (And.intro (MD.out.1.call (MD.out.1.rd.alloc _) (Only.alloc (F := fun k => k = R) w6.drew (.cells #[.int .i64 0, .string ⟨#[]⟩, .int .i64 0, .slice none 0 0, .int .i64 0] 24))) (And.intro (MD.out.2.1.fr (Only.alloc (F := fun k => k = R) w6.drew (.cells #[.int .i64 0, .string ⟨#[]⟩, .int .i64 0, .slice none 0 0, .int .i64 0] 24)) (by omega)) (And.intro (MD.out.2.2.fr (Only.alloc (F := fun k => k = R) w6.drew (.cells #[.int .i64 0, .string ⟨#[]⟩, .int .i64 0, .slice none 0 0, .int .i64 0] 24)) (by omega)) (heap_alloc_new w6.drew (.cells #[.int .i64 0, .string ⟨#[]⟩, .int .i64 0, .slice none 0 0, .int .i64 0] 24)))))
 obtain ⟨x0_6, x1_6, x2_6, x3_6, x4_6⟩ := M6.out.2.1.cells
 obtain ⟨q0_6, q1_6, q2_6, q3_6, q4_6⟩ := M6.out.2.1.thaw
 have hfine := Lib.hid (show Fine 34 [] 0 from ⟨by simp, by omega, by omega⟩)
 go_wp2_with fail
 go_region_law (first
  | (refine step_app rfl _ _ 22 rfl _ _ rfl rfl _ HP.out ?_; rintro u w8 ⟨gA, cA, rfl, hpz⟩; have zj := hpz.on.size; obtain ⟨hgl, ⟨y0, y1, y2, y3, y4⟩, g0, g1, g2, g3, g4⟩ := hpz.cells 5 6 7 8 9 rfl rfl rfl rfl rfl; have hgB : B < gA := (by have := hpz.lo; omega); have hgB1 : gA ≠ B := (by omega); have hgB2 : B ≠ gA := (by omega); clear x0 x1 x2 x3 x4; obtain ⟨x0, x1, x2, x3, x4⟩ := (Bx.push MX.out.2.1 MX.out.2.2.1 hBw hpz.on).cells; obtain ⟨q0, q1, q2, q3, q4⟩ := (Bx.push MX.out.2.1 MX.out.2.2.1 hBw hpz.on).thaw; have hix : (1 : Int) < 2 := (by decide); have hBw8 : B < w8.heap.size := (by omega); have HZ := Lib.hid hpz; clear hpz HP)
  | (go_simp; go_at_call 92; refine (H2.out w6.drew MD.out.1.rd).mono ?_; rintro e w7 ⟨v7, rfl, h7, f7, t7⟩; obtain ⟨A7, c7, rfl, -, -⟩ := t7.form; have z7 := f7.size; have hBq : B < w7.heap.size := (by omega); have za7 : (w7.alloc (.cells #[.int .i64 0, .string ⟨#[]⟩, .int .i64 0, .slice none 0 0, .int .i64 0] 24)).heap.size = w7.heap.size + 1 := (by simp); have fx7 : Fr R w7 (w7.alloc (.cells #[.int .i64 0, .string ⟨#[]⟩, .int .i64 0, .slice none 0 0, .int .i64 0] 24)) := Only.alloc _ _; have MX := Lib.hid (And.intro ((MD.out.1.call h7 f7).call (h7.alloc _) fx7) (And.intro ((MD.out.2.1.fr f7 (by omega)).fr fx7 (by omega)) (And.intro ((MD.out.2.2.fr f7 (by omega)).fr fx7 (by omega)) (And.intro (heap_alloc_new w7 (.cells #[.int .i64 0, .string ⟨#[]⟩, .int .i64 0, .slice none 0 0, .int .i64 0] 24)) (TreeAt.keep (w' := (w7.alloc (.cells #[.int .i64 0, .string ⟨#[]⟩, .int .i64 0, .slice none 0 0, .int .i64 0] 24))) t7 (S' := fun k => (w.heap.size ≤ k ∧ k < (w7.alloc (.cells #[.int .i64 0, .string ⟨#[]⟩, .int .i64 0, .slice none 0 0, .int .i64 0] 24)).heap.size) ∧ (Value.slice (some ⟨w4.heap.size, 0, none⟩) 1 1).ownBlock ≠ some k) (fun k hk => ⟨⟨by have := hk.1; omega, by have := hk.2; omega⟩, fun e => by have := (own_blk MD.out.2.2 e).2; have := hk.1; omega⟩) (fun k hk => Below.heap_alloc _ _ k hk.2)))))); have HP := Lib.hid (AccAt.pushZ MX.out.2.2.1 w7.heap.size 1 2 rfl rfl MX.out.2.2.2.1 (by decide) (by omega) 22); clear x0_4 x1_4 x2_4 x3_4 x4_4 q0_4 q1_4 q2_4 q3_4 q4_4 x0_5 x1_5 x2_5 x3_5 x4_5 q0_5 q1_5 q2_5 q3_5 q4_5 x0_6 x1_6 x2_6 x3_6 x4_6 q0_6 q1_6 q2_6 q3_6 q4_6; obtain ⟨x0, x1, x2, x3, x4⟩ := (MD.out.2.1.fr f7 (by omega)).cells; clear h7 f7 t7 fx7)
  | (go_simp; go_at_call 92; refine (H2.out (w6.drew.alloc (.cells #[.int .i64 0, .string ⟨#[]⟩, .int .i64 0, .slice none 0 0, .int .i64 0] 24)) MA.out.1.rd).mono ?_; rintro e w7 ⟨v7, rfl, h7, f7, t7⟩; obtain ⟨A7, c7, rfl, -, -⟩ := t7.form; have z7 := f7.size; have hBq : B < w7.heap.size := (by omega); have MX := Lib.hid (And.intro (MA.out.1.call h7 f7) (And.intro (MA.out.2.1.fr f7 (by omega)) (And.intro (MA.out.2.2.1.fr f7 (by omega)) (And.intro (blk_fr MA.out.2.2.2 f7 (by omega)) (TreeAt.keep (w' := w7) t7 (S' := fun k => (w.heap.size ≤ k ∧ k < w7.heap.size) ∧ (Value.slice (some ⟨w4.heap.size, 0, none⟩) 1 1).ownBlock ≠ some k) (fun k hk => ⟨⟨by have := hk.1; omega, by have := hk.2; omega⟩, fun e => by have := (own_blk MA.out.2.2.1 e).2; have := hk.1; omega⟩) (fun k hk => rfl)))))); have HP := Lib.hid (AccAt.pushZ MX.out.2.2.1 w6.drew.heap.size 1 2 rfl rfl MX.out.2.2.2.1 (by decide) (by omega) 22); clear x0_4 x1_4 x2_4 x3_4 x4_4 q0_4 q1_4 q2_4 q3_4 q4_4 x0_5 x1_5 x2_5 x3_5 x4_5 q0_5 q1_5 q2_5 q3_5 q4_5 x0_6 x1_6 x2_6 x3_6 x4_6 q0_6 q1_6 q2_6 q3_6 q4_6; obtain ⟨x0, x1, x2, x3, x4⟩ := (MA.out.2.1.fr f7 (by omega)).cells; clear h7 f7 t7))
 all_goals
  go_wp2
  go_ret
  change Told R B A cp L w _ _ (.returned (.bool true)) _
  have hbx : Bx _ B (.int .i64 34) (.string (bs [])) (.int .i64 0) _ (.int .i64 line) := MX.out.2.1
  first
   | with_reducible exact Wd.told_1_1 MX.out.1 hbx HZ.out MX.out.2.2.2.2 hfine.out
   | with_reducible exact Wd.told_1_2 MX.out.1 hbx HZ.out MX.out.2.2.2.2 hfine.out
end
end
section
open Go.RowKit Go.Proofs
section
variable {R cp : Nat} {A : Option Addr} {L : List Tok} {st : St} {F : Nat}
section
variable {w wk w' : World} {st1 : St} {t : Tr} {ts : List Tr} {v : Value} {b P B : Nat}
def AccU (b P : Nat) (W : World) (ts : List Tr) (v : Value) : Prop :=
 P ≤ W.heap.size ∧ (∀ k, v.ownBlock = some k → b ≤ k ∧ k < P) ∧ ∃ xs : List Lo, trees xs = ts ∧ W.ownsRow b 24 5 v ts.length (xs.flatMap fun x => cellsT x.val) ∧ ∀ x ∈ xs, LoAt W (fun k => (b ≤ k ∧ k < P) ∧ v.ownBlock ≠ some k) x
theorem AccAt.u (h : AccAt b wk ts v) : AccU b wk.heap.size wk ts v := ⟨Nat.le_refl _, fun k hk => own_blk h hk, h⟩
theorem AccU.acc (h : AccU b P wk ts v) : AccAt b wk ts v := by
 obtain ⟨h0, h1, xs, h2, h3, h4⟩ := h
 exact ⟨xs, h2, h3, fun x hx => (h4 x hx).frame (fun k hk => ⟨⟨hk.1.1, by have := hk.1.2; omega⟩, hk.2⟩) (fun k hk => rfl)⟩
theorem AccU.keep (h : AccU b P wk ts v) (hs : wk.heap.size ≤ w'.heap.size) (hk : ∀ k, b ≤ k → k < P → w'.heap[k]? = wk.heap[k]?) : AccU b P w' ts v := by
 obtain ⟨h0, h1, xs, h2, h3, h4⟩ := h
 refine ⟨by omega, h1, xs, h2, ⟨h3.1, h3.2.imp id fun ⟨g, cap, cur, e1, e2, e3, e4⟩ => ⟨g, cap, cur, e1, e2, ?_, e4⟩⟩, fun x hx => (h4 x hx).frame (fun k hk => hk) (fun k hk' => hk k hk'.1.1 hk'.1.2)⟩
 exact (hk g e2 (h1 g (by rw [e1]; rfl)).2).trans e3
theorem AccU.fr (h : AccU b P wk ts v) (hf : Fr R wk w') (hR : R < b) : AccU b P w' ts v := h.keep hf.size fun k h1 h2 => hf.block k (by have := h.1; omega) (by omega)
theorem AccU.hi {B' : Nat} (h : AccU b P wk ts v) (hB : P ≤ B') (i : Nat) (u : Value) : AccU b P (wk.setCell ⟨B', i, none⟩ u) ts v := h.keep (by simp) (fun k h1 h2 => Below.heap_setCell wk _ _ k (by show k ≠ B'; omega))
theorem Mid.after {n g c n1 : Nat} {W F : World} {v0 v1 v2 v4 u0 u1 u2 u3 u4 : Value} (m : Mid R A cp L w wk st) (hB : w.heap.size < B) (hb : Bx wk B v0 v1 v2 v v4) (p : PZ (B + 1) wk ts v n g c W) (ht : TreeAt wk (fun k => (B + 1 ≤ k ∧ k < wk.heap.size) ∧ v.ownBlock ≠ some k) t (.agg #[u0, u1, u2, u3, u4])) (o0 o1 o2 o3 o4 : Nat) (e0 : n * 5 = o0) (e1 : n * 5 + 1 = o1) (e2 : n * 5 + 2 = o2) (e3 : n * 5 + 3 = o3) (e4 : n * 5 + 4 = o4) (hn1 : n + 1 = n1)
  (hF : F = (put5o W g o0 o1 o2 o3 o4 u0 u1 u2 u3 u4).setCell ⟨B, 3, none⟩ (.slice (some ⟨g, 0, none⟩) n1 c) ∨ F = put5o (W.setCell ⟨B, 3, none⟩ (.slice (some ⟨g, 0, none⟩) n1 c)) g o0 o1 o2 o3 o4 u0 u1 u2 u3 u4) :
  Mid R A cp L w F st ∧ Bx F B v0 v1 v2 (.slice (some ⟨g, 0, none⟩) n1 c) v4 ∧ AccAt (B + 1) F (ts ++ [t]) (.slice (some ⟨g, 0, none⟩) n1 c) := by
 have hl := m.lt
 have hlo := p.lo
 have m1 := m.push p.acc (by omega) p.on
 have b1 := hb.push p.acc (b := B) (by omega) p.on
 have hp := put5o_only W g o0 o1 o2 o3 o4 u0 u1 u2 u3 u4
 have hgB : g ≠ B := by omega
 rcases hF with rfl | rfl
 ·have m2 : Mid R A cp L w (put5o W g o0 o1 o2 o3 o4 u0 u1 u2 u3 u4) st := ⟨m1.rd.only hp (fun i hi => by omega), Fr.own m1.fr hp (fun i hi => by omega), (hp.block _ m1.gt (by omega)).trans m1.box, m1.lt⟩
  have b2 : Bx (put5o W g o0 o1 o2 o3 o4 u0 u1 u2 u3 u4) B v0 v1 v2 v v4 := (hp.block B (heap_lt b1) (by omega)).trans b1
  refine ⟨m2.set hB 3 _, b2.put3 _, p.fin o0 o1 o2 o3 o4 n1 e0 e1 e2 e3 e4 hn1 ht ?_ ?_ (by simp)⟩
  ·exact Below.heap_setCell _ _ _ g hgB
  ·exact fun k k1 k2 k3 => (Below.heap_setCell _ _ _ k (by show k ≠ B; omega)).trans (hp.block k k2 (by omega))
 ·have m2 := m1.set hB 3 (.slice (some ⟨g, 0, none⟩) n1 c)
  have b2 := b1.put3 (.slice (some ⟨g, 0, none⟩) n1 c)
  have hp' := put5o_only (W.setCell ⟨B, 3, none⟩ (.slice (some ⟨g, 0, none⟩) n1 c)) g o0 o1 o2 o3 o4 u0 u1 u2 u3 u4
  refine ⟨⟨m2.rd.only hp' (fun i hi => by omega), Fr.own m2.fr hp' (fun i hi => by omega), (hp'.block _ m2.gt (by omega)).trans m2.box, m2.lt⟩, (hp'.block B (heap_lt b2) (by omega)).trans b2, p.fin o0 o1 o2 o3 o4 n1 e0 e1 e2 e3 e4 hn1 ht ?_ ?_ (by simp)⟩
  ·have hgg : (W.setCell ⟨B, 3, none⟩ (.slice (some ⟨g, 0, none⟩) n1 c)).heap[g]? = W.heap[g]? := Below.heap_setCell _ _ _ g hgB
   unfold put5o
   simp only [World.setCell, Array.getElem?_modify] at hgg ⊢
   simp [hgB, Ne.symm hgB]
  ·exact fun k k1 k2 k3 => (hp'.block k (by simpa using k2) (by omega)).trans (Below.heap_setCell _ _ _ k (by show k ≠ B; omega))
end
end
end
end Go.Proofs.Ytejbdoiamhfbjaa
