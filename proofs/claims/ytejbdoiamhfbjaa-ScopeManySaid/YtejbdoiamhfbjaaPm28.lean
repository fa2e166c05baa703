/- The document's reader: stmt. -/
import Derived.Deep.RegionHeldLaw
import Derived.Deep.LoopGhost
import Derived.Deep.DeepCutAuto
import Derived.Test.YtejbdoiamhfbjaaPm12
set_option linter.unusedSimpArgs false
set_option linter.unusedVariables false
set_option maxRecDepth 100000
set_option maxHeartbeats 4000000
namespace Go.Proofs.Ytejbdoiamhfbjaa
section
open Go.RowKit Go.Proofs
section
variable {R cp : Nat} {A : Option Addr} {L : List Tok} {st : St} {F : Nat}
def NE (r : Res) : Prop := ∀ s', r ≠ some ([], s')
theorem NE_one (t : Tr) (s : St) : NE (one t s) := fun s' h => by simp [one] at h
theorem NE_bind {α : Type} {o : Option α} {f : α → Res} (h : ∀ x, NE (f x)) : NE (o >>= f) := fun s' e => by
 cases o with
 | none => cases e
 | some x => exact h x s' e
theorem NE_ite {c : Prop} [Decidable c] {a b : Res} (h : NE a) (k : NE b) : NE (if c then a else b) := by split; exact h; exact k
theorem worded_nil (rec : M → St → Res) (line : Int) (s : Bs) (s' : St) (h : wordedR L rec line s st = some ([], s')) : s' = st := by
 unfold wordedR at h
 by_cases a0 : s = [118, 97, 114]
 ·rw [if_pos a0] at h
  exfalso
  revert h
  refine (?_ : NE _) s'
  repeat (first | exact NE_one _ _ | apply NE_ite | (apply NE_bind; intro _))
 rw [if_neg a0] at h
 by_cases a1 : s = [105, 102]
 ·rw [if_pos a1] at h
  exfalso
  revert h
  refine (?_ : NE _) s'
  repeat (first | exact NE_one _ _ | apply NE_ite | (apply NE_bind; intro _))
 rw [if_neg a1] at h
 by_cases a2 : s = [119, 104, 105, 108, 101]
 ·rw [if_pos a2] at h
  exfalso
  revert h
  refine (?_ : NE _) s'
  repeat (first | exact NE_one _ _ | apply NE_ite | (apply NE_bind; intro _))
 rw [if_neg a2] at h
 by_cases a3 : s = [102, 111, 114]
 ·rw [if_pos a3] at h
  exfalso
  revert h
  refine (?_ : NE _) s'
  repeat (first | exact NE_one _ _ | apply NE_ite | (apply NE_bind; intro _))
 rw [if_neg a3] at h
 by_cases a4 : s = [116, 114, 121]
 ·rw [if_pos a4] at h
  exfalso
  revert h
  refine (?_ : NE _) s'
  repeat (first | exact NE_one _ _ | apply NE_ite | (apply NE_bind; intro _))
 rw [if_neg a4] at h
 by_cases a5 : s = funW
 ·rw [if_pos a5] at h
  exfalso
  revert h
  refine (?_ : NE _) s'
  repeat (first | exact NE_one _ _ | apply NE_ite | (apply NE_bind; intro _))
 rw [if_neg a5] at h
 by_cases a6 : s = [114, 101, 116, 117, 114, 110]
 ·rw [if_pos a6] at h
  exfalso
  revert h
  refine (?_ : NE _) s'
  repeat (first | exact NE_one _ _ | apply NE_ite | (apply NE_bind; intro _))
 rw [if_neg a6] at h
 by_cases a7 : s = [116, 104, 114, 111, 119]
 ·rw [if_pos a7] at h
  exfalso
  revert h
  refine (?_ : NE _) s'
  repeat (first | exact NE_one _ _ | apply NE_ite | (apply NE_bind; intro _))
 rw [if_neg a7] at h
 by_cases a8 : s = [98, 114, 101, 97, 107]
 ·rw [if_pos a8] at h
  exfalso
  revert h
  refine (?_ : NE _) s'
  repeat (first | exact NE_one _ _ | apply NE_ite | (apply NE_bind; intro _))
 rw [if_neg a8] at h
 by_cases a9 : s = [99, 111, 110, 116, 105, 110, 117, 101]
 ·rw [if_pos a9] at h
  exfalso
  revert h
  refine (?_ : NE _) s'
  repeat (first | exact NE_one _ _ | apply NE_ite | (apply NE_bind; intro _))
 rw [if_neg a9] at h
 have h : st = s' := by simpa using h
 exact h.symm
theorem stmt_ok (ih : All R A cp L F) (l : List Tr) (st1 : St) (hr : run L (F + 1) .stmt st = some (l, st1)) : Spec R A cp L .stmt st l st1 := by
 intro w h
 rw [run] at hr
 dsimp only at hr
 cases ht : tokR L st 0 with | mk kd ts tn ln nl =>
 rw [ht] at hr
 dsimp only at hr
 have htl := tok_len h ht
 have hpz := tok_pos h ht
 have hR := h.lt
 by_cases hb : kd = 5 ∧ ts = [123]
 ·obtain ⟨rfl, rfl⟩ := hb
  have e1 : run L F .block st = some (l, st1) := by simpa using hr
  have H1 := Lib.hid (ih .block _ _ _ e1)
  have q1 : ((bs [123]).toList == [123]) = true := by rw [bs_eq]; decide
  clear hr e1 hpz
  go_enter Try.func58, Try.ntmps58
  have m0 := Mid.start h
  obtain ⟨W1, eW1⟩ : ∃ W, w.alloc (.cells #[.int .i64 0, .string ⟨#[]⟩, .int .i64 0, .slice none 0 0, .int .i64 0] 24) = W := ⟨_, rfl⟩
  rw [eW1] at m0
  have hz0 := m0.gt
  have M0 := Lib.hid m0
  have hR := h.lt
  clear h m0
  have HQ0 := tok_any 0 W1 M0.out.rd (by omega)
  rw [ht] at HQ0
  unfold tokV at HQ0
  have HQ := Lib.hid HQ0
  clear HQ0
  go_wp2_with fail
  go_at_call 55
  refine (HQ.out).mono ?_
  rintro e w2 ⟨rfl, hb⟩
  have f2 := Fr.of_below (R := R) hb (Nat.le_refl _)
  have h2 := M0.out.rd.below hb M0.out.rd.lt
  have z2 := f2.size
  clear hb
  have M2 := Lib.hid ((M0.out.call h2 f2))
  clear h2 f2
  clear HQ
  obtain ⟨w3, e3, m3, f3, b3, zq3⟩ := M2.out.tok_ (5) [123] tn ln nl
  have z3 : w2.heap.size < w3.heap.size := by omega
  clear zq3
  have M3 := Lib.hid (And.intro m3 (b3))
  have hl3 := heap_lt b3
  clear m3 f3 b3
  obtain ⟨t0, t1, t2, t3, t4⟩ := (box_facts M3.out.2).1
  obtain ⟨w4, e4, m4, f4, b4, zq4⟩ := M3.out.1.box_ (.int .i64 0) (.string ⟨#[]⟩) (.int .i64 0) (.slice none 0 0) (.int .i64 ln)
  have z4 : w3.heap.size < w4.heap.size := by omega
  clear zq4
  have M4 := Lib.hid (And.intro m4 (And.intro (blk_fr M3.out.2 f4 (by omega)) (b4)))
  clear m4 f4 b4
  obtain ⟨t0, t1, t2, t3, t4⟩ := (box_facts M4.out.2.1).1
  go_wp2_with fail
  go_at_call 72
  refine (H1.out w4 M4.out.1.rd).mono ?_
  rintro e w5 ⟨v5, rfl, h5, f5, t5⟩
  obtain ⟨A5, c5, rfl, -, -⟩ := t5.form
  have z5 := f5.size
  have M5 := Lib.hid (And.intro (M4.out.1.call h5 f5) (And.intro (blk_fr M4.out.2.1 f5 (by omega)) (And.intro (M4.out.2.2.fr f5 (by omega)) (t5.af (B := w.heap.size) (by omega)))))
  clear h5 f5 t5
  obtain ⟨⟨y0, y1, y2, y3, y4⟩, g0, g1, g2, g3, g4⟩ := M5.out.1.facts
  go_wp2
  exact M5.out.1.gives' 2 M5.out.2.2.2 rfl rfl rfl
 ·rw [if_neg hb] at hr
  by_cases hw : kd = 2
  ·subst hw
   have hps := hpz (by decide)
   clear hpz hb
   rw [if_pos rfl] at hr
   cases e1 : run L F (.worded ln ts) st with
   | none => rw [e1] at hr; cases hr
   | some x =>
   obtain ⟨x, s2⟩ := x
   rw [e1] at hr
   have H1 := Lib.hid (ih (.worded ln ts) _ _ _ e1 hps)
   cases x with
   | cons y ys =>
    obtain ⟨rfl, rfl⟩ : y :: ys = l ∧ s2 = st1 := by simpa using hr
    clear hr e1
    go_enter Try.func58, Try.ntmps58
    have m0 := Mid.start h
    obtain ⟨W1, eW1⟩ : ∃ W, w.alloc (.cells #[.int .i64 0, .string ⟨#[]⟩, .int .i64 0, .slice none 0 0, .int .i64 0] 24) = W := ⟨_, rfl⟩
    rw [eW1] at m0
    have hz0 := m0.gt
    have M0 := Lib.hid m0
    have hR := h.lt
    clear h m0
    have HQ0 := tok_any 0 W1 M0.out.rd (by omega)
    rw [ht] at HQ0
    unfold tokV at HQ0
    have HQ := Lib.hid HQ0
    clear HQ0
    go_wp2_with fail
    go_at_call 55
    refine (HQ.out).mono ?_
    rintro e w2 ⟨rfl, hb⟩
    have f2 := Fr.of_below (R := R) hb (Nat.le_refl _)
    have h2 := M0.out.rd.below hb M0.out.rd.lt
    have z2 := f2.size
    clear hb
    have M2 := Lib.hid ((M0.out.call h2 f2))
    clear h2 f2
    clear HQ
    obtain ⟨w3, e3, m3, f3, b3, zq3⟩ := M2.out.tok_ (2) ts tn ln nl
    have z3 : w2.heap.size < w3.heap.size := by omega
    clear zq3
    have M3 := Lib.hid (And.intro m3 (b3))
    have hl3 := heap_lt b3
    clear m3 f3 b3
    obtain ⟨t0, t1, t2, t3, t4⟩ := (box_facts M3.out.2).1
    obtain ⟨w4, e4, m4, f4, b4, zq4⟩ := M3.out.1.box_ (.int .i64 0) (.string ⟨#[]⟩) (.int .i64 0) (.slice none 0 0) (.int .i64 ln)
    have z4 : w3.heap.size < w4.heap.size := by omega
    clear zq4
    have M4 := Lib.hid (And.intro m4 (And.intro (blk_fr M3.out.2 f4 (by omega)) (b4)))
    clear m4 f4 b4
    obtain ⟨t0, t1, t2, t3, t4⟩ := (box_facts M4.out.2.1).1
    go_wp2_with fail
    go_at_call 73
    refine (H1.out w4 w3.heap.size M4.out.1.rd (by omega) M4.out.2.2).mono ?_
    rintro e w5 ⟨rfl, h5, o5, -, p5⟩
    have z5 := o5.size
    obtain ⟨v5, p5, r5, i5⟩ := p5 (by simp)
    try dsimp only [hd] at p5 r5 i5
    have m5 : Mid R A cp L w w5 _ := ⟨h5, Fr.own2 M4.out.1.fr o5 (by omega), (o5.block _ M4.out.1.gt (by omega)).trans M4.out.1.box, M4.out.1.lt⟩
    obtain ⟨A5, c5, rfl, -, -⟩ := r5.slice
    have p5 : Bx w5 (w3.heap.size) _ _ _ _ _ := p5
    have M5 := Lib.hid (And.intro m5 (And.intro p5 (And.intro (r5.af (B := w.heap.size) (by omega)) (i5))))
    clear m5 p5 r5 i5 h5 o5
    obtain ⟨x0, x1, x2, x3, x4⟩ := M5.out.2.1.cells
    obtain ⟨⟨y0, y1, y2, y3, y4⟩, g0, g1, g2, g3, g4⟩ := M5.out.1.facts
    go_wp2
    exact M5.out.1.gives' 2 (Tr.eta_at (TreeAt.mk (i := y.line) M5.out.2.2.1 M5.out.2.2.2)) rfl rfl rfl
   | nil =>
    have e1' := e1
    obtain rfl : s2 = st := by
     cases F with
     | zero => cases e1
     | succ FF => exact worded_nil _ _ _ _ (show wordedR L (run L FF) ln ts st = some ([], s2) by rw [run] at e1; exact e1)
    cases e2 : run L F .expr s2 with
    | none => simp [e2] at hr
    | some z =>
    obtain ⟨z, s3⟩ := z
    obtain ⟨rfl, rfl⟩ : [Tr.mk 31 [] 0 ln [hd z]] = l ∧ endR L s3 = st1 := by simpa [e2, one] using hr
    have H2 := Lib.hid (ih .expr _ _ _ e2)
    cases ht2 : tokR L s2 1 with | mk kd2 ts2 tn2 ln2 nl2 =>
    clear hr e1 e1' e2
    go_enter Try.func58, Try.ntmps58
    have m0 := Mid.start h
    obtain ⟨W1, eW1⟩ : ∃ W, w.alloc (.cells #[.int .i64 0, .string ⟨#[]⟩, .int .i64 0, .slice none 0 0, .int .i64 0] 24) = W := ⟨_, rfl⟩
    rw [eW1] at m0
    have hz0 := m0.gt
    have M0 := Lib.hid m0
    have hR := h.lt
    clear h m0
    have HQ0 := tok_any 0 W1 M0.out.rd (by omega)
    rw [ht] at HQ0
    unfold tokV at HQ0
    have HQ := Lib.hid HQ0
    clear HQ0
    go_wp2_with fail
    go_at_call 55
    refine (HQ.out).mono ?_
    rintro e w2 ⟨rfl, hb⟩
    have f2 := Fr.of_below (R := R) hb (Nat.le_refl _)
    have h2 := M0.out.rd.below hb M0.out.rd.lt
    have z2 := f2.size
    clear hb
    have M2 := Lib.hid ((M0.out.call h2 f2))
    clear h2 f2
    clear HQ
    obtain ⟨w3, e3, m3, f3, b3, zq3⟩ := M2.out.tok_ (2) ts tn ln nl
    have z3 : w2.heap.size < w3.heap.size := by omega
    clear zq3
    have M3 := Lib.hid (And.intro m3 (b3))
    have hl3 := heap_lt b3
    clear m3 f3 b3
    obtain ⟨t0, t1, t2, t3, t4⟩ := (box_facts M3.out.2).1
    obtain ⟨w4, e4, m4, f4, b4, zq4⟩ := M3.out.1.box_ (.int .i64 0) (.string ⟨#[]⟩) (.int .i64 0) (.slice none 0 0) (.int .i64 ln)
    have z4 : w3.heap.size < w4.heap.size := by omega
    clear zq4
    have M4 := Lib.hid (And.intro m4 (And.intro (blk_fr M3.out.2 f4 (by omega)) (b4)))
    clear m4 f4 b4
    obtain ⟨t0, t1, t2, t3, t4⟩ := (box_facts M4.out.2.1).1
    go_wp2_with fail
    go_at_call 73
    refine (H1.out w4 w3.heap.size M4.out.1.rd (by omega) M4.out.2.2).mono ?_
    rintro e w5 ⟨rfl, h5, o5, p5, -⟩
    have z5 := o5.size
    have m5 : Mid R A cp L w w5 _ := ⟨h5, Fr.own2 M4.out.1.fr o5 (by omega), (o5.block _ M4.out.1.gt (by omega)).trans M4.out.1.box, M4.out.1.lt⟩
    have b5 : Bx w5 w3.heap.size _ _ _ _ _ := (p5 (by simp)).trans M4.out.2.2
    have t5 := (o5.block _ (heap_lt M4.out.2.1) (by omega)).trans M4.out.2.1
    have M5 := Lib.hid (And.intro m5 (And.intro t5 (b5)))
    clear m5 b5 t5 h5 o5 p5
    obtain ⟨t0, t1, t2, t3, t4⟩ := (box_facts M5.out.2.1).1
    have HQ0 := tok_any 1 w5 M5.out.1.rd (by omega)
    rw [ht2] at HQ0
    unfold tokV at HQ0
    have HQ := Lib.hid HQ0
    clear HQ0
    go_wp2_with fail
    go_at_call 55
    refine (HQ.out).mono ?_
    rintro e w6 ⟨rfl, hb⟩
    have f6 := Fr.of_below (R := R) hb (Nat.le_refl _)
    have h6 := M5.out.1.rd.below hb M5.out.1.rd.lt
    have z6 := f6.size
    clear hb
    have M6 := Lib.hid (And.intro (M5.out.1.call h6 f6) (And.intro (blk_fr M5.out.2.1 f6 (by omega)) (M5.out.2.2.fr f6 (by omega))))
    clear h6 f6
    clear HQ
    obtain ⟨w7, e7, m7, f7, b7, zq7⟩ := M6.out.1.tok_ kd2 ts2 tn2 ln2 nl2
    have z7 : w6.heap.size < w7.heap.size := by omega
    clear zq7
    have M7 := Lib.hid (And.intro m7 (And.intro (blk_fr M6.out.2.1 f7 (by omega)) (And.intro (M6.out.2.2.fr f7 (by omega)) (b7))))
    have hl7 := heap_lt b7
    clear m7 f7 b7
    obtain ⟨t0, t1, t2, t3, t4⟩ := (box_facts M7.out.2.1).1
    obtain ⟨u0, u1, u2, u3, u4⟩ := (box_facts M7.out.2.2.2).1
    obtain ⟨x0, x1, x2, x3, x4⟩ := M7.out.2.2.1.cells
    obtain ⟨q0, q1, q2, q3, q4⟩ := M7.out.2.2.1.thaw
    obtain ⟨w8, e8⟩ : ∃ W, w7.setCell ⟨w3.heap.size, 0, none⟩ (.int .i64 31) = W := ⟨_, rfl⟩
    have m8 := M7.out.1.set (B := w3.heap.size) (by omega) 0 (.int .i64 31)
    have i8_0 := blk_away (B' := w3.heap.size) M7.out.2.1 (by omega) 0 (.int .i64 31)
    have i8_1 := M7.out.2.2.1.put0 (.int .i64 31)
    have i8_2 := blk_away (B' := w3.heap.size) M7.out.2.2.2 (by omega) 0 (.int .i64 31)
    have z8 : w7.heap.size ≤ w8.heap.size := by rw [← e8]; simp
    rw [e8] at m8 i8_0 i8_1 i8_2
    have M8 := Lib.hid (And.intro m8 (And.intro i8_0 (And.intro i8_1 (i8_2))))
    clear m8 i8_0 i8_1 i8_2
    go_wp2_with fail
    go_at_call 74
    refine (H2.out w8 M8.out.1.rd).mono ?_
    rintro e w9 ⟨v9, rfl, h9, f9, t9⟩
    obtain ⟨A9, c9, rfl, -, -⟩ := t9.form
    have z9 := f9.size
    have M9 := Lib.hid (And.intro (M8.out.1.call h9 f9) (And.intro (blk_fr M8.out.2.1 f9 (by omega)) (And.intro (M8.out.2.2.1.fr f9 (by omega)) (And.intro (blk_fr M8.out.2.2.2 f9 (by omega)) (t9.af (B := w3.heap.size) (by omega))))))
    clear h9 f9 t9
    obtain ⟨w10, e10, m10, f10, b10, zq10⟩ := M9.out.1.arr #[.int .i64 (hd z).op, .string (bs (hd z).s), .int .i64 (hd z).n, .slice A9 (hd z).l.length c9, .int .i64 (hd z).line]
    have z10 : w9.heap.size < w10.heap.size := by omega
    clear zq10
    have M10 := Lib.hid (And.intro m10 (And.intro (blk_fr M9.out.2.1 f10 (by omega)) (And.intro (M9.out.2.2.1.fr f10 (by omega)) (And.intro (blk_fr M9.out.2.2.2.1 f10 (by omega)) (And.intro (M9.out.2.2.2.2.up f10 (by omega)) (b10))))))
    clear m10 f10 b10
    have r11 := RowAt.one M10.out.2.2.2.2.1 M10.out.2.2.2.2.2 rfl (show Af w3.heap.size w10 w9.heap.size from ⟨by omega, by omega⟩)
    have M11 := Lib.hid (And.intro M10.out.1 (And.intro M10.out.2.1 (And.intro M10.out.2.2.1 (And.intro M10.out.2.2.2.1 (r11)))))
    clear r11
    obtain ⟨x0, x1, x2, x3, x4⟩ := M11.out.2.2.1.cells
    obtain ⟨q0, q1, q2, q3, q4⟩ := M11.out.2.2.1.thaw
    obtain ⟨w12, e12⟩ : ∃ W, w10.setCell ⟨w3.heap.size, 3, none⟩ (.slice (some ⟨w9.heap.size, 0, none⟩) 1 1) = W := ⟨_, rfl⟩
    have m12 := M11.out.1.set (B := w3.heap.size) (by omega) 3 (.slice (some ⟨w9.heap.size, 0, none⟩) 1 1)
    have i12_0 := blk_away (B' := w3.heap.size) M11.out.2.1 (by omega) 3 (.slice (some ⟨w9.heap.size, 0, none⟩) 1 1)
    have i12_1 := M11.out.2.2.1.put3 (.slice (some ⟨w9.heap.size, 0, none⟩) 1 1)
    have i12_2 := blk_away (B' := w3.heap.size) M11.out.2.2.2.1 (by omega) 3 (.slice (some ⟨w9.heap.size, 0, none⟩) 1 1)
    have i12_3 := M11.out.2.2.2.2.set 3 (.slice (some ⟨w9.heap.size, 0, none⟩) 1 1)
    have z12 : w10.heap.size ≤ w12.heap.size := by rw [← e12]; simp
    rw [e12] at m12 i12_0 i12_1 i12_2 i12_3
    have M12 := Lib.hid (And.intro m12 (And.intro i12_0 (And.intro i12_1 (And.intro i12_2 (i12_3)))))
    clear m12 i12_0 i12_1 i12_2 i12_3
    have HQ := Lib.hid (end_any w12 M12.out.1.rd)
    go_wp2_with fail
    go_at_call 75
    refine (HQ.out).mono ?_
    rintro e w13 ⟨rfl, h13, f13⟩
    have z13 := f13.size
    have M13 := Lib.hid (And.intro (M12.out.1.call h13 f13) (And.intro (blk_fr M12.out.2.1 f13 (by omega)) (And.intro (M12.out.2.2.1.fr f13 (by omega)) (And.intro (blk_fr M12.out.2.2.2.1 f13 (by omega)) (M12.out.2.2.2.2.up f13 (by omega))))))
    clear h13 f13
    clear HQ
    obtain ⟨x0, x1, x2, x3, x4⟩ := M13.out.2.2.1.cells
    obtain ⟨⟨y0, y1, y2, y3, y4⟩, g0, g1, g2, g3, g4⟩ := M13.out.1.facts
    go_wp2
    exact M13.out.1.gives' 2 (TreeAt.mk (o := 31) (k := 0) (i := ln) (s := []) (M13.out.2.2.2.2.lower (by omega)) ⟨by simp, by omega, by omega⟩) rfl rfl rfl
  ·have dk2 : (kd == 2) = false := by simpa using hw
   rw [if_neg hw] at hr
   cases ht2 : tokR L st 1 with | mk kd2 ts2 tn2 ln2 nl2 =>
   by_cases hlab : kd = 1 ∧ kd2 = 5 ∧ ts2 = [58] ∧ ts ≠ evalW ∧ ts ≠ argsW
   ·obtain ⟨rfl, rfl, rfl, h1, h2⟩ := hlab
    have hps := Lib.hid (hpz (by decide))
    obtain ⟨rfl, rfl⟩ : [Tr.mk 0 [] 0 ln []] = l ∧ failR L st.next 45 = st1 := by simpa [one, ht2, h1, h2] using hr
    have q3 : ((bs [58]).toList == [58]) = true := by rw [bs_eq]; decide
    have q1 : ((bs ts).toList == [101, 118, 97, 108]) = false := by rw [bs_eq]; simpa [evalW] using h1
    have q2 : ((bs ts).toList == [97, 114, 103, 117, 109, 101, 110, 116, 115]) = false := by rw [bs_eq]; simpa [argsW] using h2
    clear hr hpz hb h1 h2 hw
    go_enter Try.func58, Try.ntmps58
    have m0 := Mid.start h
    obtain ⟨W1, eW1⟩ : ∃ W, w.alloc (.cells #[.int .i64 0, .string ⟨#[]⟩, .int .i64 0, .slice none 0 0, .int .i64 0] 24) = W := ⟨_, rfl⟩
    rw [eW1] at m0
    have hz0 := m0.gt
    have M0 := Lib.hid m0
    have hR := h.lt
    clear h m0
    have HQ0 := tok_any 0 W1 M0.out.rd (by omega)
    rw [ht] at HQ0
    unfold tokV at HQ0
    have HQ := Lib.hid HQ0
    clear HQ0
    go_wp2_with fail
    go_at_call 55
    refine (HQ.out).mono ?_
    rintro e w2 ⟨rfl, hb⟩
    have f2 := Fr.of_below (R := R) hb (Nat.le_refl _)
    have h2 := M0.out.rd.below hb M0.out.rd.lt
    have z2 := f2.size
    clear hb
    have M2 := Lib.hid ((M0.out.call h2 f2))
    clear h2 f2
    clear HQ
    obtain ⟨w3, e3, m3, f3, b3, zq3⟩ := M2.out.tok_ (1) ts tn ln nl
    have z3 : w2.heap.size < w3.heap.size := by omega
    clear zq3
    have M3 := Lib.hid (And.intro m3 (b3))
    have hl3 := heap_lt b3
    clear m3 f3 b3
    obtain ⟨t0, t1, t2, t3, t4⟩ := (box_facts M3.out.2).1
    obtain ⟨w4, e4, m4, f4, b4, zq4⟩ := M3.out.1.box_ (.int .i64 0) (.string ⟨#[]⟩) (.int .i64 0) (.slice none 0 0) (.int .i64 ln)
    have z4 : w3.heap.size < w4.heap.size := by omega
    clear zq4
    have M4 := Lib.hid (And.intro m4 (And.intro (blk_fr M3.out.2 f4 (by omega)) (b4)))
    clear m4 f4 b4
    obtain ⟨t0, t1, t2, t3, t4⟩ := (box_facts M4.out.2.1).1
    have HQ0 := tok_any 1 w4 M4.out.1.rd (by omega)
    rw [ht2] at HQ0
    unfold tokV at HQ0
    have HQ := Lib.hid HQ0
    clear HQ0
    go_wp2_with fail
    go_at_call 55
    refine (HQ.out).mono ?_
    rintro e w5 ⟨rfl, hb⟩
    have f5 := Fr.of_below (R := R) hb (Nat.le_refl _)
    have h5 := M4.out.1.rd.below hb M4.out.1.rd.lt
    have z5 := f5.size
    clear hb
    have M5 := Lib.hid (And.intro (M4.out.1.call h5 f5) (And.intro (blk_fr M4.out.2.1 f5 (by omega)) (M4.out.2.2.fr f5 (by omega))))
    clear h5 f5
    clear HQ
    obtain ⟨w6, e6, m6, f6, b6, zq6⟩ := M5.out.1.tok_ (5) [58] tn2 ln2 nl2
    have z6 : w5.heap.size < w6.heap.size := by omega
    clear zq6
    have M6 := Lib.hid (And.intro m6 (And.intro (blk_fr M5.out.2.1 f6 (by omega)) (And.intro (M5.out.2.2.fr f6 (by omega)) (b6))))
    have hl6 := heap_lt b6
    clear m6 f6 b6
    obtain ⟨t0, t1, t2, t3, t4⟩ := (box_facts M6.out.2.1).1
    obtain ⟨u0, u1, u2, u3, u4⟩ := (box_facts M6.out.2.2.2).1
    obtain ⟨x0, x1, x2, x3, x4⟩ := M6.out.2.2.1.cells
    obtain ⟨c0, c1, c2, c3⟩ := M6.out.1.rd.cells
    have fR1 := M6.out.1.rd.thaw 1
    have hw := wrap_next hps.out M6.out.1.rd.len
    obtain ⟨w7, e7, h7, f7⟩ := M6.out.1.next_ hps.out
    have z7 := f7.size
    have M7 := Lib.hid (And.intro (M6.out.1.call h7 f7) (And.intro (blk_fr M6.out.2.1 f7 (by omega)) (And.intro (M6.out.2.2.1.fr f7 (by omega)) (blk_fr M6.out.2.2.2 f7 (by omega)))))
    clear h7 f7
    obtain ⟨x0, x1, x2, x3, x4⟩ := M7.out.2.2.1.cells
    have HQ := Lib.hid (fail_any 45 w7 M7.out.1.rd)
    go_wp2_with fail
    go_at_call 59
    refine (HQ.out).mono ?_
    rintro e w8 ⟨rfl, h8, f8⟩
    have z8 := f8.size
    have M8 := Lib.hid (And.intro (M7.out.1.call h8 f8) (And.intro (blk_fr M7.out.2.1 f8 (by omega)) (And.intro (M7.out.2.2.1.fr f8 (by omega)) (blk_fr M7.out.2.2.2 f8 (by omega)))))
    clear h8 f8
    clear HQ
    obtain ⟨x0, x1, x2, x3, x4⟩ := M8.out.2.2.1.cells
    obtain ⟨⟨y0, y1, y2, y3, y4⟩, g0, g1, g2, g3, g4⟩ := M8.out.1.facts
    go_wp2
    exact M8.out.1.gives' 2 (TreeAt.leaf (o := 0) (k := 0) (i := ln) (s := []) _ ⟨by simp, by omega, by omega⟩) rfl rfl rfl
   ·cases e2 : run L F .expr st with
    | none => simp [e2, ht2] at hr; exact absurd hr.1 hlab
    | some z =>
    obtain ⟨z, s3⟩ := z
    obtain ⟨rfl, rfl⟩ : [Tr.mk 31 [] 0 ln [hd z]] = l ∧ endR L s3 = st1 := by simpa [e2, ht2, hlab, one] using hr
    have H2 := Lib.hid (ih .expr _ _ _ e2)
    clear hr e2 hpz
    have hf : ((kd == 5) = false ∧ (kd == 1) = true ∧ (kd2 == 5) = true ∧ ((bs ts2).toList == [58]) = true ∧ ((bs ts).toList == [101, 118, 97, 108]) = true) ∨ ((kd == 5) = false ∧ (kd == 1) = true ∧ (kd2 == 5) = true ∧ ((bs ts2).toList == [58]) = true ∧ ((bs ts).toList == [101, 118, 97, 108]) = false ∧ ((bs ts).toList == [97, 114, 103, 117, 109, 101, 110, 116, 115]) = true) ∨ ((kd == 5) = false ∧ (kd == 1) = true ∧ (kd2 == 5) = true ∧ ((bs ts2).toList == [58]) = false) ∨ ((kd == 5) = false ∧ (kd == 1) = true ∧ (kd2 == 5) = false) ∨ ((kd == 5) = true ∧ (kd == 1) = false ∧ ((bs ts).toList == [123]) = false) ∨ ((kd == 5) = false ∧ (kd == 1) = false) := by
     rw [bs_eq, bs_eq, bs_eq, bs_eq]
     by_cases k1 : kd = 1
     ·have h5 : (kd == 5) = false := by rw [k1]; decide
      have h1 : (kd == 1) = true := by rw [k1]; decide
      by_cases k2 : kd2 = 5
      ·have h2 : (kd2 == 5) = true := by rw [k2]; decide
       by_cases k3 : ts2 = [58]
       ·by_cases k4 : ts = evalW
        ·exact .inl ⟨h5, h1, h2, by simpa using k3, by simpa [evalW] using k4⟩
        ·exact .inr (.inl ⟨h5, h1, h2, by simpa using k3, by simpa [evalW] using k4, by simpa [argsW] using Classical.byContradiction fun h => hlab ⟨k1, k2, k3, k4, h⟩⟩)
       ·exact .inr (.inr (.inl ⟨h5, h1, h2, by simpa using k3⟩))
      ·exact .inr (.inr (.inr (.inl ⟨h5, h1, by simpa using k2⟩)))
     ·have h1 : (kd == 1) = false := by simpa using k1
      by_cases k5 : kd = 5
      ·exact .inr (.inr (.inr (.inr (.inl ⟨by simpa using k5, h1, by simpa using fun h => hb ⟨k5, h⟩⟩))))
      ·exact .inr (.inr (.inr (.inr (.inr ⟨by simpa using k5, h1⟩))))
    clear hlab hb hw
    rcases hf with ⟨dk5, dk1, dk3, q3, q1⟩ | ⟨dk5, dk1, dk3, q3, q1, q2⟩ | ⟨dk5, dk1, dk3, q3⟩ | ⟨dk5, dk1, dk3⟩ | ⟨dk5, dk1, q5⟩ | ⟨dk5, dk1⟩
    all_goals
     go_enter Try.func58, Try.ntmps58
     have m0 := Mid.start h
     obtain ⟨W1, eW1⟩ : ∃ W, w.alloc (.cells #[.int .i64 0, .string ⟨#[]⟩, .int .i64 0, .slice none 0 0, .int .i64 0] 24) = W := ⟨_, rfl⟩
     rw [eW1] at m0
     have hz0 := m0.gt
     have M0 := Lib.hid m0
     have hR := h.lt
     clear h m0
     have HQ0 := tok_any 0 W1 M0.out.rd (by omega)
     rw [ht] at HQ0
     unfold tokV at HQ0
     have HQ := Lib.hid HQ0
     clear HQ0
     go_wp2_with fail
     go_at_call 55
     refine (HQ.out).mono ?_
     rintro e w2 ⟨rfl, hb⟩
     have f2 := Fr.of_below (R := R) hb (Nat.le_refl _)
     have h2 := M0.out.rd.below hb M0.out.rd.lt
     have z2 := f2.size
     clear hb
     have M2 := Lib.hid ((M0.out.call h2 f2))
     clear h2 f2
     clear HQ
     obtain ⟨w3, e3, m3, f3, b3, zq3⟩ := M2.out.tok_ kd ts tn ln nl
     have z3 : w2.heap.size < w3.heap.size := by omega
     clear zq3
     have M3 := Lib.hid (And.intro m3 (b3))
     have hl3 := heap_lt b3
     clear m3 f3 b3
     obtain ⟨t0, t1, t2, t3, t4⟩ := (box_facts M3.out.2).1
     obtain ⟨w4, e4, m4, f4, b4, zq4⟩ := M3.out.1.box_ (.int .i64 0) (.string ⟨#[]⟩) (.int .i64 0) (.slice none 0 0) (.int .i64 ln)
     have z4 : w3.heap.size < w4.heap.size := by omega
     clear zq4
     have M4 := Lib.hid (And.intro m4 (And.intro (blk_fr M3.out.2 f4 (by omega)) (b4)))
     clear m4 f4 b4
     obtain ⟨t0, t1, t2, t3, t4⟩ := (box_facts M4.out.2.1).1
     have HQ0 := tok_any 1 w4 M4.out.1.rd (by omega)
     rw [ht2] at HQ0
     unfold tokV at HQ0
     have HQ := Lib.hid HQ0
     clear HQ0
     go_wp2_with fail
     go_at_call 55
     refine (HQ.out).mono ?_
     rintro e w5 ⟨rfl, hb⟩
     have f5 := Fr.of_below (R := R) hb (Nat.le_refl _)
     have h5 := M4.out.1.rd.below hb M4.out.1.rd.lt
     have z5 := f5.size
     clear hb
     have M5 := Lib.hid (And.intro (M4.out.1.call h5 f5) (And.intro (blk_fr M4.out.2.1 f5 (by omega)) (M4.out.2.2.fr f5 (by omega))))
     clear h5 f5
     clear HQ
     obtain ⟨w6, e6, m6, f6, b6, zq6⟩ := M5.out.1.tok_ kd2 ts2 tn2 ln2 nl2
     have z6 : w5.heap.size < w6.heap.size := by omega
     clear zq6
     have M6 := Lib.hid (And.intro m6 (And.intro (blk_fr M5.out.2.1 f6 (by omega)) (And.intro (M5.out.2.2.fr f6 (by omega)) (b6))))
     have hl6 := heap_lt b6
     clear m6 f6 b6
     obtain ⟨t0, t1, t2, t3, t4⟩ := (box_facts M6.out.2.1).1
     obtain ⟨u0, u1, u2, u3, u4⟩ := (box_facts M6.out.2.2.2).1
     obtain ⟨x0, x1, x2, x3, x4⟩ := M6.out.2.2.1.cells
     obtain ⟨q0, q1, q2, q3, q4⟩ := M6.out.2.2.1.thaw
     obtain ⟨w7, e7⟩ : ∃ W, w6.setCell ⟨w3.heap.size, 0, none⟩ (.int .i64 31) = W := ⟨_, rfl⟩
     have m7 := M6.out.1.set (B := w3.heap.size) (by omega) 0 (.int .i64 31)
     have i7_0 := blk_away (B' := w3.heap.size) M6.out.2.1 (by omega) 0 (.int .i64 31)
     have i7_1 := M6.out.2.2.1.put0 (.int .i64 31)
     have i7_2 := blk_away (B' := w3.heap.size) M6.out.2.2.2 (by omega) 0 (.int .i64 31)
     have z7 : w6.heap.size ≤ w7.heap.size := by rw [← e7]; simp
     rw [e7] at m7 i7_0 i7_1 i7_2
     have M7 := Lib.hid (And.intro m7 (And.intro i7_0 (And.intro i7_1 (i7_2))))
     clear m7 i7_0 i7_1 i7_2
     go_wp2_with fail
     go_at_call 74
     refine (H2.out w7 M7.out.1.rd).mono ?_
     rintro e w8 ⟨v8, rfl, h8, f8, t8⟩
     obtain ⟨A8, c8, rfl, -, -⟩ := t8.form
     have z8 := f8.size
     have M8 := Lib.hid (And.intro (M7.out.1.call h8 f8) (And.intro (blk_fr M7.out.2.1 f8 (by omega)) (And.intro (M7.out.2.2.1.fr f8 (by omega)) (And.intro (blk_fr M7.out.2.2.2 f8 (by omega)) (t8.af (B := w3.heap.size) (by omega))))))
     clear h8 f8 t8
     obtain ⟨w9, e9, m9, f9, b9, zq9⟩ := M8.out.1.arr #[.int .i64 (hd z).op, .string (bs (hd z).s), .int .i64 (hd z).n, .slice A8 (hd z).l.length c8, .int .i64 (hd z).line]
     have z9 : w8.heap.size < w9.heap.size := by omega
     clear zq9
     have M9 := Lib.hid (And.intro m9 (And.intro (blk_fr M8.out.2.1 f9 (by omega)) (And.intro (M8.out.2.2.1.fr f9 (by omega)) (And.intro (blk_fr M8.out.2.2.2.1 f9 (by omega)) (And.intro (M8.out.2.2.2.2.up f9 (by omega)) (b9))))))
     clear m9 f9 b9
     have r10 := RowAt.one M9.out.2.2.2.2.1 M9.out.2.2.2.2.2 rfl (show Af w3.heap.size w9 w8.heap.size from ⟨by omega, by omega⟩)
     have M10 := Lib.hid (And.intro M9.out.1 (And.intro M9.out.2.1 (And.intro M9.out.2.2.1 (And.intro M9.out.2.2.2.1 (r10)))))
     clear r10
     obtain ⟨x0, x1, x2, x3, x4⟩ := M10.out.2.2.1.cells
     obtain ⟨q0, q1, q2, q3, q4⟩ := M10.out.2.2.1.thaw
     obtain ⟨w11, e11⟩ : ∃ W, w9.setCell ⟨w3.heap.size, 3, none⟩ (.slice (some ⟨w8.heap.size, 0, none⟩) 1 1) = W := ⟨_, rfl⟩
     have m11 := M10.out.1.set (B := w3.heap.size) (by omega) 3 (.slice (some ⟨w8.heap.size, 0, none⟩) 1 1)
     have i11_0 := blk_away (B' := w3.heap.size) M10.out.2.1 (by omega) 3 (.slice (some ⟨w8.heap.size, 0, none⟩) 1 1)
     have i11_1 := M10.out.2.2.1.put3 (.slice (some ⟨w8.heap.size, 0, none⟩) 1 1)
     have i11_2 := blk_away (B' := w3.heap.size) M10.out.2.2.2.1 (by omega) 3 (.slice (some ⟨w8.heap.size, 0, none⟩) 1 1)
     have i11_3 := M10.out.2.2.2.2.set 3 (.slice (some ⟨w8.heap.size, 0, none⟩) 1 1)
     have z11 : w9.heap.size ≤ w11.heap.size := by rw [← e11]; simp
     rw [e11] at m11 i11_0 i11_1 i11_2 i11_3
     have M11 := Lib.hid (And.intro m11 (And.intro i11_0 (And.intro i11_1 (And.intro i11_2 (i11_3)))))
     clear m11 i11_0 i11_1 i11_2 i11_3
     have HQ := Lib.hid (end_any w11 M11.out.1.rd)
     go_wp2_with fail
     go_at_call 75
     refine (HQ.out).mono ?_
     rintro e w12 ⟨rfl, h12, f12⟩
     have z12 := f12.size
     have M12 := Lib.hid (And.intro (M11.out.1.call h12 f12) (And.intro (blk_fr M11.out.2.1 f12 (by omega)) (And.intro (M11.out.2.2.1.fr f12 (by omega)) (And.intro (blk_fr M11.out.2.2.2.1 f12 (by omega)) (M11.out.2.2.2.2.up f12 (by omega))))))
     clear h12 f12
     clear HQ
     obtain ⟨x0, x1, x2, x3, x4⟩ := M12.out.2.2.1.cells
     obtain ⟨⟨y0, y1, y2, y3, y4⟩, g0, g1, g2, g3, g4⟩ := M12.out.1.facts
     go_wp2
     exact M12.out.1.gives' 2 (TreeAt.mk (o := 31) (k := 0) (i := ln) (s := []) (M12.out.2.2.2.2.lower (by omega)) ⟨by simp, by omega, by omega⟩) rfl rfl rfl
end
end
end Go.Proofs.Ytejbdoiamhfbjaa
