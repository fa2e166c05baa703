/- The document's reader: signed. -/
import Derived.Deep.RegionLaw
import Derived.Deep.RegionHeldLaw
import Derived.Deep.LoopGhost
import Derived.Test.YtejbdoiamhfbjaaPm14
set_option linter.unusedSimpArgs false
set_option linter.unusedVariables false
set_option maxRecDepth 100000
set_option maxHeartbeats 4000000
namespace Go.Proofs.Ytejbdoiamhfbjaa
section
open Go.RowKit Go.Proofs
section
variable {R cp : Nat} {A : Option Addr} {L : List Tok} {st : St} {F : Nat}
theorem args_len : ∀ {F : Nat} {acc : List Tr} {m : Bool} {s : St} {l : List Tr} {s' : St}, run L F (.args acc m) s = some (l, s') → l.length ≤ acc.length + F
 | 0, acc, m, s, l, s', h => by cases h
 | F + 1, acc, m, s, l, s', h => by
  rw [run] at h
  by_cases he : s.e = 0 ∧ m = true
  ·rw [if_pos he] at h
   cases e1 : run L F .expr s with
   | none => rw [e1] at h; cases h
   | some x =>
   obtain ⟨x, s2⟩ := x
   rw [e1] at h
   have := args_len (show run L F (.args (acc ++ [hd x]) (isR L s2 [44])) (takeR L s2 [44]) = some (l, s') from h)
   simp at this
   omega
  ·rw [if_neg he] at h
   cases h
   omega
theorem signed_ok (ih : All R A cp L F) (hF : F ≤ 2000000) (l : List Tr) (st1 : St) (hr : run L (F + 1) .signed st = some (l, st1)) : Spec R A cp L .signed st l st1 := by
 intro w h
 rw [run] at hr
 dsimp only at hr
 cases ht : tokR L st 0 with | mk kd ts tn ln nl =>
 rw [ht] at hr
 dsimp only at hr
 have m0 := Mid.start h
 obtain ⟨W1, eW1⟩ : ∃ W, w.alloc (.cells #[.int .i64 0, .string ⟨#[]⟩, .int .i64 0, .slice none 0 0, .int .i64 0] 24) = W := ⟨_, rfl⟩
 rw [eW1] at m0
 have hz0 := m0.gt
 have M0 := Lib.hid m0
 have hR := h.lt
 clear h m0
 cases hi : isR L st [33] with
 | true =>
  cases e1 : run L F .signed st.next with
  | none => simp [hi, e1] at hr
  | some x =>
  obtain ⟨x, s2⟩ := x
  obtain ⟨rfl, rfl⟩ : [Tr.mk 19 [] 0 ln [hd x]] = l ∧ s2 = st1 := by simpa [hi, e1, one] using hr
  have H1 := Lib.hid (ih .signed _ _ _ e1)
  clear hr e1
  go_enter Try.func108, Try.ntmps108
  have HQ0 := tok_any 0 W1 M0.out.rd (by omega)
  rw [ht] at HQ0
  unfold tokV at HQ0
  have HQ := Lib.hid HQ0
  clear HQ0
  go_wp2_with fail
  go_at_call 55
  refine (HQ.out).mono ?_
  rintro e w2 ⟨rfl, hb⟩
  have f2 := Fr.of_below (R := R) hb (Nat.le_refl _)
  have h2 := M0.out.rd.below hb M0.out.rd.lt
  have z2 := f2.size
  clear hb
  have M2 := Lib.hid ((M0.out.call h2 f2))
  clear h2 f2
  clear HQ
  have fl := tok_line kd ts tn ln nl w2
  have HQ0 := take_any [33] ⟨#[33]⟩ rfl w2 M2.out.rd
  unfold takeR at HQ0
  rw [hi] at HQ0
  have HQ := Lib.hid HQ0
  clear HQ0
  go_wp2_with fail
  go_at_call 57
  refine (HQ.out).mono ?_
  rintro e w3 ⟨rfl, h3, f3⟩
  have h3 : RdAt w3 R A cp L (st.next) := h3
  have z3 := f3.size
  have M3 := Lib.hid ((M2.out.call h3 f3))
  clear h3 f3
  clear HQ
  go_wp2_with fail
  go_at_call 108
  refine (H1.out w3 M3.out.rd).mono ?_
  rintro e w4 ⟨v4, rfl, h4, f4, t4⟩
  obtain ⟨A4, c4, rfl, -, -⟩ := t4.form
  have z4 := f4.size
  have M4 := Lib.hid (And.intro (M3.out.call h4 f4) (t4.af (B := w.heap.size) (by omega)))
  clear h4 f4 t4
  obtain ⟨w5, e5, m5, f5, b5, zq5⟩ := M4.out.1.arr #[.int .i64 (hd x).op, .string (bs (hd x).s), .int .i64 (hd x).n, .slice A4 (hd x).l.length c4, .int .i64 (hd x).line]
  have z5 : w4.heap.size < w5.heap.size := by omega
  clear zq5
  have M5 := Lib.hid (And.intro m5 (And.intro (M4.out.2.up f5 (by omega)) (b5)))
  clear m5 f5 b5
  have rr := RowAt.one M5.out.2.1 M5.out.2.2 rfl (show Af w.heap.size w5 w4.heap.size from ⟨by omega, by omega⟩)
  obtain ⟨⟨y0, y1, y2, y3, y4⟩, g0, g1, g2, g3, g4⟩ := M5.out.1.facts
  go_wp2
  exact M5.out.1.gives' 2 (TreeAt.mk (o := 19) (k := 0) (i := ln) (s := []) rr ⟨by simp, by omega, by omega⟩) rfl rfl rfl
 | false =>
  cases hj : isR L st [45] with
  | true =>
   cases e1 : run L F .signed st.next with
   | none => simp [hi, hj, e1] at hr
   | some x =>
   obtain ⟨x, s2⟩ := x
   obtain ⟨rfl, rfl⟩ : [Tr.mk 20 [] 0 ln [hd x]] = l ∧ s2 = st1 := by simpa [hi, hj, e1, one] using hr
   have H1 := Lib.hid (ih .signed _ _ _ e1)
   clear hr e1
   go_enter Try.func108, Try.ntmps108
   have HQ0 := tok_any 0 W1 M0.out.rd (by omega)
   rw [ht] at HQ0
   unfold tokV at HQ0
   have HQ := Lib.hid HQ0
   clear HQ0
   go_wp2_with fail
   go_at_call 55
   refine (HQ.out).mono ?_
   rintro e w2 ⟨rfl, hb⟩
   have f2 := Fr.of_below (R := R) hb (Nat.le_refl _)
   have h2 := M0.out.rd.below hb M0.out.rd.lt
   have z2 := f2.size
   clear hb
   have M2 := Lib.hid ((M0.out.call h2 f2))
   clear h2 f2
   clear HQ
   have fl := tok_line kd ts tn ln nl w2
   have HQ0 := take_any [33] ⟨#[33]⟩ rfl w2 M2.out.rd
   unfold takeR at HQ0
   rw [hi] at HQ0
   have HQ := Lib.hid HQ0
   clear HQ0
   go_wp2_with fail
   go_at_call 57
   refine (HQ.out).mono ?_
   rintro e w3 ⟨rfl, h3, f3⟩
   have h3 : RdAt w3 R A cp L (st) := h3
   have z3 := f3.size
   have M3 := Lib.hid ((M2.out.call h3 f3))
   clear h3 f3
   clear HQ
   have HQ0 := take_any [45] ⟨#[45]⟩ rfl w3 M3.out.rd
   unfold takeR at HQ0
   rw [hj] at HQ0
   have HQ := Lib.hid HQ0
   clear HQ0
   go_wp2_with fail
   go_at_call 57
   refine (HQ.out).mono ?_
   rintro e w4 ⟨rfl, h4, f4⟩
   have h4 : RdAt w4 R A cp L (st.next) := h4
   have z4 := f4.size
   have M4 := Lib.hid ((M3.out.call h4 f4))
   clear h4 f4
   clear HQ
   go_wp2_with fail
   go_at_call 108
   refine (H1.out w4 M4.out.rd).mono ?_
   rintro e w5 ⟨v5, rfl, h5, f5, t5⟩
   obtain ⟨A5, c5, rfl, -, -⟩ := t5.form
   have z5 := f5.size
   have M5 := Lib.hid (And.intro (M4.out.call h5 f5) (t5.af (B := w.heap.size) (by omega)))
   clear h5 f5 t5
   obtain ⟨w6, e6, m6, f6, b6, zq6⟩ := M5.out.1.arr #[.int .i64 (hd x).op, .string (bs (hd x).s), .int .i64 (hd x).n, .slice A5 (hd x).l.length c5, .int .i64 (hd x).line]
   have z6 : w5.heap.size < w6.heap.size := by omega
   clear zq6
   have M6 := Lib.hid (And.intro m6 (And.intro (M5.out.2.up f6 (by omega)) (b6)))
   clear m6 f6 b6
   have rr := RowAt.one M6.out.2.1 M6.out.2.2 rfl (show Af w.heap.size w6 w5.heap.size from ⟨by omega, by omega⟩)
   obtain ⟨⟨y0, y1, y2, y3, y4⟩, g0, g1, g2, g3, g4⟩ := M6.out.1.facts
   go_wp2
   exact M6.out.1.gives' 2 (TreeAt.mk (o := 20) (k := 0) (i := ln) (s := []) rr ⟨by simp, by omega, by omega⟩) rfl rfl rfl
  | false =>
   cases hn : isR L st [110, 101, 119] with
   | false =>
    cases e1 : run L F .thing st with
    | none => simp [hi, hj, hn, e1] at hr
    | some x =>
    obtain ⟨x, s2⟩ := x
    have e2 : run L F (.parts (hd x) true) s2 = some (l, st1) := by simpa [hi, hj, hn, e1] using hr
    have H1 := Lib.hid (ih .thing _ _ _ e1)
    have H2 := Lib.hid (ih (.parts (hd x) true) _ _ _ e2)
    clear hr e1 e2
    go_enter Try.func108, Try.ntmps108
    have HQ0 := tok_any 0 W1 M0.out.rd (by omega)
    rw [ht] at HQ0
    unfold tokV at HQ0
    have HQ := Lib.hid HQ0
    clear HQ0
    go_wp2_with fail
    go_at_call 55
    refine (HQ.out).mono ?_
    rintro e w2 ⟨rfl, hb⟩
    have f2 := Fr.of_below (R := R) hb (Nat.le_refl _)
    have h2 := M0.out.rd.below hb M0.out.rd.lt
    have z2 := f2.size
    clear hb
    have M2 := Lib.hid ((M0.out.call h2 f2))
    clear h2 f2
    clear HQ
    have fl := tok_line kd ts tn ln nl w2
    have HQ0 := take_any [33] ⟨#[33]⟩ rfl w2 M2.out.rd
    unfold takeR at HQ0
    rw [hi] at HQ0
    have HQ := Lib.hid HQ0
    clear HQ0
    go_wp2_with fail
    go_at_call 57
    refine (HQ.out).mono ?_
    rintro e w3 ⟨rfl, h3, f3⟩
    have h3 : RdAt w3 R A cp L (st) := h3
    have z3 := f3.size
    have M3 := Lib.hid ((M2.out.call h3 f3))
    clear h3 f3
    clear HQ
    have HQ0 := take_any [45] ⟨#[45]⟩ rfl w3 M3.out.rd
    unfold takeR at HQ0
    rw [hj] at HQ0
    have HQ := Lib.hid HQ0
    clear HQ0
    go_wp2_with fail
    go_at_call 57
    refine (HQ.out).mono ?_
    rintro e w4 ⟨rfl, h4, f4⟩
    have h4 : RdAt w4 R A cp L (st) := h4
    have z4 := f4.size
    have M4 := Lib.hid ((M3.out.call h4 f4))
    clear h4 f4
    clear HQ
    obtain ⟨w5, e5, m5, f5, b5, zq5⟩ := M4.out.box_ (.int .i64 0) (.string ⟨#[]⟩) (.int .i64 0) (.slice none 0 0) (.int .i64 0)
    have z5 : w4.heap.size < w5.heap.size := by omega
    clear zq5
    have M5 := Lib.hid (And.intro m5 (b5))
    clear m5 f5 b5
    have HQ0 := take_any [110, 101, 119] ⟨#[110, 101, 119]⟩ rfl w5 M5.out.1.rd
    unfold takeR at HQ0
    rw [hn] at HQ0
    have HQ := Lib.hid HQ0
    clear HQ0
    go_wp2_with fail
    go_at_call 57
    refine (HQ.out).mono ?_
    rintro e w6 ⟨rfl, h6, f6⟩
    have h6 : RdAt w6 R A cp L (st) := h6
    have z6 := f6.size
    have M6 := Lib.hid (And.intro (M5.out.1.call h6 f6) (M5.out.2.fr f6 (by omega)))
    clear h6 f6
    clear HQ
    go_wp2_with fail
    go_at_call 111
    refine (H1.out w6 M6.out.1.rd).mono ?_
    rintro e w7 ⟨v7, rfl, h7, f7, t7⟩
    obtain ⟨A7, c7, rfl, -, -⟩ := t7.form
    have z7 := f7.size
    have M7 := Lib.hid (And.intro (M6.out.1.call h7 f7) (And.intro (M6.out.2.fr f7 (by omega)) (t7.af (B := w4.heap.size) (by omega))))
    clear h7 f7 t7
    obtain ⟨x0, x1, x2, x3, x4⟩ := M7.out.2.1.cells
    obtain ⟨q0, q1, q2, q3, q4⟩ := M7.out.2.1.thaw
    obtain ⟨w8, e8⟩ : ∃ W, put5 w7 w4.heap.size (.int .i64 (hd x).op) (.string (bs (hd x).s)) (.int .i64 (hd x).n) (.slice A7 (hd x).l.length c7) (.int .i64 (hd x).line) = W := ⟨_, rfl⟩
    have m8 := M7.out.1.put5 (B := w4.heap.size) (by omega) (.int .i64 (hd x).op) (.string (bs (hd x).s)) (.int .i64 (hd x).n) (.slice A7 (hd x).l.length c7) (.int .i64 (hd x).line)
    have b8 := M7.out.2.1.put5 (.int .i64 (hd x).op) (.string (bs (hd x).s)) (.int .i64 (hd x).n) (.slice A7 (hd x).l.length c7) (.int .i64 (hd x).line)
    have i8x := M7.out.2.2.put5a (.int .i64 (hd x).op) (.string (bs (hd x).s)) (.int .i64 (hd x).n) (.slice A7 (hd x).l.length c7) (.int .i64 (hd x).line)
    have z8 : w7.heap.size ≤ w8.heap.size := by rw [← e8]; exact (put5_only w7 w4.heap.size (.int .i64 (hd x).op) (.string (bs (hd x).s)) (.int .i64 (hd x).n) (.slice A7 (hd x).l.length c7) (.int .i64 (hd x).line)).size
    rw [e8] at m8 b8 i8x
    dsimp only [put5] at e8
    have M8 := Lib.hid (And.intro m8 (And.intro b8 (i8x)))
    clear m8 b8 i8x
    obtain ⟨x0, x1, x2, x3, x4⟩ := M8.out.2.1.cells
    go_wp2_with fail
    go_at_call 110
    refine (H2.out w8 _ _ M8.out.1.rd (M8.out.2.2.lower (by omega)) (fun k hk => ⟨hk.2, by have := hk.1; omega⟩)).mono ?_
    rintro e w9 ⟨v9, rfl, h9, f9, t9⟩
    have t9 : TreeAt w9 (Af w.heap.size w9) _ _ := t9.keep (fun k hk => by rcases hk with hk | hk <;> exact ⟨by have := hk.1; omega, by have := hk.2; have := f9.size; omega⟩) (fun k hk => rfl)
    obtain ⟨A9, c9, rfl, -, -⟩ := t9.form
    have z9 := f9.size
    have M9 := Lib.hid (And.intro (M8.out.1.call h9 f9) t9)
    clear h9 f9 t9
    obtain ⟨⟨y0, y1, y2, y3, y4⟩, g0, g1, g2, g3, g4⟩ := M9.out.1.facts
    go_wp2
    exact M9.out.1.gives' 2 M9.out.2 rfl rfl rfl
   | true =>
    cases e1 : run L F .thing st.next with
    | none => simp [hi, hj, hn, e1] at hr
    | some x =>
    obtain ⟨x, s2⟩ := x
    cases e2 : run L F (.parts (hd x) false) s2 with
    | none => simp [hi, hj, hn, e1, e2] at hr
    | some y =>
    obtain ⟨y, s3⟩ := y
    have H1 := Lib.hid (ih .thing _ _ _ e1)
    have H2 := Lib.hid (ih (.parts (hd x) false) _ _ _ e2)
    cases ho : isR L s3 [40] with
    | false =>
     have e3 : run L F (.parts (.mk 16 [] 0 ln [hd y]) true) s3 = some (l, st1) := by simpa [hi, hj, hn, e1, e2, ho] using hr
     have H3 := Lib.hid (ih (.parts (.mk 16 [] 0 ln [hd y]) true) _ _ _ e3)
     clear hr e1 e2 e3
     go_enter Try.func108, Try.ntmps108
     have HQ0 := tok_any 0 W1 M0.out.rd (by omega)
     rw [ht] at HQ0
     unfold tokV at HQ0
     have HQ := Lib.hid HQ0
     clear HQ0
     go_wp2_with fail
     go_at_call 55
     refine (HQ.out).mono ?_
     rintro e w2 ⟨rfl, hb⟩
     have f2 := Fr.of_below (R := R) hb (Nat.le_refl _)
     have h2 := M0.out.rd.below hb M0.out.rd.lt
     have z2 := f2.size
     clear hb
     have M2 := Lib.hid ((M0.out.call h2 f2))
     clear h2 f2
     clear HQ
     have fl := tok_line kd ts tn ln nl w2
     have HQ0 := take_any [33] ⟨#[33]⟩ rfl w2 M2.out.rd
     unfold takeR at HQ0
     rw [hi] at HQ0
     have HQ := Lib.hid HQ0
     clear HQ0
     go_wp2_with fail
     go_at_call 57
     refine (HQ.out).mono ?_
     rintro e w3 ⟨rfl, h3, f3⟩
     have h3 : RdAt w3 R A cp L (st) := h3
     have z3 := f3.size
     have M3 := Lib.hid ((M2.out.call h3 f3))
     clear h3 f3
     clear HQ
     have HQ0 := take_any [45] ⟨#[45]⟩ rfl w3 M3.out.rd
     unfold takeR at HQ0
     rw [hj] at HQ0
     have HQ := Lib.hid HQ0
     clear HQ0
     go_wp2_with fail
     go_at_call 57
     refine (HQ.out).mono ?_
     rintro e w4 ⟨rfl, h4, f4⟩
     have h4 : RdAt w4 R A cp L (st) := h4
     have z4 := f4.size
     have M4 := Lib.hid ((M3.out.call h4 f4))
     clear h4 f4
     clear HQ
     obtain ⟨w5, e5, m5, f5, b5, zq5⟩ := M4.out.box_ (.int .i64 0) (.string ⟨#[]⟩) (.int .i64 0) (.slice none 0 0) (.int .i64 0)
     have z5 : w4.heap.size < w5.heap.size := by omega
     clear zq5
     have M5 := Lib.hid (And.intro m5 (b5))
     clear m5 f5 b5
     have HQ0 := take_any [110, 101, 119] ⟨#[110, 101, 119]⟩ rfl w5 M5.out.1.rd
     unfold takeR at HQ0
     rw [hn] at HQ0
     have HQ := Lib.hid HQ0
     clear HQ0
     go_wp2_with fail
     go_at_call 57
     refine (HQ.out).mono ?_
     rintro e w6 ⟨rfl, h6, f6⟩
     have h6 : RdAt w6 R A cp L (st.next) := h6
     have z6 := f6.size
     have M6 := Lib.hid (And.intro (M5.out.1.call h6 f6) (M5.out.2.fr f6 (by omega)))
     clear h6 f6
     clear HQ
     go_wp2_with fail
     go_at_call 111
     refine (H1.out w6 M6.out.1.rd).mono ?_
     rintro e w7 ⟨v7, rfl, h7, f7, t7⟩
     obtain ⟨A7, c7, rfl, -, -⟩ := t7.form
     have z7 := f7.size
     have M7 := Lib.hid (And.intro (M6.out.1.call h7 f7) (And.intro (M6.out.2.fr f7 (by omega)) (t7.af (B := w4.heap.size) (by omega))))
     clear h7 f7 t7
     go_wp2_with fail
     go_at_call 110
     refine (H2.out w7 _ _ M7.out.1.rd M7.out.2.2 (fun k hk => ⟨hk.2, by have := hk.1; omega⟩)).mono ?_
     rintro e w8 ⟨v8, rfl, h8, f8, t8⟩
     have t8 : TreeAt w8 (Af w4.heap.size w8) _ _ := t8.keep (fun k hk => by rcases hk with hk | hk <;> exact ⟨by have := hk.1; omega, by have := hk.2; have := f8.size; omega⟩) (fun k hk => rfl)
     obtain ⟨A8, c8, rfl, -, -⟩ := t8.form
     have z8 := f8.size
     have M8 := Lib.hid (And.intro (M7.out.1.call h8 f8) (And.intro (M7.out.2.1.fr f8 (by omega)) t8))
     clear h8 f8 t8
     obtain ⟨x0, x1, x2, x3, x4⟩ := M8.out.2.1.cells
     obtain ⟨q0, q1, q2, q3, q4⟩ := M8.out.2.1.thaw
     obtain ⟨w9, e9⟩ : ∃ W, put5 w8 w4.heap.size (.int .i64 (hd y).op) (.string (bs (hd y).s)) (.int .i64 (hd y).n) (.slice A8 (hd y).l.length c8) (.int .i64 (hd y).line) = W := ⟨_, rfl⟩
     have m9 := M8.out.1.put5 (B := w4.heap.size) (by omega) (.int .i64 (hd y).op) (.string (bs (hd y).s)) (.int .i64 (hd y).n) (.slice A8 (hd y).l.length c8) (.int .i64 (hd y).line)
     have b9 := M8.out.2.1.put5 (.int .i64 (hd y).op) (.string (bs (hd y).s)) (.int .i64 (hd y).n) (.slice A8 (hd y).l.length c8) (.int .i64 (hd y).line)
     have i9p := M8.out.2.2.put5a (.int .i64 (hd y).op) (.string (bs (hd y).s)) (.int .i64 (hd y).n) (.slice A8 (hd y).l.length c8) (.int .i64 (hd y).line)
     have z9 : w8.heap.size ≤ w9.heap.size := by rw [← e9]; exact (put5_only w8 w4.heap.size (.int .i64 (hd y).op) (.string (bs (hd y).s)) (.int .i64 (hd y).n) (.slice A8 (hd y).l.length c8) (.int .i64 (hd y).line)).size
     rw [e9] at m9 b9 i9p
     dsimp only [put5] at e9
     have M9 := Lib.hid (And.intro m9 (And.intro b9 (i9p)))
     clear m9 b9 i9p
     obtain ⟨x0, x1, x2, x3, x4⟩ := M9.out.2.1.cells
     obtain ⟨w10, e10, m10, f10, b10, zq10⟩ := M9.out.1.arr #[.int .i64 (hd y).op, .string (bs (hd y).s), .int .i64 (hd y).n, .slice A8 (hd y).l.length c8, .int .i64 (hd y).line]
     have z10 : w9.heap.size < w10.heap.size := by omega
     clear zq10
     have hb10 : Below w9.heap.size w9 w10 := by rw [← e10]; exact (Below.refl _ _).alloc (Nat.le_refl _) _
     have ac := AccAt.lit1 (B := w4.heap.size + 1) (M9.out.2.2.ahead (g := w9.heap.size) (Nat.le_refl _) hb10) b10 rfl (by omega)
     have M10 := Lib.hid (And.intro m10 (And.intro (M9.out.2.1.fr f10 (by omega)) ac))
     clear m10 f10 b10 hb10 ac
     obtain ⟨x0, x1, x2, x3, x4⟩ := M10.out.2.1.cells
     obtain ⟨q0, q1, q2, q3, q4⟩ := M10.out.2.1.thaw
     obtain ⟨w11, e11⟩ : ∃ W, put5 w10 w4.heap.size (.int .i64 16) (.string ⟨#[]⟩) (.int .i64 0) (.slice (some ⟨w9.heap.size, 0, none⟩) 1 1) (.int .i64 ln) = W := ⟨_, rfl⟩
     have m11 := M10.out.1.put5 (B := w4.heap.size) (by omega) (.int .i64 16) (.string ⟨#[]⟩) (.int .i64 0) (.slice (some ⟨w9.heap.size, 0, none⟩) 1 1) (.int .i64 ln)
     have b11 := M10.out.2.1.put5 (.int .i64 16) (.string ⟨#[]⟩) (.int .i64 0) (.slice (some ⟨w9.heap.size, 0, none⟩) 1 1) (.int .i64 ln)
     have i11acc := M10.out.2.2.put5 (b := w4.heap.size) (by omega) (.int .i64 16) (.string ⟨#[]⟩) (.int .i64 0) (.slice (some ⟨w9.heap.size, 0, none⟩) 1 1) (.int .i64 ln)
     have z11 : w10.heap.size ≤ w11.heap.size := by rw [← e11]; exact (put5_only w10 w4.heap.size (.int .i64 16) (.string ⟨#[]⟩) (.int .i64 0) (.slice (some ⟨w9.heap.size, 0, none⟩) 1 1) (.int .i64 ln)).size
     rw [e11] at m11 b11 i11acc
     dsimp only [put5] at e11
     have M11 := Lib.hid (And.intro m11 (And.intro b11 (i11acc)))
     clear m11 b11 i11acc
     obtain ⟨x0, x1, x2, x3, x4⟩ := M11.out.2.1.cells
     obtain ⟨q0, q1, q2, q3, q4⟩ := M11.out.2.1.thaw
     have HQ0 := take_any [40] ⟨#[40]⟩ rfl w11 M11.out.1.rd
     unfold takeR at HQ0
     rw [ho] at HQ0
     have HQ := Lib.hid HQ0
     clear HQ0
     go_wp2_with fail
     go_at_call 57
     refine (HQ.out).mono ?_
     rintro e w12 ⟨rfl, h12, f12⟩
     have h12 : RdAt w12 R A cp L (s3) := h12
     have z12 := f12.size
     have M12 := Lib.hid (And.intro (M11.out.1.call h12 f12) (And.intro (M11.out.2.1.fr f12 (by omega)) (M11.out.2.2.fr f12 (by omega))))
     clear h12 f12
     clear HQ
     obtain ⟨x0, x1, x2, x3, x4⟩ := M12.out.2.1.cells
     go_wp2_with fail
     go_at_call 110
     refine (H3.out w12 _ _ M12.out.1.rd (TreeAt.mk (o := 16) (k := 0) (i := ln) (s := []) (M12.out.2.2.af (b := w.heap.size) (by omega)) ⟨by simp, by omega, by omega⟩) (fun k hk => ⟨hk.2, by have := hk.1; omega⟩)).mono ?_
     rintro e w13 ⟨v13, rfl, h13, f13, t13⟩
     have t13 : TreeAt w13 (Af w.heap.size w13) _ _ := t13.keep (fun k hk => by rcases hk with hk | hk <;> exact ⟨by have := hk.1; omega, by have := hk.2; have := f13.size; omega⟩) (fun k hk => rfl)
     obtain ⟨A13, c13, rfl, -, -⟩ := t13.form
     have z13 := f13.size
     have M13 := Lib.hid (And.intro (M12.out.1.call h13 f13) t13)
     clear h13 f13 t13
     obtain ⟨⟨y0, y1, y2, y3, y4⟩, g0, g1, g2, g3, g4⟩ := M13.out.1.facts
     go_wp2
     exact M13.out.1.gives' 2 M13.out.2 rfl rfl rfl
    | true =>
     cases e4 : run L F (.args [] (!isR L s3.next [41])) s3.next with
     | none => simp [hi, hj, hn, e1, e2, ho, e4] at hr
     | some lA =>
     obtain ⟨lA, s4⟩ := lA
     have e3 : run L F (.parts (.mk 16 [] 0 ln (hd y :: lA)) true) s4 = some (l, st1) := by simpa [hi, hj, hn, e1, e2, ho, e4] using hr
     have H3 := Lib.hid (ih (.parts (.mk 16 [] 0 ln (hd y :: lA)) true) _ _ _ e3)
     have H4 := Lib.hid (ih (.args [] (!isR L s3.next [41])) _ _ _ e4 rfl rfl)
     have HLA := Lib.hid (args_len e4)
     clear hr e1 e2 e3 e4
     go_enter Try.func108, Try.ntmps108
     have HQ0 := tok_any 0 W1 M0.out.rd (by omega)
     rw [ht] at HQ0
     unfold tokV at HQ0
     have HQ := Lib.hid HQ0
     clear HQ0
     go_wp2_with fail
     go_at_call 55
     refine (HQ.out).mono ?_
     rintro e w2 ⟨rfl, hb⟩
     have f2 := Fr.of_below (R := R) hb (Nat.le_refl _)
     have h2 := M0.out.rd.below hb M0.out.rd.lt
     have z2 := f2.size
     clear hb
     have M2 := Lib.hid ((M0.out.call h2 f2))
     clear h2 f2
     clear HQ
     have fl := tok_line kd ts tn ln nl w2
     have HQ0 := take_any [33] ⟨#[33]⟩ rfl w2 M2.out.rd
     unfold takeR at HQ0
     rw [hi] at HQ0
     have HQ := Lib.hid HQ0
     clear HQ0
     go_wp2_with fail
     go_at_call 57
     refine (HQ.out).mono ?_
     rintro e w3 ⟨rfl, h3, f3⟩
     have h3 : RdAt w3 R A cp L (st) := h3
     have z3 := f3.size
     have M3 := Lib.hid ((M2.out.call h3 f3))
     clear h3 f3
     clear HQ
     have HQ0 := take_any [45] ⟨#[45]⟩ rfl w3 M3.out.rd
     unfold takeR at HQ0
     rw [hj] at HQ0
     have HQ := Lib.hid HQ0
     clear HQ0
     go_wp2_with fail
     go_at_call 57
     refine (HQ.out).mono ?_
     rintro e w4 ⟨rfl, h4, f4⟩
     have h4 : RdAt w4 R A cp L (st) := h4
     have z4 := f4.size
     have M4 := Lib.hid ((M3.out.call h4 f4))
     clear h4 f4
     clear HQ
     obtain ⟨w5, e5, m5, f5, b5, zq5⟩ := M4.out.box_ (.int .i64 0) (.string ⟨#[]⟩) (.int .i64 0) (.slice none 0 0) (.int .i64 0)
     have z5 : w4.heap.size < w5.heap.size := by omega
     clear zq5
     have M5 := Lib.hid (And.intro m5 (b5))
     clear m5 f5 b5
     have HQ0 := take_any [110, 101, 119] ⟨#[110, 101, 119]⟩ rfl w5 M5.out.1.rd
     unfold takeR at HQ0
     rw [hn] at HQ0
     have HQ := Lib.hid HQ0
     clear HQ0
     go_wp2_with fail
     go_at_call 57
     refine (HQ.out).mono ?_
     rintro e w6 ⟨rfl, h6, f6⟩
     have h6 : RdAt w6 R A cp L (st.next) := h6
     have z6 := f6.size
     have M6 := Lib.hid (And.intro (M5.out.1.call h6 f6) (M5.out.2.fr f6 (by omega)))
     clear h6 f6
     clear HQ
     go_wp2_with fail
     go_at_call 111
     refine (H1.out w6 M6.out.1.rd).mono ?_
     rintro e w7 ⟨v7, rfl, h7, f7, t7⟩
     obtain ⟨A7, c7, rfl, -, -⟩ := t7.form
     have z7 := f7.size
     have M7 := Lib.hid (And.intro (M6.out.1.call h7 f7) (And.intro (M6.out.2.fr f7 (by omega)) (t7.af (B := w4.heap.size) (by omega))))
     clear h7 f7 t7
     go_wp2_with fail
     go_at_call 110
     refine (H2.out w7 _ _ M7.out.1.rd M7.out.2.2 (fun k hk => ⟨hk.2, by have := hk.1; omega⟩)).mono ?_
     rintro e w8 ⟨v8, rfl, h8, f8, t8⟩
     have t8 : TreeAt w8 (Af w4.heap.size w8) _ _ := t8.keep (fun k hk => by rcases hk with hk | hk <;> exact ⟨by have := hk.1; omega, by have := hk.2; have := f8.size; omega⟩) (fun k hk => rfl)
     obtain ⟨A8, c8, rfl, -, -⟩ := t8.form
     have z8 := f8.size
     have M8 := Lib.hid (And.intro (M7.out.1.call h8 f8) (And.intro (M7.out.2.1.fr f8 (by omega)) t8))
     clear h8 f8 t8
     obtain ⟨x0, x1, x2, x3, x4⟩ := M8.out.2.1.cells
     obtain ⟨q0, q1, q2, q3, q4⟩ := M8.out.2.1.thaw
     obtain ⟨w9, e9⟩ : ∃ W, put5 w8 w4.heap.size (.int .i64 (hd y).op) (.string (bs (hd y).s)) (.int .i64 (hd y).n) (.slice A8 (hd y).l.length c8) (.int .i64 (hd y).line) = W := ⟨_, rfl⟩
     have m9 := M8.out.1.put5 (B := w4.heap.size) (by omega) (.int .i64 (hd y).op) (.string (bs (hd y).s)) (.int .i64 (hd y).n) (.slice A8 (hd y).l.length c8) (.int .i64 (hd y).line)
     have b9 := M8.out.2.1.put5 (.int .i64 (hd y).op) (.string (bs (hd y).s)) (.int .i64 (hd y).n) (.slice A8 (hd y).l.length c8) (.int .i64 (hd y).line)
     have i9p := M8.out.2.2.put5a (.int .i64 (hd y).op) (.string (bs (hd y).s)) (.int .i64 (hd y).n) (.slice A8 (hd y).l.length c8) (.int .i64 (hd y).line)
     have z9 : w8.heap.size ≤ w9.heap.size := by rw [← e9]; exact (put5_only w8 w4.heap.size (.int .i64 (hd y).op) (.string (bs (hd y).s)) (.int .i64 (hd y).n) (.slice A8 (hd y).l.length c8) (.int .i64 (hd y).line)).size
     rw [e9] at m9 b9 i9p
     dsimp only [put5] at e9
     have M9 := Lib.hid (And.intro m9 (And.intro b9 (i9p)))
     clear m9 b9 i9p
     obtain ⟨x0, x1, x2, x3, x4⟩ := M9.out.2.1.cells
     obtain ⟨w10, e10, m10, f10, b10, zq10⟩ := M9.out.1.arr #[.int .i64 (hd y).op, .string (bs (hd y).s), .int .i64 (hd y).n, .slice A8 (hd y).l.length c8, .int .i64 (hd y).line]
     have z10 : w9.heap.size < w10.heap.size := by omega
     clear zq10
     have hb10 : Below w9.heap.size w9 w10 := by rw [← e10]; exact (Below.refl _ _).alloc (Nat.le_refl _) _
     have ac := AccAt.lit1 (B := w4.heap.size + 1) (M9.out.2.2.ahead (g := w9.heap.size) (Nat.le_refl _) hb10) b10 rfl (by omega)
     have M10 := Lib.hid (And.intro m10 (And.intro (M9.out.2.1.fr f10 (by omega)) ac))
     clear m10 f10 b10 hb10 ac
     obtain ⟨x0, x1, x2, x3, x4⟩ := M10.out.2.1.cells
     obtain ⟨q0, q1, q2, q3, q4⟩ := M10.out.2.1.thaw
     obtain ⟨w11, e11⟩ : ∃ W, put5 w10 w4.heap.size (.int .i64 16) (.string ⟨#[]⟩) (.int .i64 0) (.slice (some ⟨w9.heap.size, 0, none⟩) 1 1) (.int .i64 ln) = W := ⟨_, rfl⟩
     have m11 := M10.out.1.put5 (B := w4.heap.size) (by omega) (.int .i64 16) (.string ⟨#[]⟩) (.int .i64 0) (.slice (some ⟨w9.heap.size, 0, none⟩) 1 1) (.int .i64 ln)
     have b11 := M10.out.2.1.put5 (.int .i64 16) (.string ⟨#[]⟩) (.int .i64 0) (.slice (some ⟨w9.heap.size, 0, none⟩) 1 1) (.int .i64 ln)
     have i11acc := M10.out.2.2.put5 (b := w4.heap.size) (by omega) (.int .i64 16) (.string ⟨#[]⟩) (.int .i64 0) (.slice (some ⟨w9.heap.size, 0, none⟩) 1 1) (.int .i64 ln)
     have z11 : w10.heap.size ≤ w11.heap.size := by rw [← e11]; exact (put5_only w10 w4.heap.size (.int .i64 16) (.string ⟨#[]⟩) (.int .i64 0) (.slice (some ⟨w9.heap.size, 0, none⟩) 1 1) (.int .i64 ln)).size
     rw [e11] at m11 b11 i11acc
     dsimp only [put5] at e11
     have M11 := Lib.hid (And.intro m11 (And.intro b11 (i11acc)))
     clear m11 b11 i11acc
     obtain ⟨x0, x1, x2, x3, x4⟩ := M11.out.2.1.cells
     obtain ⟨q0, q1, q2, q3, q4⟩ := M11.out.2.1.thaw
     have HQ0 := take_any [40] ⟨#[40]⟩ rfl w11 M11.out.1.rd
     unfold takeR at HQ0
     rw [ho] at HQ0
     have HQ := Lib.hid HQ0
     clear HQ0
     go_wp2_with fail
     go_at_call 57
     refine (HQ.out).mono ?_
     rintro e w12 ⟨rfl, h12, f12⟩
     have h12 : RdAt w12 R A cp L (s3.next) := h12
     have z12 := f12.size
     have M12 := Lib.hid (And.intro (M11.out.1.call h12 f12) (And.intro (M11.out.2.1.fr f12 (by omega)) (M11.out.2.2.fr f12 (by omega))))
     clear h12 f12
     clear HQ
     have zd : w12.heap.size ≤ w12.drew.heap.size := Nat.le_refl _
     have M13 := Lib.hid (And.intro M12.out.1.drew (And.intro (M12.out.2.1.fr ((Only.refl (fun k => k = R) w12).drew) (by omega)) (M12.out.2.2.fr ((Only.refl (fun k => k = R) w12).drew) (by omega))))
     obtain ⟨x0, x1, x2, x3, x4⟩ := M13.out.2.1.cells
     obtain ⟨q0, q1, q2, q3, q4⟩ := M13.out.2.1.thaw
     go_wp2_with fail
     go_region_law (first
      | (refine step_app rfl _ _ 22 rfl _ _ rfl rfl _ HP.out ?_; rintro u w15 ⟨hacc, hon, A15, c15, rfl⟩; have z15 := hon.size; have m15 := M14.out.1.push M14.out.2.2 (by omega) hon; have b15 := M14.out.2.1.push M14.out.2.2 (by omega) hon; obtain ⟨x0, x1, x2, x3, x4⟩ := b15.cells; obtain ⟨q0, q1, q2, q3, q4⟩ := b15.thaw; obtain ⟨w16, e16⟩ : ∃ W, w15.setCell ⟨w4.heap.size, 3, none⟩ (.slice A15 (1 + lA.length) c15) = W := ⟨_, rfl⟩; have me := m15.set (B := w4.heap.size) (by omega) 3 (.slice A15 (1 + lA.length) c15); have be := b15.put3 (.slice A15 (1 + lA.length) c15); have ae := hacc.away (b := w4.heap.size) (by omega) 3 (.slice A15 (1 + lA.length) c15); have z16 : w15.heap.size ≤ w16.heap.size := (by rw [← e16]; simp); rw [e16] at me be ae; obtain ⟨x0, x1, x2, x3, x4⟩ := be.cells; have M16 := Lib.hid (And.intro me (And.intro be ae)); clear me be ae hacc hon m15 b15)
      | (go_simp; go_at_call 112; refine (H4.out w12.drew M13.out.1.rd).mono ?_; rintro e w14 ⟨v14, rfl, h14, f14, t14⟩; obtain ⟨A14, c14, rfl, hlA, -⟩ := t14.slice; have z14 := f14.size; have M14 := Lib.hid (And.intro (M13.out.1.call h14 f14) (And.intro (M13.out.2.1.fr f14 (by omega)) (M13.out.2.2.fr f14 (by omega)))); have HP := Lib.hid (AccAt.pushL M14.out.2.2 (M13.out.2.2.freshL t14 (by omega)) (by have := HLA.out; simp only [List.length_cons, List.length_nil] at this ⊢; omega) (by omega) 22); obtain ⟨x0, x1, x2, x3, x4⟩ := M14.out.2.1.cells; obtain ⟨q0, q1, q2, q3, q4⟩ := M14.out.2.1.thaw; clear h14 f14 t14))
     all_goals
      go_wp2_with fail
      go_at_call 110
      refine (H3.out w16 _ _ M16.out.1.rd (TreeAt.mk (o := 16) (k := 0) (i := ln) (s := []) (M16.out.2.2.af (b := w.heap.size) (by omega)) ⟨by simp, by omega, by omega⟩) (fun k hk => ⟨hk.2, by have := hk.1; omega⟩)).mono ?_
      rintro e w17 ⟨v17, rfl, h17, f17, t17⟩
      have t17 : TreeAt w17 (Af w.heap.size w17) _ _ := t17.keep (fun k hk => by rcases hk with hk | hk <;> exact ⟨by have := hk.1; omega, by have := hk.2; have := f17.size; omega⟩) (fun k hk => rfl)
      obtain ⟨A17, c17, rfl, -, -⟩ := t17.form
      have z17 := f17.size
      have M17 := Lib.hid (And.intro (M16.out.1.call h17 f17) t17)
      clear h17 f17 t17
      obtain ⟨⟨y0, y1, y2, y3, y4⟩, g0, g1, g2, g3, g4⟩ := M17.out.1.facts
      go_wp2
      exact M17.out.1.gives' 2 M17.out.2 rfl rfl rfl
end
end
end Go.Proofs.Ytejbdoiamhfbjaa
