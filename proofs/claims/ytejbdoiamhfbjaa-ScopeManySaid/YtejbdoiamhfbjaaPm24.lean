/- The document's reader: expr. -/
import Derived.Deep.RegionHeldLaw
import Derived.Deep.LoopGhost
import Derived.Deep.DeepCutAuto
import Derived.Test.YtejbdoiamhfbjaaPm22
set_option linter.unusedSimpArgs false
set_option linter.unusedVariables false
set_option maxRecDepth 100000
set_option maxHeartbeats 4000000
namespace Go.Proofs.Ytejbdoiamhfbjaa
section
open Go.RowKit Go.Proofs
section
variable {R cp : Nat} {A : Option Addr} {L : List Tok} {st : St} {F : Nat}
theorem expr_ok (ih : All R A cp L F) (l : List Tr) (st1 : St) (hr : run L (F + 1) .expr st = some (l, st1)) : Spec R A cp L .expr st l st1 := by
 intro w h
 rw [run] at hr
 dsimp only at hr
 cases e1 : run L F .cond st with
 | none => rw [e1] at hr; cases hr
 | some x =>
 obtain ⟨x, s2⟩ := x
 rw [e1] at hr
 have H1 := Lib.hid (ih .cond _ _ _ e1)
 clear e1
 have m0 := Mid.start h
 obtain ⟨W1, eW1⟩ : ∃ W, w.alloc (.cells #[.int .i64 0, .string ⟨#[]⟩, .int .i64 0, .slice none 0 0, .int .i64 0] 24) = W := ⟨_, rfl⟩
 rw [eW1] at m0
 have hz0 := m0.gt
 have M0 := Lib.hid m0
 have hR := h.lt
 have h' := h
 clear h m0
 obtain ⟨op, hop⟩ : ∃ o, (hd x).op = o := ⟨_, rfl⟩
 obtain ⟨cl, hcl⟩ : ∃ b, closedL ((L.take s2.pos).drop st.pos) 0 = b := ⟨_, rfl⟩
 have HOP := Lib.hid hop
 clear hop
 have hps := h'.pos
 have hls := h'.len
 cases hb : isR L st [40] with
 | false =>
  by_cases htg : op = 1 ∨ op = 13 ∨ op = 14
  ·have hf : (((hd x).op == 1) = true) ∨ (((hd x).op == 1) = false ∧ ((hd x).op == 13) = true) ∨ (((hd x).op == 1) = false ∧ ((hd x).op == 13) = false ∧ ((hd x).op == 14) = true) := by rw [HOP.out]; rcases htg with h | h | h <;> subst h <;> decide
   cases hq : isR L s2 [61] with
   | false =>
    obtain ⟨rfl, rfl⟩ : [hd x] = l ∧ s2 = st1 := by simpa [one, hb, HOP.out, hcl, hq, htg] using hr
    clear hr htg
    rcases hf with dk1 | ⟨dk1, dk13⟩ | ⟨dk1, dk13, dk14⟩
    all_goals
     go_enter Try.func74, Try.ntmps74
     have HQ0 := is_any [40] ⟨#[40]⟩ rfl W1 M0.out.rd
     rw [hb] at HQ0
     have HQ := Lib.hid HQ0
     clear HQ0
     go_wp2_with fail
     go_at_call 56
     refine (HQ.out).mono ?_
     rintro e w2 ⟨rfl, hb⟩
     have f2 := Fr.of_below (R := R) hb (Nat.le_refl _)
     have h2 := M0.out.rd.below hb M0.out.rd.lt
     have z2 := f2.size
     clear hb
     have M2 := Lib.hid ((M0.out.call h2 f2))
     clear h2 f2
     clear HQ
     obtain ⟨c0, c1, c2, c3⟩ := M2.out.rd.cells
     go_wp2_with fail
     go_at_call 95
     refine (H1.out w2 M2.out.rd).mono ?_
     rintro e w3 ⟨v3, rfl, h3, f3, t3⟩
     obtain ⟨A3, c3, rfl, -, -⟩ := t3.form
     have z3 := f3.size
     obtain ⟨w4, e4, m4, f4, b4, zq4⟩ := (M2.out.call h3 f3).box_ (.int .i64 (hd x).op) (.string (bs (hd x).s)) (.int .i64 (hd x).n) (.slice A3 (hd x).l.length c3) (.int .i64 (hd x).line)
     have z4 : w3.heap.size < w4.heap.size := by omega
     clear zq4
     have M4 := Lib.hid (And.intro m4 (And.intro ((t3.af (B := w.heap.size) (by omega)).up f4 (by omega)) (b4)))
     clear h3 f3 t3 m4 f4 b4
     obtain ⟨x0, x1, x2, x3, x4⟩ := M4.out.2.2.cells
     have HQ0 := take_any [61] ⟨#[61]⟩ rfl w4 M4.out.1.rd
     unfold takeR at HQ0
     rw [hq] at HQ0
     have HQ := Lib.hid HQ0
     clear HQ0
     go_wp2_with fail
     go_at_call 57
     refine (HQ.out).mono ?_
     rintro e w5 ⟨rfl, h5, f5⟩
     have h5 : RdAt w5 R A cp L (s2) := h5
     have z5 := f5.size
     have M5 := Lib.hid (And.intro (M4.out.1.call h5 f5) (And.intro (M4.out.2.1.up f5 (by omega)) (M4.out.2.2.fr f5 (by omega))))
     clear h5 f5
     clear HQ
     obtain ⟨x0, x1, x2, x3, x4⟩ := M5.out.2.2.cells
     obtain ⟨⟨y0, y1, y2, y3, y4⟩, g0, g1, g2, g3, g4⟩ := M5.out.1.facts
     go_wp2
     exact M5.out.1.gives' 2 M5.out.2.1 rfl rfl rfl
   | true =>
    cases e3 : run L F .expr s2.next with
    | none => simp [one, hb, HOP.out, hcl, hq, e3, htg] at hr
    | some y =>
    obtain ⟨y, s3⟩ := y
    obtain ⟨rfl, rfl⟩ : [Tr.mk 17 [] 0 (hd x).line [hd x, hd y]] = l ∧ s3 = st1 := by simpa [one, hb, HOP.out, hcl, hq, e3, htg] using hr
    have H3 := Lib.hid (ih .expr _ _ _ e3)
    clear hr e3 htg
    rcases hf with dk1 | ⟨dk1, dk13⟩ | ⟨dk1, dk13, dk14⟩
    all_goals
     go_enter Try.func74, Try.ntmps74
     have HQ0 := is_any [40] ⟨#[40]⟩ rfl W1 M0.out.rd
     rw [hb] at HQ0
     have HQ := Lib.hid HQ0
     clear HQ0
     go_wp2_with fail
     go_at_call 56
     refine (HQ.out).mono ?_
     rintro e w2 ⟨rfl, hb⟩
     have f2 := Fr.of_below (R := R) hb (Nat.le_refl _)
     have h2 := M0.out.rd.below hb M0.out.rd.lt
     have z2 := f2.size
     clear hb
     have M2 := Lib.hid ((M0.out.call h2 f2))
     clear h2 f2
     clear HQ
     obtain ⟨c0, c1, c2, c3⟩ := M2.out.rd.cells
     go_wp2_with fail
     go_at_call 95
     refine (H1.out w2 M2.out.rd).mono ?_
     rintro e w3 ⟨v3, rfl, h3, f3, t3⟩
     obtain ⟨A3, c3, rfl, -, -⟩ := t3.form
     have z3 := f3.size
     obtain ⟨w4, e4, m4, f4, b4, zq4⟩ := (M2.out.call h3 f3).box_ (.int .i64 (hd x).op) (.string (bs (hd x).s)) (.int .i64 (hd x).n) (.slice A3 (hd x).l.length c3) (.int .i64 (hd x).line)
     have z4 : w3.heap.size < w4.heap.size := by omega
     clear zq4
     have M4 := Lib.hid (And.intro m4 (And.intro ((t3.af (B := w.heap.size) (by omega)).up f4 (by omega)) (b4)))
     clear h3 f3 t3 m4 f4 b4
     obtain ⟨x0, x1, x2, x3, x4⟩ := M4.out.2.2.cells
     have HQ0 := take_any [61] ⟨#[61]⟩ rfl w4 M4.out.1.rd
     unfold takeR at HQ0
     rw [hq] at HQ0
     have HQ := Lib.hid HQ0
     clear HQ0
     go_wp2_with fail
     go_at_call 57
     refine (HQ.out).mono ?_
     rintro e w5 ⟨rfl, h5, f5⟩
     have h5 : RdAt w5 R A cp L (s2.next) := h5
     have z5 := f5.size
     have M5 := Lib.hid (And.intro (M4.out.1.call h5 f5) (And.intro (M4.out.2.1.up f5 (by omega)) (M4.out.2.2.fr f5 (by omega))))
     clear h5 f5
     clear HQ
     obtain ⟨x0, x1, x2, x3, x4⟩ := M5.out.2.2.cells
     have zd : w5.heap.size ≤ w5.drew.heap.size := Nat.le_refl _
     have m6 := M5.out.1.drew
     have i6_0 := (M5.out.2.1.up ((Only.refl (fun k => k = R) _).drew) (by omega))
     have i6_1 := (M5.out.2.2.fr ((Only.refl (fun k => k = R) _).drew) (by omega))
     have M6 := Lib.hid (And.intro m6 (And.intro i6_0 (i6_1)))
     have hs0 := M6.out.2.2.cells
     go_wp2_with fail
     go_region_held_law (fun w' => (w'.cell? ⟨w3.heap.size, 0, none⟩ = some (.int .i64 (hd x).op) ∧ w'.cell? ⟨w3.heap.size, 1, none⟩ = some (.string (bs (hd x).s)) ∧ w'.cell? ⟨w3.heap.size, 2, none⟩ = some (.int .i64 (hd x).n) ∧ w'.cell? ⟨w3.heap.size, 3, none⟩ = some (.slice A3 (hd x).l.length c3) ∧ w'.cell? ⟨w3.heap.size, 4, none⟩ = some (.int .i64 (hd x).line)))
      (first | with_reducible exact hs3 _ _ _ _ _ | with_reducible exact hs2 | with_reducible exact hs1 | with_reducible exact hs0)
      (first
       | (go_at_call 74; refine (H3.out w5.drew M6.out.1.rd).mono ?_; rintro e w7 ⟨v7, rfl, h7, f7, t7⟩; obtain ⟨A7, c7, rfl, -, -⟩ := t7.form; have z7 := f7.size; have M7 := Lib.hid (And.intro (M6.out.1.call h7 f7) (And.intro (M6.out.2.1.up f7 (by omega)) (And.intro (M6.out.2.2.fr f7 (by omega)) (t7.af (B := w.heap.size) (by omega))))); have hs1 := M7.out.2.2.1.cells; obtain ⟨w8, e8, m8, f8, b8, zq8⟩ := M7.out.1.arr #[.int .i64 (hd x).op, .string (bs (hd x).s), .int .i64 (hd x).n, .slice A3 (hd x).l.length c3, .int .i64 (hd x).line, .int .i64 (hd y).op, .string (bs (hd y).s), .int .i64 (hd y).n, .slice A7 (hd y).l.length c7, .int .i64 (hd y).line]; have z8 : w7.heap.size < w8.heap.size := (by omega); clear zq8; have M8 := Lib.hid (And.intro m8 (And.intro (M7.out.2.1.up f8 (by omega)) (And.intro (M7.out.2.2.1.fr f8 (by omega)) (And.intro (M7.out.2.2.2.up f8 (by omega)) (b8))))); have hs2 := M8.out.2.2.1.cells; have hs3 := fun u0 u1 u2 u3 u4 => (M8.out.2.2.1.past (b := w.heap.size) (by omega) u0 u1 u2 u3 u4).cells; obtain ⟨⟨y0, y1, y2, y3, y4⟩, g0, g1, g2, g3, g4⟩ := M8.out.1.facts; clear h7 f7 t7 m8 f8 b8))
     go_wp2
     exact M8.out.1.gives' 2 (TreeAt.mk (o := 17) (k := 0) (i := (hd x).line) (s := []) (RowAt.two M8.out.2.1 M8.out.2.2.2.1 M8.out.2.2.2.2 rfl (show Af w.heap.size w8 w7.heap.size from ⟨by omega, by omega⟩)) ⟨by simp, by omega, by omega⟩) rfl rfl rfl
  ·have hf : ((hd x).op == 1) = false ∧ ((hd x).op == 13) = false ∧ ((hd x).op == 14) = false := by rw [HOP.out]; exact ⟨by simpa using fun h => htg (.inl h), by simpa using fun h => htg (.inr (.inl h)), by simpa using fun h => htg (.inr (.inr h))⟩
   obtain ⟨rfl, rfl⟩ : [hd x] = l ∧ s2 = st1 := by simpa [one, hb, HOP.out, hcl, htg] using hr
   obtain ⟨dk1, dk13, dk14⟩ := hf
   clear hr htg
   go_enter Try.func74, Try.ntmps74
   have HQ0 := is_any [40] ⟨#[40]⟩ rfl W1 M0.out.rd
   rw [hb] at HQ0
   have HQ := Lib.hid HQ0
   clear HQ0
   go_wp2_with fail
   go_at_call 56
   refine (HQ.out).mono ?_
   rintro e w2 ⟨rfl, hb⟩
   have f2 := Fr.of_below (R := R) hb (Nat.le_refl _)
   have h2 := M0.out.rd.below hb M0.out.rd.lt
   have z2 := f2.size
   clear hb
   have M2 := Lib.hid ((M0.out.call h2 f2))
   clear h2 f2
   clear HQ
   obtain ⟨c0, c1, c2, c3⟩ := M2.out.rd.cells
   go_wp2_with fail
   go_at_call 95
   refine (H1.out w2 M2.out.rd).mono ?_
   rintro e w3 ⟨v3, rfl, h3, f3, t3⟩
   obtain ⟨A3, c3, rfl, -, -⟩ := t3.form
   have z3 := f3.size
   obtain ⟨w4, e4, m4, f4, b4, zq4⟩ := (M2.out.call h3 f3).box_ (.int .i64 (hd x).op) (.string (bs (hd x).s)) (.int .i64 (hd x).n) (.slice A3 (hd x).l.length c3) (.int .i64 (hd x).line)
   have z4 : w3.heap.size < w4.heap.size := by omega
   clear zq4
   have M4 := Lib.hid (And.intro m4 (And.intro ((t3.af (B := w.heap.size) (by omega)).up f4 (by omega)) (b4)))
   clear h3 f3 t3 m4 f4 b4
   obtain ⟨x0, x1, x2, x3, x4⟩ := M4.out.2.2.cells
   obtain ⟨⟨y0, y1, y2, y3, y4⟩, g0, g1, g2, g3, g4⟩ := M4.out.1.facts
   go_wp2
   exact M4.out.1.gives' 2 M4.out.2.1 rfl rfl rfl
 | true =>
  by_cases htg : op = 1 ∨ op = 13 ∨ op = 14
  ·have hf : (((hd x).op == 1) = true) ∨ (((hd x).op == 1) = false ∧ ((hd x).op == 13) = true) ∨ (((hd x).op == 1) = false ∧ ((hd x).op == 13) = false ∧ ((hd x).op == 14) = true) := by rw [HOP.out]; rcases htg with h | h | h <;> subst h <;> decide
   cases cl with
   | true =>
    obtain ⟨rfl, rfl⟩ : [hd x] = l ∧ s2 = st1 := by simpa [one, hb, HOP.out, hcl, htg] using hr
    clear hr htg
    rcases hf with dk1 | ⟨dk1, dk13⟩ | ⟨dk1, dk13, dk14⟩
    all_goals
     go_enter Try.func74, Try.ntmps74
     have HQ0 := is_any [40] ⟨#[40]⟩ rfl W1 M0.out.rd
     rw [hb] at HQ0
     have HQ := Lib.hid HQ0
     clear HQ0
     go_wp2_with fail
     go_at_call 56
     refine (HQ.out).mono ?_
     rintro e w2 ⟨rfl, hb⟩
     have f2 := Fr.of_below (R := R) hb (Nat.le_refl _)
     have h2 := M0.out.rd.below hb M0.out.rd.lt
     have z2 := f2.size
     clear hb
     have M2 := Lib.hid ((M0.out.call h2 f2))
     clear h2 f2
     clear HQ
     obtain ⟨c0, c1, c2, c3⟩ := M2.out.rd.cells
     go_wp2_with fail
     go_at_call 95
     refine (H1.out w2 M2.out.rd).mono ?_
     rintro e w3 ⟨v3, rfl, h3, f3, t3⟩
     obtain ⟨A3, c3, rfl, -, -⟩ := t3.form
     have z3 := f3.size
     obtain ⟨w4, e4, m4, f4, b4, zq4⟩ := (M2.out.call h3 f3).box_ (.int .i64 (hd x).op) (.string (bs (hd x).s)) (.int .i64 (hd x).n) (.slice A3 (hd x).l.length c3) (.int .i64 (hd x).line)
     have z4 : w3.heap.size < w4.heap.size := by omega
     clear zq4
     have M4 := Lib.hid (And.intro m4 (And.intro ((t3.af (B := w.heap.size) (by omega)).up f4 (by omega)) (b4)))
     clear h3 f3 t3 m4 f4 b4
     obtain ⟨x0, x1, x2, x3, x4⟩ := M4.out.2.2.cells
     have HQ := Lib.hid (closed_all st.pos w4 M4.out.1.rd (by omega))
     rw [hcl] at HQ
     go_wp2_with fail
     go_at_call 96
     refine (HQ.out).mono ?_
     rintro e w5 ⟨rfl, hb⟩
     have f5 := Fr.of_below (R := R) hb (Nat.le_refl _)
     have h5 := M4.out.1.rd.below hb M4.out.1.rd.lt
     have z5 := f5.size
     clear hb
     have M5 := Lib.hid (And.intro (M4.out.1.call h5 f5) (And.intro (M4.out.2.1.up f5 (by omega)) (M4.out.2.2.fr f5 (by omega))))
     clear h5 f5
     clear HQ
     obtain ⟨x0, x1, x2, x3, x4⟩ := M5.out.2.2.cells
     obtain ⟨⟨y0, y1, y2, y3, y4⟩, g0, g1, g2, g3, g4⟩ := M5.out.1.facts
     go_wp2
     exact M5.out.1.gives' 2 M5.out.2.1 rfl rfl rfl
   | false =>
    cases hq : isR L s2 [61] with
    | false =>
     obtain ⟨rfl, rfl⟩ : [hd x] = l ∧ s2 = st1 := by simpa [one, hb, HOP.out, hcl, hq, htg] using hr
     clear hr htg
     rcases hf with dk1 | ⟨dk1, dk13⟩ | ⟨dk1, dk13, dk14⟩
     all_goals
      go_enter Try.func74, Try.ntmps74
      have HQ0 := is_any [40] ⟨#[40]⟩ rfl W1 M0.out.rd
      rw [hb] at HQ0
      have HQ := Lib.hid HQ0
      clear HQ0
      go_wp2_with fail
      go_at_call 56
      refine (HQ.out).mono ?_
      rintro e w2 ⟨rfl, hb⟩
      have f2 := Fr.of_below (R := R) hb (Nat.le_refl _)
      have h2 := M0.out.rd.below hb M0.out.rd.lt
      have z2 := f2.size
      clear hb
      have M2 := Lib.hid ((M0.out.call h2 f2))
      clear h2 f2
      clear HQ
      obtain ⟨c0, c1, c2, c3⟩ := M2.out.rd.cells
      go_wp2_with fail
      go_at_call 95
      refine (H1.out w2 M2.out.rd).mono ?_
      rintro e w3 ⟨v3, rfl, h3, f3, t3⟩
      obtain ⟨A3, c3, rfl, -, -⟩ := t3.form
      have z3 := f3.size
      obtain ⟨w4, e4, m4, f4, b4, zq4⟩ := (M2.out.call h3 f3).box_ (.int .i64 (hd x).op) (.string (bs (hd x).s)) (.int .i64 (hd x).n) (.slice A3 (hd x).l.length c3) (.int .i64 (hd x).line)
      have z4 : w3.heap.size < w4.heap.size := by omega
      clear zq4
      have M4 := Lib.hid (And.intro m4 (And.intro ((t3.af (B := w.heap.size) (by omega)).up f4 (by omega)) (b4)))
      clear h3 f3 t3 m4 f4 b4
      obtain ⟨x0, x1, x2, x3, x4⟩ := M4.out.2.2.cells
      have HQ := Lib.hid (closed_all st.pos w4 M4.out.1.rd (by omega))
      rw [hcl] at HQ
      go_wp2_with fail
      go_at_call 96
      refine (HQ.out).mono ?_
      rintro e w5 ⟨rfl, hb⟩
      have f5 := Fr.of_below (R := R) hb (Nat.le_refl _)
      have h5 := M4.out.1.rd.below hb M4.out.1.rd.lt
      have z5 := f5.size
      clear hb
      have M5 := Lib.hid (And.intro (M4.out.1.call h5 f5) (And.intro (M4.out.2.1.up f5 (by omega)) (M4.out.2.2.fr f5 (by omega))))
      clear h5 f5
      clear HQ
      obtain ⟨x0, x1, x2, x3, x4⟩ := M5.out.2.2.cells
      have HQ0 := take_any [61] ⟨#[61]⟩ rfl w5 M5.out.1.rd
      unfold takeR at HQ0
      rw [hq] at HQ0
      have HQ := Lib.hid HQ0
      clear HQ0
      go_wp2_with fail
      go_at_call 57
      refine (HQ.out).mono ?_
      rintro e w6 ⟨rfl, h6, f6⟩
      have h6 : RdAt w6 R A cp L (s2) := h6
      have z6 := f6.size
      have M6 := Lib.hid (And.intro (M5.out.1.call h6 f6) (And.intro (M5.out.2.1.up f6 (by omega)) (M5.out.2.2.fr f6 (by omega))))
      clear h6 f6
      clear HQ
      obtain ⟨x0, x1, x2, x3, x4⟩ := M6.out.2.2.cells
      obtain ⟨⟨y0, y1, y2, y3, y4⟩, g0, g1, g2, g3, g4⟩ := M6.out.1.facts
      go_wp2
      exact M6.out.1.gives' 2 M6.out.2.1 rfl rfl rfl
    | true =>
     cases e3 : run L F .expr s2.next with
     | none => simp [one, hb, HOP.out, hcl, hq, e3, htg] at hr
     | some y =>
     obtain ⟨y, s3⟩ := y
     obtain ⟨rfl, rfl⟩ : [Tr.mk 17 [] 0 (hd x).line [hd x, hd y]] = l ∧ s3 = st1 := by simpa [one, hb, HOP.out, hcl, hq, e3, htg] using hr
     have H3 := Lib.hid (ih .expr _ _ _ e3)
     clear hr e3 htg
     rcases hf with dk1 | ⟨dk1, dk13⟩ | ⟨dk1, dk13, dk14⟩
     all_goals
      go_enter Try.func74, Try.ntmps74
      have HQ0 := is_any [40] ⟨#[40]⟩ rfl W1 M0.out.rd
      rw [hb] at HQ0
      have HQ := Lib.hid HQ0
      clear HQ0
      go_wp2_with fail
      go_at_call 56
      refine (HQ.out).mono ?_
      rintro e w2 ⟨rfl, hb⟩
      have f2 := Fr.of_below (R := R) hb (Nat.le_refl _)
      have h2 := M0.out.rd.below hb M0.out.rd.lt
      have z2 := f2.size
      clear hb
      have M2 := Lib.hid ((M0.out.call h2 f2))
      clear h2 f2
      clear HQ
      obtain ⟨c0, c1, c2, c3⟩ := M2.out.rd.cells
      go_wp2_with fail
      go_at_call 95
      refine (H1.out w2 M2.out.rd).mono ?_
      rintro e w3 ⟨v3, rfl, h3, f3, t3⟩
      obtain ⟨A3, c3, rfl, -, -⟩ := t3.form
      have z3 := f3.size
      obtain ⟨w4, e4, m4, f4, b4, zq4⟩ := (M2.out.call h3 f3).box_ (.int .i64 (hd x).op) (.string (bs (hd x).s)) (.int .i64 (hd x).n) (.slice A3 (hd x).l.length c3) (.int .i64 (hd x).line)
      have z4 : w3.heap.size < w4.heap.size := by omega
      clear zq4
      have M4 := Lib.hid (And.intro m4 (And.intro ((t3.af (B := w.heap.size) (by omega)).up f4 (by omega)) (b4)))
      clear h3 f3 t3 m4 f4 b4
      obtain ⟨x0, x1, x2, x3, x4⟩ := M4.out.2.2.cells
      have HQ := Lib.hid (closed_all st.pos w4 M4.out.1.rd (by omega))
      rw [hcl] at HQ
      go_wp2_with fail
      go_at_call 96
      refine (HQ.out).mono ?_
      rintro e w5 ⟨rfl, hb⟩
      have f5 := Fr.of_below (R := R) hb (Nat.le_refl _)
      have h5 := M4.out.1.rd.below hb M4.out.1.rd.lt
      have z5 := f5.size
      clear hb
      have M5 := Lib.hid (And.intro (M4.out.1.call h5 f5) (And.intro (M4.out.2.1.up f5 (by omega)) (M4.out.2.2.fr f5 (by omega))))
      clear h5 f5
      clear HQ
      obtain ⟨x0, x1, x2, x3, x4⟩ := M5.out.2.2.cells
      have HQ0 := take_any [61] ⟨#[61]⟩ rfl w5 M5.out.1.rd
      unfold takeR at HQ0
      rw [hq] at HQ0
      have HQ := Lib.hid HQ0
      clear HQ0
      go_wp2_with fail
      go_at_call 57
      refine (HQ.out).mono ?_
      rintro e w6 ⟨rfl, h6, f6⟩
      have h6 : RdAt w6 R A cp L (s2.next) := h6
      have z6 := f6.size
      have M6 := Lib.hid (And.intro (M5.out.1.call h6 f6) (And.intro (M5.out.2.1.up f6 (by omega)) (M5.out.2.2.fr f6 (by omega))))
      clear h6 f6
      clear HQ
      obtain ⟨x0, x1, x2, x3, x4⟩ := M6.out.2.2.cells
      have zd : w6.heap.size ≤ w6.drew.heap.size := Nat.le_refl _
      have m7 := M6.out.1.drew
      have i7_0 := (M6.out.2.1.up ((Only.refl (fun k => k = R) _).drew) (by omega))
      have i7_1 := (M6.out.2.2.fr ((Only.refl (fun k => k = R) _).drew) (by omega))
      have M7 := Lib.hid (And.intro m7 (And.intro i7_0 (i7_1)))
      have hs0 := M7.out.2.2.cells
      go_wp2_with fail
      go_region_held_law (fun w' => (w'.cell? ⟨w3.heap.size, 0, none⟩ = some (.int .i64 (hd x).op) ∧ w'.cell? ⟨w3.heap.size, 1, none⟩ = some (.string (bs (hd x).s)) ∧ w'.cell? ⟨w3.heap.size, 2, none⟩ = some (.int .i64 (hd x).n) ∧ w'.cell? ⟨w3.heap.size, 3, none⟩ = some (.slice A3 (hd x).l.length c3) ∧ w'.cell? ⟨w3.heap.size, 4, none⟩ = some (.int .i64 (hd x).line)))
       (first | with_reducible exact hs3 _ _ _ _ _ | with_reducible exact hs2 | with_reducible exact hs1 | with_reducible exact hs0)
       (first
        | (go_at_call 74; refine (H3.out w6.drew M7.out.1.rd).mono ?_; rintro e w8 ⟨v8, rfl, h8, f8, t8⟩; obtain ⟨A8, c8, rfl, -, -⟩ := t8.form; have z8 := f8.size; have M8 := Lib.hid (And.intro (M7.out.1.call h8 f8) (And.intro (M7.out.2.1.up f8 (by omega)) (And.intro (M7.out.2.2.fr f8 (by omega)) (t8.af (B := w.heap.size) (by omega))))); have hs1 := M8.out.2.2.1.cells; obtain ⟨w9, e9, m9, f9, b9, zq9⟩ := M8.out.1.arr #[.int .i64 (hd x).op, .string (bs (hd x).s), .int .i64 (hd x).n, .slice A3 (hd x).l.length c3, .int .i64 (hd x).line, .int .i64 (hd y).op, .string (bs (hd y).s), .int .i64 (hd y).n, .slice A8 (hd y).l.length c8, .int .i64 (hd y).line]; have z9 : w8.heap.size < w9.heap.size := (by omega); clear zq9; have M9 := Lib.hid (And.intro m9 (And.intro (M8.out.2.1.up f9 (by omega)) (And.intro (M8.out.2.2.1.fr f9 (by omega)) (And.intro (M8.out.2.2.2.up f9 (by omega)) (b9))))); have hs2 := M9.out.2.2.1.cells; have hs3 := fun u0 u1 u2 u3 u4 => (M9.out.2.2.1.past (b := w.heap.size) (by omega) u0 u1 u2 u3 u4).cells; obtain ⟨⟨y0, y1, y2, y3, y4⟩, g0, g1, g2, g3, g4⟩ := M9.out.1.facts; clear h8 f8 t8 m9 f9 b9))
      go_wp2
      exact M9.out.1.gives' 2 (TreeAt.mk (o := 17) (k := 0) (i := (hd x).line) (s := []) (RowAt.two M9.out.2.1 M9.out.2.2.2.1 M9.out.2.2.2.2 rfl (show Af w.heap.size w9 w8.heap.size from ⟨by omega, by omega⟩)) ⟨by simp, by omega, by omega⟩) rfl rfl rfl
  ·have hf : ((hd x).op == 1) = false ∧ ((hd x).op == 13) = false ∧ ((hd x).op == 14) = false := by rw [HOP.out]; exact ⟨by simpa using fun h => htg (.inl h), by simpa using fun h => htg (.inr (.inl h)), by simpa using fun h => htg (.inr (.inr h))⟩
   obtain ⟨rfl, rfl⟩ : [hd x] = l ∧ s2 = st1 := by simpa [one, hb, HOP.out, hcl, htg] using hr
   obtain ⟨dk1, dk13, dk14⟩ := hf
   clear hr htg
   go_enter Try.func74, Try.ntmps74
   have HQ0 := is_any [40] ⟨#[40]⟩ rfl W1 M0.out.rd
   rw [hb] at HQ0
   have HQ := Lib.hid HQ0
   clear HQ0
   go_wp2_with fail
   go_at_call 56
   refine (HQ.out).mono ?_
   rintro e w2 ⟨rfl, hb⟩
   have f2 := Fr.of_below (R := R) hb (Nat.le_refl _)
   have h2 := M0.out.rd.below hb M0.out.rd.lt
   have z2 := f2.size
   clear hb
   have M2 := Lib.hid ((M0.out.call h2 f2))
   clear h2 f2
   clear HQ
   obtain ⟨c0, c1, c2, c3⟩ := M2.out.rd.cells
   go_wp2_with fail
   go_at_call 95
   refine (H1.out w2 M2.out.rd).mono ?_
   rintro e w3 ⟨v3, rfl, h3, f3, t3⟩
   obtain ⟨A3, c3, rfl, -, -⟩ := t3.form
   have z3 := f3.size
   obtain ⟨w4, e4, m4, f4, b4, zq4⟩ := (M2.out.call h3 f3).box_ (.int .i64 (hd x).op) (.string (bs (hd x).s)) (.int .i64 (hd x).n) (.slice A3 (hd x).l.length c3) (.int .i64 (hd x).line)
   have z4 : w3.heap.size < w4.heap.size := by omega
   clear zq4
   have M4 := Lib.hid (And.intro m4 (And.intro ((t3.af (B := w.heap.size) (by omega)).up f4 (by omega)) (b4)))
   clear h3 f3 t3 m4 f4 b4
   obtain ⟨x0, x1, x2, x3, x4⟩ := M4.out.2.2.cells
   have HQ := Lib.hid (closed_all st.pos w4 M4.out.1.rd (by omega))
   rw [hcl] at HQ
   go_wp2_with fail
   go_at_call 96
   refine (HQ.out).mono ?_
   rintro e w5 ⟨rfl, hb⟩
   have f5 := Fr.of_below (R := R) hb (Nat.le_refl _)
   have h5 := M4.out.1.rd.below hb M4.out.1.rd.lt
   have z5 := f5.size
   clear hb
   have M5 := Lib.hid (And.intro (M4.out.1.call h5 f5) (And.intro (M4.out.2.1.up f5 (by omega)) (M4.out.2.2.fr f5 (by omega))))
   clear h5 f5
   clear HQ
   cases cl
   all_goals
    obtain ⟨x0, x1, x2, x3, x4⟩ := M5.out.2.2.cells
    obtain ⟨⟨y0, y1, y2, y3, y4⟩, g0, g1, g2, g3, g4⟩ := M5.out.1.facts
    go_wp2
    exact M5.out.1.gives' 2 M5.out.2.1 rfl rfl rfl
end
end
end Go.Proofs.Ytejbdoiamhfbjaa
