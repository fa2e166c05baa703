/- rules: closure. -/
import Derived.Test.YtikbfoichhkeaaaGreatVm28
set_option linter.unusedSimpArgs false
set_option linter.unusedVariables false
set_option maxRecDepth 100000
set_option maxHeartbeats 40000000
namespace Go.Proofs.YtikbfoichhkeaaaGreat
section
open Go.RowKit Go.Proofs
theorem m_closure1 {W0 W : World} {Mb fB : Nat} {X : Cx} {fv fsv rv : Value} {rs : List Ru} (hX : CxOK X) (hM : MkAt W0 W Mb fB X fv fsv rv rs) {S : Nat → Prop} {t : Tr} {k : Nat} {cs : List Value} (ht : NtP W S t k cs) (hS : ∀ i, S i → i < W.heap.size ∧ ¬ mkF Mb rv i)  {jf : Nat} {ix : Int} {ff : Fn} (pf pth : Int) (ptg : Bool) (htn : t.n = (jf : Nat)) (hff : X.F[jf]? = some ff) (hvl : ff.vars.length ≤ 100000) (hix : idxS ff.vars t.s = ix) (hge : ¬ (ff.params : Int) ≤ ix) (hr : rs.length ≤ 600000) :
  Calls Tryz.prog 62 #[.pointer (some ⟨Mb, 0, none⟩), .agg cs.toArray, .agg #[.int .i64 pf, .int .i64 pth, .bool ptg]] W (AddQ W0 Mb fB X fv fsv W rv (rs ++ [((⟨2, 0, k, 0, 0, (jf : Nat), 0, [], []⟩ : Ru)).at_ pf])) := by
 obtain ⟨A0, n0, c0, A, c, rfl, htc, hrow⟩ := (NtP_eq _ _ _ _ _).1 ht
 obtain ⟨ek, hek⟩ : ∃ x, k + t.size = x := ⟨_, rfl⟩
 rw [hek]
 unfold ntV
 rw [htn]
 obtain ⟨hal, hb0, hb1, hz2⟩ := alloc2 W (.cells #[.int .i64 t.op, .string (bs t.s), .int .i64 (jf : Nat), .slice A0 n0 c0, .int .i64 t.line, .int .i64 k, .int .i64 ek, .slice A t.l.length c] 92) (.cells #[.int .i64 pf, .int .i64 pth, .bool ptg] 94)
 obtain ⟨W2, e2⟩ : ∃ x, (W.alloc (.cells #[.int .i64 t.op, .string (bs t.s), .int .i64 (jf : Nat), .slice A0 n0 c0, .int .i64 t.line, .int .i64 k, .int .i64 ek, .slice A t.l.length c] 92)).alloc (.cells #[.int .i64 pf, .int .i64 pth, .bool ptg] 94) = x := ⟨_, rfl⟩
 rw [e2] at hal hb0 hb1 hz2
 have hM2 := hM.below hal
 obtain ⟨N, eN⟩ : ∃ x, W.heap.size = x := ⟨_, rfl⟩
 rw [eN] at hb0 hb1 hz2
 obtain ⟨gf, cf, As, csf, efv, f0, f1, f2, f3, f4, fn9⟩ := hM.funs.get hff
 have hjl : jf < X.F.length := (List.getElem?_eq_some_iff.1 hff).1
 have hfl : X.F.length ≤ cf ∧ cf ≤ 9223372036854775807 := by obtain ⟨A9, c9, e9, hc8, hc9⟩ := hM.funs.form; rw [efv] at e9; injection e9 with _ _ e9; subst e9; exact ⟨hc8, hc9⟩
 obtain ⟨hfl1, hfl2⟩ := hfl
 have hfun : ∀ w' {rv' rs'}, MkAt W0 w' Mb fB X fv fsv rv' rs' → ((w'.cell? ⟨gf, jf * 5, none⟩ = some (.int .i64 ff.around) ∧ w'.cell? ⟨gf, jf * 5 + 1, none⟩ = some (.string (bs ff.name)) ∧ w'.cell? ⟨gf, jf * 5 + 2, none⟩ = some (.int .i64 ff.params) ∧ w'.cell? ⟨gf, jf * 5 + 3, none⟩ = some (.slice As ff.vars.length csf) ∧ w'.cell? ⟨gf, jf * 5 + 4, none⟩ = some (.int .i64 ff.mark)) ∧ ∀ (j : Nat) (x : Bs), ff.vars[j]? = some x → ∃ b, As = some ⟨b, 0, none⟩ ∧ w'.cell? ⟨b, j, none⟩ = some (.string (bs x))) := fun w' rv' rs' hm => by
  have hl := hm.low
  have h9 : ∀ g o v, W0.cell? ⟨g, o, none⟩ = some v → w'.cell? ⟨g, o, none⟩ = some v := fun g o v h => (hl.cell (p := ⟨g, o, none⟩) (by have := hm.size0; have := cell_lt h; show g < Mb; omega)).trans h
  exact ⟨⟨h9 _ _ _ f0, h9 _ _ _ f1, h9 _ _ _ f2, h9 _ _ _ f3, h9 _ _ _ f4⟩, fun j x hx => by obtain ⟨b, hb, h⟩ := fn9 j x hx; exact ⟨b, hb, h9 _ _ _ h⟩⟩
 have hnN : ∀ i, N ≤ i → ¬ mkF Mb rv i := fun i hi h => by
  rcases h with h | h
  ·have := hM.lt; omega
  ·have := (hM.row.own i h).2; omega
 have hSN : ∀ i, S i → i < W2.heap.size ∧ ¬ mkF Mb rv i ∧ W2.heap[i]? = W.heap[i]? := fun i hi => ⟨by have := (hS i hi).1; omega, (hS i hi).2, hal.block i (hS i hi).1⟩
 have hcell : ∀ w' rv' rs', MkAt W0 w' Mb fB X fv fsv rv' rs' → Only (mkF Mb rv) W2 w' → (w'.cell? ⟨Mb, 0, none⟩ = some (.slice (some ⟨gf, 0, none⟩) X.F.length cf) ∧ w'.cell? ⟨gf, jf * 5, none⟩ = some (.int .i64 ff.around) ∧ w'.cell? ⟨gf, jf * 5 + 1, none⟩ = some (.string (bs ff.name)) ∧ w'.cell? ⟨gf, jf * 5 + 2, none⟩ = some (.int .i64 ff.params) ∧ w'.cell? ⟨gf, jf * 5 + 3, none⟩ = some (.slice As ff.vars.length csf) ∧ w'.cell? ⟨gf, jf * 5 + 4, none⟩ = some (.int .i64 ff.mark) ∧ w'.cell? ⟨N, 1, none⟩ = some (.string (bs t.s)) ∧ w'.cell? ⟨N, 2, none⟩ = some (.int .i64 (jf : Nat)) ∧ w'.cell? ⟨N, 5, none⟩ = some (.int .i64 k) ∧ w'.cell? ⟨N + 1, 0, none⟩ = some (.int .i64 pf) ∧ w'.cell? ⟨N + 1, 1, none⟩ = some (.int .i64 pth) ∧ w'.cell? ⟨N + 1, 2, none⟩ = some (.bool ptg)) := fun w' rv' rs' hm hb => by
  have h0 := (box8 ((hb.block N (heap_lt hb0) (hnN N (Nat.le_refl _))).trans hb0)).1
  have h1 := box3c ((hb.block (N + 1) (heap_lt hb1) (hnN (N + 1) (by omega))).trans hb1)
  have hpc : ∀ g j v, S g → W.cell? ⟨g, j, none⟩ = some v → w'.cell? ⟨g, j, none⟩ = some v := fun g j v hg h => (cell_block ((hb.block g (hSN g hg).1 (hSN g hg).2.1).trans (hSN g hg).2.2) ⟨g, j, none⟩ rfl).trans h
  exact ⟨(hm.cells.1.1.trans (congrArg some efv)), (hfun w' hm).1.1, (hfun w' hm).1.2.1, (hfun w' hm).1.2.2.1, (hfun w' hm).1.2.2.2.1, (hfun w' hm).1.2.2.2.2, h0.2.1, h0.2.2.1, h0.2.2.2.2.2.1, h1.1, h1.2.1, h1.2.2⟩
 have hMB := fun w (hb : Below W2.heap.size W2 w) => hM2.below hb
 have HMB := Lib.hid hMB
 have HC := Lib.hid hcell
 have HCB := Lib.hid (fun w (hb : Below W2.heap.size W2 w) => hcell w rv rs (hMB w hb) (Only.of_below hb))
 have HS0 := Lib.hid (hcell W2 rv rs hM2 (Only.refl _ _))
 have HSD := Lib.hid (hcell W2.drew rv rs (hM2.below (drew_below W2)) (Only.of_below (drew_below W2)))
 obtain ⟨x0, x1, x2, x3, x4, x5, x6, x7, x8, x9, x10, x11⟩ := HS0.out
 have HM := Lib.hid (And.intro hM hal)
 have hI := fun w rv' rs' (hm : MkAt W0 w Mb fB X fv fsv rv' rs') => index_any (W := w) (A := As) (c := csf) ff.vars t.s hvl (hfun w hm).2
 rw [hix] at hI
 have HI := Lib.hid hI
 have HA := Lib.hid (fun w (hb : Below W2.heap.size W2 w) => (show Calls Tryz.prog 104 #[.pointer (some ⟨Mb, 0, none⟩), .agg #[.int .i64 pf, .int .i64 pth, .bool ptg], .slice (some ⟨w.heap.size, 0, none⟩) 1 1] (w.alloc (.cells #[.int .i64 2, .int .i64 0, .int .i64 k, .int .i64 0, .int .i64 0, .int .i64 (jf : Nat), .int .i64 0, .string ⟨#[]⟩, .slice none 0 0] 44)) (AddQ W0 Mb fB X fv fsv W2 rv (rs ++ [((⟨2, 0, k, 0, 0, (jf : Nat), 0, [], []⟩ : Ru)).at_ pf])) from add_one hM2 hb ⟨pf, pth, ptg⟩ ((⟨2, 0, k, 0, 0, (jf : Nat), 0, [], []⟩ : Ru)) (.slice none 0 0) (IntsF.nil _ _) (by simp) (by omega)))
 have hA2 := HA.out W2 (Below.refl _ _)
 rw [hz2] at hA2
 have HA2 := Lib.hid hA2
 clear hcell hnN hSN hMB hM hM2 hal hb0 hb1 hX ht htc hrow hS hek hA2 hI hix hff htn hvl  hfun f0 f1 f2 f3 f4 fn9 efv
 go_enter Tryz.func62, Tryz.ntmps62
 go_wp2_with fail
 go_at_call 104
 refine HA2.out.mono ?_
 rintro e u9 ⟨⟨v0, rfl⟩, rv5, hm5, ho5, hn5⟩
 have HS9 := Lib.hid (HC.out u9 rv5 _ hm5 ho5)
 have HQ := Lib.hid (And.intro hm5 (And.intro ho5 hn5))
 clear hm5 ho5 hn5 x0 x1 x2 x3 x4 x5 x6 x7 x8 x9 x10 x11
 have HCB3 := Lib.hid (fun w (hb : Below u9.heap.size u9 w) => HC.out w rv5 _ (HQ.out.1.below hb) (HQ.out.2.1.trans' (Only.of_below hb)))
 have HSE2 := Lib.hid (HCB3.out u9.drew (drew_below u9))
 obtain ⟨z0, z1, z2, z3, z4, z5, z6, z7, z8, z9, z10, z11⟩ := HS9.out
 have hal9 := below_alloc9 u9 (.cells #[.int .i64 ff.around, .string (bs ff.name), .int .i64 ff.params, .slice As ff.vars.length csf, .int .i64 ff.mark] 48)
 have hb9 := heap_alloc_new u9 (.cells #[.int .i64 ff.around, .string (bs ff.name), .int .i64 ff.params, .slice As ff.vars.length csf, .int .i64 ff.mark] 48)
 obtain ⟨Z9, eZ9⟩ : ∃ x, u9.heap.size = x := ⟨_, rfl⟩
 rw [eZ9] at hb9
 obtain ⟨w9, e9⟩ : ∃ x, u9.alloc (.cells #[.int .i64 ff.around, .string (bs ff.name), .int .i64 ff.params, .slice As ff.vars.length csf, .int .i64 ff.mark] 48) = x := ⟨_, rfl⟩
 rw [e9] at hal9 hb9
 obtain ⟨y0, y1, y2, y3, y4, y5, y6, y7, y8, y9, y10, y11⟩ := HCB3.out w9 hal9
 obtain ⟨b0, b1, b2, b3, b4⟩ := (box_facts hb9).1
 have HB9 := Lib.hid (And.intro hal9 hb9)
 clear hal9 hb9
 go_wp2_with fail
 go_at_call 107
 refine (HI.out w9 _ _ (HQ.out.1.below HB9.out.1)).mono ?_
 rintro e u3 ⟨rfl, hb3⟩
 have HB3 := Lib.hid (HB9.out.1.trans (hb3.mono HB9.out.1.size))
 have hc3 := (box_facts ((hb3.block Z9 (heap_lt HB9.out.2)).trans HB9.out.2)).1
 clear hb3 b0 b1 b2 b3 b4 z0 z1 z2 z3 z4 z5 z6 z7 z8 z9 z10 z11 y0 y1 y2 y3 y4 y5 y6 y7 y8 y9 y10 y11
 obtain ⟨b0, b1, b2, b3, b4⟩ := hc3
 go_wp2
 go_end0
 exact AddQ.pre HM.out.1 HM.out.2 ⟨⟨_, rfl⟩, rv5, HQ.out.1.below HB3.out, HQ.out.2.1.trans' (Only.of_below HB3.out), HQ.out.2.2⟩
theorem m_closure2 {W0 W : World} {Mb fB : Nat} {X : Cx} {fv fsv rv : Value} {rs : List Ru} (hX : CxOK X) (hM : MkAt W0 W Mb fB X fv fsv rv rs) {S : Nat → Prop} {t : Tr} {k : Nat} {cs : List Value} (ht : NtP W S t k cs) (hS : ∀ i, S i → i < W.heap.size ∧ ¬ mkF Mb rv i)  {jf iv : Nat} {ff : Fn} {sf : FS} (pf pth : Int) (ptg : Bool) (htn : t.n = (jf : Nat)) (hff : X.F[jf]? = some ff) (hv : VarOK X ((jf : Int) * 1000 + (iv : Int)) jf iv ff sf) (hix : idxS ff.vars t.s = (iv : Int)) (hge : (ff.params : Int) ≤ (iv : Int)) (hr : rs.length ≤ 600000) :
  Calls Tryz.prog 62 #[.pointer (some ⟨Mb, 0, none⟩), .agg cs.toArray, .agg #[.int .i64 pf, .int .i64 pth, .bool ptg]] W (AddQ W0 Mb fB X fv fsv W rv (rs ++ ([((⟨2, 0, k, 0, 0, (jf : Nat), 0, [], []⟩ : Ru)).at_ pf] ++ [((⟨2, 0, X.var ((jf : Int) * 1000 + (iv : Int)), 0, 0, (jf : Nat), 0, [], []⟩ : Ru)).at_ pf]))) := by
 obtain ⟨A0, n0, c0, A, c, rfl, htc, hrow⟩ := (NtP_eq _ _ _ _ _).1 ht
 obtain ⟨ek, hek⟩ : ∃ x, k + t.size = x := ⟨_, rfl⟩
 rw [hek]
 unfold ntV
 rw [htn]
 obtain ⟨hal, hb0, hb1, hz2⟩ := alloc2 W (.cells #[.int .i64 t.op, .string (bs t.s), .int .i64 (jf : Nat), .slice A0 n0 c0, .int .i64 t.line, .int .i64 k, .int .i64 ek, .slice A t.l.length c] 92) (.cells #[.int .i64 pf, .int .i64 pth, .bool ptg] 94)
 obtain ⟨W2, e2⟩ : ∃ x, (W.alloc (.cells #[.int .i64 t.op, .string (bs t.s), .int .i64 (jf : Nat), .slice A0 n0 c0, .int .i64 t.line, .int .i64 k, .int .i64 ek, .slice A t.l.length c] 92)).alloc (.cells #[.int .i64 pf, .int .i64 pth, .bool ptg] 94) = x := ⟨_, rfl⟩
 rw [e2] at hal hb0 hb1 hz2
 have hM2 := hM.below hal
 obtain ⟨N, eN⟩ : ∃ x, W.heap.size = x := ⟨_, rfl⟩
 rw [eN] at hb0 hb1 hz2
 obtain ⟨gf, cf, As, csf, efv, f0, f1, f2, f3, f4, fn9⟩ := hM.funs.get hff
 have hjl : jf < X.F.length := (List.getElem?_eq_some_iff.1 hff).1
 have hfl : X.F.length ≤ cf ∧ cf ≤ 9223372036854775807 := by obtain ⟨A9, c9, e9, hc8, hc9⟩ := hM.funs.form; rw [efv] at e9; injection e9 with _ _ e9; subst e9; exact ⟨hc8, hc9⟩
 obtain ⟨hfl1, hfl2⟩ := hfl
 have hfun : ∀ w' {rv' rs'}, MkAt W0 w' Mb fB X fv fsv rv' rs' → ((w'.cell? ⟨gf, jf * 5, none⟩ = some (.int .i64 ff.around) ∧ w'.cell? ⟨gf, jf * 5 + 1, none⟩ = some (.string (bs ff.name)) ∧ w'.cell? ⟨gf, jf * 5 + 2, none⟩ = some (.int .i64 ff.params) ∧ w'.cell? ⟨gf, jf * 5 + 3, none⟩ = some (.slice As ff.vars.length csf) ∧ w'.cell? ⟨gf, jf * 5 + 4, none⟩ = some (.int .i64 ff.mark)) ∧ ∀ (j : Nat) (x : Bs), ff.vars[j]? = some x → ∃ b, As = some ⟨b, 0, none⟩ ∧ w'.cell? ⟨b, j, none⟩ = some (.string (bs x))) := fun w' rv' rs' hm => by
  have hl := hm.low
  have h9 : ∀ g o v, W0.cell? ⟨g, o, none⟩ = some v → w'.cell? ⟨g, o, none⟩ = some v := fun g o v h => (hl.cell (p := ⟨g, o, none⟩) (by have := hm.size0; have := cell_lt h; show g < Mb; omega)).trans h
  exact ⟨⟨h9 _ _ _ f0, h9 _ _ _ f1, h9 _ _ _ f2, h9 _ _ _ f3, h9 _ _ _ f4⟩, fun j x hx => by obtain ⟨b, hb, h⟩ := fn9 j x hx; exact ⟨b, hb, h9 _ _ _ h⟩⟩
 have hnN : ∀ i, N ≤ i → ¬ mkF Mb rv i := fun i hi h => by
  rcases h with h | h
  ·have := hM.lt; omega
  ·have := (hM.row.own i h).2; omega
 have hSN : ∀ i, S i → i < W2.heap.size ∧ ¬ mkF Mb rv i ∧ W2.heap[i]? = W.heap[i]? := fun i hi => ⟨by have := (hS i hi).1; omega, (hS i hi).2, hal.block i (hS i hi).1⟩
 have hcell : ∀ w' rv' rs', MkAt W0 w' Mb fB X fv fsv rv' rs' → Only (mkF Mb rv) W2 w' → (w'.cell? ⟨Mb, 0, none⟩ = some (.slice (some ⟨gf, 0, none⟩) X.F.length cf) ∧ w'.cell? ⟨gf, jf * 5, none⟩ = some (.int .i64 ff.around) ∧ w'.cell? ⟨gf, jf * 5 + 1, none⟩ = some (.string (bs ff.name)) ∧ w'.cell? ⟨gf, jf * 5 + 2, none⟩ = some (.int .i64 ff.params) ∧ w'.cell? ⟨gf, jf * 5 + 3, none⟩ = some (.slice As ff.vars.length csf) ∧ w'.cell? ⟨gf, jf * 5 + 4, none⟩ = some (.int .i64 ff.mark) ∧ w'.cell? ⟨N, 1, none⟩ = some (.string (bs t.s)) ∧ w'.cell? ⟨N, 2, none⟩ = some (.int .i64 (jf : Nat)) ∧ w'.cell? ⟨N, 5, none⟩ = some (.int .i64 k) ∧ w'.cell? ⟨N + 1, 0, none⟩ = some (.int .i64 pf) ∧ w'.cell? ⟨N + 1, 1, none⟩ = some (.int .i64 pth) ∧ w'.cell? ⟨N + 1, 2, none⟩ = some (.bool ptg)) := fun w' rv' rs' hm hb => by
  have h0 := (box8 ((hb.block N (heap_lt hb0) (hnN N (Nat.le_refl _))).trans hb0)).1
  have h1 := box3c ((hb.block (N + 1) (heap_lt hb1) (hnN (N + 1) (by omega))).trans hb1)
  have hpc : ∀ g j v, S g → W.cell? ⟨g, j, none⟩ = some v → w'.cell? ⟨g, j, none⟩ = some v := fun g j v hg h => (cell_block ((hb.block g (hSN g hg).1 (hSN g hg).2.1).trans (hSN g hg).2.2) ⟨g, j, none⟩ rfl).trans h
  exact ⟨(hm.cells.1.1.trans (congrArg some efv)), (hfun w' hm).1.1, (hfun w' hm).1.2.1, (hfun w' hm).1.2.2.1, (hfun w' hm).1.2.2.2.1, (hfun w' hm).1.2.2.2.2, h0.2.1, h0.2.2.1, h0.2.2.2.2.2.1, h1.1, h1.2.1, h1.2.2⟩
 have hMB := fun w (hb : Below W2.heap.size W2 w) => hM2.below hb
 have HMB := Lib.hid hMB
 have HC := Lib.hid hcell
 have HCB := Lib.hid (fun w (hb : Below W2.heap.size W2 w) => hcell w rv rs (hMB w hb) (Only.of_below hb))
 have HS0 := Lib.hid (hcell W2 rv rs hM2 (Only.refl _ _))
 have HSD := Lib.hid (hcell W2.drew rv rs (hM2.below (drew_below W2)) (Only.of_below (drew_below W2)))
 obtain ⟨x0, x1, x2, x3, x4, x5, x6, x7, x8, x9, x10, x11⟩ := HS0.out
 have HM := Lib.hid (And.intro hM hal)
 obtain ⟨x, hx⟩ : ∃ x, X.var ((jf : Int) * 1000 + (iv : Int)) = x := ⟨_, rfl⟩
 have hO := fun w rv' rs' (hm : MkAt W0 w Mb fB X fv fsv rv' rs') => own_ok hX hm hv rfl rfl
 rw [hx] at hO ⊢
 have HO := Lib.hid hO
 have hI := fun w rv' rs' (hm : MkAt W0 w Mb fB X fv fsv rv' rs') => index_any (W := w) (A := As) (c := csf) ff.vars t.s (by have := (hX.each jf ff sf hff hv.s).1; omega) (hfun w hm).2
 rw [hix] at hI
 have HI := Lib.hid hI
 have HA := Lib.hid (fun w (hb : Below W2.heap.size W2 w) => (show Calls Tryz.prog 104 #[.pointer (some ⟨Mb, 0, none⟩), .agg #[.int .i64 pf, .int .i64 pth, .bool ptg], .slice (some ⟨w.heap.size, 0, none⟩) 1 1] (w.alloc (.cells #[.int .i64 2, .int .i64 0, .int .i64 k, .int .i64 0, .int .i64 0, .int .i64 (jf : Nat), .int .i64 0, .string ⟨#[]⟩, .slice none 0 0] 44)) (AddQ W0 Mb fB X fv fsv W2 rv (rs ++ [((⟨2, 0, k, 0, 0, (jf : Nat), 0, [], []⟩ : Ru)).at_ pf])) from add_one hM2 hb ⟨pf, pth, ptg⟩ ((⟨2, 0, k, 0, 0, (jf : Nat), 0, [], []⟩ : Ru)) (.slice none 0 0) (IntsF.nil _ _) (by simp) (by omega)))
 have hA2 := HA.out W2 (Below.refl _ _)
 rw [hz2] at hA2
 have HA2 := Lib.hid hA2
 clear hcell hnN hSN hMB hM hM2 hal hb0 hb1 hX ht htc hrow hS hek hA2 hI hix hff htn hO hv  hfun f0 f1 f2 f3 f4 fn9 efv
 go_enter Tryz.func62, Tryz.ntmps62
 go_wp2_with fail
 go_at_call 104
 refine HA2.out.mono ?_
 rintro e u9 ⟨⟨v0, rfl⟩, rv5, hm5, ho5, hn5⟩
 have HS9 := Lib.hid (HC.out u9 rv5 _ hm5 ho5)
 have HQ := Lib.hid (And.intro hm5 (And.intro ho5 hn5))
 clear hm5 ho5 hn5 x0 x1 x2 x3 x4 x5 x6 x7 x8 x9 x10 x11
 have HCB3 := Lib.hid (fun w (hb : Below u9.heap.size u9 w) => HC.out w rv5 _ (HQ.out.1.below hb) (HQ.out.2.1.trans' (Only.of_below hb)))
 have HSE2 := Lib.hid (HCB3.out u9.drew (drew_below u9))
 obtain ⟨z0, z1, z2, z3, z4, z5, z6, z7, z8, z9, z10, z11⟩ := HS9.out
 have hal9 := below_alloc9 u9 (.cells #[.int .i64 ff.around, .string (bs ff.name), .int .i64 ff.params, .slice As ff.vars.length csf, .int .i64 ff.mark] 48)
 have hb9 := heap_alloc_new u9 (.cells #[.int .i64 ff.around, .string (bs ff.name), .int .i64 ff.params, .slice As ff.vars.length csf, .int .i64 ff.mark] 48)
 obtain ⟨Z9, eZ9⟩ : ∃ x, u9.heap.size = x := ⟨_, rfl⟩
 rw [eZ9] at hb9
 obtain ⟨w9, e9⟩ : ∃ x, u9.alloc (.cells #[.int .i64 ff.around, .string (bs ff.name), .int .i64 ff.params, .slice As ff.vars.length csf, .int .i64 ff.mark] 48) = x := ⟨_, rfl⟩
 rw [e9] at hal9 hb9
 obtain ⟨y0, y1, y2, y3, y4, y5, y6, y7, y8, y9, y10, y11⟩ := HCB3.out w9 hal9
 obtain ⟨b0, b1, b2, b3, b4⟩ := (box_facts hb9).1
 have HB9 := Lib.hid (And.intro hal9 hb9)
 clear hal9 hb9
 go_wp2_with fail
 go_at_call 107
 refine (HI.out w9 _ _ (HQ.out.1.below HB9.out.1)).mono ?_
 rintro e u3 ⟨rfl, hb3⟩
 have HB3 := Lib.hid (HB9.out.1.trans (hb3.mono HB9.out.1.size))
 have hc3 := (box_facts ((hb3.block Z9 (heap_lt HB9.out.2)).trans HB9.out.2)).1
 clear hb3 b0 b1 b2 b3 b4 z0 z1 z2 z3 z4 z5 z6 z7 z8 z9 z10 z11 y0 y1 y2 y3 y4 y5 y6 y7 y8 y9 y10 y11
 obtain ⟨b0, b1, b2, b3, b4⟩ := hc3
 obtain ⟨z0, z1, z2, z3, z4, z5, z6, z7, z8, z9, z10, z11⟩ := HCB3.out u3 HB3.out
 have HA3 := Lib.hid (fun w (hb : Below u9.heap.size u9 w) => (show Calls Tryz.prog 104 #[.pointer (some ⟨Mb, 0, none⟩), .agg #[.int .i64 pf, .int .i64 pth, .bool ptg], .slice (some ⟨w.heap.size, 0, none⟩) 1 1] (w.alloc (.cells #[.int .i64 2, .int .i64 0, .int .i64 x, .int .i64 0, .int .i64 0, .int .i64 (jf : Nat), .int .i64 0, .string ⟨#[]⟩, .slice none 0 0] 44)) (AddQ W0 Mb fB X fv fsv u9 rv5 ((rs ++ [((⟨2, 0, k, 0, 0, (jf : Nat), 0, [], []⟩ : Ru)).at_ pf]) ++ [((⟨2, 0, x, 0, 0, (jf : Nat), 0, [], []⟩ : Ru)).at_ pf])) from add_one HQ.out.1 hb ⟨pf, pth, ptg⟩ ((⟨2, 0, x, 0, 0, (jf : Nat), 0, [], []⟩ : Ru)) (.slice none 0 0) (IntsF.nil _ _) (by simp) (by simp; omega)))
 have HBd := Lib.hid (HB3.out.trans ((drew_below u3).mono HB3.out.size))
 have HSE := Lib.hid (HCB3.out u3.drew HBd.out)
 go_upto_region 6 with fail
 go_region_held3 (fun w' => w'.cell? ⟨Mb, 0, none⟩ = some (.slice (some ⟨gf, 0, none⟩) X.F.length cf) ∧ w'.cell? ⟨gf, jf * 5, none⟩ = some (.int .i64 ff.around) ∧ w'.cell? ⟨gf, jf * 5 + 1, none⟩ = some (.string (bs ff.name)) ∧ w'.cell? ⟨gf, jf * 5 + 2, none⟩ = some (.int .i64 ff.params) ∧ w'.cell? ⟨gf, jf * 5 + 3, none⟩ = some (.slice As ff.vars.length csf) ∧ w'.cell? ⟨gf, jf * 5 + 4, none⟩ = some (.int .i64 ff.mark) ∧ w'.cell? ⟨N, 1, none⟩ = some (.string (bs t.s)) ∧ w'.cell? ⟨N, 2, none⟩ = some (.int .i64 (jf : Nat)) ∧ w'.cell? ⟨N, 5, none⟩ = some (.int .i64 k) ∧ w'.cell? ⟨N + 1, 0, none⟩ = some (.int .i64 pf) ∧ w'.cell? ⟨N + 1, 1, none⟩ = some (.int .i64 pth) ∧ w'.cell? ⟨N + 1, 2, none⟩ = some (.bool ptg))
  (first | go_keep | exact HSE.out | exact HSu4.out | exact HTu4.out | exact HS10.out)
  (first
   | (go_at_call 108; refine (HO.out u3.drew _ _ (HQ.out.1.below HBd.out)).mono ?_; rintro e u4 ⟨rfl, hb4⟩; have HBu4 := Lib.hid (HBd.out.trans (hb4.mono HBd.out.size)); have HSu4 := Lib.hid (HCB3.out u4 HBu4.out); have HTu4 := Lib.hid (HCB3.out (u4.alloc (.cells #[.int .i64 2, .int .i64 0, .int .i64 x, .int .i64 0, .int .i64 0, .int .i64 (jf : Nat), .int .i64 0, .string ⟨#[]⟩, .slice none 0 0] 44)) (HBu4.out.trans ((below_alloc9 u4 _).mono HBu4.out.size))); clear hb4)
   | (go_at_call 104; refine (HA3.out u4 HBu4.out).mono ?_; rintro e v9 ⟨⟨v1, rfl⟩, rv6, hm6, ho6, hn6⟩; have HS10 := Lib.hid (HC.out v9 rv6 _ hm6 (mk_only HQ.out.2.1 HQ.out.2.2 ho6)); have HR := Lib.hid (And.intro hm6 (And.intro (mk_only HQ.out.2.1 HQ.out.2.2 ho6) (mk_new HQ.out.2.1 HQ.out.2.2 hn6))); clear hm6 ho6 hn6))
 all_goals
  go_wp2
  go_end0
  refine AddQ.pre HM.out.1 HM.out.2 ⟨⟨_, rfl⟩, rv6, ?_, HR.out.2⟩
  have h9 := HR.out.1
  rw [List.append_assoc] at h9
  exact h9
end
end Go.Proofs.YtikbfoichhkeaaaGreat
