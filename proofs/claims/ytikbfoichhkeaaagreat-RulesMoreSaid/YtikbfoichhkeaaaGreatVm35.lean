/- rules: set. -/
import Derived.Test.YtikbfoichhkeaaaGreatVm28
set_option linter.unusedSimpArgs false
set_option linter.unusedVariables false
set_option maxRecDepth 100000
set_option maxHeartbeats 40000000
namespace Go.Proofs.YtikbfoichhkeaaaGreat
section
open Go.RowKit Go.Proofs
theorem m_set1 {W0 W : World} {Mb fB : Nat} {X : Cx} {fv fsv rv : Value} {rs : List Ru} (hX : CxOK X) (hM : MkAt W0 W Mb fB X fv fsv rv rs) {S : Nat → Prop} {t : Tr} {k : Nat} {cs : List Value} (ht : NtP W S t k cs) (hS : ∀ i, S i → i < W.heap.size ∧ ¬ mkF Mb rv i)  (hn : 2 ≤ t.l.length) (pf pth : Int) (ptg : Bool) (hop : (t.part 0).op = 1) {j i : Nat} {f : Fn} {s : FS} (hv : VarOK X (t.part 0).n j i f s) (hr : rs.length ≤ 600000) :
  Calls Tryz.prog 67 #[.pointer (some ⟨Mb, 0, none⟩), .agg cs.toArray, .agg #[.int .i64 pf, .int .i64 pth, .bool ptg]] W (AddQ W0 Mb fB X fv fsv W rv (rs ++ ([(subR (partK t k 1) (X.var (t.part 0).n)).at_ pf] ++ [(subR (partK t k 1) k).at_ pf]))) := by
 obtain ⟨A0, n0, c0, A, c, rfl, htc, hrow⟩ := (NtP_eq _ _ _ _ _).1 ht
 obtain ⟨gp, rfl, hgp, hNL⟩ := hrow (by omega)
 obtain ⟨ln, hln⟩ : ∃ x, t.l.length = x := ⟨_, rfl⟩
 have htc2 : ln ≤ c ∧ c ≤ 9223372036854775807 := by rw [← hln]; exact ⟨htc.1, htc.2.1⟩
 obtain ⟨htc3, htc4⟩ := htc2
 have gi0 : (0 : Int) < ln := by omega
 have gn0 : 0 < ln := by omega
 have gi1 : (1 : Int) < ln := by omega
 have gn1 : 1 < ln := by omega
 obtain ⟨q0, hq0⟩ : ∃ x, t.l[0]? = some x := ⟨_, List.getElem?_eq_getElem (by omega)⟩
 obtain ⟨cs0, hcs0, hcc0⟩ := NtL.get t.l (k + 1) gp 0 0 q0 hNL hq0
 obtain ⟨Aa0, na0, ca0, Bv0, bc0, rfl, hf0, hr0⟩ := (NtP_eq _ _ _ _ _).1 hcs0
 obtain ⟨ek0, hek0⟩ : ∃ x : Int, ((k + 1 + sizes (t.l.take 0) + q0.size : Nat) : Int) = x := ⟨_, rfl⟩
 obtain ⟨kp0, hkp0⟩ : ∃ x, partK t k 0 = x := ⟨_, rfl⟩
 rw [hek0, show ((k + 1 + sizes (t.l.take 0) : Nat) : Int) = kp0 from hkp0] at hcc0
 obtain ⟨ql0, hql0⟩ : ∃ x, q0.l.length = x := ⟨_, rfl⟩
 rw [hql0] at hcc0
 have ep0 := fun j (hj : j < 8) => hcc0 j hj
 simp only [Nat.zero_add] at ep0
 obtain ⟨q1, hq1⟩ : ∃ x, t.l[1]? = some x := ⟨_, List.getElem?_eq_getElem (by omega)⟩
 obtain ⟨cs1, hcs1, hcc1⟩ := NtL.get t.l (k + 1) gp 0 1 q1 hNL hq1
 obtain ⟨Aa1, na1, ca1, Bv1, bc1, rfl, hf1, hr1⟩ := (NtP_eq _ _ _ _ _).1 hcs1
 obtain ⟨ek1, hek1⟩ : ∃ x : Int, ((k + 1 + sizes (t.l.take 1) + q1.size : Nat) : Int) = x := ⟨_, rfl⟩
 obtain ⟨kp1, hkp1⟩ : ∃ x, partK t k 1 = x := ⟨_, rfl⟩
 rw [hek1, show ((k + 1 + sizes (t.l.take 1) : Nat) : Int) = kp1 from hkp1] at hcc1
 rw [hkp1]
 obtain ⟨ql1, hql1⟩ : ∃ x, q1.l.length = x := ⟨_, rfl⟩
 rw [hql1] at hcc1
 have ep1 := fun j (hj : j < 8) => hcc1 j hj
 simp only [Nat.zero_add] at ep1
 obtain ⟨ek, hek⟩ : ∃ x, k + t.size = x := ⟨_, rfl⟩
 rw [hek, hln]
 unfold ntV
 obtain ⟨hal, hb0, hb1, hz2⟩ := alloc2 W (.cells #[.int .i64 t.op, .string (bs t.s), .int .i64 t.n, .slice A0 n0 c0, .int .i64 t.line, .int .i64 k, .int .i64 ek, .slice (some ⟨gp, 0, none⟩) ln c] 92) (.cells #[.int .i64 pf, .int .i64 pth, .bool ptg] 94)
 obtain ⟨W2, e2⟩ : ∃ x, (W.alloc (.cells #[.int .i64 t.op, .string (bs t.s), .int .i64 t.n, .slice A0 n0 c0, .int .i64 t.line, .int .i64 k, .int .i64 ek, .slice (some ⟨gp, 0, none⟩) ln c] 92)).alloc (.cells #[.int .i64 pf, .int .i64 pth, .bool ptg] 94) = x := ⟨_, rfl⟩
 rw [e2] at hal hb0 hb1 hz2
 have hM2 := hM.below hal
 obtain ⟨N, eN⟩ : ∃ x, W.heap.size = x := ⟨_, rfl⟩
 rw [eN] at hb0 hb1 hz2
 rw [show t.part 0 = q0 by unfold Tr.part; rw [hq0]; rfl] at hop hv ⊢
 have hnN : ∀ i, N ≤ i → ¬ mkF Mb rv i := fun i hi h => by
  rcases h with h | h
  ·have := hM.lt; omega
  ·have := (hM.row.own i h).2; omega
 have hSN : ∀ i, S i → i < W2.heap.size ∧ ¬ mkF Mb rv i ∧ W2.heap[i]? = W.heap[i]? := fun i hi => ⟨by have := (hS i hi).1; omega, (hS i hi).2, hal.block i (hS i hi).1⟩
 have hcell : ∀ w' rv' rs', MkAt W0 w' Mb fB X fv fsv rv' rs' → Only (mkF Mb rv) W2 w' → (w'.cell? ⟨gp, 0, none⟩ = some (.int .i64 q0.op) ∧ w'.cell? ⟨gp, 1, none⟩ = some (.string (bs q0.s)) ∧ w'.cell? ⟨gp, 2, none⟩ = some (.int .i64 q0.n) ∧ w'.cell? ⟨gp, 3, none⟩ = some (.slice Aa0 na0 ca0) ∧ w'.cell? ⟨gp, 4, none⟩ = some (.int .i64 q0.line) ∧ w'.cell? ⟨gp, 5, none⟩ = some (.int .i64 kp0) ∧ w'.cell? ⟨gp, 6, none⟩ = some (.int .i64 ek0) ∧ w'.cell? ⟨gp, 7, none⟩ = some (.slice Bv0 ql0 bc0) ∧ w'.cell? ⟨gp, 13, none⟩ = some (.int .i64 kp1) ∧ w'.cell? ⟨N, 7, none⟩ = some (.slice (some ⟨gp, 0, none⟩) ln c)) := fun w' rv' rs' hm hb => by
  have h0 := (box8 ((hb.block N (heap_lt hb0) (hnN N (Nat.le_refl _))).trans hb0)).1
  have h1 := box3c ((hb.block (N + 1) (heap_lt hb1) (hnN (N + 1) (by omega))).trans hb1)
  have hpc : ∀ g j v, S g → W.cell? ⟨g, j, none⟩ = some v → w'.cell? ⟨g, j, none⟩ = some v := fun g j v hg h => (cell_block ((hb.block g (hSN g hg).1 (hSN g hg).2.1).trans (hSN g hg).2.2) ⟨g, j, none⟩ rfl).trans h
  exact ⟨hpc gp 0 _ hgp (ep0 0 (by omega)), hpc gp 1 _ hgp (ep0 1 (by omega)), hpc gp 2 _ hgp (ep0 2 (by omega)), hpc gp 3 _ hgp (ep0 3 (by omega)), hpc gp 4 _ hgp (ep0 4 (by omega)), hpc gp 5 _ hgp (ep0 5 (by omega)), hpc gp 6 _ hgp (ep0 6 (by omega)), hpc gp 7 _ hgp (ep0 7 (by omega)), hpc gp 13 _ hgp (ep1 5 (by omega)), h0.2.2.2.2.2.2.2⟩
 have hMB := fun w (hb : Below W2.heap.size W2 w) => hM2.below hb
 have HMB2 := Lib.hid hMB
 have HC2 := Lib.hid hcell
 have HCB2 := Lib.hid (fun w (hb : Below W2.heap.size W2 w) => hcell w rv rs (hMB w hb) (Only.of_below hb))
 have HS02 := Lib.hid (hcell W2 rv rs hM2 (Only.refl _ _))
 have HSD2 := Lib.hid (hcell W2.drew rv rs (hM2.below (drew_below W2)) (Only.of_below (drew_below W2)))
 obtain ⟨x0, x1, x2, x3, x4, x5, x6, x7, x8, x9⟩ := HS02.out
 have HSl2 := Lib.hid (hcell (W2.drew.alloc (.cells #[.int .i64 q0.op, .string (bs q0.s), .int .i64 q0.n, .slice Aa0 na0 ca0, .int .i64 q0.line, .int .i64 kp0, .int .i64 ek0, .slice Bv0 ql0 bc0] 92)) rv rs ((hM2.below (drew_below W2)).below (below_alloc9 W2.drew _)) (Only.of_below ((drew_below W2).trans (below_alloc9 W2.drew _))))
 have HM2 := Lib.hid (And.intro hM hal)
 have hal3 : Below W2.heap.size W2 (W2.drew.alloc (.cells #[.int .i64 q0.op, .string (bs q0.s), .int .i64 q0.n, .slice Aa0 na0 ca0, .int .i64 q0.line, .int .i64 kp0, .int .i64 ek0, .slice Bv0 ql0 bc0] 92)) := (drew_below W2).trans (below_alloc9 W2.drew _)
 have hb3 := heap_alloc_new W2.drew (.cells #[.int .i64 q0.op, .string (bs q0.s), .int .i64 q0.n, .slice Aa0 na0 ca0, .int .i64 q0.line, .int .i64 kp0, .int .i64 ek0, .slice Bv0 ql0 bc0] 92)
 rw [show W2.drew.heap.size = N + 2 from hz2] at hb3
 obtain ⟨W3, e3⟩ : ∃ x, W2.drew.alloc (.cells #[.int .i64 q0.op, .string (bs q0.s), .int .i64 q0.n, .slice Aa0 na0 ca0, .int .i64 q0.line, .int .i64 kp0, .int .i64 ek0, .slice Bv0 ql0 bc0] 92) = x := ⟨_, rfl⟩
 have hz3 : W3.heap.size = N + 3 := by rw [← e3, World.size_alloc]; show W2.heap.size + 1 = _; rw [hz2]
 rw [e3] at hal3 hb3
 have hM3 := hM2.below hal3
 have hcell3 : ∀ w' rv' rs', MkAt W0 w' Mb fB X fv fsv rv' rs' → Only (mkF Mb rv) W3 w' → (w'.cell? ⟨N + 2, 0, none⟩ = some (.int .i64 q0.op) ∧ w'.cell? ⟨N + 2, 2, none⟩ = some (.int .i64 q0.n) ∧ w'.cell? ⟨N, 5, none⟩ = some (.int .i64 k) ∧ w'.cell? ⟨N + 1, 0, none⟩ = some (.int .i64 pf) ∧ w'.cell? ⟨N + 1, 1, none⟩ = some (.int .i64 pth) ∧ w'.cell? ⟨N + 1, 2, none⟩ = some (.bool ptg)) := fun w' rv' rs' hm hb => by
  have h2 := (box8 ((hb.block (N + 2) (heap_lt hb3) (hnN (N + 2) (by omega))).trans hb3)).1
  have hb2 : Only (mkF Mb rv) W2 w' := (Only.of_below hal3).trans' hb
  have h0 := (box8 ((hb2.block N (heap_lt hb0) (hnN N (Nat.le_refl _))).trans hb0)).1
  have h1 := box3c ((hb2.block (N + 1) (heap_lt hb1) (hnN (N + 1) (by omega))).trans hb1)
  have hpc : ∀ g j v, S g → W.cell? ⟨g, j, none⟩ = some v → w'.cell? ⟨g, j, none⟩ = some v := fun g j v hg h => (cell_block ((hb2.block g (hSN g hg).1 (hSN g hg).2.1).trans (hSN g hg).2.2) ⟨g, j, none⟩ rfl).trans h
  exact ⟨h2.1, h2.2.2.1, h0.2.2.2.2.2.1, h1.1, h1.2.1, h1.2.2⟩
 have hMB3 := fun w (hb : Below W3.heap.size W3 w) => hM3.below hb
 have HMB := Lib.hid hMB3
 have HC := Lib.hid hcell3
 have HCB := Lib.hid (fun w (hb : Below W3.heap.size W3 w) => hcell3 w rv rs (hMB3 w hb) (Only.of_below hb))
 have HS0 := Lib.hid (hcell3 W3 rv rs hM3 (Only.refl _ _))
 have HSD := Lib.hid (hcell3 W3.drew rv rs (hM3.below (drew_below W3)) (Only.of_below (drew_below W3)))
 obtain ⟨y0, y1, y2, y3, y4, y5⟩ := HS0.out
 have HM := Lib.hid (And.intro hM (hal.trans (hal3.mono hal.size)))
 have d1 : (q0.op == 1) = true := by rw [hop]; rfl
 obtain ⟨x, hx⟩ : ∃ x, X.var q0.n = x := ⟨_, rfl⟩
 have hV := fun w (hb : Below W3.heap.size W3 w) => variable_ok hX (hM3.below hb) hv
 rw [hx] at hV ⊢
 have HV := Lib.hid hV
 have HA := Lib.hid (fun w (hb : Below W3.heap.size W3 w) => (show Calls Tryz.prog 104 #[.pointer (some ⟨Mb, 0, none⟩), .agg #[.int .i64 pf, .int .i64 pth, .bool ptg], .slice (some ⟨w.heap.size, 0, none⟩) 1 1] (w.alloc (.cells #[.int .i64 3, .int .i64 0, .int .i64 kp1, .int .i64 x, .int .i64 0, .int .i64 0, .int .i64 0, .string ⟨#[]⟩, .slice none 0 0] 44)) (AddQ W0 Mb fB X fv fsv W3 rv (rs ++ [(subR kp1 x).at_ pf])) from add_one hM3 hb ⟨pf, pth, ptg⟩ (subR kp1 x) (.slice none 0 0) (IntsF.nil _ _) (by simp [subR]) (by omega)))
 clear hcell hnN hSN hMB hM hM2 hal hb0 hb1 hX ht htc hrow hS hek hop hv hV hNL hgp hM3 hal3 hb3 hcell3 hMB3 hn hln hq0 hcs0 hcc0 hf0 hr0 hek0 ep0 hkp0 hql0 hq1 hcs1 hcc1 hf1 hr1 hek1 ep1 hkp1 hql1
 go_enter Tryz.func67, Tryz.ntmps67
 go_upto_region 1 with fail
 go_region_held3 (fun w' => w'.cell? ⟨gp, 0, none⟩ = some (.int .i64 q0.op) ∧ w'.cell? ⟨gp, 1, none⟩ = some (.string (bs q0.s)) ∧ w'.cell? ⟨gp, 2, none⟩ = some (.int .i64 q0.n) ∧ w'.cell? ⟨gp, 3, none⟩ = some (.slice Aa0 na0 ca0) ∧ w'.cell? ⟨gp, 4, none⟩ = some (.int .i64 q0.line) ∧ w'.cell? ⟨gp, 5, none⟩ = some (.int .i64 kp0) ∧ w'.cell? ⟨gp, 6, none⟩ = some (.int .i64 ek0) ∧ w'.cell? ⟨gp, 7, none⟩ = some (.slice Bv0 ql0 bc0) ∧ w'.cell? ⟨gp, 13, none⟩ = some (.int .i64 kp1) ∧ w'.cell? ⟨N, 7, none⟩ = some (.slice (some ⟨gp, 0, none⟩) ln c))
  (first | go_keep | exact HSD2.out | exact HSl2.out)
  (first
   | fail)
 first | rw [e3] | rw [show (W2.alloc (.cells #[.int .i64 q0.op, .string (bs q0.s), .int .i64 q0.n, .slice Aa0 na0 ca0, .int .i64 q0.line, .int .i64 kp0, .int .i64 ek0, .slice Bv0 ql0 bc0] 92)).drew = W3 from e3] | skip
 clear x0 x1 x2 x3 x4 x5 x6 x7 x8 x9
 go_upto_region 4 with fail
 go_region_held3 (fun w' => w'.cell? ⟨N + 2, 0, none⟩ = some (.int .i64 q0.op) ∧ w'.cell? ⟨N + 2, 2, none⟩ = some (.int .i64 q0.n) ∧ w'.cell? ⟨N, 5, none⟩ = some (.int .i64 k) ∧ w'.cell? ⟨N + 1, 0, none⟩ = some (.int .i64 pf) ∧ w'.cell? ⟨N + 1, 1, none⟩ = some (.int .i64 pth) ∧ w'.cell? ⟨N + 1, 2, none⟩ = some (.bool ptg))
  (first | go_keep | exact HSD.out | exact HSu3.out | exact HSu4.out | exact HTu4.out | exact HS9.out)
  (first
   | (go_at_call 106; refine (HV.out W3.drew (drew_below W3)).mono ?_; rintro e u3 ⟨rfl, hbu3⟩; have HBu3 := Lib.hid (below_of_drew hbu3); have HSu3 := Lib.hid (HCB.out u3 HBu3.out); clear hbu3)
   | (go_at_call 105; refine (sub_any kp1 x u3).mono ?_; rintro e u4 ⟨rfl, hbu4⟩; have HBu4 := Lib.hid (HBu3.out.trans (hbu4.mono HBu3.out.size)); have HSu4 := Lib.hid (HCB.out u4 HBu4.out); have HTu4 := Lib.hid (HCB.out (u4.alloc (.cells #[.int .i64 3, .int .i64 0, .int .i64 kp1, .int .i64 x, .int .i64 0, .int .i64 0, .int .i64 0, .string ⟨#[]⟩, .slice none 0 0] 44)) (HBu4.out.trans ((below_alloc9 u4 _).mono HBu4.out.size))); clear hbu4)
   | (go_at_call 104; refine (HA.out u4 HBu4.out).mono ?_; rintro e u9 ⟨⟨v0, rfl⟩, rv5, hm5, ho5, hn5⟩; have HS9 := Lib.hid (HC.out u9 rv5 _ hm5 ho5); have HQ := Lib.hid (And.intro hm5 (And.intro ho5 hn5)); clear hm5 ho5 hn5))
 clear y0 y1 y2 y3 y4 y5
 have HCB3 := Lib.hid (fun w (hb : Below u9.heap.size u9 w) => HC.out w rv5 _ (HQ.out.1.below hb) (HQ.out.2.1.trans' (Only.of_below hb)))
 have HSE2 := Lib.hid (HCB3.out u9.drew (drew_below u9))
 obtain ⟨z0, z1, z2, z3, z4, z5⟩ := HS9.out
 have HA2 := Lib.hid (fun w (hb : Below u9.heap.size u9 w) => (show Calls Tryz.prog 104 #[.pointer (some ⟨Mb, 0, none⟩), .agg #[.int .i64 pf, .int .i64 pth, .bool ptg], .slice (some ⟨w.heap.size, 0, none⟩) 1 1] (w.alloc (.cells #[.int .i64 3, .int .i64 0, .int .i64 kp1, .int .i64 k, .int .i64 0, .int .i64 0, .int .i64 0, .string ⟨#[]⟩, .slice none 0 0] 44)) (AddQ W0 Mb fB X fv fsv u9 rv5 ((rs ++ [(subR kp1 x).at_ pf]) ++ [(subR kp1 k).at_ pf])) from add_one HQ.out.1 hb ⟨pf, pth, ptg⟩ (subR kp1 k) (.slice none 0 0) (IntsF.nil _ _) (by simp [subR]) (by simp; omega)))
 go_upto_region 9 with fail
 go_region_held3 (fun w' => w'.cell? ⟨N + 2, 0, none⟩ = some (.int .i64 q0.op) ∧ w'.cell? ⟨N + 2, 2, none⟩ = some (.int .i64 q0.n) ∧ w'.cell? ⟨N, 5, none⟩ = some (.int .i64 k) ∧ w'.cell? ⟨N + 1, 0, none⟩ = some (.int .i64 pf) ∧ w'.cell? ⟨N + 1, 1, none⟩ = some (.int .i64 pth) ∧ w'.cell? ⟨N + 1, 2, none⟩ = some (.bool ptg))
  (first | go_keep | exact HSE2.out | exact HSv3.out | exact HTv3.out | exact HS10.out)
  (first
   | (go_at_call 105; refine (sub_any kp1 k u9.drew).mono ?_; rintro e v3 ⟨rfl, hbv3⟩; have HBv3 := Lib.hid (below_of_drew hbv3); have HSv3 := Lib.hid (HCB3.out v3 HBv3.out); have HTv3 := Lib.hid (HCB3.out (v3.alloc (.cells #[.int .i64 3, .int .i64 0, .int .i64 kp1, .int .i64 k, .int .i64 0, .int .i64 0, .int .i64 0, .string ⟨#[]⟩, .slice none 0 0] 44)) (HBv3.out.trans ((below_alloc9 v3 _).mono HBv3.out.size))); clear hbv3)
   | (go_at_call 104; refine (HA2.out v3 HBv3.out).mono ?_; rintro e v9 ⟨⟨v1, rfl⟩, rv6, hm6, ho6, hn6⟩; have HS10 := Lib.hid (HC.out v9 rv6 _ hm6 (mk_only HQ.out.2.1 HQ.out.2.2 ho6)); have HR := Lib.hid (And.intro hm6 (And.intro (mk_only HQ.out.2.1 HQ.out.2.2 ho6) (mk_new HQ.out.2.1 HQ.out.2.2 hn6))); clear hm6 ho6 hn6))
 all_goals
  go_wp2
  go_end0
  refine AddQ.pre HM.out.1 HM.out.2 ⟨⟨_, rfl⟩, rv6, ?_, HR.out.2⟩
  have h9 := HR.out.1
  rw [List.append_assoc] at h9
  exact h9
theorem m_set13 {W0 W : World} {Mb fB : Nat} {X : Cx} {fv fsv rv : Value} {rs : List Ru} (hX : CxOK X) (hM : MkAt W0 W Mb fB X fv fsv rv rs) {S : Nat → Prop} {t : Tr} {k : Nat} {cs : List Value} (ht : NtP W S t k cs) (hS : ∀ i, S i → i < W.heap.size ∧ ¬ mkF Mb rv i)  (hn : 2 ≤ t.l.length) (pf pth : Int) (ptg : Bool) (hop : (t.part 0).op = 13) (hgr : 0 < (t.part 0).l.length) (hr : rs.length ≤ 600000) :
  Calls Tryz.prog 67 #[.pointer (some ⟨Mb, 0, none⟩), .agg cs.toArray, .agg #[.int .i64 pf, .int .i64 pth, .bool ptg]] W (AddQ W0 Mb fB X fv fsv W rv (rs ++ ([((⟨6, 0, partK t k 0 + 1, partK t k 1, 0, 0, 0, (t.part 0).s, []⟩ : Ru)).at_ pf] ++ [(subR (partK t k 1) k).at_ pf]))) := by
 obtain ⟨A0, n0, c0, A, c, rfl, htc, hrow⟩ := (NtP_eq _ _ _ _ _).1 ht
 obtain ⟨gp, rfl, hgp, hNL⟩ := hrow (by omega)
 obtain ⟨ln, hln⟩ : ∃ x, t.l.length = x := ⟨_, rfl⟩
 have htc2 : ln ≤ c ∧ c ≤ 9223372036854775807 := by rw [← hln]; exact ⟨htc.1, htc.2.1⟩
 obtain ⟨htc3, htc4⟩ := htc2
 have gi0 : (0 : Int) < ln := by omega
 have gn0 : 0 < ln := by omega
 have gi1 : (1 : Int) < ln := by omega
 have gn1 : 1 < ln := by omega
 obtain ⟨q0, hq0⟩ : ∃ x, t.l[0]? = some x := ⟨_, List.getElem?_eq_getElem (by omega)⟩
 obtain ⟨cs0, hcs0, hcc0⟩ := NtL.get t.l (k + 1) gp 0 0 q0 hNL hq0
 obtain ⟨Aa0, na0, ca0, Bv0, bc0, rfl, hf0, hr0⟩ := (NtP_eq _ _ _ _ _).1 hcs0
 obtain ⟨ek0, hek0⟩ : ∃ x : Int, ((k + 1 + sizes (t.l.take 0) + q0.size : Nat) : Int) = x := ⟨_, rfl⟩
 obtain ⟨kp0, hkp0⟩ : ∃ x, partK t k 0 = x := ⟨_, rfl⟩
 rw [hek0, show ((k + 1 + sizes (t.l.take 0) : Nat) : Int) = kp0 from hkp0] at hcc0
 rw [hkp0]
 obtain ⟨ql0, hql0⟩ : ∃ x, q0.l.length = x := ⟨_, rfl⟩
 rw [hql0] at hcc0
 have ep0 := fun j (hj : j < 8) => hcc0 j hj
 simp only [Nat.zero_add] at ep0
 obtain ⟨q1, hq1⟩ : ∃ x, t.l[1]? = some x := ⟨_, List.getElem?_eq_getElem (by omega)⟩
 obtain ⟨cs1, hcs1, hcc1⟩ := NtL.get t.l (k + 1) gp 0 1 q1 hNL hq1
 obtain ⟨Aa1, na1, ca1, Bv1, bc1, rfl, hf1, hr1⟩ := (NtP_eq _ _ _ _ _).1 hcs1
 obtain ⟨ek1, hek1⟩ : ∃ x : Int, ((k + 1 + sizes (t.l.take 1) + q1.size : Nat) : Int) = x := ⟨_, rfl⟩
 obtain ⟨kp1, hkp1⟩ : ∃ x, partK t k 1 = x := ⟨_, rfl⟩
 rw [hek1, show ((k + 1 + sizes (t.l.take 1) : Nat) : Int) = kp1 from hkp1] at hcc1
 rw [hkp1]
 obtain ⟨ql1, hql1⟩ : ∃ x, q1.l.length = x := ⟨_, rfl⟩
 rw [hql1] at hcc1
 have ep1 := fun j (hj : j < 8) => hcc1 j hj
 simp only [Nat.zero_add] at ep1
 obtain ⟨ek, hek⟩ : ∃ x, k + t.size = x := ⟨_, rfl⟩
 rw [hek, hln]
 unfold ntV
 obtain ⟨hal, hb0, hb1, hz2⟩ := alloc2 W (.cells #[.int .i64 t.op, .string (bs t.s), .int .i64 t.n, .slice A0 n0 c0, .int .i64 t.line, .int .i64 k, .int .i64 ek, .slice (some ⟨gp, 0, none⟩) ln c] 92) (.cells #[.int .i64 pf, .int .i64 pth, .bool ptg] 94)
 obtain ⟨W2, e2⟩ : ∃ x, (W.alloc (.cells #[.int .i64 t.op, .string (bs t.s), .int .i64 t.n, .slice A0 n0 c0, .int .i64 t.line, .int .i64 k, .int .i64 ek, .slice (some ⟨gp, 0, none⟩) ln c] 92)).alloc (.cells #[.int .i64 pf, .int .i64 pth, .bool ptg] 94) = x := ⟨_, rfl⟩
 rw [e2] at hal hb0 hb1 hz2
 have hM2 := hM.below hal
 obtain ⟨N, eN⟩ : ∃ x, W.heap.size = x := ⟨_, rfl⟩
 rw [eN] at hb0 hb1 hz2
 rw [show t.part 0 = q0 by unfold Tr.part; rw [hq0]; rfl] at hop hgr ⊢
 have hnN : ∀ i, N ≤ i → ¬ mkF Mb rv i := fun i hi h => by
  rcases h with h | h
  ·have := hM.lt; omega
  ·have := (hM.row.own i h).2; omega
 have hSN : ∀ i, S i → i < W2.heap.size ∧ ¬ mkF Mb rv i ∧ W2.heap[i]? = W.heap[i]? := fun i hi => ⟨by have := (hS i hi).1; omega, (hS i hi).2, hal.block i (hS i hi).1⟩
 have hcell : ∀ w' rv' rs', MkAt W0 w' Mb fB X fv fsv rv' rs' → Only (mkF Mb rv) W2 w' → (w'.cell? ⟨gp, 0, none⟩ = some (.int .i64 q0.op) ∧ w'.cell? ⟨gp, 1, none⟩ = some (.string (bs q0.s)) ∧ w'.cell? ⟨gp, 2, none⟩ = some (.int .i64 q0.n) ∧ w'.cell? ⟨gp, 3, none⟩ = some (.slice Aa0 na0 ca0) ∧ w'.cell? ⟨gp, 4, none⟩ = some (.int .i64 q0.line) ∧ w'.cell? ⟨gp, 5, none⟩ = some (.int .i64 kp0) ∧ w'.cell? ⟨gp, 6, none⟩ = some (.int .i64 ek0) ∧ w'.cell? ⟨gp, 7, none⟩ = some (.slice Bv0 ql0 bc0) ∧ w'.cell? ⟨gp, 13, none⟩ = some (.int .i64 kp1) ∧ w'.cell? ⟨N, 7, none⟩ = some (.slice (some ⟨gp, 0, none⟩) ln c)) := fun w' rv' rs' hm hb => by
  have h0 := (box8 ((hb.block N (heap_lt hb0) (hnN N (Nat.le_refl _))).trans hb0)).1
  have h1 := box3c ((hb.block (N + 1) (heap_lt hb1) (hnN (N + 1) (by omega))).trans hb1)
  have hpc : ∀ g j v, S g → W.cell? ⟨g, j, none⟩ = some v → w'.cell? ⟨g, j, none⟩ = some v := fun g j v hg h => (cell_block ((hb.block g (hSN g hg).1 (hSN g hg).2.1).trans (hSN g hg).2.2) ⟨g, j, none⟩ rfl).trans h
  exact ⟨hpc gp 0 _ hgp (ep0 0 (by omega)), hpc gp 1 _ hgp (ep0 1 (by omega)), hpc gp 2 _ hgp (ep0 2 (by omega)), hpc gp 3 _ hgp (ep0 3 (by omega)), hpc gp 4 _ hgp (ep0 4 (by omega)), hpc gp 5 _ hgp (ep0 5 (by omega)), hpc gp 6 _ hgp (ep0 6 (by omega)), hpc gp 7 _ hgp (ep0 7 (by omega)), hpc gp 13 _ hgp (ep1 5 (by omega)), h0.2.2.2.2.2.2.2⟩
 have hMB := fun w (hb : Below W2.heap.size W2 w) => hM2.below hb
 have HMB2 := Lib.hid hMB
 have HC2 := Lib.hid hcell
 have HCB2 := Lib.hid (fun w (hb : Below W2.heap.size W2 w) => hcell w rv rs (hMB w hb) (Only.of_below hb))
 have HS02 := Lib.hid (hcell W2 rv rs hM2 (Only.refl _ _))
 have HSD2 := Lib.hid (hcell W2.drew rv rs (hM2.below (drew_below W2)) (Only.of_below (drew_below W2)))
 obtain ⟨x0, x1, x2, x3, x4, x5, x6, x7, x8, x9⟩ := HS02.out
 have HSl2 := Lib.hid (hcell (W2.drew.alloc (.cells #[.int .i64 q0.op, .string (bs q0.s), .int .i64 q0.n, .slice Aa0 na0 ca0, .int .i64 q0.line, .int .i64 kp0, .int .i64 ek0, .slice Bv0 ql0 bc0] 92)) rv rs ((hM2.below (drew_below W2)).below (below_alloc9 W2.drew _)) (Only.of_below ((drew_below W2).trans (below_alloc9 W2.drew _))))
 have HM2 := Lib.hid (And.intro hM hal)
 have hal3 : Below W2.heap.size W2 (W2.drew.alloc (.cells #[.int .i64 q0.op, .string (bs q0.s), .int .i64 q0.n, .slice Aa0 na0 ca0, .int .i64 q0.line, .int .i64 kp0, .int .i64 ek0, .slice Bv0 ql0 bc0] 92)) := (drew_below W2).trans (below_alloc9 W2.drew _)
 have hb3 := heap_alloc_new W2.drew (.cells #[.int .i64 q0.op, .string (bs q0.s), .int .i64 q0.n, .slice Aa0 na0 ca0, .int .i64 q0.line, .int .i64 kp0, .int .i64 ek0, .slice Bv0 ql0 bc0] 92)
 rw [show W2.drew.heap.size = N + 2 from hz2] at hb3
 obtain ⟨W3, e3⟩ : ∃ x, W2.drew.alloc (.cells #[.int .i64 q0.op, .string (bs q0.s), .int .i64 q0.n, .slice Aa0 na0 ca0, .int .i64 q0.line, .int .i64 kp0, .int .i64 ek0, .slice Bv0 ql0 bc0] 92) = x := ⟨_, rfl⟩
 have hz3 : W3.heap.size = N + 3 := by rw [← e3, World.size_alloc]; show W2.heap.size + 1 = _; rw [hz2]
 rw [e3] at hal3 hb3
 have hM3 := hM2.below hal3
 have hcell3 : ∀ w' rv' rs', MkAt W0 w' Mb fB X fv fsv rv' rs' → Only (mkF Mb rv) W3 w' → (w'.cell? ⟨N + 2, 0, none⟩ = some (.int .i64 q0.op) ∧ w'.cell? ⟨N + 2, 7, none⟩ = some (.slice Bv0 ql0 bc0) ∧ w'.cell? ⟨N + 2, 1, none⟩ = some (.string (bs q0.s)) ∧ w'.cell? ⟨N, 5, none⟩ = some (.int .i64 k) ∧ w'.cell? ⟨N + 1, 0, none⟩ = some (.int .i64 pf) ∧ w'.cell? ⟨N + 1, 1, none⟩ = some (.int .i64 pth) ∧ w'.cell? ⟨N + 1, 2, none⟩ = some (.bool ptg)) := fun w' rv' rs' hm hb => by
  have h2 := (box8 ((hb.block (N + 2) (heap_lt hb3) (hnN (N + 2) (by omega))).trans hb3)).1
  have hb2 : Only (mkF Mb rv) W2 w' := (Only.of_below hal3).trans' hb
  have h0 := (box8 ((hb2.block N (heap_lt hb0) (hnN N (Nat.le_refl _))).trans hb0)).1
  have h1 := box3c ((hb2.block (N + 1) (heap_lt hb1) (hnN (N + 1) (by omega))).trans hb1)
  have hpc : ∀ g j v, S g → W.cell? ⟨g, j, none⟩ = some v → w'.cell? ⟨g, j, none⟩ = some v := fun g j v hg h => (cell_block ((hb2.block g (hSN g hg).1 (hSN g hg).2.1).trans (hSN g hg).2.2) ⟨g, j, none⟩ rfl).trans h
  exact ⟨h2.1, h2.2.2.2.2.2.2.2, h2.2.1, h0.2.2.2.2.2.1, h1.1, h1.2.1, h1.2.2⟩
 have hMB3 := fun w (hb : Below W3.heap.size W3 w) => hM3.below hb
 have HMB := Lib.hid hMB3
 have HC := Lib.hid hcell3
 have HCB := Lib.hid (fun w (hb : Below W3.heap.size W3 w) => hcell3 w rv rs (hMB3 w hb) (Only.of_below hb))
 have HS0 := Lib.hid (hcell3 W3 rv rs hM3 (Only.refl _ _))
 have HSD := Lib.hid (hcell3 W3.drew rv rs (hM3.below (drew_below W3)) (Only.of_below (drew_below W3)))
 obtain ⟨y0, y1, y2, y3, y4, y5, y6⟩ := HS0.out
 have HM := Lib.hid (And.intro hM (hal.trans (hal3.mono hal.size)))
 have d1 : (q0.op == 1) = false := by rw [hop]; rfl
 have d2 : (q0.op == 13) = true := by rw [hop]; rfl
 obtain ⟨gq, rfl, hgq, hNq⟩ := hr0 hgr
 obtain ⟨qq, hqq⟩ : ∃ x, q0.l[0]? = some x := ⟨_, List.getElem?_eq_getElem (by omega)⟩
 obtain ⟨cq, hcq, hccq⟩ := NtL.get q0.l (k + 1 + sizes (t.l.take 0) + 1) gq 0 0 qq hNq hqq
 have hzz : ((k + 1 + sizes (t.l.take 0) + 1 + sizes (q0.l.take 0) : Nat) : Int) = kp0 + 1 := by rw [← hkp0]; unfold partK; rw [List.take_zero, List.take_zero, sizes_nil]; omega
 obtain ⟨zq, hzq⟩ : ∃ x, kp0 + 1 = x := ⟨_, rfl⟩
 rw [hzq] at hzz ⊢
 have w5 : W.cell? ⟨gq, 5, none⟩ = some (.int .i64 zq) := by
  obtain ⟨a1, a2, a3, a4, a5, rfl, a6, a7⟩ := (NtP_eq _ _ _ _ _).1 hcq
  have h9 := hccq 5 (by omega)
  rw [hzz] at h9
  simpa [ntV] using h9
 have hq9 : 0 < ql0 := by rw [← hql0]; exact hgr
 have gq0 : (0 : Int) < ql0 := by omega
 have hcell4 : ∀ w' rv' rs', MkAt W0 w' Mb fB X fv fsv rv' rs' → Only (mkF Mb rv) W3 w' → (w'.cell? ⟨gq, 5, none⟩ = some (.int .i64 zq) ∧ w'.cell? ⟨N + 2, 0, none⟩ = some (.int .i64 q0.op) ∧ w'.cell? ⟨N + 2, 7, none⟩ = some (.slice (some ⟨gq, 0, none⟩) ql0 bc0) ∧ w'.cell? ⟨N + 2, 1, none⟩ = some (.string (bs q0.s)) ∧ w'.cell? ⟨N, 5, none⟩ = some (.int .i64 k) ∧ w'.cell? ⟨N + 1, 0, none⟩ = some (.int .i64 pf) ∧ w'.cell? ⟨N + 1, 1, none⟩ = some (.int .i64 pth) ∧ w'.cell? ⟨N + 1, 2, none⟩ = some (.bool ptg)) := fun w' rv' rs' hm hb => by
  have hb2 : Only (mkF Mb rv) W2 w' := (Only.of_below hal3).trans' hb
  exact ⟨(cell_block ((hb2.block gq (hSN gq hgq).1 (hSN gq hgq).2.1).trans (hSN gq hgq).2.2) ⟨gq, 5, none⟩ rfl).trans w5, hcell3 w' rv' rs' hm hb⟩
 clear HC HCB HS0 HSD
 have HC := Lib.hid hcell4
 have HCB := Lib.hid (fun w (hb : Below W3.heap.size W3 w) => hcell4 w rv rs (hMB3 w hb) (Only.of_below hb))
 have HS0 := Lib.hid (hcell4 W3 rv rs hM3 (Only.refl _ _))
 have HSD := Lib.hid (hcell4 W3.drew rv rs (hM3.below (drew_below W3)) (Only.of_below (drew_below W3)))
 clear y0 y1 y2 y3 y4 y5 y6
 obtain ⟨y0, y1, y2, y3, y4, y5, y6, y7⟩ := HS0.out
 have HA := Lib.hid (fun w (hb : Below W3.heap.size W3 w) => (show Calls Tryz.prog 104 #[.pointer (some ⟨Mb, 0, none⟩), .agg #[.int .i64 pf, .int .i64 pth, .bool ptg], .slice (some ⟨w.heap.size, 0, none⟩) 1 1] (w.alloc (.cells #[.int .i64 6, .int .i64 0, .int .i64 zq, .int .i64 kp1, .int .i64 0, .int .i64 0, .int .i64 0, .string (bs q0.s), .slice none 0 0] 44)) (AddQ W0 Mb fB X fv fsv W3 rv (rs ++ [((⟨6, 0, zq, kp1, 0, 0, 0, q0.s, []⟩ : Ru)).at_ pf])) from add_one hM3 hb ⟨pf, pth, ptg⟩ ((⟨6, 0, zq, kp1, 0, 0, 0, q0.s, []⟩ : Ru)) (.slice none 0 0) (IntsF.nil _ _) hf0.2.2.1 (by omega)))
 have HSl := Lib.hid (HCB.out (W3.drew.alloc (.cells #[.int .i64 6, .int .i64 0, .int .i64 zq, .int .i64 kp1, .int .i64 0, .int .i64 0, .int .i64 0, .string (bs q0.s), .slice none 0 0] 44)) ((drew_below W3).trans (below_alloc9 W3.drew _)))
 have hA2 := HA.out W3.drew (drew_below W3)
 rw [show W3.drew.heap.size = N + 3 from hz3] at hA2
 have HA3 := Lib.hid hA2
 clear hcell hnN hSN hMB hM hM2 hal hb0 hb1 hX ht htc hrow hS hek hA2 hop hgr hgq hNq hqq hcq hccq hzz hzq w5 hcell4 hNL hgp hM3 hal3 hb3 hcell3 hMB3 hn hln hq0 hcs0 hcc0 hf0 hr0 hek0 ep0 hkp0 hql0 hq1 hcs1 hcc1 hf1 hr1 hek1 ep1 hkp1 hql1
 go_enter Tryz.func67, Tryz.ntmps67
 go_upto_region 1 with fail
 go_region_held3 (fun w' => w'.cell? ⟨gp, 0, none⟩ = some (.int .i64 q0.op) ∧ w'.cell? ⟨gp, 1, none⟩ = some (.string (bs q0.s)) ∧ w'.cell? ⟨gp, 2, none⟩ = some (.int .i64 q0.n) ∧ w'.cell? ⟨gp, 3, none⟩ = some (.slice Aa0 na0 ca0) ∧ w'.cell? ⟨gp, 4, none⟩ = some (.int .i64 q0.line) ∧ w'.cell? ⟨gp, 5, none⟩ = some (.int .i64 kp0) ∧ w'.cell? ⟨gp, 6, none⟩ = some (.int .i64 ek0) ∧ w'.cell? ⟨gp, 7, none⟩ = some (.slice (some ⟨gq, 0, none⟩) ql0 bc0) ∧ w'.cell? ⟨gp, 13, none⟩ = some (.int .i64 kp1) ∧ w'.cell? ⟨N, 7, none⟩ = some (.slice (some ⟨gp, 0, none⟩) ln c))
  (first | go_keep | exact HSD2.out | exact HSl2.out)
  (first
   | fail)
 first | rw [e3] | rw [show (W2.alloc (.cells #[.int .i64 q0.op, .string (bs q0.s), .int .i64 q0.n, .slice Aa0 na0 ca0, .int .i64 q0.line, .int .i64 kp0, .int .i64 ek0, .slice (some ⟨gq, 0, none⟩) ql0 bc0] 92)).drew = W3 from e3] | skip
 clear x0 x1 x2 x3 x4 x5 x6 x7 x8 x9
 go_upto_region 6 with fail
 go_region_held3 (fun w' => w'.cell? ⟨gq, 5, none⟩ = some (.int .i64 zq) ∧ w'.cell? ⟨N + 2, 0, none⟩ = some (.int .i64 q0.op) ∧ w'.cell? ⟨N + 2, 7, none⟩ = some (.slice (some ⟨gq, 0, none⟩) ql0 bc0) ∧ w'.cell? ⟨N + 2, 1, none⟩ = some (.string (bs q0.s)) ∧ w'.cell? ⟨N, 5, none⟩ = some (.int .i64 k) ∧ w'.cell? ⟨N + 1, 0, none⟩ = some (.int .i64 pf) ∧ w'.cell? ⟨N + 1, 1, none⟩ = some (.int .i64 pth) ∧ w'.cell? ⟨N + 1, 2, none⟩ = some (.bool ptg))
  (first | go_keep | exact HSD.out | exact HSl.out | exact HS9.out)
  (first
   | (go_at_call 104; refine HA3.out.mono ?_; rintro e u9 ⟨⟨v0, rfl⟩, rv5, hm5, ho5, hn5⟩; have HS9 := Lib.hid (HC.out u9 rv5 _ hm5 ho5); have HQ := Lib.hid (And.intro hm5 (And.intro ho5 hn5)); clear hm5 ho5 hn5))
 clear y0 y1 y2 y3 y4 y5 y6 y7
 have HCB3 := Lib.hid (fun w (hb : Below u9.heap.size u9 w) => HC.out w rv5 _ (HQ.out.1.below hb) (HQ.out.2.1.trans' (Only.of_below hb)))
 have HSE2 := Lib.hid (HCB3.out u9.drew (drew_below u9))
 obtain ⟨z0, z1, z2, z3, z4, z5, z6, z7⟩ := HS9.out
 have HA2 := Lib.hid (fun w (hb : Below u9.heap.size u9 w) => (show Calls Tryz.prog 104 #[.pointer (some ⟨Mb, 0, none⟩), .agg #[.int .i64 pf, .int .i64 pth, .bool ptg], .slice (some ⟨w.heap.size, 0, none⟩) 1 1] (w.alloc (.cells #[.int .i64 3, .int .i64 0, .int .i64 kp1, .int .i64 k, .int .i64 0, .int .i64 0, .int .i64 0, .string ⟨#[]⟩, .slice none 0 0] 44)) (AddQ W0 Mb fB X fv fsv u9 rv5 ((rs ++ [((⟨6, 0, zq, kp1, 0, 0, 0, q0.s, []⟩ : Ru)).at_ pf]) ++ [(subR kp1 k).at_ pf])) from add_one HQ.out.1 hb ⟨pf, pth, ptg⟩ (subR kp1 k) (.slice none 0 0) (IntsF.nil _ _) (by simp [subR]) (by simp; omega)))
 go_upto_region 9 with fail
 go_region_held3 (fun w' => w'.cell? ⟨gq, 5, none⟩ = some (.int .i64 zq) ∧ w'.cell? ⟨N + 2, 0, none⟩ = some (.int .i64 q0.op) ∧ w'.cell? ⟨N + 2, 7, none⟩ = some (.slice (some ⟨gq, 0, none⟩) ql0 bc0) ∧ w'.cell? ⟨N + 2, 1, none⟩ = some (.string (bs q0.s)) ∧ w'.cell? ⟨N, 5, none⟩ = some (.int .i64 k) ∧ w'.cell? ⟨N + 1, 0, none⟩ = some (.int .i64 pf) ∧ w'.cell? ⟨N + 1, 1, none⟩ = some (.int .i64 pth) ∧ w'.cell? ⟨N + 1, 2, none⟩ = some (.bool ptg))
  (first | go_keep | exact HSE2.out | exact HSv3.out | exact HTv3.out | exact HS10.out)
  (first
   | (go_at_call 105; refine (sub_any kp1 k u9.drew).mono ?_; rintro e v3 ⟨rfl, hbv3⟩; have HBv3 := Lib.hid (below_of_drew hbv3); have HSv3 := Lib.hid (HCB3.out v3 HBv3.out); have HTv3 := Lib.hid (HCB3.out (v3.alloc (.cells #[.int .i64 3, .int .i64 0, .int .i64 kp1, .int .i64 k, .int .i64 0, .int .i64 0, .int .i64 0, .string ⟨#[]⟩, .slice none 0 0] 44)) (HBv3.out.trans ((below_alloc9 v3 _).mono HBv3.out.size))); clear hbv3)
   | (go_at_call 104; refine (HA2.out v3 HBv3.out).mono ?_; rintro e v9 ⟨⟨v1, rfl⟩, rv6, hm6, ho6, hn6⟩; have HS10 := Lib.hid (HC.out v9 rv6 _ hm6 (mk_only HQ.out.2.1 HQ.out.2.2 ho6)); have HR := Lib.hid (And.intro hm6 (And.intro (mk_only HQ.out.2.1 HQ.out.2.2 ho6) (mk_new HQ.out.2.1 HQ.out.2.2 hn6))); clear hm6 ho6 hn6))
 all_goals
  go_wp2
  go_end0
  refine AddQ.pre HM.out.1 HM.out.2 ⟨⟨_, rfl⟩, rv6, ?_, HR.out.2⟩
  have h9 := HR.out.1
  rw [List.append_assoc] at h9
  exact h9
theorem m_set14 {W0 W : World} {Mb fB : Nat} {X : Cx} {fv fsv rv : Value} {rs : List Ru} (hX : CxOK X) (hM : MkAt W0 W Mb fB X fv fsv rv rs) {S : Nat → Prop} {t : Tr} {k : Nat} {cs : List Value} (ht : NtP W S t k cs) (hS : ∀ i, S i → i < W.heap.size ∧ ¬ mkF Mb rv i)  (hn : 2 ≤ t.l.length) (pf pth : Int) (ptg : Bool) (hop : (t.part 0).op = 14) (hgr : 0 < (t.part 0).l.length) (hr : rs.length ≤ 600000) :
  Calls Tryz.prog 67 #[.pointer (some ⟨Mb, 0, none⟩), .agg cs.toArray, .agg #[.int .i64 pf, .int .i64 pth, .bool ptg]] W (AddQ W0 Mb fB X fv fsv W rv (rs ++ ([((⟨7, 0, partK t k 0 + 1, partK t k 1, 0, 0, 0, [], []⟩ : Ru)).at_ pf] ++ [(subR (partK t k 1) k).at_ pf]))) := by
 obtain ⟨A0, n0, c0, A, c, rfl, htc, hrow⟩ := (NtP_eq _ _ _ _ _).1 ht
 obtain ⟨gp, rfl, hgp, hNL⟩ := hrow (by omega)
 obtain ⟨ln, hln⟩ : ∃ x, t.l.length = x := ⟨_, rfl⟩
 have htc2 : ln ≤ c ∧ c ≤ 9223372036854775807 := by rw [← hln]; exact ⟨htc.1, htc.2.1⟩
 obtain ⟨htc3, htc4⟩ := htc2
 have gi0 : (0 : Int) < ln := by omega
 have gn0 : 0 < ln := by omega
 have gi1 : (1 : Int) < ln := by omega
 have gn1 : 1 < ln := by omega
 obtain ⟨q0, hq0⟩ : ∃ x, t.l[0]? = some x := ⟨_, List.getElem?_eq_getElem (by omega)⟩
 obtain ⟨cs0, hcs0, hcc0⟩ := NtL.get t.l (k + 1) gp 0 0 q0 hNL hq0
 obtain ⟨Aa0, na0, ca0, Bv0, bc0, rfl, hf0, hr0⟩ := (NtP_eq _ _ _ _ _).1 hcs0
 obtain ⟨ek0, hek0⟩ : ∃ x : Int, ((k + 1 + sizes (t.l.take 0) + q0.size : Nat) : Int) = x := ⟨_, rfl⟩
 obtain ⟨kp0, hkp0⟩ : ∃ x, partK t k 0 = x := ⟨_, rfl⟩
 rw [hek0, show ((k + 1 + sizes (t.l.take 0) : Nat) : Int) = kp0 from hkp0] at hcc0
 rw [hkp0]
 obtain ⟨ql0, hql0⟩ : ∃ x, q0.l.length = x := ⟨_, rfl⟩
 rw [hql0] at hcc0
 have ep0 := fun j (hj : j < 8) => hcc0 j hj
 simp only [Nat.zero_add] at ep0
 obtain ⟨q1, hq1⟩ : ∃ x, t.l[1]? = some x := ⟨_, List.getElem?_eq_getElem (by omega)⟩
 obtain ⟨cs1, hcs1, hcc1⟩ := NtL.get t.l (k + 1) gp 0 1 q1 hNL hq1
 obtain ⟨Aa1, na1, ca1, Bv1, bc1, rfl, hf1, hr1⟩ := (NtP_eq _ _ _ _ _).1 hcs1
 obtain ⟨ek1, hek1⟩ : ∃ x : Int, ((k + 1 + sizes (t.l.take 1) + q1.size : Nat) : Int) = x := ⟨_, rfl⟩
 obtain ⟨kp1, hkp1⟩ : ∃ x, partK t k 1 = x := ⟨_, rfl⟩
 rw [hek1, show ((k + 1 + sizes (t.l.take 1) : Nat) : Int) = kp1 from hkp1] at hcc1
 rw [hkp1]
 obtain ⟨ql1, hql1⟩ : ∃ x, q1.l.length = x := ⟨_, rfl⟩
 rw [hql1] at hcc1
 have ep1 := fun j (hj : j < 8) => hcc1 j hj
 simp only [Nat.zero_add] at ep1
 obtain ⟨ek, hek⟩ : ∃ x, k + t.size = x := ⟨_, rfl⟩
 rw [hek, hln]
 unfold ntV
 obtain ⟨hal, hb0, hb1, hz2⟩ := alloc2 W (.cells #[.int .i64 t.op, .string (bs t.s), .int .i64 t.n, .slice A0 n0 c0, .int .i64 t.line, .int .i64 k, .int .i64 ek, .slice (some ⟨gp, 0, none⟩) ln c] 92) (.cells #[.int .i64 pf, .int .i64 pth, .bool ptg] 94)
 obtain ⟨W2, e2⟩ : ∃ x, (W.alloc (.cells #[.int .i64 t.op, .string (bs t.s), .int .i64 t.n, .slice A0 n0 c0, .int .i64 t.line, .int .i64 k, .int .i64 ek, .slice (some ⟨gp, 0, none⟩) ln c] 92)).alloc (.cells #[.int .i64 pf, .int .i64 pth, .bool ptg] 94) = x := ⟨_, rfl⟩
 rw [e2] at hal hb0 hb1 hz2
 have hM2 := hM.below hal
 obtain ⟨N, eN⟩ : ∃ x, W.heap.size = x := ⟨_, rfl⟩
 rw [eN] at hb0 hb1 hz2
 rw [show t.part 0 = q0 by unfold Tr.part; rw [hq0]; rfl] at hop hgr
 have hnN : ∀ i, N ≤ i → ¬ mkF Mb rv i := fun i hi h => by
  rcases h with h | h
  ·have := hM.lt; omega
  ·have := (hM.row.own i h).2; omega
 have hSN : ∀ i, S i → i < W2.heap.size ∧ ¬ mkF Mb rv i ∧ W2.heap[i]? = W.heap[i]? := fun i hi => ⟨by have := (hS i hi).1; omega, (hS i hi).2, hal.block i (hS i hi).1⟩
 have hcell : ∀ w' rv' rs', MkAt W0 w' Mb fB X fv fsv rv' rs' → Only (mkF Mb rv) W2 w' → (w'.cell? ⟨gp, 0, none⟩ = some (.int .i64 q0.op) ∧ w'.cell? ⟨gp, 1, none⟩ = some (.string (bs q0.s)) ∧ w'.cell? ⟨gp, 2, none⟩ = some (.int .i64 q0.n) ∧ w'.cell? ⟨gp, 3, none⟩ = some (.slice Aa0 na0 ca0) ∧ w'.cell? ⟨gp, 4, none⟩ = some (.int .i64 q0.line) ∧ w'.cell? ⟨gp, 5, none⟩ = some (.int .i64 kp0) ∧ w'.cell? ⟨gp, 6, none⟩ = some (.int .i64 ek0) ∧ w'.cell? ⟨gp, 7, none⟩ = some (.slice Bv0 ql0 bc0) ∧ w'.cell? ⟨gp, 13, none⟩ = some (.int .i64 kp1) ∧ w'.cell? ⟨N, 7, none⟩ = some (.slice (some ⟨gp, 0, none⟩) ln c)) := fun w' rv' rs' hm hb => by
  have h0 := (box8 ((hb.block N (heap_lt hb0) (hnN N (Nat.le_refl _))).trans hb0)).1
  have h1 := box3c ((hb.block (N + 1) (heap_lt hb1) (hnN (N + 1) (by omega))).trans hb1)
  have hpc : ∀ g j v, S g → W.cell? ⟨g, j, none⟩ = some v → w'.cell? ⟨g, j, none⟩ = some v := fun g j v hg h => (cell_block ((hb.block g (hSN g hg).1 (hSN g hg).2.1).trans (hSN g hg).2.2) ⟨g, j, none⟩ rfl).trans h
  exact ⟨hpc gp 0 _ hgp (ep0 0 (by omega)), hpc gp 1 _ hgp (ep0 1 (by omega)), hpc gp 2 _ hgp (ep0 2 (by omega)), hpc gp 3 _ hgp (ep0 3 (by omega)), hpc gp 4 _ hgp (ep0 4 (by omega)), hpc gp 5 _ hgp (ep0 5 (by omega)), hpc gp 6 _ hgp (ep0 6 (by omega)), hpc gp 7 _ hgp (ep0 7 (by omega)), hpc gp 13 _ hgp (ep1 5 (by omega)), h0.2.2.2.2.2.2.2⟩
 have hMB := fun w (hb : Below W2.heap.size W2 w) => hM2.below hb
 have HMB2 := Lib.hid hMB
 have HC2 := Lib.hid hcell
 have HCB2 := Lib.hid (fun w (hb : Below W2.heap.size W2 w) => hcell w rv rs (hMB w hb) (Only.of_below hb))
 have HS02 := Lib.hid (hcell W2 rv rs hM2 (Only.refl _ _))
 have HSD2 := Lib.hid (hcell W2.drew rv rs (hM2.below (drew_below W2)) (Only.of_below (drew_below W2)))
 obtain ⟨x0, x1, x2, x3, x4, x5, x6, x7, x8, x9⟩ := HS02.out
 have HSl2 := Lib.hid (hcell (W2.drew.alloc (.cells #[.int .i64 q0.op, .string (bs q0.s), .int .i64 q0.n, .slice Aa0 na0 ca0, .int .i64 q0.line, .int .i64 kp0, .int .i64 ek0, .slice Bv0 ql0 bc0] 92)) rv rs ((hM2.below (drew_below W2)).below (below_alloc9 W2.drew _)) (Only.of_below ((drew_below W2).trans (below_alloc9 W2.drew _))))
 have HM2 := Lib.hid (And.intro hM hal)
 have hal3 : Below W2.heap.size W2 (W2.drew.alloc (.cells #[.int .i64 q0.op, .string (bs q0.s), .int .i64 q0.n, .slice Aa0 na0 ca0, .int .i64 q0.line, .int .i64 kp0, .int .i64 ek0, .slice Bv0 ql0 bc0] 92)) := (drew_below W2).trans (below_alloc9 W2.drew _)
 have hb3 := heap_alloc_new W2.drew (.cells #[.int .i64 q0.op, .string (bs q0.s), .int .i64 q0.n, .slice Aa0 na0 ca0, .int .i64 q0.line, .int .i64 kp0, .int .i64 ek0, .slice Bv0 ql0 bc0] 92)
 rw [show W2.drew.heap.size = N + 2 from hz2] at hb3
 obtain ⟨W3, e3⟩ : ∃ x, W2.drew.alloc (.cells #[.int .i64 q0.op, .string (bs q0.s), .int .i64 q0.n, .slice Aa0 na0 ca0, .int .i64 q0.line, .int .i64 kp0, .int .i64 ek0, .slice Bv0 ql0 bc0] 92) = x := ⟨_, rfl⟩
 have hz3 : W3.heap.size = N + 3 := by rw [← e3, World.size_alloc]; show W2.heap.size + 1 = _; rw [hz2]
 rw [e3] at hal3 hb3
 have hM3 := hM2.below hal3
 have hcell3 : ∀ w' rv' rs', MkAt W0 w' Mb fB X fv fsv rv' rs' → Only (mkF Mb rv) W3 w' → (w'.cell? ⟨N + 2, 0, none⟩ = some (.int .i64 q0.op) ∧ w'.cell? ⟨N + 2, 7, none⟩ = some (.slice Bv0 ql0 bc0) ∧ w'.cell? ⟨N, 5, none⟩ = some (.int .i64 k) ∧ w'.cell? ⟨N + 1, 0, none⟩ = some (.int .i64 pf) ∧ w'.cell? ⟨N + 1, 1, none⟩ = some (.int .i64 pth) ∧ w'.cell? ⟨N + 1, 2, none⟩ = some (.bool ptg)) := fun w' rv' rs' hm hb => by
  have h2 := (box8 ((hb.block (N + 2) (heap_lt hb3) (hnN (N + 2) (by omega))).trans hb3)).1
  have hb2 : Only (mkF Mb rv) W2 w' := (Only.of_below hal3).trans' hb
  have h0 := (box8 ((hb2.block N (heap_lt hb0) (hnN N (Nat.le_refl _))).trans hb0)).1
  have h1 := box3c ((hb2.block (N + 1) (heap_lt hb1) (hnN (N + 1) (by omega))).trans hb1)
  have hpc : ∀ g j v, S g → W.cell? ⟨g, j, none⟩ = some v → w'.cell? ⟨g, j, none⟩ = some v := fun g j v hg h => (cell_block ((hb2.block g (hSN g hg).1 (hSN g hg).2.1).trans (hSN g hg).2.2) ⟨g, j, none⟩ rfl).trans h
  exact ⟨h2.1, h2.2.2.2.2.2.2.2, h0.2.2.2.2.2.1, h1.1, h1.2.1, h1.2.2⟩
 have hMB3 := fun w (hb : Below W3.heap.size W3 w) => hM3.below hb
 have HMB := Lib.hid hMB3
 have HC := Lib.hid hcell3
 have HCB := Lib.hid (fun w (hb : Below W3.heap.size W3 w) => hcell3 w rv rs (hMB3 w hb) (Only.of_below hb))
 have HS0 := Lib.hid (hcell3 W3 rv rs hM3 (Only.refl _ _))
 have HSD := Lib.hid (hcell3 W3.drew rv rs (hM3.below (drew_below W3)) (Only.of_below (drew_below W3)))
 obtain ⟨y0, y1, y2, y3, y4, y5⟩ := HS0.out
 have HM := Lib.hid (And.intro hM (hal.trans (hal3.mono hal.size)))
 have d1 : (q0.op == 1) = false := by rw [hop]; rfl
 have d2 : (q0.op == 13) = false := by rw [hop]; rfl
 have d3 : (q0.op == 14) = true := by rw [hop]; rfl
 obtain ⟨gq, rfl, hgq, hNq⟩ := hr0 hgr
 obtain ⟨qq, hqq⟩ : ∃ x, q0.l[0]? = some x := ⟨_, List.getElem?_eq_getElem (by omega)⟩
 obtain ⟨cq, hcq, hccq⟩ := NtL.get q0.l (k + 1 + sizes (t.l.take 0) + 1) gq 0 0 qq hNq hqq
 have hzz : ((k + 1 + sizes (t.l.take 0) + 1 + sizes (q0.l.take 0) : Nat) : Int) = kp0 + 1 := by rw [← hkp0]; unfold partK; rw [List.take_zero, List.take_zero, sizes_nil]; omega
 obtain ⟨zq, hzq⟩ : ∃ x, kp0 + 1 = x := ⟨_, rfl⟩
 rw [hzq] at hzz ⊢
 have w5 : W.cell? ⟨gq, 5, none⟩ = some (.int .i64 zq) := by
  obtain ⟨a1, a2, a3, a4, a5, rfl, a6, a7⟩ := (NtP_eq _ _ _ _ _).1 hcq
  have h9 := hccq 5 (by omega)
  rw [hzz] at h9
  simpa [ntV] using h9
 have hq9 : 0 < ql0 := by rw [← hql0]; exact hgr
 have gq0 : (0 : Int) < ql0 := by omega
 have hcell4 : ∀ w' rv' rs', MkAt W0 w' Mb fB X fv fsv rv' rs' → Only (mkF Mb rv) W3 w' → (w'.cell? ⟨gq, 5, none⟩ = some (.int .i64 zq) ∧ w'.cell? ⟨N + 2, 0, none⟩ = some (.int .i64 q0.op) ∧ w'.cell? ⟨N + 2, 7, none⟩ = some (.slice (some ⟨gq, 0, none⟩) ql0 bc0) ∧ w'.cell? ⟨N, 5, none⟩ = some (.int .i64 k) ∧ w'.cell? ⟨N + 1, 0, none⟩ = some (.int .i64 pf) ∧ w'.cell? ⟨N + 1, 1, none⟩ = some (.int .i64 pth) ∧ w'.cell? ⟨N + 1, 2, none⟩ = some (.bool ptg)) := fun w' rv' rs' hm hb => by
  have hb2 : Only (mkF Mb rv) W2 w' := (Only.of_below hal3).trans' hb
  exact ⟨(cell_block ((hb2.block gq (hSN gq hgq).1 (hSN gq hgq).2.1).trans (hSN gq hgq).2.2) ⟨gq, 5, none⟩ rfl).trans w5, hcell3 w' rv' rs' hm hb⟩
 clear HC HCB HS0 HSD
 have HC := Lib.hid hcell4
 have HCB := Lib.hid (fun w (hb : Below W3.heap.size W3 w) => hcell4 w rv rs (hMB3 w hb) (Only.of_below hb))
 have HS0 := Lib.hid (hcell4 W3 rv rs hM3 (Only.refl _ _))
 have HSD := Lib.hid (hcell4 W3.drew rv rs (hM3.below (drew_below W3)) (Only.of_below (drew_below W3)))
 clear y0 y1 y2 y3 y4 y5
 obtain ⟨y0, y1, y2, y3, y4, y5, y6⟩ := HS0.out
 have HA := Lib.hid (fun w (hb : Below W3.heap.size W3 w) => (show Calls Tryz.prog 104 #[.pointer (some ⟨Mb, 0, none⟩), .agg #[.int .i64 pf, .int .i64 pth, .bool ptg], .slice (some ⟨w.heap.size, 0, none⟩) 1 1] (w.alloc (.cells #[.int .i64 7, .int .i64 0, .int .i64 zq, .int .i64 kp1, .int .i64 0, .int .i64 0, .int .i64 0, .string ⟨#[]⟩, .slice none 0 0] 44)) (AddQ W0 Mb fB X fv fsv W3 rv (rs ++ [((⟨7, 0, zq, kp1, 0, 0, 0, [], []⟩ : Ru)).at_ pf])) from add_one hM3 hb ⟨pf, pth, ptg⟩ ((⟨7, 0, zq, kp1, 0, 0, 0, [], []⟩ : Ru)) (.slice none 0 0) (IntsF.nil _ _) (by simp) (by omega)))
 have HSl := Lib.hid (HCB.out (W3.drew.alloc (.cells #[.int .i64 7, .int .i64 0, .int .i64 zq, .int .i64 kp1, .int .i64 0, .int .i64 0, .int .i64 0, .string ⟨#[]⟩, .slice none 0 0] 44)) ((drew_below W3).trans (below_alloc9 W3.drew _)))
 have hA2 := HA.out W3.drew (drew_below W3)
 rw [show W3.drew.heap.size = N + 3 from hz3] at hA2
 have HA3 := Lib.hid hA2
 clear hcell hnN hSN hMB hM hM2 hal hb0 hb1 hX ht htc hrow hS hek hA2 hop hgr hgq hNq hqq hcq hccq hzz hzq w5 hcell4 hNL hgp hM3 hal3 hb3 hcell3 hMB3 hn hln hq0 hcs0 hcc0 hf0 hr0 hek0 ep0 hkp0 hql0 hq1 hcs1 hcc1 hf1 hr1 hek1 ep1 hkp1 hql1
 go_enter Tryz.func67, Tryz.ntmps67
 go_upto_region 1 with fail
 go_region_held3 (fun w' => w'.cell? ⟨gp, 0, none⟩ = some (.int .i64 q0.op) ∧ w'.cell? ⟨gp, 1, none⟩ = some (.string (bs q0.s)) ∧ w'.cell? ⟨gp, 2, none⟩ = some (.int .i64 q0.n) ∧ w'.cell? ⟨gp, 3, none⟩ = some (.slice Aa0 na0 ca0) ∧ w'.cell? ⟨gp, 4, none⟩ = some (.int .i64 q0.line) ∧ w'.cell? ⟨gp, 5, none⟩ = some (.int .i64 kp0) ∧ w'.cell? ⟨gp, 6, none⟩ = some (.int .i64 ek0) ∧ w'.cell? ⟨gp, 7, none⟩ = some (.slice (some ⟨gq, 0, none⟩) ql0 bc0) ∧ w'.cell? ⟨gp, 13, none⟩ = some (.int .i64 kp1) ∧ w'.cell? ⟨N, 7, none⟩ = some (.slice (some ⟨gp, 0, none⟩) ln c))
  (first | go_keep | exact HSD2.out | exact HSl2.out)
  (first
   | fail)
 first | rw [e3] | rw [show (W2.alloc (.cells #[.int .i64 q0.op, .string (bs q0.s), .int .i64 q0.n, .slice Aa0 na0 ca0, .int .i64 q0.line, .int .i64 kp0, .int .i64 ek0, .slice (some ⟨gq, 0, none⟩) ql0 bc0] 92)).drew = W3 from e3] | skip
 clear x0 x1 x2 x3 x4 x5 x6 x7 x8 x9
 go_upto_region 8 with fail
 go_region_held3 (fun w' => w'.cell? ⟨gq, 5, none⟩ = some (.int .i64 zq) ∧ w'.cell? ⟨N + 2, 0, none⟩ = some (.int .i64 q0.op) ∧ w'.cell? ⟨N + 2, 7, none⟩ = some (.slice (some ⟨gq, 0, none⟩) ql0 bc0) ∧ w'.cell? ⟨N, 5, none⟩ = some (.int .i64 k) ∧ w'.cell? ⟨N + 1, 0, none⟩ = some (.int .i64 pf) ∧ w'.cell? ⟨N + 1, 1, none⟩ = some (.int .i64 pth) ∧ w'.cell? ⟨N + 1, 2, none⟩ = some (.bool ptg))
  (first | go_keep | exact HSD.out | exact HSl.out | exact HS9.out)
  (first
   | (go_at_call 104; refine HA3.out.mono ?_; rintro e u9 ⟨⟨v0, rfl⟩, rv5, hm5, ho5, hn5⟩; have HS9 := Lib.hid (HC.out u9 rv5 _ hm5 ho5); have HQ := Lib.hid (And.intro hm5 (And.intro ho5 hn5)); clear hm5 ho5 hn5))
 clear y0 y1 y2 y3 y4 y5 y6
 have HCB3 := Lib.hid (fun w (hb : Below u9.heap.size u9 w) => HC.out w rv5 _ (HQ.out.1.below hb) (HQ.out.2.1.trans' (Only.of_below hb)))
 have HSE2 := Lib.hid (HCB3.out u9.drew (drew_below u9))
 obtain ⟨z0, z1, z2, z3, z4, z5, z6⟩ := HS9.out
 have HA2 := Lib.hid (fun w (hb : Below u9.heap.size u9 w) => (show Calls Tryz.prog 104 #[.pointer (some ⟨Mb, 0, none⟩), .agg #[.int .i64 pf, .int .i64 pth, .bool ptg], .slice (some ⟨w.heap.size, 0, none⟩) 1 1] (w.alloc (.cells #[.int .i64 3, .int .i64 0, .int .i64 kp1, .int .i64 k, .int .i64 0, .int .i64 0, .int .i64 0, .string ⟨#[]⟩, .slice none 0 0] 44)) (AddQ W0 Mb fB X fv fsv u9 rv5 ((rs ++ [((⟨7, 0, zq, kp1, 0, 0, 0, [], []⟩ : Ru)).at_ pf]) ++ [(subR kp1 k).at_ pf])) from add_one HQ.out.1 hb ⟨pf, pth, ptg⟩ (subR kp1 k) (.slice none 0 0) (IntsF.nil _ _) (by simp [subR]) (by simp; omega)))
 go_upto_region 9 with fail
 go_region_held3 (fun w' => w'.cell? ⟨gq, 5, none⟩ = some (.int .i64 zq) ∧ w'.cell? ⟨N + 2, 0, none⟩ = some (.int .i64 q0.op) ∧ w'.cell? ⟨N + 2, 7, none⟩ = some (.slice (some ⟨gq, 0, none⟩) ql0 bc0) ∧ w'.cell? ⟨N, 5, none⟩ = some (.int .i64 k) ∧ w'.cell? ⟨N + 1, 0, none⟩ = some (.int .i64 pf) ∧ w'.cell? ⟨N + 1, 1, none⟩ = some (.int .i64 pth) ∧ w'.cell? ⟨N + 1, 2, none⟩ = some (.bool ptg))
  (first | go_keep | exact HSE2.out | exact HSv3.out | exact HTv3.out | exact HS10.out)
  (first
   | (go_at_call 105; refine (sub_any kp1 k u9.drew).mono ?_; rintro e v3 ⟨rfl, hbv3⟩; have HBv3 := Lib.hid (below_of_drew hbv3); have HSv3 := Lib.hid (HCB3.out v3 HBv3.out); have HTv3 := Lib.hid (HCB3.out (v3.alloc (.cells #[.int .i64 3, .int .i64 0, .int .i64 kp1, .int .i64 k, .int .i64 0, .int .i64 0, .int .i64 0, .string ⟨#[]⟩, .slice none 0 0] 44)) (HBv3.out.trans ((below_alloc9 v3 _).mono HBv3.out.size))); clear hbv3)
   | (go_at_call 104; refine (HA2.out v3 HBv3.out).mono ?_; rintro e v9 ⟨⟨v1, rfl⟩, rv6, hm6, ho6, hn6⟩; have HS10 := Lib.hid (HC.out v9 rv6 _ hm6 (mk_only HQ.out.2.1 HQ.out.2.2 ho6)); have HR := Lib.hid (And.intro hm6 (And.intro (mk_only HQ.out.2.1 HQ.out.2.2 ho6) (mk_new HQ.out.2.1 HQ.out.2.2 hn6))); clear hm6 ho6 hn6))
 all_goals
  go_wp2
  go_end0
  refine AddQ.pre HM.out.1 HM.out.2 ⟨⟨_, rfl⟩, rv6, ?_, HR.out.2⟩
  have h9 := HR.out.1
  rw [List.append_assoc] at h9
  exact h9
end
end Go.Proofs.YtikbfoichhkeaaaGreat
