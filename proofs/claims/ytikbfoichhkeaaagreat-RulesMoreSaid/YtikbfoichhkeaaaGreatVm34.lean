/- rules: either. -/
import Derived.Test.YtikbfoichhkeaaaGreatVm28
set_option linter.unusedSimpArgs false
set_option linter.unusedVariables false
set_option maxRecDepth 100000
set_option maxHeartbeats 40000000
namespace Go.Proofs.YtikbfoichhkeaaaGreat
section
open Go.RowKit Go.Proofs
theorem m_either21 {W0 W : World} {Mb fB : Nat} {X : Cx} {fv fsv rv : Value} {rs : List Ru} (hX : CxOK X) (hM : MkAt W0 W Mb fB X fv fsv rv rs) {S : Nat → Prop} {t : Tr} {k : Nat} {cs : List Value} (ht : NtP W S t k cs) (hS : ∀ i, S i → i < W.heap.size ∧ ¬ mkF Mb rv i)  (hn : 2 ≤ t.l.length) (pf pth : Int) (ptg : Bool) (hop : t.op = 21) (hr : rs.length ≤ 600000) :
  Calls Tryz.prog 68 #[.pointer (some ⟨Mb, 0, none⟩), .agg cs.toArray, .agg #[.int .i64 pf, .int .i64 pth, .bool ptg]] W (AddQ W0 Mb fB X fv fsv W rv (rs ++ ([(subR (partK t k 1) k).at_ pf]))) := by
 obtain ⟨A0, n0, c0, A, c, rfl, htc, hrow⟩ := (NtP_eq _ _ _ _ _).1 ht
 obtain ⟨gp, rfl, hgp, hNL⟩ := hrow (by omega)
 obtain ⟨ln, hln⟩ : ∃ x, t.l.length = x := ⟨_, rfl⟩
 have htc2 : ln ≤ c ∧ c ≤ 9223372036854775807 := by rw [← hln]; exact ⟨htc.1, htc.2.1⟩
 obtain ⟨htc3, htc4⟩ := htc2
 have gi0 : (0 : Int) < ln := by omega
 have gn0 : 0 < ln := by omega
 have gi1 : (1 : Int) < ln := by omega
 have gn1 : 1 < ln := by omega
 obtain ⟨q0, hq0⟩ : ∃ x, t.l[0]? = some x := ⟨_, List.getElem?_eq_getElem (by omega)⟩
 obtain ⟨cs0, hcs0, hcc0⟩ := NtL.get t.l (k + 1) gp 0 0 q0 hNL hq0
 obtain ⟨Aa0, na0, ca0, Bv0, bc0, rfl, hf0, hr0⟩ := (NtP_eq _ _ _ _ _).1 hcs0
 obtain ⟨ek0, hek0⟩ : ∃ x : Int, ((k + 1 + sizes (t.l.take 0) + q0.size : Nat) : Int) = x := ⟨_, rfl⟩
 obtain ⟨kp0, hkp0⟩ : ∃ x, partK t k 0 = x := ⟨_, rfl⟩
 rw [hek0, show ((k + 1 + sizes (t.l.take 0) : Nat) : Int) = kp0 from hkp0] at hcc0
 obtain ⟨ql0, hql0⟩ : ∃ x, q0.l.length = x := ⟨_, rfl⟩
 rw [hql0] at hcc0
 have ep0 := fun j (hj : j < 8) => hcc0 j hj
 simp only [Nat.zero_add] at ep0
 obtain ⟨q1, hq1⟩ : ∃ x, t.l[1]? = some x := ⟨_, List.getElem?_eq_getElem (by omega)⟩
 obtain ⟨cs1, hcs1, hcc1⟩ := NtL.get t.l (k + 1) gp 0 1 q1 hNL hq1
 obtain ⟨Aa1, na1, ca1, Bv1, bc1, rfl, hf1, hr1⟩ := (NtP_eq _ _ _ _ _).1 hcs1
 obtain ⟨ek1, hek1⟩ : ∃ x : Int, ((k + 1 + sizes (t.l.take 1) + q1.size : Nat) : Int) = x := ⟨_, rfl⟩
 obtain ⟨kp1, hkp1⟩ : ∃ x, partK t k 1 = x := ⟨_, rfl⟩
 rw [hek1, show ((k + 1 + sizes (t.l.take 1) : Nat) : Int) = kp1 from hkp1] at hcc1
 rw [hkp1]
 obtain ⟨ql1, hql1⟩ : ∃ x, q1.l.length = x := ⟨_, rfl⟩
 rw [hql1] at hcc1
 have ep1 := fun j (hj : j < 8) => hcc1 j hj
 simp only [Nat.zero_add] at ep1
 obtain ⟨ek, hek⟩ : ∃ x, k + t.size = x := ⟨_, rfl⟩
 rw [hek, hln]
 unfold ntV
 obtain ⟨hal, hb0, hb1, hz2⟩ := alloc2 W (.cells #[.int .i64 t.op, .string (bs t.s), .int .i64 t.n, .slice A0 n0 c0, .int .i64 t.line, .int .i64 k, .int .i64 ek, .slice (some ⟨gp, 0, none⟩) ln c] 92) (.cells #[.int .i64 pf, .int .i64 pth, .bool ptg] 94)
 obtain ⟨W2, e2⟩ : ∃ x, (W.alloc (.cells #[.int .i64 t.op, .string (bs t.s), .int .i64 t.n, .slice A0 n0 c0, .int .i64 t.line, .int .i64 k, .int .i64 ek, .slice (some ⟨gp, 0, none⟩) ln c] 92)).alloc (.cells #[.int .i64 pf, .int .i64 pth, .bool ptg] 94) = x := ⟨_, rfl⟩
 rw [e2] at hal hb0 hb1 hz2
 have hM2 := hM.below hal
 obtain ⟨N, eN⟩ : ∃ x, W.heap.size = x := ⟨_, rfl⟩
 rw [eN] at hb0 hb1 hz2
 have hnN : ∀ i, N ≤ i → ¬ mkF Mb rv i := fun i hi h => by
  rcases h with h | h
  ·have := hM.lt; omega
  ·have := (hM.row.own i h).2; omega
 have hSN : ∀ i, S i → i < W2.heap.size ∧ ¬ mkF Mb rv i ∧ W2.heap[i]? = W.heap[i]? := fun i hi => ⟨by have := (hS i hi).1; omega, (hS i hi).2, hal.block i (hS i hi).1⟩
 have hcell : ∀ w' rv' rs', MkAt W0 w' Mb fB X fv fsv rv' rs' → Only (mkF Mb rv) W2 w' → (w'.cell? ⟨N, 0, none⟩ = some (.int .i64 t.op) ∧ w'.cell? ⟨N, 7, none⟩ = some (.slice (some ⟨gp, 0, none⟩) ln c) ∧ w'.cell? ⟨gp, 5, none⟩ = some (.int .i64 kp0) ∧ w'.cell? ⟨gp, 13, none⟩ = some (.int .i64 kp1) ∧ w'.cell? ⟨N, 5, none⟩ = some (.int .i64 k) ∧ w'.cell? ⟨N + 1, 0, none⟩ = some (.int .i64 pf) ∧ w'.cell? ⟨N + 1, 1, none⟩ = some (.int .i64 pth) ∧ w'.cell? ⟨N + 1, 2, none⟩ = some (.bool ptg)) := fun w' rv' rs' hm hb => by
  have h0 := (box8 ((hb.block N (heap_lt hb0) (hnN N (Nat.le_refl _))).trans hb0)).1
  have h1 := box3c ((hb.block (N + 1) (heap_lt hb1) (hnN (N + 1) (by omega))).trans hb1)
  have hpc : ∀ g j v, S g → W.cell? ⟨g, j, none⟩ = some v → w'.cell? ⟨g, j, none⟩ = some v := fun g j v hg h => (cell_block ((hb.block g (hSN g hg).1 (hSN g hg).2.1).trans (hSN g hg).2.2) ⟨g, j, none⟩ rfl).trans h
  exact ⟨h0.1, h0.2.2.2.2.2.2.2, hpc gp 5 _ hgp (ep0 5 (by omega)), hpc gp 13 _ hgp (ep1 5 (by omega)), h0.2.2.2.2.2.1, h1.1, h1.2.1, h1.2.2⟩
 have hMB := fun w (hb : Below W2.heap.size W2 w) => hM2.below hb
 have HMB := Lib.hid hMB
 have HC := Lib.hid hcell
 have HCB := Lib.hid (fun w (hb : Below W2.heap.size W2 w) => hcell w rv rs (hMB w hb) (Only.of_below hb))
 have HS0 := Lib.hid (hcell W2 rv rs hM2 (Only.refl _ _))
 have HSD := Lib.hid (hcell W2.drew rv rs (hM2.below (drew_below W2)) (Only.of_below (drew_below W2)))
 obtain ⟨x0, x1, x2, x3, x4, x5, x6, x7⟩ := HS0.out
 have HM := Lib.hid (And.intro hM hal)
 have d1 : (t.op == 22) = false := by rw [hop]; rfl
 have d2 : (t.op == 21) = true := by rw [hop]; rfl
 have HA := Lib.hid (fun w (hb : Below W2.heap.size W2 w) => (show Calls Tryz.prog 104 #[.pointer (some ⟨Mb, 0, none⟩), .agg #[.int .i64 pf, .int .i64 pth, .bool ptg], .slice (some ⟨w.heap.size, 0, none⟩) 1 1] (w.alloc (.cells #[.int .i64 3, .int .i64 0, .int .i64 kp1, .int .i64 k, .int .i64 0, .int .i64 0, .int .i64 0, .string ⟨#[]⟩, .slice none 0 0] 44)) (AddQ W0 Mb fB X fv fsv W2 rv (rs ++ [(subR kp1 k).at_ pf])) from add_one hM2 hb ⟨pf, pth, ptg⟩ (subR kp1 k) (.slice none 0 0) (IntsF.nil _ _) (by simp [subR]) (by omega)))
 clear hcell hnN hSN hMB hM hM2 hal hb0 hb1 hX ht htc hrow hS hek hop hNL hgp hn hln hq0 hcs0 hcc0 hf0 hr0 hek0 ep0 hkp0 hql0 hq1 hcs1 hcc1 hf1 hr1 hek1 ep1 hkp1 hql1
 go_enter Tryz.func68, Tryz.ntmps68
 go_upto_region 6 with fail
 go_region_held3 (fun w' => w'.cell? ⟨N, 0, none⟩ = some (.int .i64 t.op) ∧ w'.cell? ⟨N, 7, none⟩ = some (.slice (some ⟨gp, 0, none⟩) ln c) ∧ w'.cell? ⟨gp, 5, none⟩ = some (.int .i64 kp0) ∧ w'.cell? ⟨gp, 13, none⟩ = some (.int .i64 kp1) ∧ w'.cell? ⟨N, 5, none⟩ = some (.int .i64 k) ∧ w'.cell? ⟨N + 1, 0, none⟩ = some (.int .i64 pf) ∧ w'.cell? ⟨N + 1, 1, none⟩ = some (.int .i64 pth) ∧ w'.cell? ⟨N + 1, 2, none⟩ = some (.bool ptg))
  (first | go_keep | exact HSD.out | exact HSu3.out | exact HTu3.out | exact HS9.out)
  (first
   | (go_at_call 105; refine (sub_any kp1 k W2.drew).mono ?_; rintro e u3 ⟨rfl, hbu3⟩; have HBu3 := Lib.hid (below_of_drew hbu3); have HSu3 := Lib.hid (HCB.out u3 HBu3.out); have HTu3 := Lib.hid (HCB.out (u3.alloc (.cells #[.int .i64 3, .int .i64 0, .int .i64 kp1, .int .i64 k, .int .i64 0, .int .i64 0, .int .i64 0, .string ⟨#[]⟩, .slice none 0 0] 44)) (HBu3.out.trans ((below_alloc9 u3 _).mono HBu3.out.size))); clear hbu3)
   | (go_at_call 104; refine (HA.out u3 HBu3.out).mono ?_; rintro e u9 ⟨⟨v0, rfl⟩, rv5, hm5, ho5, hn5⟩; have HS9 := Lib.hid (HC.out u9 rv5 _ hm5 ho5); have HQ := Lib.hid (And.intro hm5 (And.intro ho5 hn5)); clear hm5 ho5 hn5))
 all_goals
  go_wp2
  go_end0
  exact AddQ.pre HM.out.1 HM.out.2 ⟨⟨_, rfl⟩, rv5, HQ.out⟩
theorem m_either22 {W0 W : World} {Mb fB : Nat} {X : Cx} {fv fsv rv : Value} {rs : List Ru} (hX : CxOK X) (hM : MkAt W0 W Mb fB X fv fsv rv rs) {S : Nat → Prop} {t : Tr} {k : Nat} {cs : List Value} (ht : NtP W S t k cs) (hS : ∀ i, S i → i < W.heap.size ∧ ¬ mkF Mb rv i)  (hn : 2 ≤ t.l.length) (pf pth : Int) (ptg : Bool) (hop : t.op = 22) (hr : rs.length ≤ 600000) :
  Calls Tryz.prog 68 #[.pointer (some ⟨Mb, 0, none⟩), .agg cs.toArray, .agg #[.int .i64 pf, .int .i64 pth, .bool ptg]] W (AddQ W0 Mb fB X fv fsv W rv (rs ++ ([(subR (partK t k 0) k).at_ pf] ++ [(subR (partK t k 1) k).at_ pf]))) := by
 obtain ⟨A0, n0, c0, A, c, rfl, htc, hrow⟩ := (NtP_eq _ _ _ _ _).1 ht
 obtain ⟨gp, rfl, hgp, hNL⟩ := hrow (by omega)
 obtain ⟨ln, hln⟩ : ∃ x, t.l.length = x := ⟨_, rfl⟩
 have htc2 : ln ≤ c ∧ c ≤ 9223372036854775807 := by rw [← hln]; exact ⟨htc.1, htc.2.1⟩
 obtain ⟨htc3, htc4⟩ := htc2
 have gi0 : (0 : Int) < ln := by omega
 have gn0 : 0 < ln := by omega
 have gi1 : (1 : Int) < ln := by omega
 have gn1 : 1 < ln := by omega
 obtain ⟨q0, hq0⟩ : ∃ x, t.l[0]? = some x := ⟨_, List.getElem?_eq_getElem (by omega)⟩
 obtain ⟨cs0, hcs0, hcc0⟩ := NtL.get t.l (k + 1) gp 0 0 q0 hNL hq0
 obtain ⟨Aa0, na0, ca0, Bv0, bc0, rfl, hf0, hr0⟩ := (NtP_eq _ _ _ _ _).1 hcs0
 obtain ⟨ek0, hek0⟩ : ∃ x : Int, ((k + 1 + sizes (t.l.take 0) + q0.size : Nat) : Int) = x := ⟨_, rfl⟩
 obtain ⟨kp0, hkp0⟩ : ∃ x, partK t k 0 = x := ⟨_, rfl⟩
 rw [hek0, show ((k + 1 + sizes (t.l.take 0) : Nat) : Int) = kp0 from hkp0] at hcc0
 rw [hkp0]
 obtain ⟨ql0, hql0⟩ : ∃ x, q0.l.length = x := ⟨_, rfl⟩
 rw [hql0] at hcc0
 have ep0 := fun j (hj : j < 8) => hcc0 j hj
 simp only [Nat.zero_add] at ep0
 obtain ⟨q1, hq1⟩ : ∃ x, t.l[1]? = some x := ⟨_, List.getElem?_eq_getElem (by omega)⟩
 obtain ⟨cs1, hcs1, hcc1⟩ := NtL.get t.l (k + 1) gp 0 1 q1 hNL hq1
 obtain ⟨Aa1, na1, ca1, Bv1, bc1, rfl, hf1, hr1⟩ := (NtP_eq _ _ _ _ _).1 hcs1
 obtain ⟨ek1, hek1⟩ : ∃ x : Int, ((k + 1 + sizes (t.l.take 1) + q1.size : Nat) : Int) = x := ⟨_, rfl⟩
 obtain ⟨kp1, hkp1⟩ : ∃ x, partK t k 1 = x := ⟨_, rfl⟩
 rw [hek1, show ((k + 1 + sizes (t.l.take 1) : Nat) : Int) = kp1 from hkp1] at hcc1
 rw [hkp1]
 obtain ⟨ql1, hql1⟩ : ∃ x, q1.l.length = x := ⟨_, rfl⟩
 rw [hql1] at hcc1
 have ep1 := fun j (hj : j < 8) => hcc1 j hj
 simp only [Nat.zero_add] at ep1
 obtain ⟨ek, hek⟩ : ∃ x, k + t.size = x := ⟨_, rfl⟩
 rw [hek, hln]
 unfold ntV
 obtain ⟨hal, hb0, hb1, hz2⟩ := alloc2 W (.cells #[.int .i64 t.op, .string (bs t.s), .int .i64 t.n, .slice A0 n0 c0, .int .i64 t.line, .int .i64 k, .int .i64 ek, .slice (some ⟨gp, 0, none⟩) ln c] 92) (.cells #[.int .i64 pf, .int .i64 pth, .bool ptg] 94)
 obtain ⟨W2, e2⟩ : ∃ x, (W.alloc (.cells #[.int .i64 t.op, .string (bs t.s), .int .i64 t.n, .slice A0 n0 c0, .int .i64 t.line, .int .i64 k, .int .i64 ek, .slice (some ⟨gp, 0, none⟩) ln c] 92)).alloc (.cells #[.int .i64 pf, .int .i64 pth, .bool ptg] 94) = x := ⟨_, rfl⟩
 rw [e2] at hal hb0 hb1 hz2
 have hM2 := hM.below hal
 obtain ⟨N, eN⟩ : ∃ x, W.heap.size = x := ⟨_, rfl⟩
 rw [eN] at hb0 hb1 hz2
 have hnN : ∀ i, N ≤ i → ¬ mkF Mb rv i := fun i hi h => by
  rcases h with h | h
  ·have := hM.lt; omega
  ·have := (hM.row.own i h).2; omega
 have hSN : ∀ i, S i → i < W2.heap.size ∧ ¬ mkF Mb rv i ∧ W2.heap[i]? = W.heap[i]? := fun i hi => ⟨by have := (hS i hi).1; omega, (hS i hi).2, hal.block i (hS i hi).1⟩
 have hcell : ∀ w' rv' rs', MkAt W0 w' Mb fB X fv fsv rv' rs' → Only (mkF Mb rv) W2 w' → (w'.cell? ⟨N, 0, none⟩ = some (.int .i64 t.op) ∧ w'.cell? ⟨N, 7, none⟩ = some (.slice (some ⟨gp, 0, none⟩) ln c) ∧ w'.cell? ⟨gp, 5, none⟩ = some (.int .i64 kp0) ∧ w'.cell? ⟨gp, 13, none⟩ = some (.int .i64 kp1) ∧ w'.cell? ⟨N, 5, none⟩ = some (.int .i64 k) ∧ w'.cell? ⟨N + 1, 0, none⟩ = some (.int .i64 pf) ∧ w'.cell? ⟨N + 1, 1, none⟩ = some (.int .i64 pth) ∧ w'.cell? ⟨N + 1, 2, none⟩ = some (.bool ptg)) := fun w' rv' rs' hm hb => by
  have h0 := (box8 ((hb.block N (heap_lt hb0) (hnN N (Nat.le_refl _))).trans hb0)).1
  have h1 := box3c ((hb.block (N + 1) (heap_lt hb1) (hnN (N + 1) (by omega))).trans hb1)
  have hpc : ∀ g j v, S g → W.cell? ⟨g, j, none⟩ = some v → w'.cell? ⟨g, j, none⟩ = some v := fun g j v hg h => (cell_block ((hb.block g (hSN g hg).1 (hSN g hg).2.1).trans (hSN g hg).2.2) ⟨g, j, none⟩ rfl).trans h
  exact ⟨h0.1, h0.2.2.2.2.2.2.2, hpc gp 5 _ hgp (ep0 5 (by omega)), hpc gp 13 _ hgp (ep1 5 (by omega)), h0.2.2.2.2.2.1, h1.1, h1.2.1, h1.2.2⟩
 have hMB := fun w (hb : Below W2.heap.size W2 w) => hM2.below hb
 have HMB := Lib.hid hMB
 have HC := Lib.hid hcell
 have HCB := Lib.hid (fun w (hb : Below W2.heap.size W2 w) => hcell w rv rs (hMB w hb) (Only.of_below hb))
 have HS0 := Lib.hid (hcell W2 rv rs hM2 (Only.refl _ _))
 have HSD := Lib.hid (hcell W2.drew rv rs (hM2.below (drew_below W2)) (Only.of_below (drew_below W2)))
 obtain ⟨x0, x1, x2, x3, x4, x5, x6, x7⟩ := HS0.out
 have HM := Lib.hid (And.intro hM hal)
 have d1 : (t.op == 22) = true := by rw [hop]; rfl
 have HA := Lib.hid (fun w (hb : Below W2.heap.size W2 w) => (show Calls Tryz.prog 104 #[.pointer (some ⟨Mb, 0, none⟩), .agg #[.int .i64 pf, .int .i64 pth, .bool ptg], .slice (some ⟨w.heap.size, 0, none⟩) 1 1] (w.alloc (.cells #[.int .i64 3, .int .i64 0, .int .i64 kp0, .int .i64 k, .int .i64 0, .int .i64 0, .int .i64 0, .string ⟨#[]⟩, .slice none 0 0] 44)) (AddQ W0 Mb fB X fv fsv W2 rv (rs ++ [(subR kp0 k).at_ pf])) from add_one hM2 hb ⟨pf, pth, ptg⟩ (subR kp0 k) (.slice none 0 0) (IntsF.nil _ _) (by simp [subR]) (by omega)))
 clear hcell hnN hSN hMB hM hM2 hal hb0 hb1 hX ht htc hrow hS hek hop hNL hgp hn hln hq0 hcs0 hcc0 hf0 hr0 hek0 ep0 hkp0 hql0 hq1 hcs1 hcc1 hf1 hr1 hek1 ep1 hkp1 hql1
 go_enter Tryz.func68, Tryz.ntmps68
 go_upto_region 5 with fail
 go_region_held3 (fun w' => w'.cell? ⟨N, 0, none⟩ = some (.int .i64 t.op) ∧ w'.cell? ⟨N, 7, none⟩ = some (.slice (some ⟨gp, 0, none⟩) ln c) ∧ w'.cell? ⟨gp, 5, none⟩ = some (.int .i64 kp0) ∧ w'.cell? ⟨gp, 13, none⟩ = some (.int .i64 kp1) ∧ w'.cell? ⟨N, 5, none⟩ = some (.int .i64 k) ∧ w'.cell? ⟨N + 1, 0, none⟩ = some (.int .i64 pf) ∧ w'.cell? ⟨N + 1, 1, none⟩ = some (.int .i64 pth) ∧ w'.cell? ⟨N + 1, 2, none⟩ = some (.bool ptg))
  (first | go_keep | exact HSD.out | exact HSu3.out | exact HTu3.out | exact HS9.out)
  (first
   | (go_at_call 105; refine (sub_any kp0 k W2.drew).mono ?_; rintro e u3 ⟨rfl, hbu3⟩; have HBu3 := Lib.hid (below_of_drew hbu3); have HSu3 := Lib.hid (HCB.out u3 HBu3.out); have HTu3 := Lib.hid (HCB.out (u3.alloc (.cells #[.int .i64 3, .int .i64 0, .int .i64 kp0, .int .i64 k, .int .i64 0, .int .i64 0, .int .i64 0, .string ⟨#[]⟩, .slice none 0 0] 44)) (HBu3.out.trans ((below_alloc9 u3 _).mono HBu3.out.size))); clear hbu3)
   | (go_at_call 104; refine (HA.out u3 HBu3.out).mono ?_; rintro e u9 ⟨⟨v0, rfl⟩, rv5, hm5, ho5, hn5⟩; have HS9 := Lib.hid (HC.out u9 rv5 _ hm5 ho5); have HQ := Lib.hid (And.intro hm5 (And.intro ho5 hn5)); clear hm5 ho5 hn5))
 clear x0 x1 x2 x3 x4 x5 x6 x7
 have HCB2 := Lib.hid (fun w (hb : Below u9.heap.size u9 w) => HC.out w rv5 _ (HQ.out.1.below hb) (HQ.out.2.1.trans' (Only.of_below hb)))
 have HSD2 := Lib.hid (HCB2.out u9.drew (drew_below u9))
 obtain ⟨z0, z1, z2, z3, z4, z5, z6, z7⟩ := HS9.out
 have HA2 := Lib.hid (fun w (hb : Below u9.heap.size u9 w) => (show Calls Tryz.prog 104 #[.pointer (some ⟨Mb, 0, none⟩), .agg #[.int .i64 pf, .int .i64 pth, .bool ptg], .slice (some ⟨w.heap.size, 0, none⟩) 1 1] (w.alloc (.cells #[.int .i64 3, .int .i64 0, .int .i64 kp1, .int .i64 k, .int .i64 0, .int .i64 0, .int .i64 0, .string ⟨#[]⟩, .slice none 0 0] 44)) (AddQ W0 Mb fB X fv fsv u9 rv5 ((rs ++ [(subR kp0 k).at_ pf]) ++ [(subR kp1 k).at_ pf])) from add_one HQ.out.1 hb ⟨pf, pth, ptg⟩ (subR kp1 k) (.slice none 0 0) (IntsF.nil _ _) (by simp [subR]) (by simp; omega)))
 go_upto_region 6 with fail
 go_region_held3 (fun w' => w'.cell? ⟨N, 0, none⟩ = some (.int .i64 t.op) ∧ w'.cell? ⟨N, 7, none⟩ = some (.slice (some ⟨gp, 0, none⟩) ln c) ∧ w'.cell? ⟨gp, 5, none⟩ = some (.int .i64 kp0) ∧ w'.cell? ⟨gp, 13, none⟩ = some (.int .i64 kp1) ∧ w'.cell? ⟨N, 5, none⟩ = some (.int .i64 k) ∧ w'.cell? ⟨N + 1, 0, none⟩ = some (.int .i64 pf) ∧ w'.cell? ⟨N + 1, 1, none⟩ = some (.int .i64 pth) ∧ w'.cell? ⟨N + 1, 2, none⟩ = some (.bool ptg))
  (first | go_keep | exact HSD2.out | exact HSv3.out | exact HTv3.out | exact HS10.out)
  (first
   | (go_at_call 105; refine (sub_any kp1 k u9.drew).mono ?_; rintro e v3 ⟨rfl, hbv3⟩; have HBv3 := Lib.hid (below_of_drew hbv3); have HSv3 := Lib.hid (HCB2.out v3 HBv3.out); have HTv3 := Lib.hid (HCB2.out (v3.alloc (.cells #[.int .i64 3, .int .i64 0, .int .i64 kp1, .int .i64 k, .int .i64 0, .int .i64 0, .int .i64 0, .string ⟨#[]⟩, .slice none 0 0] 44)) (HBv3.out.trans ((below_alloc9 v3 _).mono HBv3.out.size))); clear hbv3)
   | (go_at_call 104; refine (HA2.out v3 HBv3.out).mono ?_; rintro e v9 ⟨⟨v1, rfl⟩, rv6, hm6, ho6, hn6⟩; have HS10 := Lib.hid (HC.out v9 rv6 _ hm6 (mk_only HQ.out.2.1 HQ.out.2.2 ho6)); have HR := Lib.hid (And.intro hm6 (And.intro (mk_only HQ.out.2.1 HQ.out.2.2 ho6) (mk_new HQ.out.2.1 HQ.out.2.2 hn6))); clear hm6 ho6 hn6))
 all_goals
  go_wp2
  go_end0
  refine AddQ.pre HM.out.1 HM.out.2 ⟨⟨_, rfl⟩, rv6, ?_, HR.out.2⟩
  have h9 := HR.out.1
  rw [List.append_assoc] at h9
  exact h9
theorem m_either23 {W0 W : World} {Mb fB : Nat} {X : Cx} {fv fsv rv : Value} {rs : List Ru} (hX : CxOK X) (hM : MkAt W0 W Mb fB X fv fsv rv rs) {S : Nat → Prop} {t : Tr} {k : Nat} {cs : List Value} (ht : NtP W S t k cs) (hS : ∀ i, S i → i < W.heap.size ∧ ¬ mkF Mb rv i)  (hn : 3 ≤ t.l.length) (pf pth : Int) (ptg : Bool) (hop : t.op = 23) (hr : rs.length ≤ 600000) :
  Calls Tryz.prog 68 #[.pointer (some ⟨Mb, 0, none⟩), .agg cs.toArray, .agg #[.int .i64 pf, .int .i64 pth, .bool ptg]] W (AddQ W0 Mb fB X fv fsv W rv (rs ++ ([(subR (partK t k 1) k).at_ pf, (subR (partK t k 2) k).at_ pf]))) := by
 obtain ⟨A0, n0, c0, A, c, rfl, htc, hrow⟩ := (NtP_eq _ _ _ _ _).1 ht
 obtain ⟨gp, rfl, hgp, hNL⟩ := hrow (by omega)
 obtain ⟨ln, hln⟩ : ∃ x, t.l.length = x := ⟨_, rfl⟩
 have htc2 : ln ≤ c ∧ c ≤ 9223372036854775807 := by rw [← hln]; exact ⟨htc.1, htc.2.1⟩
 obtain ⟨htc3, htc4⟩ := htc2
 have gi0 : (0 : Int) < ln := by omega
 have gn0 : 0 < ln := by omega
 have gi1 : (1 : Int) < ln := by omega
 have gn1 : 1 < ln := by omega
 have gi2 : (2 : Int) < ln := by omega
 have gn2 : 2 < ln := by omega
 obtain ⟨q0, hq0⟩ : ∃ x, t.l[0]? = some x := ⟨_, List.getElem?_eq_getElem (by omega)⟩
 obtain ⟨cs0, hcs0, hcc0⟩ := NtL.get t.l (k + 1) gp 0 0 q0 hNL hq0
 obtain ⟨Aa0, na0, ca0, Bv0, bc0, rfl, hf0, hr0⟩ := (NtP_eq _ _ _ _ _).1 hcs0
 obtain ⟨ek0, hek0⟩ : ∃ x : Int, ((k + 1 + sizes (t.l.take 0) + q0.size : Nat) : Int) = x := ⟨_, rfl⟩
 obtain ⟨kp0, hkp0⟩ : ∃ x, partK t k 0 = x := ⟨_, rfl⟩
 rw [hek0, show ((k + 1 + sizes (t.l.take 0) : Nat) : Int) = kp0 from hkp0] at hcc0
 obtain ⟨ql0, hql0⟩ : ∃ x, q0.l.length = x := ⟨_, rfl⟩
 rw [hql0] at hcc0
 have ep0 := fun j (hj : j < 8) => hcc0 j hj
 simp only [Nat.zero_add] at ep0
 obtain ⟨q1, hq1⟩ : ∃ x, t.l[1]? = some x := ⟨_, List.getElem?_eq_getElem (by omega)⟩
 obtain ⟨cs1, hcs1, hcc1⟩ := NtL.get t.l (k + 1) gp 0 1 q1 hNL hq1
 obtain ⟨Aa1, na1, ca1, Bv1, bc1, rfl, hf1, hr1⟩ := (NtP_eq _ _ _ _ _).1 hcs1
 obtain ⟨ek1, hek1⟩ : ∃ x : Int, ((k + 1 + sizes (t.l.take 1) + q1.size : Nat) : Int) = x := ⟨_, rfl⟩
 obtain ⟨kp1, hkp1⟩ : ∃ x, partK t k 1 = x := ⟨_, rfl⟩
 rw [hek1, show ((k + 1 + sizes (t.l.take 1) : Nat) : Int) = kp1 from hkp1] at hcc1
 rw [hkp1]
 obtain ⟨ql1, hql1⟩ : ∃ x, q1.l.length = x := ⟨_, rfl⟩
 rw [hql1] at hcc1
 have ep1 := fun j (hj : j < 8) => hcc1 j hj
 simp only [Nat.zero_add] at ep1
 obtain ⟨q2, hq2⟩ : ∃ x, t.l[2]? = some x := ⟨_, List.getElem?_eq_getElem (by omega)⟩
 obtain ⟨cs2, hcs2, hcc2⟩ := NtL.get t.l (k + 1) gp 0 2 q2 hNL hq2
 obtain ⟨Aa2, na2, ca2, Bv2, bc2, rfl, hf2, hr2⟩ := (NtP_eq _ _ _ _ _).1 hcs2
 obtain ⟨ek2, hek2⟩ : ∃ x : Int, ((k + 1 + sizes (t.l.take 2) + q2.size : Nat) : Int) = x := ⟨_, rfl⟩
 obtain ⟨kp2, hkp2⟩ : ∃ x, partK t k 2 = x := ⟨_, rfl⟩
 rw [hek2, show ((k + 1 + sizes (t.l.take 2) : Nat) : Int) = kp2 from hkp2] at hcc2
 rw [hkp2]
 obtain ⟨ql2, hql2⟩ : ∃ x, q2.l.length = x := ⟨_, rfl⟩
 rw [hql2] at hcc2
 have ep2 := fun j (hj : j < 8) => hcc2 j hj
 simp only [Nat.zero_add] at ep2
 obtain ⟨ek, hek⟩ : ∃ x, k + t.size = x := ⟨_, rfl⟩
 rw [hek, hln]
 unfold ntV
 obtain ⟨hal, hb0, hb1, hz2⟩ := alloc2 W (.cells #[.int .i64 t.op, .string (bs t.s), .int .i64 t.n, .slice A0 n0 c0, .int .i64 t.line, .int .i64 k, .int .i64 ek, .slice (some ⟨gp, 0, none⟩) ln c] 92) (.cells #[.int .i64 pf, .int .i64 pth, .bool ptg] 94)
 obtain ⟨W2, e2⟩ : ∃ x, (W.alloc (.cells #[.int .i64 t.op, .string (bs t.s), .int .i64 t.n, .slice A0 n0 c0, .int .i64 t.line, .int .i64 k, .int .i64 ek, .slice (some ⟨gp, 0, none⟩) ln c] 92)).alloc (.cells #[.int .i64 pf, .int .i64 pth, .bool ptg] 94) = x := ⟨_, rfl⟩
 rw [e2] at hal hb0 hb1 hz2
 have hM2 := hM.below hal
 obtain ⟨N, eN⟩ : ∃ x, W.heap.size = x := ⟨_, rfl⟩
 rw [eN] at hb0 hb1 hz2
 have hnN : ∀ i, N ≤ i → ¬ mkF Mb rv i := fun i hi h => by
  rcases h with h | h
  ·have := hM.lt; omega
  ·have := (hM.row.own i h).2; omega
 have hSN : ∀ i, S i → i < W2.heap.size ∧ ¬ mkF Mb rv i ∧ W2.heap[i]? = W.heap[i]? := fun i hi => ⟨by have := (hS i hi).1; omega, (hS i hi).2, hal.block i (hS i hi).1⟩
 have hcell : ∀ w' rv' rs', MkAt W0 w' Mb fB X fv fsv rv' rs' → Only (mkF Mb rv) W2 w' → (w'.cell? ⟨N, 0, none⟩ = some (.int .i64 t.op) ∧ w'.cell? ⟨N, 7, none⟩ = some (.slice (some ⟨gp, 0, none⟩) ln c) ∧ w'.cell? ⟨gp, 5, none⟩ = some (.int .i64 kp0) ∧ w'.cell? ⟨gp, 13, none⟩ = some (.int .i64 kp1) ∧ w'.cell? ⟨gp, 21, none⟩ = some (.int .i64 kp2) ∧ w'.cell? ⟨N, 5, none⟩ = some (.int .i64 k) ∧ w'.cell? ⟨N + 1, 0, none⟩ = some (.int .i64 pf) ∧ w'.cell? ⟨N + 1, 1, none⟩ = some (.int .i64 pth) ∧ w'.cell? ⟨N + 1, 2, none⟩ = some (.bool ptg)) := fun w' rv' rs' hm hb => by
  have h0 := (box8 ((hb.block N (heap_lt hb0) (hnN N (Nat.le_refl _))).trans hb0)).1
  have h1 := box3c ((hb.block (N + 1) (heap_lt hb1) (hnN (N + 1) (by omega))).trans hb1)
  have hpc : ∀ g j v, S g → W.cell? ⟨g, j, none⟩ = some v → w'.cell? ⟨g, j, none⟩ = some v := fun g j v hg h => (cell_block ((hb.block g (hSN g hg).1 (hSN g hg).2.1).trans (hSN g hg).2.2) ⟨g, j, none⟩ rfl).trans h
  exact ⟨h0.1, h0.2.2.2.2.2.2.2, hpc gp 5 _ hgp (ep0 5 (by omega)), hpc gp 13 _ hgp (ep1 5 (by omega)), hpc gp 21 _ hgp (ep2 5 (by omega)), h0.2.2.2.2.2.1, h1.1, h1.2.1, h1.2.2⟩
 have hMB := fun w (hb : Below W2.heap.size W2 w) => hM2.below hb
 have HMB := Lib.hid hMB
 have HC := Lib.hid hcell
 have HCB := Lib.hid (fun w (hb : Below W2.heap.size W2 w) => hcell w rv rs (hMB w hb) (Only.of_below hb))
 have HS0 := Lib.hid (hcell W2 rv rs hM2 (Only.refl _ _))
 have HSD := Lib.hid (hcell W2.drew rv rs (hM2.below (drew_below W2)) (Only.of_below (drew_below W2)))
 obtain ⟨x0, x1, x2, x3, x4, x5, x6, x7, x8⟩ := HS0.out
 have HM := Lib.hid (And.intro hM hal)
 have d1 : (t.op == 22) = false := by rw [hop]; rfl
 have d2 : (t.op == 21) = false := by rw [hop]; rfl
 have d3 : (t.op == 23) = true := by rw [hop]; rfl
 have HA := Lib.hid (fun w (hb : Below W2.heap.size W2 w) => (show Calls Tryz.prog 104 #[.pointer (some ⟨Mb, 0, none⟩), .agg #[.int .i64 pf, .int .i64 pth, .bool ptg], .slice (some ⟨w.heap.size, 0, none⟩) 2 2] (w.alloc (.cells #[.int .i64 3, .int .i64 0, .int .i64 kp1, .int .i64 k, .int .i64 0, .int .i64 0, .int .i64 0, .string ⟨#[]⟩, .slice none 0 0, .int .i64 3, .int .i64 0, .int .i64 kp2, .int .i64 k, .int .i64 0, .int .i64 0, .int .i64 0, .string ⟨#[]⟩, .slice none 0 0] 44)) (AddQ W0 Mb fB X fv fsv W2 rv (rs ++ [(subR kp1 k).at_ pf, (subR kp2 k).at_ pf])) from add_two hM2 hb ⟨pf, pth, ptg⟩ (subR kp1 k) (subR kp2 k) (.slice none 0 0) (.slice none 0 0) (IntsF.nil _ _) (IntsF.nil _ _) (by simp [subR]) (by simp [subR]) (by omega)))
 have HSub1 := Lib.hid (sub_any kp1 k W2.drew)
 clear hcell hnN hSN hMB hM hM2 hal hb0 hb1 hX ht htc hrow hS hek hop hNL hgp hn hln hq0 hcs0 hcc0 hf0 hr0 hek0 ep0 hkp0 hql0 hq1 hcs1 hcc1 hf1 hr1 hek1 ep1 hkp1 hql1 hq2 hcs2 hcc2 hf2 hr2 hek2 ep2 hkp2 hql2
 go_enter Tryz.func68, Tryz.ntmps68
 go_upto_region 7 with fail
 go_region_held3 (fun w' => w'.cell? ⟨N, 0, none⟩ = some (.int .i64 t.op) ∧ w'.cell? ⟨N, 7, none⟩ = some (.slice (some ⟨gp, 0, none⟩) ln c) ∧ w'.cell? ⟨gp, 5, none⟩ = some (.int .i64 kp0) ∧ w'.cell? ⟨gp, 13, none⟩ = some (.int .i64 kp1) ∧ w'.cell? ⟨gp, 21, none⟩ = some (.int .i64 kp2) ∧ w'.cell? ⟨N, 5, none⟩ = some (.int .i64 k) ∧ w'.cell? ⟨N + 1, 0, none⟩ = some (.int .i64 pf) ∧ w'.cell? ⟨N + 1, 1, none⟩ = some (.int .i64 pth) ∧ w'.cell? ⟨N + 1, 2, none⟩ = some (.bool ptg))
  (first | go_keep | exact HSD.out | exact HSu3.out | exact HTu3.out | exact HSu4.out | exact HTu4.out | exact HS9.out)
  (first
   | (go_at_call 105; refine HSub1.out.mono ?_; clear HSub1; rintro e u3 ⟨rfl, hbu3⟩; have HBu3 := Lib.hid (below_of_drew hbu3); have HSu3 := Lib.hid (HCB.out u3 HBu3.out); have HTu3 := Lib.hid (HCB.out (u3.alloc (.cells #[.int .i64 3, .int .i64 0, .int .i64 kp1, .int .i64 k, .int .i64 0, .int .i64 0, .int .i64 0, .string ⟨#[]⟩, .slice none 0 0, .int .i64 3, .int .i64 0, .int .i64 kp2, .int .i64 k, .int .i64 0, .int .i64 0, .int .i64 0, .string ⟨#[]⟩, .slice none 0 0] 44)) (HBu3.out.trans ((below_alloc9 u3 _).mono HBu3.out.size))); clear hbu3)
   | (go_at_call 105; refine (sub_any kp2 k u3).mono ?_; rintro e u4 ⟨rfl, hbu4⟩; have HBu4 := Lib.hid (HBu3.out.trans (hbu4.mono HBu3.out.size)); have HSu4 := Lib.hid (HCB.out u4 HBu4.out); have HTu4 := Lib.hid (HCB.out (u4.alloc (.cells #[.int .i64 3, .int .i64 0, .int .i64 kp1, .int .i64 k, .int .i64 0, .int .i64 0, .int .i64 0, .string ⟨#[]⟩, .slice none 0 0, .int .i64 3, .int .i64 0, .int .i64 kp2, .int .i64 k, .int .i64 0, .int .i64 0, .int .i64 0, .string ⟨#[]⟩, .slice none 0 0] 44)) (HBu4.out.trans ((below_alloc9 u4 _).mono HBu4.out.size))); clear hbu4)
   | (go_at_call 104; refine (HA.out u4 HBu4.out).mono ?_; rintro e u9 ⟨⟨v0, rfl⟩, rv5, hm5, ho5, hn5⟩; have HS9 := Lib.hid (HC.out u9 rv5 _ hm5 ho5); have HQ := Lib.hid (And.intro hm5 (And.intro ho5 hn5)); clear hm5 ho5 hn5))
 all_goals
  go_wp2
  go_end0
  exact AddQ.pre HM.out.1 HM.out.2 ⟨⟨_, rfl⟩, rv5, HQ.out⟩
end
end Go.Proofs.YtikbfoichhkeaaaGreat
