/- rules: this. -/
import Derived.Test.YtikbfoichhkeaaaGreatVm28
set_option linter.unusedSimpArgs false
set_option linter.unusedVariables false
set_option maxRecDepth 100000
set_option maxHeartbeats 40000000
namespace Go.Proofs.YtikbfoichhkeaaaGreat
section
open Go.RowKit Go.Proofs
theorem m_this {W0 W : World} {Mb fB : Nat} {X : Cx} {fv fsv rv : Value} {rs : List Ru} (hX : CxOK X) (hM : MkAt W0 W Mb fB X fv fsv rv rs) {S : Nat → Prop} {t : Tr} {k : Nat} {cs : List Value} (ht : NtP W S t k cs) (hS : ∀ i, S i → i < W.heap.size ∧ ¬ mkF Mb rv i)  {jf : Nat} {sf : FS} (pth : Int) (ptg : Bool) (hfs0 : X.fs[jf]? = some sf) (hr : rs.length ≤ 600000) :
  Calls Tryz.prog 61 #[.pointer (some ⟨Mb, 0, none⟩), .agg cs.toArray, .agg #[.int .i64 (jf : Nat), .int .i64 pth, .bool ptg]] W (AddQ W0 Mb fB X fv fsv W rv (rs ++ [(subR sf.this k).at_ (jf : Nat)])) := by
 obtain ⟨A0, n0, c0, A, c, rfl, htc, hrow⟩ := (NtP_eq _ _ _ _ _).1 ht
 obtain ⟨ek, hek⟩ : ∃ x, k + t.size = x := ⟨_, rfl⟩
 rw [hek]
 unfold ntV
 obtain ⟨hal, hb0, hb1, hz2⟩ := alloc2 W (.cells #[.int .i64 t.op, .string (bs t.s), .int .i64 t.n, .slice A0 n0 c0, .int .i64 t.line, .int .i64 k, .int .i64 ek, .slice A t.l.length c] 92) (.cells #[.int .i64 (jf : Nat), .int .i64 pth, .bool ptg] 94)
 obtain ⟨W2, e2⟩ : ∃ x, (W.alloc (.cells #[.int .i64 t.op, .string (bs t.s), .int .i64 t.n, .slice A0 n0 c0, .int .i64 t.line, .int .i64 k, .int .i64 ek, .slice A t.l.length c] 92)).alloc (.cells #[.int .i64 (jf : Nat), .int .i64 pth, .bool ptg] 94) = x := ⟨_, rfl⟩
 rw [e2] at hal hb0 hb1 hz2
 have hM2 := hM.below hal
 obtain ⟨N, eN⟩ : ∃ x, W.heap.size = x := ⟨_, rfl⟩
 rw [eN] at hb0 hb1 hz2
 obtain ⟨As2, cs2, efs⟩ := hM.fs0.form
 have hfs9 := hM.fs0
 rw [efs] at hfs9
 obtain ⟨g2, off2, v2, rfl, hg2, -, f0, f1, f2, f3, f4⟩ := fs_get hfs9 jf sf hfs0
 have hjl : jf < X.fs.length := (List.getElem?_eq_some_iff.1 hfs0).1
 have hfs : ∀ w' {rv' rs'}, MkAt W0 w' Mb fB X fv fsv rv' rs' → (w'.cell? ⟨g2, off2 + jf * 5 + 1, none⟩ = some v2 ∧ w'.cell? ⟨g2, off2 + jf * 5 + 2, none⟩ = some (.int .i64 sf.this) ∧ w'.cell? ⟨g2, off2 + jf * 5 + 3, none⟩ = some (.int .i64 sf.ret) ∧ w'.cell? ⟨g2, off2 + jf * 5 + 4, none⟩ = some (.int .i64 sf.thr)) := fun w' rv' rs' hm => by
  have hl := hm.low
  have h9 : ∀ o v, W0.cell? ⟨g2, o, none⟩ = some v → w'.cell? ⟨g2, o, none⟩ = some v := fun o v h => (hl.cell (p := ⟨g2, o, none⟩) (by have := hm.size0; show g2 < Mb; omega)).trans h
  exact ⟨h9 _ _ f1, h9 _ _ f2, h9 _ _ f3, h9 _ _ f4⟩
 have hnN : ∀ i, N ≤ i → ¬ mkF Mb rv i := fun i hi h => by
  rcases h with h | h
  ·have := hM.lt; omega
  ·have := (hM.row.own i h).2; omega
 have hSN : ∀ i, S i → i < W2.heap.size ∧ ¬ mkF Mb rv i ∧ W2.heap[i]? = W.heap[i]? := fun i hi => ⟨by have := (hS i hi).1; omega, (hS i hi).2, hal.block i (hS i hi).1⟩
 have hcell : ∀ w' rv' rs', MkAt W0 w' Mb fB X fv fsv rv' rs' → Only (mkF Mb rv) W2 w' → (w'.cell? ⟨Mb, 2, none⟩ = some (.slice (some ⟨g2, off2, none⟩) X.fs.length cs2) ∧ w'.cell? ⟨g2, off2 + jf * 5 + 2, none⟩ = some (.int .i64 sf.this) ∧ w'.cell? ⟨N, 5, none⟩ = some (.int .i64 k) ∧ w'.cell? ⟨N + 1, 0, none⟩ = some (.int .i64 (jf : Nat)) ∧ w'.cell? ⟨N + 1, 1, none⟩ = some (.int .i64 pth) ∧ w'.cell? ⟨N + 1, 2, none⟩ = some (.bool ptg)) := fun w' rv' rs' hm hb => by
  have h0 := (box8 ((hb.block N (heap_lt hb0) (hnN N (Nat.le_refl _))).trans hb0)).1
  have h1 := box3c ((hb.block (N + 1) (heap_lt hb1) (hnN (N + 1) (by omega))).trans hb1)
  have hpc : ∀ g j v, S g → W.cell? ⟨g, j, none⟩ = some v → w'.cell? ⟨g, j, none⟩ = some v := fun g j v hg h => (cell_block ((hb.block g (hSN g hg).1 (hSN g hg).2.1).trans (hSN g hg).2.2) ⟨g, j, none⟩ rfl).trans h
  exact ⟨(hm.cells.1.2.2.1.trans (congrArg some efs)), (hfs w' hm).2.1, h0.2.2.2.2.2.1, h1.1, h1.2.1, h1.2.2⟩
 have hMB := fun w (hb : Below W2.heap.size W2 w) => hM2.below hb
 have HMB := Lib.hid hMB
 have HC := Lib.hid hcell
 have HCB := Lib.hid (fun w (hb : Below W2.heap.size W2 w) => hcell w rv rs (hMB w hb) (Only.of_below hb))
 have HS0 := Lib.hid (hcell W2 rv rs hM2 (Only.refl _ _))
 have HSD := Lib.hid (hcell W2.drew rv rs (hM2.below (drew_below W2)) (Only.of_below (drew_below W2)))
 obtain ⟨x0, x1, x2, x3, x4, x5⟩ := HS0.out
 have HM := Lib.hid (And.intro hM hal)
 have HA := Lib.hid (fun w (hb : Below W2.heap.size W2 w) => (show Calls Tryz.prog 104 #[.pointer (some ⟨Mb, 0, none⟩), .agg #[.int .i64 (jf : Nat), .int .i64 pth, .bool ptg], .slice (some ⟨w.heap.size, 0, none⟩) 1 1] (w.alloc (.cells #[.int .i64 3, .int .i64 0, .int .i64 sf.this, .int .i64 k, .int .i64 0, .int .i64 0, .int .i64 0, .string ⟨#[]⟩, .slice none 0 0] 44)) (AddQ W0 Mb fB X fv fsv W2 rv (rs ++ [(subR sf.this k).at_ (jf : Nat)])) from add_one hM2 hb ⟨(jf : Nat), pth, ptg⟩ (subR sf.this k) (.slice none 0 0) (IntsF.nil _ _) (by simp [subR]) (by omega)))
 clear hcell hnN hSN hMB hM hM2 hal hb0 hb1 hX ht htc hrow hS hek hfs f0 f1 f2 f3 f4 hfs0 hfs9 efs
 go_enter Tryz.func61, Tryz.ntmps61
 go_upto_region 1 with fail
 go_region_held3 (fun w' => w'.cell? ⟨Mb, 2, none⟩ = some (.slice (some ⟨g2, off2, none⟩) X.fs.length cs2) ∧ w'.cell? ⟨g2, off2 + jf * 5 + 2, none⟩ = some (.int .i64 sf.this) ∧ w'.cell? ⟨N, 5, none⟩ = some (.int .i64 k) ∧ w'.cell? ⟨N + 1, 0, none⟩ = some (.int .i64 (jf : Nat)) ∧ w'.cell? ⟨N + 1, 1, none⟩ = some (.int .i64 pth) ∧ w'.cell? ⟨N + 1, 2, none⟩ = some (.bool ptg))
  (first | go_keep | exact HSD.out | exact HSu3.out | exact HTu3.out | exact HS9.out)
  (first
   | (go_at_call 105; refine (sub_any sf.this k W2.drew).mono ?_; rintro e u3 ⟨rfl, hbu3⟩; have HBu3 := Lib.hid (below_of_drew hbu3); have HSu3 := Lib.hid (HCB.out u3 HBu3.out); have HTu3 := Lib.hid (HCB.out (u3.alloc (.cells #[.int .i64 3, .int .i64 0, .int .i64 sf.this, .int .i64 k, .int .i64 0, .int .i64 0, .int .i64 0, .string ⟨#[]⟩, .slice none 0 0] 44)) (HBu3.out.trans ((below_alloc9 u3 _).mono HBu3.out.size))); clear hbu3)
   | (go_at_call 104; refine (HA.out u3 HBu3.out).mono ?_; rintro e u9 ⟨⟨v0, rfl⟩, rv5, hm5, ho5, hn5⟩; have HS9 := Lib.hid (HC.out u9 rv5 _ hm5 ho5); have HQ := Lib.hid (And.intro hm5 (And.intro ho5 hn5)); clear hm5 ho5 hn5))
 all_goals
  go_wp2
  go_end0
  exact AddQ.pre HM.out.1 HM.out.2 ⟨⟨_, rfl⟩, rv5, HQ.out⟩
theorem m_id {W0 W : World} {Mb fB : Nat} {X : Cx} {fv fsv rv : Value} {rs : List Ru} (hX : CxOK X) (hM : MkAt W0 W Mb fB X fv fsv rv rs) {S : Nat → Prop} {t : Tr} {k : Nat} {cs : List Value} (ht : NtP W S t k cs) (hS : ∀ i, S i → i < W.heap.size ∧ ¬ mkF Mb rv i)  (pf pth : Int) (ptg : Bool) {j i : Nat} {f : Fn} {s : FS} (hv : VarOK X t.n j i f s) (hr : rs.length ≤ 600000) :
  Calls Tryz.prog 60 #[.pointer (some ⟨Mb, 0, none⟩), .agg cs.toArray, .agg #[.int .i64 pf, .int .i64 pth, .bool ptg]] W (AddQ W0 Mb fB X fv fsv W rv (rs ++ [(subR (X.var t.n) k).at_ pf])) := by
 obtain ⟨A0, n0, c0, A, c, rfl, htc, hrow⟩ := (NtP_eq _ _ _ _ _).1 ht
 obtain ⟨ek, hek⟩ : ∃ x, k + t.size = x := ⟨_, rfl⟩
 rw [hek]
 unfold ntV
 obtain ⟨hal, hb0, hb1, hz2⟩ := alloc2 W (.cells #[.int .i64 t.op, .string (bs t.s), .int .i64 t.n, .slice A0 n0 c0, .int .i64 t.line, .int .i64 k, .int .i64 ek, .slice A t.l.length c] 92) (.cells #[.int .i64 pf, .int .i64 pth, .bool ptg] 94)
 obtain ⟨W2, e2⟩ : ∃ x, (W.alloc (.cells #[.int .i64 t.op, .string (bs t.s), .int .i64 t.n, .slice A0 n0 c0, .int .i64 t.line, .int .i64 k, .int .i64 ek, .slice A t.l.length c] 92)).alloc (.cells #[.int .i64 pf, .int .i64 pth, .bool ptg] 94) = x := ⟨_, rfl⟩
 rw [e2] at hal hb0 hb1 hz2
 have hM2 := hM.below hal
 obtain ⟨N, eN⟩ : ∃ x, W.heap.size = x := ⟨_, rfl⟩
 rw [eN] at hb0 hb1 hz2
 obtain ⟨x, hx⟩ : ∃ x, X.var t.n = x := ⟨_, rfl⟩
 have hV := fun w (hb : Below W2.heap.size W2 w) => variable_ok hX (hM2.below hb) hv
 rw [hx] at hV ⊢
 have HV := Lib.hid hV
 have hnN : ∀ i, N ≤ i → ¬ mkF Mb rv i := fun i hi h => by
  rcases h with h | h
  ·have := hM.lt; omega
  ·have := (hM.row.own i h).2; omega
 have hSN : ∀ i, S i → i < W2.heap.size ∧ ¬ mkF Mb rv i ∧ W2.heap[i]? = W.heap[i]? := fun i hi => ⟨by have := (hS i hi).1; omega, (hS i hi).2, hal.block i (hS i hi).1⟩
 have hcell : ∀ w' rv' rs', MkAt W0 w' Mb fB X fv fsv rv' rs' → Only (mkF Mb rv) W2 w' → (w'.cell? ⟨N, 2, none⟩ = some (.int .i64 t.n) ∧ w'.cell? ⟨N, 5, none⟩ = some (.int .i64 k) ∧ w'.cell? ⟨N + 1, 0, none⟩ = some (.int .i64 pf) ∧ w'.cell? ⟨N + 1, 1, none⟩ = some (.int .i64 pth) ∧ w'.cell? ⟨N + 1, 2, none⟩ = some (.bool ptg)) := fun w' rv' rs' hm hb => by
  have h0 := (box8 ((hb.block N (heap_lt hb0) (hnN N (Nat.le_refl _))).trans hb0)).1
  have h1 := box3c ((hb.block (N + 1) (heap_lt hb1) (hnN (N + 1) (by omega))).trans hb1)
  have hpc : ∀ g j v, S g → W.cell? ⟨g, j, none⟩ = some v → w'.cell? ⟨g, j, none⟩ = some v := fun g j v hg h => (cell_block ((hb.block g (hSN g hg).1 (hSN g hg).2.1).trans (hSN g hg).2.2) ⟨g, j, none⟩ rfl).trans h
  exact ⟨h0.2.2.1, h0.2.2.2.2.2.1, h1.1, h1.2.1, h1.2.2⟩
 have hMB := fun w (hb : Below W2.heap.size W2 w) => hM2.below hb
 have HMB := Lib.hid hMB
 have HC := Lib.hid hcell
 have HCB := Lib.hid (fun w (hb : Below W2.heap.size W2 w) => hcell w rv rs (hMB w hb) (Only.of_below hb))
 have HS0 := Lib.hid (hcell W2 rv rs hM2 (Only.refl _ _))
 have HSD := Lib.hid (hcell W2.drew rv rs (hM2.below (drew_below W2)) (Only.of_below (drew_below W2)))
 obtain ⟨x0, x1, x2, x3, x4⟩ := HS0.out
 have HM := Lib.hid (And.intro hM hal)
 have HA := Lib.hid (fun w (hb : Below W2.heap.size W2 w) => (show Calls Tryz.prog 104 #[.pointer (some ⟨Mb, 0, none⟩), .agg #[.int .i64 pf, .int .i64 pth, .bool ptg], .slice (some ⟨w.heap.size, 0, none⟩) 1 1] (w.alloc (.cells #[.int .i64 3, .int .i64 0, .int .i64 x, .int .i64 k, .int .i64 0, .int .i64 0, .int .i64 0, .string ⟨#[]⟩, .slice none 0 0] 44)) (AddQ W0 Mb fB X fv fsv W2 rv (rs ++ [(subR x k).at_ pf])) from add_one hM2 hb ⟨pf, pth, ptg⟩ (subR x k) (.slice none 0 0) (IntsF.nil _ _) (by simp [subR]) (by omega)))
 clear hcell hnN hSN hMB hM hM2 hal hb0 hb1 hX ht htc hrow hS hek hV hv
 go_enter Tryz.func60, Tryz.ntmps60
 go_upto_region 1 with fail
 go_region_held3 (fun w' => w'.cell? ⟨N, 2, none⟩ = some (.int .i64 t.n) ∧ w'.cell? ⟨N, 5, none⟩ = some (.int .i64 k) ∧ w'.cell? ⟨N + 1, 0, none⟩ = some (.int .i64 pf) ∧ w'.cell? ⟨N + 1, 1, none⟩ = some (.int .i64 pth) ∧ w'.cell? ⟨N + 1, 2, none⟩ = some (.bool ptg))
  (first | go_keep | exact HSD.out | exact HSu3.out | exact HSu4.out | exact HTu4.out | exact HS9.out)
  (first
   | (go_at_call 106; refine (HV.out W2.drew (drew_below W2)).mono ?_; rintro e u3 ⟨rfl, hbu3⟩; have HBu3 := Lib.hid (below_of_drew hbu3); have HSu3 := Lib.hid (HCB.out u3 HBu3.out); clear hbu3)
   | (go_at_call 105; refine (sub_any x k u3).mono ?_; rintro e u4 ⟨rfl, hbu4⟩; have HBu4 := Lib.hid (HBu3.out.trans (hbu4.mono HBu3.out.size)); have HSu4 := Lib.hid (HCB.out u4 HBu4.out); have HTu4 := Lib.hid (HCB.out (u4.alloc (.cells #[.int .i64 3, .int .i64 0, .int .i64 x, .int .i64 k, .int .i64 0, .int .i64 0, .int .i64 0, .string ⟨#[]⟩, .slice none 0 0] 44)) (HBu4.out.trans ((below_alloc9 u4 _).mono HBu4.out.size))); clear hbu4)
   | (go_at_call 104; refine (HA.out u4 HBu4.out).mono ?_; rintro e u9 ⟨⟨v0, rfl⟩, rv5, hm5, ho5, hn5⟩; have HS9 := Lib.hid (HC.out u9 rv5 _ hm5 ho5); have HQ := Lib.hid (And.intro hm5 (And.intro ho5 hn5)); clear hm5 ho5 hn5))
 all_goals
  go_wp2
  go_end0
  exact AddQ.pre HM.out.1 HM.out.2 ⟨⟨_, rfl⟩, rv5, HQ.out⟩
theorem m_member {W0 W : World} {Mb fB : Nat} {X : Cx} {fv fsv rv : Value} {rs : List Ru} (hX : CxOK X) (hM : MkAt W0 W Mb fB X fv fsv rv rs) {S : Nat → Prop} {t : Tr} {k : Nat} {cs : List Value} (ht : NtP W S t k cs) (hS : ∀ i, S i → i < W.heap.size ∧ ¬ mkF Mb rv i)  (hn : 1 ≤ t.l.length) (pf pth : Int) (ptg : Bool) (hr : rs.length ≤ 600000) :
  Calls Tryz.prog 65 #[.pointer (some ⟨Mb, 0, none⟩), .agg cs.toArray, .agg #[.int .i64 pf, .int .i64 pth, .bool ptg]] W (AddQ W0 Mb fB X fv fsv W rv (rs ++ [((⟨4, 0, partK t k 0, k, 0, 0, 0, t.s, []⟩ : Ru)).at_ pf])) := by
 obtain ⟨A0, n0, c0, A, c, rfl, htc, hrow⟩ := (NtP_eq _ _ _ _ _).1 ht
 obtain ⟨gp, rfl, hgp, hNL⟩ := hrow (by omega)
 obtain ⟨ln, hln⟩ : ∃ x, t.l.length = x := ⟨_, rfl⟩
 have htc2 : ln ≤ c ∧ c ≤ 9223372036854775807 := by rw [← hln]; exact ⟨htc.1, htc.2.1⟩
 obtain ⟨htc3, htc4⟩ := htc2
 have gi0 : (0 : Int) < ln := by omega
 have gn0 : 0 < ln := by omega
 obtain ⟨q0, hq0⟩ : ∃ x, t.l[0]? = some x := ⟨_, List.getElem?_eq_getElem (by omega)⟩
 obtain ⟨cs0, hcs0, hcc0⟩ := NtL.get t.l (k + 1) gp 0 0 q0 hNL hq0
 obtain ⟨Aa0, na0, ca0, Bv0, bc0, rfl, hf0, hr0⟩ := (NtP_eq _ _ _ _ _).1 hcs0
 obtain ⟨ek0, hek0⟩ : ∃ x : Int, ((k + 1 + sizes (t.l.take 0) + q0.size : Nat) : Int) = x := ⟨_, rfl⟩
 obtain ⟨kp0, hkp0⟩ : ∃ x, partK t k 0 = x := ⟨_, rfl⟩
 rw [hek0, show ((k + 1 + sizes (t.l.take 0) : Nat) : Int) = kp0 from hkp0] at hcc0
 rw [hkp0]
 obtain ⟨ql0, hql0⟩ : ∃ x, q0.l.length = x := ⟨_, rfl⟩
 rw [hql0] at hcc0
 have ep0 := fun j (hj : j < 8) => hcc0 j hj
 simp only [Nat.zero_add] at ep0
 obtain ⟨ek, hek⟩ : ∃ x, k + t.size = x := ⟨_, rfl⟩
 rw [hek, hln]
 unfold ntV
 obtain ⟨hal, hb0, hb1, hz2⟩ := alloc2 W (.cells #[.int .i64 t.op, .string (bs t.s), .int .i64 t.n, .slice A0 n0 c0, .int .i64 t.line, .int .i64 k, .int .i64 ek, .slice (some ⟨gp, 0, none⟩) ln c] 92) (.cells #[.int .i64 pf, .int .i64 pth, .bool ptg] 94)
 obtain ⟨W2, e2⟩ : ∃ x, (W.alloc (.cells #[.int .i64 t.op, .string (bs t.s), .int .i64 t.n, .slice A0 n0 c0, .int .i64 t.line, .int .i64 k, .int .i64 ek, .slice (some ⟨gp, 0, none⟩) ln c] 92)).alloc (.cells #[.int .i64 pf, .int .i64 pth, .bool ptg] 94) = x := ⟨_, rfl⟩
 rw [e2] at hal hb0 hb1 hz2
 have hM2 := hM.below hal
 obtain ⟨N, eN⟩ : ∃ x, W.heap.size = x := ⟨_, rfl⟩
 rw [eN] at hb0 hb1 hz2
 have hnN : ∀ i, N ≤ i → ¬ mkF Mb rv i := fun i hi h => by
  rcases h with h | h
  ·have := hM.lt; omega
  ·have := (hM.row.own i h).2; omega
 have hSN : ∀ i, S i → i < W2.heap.size ∧ ¬ mkF Mb rv i ∧ W2.heap[i]? = W.heap[i]? := fun i hi => ⟨by have := (hS i hi).1; omega, (hS i hi).2, hal.block i (hS i hi).1⟩
 have hcell : ∀ w' rv' rs', MkAt W0 w' Mb fB X fv fsv rv' rs' → Only (mkF Mb rv) W2 w' → (w'.cell? ⟨N, 7, none⟩ = some (.slice (some ⟨gp, 0, none⟩) ln c) ∧ w'.cell? ⟨gp, 5, none⟩ = some (.int .i64 kp0) ∧ w'.cell? ⟨N, 1, none⟩ = some (.string (bs t.s)) ∧ w'.cell? ⟨N, 5, none⟩ = some (.int .i64 k) ∧ w'.cell? ⟨N + 1, 0, none⟩ = some (.int .i64 pf) ∧ w'.cell? ⟨N + 1, 1, none⟩ = some (.int .i64 pth) ∧ w'.cell? ⟨N + 1, 2, none⟩ = some (.bool ptg)) := fun w' rv' rs' hm hb => by
  have h0 := (box8 ((hb.block N (heap_lt hb0) (hnN N (Nat.le_refl _))).trans hb0)).1
  have h1 := box3c ((hb.block (N + 1) (heap_lt hb1) (hnN (N + 1) (by omega))).trans hb1)
  have hpc : ∀ g j v, S g → W.cell? ⟨g, j, none⟩ = some v → w'.cell? ⟨g, j, none⟩ = some v := fun g j v hg h => (cell_block ((hb.block g (hSN g hg).1 (hSN g hg).2.1).trans (hSN g hg).2.2) ⟨g, j, none⟩ rfl).trans h
  exact ⟨h0.2.2.2.2.2.2.2, hpc gp 5 _ hgp (ep0 5 (by omega)), h0.2.1, h0.2.2.2.2.2.1, h1.1, h1.2.1, h1.2.2⟩
 have hMB := fun w (hb : Below W2.heap.size W2 w) => hM2.below hb
 have HMB := Lib.hid hMB
 have HC := Lib.hid hcell
 have HCB := Lib.hid (fun w (hb : Below W2.heap.size W2 w) => hcell w rv rs (hMB w hb) (Only.of_below hb))
 have HS0 := Lib.hid (hcell W2 rv rs hM2 (Only.refl _ _))
 have HSD := Lib.hid (hcell W2.drew rv rs (hM2.below (drew_below W2)) (Only.of_below (drew_below W2)))
 obtain ⟨x0, x1, x2, x3, x4, x5, x6⟩ := HS0.out
 have HSl := Lib.hid (hcell (W2.drew.alloc (.cells #[.int .i64 4, .int .i64 0, .int .i64 kp0, .int .i64 k, .int .i64 0, .int .i64 0, .int .i64 0, .string (bs t.s), .slice none 0 0] 44)) rv rs ((hM2.below (drew_below W2)).below (below_alloc9 W2.drew _)) (Only.of_below ((drew_below W2).trans (below_alloc9 W2.drew _))))
 have HM := Lib.hid (And.intro hM hal)
 have HA := Lib.hid (fun w (hb : Below W2.heap.size W2 w) => (show Calls Tryz.prog 104 #[.pointer (some ⟨Mb, 0, none⟩), .agg #[.int .i64 pf, .int .i64 pth, .bool ptg], .slice (some ⟨w.heap.size, 0, none⟩) 1 1] (w.alloc (.cells #[.int .i64 4, .int .i64 0, .int .i64 kp0, .int .i64 k, .int .i64 0, .int .i64 0, .int .i64 0, .string (bs t.s), .slice none 0 0] 44)) (AddQ W0 Mb fB X fv fsv W2 rv (rs ++ [((⟨4, 0, kp0, k, 0, 0, 0, t.s, []⟩ : Ru)).at_ pf])) from add_one hM2 hb ⟨pf, pth, ptg⟩ ((⟨4, 0, kp0, k, 0, 0, 0, t.s, []⟩ : Ru)) (.slice none 0 0) (IntsF.nil _ _) htc.2.2.1 (by omega)))
 have hA2 := HA.out W2.drew (drew_below W2)
 rw [show W2.drew.heap.size = N + 2 from hz2] at hA2
 have HA2 := Lib.hid hA2
 clear hcell hnN hSN hMB hM hM2 hal hb0 hb1 hX ht htc hrow hS hek hA2 hNL hgp hn hln hq0 hcs0 hcc0 hf0 hr0 hek0 ep0 hkp0 hql0
 go_enter Tryz.func65, Tryz.ntmps65
 go_upto_region 1 with fail
 go_region_held3 (fun w' => w'.cell? ⟨N, 7, none⟩ = some (.slice (some ⟨gp, 0, none⟩) ln c) ∧ w'.cell? ⟨gp, 5, none⟩ = some (.int .i64 kp0) ∧ w'.cell? ⟨N, 1, none⟩ = some (.string (bs t.s)) ∧ w'.cell? ⟨N, 5, none⟩ = some (.int .i64 k) ∧ w'.cell? ⟨N + 1, 0, none⟩ = some (.int .i64 pf) ∧ w'.cell? ⟨N + 1, 1, none⟩ = some (.int .i64 pth) ∧ w'.cell? ⟨N + 1, 2, none⟩ = some (.bool ptg))
  (first | go_keep | exact HSD.out | exact HSl.out | exact HS9.out)
  (first
   | (go_at_call 104; refine HA2.out.mono ?_; rintro e u9 ⟨⟨v0, rfl⟩, rv5, hm5, ho5, hn5⟩; have HS9 := Lib.hid (HC.out u9 rv5 _ hm5 ho5); have HQ := Lib.hid (And.intro hm5 (And.intro ho5 hn5)); clear hm5 ho5 hn5))
 all_goals
  go_wp2
  go_end0
  exact AddQ.pre HM.out.1 HM.out.2 ⟨⟨_, rfl⟩, rv5, HQ.out⟩
theorem m_index {W0 W : World} {Mb fB : Nat} {X : Cx} {fv fsv rv : Value} {rs : List Ru} (hX : CxOK X) (hM : MkAt W0 W Mb fB X fv fsv rv rs) {S : Nat → Prop} {t : Tr} {k : Nat} {cs : List Value} (ht : NtP W S t k cs) (hS : ∀ i, S i → i < W.heap.size ∧ ¬ mkF Mb rv i)  (hn : 1 ≤ t.l.length) (pf pth : Int) (ptg : Bool) (hr : rs.length ≤ 600000) :
  Calls Tryz.prog 66 #[.pointer (some ⟨Mb, 0, none⟩), .agg cs.toArray, .agg #[.int .i64 pf, .int .i64 pth, .bool ptg]] W (AddQ W0 Mb fB X fv fsv W rv (rs ++ [((⟨5, 0, partK t k 0, k, 0, 0, 0, [], []⟩ : Ru)).at_ pf])) := by
 obtain ⟨A0, n0, c0, A, c, rfl, htc, hrow⟩ := (NtP_eq _ _ _ _ _).1 ht
 obtain ⟨gp, rfl, hgp, hNL⟩ := hrow (by omega)
 obtain ⟨ln, hln⟩ : ∃ x, t.l.length = x := ⟨_, rfl⟩
 have htc2 : ln ≤ c ∧ c ≤ 9223372036854775807 := by rw [← hln]; exact ⟨htc.1, htc.2.1⟩
 obtain ⟨htc3, htc4⟩ := htc2
 have gi0 : (0 : Int) < ln := by omega
 have gn0 : 0 < ln := by omega
 obtain ⟨q0, hq0⟩ : ∃ x, t.l[0]? = some x := ⟨_, List.getElem?_eq_getElem (by omega)⟩
 obtain ⟨cs0, hcs0, hcc0⟩ := NtL.get t.l (k + 1) gp 0 0 q0 hNL hq0
 obtain ⟨Aa0, na0, ca0, Bv0, bc0, rfl, hf0, hr0⟩ := (NtP_eq _ _ _ _ _).1 hcs0
 obtain ⟨ek0, hek0⟩ : ∃ x : Int, ((k + 1 + sizes (t.l.take 0) + q0.size : Nat) : Int) = x := ⟨_, rfl⟩
 obtain ⟨kp0, hkp0⟩ : ∃ x, partK t k 0 = x := ⟨_, rfl⟩
 rw [hek0, show ((k + 1 + sizes (t.l.take 0) : Nat) : Int) = kp0 from hkp0] at hcc0
 rw [hkp0]
 obtain ⟨ql0, hql0⟩ : ∃ x, q0.l.length = x := ⟨_, rfl⟩
 rw [hql0] at hcc0
 have ep0 := fun j (hj : j < 8) => hcc0 j hj
 simp only [Nat.zero_add] at ep0
 obtain ⟨ek, hek⟩ : ∃ x, k + t.size = x := ⟨_, rfl⟩
 rw [hek, hln]
 unfold ntV
 obtain ⟨hal, hb0, hb1, hz2⟩ := alloc2 W (.cells #[.int .i64 t.op, .string (bs t.s), .int .i64 t.n, .slice A0 n0 c0, .int .i64 t.line, .int .i64 k, .int .i64 ek, .slice (some ⟨gp, 0, none⟩) ln c] 92) (.cells #[.int .i64 pf, .int .i64 pth, .bool ptg] 94)
 obtain ⟨W2, e2⟩ : ∃ x, (W.alloc (.cells #[.int .i64 t.op, .string (bs t.s), .int .i64 t.n, .slice A0 n0 c0, .int .i64 t.line, .int .i64 k, .int .i64 ek, .slice (some ⟨gp, 0, none⟩) ln c] 92)).alloc (.cells #[.int .i64 pf, .int .i64 pth, .bool ptg] 94) = x := ⟨_, rfl⟩
 rw [e2] at hal hb0 hb1 hz2
 have hM2 := hM.below hal
 obtain ⟨N, eN⟩ : ∃ x, W.heap.size = x := ⟨_, rfl⟩
 rw [eN] at hb0 hb1 hz2
 have hnN : ∀ i, N ≤ i → ¬ mkF Mb rv i := fun i hi h => by
  rcases h with h | h
  ·have := hM.lt; omega
  ·have := (hM.row.own i h).2; omega
 have hSN : ∀ i, S i → i < W2.heap.size ∧ ¬ mkF Mb rv i ∧ W2.heap[i]? = W.heap[i]? := fun i hi => ⟨by have := (hS i hi).1; omega, (hS i hi).2, hal.block i (hS i hi).1⟩
 have hcell : ∀ w' rv' rs', MkAt W0 w' Mb fB X fv fsv rv' rs' → Only (mkF Mb rv) W2 w' → (w'.cell? ⟨N, 7, none⟩ = some (.slice (some ⟨gp, 0, none⟩) ln c) ∧ w'.cell? ⟨gp, 5, none⟩ = some (.int .i64 kp0) ∧ w'.cell? ⟨N, 5, none⟩ = some (.int .i64 k) ∧ w'.cell? ⟨N + 1, 0, none⟩ = some (.int .i64 pf) ∧ w'.cell? ⟨N + 1, 1, none⟩ = some (.int .i64 pth) ∧ w'.cell? ⟨N + 1, 2, none⟩ = some (.bool ptg)) := fun w' rv' rs' hm hb => by
  have h0 := (box8 ((hb.block N (heap_lt hb0) (hnN N (Nat.le_refl _))).trans hb0)).1
  have h1 := box3c ((hb.block (N + 1) (heap_lt hb1) (hnN (N + 1) (by omega))).trans hb1)
  have hpc : ∀ g j v, S g → W.cell? ⟨g, j, none⟩ = some v → w'.cell? ⟨g, j, none⟩ = some v := fun g j v hg h => (cell_block ((hb.block g (hSN g hg).1 (hSN g hg).2.1).trans (hSN g hg).2.2) ⟨g, j, none⟩ rfl).trans h
  exact ⟨h0.2.2.2.2.2.2.2, hpc gp 5 _ hgp (ep0 5 (by omega)), h0.2.2.2.2.2.1, h1.1, h1.2.1, h1.2.2⟩
 have hMB := fun w (hb : Below W2.heap.size W2 w) => hM2.below hb
 have HMB := Lib.hid hMB
 have HC := Lib.hid hcell
 have HCB := Lib.hid (fun w (hb : Below W2.heap.size W2 w) => hcell w rv rs (hMB w hb) (Only.of_below hb))
 have HS0 := Lib.hid (hcell W2 rv rs hM2 (Only.refl _ _))
 have HSD := Lib.hid (hcell W2.drew rv rs (hM2.below (drew_below W2)) (Only.of_below (drew_below W2)))
 obtain ⟨x0, x1, x2, x3, x4, x5⟩ := HS0.out
 have HSl := Lib.hid (hcell (W2.drew.alloc (.cells #[.int .i64 5, .int .i64 0, .int .i64 kp0, .int .i64 k, .int .i64 0, .int .i64 0, .int .i64 0, .string ⟨#[]⟩, .slice none 0 0] 44)) rv rs ((hM2.below (drew_below W2)).below (below_alloc9 W2.drew _)) (Only.of_below ((drew_below W2).trans (below_alloc9 W2.drew _))))
 have HM := Lib.hid (And.intro hM hal)
 have HA := Lib.hid (fun w (hb : Below W2.heap.size W2 w) => (show Calls Tryz.prog 104 #[.pointer (some ⟨Mb, 0, none⟩), .agg #[.int .i64 pf, .int .i64 pth, .bool ptg], .slice (some ⟨w.heap.size, 0, none⟩) 1 1] (w.alloc (.cells #[.int .i64 5, .int .i64 0, .int .i64 kp0, .int .i64 k, .int .i64 0, .int .i64 0, .int .i64 0, .string ⟨#[]⟩, .slice none 0 0] 44)) (AddQ W0 Mb fB X fv fsv W2 rv (rs ++ [((⟨5, 0, kp0, k, 0, 0, 0, [], []⟩ : Ru)).at_ pf])) from add_one hM2 hb ⟨pf, pth, ptg⟩ ((⟨5, 0, kp0, k, 0, 0, 0, [], []⟩ : Ru)) (.slice none 0 0) (IntsF.nil _ _) (by simp) (by omega)))
 have hA2 := HA.out W2.drew (drew_below W2)
 rw [show W2.drew.heap.size = N + 2 from hz2] at hA2
 have HA2 := Lib.hid hA2
 clear hcell hnN hSN hMB hM hM2 hal hb0 hb1 hX ht htc hrow hS hek hA2 hNL hgp hn hln hq0 hcs0 hcc0 hf0 hr0 hek0 ep0 hkp0 hql0
 go_enter Tryz.func66, Tryz.ntmps66
 go_upto_region 1 with fail
 go_region_held3 (fun w' => w'.cell? ⟨N, 7, none⟩ = some (.slice (some ⟨gp, 0, none⟩) ln c) ∧ w'.cell? ⟨gp, 5, none⟩ = some (.int .i64 kp0) ∧ w'.cell? ⟨N, 5, none⟩ = some (.int .i64 k) ∧ w'.cell? ⟨N + 1, 0, none⟩ = some (.int .i64 pf) ∧ w'.cell? ⟨N + 1, 1, none⟩ = some (.int .i64 pth) ∧ w'.cell? ⟨N + 1, 2, none⟩ = some (.bool ptg))
  (first | go_keep | exact HSD.out | exact HSl.out | exact HS9.out)
  (first
   | (go_at_call 104; refine HA2.out.mono ?_; rintro e u9 ⟨⟨v0, rfl⟩, rv5, hm5, ho5, hn5⟩; have HS9 := Lib.hid (HC.out u9 rv5 _ hm5 ho5); have HQ := Lib.hid (And.intro hm5 (And.intro ho5 hn5)); clear hm5 ho5 hn5))
 all_goals
  go_wp2
  go_end0
  exact AddQ.pre HM.out.1 HM.out.2 ⟨⟨_, rfl⟩, rv5, HQ.out⟩
theorem m_throw {W0 W : World} {Mb fB : Nat} {X : Cx} {fv fsv rv : Value} {rs : List Ru} (hX : CxOK X) (hM : MkAt W0 W Mb fB X fv fsv rv rs) {S : Nat → Prop} {t : Tr} {k : Nat} {cs : List Value} (ht : NtP W S t k cs) (hS : ∀ i, S i → i < W.heap.size ∧ ¬ mkF Mb rv i)  (hn : 1 ≤ t.l.length) (pf pth : Int) (ptg : Bool) (hr : rs.length ≤ 600000) :
  Calls Tryz.prog 73 #[.pointer (some ⟨Mb, 0, none⟩), .agg cs.toArray, .agg #[.int .i64 pf, .int .i64 pth, .bool ptg]] W (AddQ W0 Mb fB X fv fsv W rv (rs ++ [(subR (partK t k 0) pth).at_ pf])) := by
 obtain ⟨A0, n0, c0, A, c, rfl, htc, hrow⟩ := (NtP_eq _ _ _ _ _).1 ht
 obtain ⟨gp, rfl, hgp, hNL⟩ := hrow (by omega)
 obtain ⟨ln, hln⟩ : ∃ x, t.l.length = x := ⟨_, rfl⟩
 have htc2 : ln ≤ c ∧ c ≤ 9223372036854775807 := by rw [← hln]; exact ⟨htc.1, htc.2.1⟩
 obtain ⟨htc3, htc4⟩ := htc2
 have gi0 : (0 : Int) < ln := by omega
 have gn0 : 0 < ln := by omega
 obtain ⟨q0, hq0⟩ : ∃ x, t.l[0]? = some x := ⟨_, List.getElem?_eq_getElem (by omega)⟩
 obtain ⟨cs0, hcs0, hcc0⟩ := NtL.get t.l (k + 1) gp 0 0 q0 hNL hq0
 obtain ⟨Aa0, na0, ca0, Bv0, bc0, rfl, hf0, hr0⟩ := (NtP_eq _ _ _ _ _).1 hcs0
 obtain ⟨ek0, hek0⟩ : ∃ x : Int, ((k + 1 + sizes (t.l.take 0) + q0.size : Nat) : Int) = x := ⟨_, rfl⟩
 obtain ⟨kp0, hkp0⟩ : ∃ x, partK t k 0 = x := ⟨_, rfl⟩
 rw [hek0, show ((k + 1 + sizes (t.l.take 0) : Nat) : Int) = kp0 from hkp0] at hcc0
 rw [hkp0]
 obtain ⟨ql0, hql0⟩ : ∃ x, q0.l.length = x := ⟨_, rfl⟩
 rw [hql0] at hcc0
 have ep0 := fun j (hj : j < 8) => hcc0 j hj
 simp only [Nat.zero_add] at ep0
 obtain ⟨ek, hek⟩ : ∃ x, k + t.size = x := ⟨_, rfl⟩
 rw [hek, hln]
 unfold ntV
 obtain ⟨hal, hb0, hb1, hz2⟩ := alloc2 W (.cells #[.int .i64 t.op, .string (bs t.s), .int .i64 t.n, .slice A0 n0 c0, .int .i64 t.line, .int .i64 k, .int .i64 ek, .slice (some ⟨gp, 0, none⟩) ln c] 92) (.cells #[.int .i64 pf, .int .i64 pth, .bool ptg] 94)
 obtain ⟨W2, e2⟩ : ∃ x, (W.alloc (.cells #[.int .i64 t.op, .string (bs t.s), .int .i64 t.n, .slice A0 n0 c0, .int .i64 t.line, .int .i64 k, .int .i64 ek, .slice (some ⟨gp, 0, none⟩) ln c] 92)).alloc (.cells #[.int .i64 pf, .int .i64 pth, .bool ptg] 94) = x := ⟨_, rfl⟩
 rw [e2] at hal hb0 hb1 hz2
 have hM2 := hM.below hal
 obtain ⟨N, eN⟩ : ∃ x, W.heap.size = x := ⟨_, rfl⟩
 rw [eN] at hb0 hb1 hz2
 have hnN : ∀ i, N ≤ i → ¬ mkF Mb rv i := fun i hi h => by
  rcases h with h | h
  ·have := hM.lt; omega
  ·have := (hM.row.own i h).2; omega
 have hSN : ∀ i, S i → i < W2.heap.size ∧ ¬ mkF Mb rv i ∧ W2.heap[i]? = W.heap[i]? := fun i hi => ⟨by have := (hS i hi).1; omega, (hS i hi).2, hal.block i (hS i hi).1⟩
 have hcell : ∀ w' rv' rs', MkAt W0 w' Mb fB X fv fsv rv' rs' → Only (mkF Mb rv) W2 w' → (w'.cell? ⟨N, 7, none⟩ = some (.slice (some ⟨gp, 0, none⟩) ln c) ∧ w'.cell? ⟨gp, 5, none⟩ = some (.int .i64 kp0) ∧ w'.cell? ⟨N + 1, 0, none⟩ = some (.int .i64 pf) ∧ w'.cell? ⟨N + 1, 1, none⟩ = some (.int .i64 pth) ∧ w'.cell? ⟨N + 1, 2, none⟩ = some (.bool ptg)) := fun w' rv' rs' hm hb => by
  have h0 := (box8 ((hb.block N (heap_lt hb0) (hnN N (Nat.le_refl _))).trans hb0)).1
  have h1 := box3c ((hb.block (N + 1) (heap_lt hb1) (hnN (N + 1) (by omega))).trans hb1)
  have hpc : ∀ g j v, S g → W.cell? ⟨g, j, none⟩ = some v → w'.cell? ⟨g, j, none⟩ = some v := fun g j v hg h => (cell_block ((hb.block g (hSN g hg).1 (hSN g hg).2.1).trans (hSN g hg).2.2) ⟨g, j, none⟩ rfl).trans h
  exact ⟨h0.2.2.2.2.2.2.2, hpc gp 5 _ hgp (ep0 5 (by omega)), h1.1, h1.2.1, h1.2.2⟩
 have hMB := fun w (hb : Below W2.heap.size W2 w) => hM2.below hb
 have HMB := Lib.hid hMB
 have HC := Lib.hid hcell
 have HCB := Lib.hid (fun w (hb : Below W2.heap.size W2 w) => hcell w rv rs (hMB w hb) (Only.of_below hb))
 have HS0 := Lib.hid (hcell W2 rv rs hM2 (Only.refl _ _))
 have HSD := Lib.hid (hcell W2.drew rv rs (hM2.below (drew_below W2)) (Only.of_below (drew_below W2)))
 obtain ⟨x0, x1, x2, x3, x4⟩ := HS0.out
 have HM := Lib.hid (And.intro hM hal)
 have HA := Lib.hid (fun w (hb : Below W2.heap.size W2 w) => (show Calls Tryz.prog 104 #[.pointer (some ⟨Mb, 0, none⟩), .agg #[.int .i64 pf, .int .i64 pth, .bool ptg], .slice (some ⟨w.heap.size, 0, none⟩) 1 1] (w.alloc (.cells #[.int .i64 3, .int .i64 0, .int .i64 kp0, .int .i64 pth, .int .i64 0, .int .i64 0, .int .i64 0, .string ⟨#[]⟩, .slice none 0 0] 44)) (AddQ W0 Mb fB X fv fsv W2 rv (rs ++ [(subR kp0 pth).at_ pf])) from add_one hM2 hb ⟨pf, pth, ptg⟩ (subR kp0 pth) (.slice none 0 0) (IntsF.nil _ _) (by simp [subR]) (by omega)))
 clear hcell hnN hSN hMB hM hM2 hal hb0 hb1 hX ht htc hrow hS hek hNL hgp hn hln hq0 hcs0 hcc0 hf0 hr0 hek0 ep0 hkp0 hql0
 go_enter Tryz.func73, Tryz.ntmps73
 go_upto_region 1 with fail
 go_region_held3 (fun w' => w'.cell? ⟨N, 7, none⟩ = some (.slice (some ⟨gp, 0, none⟩) ln c) ∧ w'.cell? ⟨gp, 5, none⟩ = some (.int .i64 kp0) ∧ w'.cell? ⟨N + 1, 0, none⟩ = some (.int .i64 pf) ∧ w'.cell? ⟨N + 1, 1, none⟩ = some (.int .i64 pth) ∧ w'.cell? ⟨N + 1, 2, none⟩ = some (.bool ptg))
  (first | go_keep | exact HSD.out | exact HSu3.out | exact HTu3.out | exact HS9.out)
  (first
   | (go_at_call 105; refine (sub_any kp0 pth W2.drew).mono ?_; rintro e u3 ⟨rfl, hbu3⟩; have HBu3 := Lib.hid (below_of_drew hbu3); have HSu3 := Lib.hid (HCB.out u3 HBu3.out); have HTu3 := Lib.hid (HCB.out (u3.alloc (.cells #[.int .i64 3, .int .i64 0, .int .i64 kp0, .int .i64 pth, .int .i64 0, .int .i64 0, .int .i64 0, .string ⟨#[]⟩, .slice none 0 0] 44)) (HBu3.out.trans ((below_alloc9 u3 _).mono HBu3.out.size))); clear hbu3)
   | (go_at_call 104; refine (HA.out u3 HBu3.out).mono ?_; rintro e u9 ⟨⟨v0, rfl⟩, rv5, hm5, ho5, hn5⟩; have HS9 := Lib.hid (HC.out u9 rv5 _ hm5 ho5); have HQ := Lib.hid (And.intro hm5 (And.intro ho5 hn5)); clear hm5 ho5 hn5))
 all_goals
  go_wp2
  go_end0
  exact AddQ.pre HM.out.1 HM.out.2 ⟨⟨_, rfl⟩, rv5, HQ.out⟩
end
end Go.Proofs.YtikbfoichhkeaaaGreat
