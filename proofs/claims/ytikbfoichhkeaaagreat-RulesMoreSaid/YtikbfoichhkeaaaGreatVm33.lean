/- rules: call. -/
import Derived.Test.YtikbfoichhkeaaaGreatVm28
set_option linter.unusedSimpArgs false
set_option linter.unusedVariables false
set_option maxRecDepth 100000
set_option maxHeartbeats 40000000
namespace Go.Proofs.YtikbfoichhkeaaaGreat
section
open Go.RowKit Go.Proofs
theorem m_call {W0 W : World} {Mb fB : Nat} {X : Cx} {fv fsv rv : Value} {rs : List Ru} (hX : CxOK X) (hM : MkAt W0 W Mb fB X fv fsv rv rs) {S : Nat → Prop} {t : Tr} {k : Nat} {cs : List Value} (ht : NtP W S t k cs) (hS : ∀ i, S i → i < W.heap.size ∧ ¬ mkF Mb rv i)  (hn : 1 ≤ t.l.length) (pf pth : Int) (ptg : Bool) (hlnm : t.l.length ≤ 100000) (hgr : (t.part 0).op = 13 ∨ (t.part 0).op = 14 → 0 < (t.part 0).l.length) (hr : rs.length ≤ 600000) :
  Calls Tryz.prog 69 #[.pointer (some ⟨Mb, 0, none⟩), .agg cs.toArray, .agg #[.int .i64 pf, .int .i64 pth, .bool ptg]] W (AddQ W0 Mb fB X fv fsv W rv (rs ++ [((⟨8, 0, partK t k 0, k, if (t.part 0).op = 13 ∨ (t.part 0).op = 14 then partK t k 0 + 1 else -1, pth, t.n, [], setsK (t.l.drop 1) (k + 1 + (t.part 0).size)⟩ : Ru)).at_ pf])) := by
 obtain ⟨A0, n0, c0, A, c, rfl, htc, hrow⟩ := (NtP_eq _ _ _ _ _).1 ht
 obtain ⟨gp, rfl, hgp, hNL⟩ := hrow (by omega)
 obtain ⟨ln, hln⟩ : ∃ x, t.l.length = x := ⟨_, rfl⟩
 have htc2 : ln ≤ c ∧ c ≤ 9223372036854775807 := by rw [← hln]; exact ⟨htc.1, htc.2.1⟩
 obtain ⟨htc3, htc4⟩ := htc2
 have gi0 : (0 : Int) < ln := by omega
 have gn0 : 0 < ln := by omega
 obtain ⟨q0, hq0⟩ : ∃ x, t.l[0]? = some x := ⟨_, List.getElem?_eq_getElem (by omega)⟩
 obtain ⟨cs0, hcs0, hcc0⟩ := NtL.get t.l (k + 1) gp 0 0 q0 hNL hq0
 obtain ⟨Aa0, na0, ca0, Bv0, bc0, rfl, hf0, hr0⟩ := (NtP_eq _ _ _ _ _).1 hcs0
 obtain ⟨ek0, hek0⟩ : ∃ x : Int, ((k + 1 + sizes (t.l.take 0) + q0.size : Nat) : Int) = x := ⟨_, rfl⟩
 obtain ⟨kp0, hkp0⟩ : ∃ x, partK t k 0 = x := ⟨_, rfl⟩
 rw [hek0, show ((k + 1 + sizes (t.l.take 0) : Nat) : Int) = kp0 from hkp0] at hcc0
 rw [hkp0]
 obtain ⟨ql0, hql0⟩ : ∃ x, q0.l.length = x := ⟨_, rfl⟩
 rw [hql0] at hcc0
 have ep0 := fun j (hj : j < 8) => hcc0 j hj
 simp only [Nat.zero_add] at ep0
 obtain ⟨ek, hek⟩ : ∃ x, k + t.size = x := ⟨_, rfl⟩
 rw [hek, hln]
 unfold ntV
 obtain ⟨hal, hb0, hb1, hz2⟩ := alloc2 W (.cells #[.int .i64 t.op, .string (bs t.s), .int .i64 t.n, .slice A0 n0 c0, .int .i64 t.line, .int .i64 k, .int .i64 ek, .slice (some ⟨gp, 0, none⟩) ln c] 92) (.cells #[.int .i64 pf, .int .i64 pth, .bool ptg] 94)
 obtain ⟨W2, e2⟩ : ∃ x, (W.alloc (.cells #[.int .i64 t.op, .string (bs t.s), .int .i64 t.n, .slice A0 n0 c0, .int .i64 t.line, .int .i64 k, .int .i64 ek, .slice (some ⟨gp, 0, none⟩) ln c] 92)).alloc (.cells #[.int .i64 pf, .int .i64 pth, .bool ptg] 94) = x := ⟨_, rfl⟩
 rw [e2] at hal hb0 hb1 hz2
 have hM2 := hM.below hal
 obtain ⟨N, eN⟩ : ∃ x, W.heap.size = x := ⟨_, rfl⟩
 rw [eN] at hb0 hb1 hz2
 rw [show t.part 0 = q0 by unfold Tr.part; rw [hq0]; rfl] at hgr ⊢
 have hnN : ∀ i, N ≤ i → ¬ mkF Mb rv i := fun i hi h => by
  rcases h with h | h
  ·have := hM.lt; omega
  ·have := (hM.row.own i h).2; omega
 have hSN : ∀ i, S i → i < W2.heap.size ∧ ¬ mkF Mb rv i ∧ W2.heap[i]? = W.heap[i]? := fun i hi => ⟨by have := (hS i hi).1; omega, (hS i hi).2, hal.block i (hS i hi).1⟩
 have hcell : ∀ w' rv' rs', MkAt W0 w' Mb fB X fv fsv rv' rs' → Only (mkF Mb rv) W2 w' → (w'.cell? ⟨gp, 0, none⟩ = some (.int .i64 q0.op) ∧ w'.cell? ⟨gp, 1, none⟩ = some (.string (bs q0.s)) ∧ w'.cell? ⟨gp, 2, none⟩ = some (.int .i64 q0.n) ∧ w'.cell? ⟨gp, 3, none⟩ = some (.slice Aa0 na0 ca0) ∧ w'.cell? ⟨gp, 4, none⟩ = some (.int .i64 q0.line) ∧ w'.cell? ⟨gp, 5, none⟩ = some (.int .i64 kp0) ∧ w'.cell? ⟨gp, 6, none⟩ = some (.int .i64 ek0) ∧ w'.cell? ⟨gp, 7, none⟩ = some (.slice Bv0 ql0 bc0) ∧ w'.cell? ⟨N, 7, none⟩ = some (.slice (some ⟨gp, 0, none⟩) ln c) ∧ w'.cell? ⟨N, 5, none⟩ = some (.int .i64 k) ∧ w'.cell? ⟨N, 2, none⟩ = some (.int .i64 t.n) ∧ w'.cell? ⟨N + 1, 0, none⟩ = some (.int .i64 pf) ∧ w'.cell? ⟨N + 1, 1, none⟩ = some (.int .i64 pth) ∧ w'.cell? ⟨N + 1, 2, none⟩ = some (.bool ptg)) := fun w' rv' rs' hm hb => by
  have h0 := (box8 ((hb.block N (heap_lt hb0) (hnN N (Nat.le_refl _))).trans hb0)).1
  have h1 := box3c ((hb.block (N + 1) (heap_lt hb1) (hnN (N + 1) (by omega))).trans hb1)
  have hpc : ∀ g j v, S g → W.cell? ⟨g, j, none⟩ = some v → w'.cell? ⟨g, j, none⟩ = some v := fun g j v hg h => (cell_block ((hb.block g (hSN g hg).1 (hSN g hg).2.1).trans (hSN g hg).2.2) ⟨g, j, none⟩ rfl).trans h
  exact ⟨hpc gp 0 _ hgp (ep0 0 (by omega)), hpc gp 1 _ hgp (ep0 1 (by omega)), hpc gp 2 _ hgp (ep0 2 (by omega)), hpc gp 3 _ hgp (ep0 3 (by omega)), hpc gp 4 _ hgp (ep0 4 (by omega)), hpc gp 5 _ hgp (ep0 5 (by omega)), hpc gp 6 _ hgp (ep0 6 (by omega)), hpc gp 7 _ hgp (ep0 7 (by omega)), h0.2.2.2.2.2.2.2, h0.2.2.2.2.2.1, h0.2.2.1, h1.1, h1.2.1, h1.2.2⟩
 have hMB := fun w (hb : Below W2.heap.size W2 w) => hM2.below hb
 have HMB2 := Lib.hid hMB
 have HC2 := Lib.hid hcell
 have HCB2 := Lib.hid (fun w (hb : Below W2.heap.size W2 w) => hcell w rv rs (hMB w hb) (Only.of_below hb))
 have HS02 := Lib.hid (hcell W2 rv rs hM2 (Only.refl _ _))
 have HSD2 := Lib.hid (hcell W2.drew rv rs (hM2.below (drew_below W2)) (Only.of_below (drew_below W2)))
 obtain ⟨x0, x1, x2, x3, x4, x5, x6, x7, x8, x9, x10, x11, x12, x13⟩ := HS02.out
 have HM2 := Lib.hid (And.intro hM hal)
 have hal3 := below_alloc9 W2 (.cells #[.int .i64 q0.op, .string (bs q0.s), .int .i64 q0.n, .slice Aa0 na0 ca0, .int .i64 q0.line, .int .i64 kp0, .int .i64 ek0, .slice Bv0 ql0 bc0] 92)
 have hb3 := heap_alloc_new W2 (.cells #[.int .i64 q0.op, .string (bs q0.s), .int .i64 q0.n, .slice Aa0 na0 ca0, .int .i64 q0.line, .int .i64 kp0, .int .i64 ek0, .slice Bv0 ql0 bc0] 92)
 rw [hz2] at hb3
 obtain ⟨W3, e3⟩ : ∃ x, W2.alloc (.cells #[.int .i64 q0.op, .string (bs q0.s), .int .i64 q0.n, .slice Aa0 na0 ca0, .int .i64 q0.line, .int .i64 kp0, .int .i64 ek0, .slice Bv0 ql0 bc0] 92) = x := ⟨_, rfl⟩
 have hz3 : W3.heap.size = N + 3 := by rw [← e3, World.size_alloc, hz2]
 rw [e3] at hal3 hb3
 have hM3 := hM2.below hal3
 have hcell3 : ∀ w' rv' rs', MkAt W0 w' Mb fB X fv fsv rv' rs' → Only (mkF Mb rv) W3 w' → (w'.cell? ⟨N + 2, 0, none⟩ = some (.int .i64 q0.op) ∧ w'.cell? ⟨N + 2, 5, none⟩ = some (.int .i64 kp0) ∧ w'.cell? ⟨N + 2, 7, none⟩ = some (.slice Bv0 ql0 bc0) ∧ w'.cell? ⟨N, 7, none⟩ = some (.slice (some ⟨gp, 0, none⟩) ln c) ∧ w'.cell? ⟨N, 5, none⟩ = some (.int .i64 k) ∧ w'.cell? ⟨N, 2, none⟩ = some (.int .i64 t.n) ∧ w'.cell? ⟨N + 1, 0, none⟩ = some (.int .i64 pf) ∧ w'.cell? ⟨N + 1, 1, none⟩ = some (.int .i64 pth) ∧ w'.cell? ⟨N + 1, 2, none⟩ = some (.bool ptg)) := fun w' rv' rs' hm hb => by
  have h2 := (box8 ((hb.block (N + 2) (heap_lt hb3) (hnN (N + 2) (by omega))).trans hb3)).1
  have hb2 : Only (mkF Mb rv) W2 w' := (Only.of_below hal3).trans' hb
  have h0 := (box8 ((hb2.block N (heap_lt hb0) (hnN N (Nat.le_refl _))).trans hb0)).1
  have h1 := box3c ((hb2.block (N + 1) (heap_lt hb1) (hnN (N + 1) (by omega))).trans hb1)
  have hpc : ∀ g j v, S g → W.cell? ⟨g, j, none⟩ = some v → w'.cell? ⟨g, j, none⟩ = some v := fun g j v hg h => (cell_block ((hb2.block g (hSN g hg).1 (hSN g hg).2.1).trans (hSN g hg).2.2) ⟨g, j, none⟩ rfl).trans h
  exact ⟨h2.1, h2.2.2.2.2.2.1, h2.2.2.2.2.2.2.2, h0.2.2.2.2.2.2.2, h0.2.2.2.2.2.1, h0.2.2.1, h1.1, h1.2.1, h1.2.2⟩
 have hMB3 := fun w (hb : Below W3.heap.size W3 w) => hM3.below hb
 have HMB := Lib.hid hMB3
 have HC := Lib.hid hcell3
 have HCB := Lib.hid (fun w (hb : Below W3.heap.size W3 w) => hcell3 w rv rs (hMB3 w hb) (Only.of_below hb))
 have HS0 := Lib.hid (hcell3 W3 rv rs hM3 (Only.refl _ _))
 have HSD := Lib.hid (hcell3 W3.drew rv rs (hM3.below (drew_below W3)) (Only.of_below (drew_below W3)))
 obtain ⟨y0, y1, y2, y3, y4, y5, y6, y7, y8⟩ := HS0.out
 have HM := Lib.hid (And.intro hM (hal.trans (hal3.mono hal.size)))
 obtain ⟨r0, hr00⟩ : ∃ r, t.l = q0 :: r := by
  cases h : t.l with
  | nil => rw [h] at hq0; cases hq0
  | cons a r => rw [h] at hq0; simp at hq0; exact ⟨r, by rw [hq0]⟩
 have hNL2 : NtL W S r0 (k + 1 + q0.size) gp 8 := by
  have h := hNL
  rw [hr00, NtL_cons] at h
  simpa using h.2
 have hrl : r0.length = ln - 1 := by rw [← hln, hr00]; simp
 have hSt : ∀ o1, (o1 = 8 ∨ c = 1) → ∀ w, Below W3.heap.size W3 w → Calls Tryz.prog 109 #[.slice (some ⟨gp, o1, none⟩) (ln - 1) (c - 1)] w fun e w' => ∃ v, e = .returned v ∧ IntsF w' (New w w') v (setsK (t.l.drop 1) (k + 1 + q0.size)) ∧ Below w.heap.size w w' := fun o1 ho1 w hb => by
  have h := sets_any r0 (k + 1 + q0.size) (some ⟨gp, o1, none⟩) (c - 1) 8 w S (by omega) (by omega) (by have := htc4; unfold maxLen; omega) (fun h0 => ⟨gp, by rw [show o1 = 8 by omega], hgp, NtL.keep (fun _ h => h) (fun i hi => (hb.block i (Nat.lt_of_lt_of_le (hSN i hi).1 hal3.size)).trans ((hal3.block i (hSN i hi).1).trans (hSN i hi).2.2)) _ _ _ _ hgp hNL2⟩) (fun i hi => Nat.lt_of_lt_of_le (Nat.lt_of_lt_of_le (hSN i hi).1 hal3.size) hb.size)
  rw [hrl] at h
  rw [hr00]
  exact h
 obtain ⟨L, hL⟩ : ∃ x, setsK (t.l.drop 1) (k + 1 + q0.size) = x := ⟨_, rfl⟩
 rw [hL] at hSt
 rw [hL]
 have HSt0 := Lib.hid hSt
 have gl1 : (1 : Int) ≤ ln := by omega
 have gl2 : (ln : Int) ≤ c := by omega
 have hF : ∀ w u, Below W3.heap.size W3 w → IntsF w (New W3.drew w) u L → IntsF w (foot (Mb + 1) w rv) u L := fun w u hb hu => hu.keep (fun i hi => ⟨⟨by have h1 : W3.heap.size ≤ i := hi.1; have := hM.lt; omega, hi.2⟩, fun h => by have h1 : W3.heap.size ≤ i := hi.1; have := (hM.row.own i h).2; omega⟩) (fun i hi => rfl)
 have HF := Lib.hid hF
 have HA := Lib.hid (fun zz => fun w (hb : Below W3.heap.size W3 w) Av cv (hu : IntsF w (foot (Mb + 1) w rv) (.slice Av L.length cv) L) => (show Calls Tryz.prog 104 #[.pointer (some ⟨Mb, 0, none⟩), .agg #[.int .i64 pf, .int .i64 pth, .bool ptg], .slice (some ⟨w.heap.size, 0, none⟩) 1 1] (w.alloc (.cells #[.int .i64 8, .int .i64 0, .int .i64 kp0, .int .i64 k, .int .i64 zz, .int .i64 pth, .int .i64 t.n, .string ⟨#[]⟩, .slice Av L.length cv] 44)) (AddQ W0 Mb fB X fv fsv W3 rv (rs ++ [((⟨8, 0, kp0, k, zz, pth, t.n, [], L⟩ : Ru)).at_ pf])) from add_one hM3 hb ⟨pf, pth, ptg⟩ ((⟨8, 0, kp0, k, zz, pth, t.n, [], L⟩ : Ru)) (.slice Av L.length cv) hu (by simp) (by omega)))
 have hcases : ((q0.op == 13) = true ∧ (q0.op = 13 ∨ q0.op = 14)) ∨ ((q0.op == 13) = false ∧ (q0.op == 14) = true ∧ (q0.op = 13 ∨ q0.op = 14)) ∨ ((q0.op == 13) = false ∧ (q0.op == 14) = false ∧ ¬ (q0.op = 13 ∨ q0.op = 14)) := by
  simp only [beq_iff_eq, beq_eq_false_iff_ne, ne_eq]
  omega
 rcases hcases with ⟨d1, hop⟩ | ⟨d1, d2, hop⟩ | ⟨d1, d2, hop⟩
 ·obtain ⟨gq, rfl, hgq, hNq⟩ := hr0 (hgr hop)
  have hq9 : 0 < ql0 := by rw [← hql0]; exact hgr hop
  obtain ⟨qq, hqq⟩ : ∃ x, q0.l[0]? = some x := ⟨_, List.getElem?_eq_getElem (by omega)⟩
  obtain ⟨cq, hcq, hccq⟩ := NtL.get q0.l (k + 1 + sizes (t.l.take 0) + 1) gq 0 0 qq hNq hqq
  have hzz : ((k + 1 + sizes (t.l.take 0) + 1 + sizes (q0.l.take 0) : Nat) : Int) = kp0 + 1 := by rw [← hkp0]; unfold partK; rw [List.take_zero, List.take_zero, sizes_nil]; omega
  have w5 : W3.cell? ⟨gq, 5, none⟩ = some (.int .i64 (kp0 + 1)) := by
   obtain ⟨a1, a2, a3, a4, a5, rfl, a6, a7⟩ := (NtP_eq _ _ _ _ _).1 hcq
   have h9 := hccq 5 (by omega)
   rw [hzz] at h9
   exact ((hal3.cell (p := ⟨gq, 5, none⟩) (hSN gq hgq).1).trans (cell_block (hSN gq hgq).2.2 ⟨gq, 5, none⟩ rfl)).trans (by simpa [ntV] using h9)
  have gq0 : (0 : Int) < ql0 := by omega
  rw [if_pos hop]
  clear hgq hNq hqq hcq hccq hzz hq9
  clear hop hcell hnN hSN hMB hM hM2 hal hb0 hb1 hX ht htc hrow hS hek hSt hF hNL hNL2 hr00 hrl hL hlnm hgr hgp hM3 hal3 hb3 hcell3 hMB3 hn hln hq0 hcs0 hcc0 hf0 hr0 hek0 ep0 hkp0 hql0
  rcases Nat.lt_or_ge 1 c with hcc | hcc
  ·have hif : ¬ c = 1 := by omega
   have HSt := Lib.hid (HSt0.out 8 (.inl rfl))
   clear hcc
   go_enter Tryz.func69, Tryz.ntmps69
   go_upto_region 4 with fail
   go_region_held3 (fun w' => w'.cell? ⟨N + 2, 0, none⟩ = some (.int .i64 q0.op) ∧ w'.cell? ⟨N + 2, 5, none⟩ = some (.int .i64 kp0) ∧ w'.cell? ⟨N + 2, 7, none⟩ = some (.slice (some ⟨gq, 0, none⟩) ql0 bc0) ∧ w'.cell? ⟨N, 7, none⟩ = some (.slice (some ⟨gp, 0, none⟩) ln c) ∧ w'.cell? ⟨N, 5, none⟩ = some (.int .i64 k) ∧ w'.cell? ⟨N, 2, none⟩ = some (.int .i64 t.n) ∧ w'.cell? ⟨N + 1, 0, none⟩ = some (.int .i64 pf) ∧ w'.cell? ⟨N + 1, 1, none⟩ = some (.int .i64 pth) ∧ w'.cell? ⟨N + 1, 2, none⟩ = some (.bool ptg))
    (first | go_keep | exact HSD.out | exact HSu3.out | exact HTu3.out | exact HS9.out)
    (first
     | (go_at_call 109; refine (HSt.out W3.drew (drew_below W3)).mono ?_; rintro e u3 ⟨vs, rfl, hvs, hb3⟩; have HBu3 := Lib.hid (below_of_drew hb3); have HSu3 := Lib.hid (HCB.out u3 HBu3.out); have HFo := Lib.hid (HF.out u3 vs HBu3.out hvs); obtain ⟨Av, cv, rfl, -, -⟩ := id hvs; have HTu3 := Lib.hid (HCB.out (u3.alloc (.cells #[.int .i64 8, .int .i64 0, .int .i64 kp0, .int .i64 k, .int .i64 (kp0 + 1), .int .i64 pth, .int .i64 t.n, .string ⟨#[]⟩, .slice Av L.length cv] 44)) (HBu3.out.trans ((below_alloc9 u3 _).mono HBu3.out.size))); clear hb3 hvs)
     | (go_at_call 104; refine (HA.out (kp0 + 1) u3 HBu3.out Av cv HFo.out).mono ?_; rintro e u9 ⟨⟨v0, rfl⟩, rv5, hm5, ho5, hn5⟩; have HS9 := Lib.hid (HC.out u9 rv5 _ hm5 ho5); have HQ := Lib.hid (And.intro hm5 (And.intro ho5 hn5)); clear hm5 ho5 hn5))
   all_goals
    go_wp2
    go_end0
    exact AddQ.pre HM.out.1 HM.out.2 ⟨⟨_, rfl⟩, rv5, HQ.out⟩
  ·have hif : ∀ a b : Option Addr, (if c = 1 then a else b) = a := fun a b => if_pos (by omega)
   have HSt := Lib.hid (HSt0.out 0 (.inr (by omega)))
   clear hcc
   go_enter Tryz.func69, Tryz.ntmps69
   go_upto_region 4 with fail
   go_region_held3 (fun w' => w'.cell? ⟨N + 2, 0, none⟩ = some (.int .i64 q0.op) ∧ w'.cell? ⟨N + 2, 5, none⟩ = some (.int .i64 kp0) ∧ w'.cell? ⟨N + 2, 7, none⟩ = some (.slice (some ⟨gq, 0, none⟩) ql0 bc0) ∧ w'.cell? ⟨N, 7, none⟩ = some (.slice (some ⟨gp, 0, none⟩) ln c) ∧ w'.cell? ⟨N, 5, none⟩ = some (.int .i64 k) ∧ w'.cell? ⟨N, 2, none⟩ = some (.int .i64 t.n) ∧ w'.cell? ⟨N + 1, 0, none⟩ = some (.int .i64 pf) ∧ w'.cell? ⟨N + 1, 1, none⟩ = some (.int .i64 pth) ∧ w'.cell? ⟨N + 1, 2, none⟩ = some (.bool ptg))
    (first | go_keep | exact HSD.out | exact HSu3.out | exact HTu3.out | exact HS9.out)
    (first
     | (go_at_call 109; refine (HSt.out W3.drew (drew_below W3)).mono ?_; rintro e u3 ⟨vs, rfl, hvs, hb3⟩; have HBu3 := Lib.hid (below_of_drew hb3); have HSu3 := Lib.hid (HCB.out u3 HBu3.out); have HFo := Lib.hid (HF.out u3 vs HBu3.out hvs); obtain ⟨Av, cv, rfl, -, -⟩ := id hvs; have HTu3 := Lib.hid (HCB.out (u3.alloc (.cells #[.int .i64 8, .int .i64 0, .int .i64 kp0, .int .i64 k, .int .i64 (kp0 + 1), .int .i64 pth, .int .i64 t.n, .string ⟨#[]⟩, .slice Av L.length cv] 44)) (HBu3.out.trans ((below_alloc9 u3 _).mono HBu3.out.size))); clear hb3 hvs)
     | (go_at_call 104; refine (HA.out (kp0 + 1) u3 HBu3.out Av cv HFo.out).mono ?_; rintro e u9 ⟨⟨v0, rfl⟩, rv5, hm5, ho5, hn5⟩; have HS9 := Lib.hid (HC.out u9 rv5 _ hm5 ho5); have HQ := Lib.hid (And.intro hm5 (And.intro ho5 hn5)); clear hm5 ho5 hn5))
   all_goals
    go_wp2
    go_end0
    exact AddQ.pre HM.out.1 HM.out.2 ⟨⟨_, rfl⟩, rv5, HQ.out⟩
 ·obtain ⟨gq, rfl, hgq, hNq⟩ := hr0 (hgr hop)
  have hq9 : 0 < ql0 := by rw [← hql0]; exact hgr hop
  obtain ⟨qq, hqq⟩ : ∃ x, q0.l[0]? = some x := ⟨_, List.getElem?_eq_getElem (by omega)⟩
  obtain ⟨cq, hcq, hccq⟩ := NtL.get q0.l (k + 1 + sizes (t.l.take 0) + 1) gq 0 0 qq hNq hqq
  have hzz : ((k + 1 + sizes (t.l.take 0) + 1 + sizes (q0.l.take 0) : Nat) : Int) = kp0 + 1 := by rw [← hkp0]; unfold partK; rw [List.take_zero, List.take_zero, sizes_nil]; omega
  have w5 : W3.cell? ⟨gq, 5, none⟩ = some (.int .i64 (kp0 + 1)) := by
   obtain ⟨a1, a2, a3, a4, a5, rfl, a6, a7⟩ := (NtP_eq _ _ _ _ _).1 hcq
   have h9 := hccq 5 (by omega)
   rw [hzz] at h9
   exact ((hal3.cell (p := ⟨gq, 5, none⟩) (hSN gq hgq).1).trans (cell_block (hSN gq hgq).2.2 ⟨gq, 5, none⟩ rfl)).trans (by simpa [ntV] using h9)
  have gq0 : (0 : Int) < ql0 := by omega
  rw [if_pos hop]
  clear hgq hNq hqq hcq hccq hzz hq9
  clear hop hcell hnN hSN hMB hM hM2 hal hb0 hb1 hX ht htc hrow hS hek hSt hF hNL hNL2 hr00 hrl hL hlnm hgr hgp hM3 hal3 hb3 hcell3 hMB3 hn hln hq0 hcs0 hcc0 hf0 hr0 hek0 ep0 hkp0 hql0
  rcases Nat.lt_or_ge 1 c with hcc | hcc
  ·have hif : ¬ c = 1 := by omega
   have HSt := Lib.hid (HSt0.out 8 (.inl rfl))
   clear hcc
   go_enter Tryz.func69, Tryz.ntmps69
   go_upto_region 4 with fail
   go_region_held3 (fun w' => w'.cell? ⟨N + 2, 0, none⟩ = some (.int .i64 q0.op) ∧ w'.cell? ⟨N + 2, 5, none⟩ = some (.int .i64 kp0) ∧ w'.cell? ⟨N + 2, 7, none⟩ = some (.slice (some ⟨gq, 0, none⟩) ql0 bc0) ∧ w'.cell? ⟨N, 7, none⟩ = some (.slice (some ⟨gp, 0, none⟩) ln c) ∧ w'.cell? ⟨N, 5, none⟩ = some (.int .i64 k) ∧ w'.cell? ⟨N, 2, none⟩ = some (.int .i64 t.n) ∧ w'.cell? ⟨N + 1, 0, none⟩ = some (.int .i64 pf) ∧ w'.cell? ⟨N + 1, 1, none⟩ = some (.int .i64 pth) ∧ w'.cell? ⟨N + 1, 2, none⟩ = some (.bool ptg))
    (first | go_keep | exact HSD.out | exact HSu3.out | exact HTu3.out | exact HS9.out)
    (first
     | (go_at_call 109; refine (HSt.out W3.drew (drew_below W3)).mono ?_; rintro e u3 ⟨vs, rfl, hvs, hb3⟩; have HBu3 := Lib.hid (below_of_drew hb3); have HSu3 := Lib.hid (HCB.out u3 HBu3.out); have HFo := Lib.hid (HF.out u3 vs HBu3.out hvs); obtain ⟨Av, cv, rfl, -, -⟩ := id hvs; have HTu3 := Lib.hid (HCB.out (u3.alloc (.cells #[.int .i64 8, .int .i64 0, .int .i64 kp0, .int .i64 k, .int .i64 (kp0 + 1), .int .i64 pth, .int .i64 t.n, .string ⟨#[]⟩, .slice Av L.length cv] 44)) (HBu3.out.trans ((below_alloc9 u3 _).mono HBu3.out.size))); clear hb3 hvs)
     | (go_at_call 104; refine (HA.out (kp0 + 1) u3 HBu3.out Av cv HFo.out).mono ?_; rintro e u9 ⟨⟨v0, rfl⟩, rv5, hm5, ho5, hn5⟩; have HS9 := Lib.hid (HC.out u9 rv5 _ hm5 ho5); have HQ := Lib.hid (And.intro hm5 (And.intro ho5 hn5)); clear hm5 ho5 hn5))
   all_goals
    go_wp2
    go_end0
    exact AddQ.pre HM.out.1 HM.out.2 ⟨⟨_, rfl⟩, rv5, HQ.out⟩
  ·have hif : ∀ a b : Option Addr, (if c = 1 then a else b) = a := fun a b => if_pos (by omega)
   have HSt := Lib.hid (HSt0.out 0 (.inr (by omega)))
   clear hcc
   go_enter Tryz.func69, Tryz.ntmps69
   go_upto_region 4 with fail
   go_region_held3 (fun w' => w'.cell? ⟨N + 2, 0, none⟩ = some (.int .i64 q0.op) ∧ w'.cell? ⟨N + 2, 5, none⟩ = some (.int .i64 kp0) ∧ w'.cell? ⟨N + 2, 7, none⟩ = some (.slice (some ⟨gq, 0, none⟩) ql0 bc0) ∧ w'.cell? ⟨N, 7, none⟩ = some (.slice (some ⟨gp, 0, none⟩) ln c) ∧ w'.cell? ⟨N, 5, none⟩ = some (.int .i64 k) ∧ w'.cell? ⟨N, 2, none⟩ = some (.int .i64 t.n) ∧ w'.cell? ⟨N + 1, 0, none⟩ = some (.int .i64 pf) ∧ w'.cell? ⟨N + 1, 1, none⟩ = some (.int .i64 pth) ∧ w'.cell? ⟨N + 1, 2, none⟩ = some (.bool ptg))
    (first | go_keep | exact HSD.out | exact HSu3.out | exact HTu3.out | exact HS9.out)
    (first
     | (go_at_call 109; refine (HSt.out W3.drew (drew_below W3)).mono ?_; rintro e u3 ⟨vs, rfl, hvs, hb3⟩; have HBu3 := Lib.hid (below_of_drew hb3); have HSu3 := Lib.hid (HCB.out u3 HBu3.out); have HFo := Lib.hid (HF.out u3 vs HBu3.out hvs); obtain ⟨Av, cv, rfl, -, -⟩ := id hvs; have HTu3 := Lib.hid (HCB.out (u3.alloc (.cells #[.int .i64 8, .int .i64 0, .int .i64 kp0, .int .i64 k, .int .i64 (kp0 + 1), .int .i64 pth, .int .i64 t.n, .string ⟨#[]⟩, .slice Av L.length cv] 44)) (HBu3.out.trans ((below_alloc9 u3 _).mono HBu3.out.size))); clear hb3 hvs)
     | (go_at_call 104; refine (HA.out (kp0 + 1) u3 HBu3.out Av cv HFo.out).mono ?_; rintro e u9 ⟨⟨v0, rfl⟩, rv5, hm5, ho5, hn5⟩; have HS9 := Lib.hid (HC.out u9 rv5 _ hm5 ho5); have HQ := Lib.hid (And.intro hm5 (And.intro ho5 hn5)); clear hm5 ho5 hn5))
   all_goals
    go_wp2
    go_end0
    exact AddQ.pre HM.out.1 HM.out.2 ⟨⟨_, rfl⟩, rv5, HQ.out⟩
 ·rw [if_neg hop]
  clear hop hcell hnN hSN hMB hM hM2 hal hb0 hb1 hX ht htc hrow hS hek hSt hF hNL hNL2 hr00 hrl hL hlnm hgr hgp hM3 hal3 hb3 hcell3 hMB3 hn hln hq0 hcs0 hcc0 hf0 hr0 hek0 ep0 hkp0 hql0
  rcases Nat.lt_or_ge 1 c with hcc | hcc
  ·have hif : ¬ c = 1 := by omega
   have HSt := Lib.hid (HSt0.out 8 (.inl rfl))
   clear hcc
   go_enter Tryz.func69, Tryz.ntmps69
   go_upto_region 4 with fail
   go_region_held3 (fun w' => w'.cell? ⟨N + 2, 0, none⟩ = some (.int .i64 q0.op) ∧ w'.cell? ⟨N + 2, 5, none⟩ = some (.int .i64 kp0) ∧ w'.cell? ⟨N + 2, 7, none⟩ = some (.slice Bv0 ql0 bc0) ∧ w'.cell? ⟨N, 7, none⟩ = some (.slice (some ⟨gp, 0, none⟩) ln c) ∧ w'.cell? ⟨N, 5, none⟩ = some (.int .i64 k) ∧ w'.cell? ⟨N, 2, none⟩ = some (.int .i64 t.n) ∧ w'.cell? ⟨N + 1, 0, none⟩ = some (.int .i64 pf) ∧ w'.cell? ⟨N + 1, 1, none⟩ = some (.int .i64 pth) ∧ w'.cell? ⟨N + 1, 2, none⟩ = some (.bool ptg))
    (first | go_keep | exact HSD.out | exact HSu3.out | exact HTu3.out | exact HS9.out)
    (first
     | (go_at_call 109; refine (HSt.out W3.drew (drew_below W3)).mono ?_; rintro e u3 ⟨vs, rfl, hvs, hb3⟩; have HBu3 := Lib.hid (below_of_drew hb3); have HSu3 := Lib.hid (HCB.out u3 HBu3.out); have HFo := Lib.hid (HF.out u3 vs HBu3.out hvs); obtain ⟨Av, cv, rfl, -, -⟩ := id hvs; have HTu3 := Lib.hid (HCB.out (u3.alloc (.cells #[.int .i64 8, .int .i64 0, .int .i64 kp0, .int .i64 k, .int .i64 (-1), .int .i64 pth, .int .i64 t.n, .string ⟨#[]⟩, .slice Av L.length cv] 44)) (HBu3.out.trans ((below_alloc9 u3 _).mono HBu3.out.size))); clear hb3 hvs)
     | (go_at_call 104; refine (HA.out (-1) u3 HBu3.out Av cv HFo.out).mono ?_; rintro e u9 ⟨⟨v0, rfl⟩, rv5, hm5, ho5, hn5⟩; have HS9 := Lib.hid (HC.out u9 rv5 _ hm5 ho5); have HQ := Lib.hid (And.intro hm5 (And.intro ho5 hn5)); clear hm5 ho5 hn5))
   all_goals
    go_wp2
    go_end0
    exact AddQ.pre HM.out.1 HM.out.2 ⟨⟨_, rfl⟩, rv5, HQ.out⟩
  ·have hif : ∀ a b : Option Addr, (if c = 1 then a else b) = a := fun a b => if_pos (by omega)
   have HSt := Lib.hid (HSt0.out 0 (.inr (by omega)))
   clear hcc
   go_enter Tryz.func69, Tryz.ntmps69
   go_upto_region 4 with fail
   go_region_held3 (fun w' => w'.cell? ⟨N + 2, 0, none⟩ = some (.int .i64 q0.op) ∧ w'.cell? ⟨N + 2, 5, none⟩ = some (.int .i64 kp0) ∧ w'.cell? ⟨N + 2, 7, none⟩ = some (.slice Bv0 ql0 bc0) ∧ w'.cell? ⟨N, 7, none⟩ = some (.slice (some ⟨gp, 0, none⟩) ln c) ∧ w'.cell? ⟨N, 5, none⟩ = some (.int .i64 k) ∧ w'.cell? ⟨N, 2, none⟩ = some (.int .i64 t.n) ∧ w'.cell? ⟨N + 1, 0, none⟩ = some (.int .i64 pf) ∧ w'.cell? ⟨N + 1, 1, none⟩ = some (.int .i64 pth) ∧ w'.cell? ⟨N + 1, 2, none⟩ = some (.bool ptg))
    (first | go_keep | exact HSD.out | exact HSu3.out | exact HTu3.out | exact HS9.out)
    (first
     | (go_at_call 109; refine (HSt.out W3.drew (drew_below W3)).mono ?_; rintro e u3 ⟨vs, rfl, hvs, hb3⟩; have HBu3 := Lib.hid (below_of_drew hb3); have HSu3 := Lib.hid (HCB.out u3 HBu3.out); have HFo := Lib.hid (HF.out u3 vs HBu3.out hvs); obtain ⟨Av, cv, rfl, -, -⟩ := id hvs; have HTu3 := Lib.hid (HCB.out (u3.alloc (.cells #[.int .i64 8, .int .i64 0, .int .i64 kp0, .int .i64 k, .int .i64 (-1), .int .i64 pth, .int .i64 t.n, .string ⟨#[]⟩, .slice Av L.length cv] 44)) (HBu3.out.trans ((below_alloc9 u3 _).mono HBu3.out.size))); clear hb3 hvs)
     | (go_at_call 104; refine (HA.out (-1) u3 HBu3.out Av cv HFo.out).mono ?_; rintro e u9 ⟨⟨v0, rfl⟩, rv5, hm5, ho5, hn5⟩; have HS9 := Lib.hid (HC.out u9 rv5 _ hm5 ho5); have HQ := Lib.hid (And.intro hm5 (And.intro ho5 hn5)); clear hm5 ho5 hn5))
   all_goals
    go_wp2
    go_end0
    exact AddQ.pre HM.out.1 HM.out.2 ⟨⟨_, rfl⟩, rv5, HQ.out⟩
end
end Go.Proofs.YtikbfoichhkeaaaGreat
