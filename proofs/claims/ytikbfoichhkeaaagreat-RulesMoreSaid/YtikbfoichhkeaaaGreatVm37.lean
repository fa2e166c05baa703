/- rules: ret, declared. -/
import Derived.Deep.LoopGhost
import Derived.Test.YtikbfoichhkeaaaGreatVm28
set_option linter.unusedSimpArgs false
set_option linter.unusedVariables false
set_option maxRecDepth 100000
set_option maxHeartbeats 40000000
namespace Go.Proofs.YtikbfoichhkeaaaGreat
section
open Go.RowKit Go.Proofs
theorem pairsR_app (k : Int) : ∀ (a b : List Tr) (j : Nat), pairsR k (a ++ b) j = pairsR k a j ++ pairsR k b (j + sizes a)
 | [], b, j => by rw [pairsR, sizes_nil]; rfl
 | t :: r, b, j => by rw [List.cons_append, pairsR, pairsR, pairsR_app k r b, sizes_cons, Nat.add_assoc]; rfl
theorem pairsR_len (k : Int) : ∀ (a : List Tr) (j : Nat), (pairsR k a j).length = a.length
 | [], _ => rfl
 | t :: r, j => by rw [pairsR, List.length_cons, List.length_cons, pairsR_len k r]
theorem m_ret {W0 W : World} {Mb fB : Nat} {X : Cx} {fv fsv rv : Value} {rs : List Ru} (hX : CxOK X) (hM : MkAt W0 W Mb fB X fv fsv rv rs) {S : Nat → Prop} {t : Tr} {k : Nat} {cs : List Value} (ht : NtP W S t k cs) (hS : ∀ i, S i → i < W.heap.size ∧ ¬ mkF Mb rv i)  {jf : Nat} {sf : FS} (pth : Int) (ptg : Bool) (hlnm : t.l.length ≤ 1000) (hfs0 : X.fs[jf]? = some sf) (hr : rs.length ≤ 600000) :
  Calls Tryz.prog 72 #[.pointer (some ⟨Mb, 0, none⟩), .agg cs.toArray, .agg #[.int .i64 (jf : Nat), .int .i64 pth, .bool ptg]] W (AddQ W0 Mb fB X fv fsv W rv (rs ++ ((setsK t.l (k + 1)).map fun a => (subR a sf.ret).at_ (jf : Nat)))) := by
 obtain ⟨A0, n0, c0, A, c, rfl, htc, hrow⟩ := (NtP_eq _ _ _ _ _).1 ht
 obtain ⟨ln, hln⟩ : ∃ x, t.l.length = x := ⟨_, rfl⟩
 have hlc : ln ≤ c ∧ c ≤ 9223372036854775807 := by rw [← hln]; exact ⟨htc.1, htc.2.1⟩
 obtain ⟨hlc1, hlc2⟩ := hlc
 obtain ⟨ek, hek⟩ : ∃ x, k + t.size = x := ⟨_, rfl⟩
 rw [hek, hln]
 unfold ntV
 obtain ⟨hal, hb0, hb1, hz2⟩ := alloc2 W (.cells #[.int .i64 t.op, .string (bs t.s), .int .i64 t.n, .slice A0 n0 c0, .int .i64 t.line, .int .i64 k, .int .i64 ek, .slice A ln c] 92) (.cells #[.int .i64 (jf : Nat), .int .i64 pth, .bool ptg] 94)
 obtain ⟨W2, e2⟩ : ∃ x, (W.alloc (.cells #[.int .i64 t.op, .string (bs t.s), .int .i64 t.n, .slice A0 n0 c0, .int .i64 t.line, .int .i64 k, .int .i64 ek, .slice A ln c] 92)).alloc (.cells #[.int .i64 (jf : Nat), .int .i64 pth, .bool ptg] 94) = x := ⟨_, rfl⟩
 rw [e2] at hal hb0 hb1 hz2
 have hM2 := hM.below hal
 obtain ⟨N, eN⟩ : ∃ x, W.heap.size = x := ⟨_, rfl⟩
 rw [eN] at hb0 hb1 hz2
 obtain ⟨As2, cs2, efs⟩ := hM.fs0.form
 have hfs9 := hM.fs0
 rw [efs] at hfs9
 obtain ⟨g2, off2, v2, rfl, hg2, -, f0, f1, f2, f3, f4⟩ := fs_get hfs9 jf sf hfs0
 have hjl : jf < X.fs.length := (List.getElem?_eq_some_iff.1 hfs0).1
 have hfs : ∀ w' {rv' rs'}, MkAt W0 w' Mb fB X fv fsv rv' rs' → (w'.cell? ⟨g2, off2 + jf * 5 + 1, none⟩ = some v2 ∧ w'.cell? ⟨g2, off2 + jf * 5 + 2, none⟩ = some (.int .i64 sf.this) ∧ w'.cell? ⟨g2, off2 + jf * 5 + 3, none⟩ = some (.int .i64 sf.ret) ∧ w'.cell? ⟨g2, off2 + jf * 5 + 4, none⟩ = some (.int .i64 sf.thr)) := fun w' rv' rs' hm => by
  have hl := hm.low
  have h9 : ∀ o v, W0.cell? ⟨g2, o, none⟩ = some v → w'.cell? ⟨g2, o, none⟩ = some v := fun o v h => (hl.cell (p := ⟨g2, o, none⟩) (by have := hm.size0; show g2 < Mb; omega)).trans h
  exact ⟨h9 _ _ f1, h9 _ _ f2, h9 _ _ f3, h9 _ _ f4⟩
 have hnN : ∀ i, N ≤ i → ¬ mkF Mb rv i := fun i hi h => by
  rcases h with h | h
  ·have := hM.lt; omega
  ·have := (hM.row.own i h).2; omega
 have hSN : ∀ i, S i → i < W2.heap.size ∧ ¬ mkF Mb rv i ∧ W2.heap[i]? = W.heap[i]? := fun i hi => ⟨by have := (hS i hi).1; omega, (hS i hi).2, hal.block i (hS i hi).1⟩
 have hcell : ∀ w' rv' rs', MkAt W0 w' Mb fB X fv fsv rv' rs' → Only (mkF Mb rv) W2 w' → (w'.cell? ⟨N, 7, none⟩ = some (.slice A ln c) ∧ w'.cell? ⟨Mb, 2, none⟩ = some (.slice (some ⟨g2, off2, none⟩) X.fs.length cs2) ∧ w'.cell? ⟨g2, off2 + jf * 5 + 3, none⟩ = some (.int .i64 sf.ret) ∧ w'.cell? ⟨N + 1, 0, none⟩ = some (.int .i64 (jf : Nat)) ∧ w'.cell? ⟨N + 1, 1, none⟩ = some (.int .i64 pth) ∧ w'.cell? ⟨N + 1, 2, none⟩ = some (.bool ptg)) := fun w' rv' rs' hm hb => by
  have h0 := (box8 ((hb.block N (heap_lt hb0) (hnN N (Nat.le_refl _))).trans hb0)).1
  have h1 := box3c ((hb.block (N + 1) (heap_lt hb1) (hnN (N + 1) (by omega))).trans hb1)
  have hpc : ∀ g j v, S g → W.cell? ⟨g, j, none⟩ = some v → w'.cell? ⟨g, j, none⟩ = some v := fun g j v hg h => (cell_block ((hb.block g (hSN g hg).1 (hSN g hg).2.1).trans (hSN g hg).2.2) ⟨g, j, none⟩ rfl).trans h
  exact ⟨h0.2.2.2.2.2.2.2, (hm.cells.1.2.2.1.trans (congrArg some efs)), (hfs w' hm).2.2.1, h1.1, h1.2.1, h1.2.2⟩
 have hMB := fun w (hb : Below W2.heap.size W2 w) => hM2.below hb
 have HMB := Lib.hid hMB
 have HC := Lib.hid hcell
 have HCB := Lib.hid (fun w (hb : Below W2.heap.size W2 w) => hcell w rv rs (hMB w hb) (Only.of_below hb))
 have HS0 := Lib.hid (hcell W2 rv rs hM2 (Only.refl _ _))
 have HSD := Lib.hid (hcell W2.drew rv rs (hM2.below (drew_below W2)) (Only.of_below (drew_below W2)))
 obtain ⟨x0, x1, x2, x3, x4, x5⟩ := HS0.out
 have HM := Lib.hid (And.intro hM hal)
 have HL := Lib.hid (And.intro hln (And.intro hrow hSN))
 have hlnm2 : ln ≤ 1000 := by omega
 have HM2 := Lib.hid (And.intro hM2 (And.intro (Only.refl (mkF Mb rv) W2) (fun k (h : rv.ownBlock = some k) => (Or.inl h : rv.ownBlock = some k ∨ W2.heap.size ≤ k))))
 clear hcell hnN hSN hMB hM hM2 hal hb0 hb1 hX ht htc hrow hS hek hln hlnm hfs f0 f1 f2 f3 f4 hfs0 hfs9 efs
 go_enter Tryz.func72, Tryz.ntmps72
 go_wp2_with fail
 go_loopw [11] (fun i wr => ∃ (j : Nat) (rv' : Value), j ≤ ln ∧ i = .int .i64 j ∧ MkAt W0 wr Mb fB X fv fsv rv' (rs ++ ((setsK (t.l.take j) (k + 1)).map fun a => (subR a sf.ret).at_ (jf : Nat))) ∧ Only (mkF Mb rv) W2 wr ∧ ∀ k, rv'.ownBlock = some k → rv.ownBlock = some k ∨ W2.heap.size ≤ k) (fun i _ => ln - (intOf i).toNat)
 case atStart => exact ⟨0, rv, Nat.zero_le _, rfl, by rw [List.take_zero]; simpa [pairsR, setsK] using HM2.out⟩
 case round =>
  obtain ⟨j, rv', hj, rfl, hm, hon, hnw⟩ := hrel
  clear x0 x1 x2 x3 x4 x5
  obtain ⟨y0, y1, y2, y3, y4, y5⟩ := HC.out wr rv' _ hm hon
  by_cases hlt : j < ln
  ·have g1 : (j : Int) < ln := by omega
   obtain ⟨q, hq⟩ : ∃ q, t.l[j]? = some q := ⟨_, List.getElem?_eq_getElem (by have := HL.out.1; omega)⟩
   obtain ⟨gp, rfl, hgp, hNL⟩ := HL.out.2.1 (by have := HL.out.1; omega)
   obtain ⟨cs, hcs, hcc⟩ := NtL.get t.l (k + 1) gp 0 j q hNL hq
   obtain ⟨Aq, nq, cq, Bq, bq, rfl, hfq, hrq⟩ := (NtP_eq _ _ _ _ _).1 hcs
   obtain ⟨kN, hkN⟩ : ∃ x : Nat, k + 1 + sizes (t.l.take j) = x := ⟨_, rfl⟩
   obtain ⟨kq, hkq⟩ : ∃ x : Int, (kN : Int) = x := ⟨_, rfl⟩
   obtain ⟨eq, heq⟩ : ∃ x : Int, ((kN + q.size : Nat) : Int) = x := ⟨_, rfl⟩
   obtain ⟨lq, hlq⟩ : ∃ x, q.l.length = x := ⟨_, rfl⟩
   rw [hkN, hkq, heq, hlq] at hcc
   have hpw : ∀ g o v, S g → W.cell? ⟨g, o, none⟩ = some v → wr.cell? ⟨g, o, none⟩ = some v := fun g o v hg h => (cell_block ((hon.block g (HL.out.2.2 g hg).1 (HL.out.2.2 g hg).2.1).trans (HL.out.2.2 g hg).2.2) ⟨g, o, none⟩ rfl).trans h
   have hcell : ∀ i, i < 8 → wr.cell? ⟨gp, j * 8 + i, none⟩ = (ntV q.op q.s q.n (.slice Aq nq cq) q.line kq eq (.slice Bq lq bq))[i]? := fun i hi => by
    have h := hcc i hi
    rw [Nat.zero_add] at h
    rw [List.getElem?_eq_getElem (show i < (ntV q.op q.s q.n (.slice Aq nq cq) q.line kq eq (.slice Bq lq bq)).length from hi)] at h ⊢
    exact hpw gp _ _ hgp h
   have c0 := hcell 0 (by omega)
   have c1 := hcell 1 (by omega)
   have c2 := hcell 2 (by omega)
   have c3 := hcell 3 (by omega)
   have c4 := hcell 4 (by omega)
   have c5 := hcell 5 (by omega)
   have c6 := hcell 6 (by omega)
   have c7 := hcell 7 (by omega)
   simp [ntV] at c0 c1 c2 c3 c4 c5 c6 c7
   have hal5 := below_alloc9 wr (.cells #[.int .i64 q.op, .string (bs q.s), .int .i64 q.n, .slice Aq nq cq, .int .i64 q.line, .int .i64 kq, .int .i64 eq, .slice Bq lq bq] 92)
   have hb5 := heap_alloc_new wr (.cells #[.int .i64 q.op, .string (bs q.s), .int .i64 q.n, .slice Aq nq cq, .int .i64 q.line, .int .i64 kq, .int .i64 eq, .slice Bq lq bq] 92)
   obtain ⟨Zr, eZ⟩ : ∃ x, wr.heap.size = x := ⟨_, rfl⟩
   rw [eZ] at hb5
   obtain ⟨w5, e5⟩ : ∃ x, wr.alloc (.cells #[.int .i64 q.op, .string (bs q.s), .int .i64 q.n, .slice Aq nq cq, .int .i64 q.line, .int .i64 kq, .int .i64 eq, .slice Bq lq bq] 92) = x := ⟨_, rfl⟩
   have z5 : w5.heap.size = Zr + 1 := by rw [← e5, World.size_alloc, eZ]
   rw [e5] at hal5 hb5
   have hM5 := hm.below hal5
   have hon5 : Only (mkF Mb rv) W2 w5 := hon.trans' (Only.of_below hal5)
   have hZn : ∀ i, Zr ≤ i → ¬ mkF Mb rv' i := fun i hi h => by
    rcases h with h | h
    ·have := hm.lt; omega
    ·have := (hm.row.own i h).2; omega
   have hcell5 : ∀ w' rv2 rs', MkAt W0 w' Mb fB X fv fsv rv2 rs' → Only (mkF Mb rv') w5 w' → Only (mkF Mb rv) W2 w' → (w'.cell? ⟨Zr, 5, none⟩ = some (.int .i64 kq) ∧ w'.cell? ⟨Mb, 2, none⟩ = some (.slice (some ⟨g2, off2, none⟩) X.fs.length cs2) ∧ w'.cell? ⟨g2, off2 + jf * 5 + 3, none⟩ = some (.int .i64 sf.ret) ∧ w'.cell? ⟨N + 1, 0, none⟩ = some (.int .i64 (jf : Nat)) ∧ w'.cell? ⟨N + 1, 1, none⟩ = some (.int .i64 pth) ∧ w'.cell? ⟨N + 1, 2, none⟩ = some (.bool ptg)) := fun w' rv2 rs' hm9 hb ho9 => by
    have h2 := (box8 ((hb.block Zr (heap_lt hb5) (hZn Zr (Nat.le_refl _))).trans hb5)).1
    obtain ⟨t0, t1, t2, t3, t4, t5⟩ := HC.out w' rv2 rs' hm9 ho9
    exact ⟨h2.2.2.2.2.2.1, t1, t2, t3, t4, t5⟩
   have HC5 := Lib.hid hcell5
   have HCB5 := Lib.hid (fun w (hb : Below w5.heap.size w5 w) => hcell5 w rv' _ (hM5.below hb) (Only.of_below hb) (hon5.trans' (Only.of_below hb)))
   have HS5 := Lib.hid (HCB5.out w5 (Below.refl _ _))
   have HSD5 := Lib.hid (HCB5.out w5.drew (drew_below w5))
   have HA5 := Lib.hid (fun w (hb : Below w5.heap.size w5 w) => (show Calls Tryz.prog 104 #[.pointer (some ⟨Mb, 0, none⟩), .agg #[.int .i64 (jf : Nat), .int .i64 pth, .bool ptg], .slice (some ⟨w.heap.size, 0, none⟩) 1 1] (w.alloc (.cells #[.int .i64 3, .int .i64 0, .int .i64 kq, .int .i64 sf.ret, .int .i64 0, .int .i64 0, .int .i64 0, .string ⟨#[]⟩, .slice none 0 0] 44)) (AddQ W0 Mb fB X fv fsv w5 rv' ((rs ++ (setsK (t.l.take j) (k + 1)).map fun a => (subR a sf.ret).at_ (jf : Nat)) ++ [(subR kq sf.ret).at_ (jf : Nat)])) from add_one hM5 hb ⟨(jf : Nat), pth, ptg⟩ (subR kq sf.ret) (.slice none 0 0) (IntsF.nil _ _) (by simp [subR]) (by have := List.length_take_le j t.l; have := HL.out.1; simp [setsK_len]; omega)))
   have HK := Lib.hid (And.intro hM5 (And.intro hon5 (And.intro hnw (And.intro hq (And.intro hkN hkq)))))
   clear y0 y1 y2 y3 y4 y5 hm hon hnw hpw hcell hcs hcc hfq hrq hNL hgp hal5 hb5 hM5 hon5 hZn hcell5 hq hkN hkq heq hlq
   obtain ⟨v0, v1, v2, v3, v4, v5⟩ := HS5.out
   go_upto_region 4 with fail
   go_region_held3 (fun w' => w'.cell? ⟨Zr, 5, none⟩ = some (.int .i64 kq) ∧ w'.cell? ⟨Mb, 2, none⟩ = some (.slice (some ⟨g2, off2, none⟩) X.fs.length cs2) ∧ w'.cell? ⟨g2, off2 + jf * 5 + 3, none⟩ = some (.int .i64 sf.ret) ∧ w'.cell? ⟨N + 1, 0, none⟩ = some (.int .i64 (jf : Nat)) ∧ w'.cell? ⟨N + 1, 1, none⟩ = some (.int .i64 pth) ∧ w'.cell? ⟨N + 1, 2, none⟩ = some (.bool ptg))
    (first | go_keep | exact HSD5.out | exact HSu3.out | exact HTu3.out | exact HSu4.out | exact HTu4.out | exact HSl5.out | exact HS10.out)
    (first
     | (go_at_call 105; refine (sub_any kq sf.ret w5.drew).mono ?_; rintro e u3 ⟨rfl, hbu3⟩; have HBu3 := Lib.hid (below_of_drew hbu3); have HSu3 := Lib.hid (HCB5.out u3 HBu3.out); have HTu3 := Lib.hid (HCB5.out (u3.alloc (.cells #[.int .i64 3, .int .i64 0, .int .i64 kq, .int .i64 sf.ret, .int .i64 0, .int .i64 0, .int .i64 0, .string ⟨#[]⟩, .slice none 0 0] 44)) (HBu3.out.trans ((below_alloc9 u3 _).mono HBu3.out.size))); clear hbu3)
     | (go_at_call 104; refine (HA5.out u3 HBu3.out).mono ?_; rintro e v9 ⟨⟨v00, rfl⟩, rv6, hm6, ho6, hn6⟩; have HS10 := Lib.hid (HC5.out v9 rv6 _ hm6 ho6 (mk_only HK.out.2.1 HK.out.2.2.1 ho6)); have HR := Lib.hid (And.intro hm6 (And.intro (mk_only HK.out.2.1 HK.out.2.2.1 ho6) (mk_new HK.out.2.1 HK.out.2.2.1 hn6))); clear hm6 ho6 hn6))
   go_wp2
   go_roundw
   case rel => exact ⟨j + 1, rv6, by omega, by go_num, by
    have h9 := HR.out.1
    rw [List.append_assoc] at h9
    rw [List.take_add_one, HK.out.2.2.2.1, Option.toList_some, setsK_app, setsK, setsK, List.map_append, List.map_singleton, HK.out.2.2.2.2.1, HK.out.2.2.2.2.2]
    exact h9, HR.out.2⟩
   case measure => simp [intOf]; omega
  ·have g1 : ¬ (j : Int) < ln := by omega
   have hjl : t.l.take j = t.l := List.take_of_length_le (by have := HL.out.1; omega)
   rw [hjl] at hm
   have HF := Lib.hid (And.intro hm (And.intro hon hnw))
   clear hm hon hnw hjl
   go_wp2
   go_end0
   exact AddQ.pre HM.out.1 HM.out.2 ⟨⟨_, rfl⟩, rv', by have h9 := HF.out.1; first | (rw [List.append_assoc] at h9; exact h9) | exact h9, HF.out.2⟩
theorem m_declared {W0 W : World} {Mb fB : Nat} {X : Cx} {fv fsv rv : Value} {rs : List Ru} (hX : CxOK X) (hM : MkAt W0 W Mb fB X fv fsv rv rs) {S : Nat → Prop} {t : Tr} {k : Nat} {cs : List Value} (ht : NtP W S t k cs) (hS : ∀ i, S i → i < W.heap.size ∧ ¬ mkF Mb rv i)  (pf pth : Int) (ptg : Bool) (hlnm : t.l.length ≤ 1000) {jv iv : Nat} {f : Fn} {s : FS} (hv : VarOK X t.n jv iv f s) (hr : rs.length ≤ 600000) :
  Calls Tryz.prog 71 #[.pointer (some ⟨Mb, 0, none⟩), .agg cs.toArray, .agg #[.int .i64 pf, .int .i64 pth, .bool ptg]] W (AddQ W0 Mb fB X fv fsv W rv (rs ++ ((setsK t.l (k + 1)).map fun a => (subR a (X.var t.n)).at_ pf))) := by
 obtain ⟨A0, n0, c0, A, c, rfl, htc, hrow⟩ := (NtP_eq _ _ _ _ _).1 ht
 obtain ⟨ln, hln⟩ : ∃ x, t.l.length = x := ⟨_, rfl⟩
 have hlc : ln ≤ c ∧ c ≤ 9223372036854775807 := by rw [← hln]; exact ⟨htc.1, htc.2.1⟩
 obtain ⟨hlc1, hlc2⟩ := hlc
 obtain ⟨ek, hek⟩ : ∃ x, k + t.size = x := ⟨_, rfl⟩
 rw [hek, hln]
 unfold ntV
 obtain ⟨hal, hb0, hb1, hz2⟩ := alloc2 W (.cells #[.int .i64 t.op, .string (bs t.s), .int .i64 t.n, .slice A0 n0 c0, .int .i64 t.line, .int .i64 k, .int .i64 ek, .slice A ln c] 92) (.cells #[.int .i64 pf, .int .i64 pth, .bool ptg] 94)
 obtain ⟨W2, e2⟩ : ∃ x, (W.alloc (.cells #[.int .i64 t.op, .string (bs t.s), .int .i64 t.n, .slice A0 n0 c0, .int .i64 t.line, .int .i64 k, .int .i64 ek, .slice A ln c] 92)).alloc (.cells #[.int .i64 pf, .int .i64 pth, .bool ptg] 94) = x := ⟨_, rfl⟩
 rw [e2] at hal hb0 hb1 hz2
 have hM2 := hM.below hal
 obtain ⟨N, eN⟩ : ∃ x, W.heap.size = x := ⟨_, rfl⟩
 rw [eN] at hb0 hb1 hz2
 have hnN : ∀ i, N ≤ i → ¬ mkF Mb rv i := fun i hi h => by
  rcases h with h | h
  ·have := hM.lt; omega
  ·have := (hM.row.own i h).2; omega
 have hSN : ∀ i, S i → i < W2.heap.size ∧ ¬ mkF Mb rv i ∧ W2.heap[i]? = W.heap[i]? := fun i hi => ⟨by have := (hS i hi).1; omega, (hS i hi).2, hal.block i (hS i hi).1⟩
 have hcell : ∀ w' rv' rs', MkAt W0 w' Mb fB X fv fsv rv' rs' → Only (mkF Mb rv) W2 w' → (w'.cell? ⟨N, 7, none⟩ = some (.slice A ln c) ∧ w'.cell? ⟨N, 2, none⟩ = some (.int .i64 t.n) ∧ w'.cell? ⟨N + 1, 0, none⟩ = some (.int .i64 pf) ∧ w'.cell? ⟨N + 1, 1, none⟩ = some (.int .i64 pth) ∧ w'.cell? ⟨N + 1, 2, none⟩ = some (.bool ptg)) := fun w' rv' rs' hm hb => by
  have h0 := (box8 ((hb.block N (heap_lt hb0) (hnN N (Nat.le_refl _))).trans hb0)).1
  have h1 := box3c ((hb.block (N + 1) (heap_lt hb1) (hnN (N + 1) (by omega))).trans hb1)
  have hpc : ∀ g j v, S g → W.cell? ⟨g, j, none⟩ = some v → w'.cell? ⟨g, j, none⟩ = some v := fun g j v hg h => (cell_block ((hb.block g (hSN g hg).1 (hSN g hg).2.1).trans (hSN g hg).2.2) ⟨g, j, none⟩ rfl).trans h
  exact ⟨h0.2.2.2.2.2.2.2, h0.2.2.1, h1.1, h1.2.1, h1.2.2⟩
 have hMB := fun w (hb : Below W2.heap.size W2 w) => hM2.below hb
 have HMB := Lib.hid hMB
 have HC := Lib.hid hcell
 have HCB := Lib.hid (fun w (hb : Below W2.heap.size W2 w) => hcell w rv rs (hMB w hb) (Only.of_below hb))
 have HS0 := Lib.hid (hcell W2 rv rs hM2 (Only.refl _ _))
 have HSD := Lib.hid (hcell W2.drew rv rs (hM2.below (drew_below W2)) (Only.of_below (drew_below W2)))
 obtain ⟨x0, x1, x2, x3, x4⟩ := HS0.out
 have HM := Lib.hid (And.intro hM hal)
 obtain ⟨x, hx⟩ : ∃ x, X.var t.n = x := ⟨_, rfl⟩
 have hV := fun w rv9 rs9 (hm9 : MkAt W0 w Mb fB X fv fsv rv9 rs9) => variable_ok hX hm9 hv
 rw [hx] at hV ⊢
 have HV := Lib.hid hV
 have HL := Lib.hid (And.intro hln (And.intro hrow hSN))
 have hlnm2 : ln ≤ 1000 := by omega
 have HM2 := Lib.hid (And.intro hM2 (And.intro (Only.refl (mkF Mb rv) W2) (fun k (h : rv.ownBlock = some k) => (Or.inl h : rv.ownBlock = some k ∨ W2.heap.size ≤ k))))
 clear hcell hnN hSN hMB hM hM2 hal hb0 hb1 hX ht htc hrow hS hek hln hlnm hv hV
 go_enter Tryz.func71, Tryz.ntmps71
 go_wp2_with fail
 go_loopw [11] (fun i wr => ∃ (j : Nat) (rv' : Value), j ≤ ln ∧ i = .int .i64 j ∧ MkAt W0 wr Mb fB X fv fsv rv' (rs ++ ((setsK (t.l.take j) (k + 1)).map fun a => (subR a x).at_ pf)) ∧ Only (mkF Mb rv) W2 wr ∧ ∀ k, rv'.ownBlock = some k → rv.ownBlock = some k ∨ W2.heap.size ≤ k) (fun i _ => ln - (intOf i).toNat)
 case atStart => exact ⟨0, rv, Nat.zero_le _, rfl, by rw [List.take_zero]; simpa [pairsR, setsK] using HM2.out⟩
 case round =>
  obtain ⟨j, rv', hj, rfl, hm, hon, hnw⟩ := hrel
  clear x0 x1 x2 x3 x4
  obtain ⟨y0, y1, y2, y3, y4⟩ := HC.out wr rv' _ hm hon
  by_cases hlt : j < ln
  ·have g1 : (j : Int) < ln := by omega
   obtain ⟨q, hq⟩ : ∃ q, t.l[j]? = some q := ⟨_, List.getElem?_eq_getElem (by have := HL.out.1; omega)⟩
   obtain ⟨gp, rfl, hgp, hNL⟩ := HL.out.2.1 (by have := HL.out.1; omega)
   obtain ⟨cs, hcs, hcc⟩ := NtL.get t.l (k + 1) gp 0 j q hNL hq
   obtain ⟨Aq, nq, cq, Bq, bq, rfl, hfq, hrq⟩ := (NtP_eq _ _ _ _ _).1 hcs
   obtain ⟨kN, hkN⟩ : ∃ x : Nat, k + 1 + sizes (t.l.take j) = x := ⟨_, rfl⟩
   obtain ⟨kq, hkq⟩ : ∃ x : Int, (kN : Int) = x := ⟨_, rfl⟩
   obtain ⟨eq, heq⟩ : ∃ x : Int, ((kN + q.size : Nat) : Int) = x := ⟨_, rfl⟩
   obtain ⟨lq, hlq⟩ : ∃ x, q.l.length = x := ⟨_, rfl⟩
   rw [hkN, hkq, heq, hlq] at hcc
   have hpw : ∀ g o v, S g → W.cell? ⟨g, o, none⟩ = some v → wr.cell? ⟨g, o, none⟩ = some v := fun g o v hg h => (cell_block ((hon.block g (HL.out.2.2 g hg).1 (HL.out.2.2 g hg).2.1).trans (HL.out.2.2 g hg).2.2) ⟨g, o, none⟩ rfl).trans h
   have hcell : ∀ i, i < 8 → wr.cell? ⟨gp, j * 8 + i, none⟩ = (ntV q.op q.s q.n (.slice Aq nq cq) q.line kq eq (.slice Bq lq bq))[i]? := fun i hi => by
    have h := hcc i hi
    rw [Nat.zero_add] at h
    rw [List.getElem?_eq_getElem (show i < (ntV q.op q.s q.n (.slice Aq nq cq) q.line kq eq (.slice Bq lq bq)).length from hi)] at h ⊢
    exact hpw gp _ _ hgp h
   have c0 := hcell 0 (by omega)
   have c1 := hcell 1 (by omega)
   have c2 := hcell 2 (by omega)
   have c3 := hcell 3 (by omega)
   have c4 := hcell 4 (by omega)
   have c5 := hcell 5 (by omega)
   have c6 := hcell 6 (by omega)
   have c7 := hcell 7 (by omega)
   simp [ntV] at c0 c1 c2 c3 c4 c5 c6 c7
   have hal5 := below_alloc9 wr (.cells #[.int .i64 q.op, .string (bs q.s), .int .i64 q.n, .slice Aq nq cq, .int .i64 q.line, .int .i64 kq, .int .i64 eq, .slice Bq lq bq] 92)
   have hb5 := heap_alloc_new wr (.cells #[.int .i64 q.op, .string (bs q.s), .int .i64 q.n, .slice Aq nq cq, .int .i64 q.line, .int .i64 kq, .int .i64 eq, .slice Bq lq bq] 92)
   obtain ⟨Zr, eZ⟩ : ∃ x, wr.heap.size = x := ⟨_, rfl⟩
   rw [eZ] at hb5
   obtain ⟨w5, e5⟩ : ∃ x, wr.alloc (.cells #[.int .i64 q.op, .string (bs q.s), .int .i64 q.n, .slice Aq nq cq, .int .i64 q.line, .int .i64 kq, .int .i64 eq, .slice Bq lq bq] 92) = x := ⟨_, rfl⟩
   have z5 : w5.heap.size = Zr + 1 := by rw [← e5, World.size_alloc, eZ]
   rw [e5] at hal5 hb5
   have hM5 := hm.below hal5
   have hon5 : Only (mkF Mb rv) W2 w5 := hon.trans' (Only.of_below hal5)
   have hZn : ∀ i, Zr ≤ i → ¬ mkF Mb rv' i := fun i hi h => by
    rcases h with h | h
    ·have := hm.lt; omega
    ·have := (hm.row.own i h).2; omega
   have hcell5 : ∀ w' rv2 rs', MkAt W0 w' Mb fB X fv fsv rv2 rs' → Only (mkF Mb rv') w5 w' → Only (mkF Mb rv) W2 w' → (w'.cell? ⟨Zr, 5, none⟩ = some (.int .i64 kq) ∧ w'.cell? ⟨N, 2, none⟩ = some (.int .i64 t.n) ∧ w'.cell? ⟨N + 1, 0, none⟩ = some (.int .i64 pf) ∧ w'.cell? ⟨N + 1, 1, none⟩ = some (.int .i64 pth) ∧ w'.cell? ⟨N + 1, 2, none⟩ = some (.bool ptg)) := fun w' rv2 rs' hm9 hb ho9 => by
    have h2 := (box8 ((hb.block Zr (heap_lt hb5) (hZn Zr (Nat.le_refl _))).trans hb5)).1
    obtain ⟨t0, t1, t2, t3, t4⟩ := HC.out w' rv2 rs' hm9 ho9
    exact ⟨h2.2.2.2.2.2.1, t1, t2, t3, t4⟩
   have HC5 := Lib.hid hcell5
   have HCB5 := Lib.hid (fun w (hb : Below w5.heap.size w5 w) => hcell5 w rv' _ (hM5.below hb) (Only.of_below hb) (hon5.trans' (Only.of_below hb)))
   have HS5 := Lib.hid (HCB5.out w5 (Below.refl _ _))
   have HSD5 := Lib.hid (HCB5.out w5.drew (drew_below w5))
   have HA5 := Lib.hid (fun w (hb : Below w5.heap.size w5 w) => (show Calls Tryz.prog 104 #[.pointer (some ⟨Mb, 0, none⟩), .agg #[.int .i64 pf, .int .i64 pth, .bool ptg], .slice (some ⟨w.heap.size, 0, none⟩) 1 1] (w.alloc (.cells #[.int .i64 3, .int .i64 0, .int .i64 kq, .int .i64 x, .int .i64 0, .int .i64 0, .int .i64 0, .string ⟨#[]⟩, .slice none 0 0] 44)) (AddQ W0 Mb fB X fv fsv w5 rv' ((rs ++ (setsK (t.l.take j) (k + 1)).map fun a => (subR a x).at_ pf) ++ [(subR kq x).at_ pf])) from add_one hM5 hb ⟨pf, pth, ptg⟩ (subR kq x) (.slice none 0 0) (IntsF.nil _ _) (by simp [subR]) (by have := List.length_take_le j t.l; have := HL.out.1; simp [setsK_len]; omega)))
   have HV5 := Lib.hid (fun w (hb : Below w5.heap.size w5 w) => HV.out w rv' _ (hM5.below hb))
   have HK := Lib.hid (And.intro hM5 (And.intro hon5 (And.intro hnw (And.intro hq (And.intro hkN hkq)))))
   clear y0 y1 y2 y3 y4 hm hon hnw hpw hcell hcs hcc hfq hrq hNL hgp hal5 hb5 hM5 hon5 hZn hcell5 hq hkN hkq heq hlq
   obtain ⟨v0, v1, v2, v3, v4⟩ := HS5.out
   go_upto_region 4 with fail
   go_region_held3 (fun w' => w'.cell? ⟨Zr, 5, none⟩ = some (.int .i64 kq) ∧ w'.cell? ⟨N, 2, none⟩ = some (.int .i64 t.n) ∧ w'.cell? ⟨N + 1, 0, none⟩ = some (.int .i64 pf) ∧ w'.cell? ⟨N + 1, 1, none⟩ = some (.int .i64 pth) ∧ w'.cell? ⟨N + 1, 2, none⟩ = some (.bool ptg))
    (first | go_keep | exact HSD5.out | exact HSu3.out | exact HTu3.out | exact HSu4.out | exact HTu4.out | exact HSl5.out | exact HS10.out)
    (first
     | (go_at_call 106; refine (HV5.out w5.drew (drew_below w5)).mono ?_; rintro e u3 ⟨rfl, hbu3⟩; have HBu3 := Lib.hid (below_of_drew hbu3); have HSu3 := Lib.hid (HCB5.out u3 HBu3.out); clear hbu3)
     | (go_at_call 105; refine (sub_any kq x u3).mono ?_; rintro e u4 ⟨rfl, hbu4⟩; have HBu4 := Lib.hid (HBu3.out.trans (hbu4.mono HBu3.out.size)); have HSu4 := Lib.hid (HCB5.out u4 HBu4.out); have HTu4 := Lib.hid (HCB5.out (u4.alloc (.cells #[.int .i64 3, .int .i64 0, .int .i64 kq, .int .i64 x, .int .i64 0, .int .i64 0, .int .i64 0, .string ⟨#[]⟩, .slice none 0 0] 44)) (HBu4.out.trans ((below_alloc9 u4 _).mono HBu4.out.size))); clear hbu4)
     | (go_at_call 104; refine (HA5.out u4 HBu4.out).mono ?_; rintro e v9 ⟨⟨v00, rfl⟩, rv6, hm6, ho6, hn6⟩; have HS10 := Lib.hid (HC5.out v9 rv6 _ hm6 ho6 (mk_only HK.out.2.1 HK.out.2.2.1 ho6)); have HR := Lib.hid (And.intro hm6 (And.intro (mk_only HK.out.2.1 HK.out.2.2.1 ho6) (mk_new HK.out.2.1 HK.out.2.2.1 hn6))); clear hm6 ho6 hn6))
   go_wp2
   go_roundw
   case rel => exact ⟨j + 1, rv6, by omega, by go_num, by
    have h9 := HR.out.1
    rw [List.append_assoc] at h9
    rw [List.take_add_one, HK.out.2.2.2.1, Option.toList_some, setsK_app, setsK, setsK, List.map_append, List.map_singleton, HK.out.2.2.2.2.1, HK.out.2.2.2.2.2]
    exact h9, HR.out.2⟩
   case measure => simp [intOf]; omega
  ·have g1 : ¬ (j : Int) < ln := by omega
   have hjl : t.l.take j = t.l := List.take_of_length_le (by have := HL.out.1; omega)
   rw [hjl] at hm
   have HF := Lib.hid (And.intro hm (And.intro hon hnw))
   clear hm hon hnw hjl
   go_wp2
   go_end0
   exact AddQ.pre HM.out.1 HM.out.2 ⟨⟨_, rfl⟩, rv', by have h9 := HF.out.1; first | (rw [List.append_assoc] at h9; exact h9) | exact h9, HF.out.2⟩
end
end Go.Proofs.YtikbfoichhkeaaaGreat
