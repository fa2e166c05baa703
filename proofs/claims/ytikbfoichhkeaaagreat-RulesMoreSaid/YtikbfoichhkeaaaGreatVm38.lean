/- rules: declaration. rules: object. The method of an operation adds the operation's rules. -/
import Derived.Deep.LoopGhost
import Derived.Test.YtikbfoichhkeaaaGreatVm29
import Derived.Test.YtikbfoichhkeaaaGreatVm32
import Derived.Test.YtikbfoichhkeaaaGreatVm33
import Derived.Test.YtikbfoichhkeaaaGreatVm34
import Derived.Test.YtikbfoichhkeaaaGreatVm35
import Derived.Test.YtikbfoichhkeaaaGreatVm36
import Derived.Test.YtikbfoichhkeaaaGreatVm37
set_option linter.unusedSimpArgs false
set_option linter.unusedVariables false
set_option maxRecDepth 100000
set_option maxHeartbeats 40000000
namespace Go.Proofs.YtikbfoichhkeaaaGreat
section
open Go.RowKit Go.Proofs
theorem m_declaration {W0 W : World} {Mb fB : Nat} {X : Cx} {fv fsv rv : Value} {rs : List Ru} (hX : CxOK X) (hM : MkAt W0 W Mb fB X fv fsv rv rs) {S : Nat → Prop} {t : Tr} {k : Nat} {cs : List Value} (ht : NtP W S t k cs) (hS : ∀ i, S i → i < W.heap.size ∧ ¬ mkF Mb rv i)  {jf iv : Nat} {ff : Fn} {sf : FS} (pth : Int) (ptg : Bool) (hff : X.F[jf]? = some ff) (hv : VarOK X ((jf : Int) * 1000 + (iv : Int)) jf iv ff sf) (hix : idxS ff.vars t.s = (iv : Int)) (hr : rs.length ≤ 600000) :
  Calls Tryz.prog 63 #[.pointer (some ⟨Mb, 0, none⟩), .agg cs.toArray, .agg #[.int .i64 (jf : Nat), .int .i64 pth, .bool ptg]] W (AddQ W0 Mb fB X fv fsv W rv (rs ++ [((⟨2, 0, X.var ((jf : Int) * 1000 + (iv : Int)), 0, 0, t.n, 0, [], []⟩ : Ru)).at_ (jf : Nat)])) := by
 obtain ⟨A0, n0, c0, A, c, rfl, htc, hrow⟩ := (NtP_eq _ _ _ _ _).1 ht
 obtain ⟨ek, hek⟩ : ∃ x, k + t.size = x := ⟨_, rfl⟩
 rw [hek]
 unfold ntV
 obtain ⟨hal, hb0, hb1, hz2⟩ := alloc2 W (.cells #[.int .i64 t.op, .string (bs t.s), .int .i64 t.n, .slice A0 n0 c0, .int .i64 t.line, .int .i64 k, .int .i64 ek, .slice A t.l.length c] 92) (.cells #[.int .i64 (jf : Nat), .int .i64 pth, .bool ptg] 94)
 obtain ⟨W2, e2⟩ : ∃ x, (W.alloc (.cells #[.int .i64 t.op, .string (bs t.s), .int .i64 t.n, .slice A0 n0 c0, .int .i64 t.line, .int .i64 k, .int .i64 ek, .slice A t.l.length c] 92)).alloc (.cells #[.int .i64 (jf : Nat), .int .i64 pth, .bool ptg] 94) = x := ⟨_, rfl⟩
 rw [e2] at hal hb0 hb1 hz2
 have hM2 := hM.below hal
 obtain ⟨N, eN⟩ : ∃ x, W.heap.size = x := ⟨_, rfl⟩
 rw [eN] at hb0 hb1 hz2
 obtain ⟨gf, cf, As, csf, efv, f0, f1, f2, f3, f4, fn9⟩ := hM.funs.get hff
 have hjl : jf < X.F.length := (List.getElem?_eq_some_iff.1 hff).1
 have hfl : X.F.length ≤ cf ∧ cf ≤ 9223372036854775807 := by obtain ⟨A9, c9, e9, hc8, hc9⟩ := hM.funs.form; rw [efv] at e9; injection e9 with _ _ e9; subst e9; exact ⟨hc8, hc9⟩
 obtain ⟨hfl1, hfl2⟩ := hfl
 have hfun : ∀ w' {rv' rs'}, MkAt W0 w' Mb fB X fv fsv rv' rs' → ((w'.cell? ⟨gf, jf * 5, none⟩ = some (.int .i64 ff.around) ∧ w'.cell? ⟨gf, jf * 5 + 1, none⟩ = some (.string (bs ff.name)) ∧ w'.cell? ⟨gf, jf * 5 + 2, none⟩ = some (.int .i64 ff.params) ∧ w'.cell? ⟨gf, jf * 5 + 3, none⟩ = some (.slice As ff.vars.length csf) ∧ w'.cell? ⟨gf, jf * 5 + 4, none⟩ = some (.int .i64 ff.mark)) ∧ ∀ (j : Nat) (x : Bs), ff.vars[j]? = some x → ∃ b, As = some ⟨b, 0, none⟩ ∧ w'.cell? ⟨b, j, none⟩ = some (.string (bs x))) := fun w' rv' rs' hm => by
  have hl := hm.low
  have h9 : ∀ g o v, W0.cell? ⟨g, o, none⟩ = some v → w'.cell? ⟨g, o, none⟩ = some v := fun g o v h => (hl.cell (p := ⟨g, o, none⟩) (by have := hm.size0; have := cell_lt h; show g < Mb; omega)).trans h
  exact ⟨⟨h9 _ _ _ f0, h9 _ _ _ f1, h9 _ _ _ f2, h9 _ _ _ f3, h9 _ _ _ f4⟩, fun j x hx => by obtain ⟨b, hb, h⟩ := fn9 j x hx; exact ⟨b, hb, h9 _ _ _ h⟩⟩
 have hnN : ∀ i, N ≤ i → ¬ mkF Mb rv i := fun i hi h => by
  rcases h with h | h
  ·have := hM.lt; omega
  ·have := (hM.row.own i h).2; omega
 have hSN : ∀ i, S i → i < W2.heap.size ∧ ¬ mkF Mb rv i ∧ W2.heap[i]? = W.heap[i]? := fun i hi => ⟨by have := (hS i hi).1; omega, (hS i hi).2, hal.block i (hS i hi).1⟩
 have hcell : ∀ w' rv' rs', MkAt W0 w' Mb fB X fv fsv rv' rs' → Only (mkF Mb rv) W2 w' → (w'.cell? ⟨Mb, 0, none⟩ = some (.slice (some ⟨gf, 0, none⟩) X.F.length cf) ∧ w'.cell? ⟨gf, jf * 5 + 3, none⟩ = some (.slice As ff.vars.length csf) ∧ w'.cell? ⟨N, 1, none⟩ = some (.string (bs t.s)) ∧ w'.cell? ⟨N, 2, none⟩ = some (.int .i64 t.n) ∧ w'.cell? ⟨N + 1, 0, none⟩ = some (.int .i64 (jf : Nat)) ∧ w'.cell? ⟨N + 1, 1, none⟩ = some (.int .i64 pth) ∧ w'.cell? ⟨N + 1, 2, none⟩ = some (.bool ptg)) := fun w' rv' rs' hm hb => by
  have h0 := (box8 ((hb.block N (heap_lt hb0) (hnN N (Nat.le_refl _))).trans hb0)).1
  have h1 := box3c ((hb.block (N + 1) (heap_lt hb1) (hnN (N + 1) (by omega))).trans hb1)
  have hpc : ∀ g j v, S g → W.cell? ⟨g, j, none⟩ = some v → w'.cell? ⟨g, j, none⟩ = some v := fun g j v hg h => (cell_block ((hb.block g (hSN g hg).1 (hSN g hg).2.1).trans (hSN g hg).2.2) ⟨g, j, none⟩ rfl).trans h
  exact ⟨(hm.cells.1.1.trans (congrArg some efv)), (hfun w' hm).1.2.2.2.1, h0.2.1, h0.2.2.1, h1.1, h1.2.1, h1.2.2⟩
 have hMB := fun w (hb : Below W2.heap.size W2 w) => hM2.below hb
 have HMB := Lib.hid hMB
 have HC := Lib.hid hcell
 have HCB := Lib.hid (fun w (hb : Below W2.heap.size W2 w) => hcell w rv rs (hMB w hb) (Only.of_below hb))
 have HS0 := Lib.hid (hcell W2 rv rs hM2 (Only.refl _ _))
 have HSD := Lib.hid (hcell W2.drew rv rs (hM2.below (drew_below W2)) (Only.of_below (drew_below W2)))
 obtain ⟨x0, x1, x2, x3, x4, x5, x6⟩ := HS0.out
 have HM := Lib.hid (And.intro hM hal)
 obtain ⟨x, hx⟩ : ∃ x, X.var ((jf : Int) * 1000 + (iv : Int)) = x := ⟨_, rfl⟩
 have hO := fun w (hb : Below W2.heap.size W2 w) => own_ok hX (hM2.below hb) hv rfl rfl
 rw [hx] at hO ⊢
 have HO := Lib.hid hO
 have hI := fun w (hb : Below W2.heap.size W2 w) => index_any (W := w) (A := As) (c := csf) ff.vars t.s (by have := (hX.each jf ff sf hff hv.s).1; omega) (hfun w (hM2.below hb)).2
 rw [hix] at hI
 have HI := Lib.hid hI
 have HA := Lib.hid (fun w (hb : Below W2.heap.size W2 w) => (show Calls Tryz.prog 104 #[.pointer (some ⟨Mb, 0, none⟩), .agg #[.int .i64 (jf : Nat), .int .i64 pth, .bool ptg], .slice (some ⟨w.heap.size, 0, none⟩) 1 1] (w.alloc (.cells #[.int .i64 2, .int .i64 0, .int .i64 x, .int .i64 0, .int .i64 0, .int .i64 t.n, .int .i64 0, .string ⟨#[]⟩, .slice none 0 0] 44)) (AddQ W0 Mb fB X fv fsv W2 rv (rs ++ [((⟨2, 0, x, 0, 0, t.n, 0, [], []⟩ : Ru)).at_ (jf : Nat)])) from add_one hM2 hb ⟨(jf : Nat), pth, ptg⟩ ((⟨2, 0, x, 0, 0, t.n, 0, [], []⟩ : Ru)) (.slice none 0 0) (IntsF.nil _ _) (by simp) (by omega)))
 clear hcell hnN hSN hMB hM hM2 hal hb0 hb1 hX ht htc hrow hS hek hO hI hv hix hff hfun f0 f1 f2 f3 f4 fn9 efv
 go_enter Tryz.func63, Tryz.ntmps63
 go_upto_region 1 with fail
 go_region_held3 (fun w' => w'.cell? ⟨Mb, 0, none⟩ = some (.slice (some ⟨gf, 0, none⟩) X.F.length cf) ∧ w'.cell? ⟨gf, jf * 5 + 3, none⟩ = some (.slice As ff.vars.length csf) ∧ w'.cell? ⟨N, 1, none⟩ = some (.string (bs t.s)) ∧ w'.cell? ⟨N, 2, none⟩ = some (.int .i64 t.n) ∧ w'.cell? ⟨N + 1, 0, none⟩ = some (.int .i64 (jf : Nat)) ∧ w'.cell? ⟨N + 1, 1, none⟩ = some (.int .i64 pth) ∧ w'.cell? ⟨N + 1, 2, none⟩ = some (.bool ptg))
  (first | go_keep | exact HSD.out | exact HSu3.out)
  (first
   | (go_at_call 107; refine (HI.out W2.drew (drew_below W2)).mono ?_; rintro e u3 ⟨rfl, hb3⟩; have HBu3 := Lib.hid (below_of_drew hb3); have HSu3 := Lib.hid (HCB.out u3 HBu3.out); clear hb3))
 clear x0 x1 x2 x3 x4 x5 x6
 obtain ⟨z0, z1, z2, z3, z4, z5, z6⟩ := HSu3.out
 have HBd := Lib.hid (HBu3.out.trans ((drew_below u3).mono HBu3.out.size))
 have HSE := Lib.hid (HCB.out u3.drew HBd.out)
 go_upto_region 2 with fail
 go_region_held3 (fun w' => w'.cell? ⟨Mb, 0, none⟩ = some (.slice (some ⟨gf, 0, none⟩) X.F.length cf) ∧ w'.cell? ⟨gf, jf * 5 + 3, none⟩ = some (.slice As ff.vars.length csf) ∧ w'.cell? ⟨N, 1, none⟩ = some (.string (bs t.s)) ∧ w'.cell? ⟨N, 2, none⟩ = some (.int .i64 t.n) ∧ w'.cell? ⟨N + 1, 0, none⟩ = some (.int .i64 (jf : Nat)) ∧ w'.cell? ⟨N + 1, 1, none⟩ = some (.int .i64 pth) ∧ w'.cell? ⟨N + 1, 2, none⟩ = some (.bool ptg))
  (first | go_keep | exact HSE.out | exact HSu4.out | exact HTu4.out | exact HS9.out)
  (first
   | (go_at_call 108; refine (HO.out u3.drew HBd.out).mono ?_; rintro e u4 ⟨rfl, hb4⟩; have HBu4 := Lib.hid (HBd.out.trans (hb4.mono HBd.out.size)); have HSu4 := Lib.hid (HCB.out u4 HBu4.out); have HTu4 := Lib.hid (HCB.out (u4.alloc (.cells #[.int .i64 2, .int .i64 0, .int .i64 x, .int .i64 0, .int .i64 0, .int .i64 t.n, .int .i64 0, .string ⟨#[]⟩, .slice none 0 0] 44)) (HBu4.out.trans ((below_alloc9 u4 _).mono HBu4.out.size))); clear hb4)
   | (go_at_call 104; refine (HA.out u4 HBu4.out).mono ?_; rintro e u9 ⟨⟨v0, rfl⟩, rv5, hm5, ho5, hn5⟩; have HS9 := Lib.hid (HC.out u9 rv5 _ hm5 ho5); have HQ := Lib.hid (And.intro hm5 (And.intro ho5 hn5)); clear hm5 ho5 hn5))
 all_goals
  go_wp2
  go_end0
  exact AddQ.pre HM.out.1 HM.out.2 ⟨⟨_, rfl⟩, rv5, HQ.out⟩
end
section
open Go.RowKit Go.Proofs
theorem m_object {W0 W : World} {Mb fB : Nat} {X : Cx} {fv fsv rv : Value} {rs : List Ru} (hX : CxOK X) (hM : MkAt W0 W Mb fB X fv fsv rv rs) {S : Nat → Prop} {t : Tr} {k : Nat} {cs : List Value} (ht : NtP W S t k cs) (hS : ∀ i, S i → i < W.heap.size ∧ ¬ mkF Mb rv i)  (pf pth : Int) (ptg : Bool) (hlnm : t.l.length ≤ 1000) (hpr : ∀ q ∈ t.l, 0 < q.l.length) (hr : rs.length ≤ 600000) :
  Calls Tryz.prog 64 #[.pointer (some ⟨Mb, 0, none⟩), .agg cs.toArray, .agg #[.int .i64 pf, .int .i64 pth, .bool ptg]] W (AddQ W0 Mb fB X fv fsv W rv (rs ++ ([(⟨1, 0, k, 0, 0, 0, t.n, [], []⟩ : Ru).at_ pf] ++ (pairsR k t.l (k + 1)).map (·.at_ pf)))) := by
 obtain ⟨A0, n0, c0, A, c, rfl, htc, hrow⟩ := (NtP_eq _ _ _ _ _).1 ht
 obtain ⟨ln, hln⟩ : ∃ x, t.l.length = x := ⟨_, rfl⟩
 have hlc : ln ≤ c ∧ c ≤ 9223372036854775807 := by rw [← hln]; exact ⟨htc.1, htc.2.1⟩
 obtain ⟨hlc1, hlc2⟩ := hlc
 obtain ⟨ek, hek⟩ : ∃ x, k + t.size = x := ⟨_, rfl⟩
 rw [hek, hln]
 unfold ntV
 obtain ⟨hal, hb0, hb1, hz2⟩ := alloc2 W (.cells #[.int .i64 t.op, .string (bs t.s), .int .i64 t.n, .slice A0 n0 c0, .int .i64 t.line, .int .i64 k, .int .i64 ek, .slice A ln c] 92) (.cells #[.int .i64 pf, .int .i64 pth, .bool ptg] 94)
 obtain ⟨W2, e2⟩ : ∃ x, (W.alloc (.cells #[.int .i64 t.op, .string (bs t.s), .int .i64 t.n, .slice A0 n0 c0, .int .i64 t.line, .int .i64 k, .int .i64 ek, .slice A ln c] 92)).alloc (.cells #[.int .i64 pf, .int .i64 pth, .bool ptg] 94) = x := ⟨_, rfl⟩
 rw [e2] at hal hb0 hb1 hz2
 have hM2 := hM.below hal
 obtain ⟨N, eN⟩ : ∃ x, W.heap.size = x := ⟨_, rfl⟩
 rw [eN] at hb0 hb1 hz2
 have hnN : ∀ i, N ≤ i → ¬ mkF Mb rv i := fun i hi h => by
  rcases h with h | h
  ·have := hM.lt; omega
  ·have := (hM.row.own i h).2; omega
 have hSN : ∀ i, S i → i < W2.heap.size ∧ ¬ mkF Mb rv i ∧ W2.heap[i]? = W.heap[i]? := fun i hi => ⟨by have := (hS i hi).1; omega, (hS i hi).2, hal.block i (hS i hi).1⟩
 have hcell : ∀ w' rv' rs', MkAt W0 w' Mb fB X fv fsv rv' rs' → Only (mkF Mb rv) W2 w' → (w'.cell? ⟨N, 7, none⟩ = some (.slice A ln c) ∧ w'.cell? ⟨N, 2, none⟩ = some (.int .i64 t.n) ∧ w'.cell? ⟨N, 5, none⟩ = some (.int .i64 k) ∧ w'.cell? ⟨N + 1, 0, none⟩ = some (.int .i64 pf) ∧ w'.cell? ⟨N + 1, 1, none⟩ = some (.int .i64 pth) ∧ w'.cell? ⟨N + 1, 2, none⟩ = some (.bool ptg)) := fun w' rv' rs' hm hb => by
  have h0 := (box8 ((hb.block N (heap_lt hb0) (hnN N (Nat.le_refl _))).trans hb0)).1
  have h1 := box3c ((hb.block (N + 1) (heap_lt hb1) (hnN (N + 1) (by omega))).trans hb1)
  have hpc : ∀ g j v, S g → W.cell? ⟨g, j, none⟩ = some v → w'.cell? ⟨g, j, none⟩ = some v := fun g j v hg h => (cell_block ((hb.block g (hSN g hg).1 (hSN g hg).2.1).trans (hSN g hg).2.2) ⟨g, j, none⟩ rfl).trans h
  exact ⟨h0.2.2.2.2.2.2.2, h0.2.2.1, h0.2.2.2.2.2.1, h1.1, h1.2.1, h1.2.2⟩
 have hMB := fun w (hb : Below W2.heap.size W2 w) => hM2.below hb
 have HMB := Lib.hid hMB
 have HC := Lib.hid hcell
 have HCB := Lib.hid (fun w (hb : Below W2.heap.size W2 w) => hcell w rv rs (hMB w hb) (Only.of_below hb))
 have HS0 := Lib.hid (hcell W2 rv rs hM2 (Only.refl _ _))
 have HSD := Lib.hid (hcell W2.drew rv rs (hM2.below (drew_below W2)) (Only.of_below (drew_below W2)))
 obtain ⟨x0, x1, x2, x3, x4, x5⟩ := HS0.out
 have HM := Lib.hid (And.intro hM hal)
 have HA := Lib.hid (fun w (hb : Below W2.heap.size W2 w) => (show Calls Tryz.prog 104 #[.pointer (some ⟨Mb, 0, none⟩), .agg #[.int .i64 pf, .int .i64 pth, .bool ptg], .slice (some ⟨w.heap.size, 0, none⟩) 1 1] (w.alloc (.cells #[.int .i64 1, .int .i64 0, .int .i64 k, .int .i64 0, .int .i64 0, .int .i64 0, .int .i64 t.n, .string ⟨#[]⟩, .slice none 0 0] 44)) (AddQ W0 Mb fB X fv fsv W2 rv (rs ++ [((⟨1, 0, k, 0, 0, 0, t.n, [], []⟩ : Ru)).at_ pf])) from add_one hM2 hb ⟨pf, pth, ptg⟩ ((⟨1, 0, k, 0, 0, 0, t.n, [], []⟩ : Ru)) (.slice none 0 0) (IntsF.nil _ _) (by simp) (by omega)))
 have hA2 := HA.out W2 (Below.refl _ _)
 rw [hz2] at hA2
 have HA2 := Lib.hid hA2
 have HL := Lib.hid (And.intro hln (And.intro hrow hSN))
 have hlnm2 : ln ≤ 1000 := by omega
 have HPr := Lib.hid hpr
 clear hcell hnN hSN hMB hM hM2 hal hb0 hb1 hX ht htc hrow hS hek hA2 hln hlnm hpr
 go_enter Tryz.func64, Tryz.ntmps64
 go_wp2_with fail
 go_at_call 104
 refine HA2.out.mono ?_
 rintro e u9 ⟨⟨v0, rfl⟩, rv5, hm5, ho5, hn5⟩
 have HS9 := Lib.hid (HC.out u9 rv5 _ hm5 ho5)
 have HQ := Lib.hid (And.intro hm5 (And.intro ho5 hn5))
 clear hm5 ho5 hn5 x0 x1 x2 x3 x4 x5
 obtain ⟨z0, z1, z2, z3, z4, z5⟩ := HS9.out
 go_wp2_with fail
 go_loopw [21] (fun i wr => ∃ (j : Nat) (rv' : Value), j ≤ ln ∧ i = .int .i64 j ∧ MkAt W0 wr Mb fB X fv fsv rv' ((rs ++ [(⟨1, 0, k, 0, 0, 0, t.n, [], []⟩ : Ru).at_ pf]) ++ ((pairsR k (t.l.take j) (k + 1)).map (·.at_ pf))) ∧ Only (mkF Mb rv) W2 wr ∧ ∀ k, rv'.ownBlock = some k → rv.ownBlock = some k ∨ W2.heap.size ≤ k) (fun i _ => ln - (intOf i).toNat)
 case atStart => exact ⟨0, rv5, Nat.zero_le _, rfl, by rw [List.take_zero]; simpa [pairsR, setsK] using HQ.out⟩
 case round =>
  obtain ⟨j, rv', hj, rfl, hm, hon, hnw⟩ := hrel
  clear z0 z1 z2 z3 z4 z5
  obtain ⟨y0, y1, y2, y3, y4, y5⟩ := HC.out wr rv' _ hm hon
  by_cases hlt : j < ln
  ·have g1 : (j : Int) < ln := by omega
   obtain ⟨q, hq⟩ : ∃ q, t.l[j]? = some q := ⟨_, List.getElem?_eq_getElem (by have := HL.out.1; omega)⟩
   obtain ⟨gp, rfl, hgp, hNL⟩ := HL.out.2.1 (by have := HL.out.1; omega)
   obtain ⟨cs, hcs, hcc⟩ := NtL.get t.l (k + 1) gp 0 j q hNL hq
   obtain ⟨Aq, nq, cq, Bq, bq, rfl, hfq, hrq⟩ := (NtP_eq _ _ _ _ _).1 hcs
   obtain ⟨kN, hkN⟩ : ∃ x : Nat, k + 1 + sizes (t.l.take j) = x := ⟨_, rfl⟩
   obtain ⟨kq, hkq⟩ : ∃ x : Int, (kN : Int) = x := ⟨_, rfl⟩
   obtain ⟨eq, heq⟩ : ∃ x : Int, ((kN + q.size : Nat) : Int) = x := ⟨_, rfl⟩
   obtain ⟨lq, hlq⟩ : ∃ x, q.l.length = x := ⟨_, rfl⟩
   rw [hkN, hkq, heq, hlq] at hcc
   have hpw : ∀ g o v, S g → W.cell? ⟨g, o, none⟩ = some v → wr.cell? ⟨g, o, none⟩ = some v := fun g o v hg h => (cell_block ((hon.block g (HL.out.2.2 g hg).1 (HL.out.2.2 g hg).2.1).trans (HL.out.2.2 g hg).2.2) ⟨g, o, none⟩ rfl).trans h
   have hcell : ∀ i, i < 8 → wr.cell? ⟨gp, j * 8 + i, none⟩ = (ntV q.op q.s q.n (.slice Aq nq cq) q.line kq eq (.slice Bq lq bq))[i]? := fun i hi => by
    have h := hcc i hi
    rw [Nat.zero_add] at h
    rw [List.getElem?_eq_getElem (show i < (ntV q.op q.s q.n (.slice Aq nq cq) q.line kq eq (.slice Bq lq bq)).length from hi)] at h ⊢
    exact hpw gp _ _ hgp h
   have c0 := hcell 0 (by omega)
   have c1 := hcell 1 (by omega)
   have c2 := hcell 2 (by omega)
   have c3 := hcell 3 (by omega)
   have c4 := hcell 4 (by omega)
   have c5 := hcell 5 (by omega)
   have c6 := hcell 6 (by omega)
   have c7 := hcell 7 (by omega)
   simp [ntV] at c0 c1 c2 c3 c4 c5 c6 c7
   obtain ⟨gq, rfl, hgq, hNq⟩ := hrq (HPr.out q (List.mem_of_getElem? hq))
   obtain ⟨qq, hqq⟩ : ∃ x, q.l[0]? = some x := ⟨_, List.getElem?_eq_getElem (HPr.out q (List.mem_of_getElem? hq))⟩
   obtain ⟨cz, hcz, hccz⟩ := NtL.get q.l (kN + 1) gq 0 0 qq (by rw [← hkN]; exact hNq) hqq
   obtain ⟨kz, hkz⟩ : ∃ x : Int, ((kN + 1 : Nat) : Int) = x := ⟨_, rfl⟩
   have hz5 : W.cell? ⟨gq, 5, none⟩ = some (.int .i64 kz) := by
    obtain ⟨a1, a2, a3, a4, a5, rfl, a6, a7⟩ := (NtP_eq _ _ _ _ _).1 hcz
    have h9 := hccz 5 (by omega)
    rw [List.take_zero, sizes_nil, Nat.add_zero, hkz] at h9
    simpa [ntV] using h9
   have hgc : ∀ w', Only (mkF Mb rv) W2 w' → w'.cell? ⟨gq, 5, none⟩ = some (.int .i64 kz) := fun w' ho9 => (cell_block ((ho9.block gq (HL.out.2.2 gq hgq).1 (HL.out.2.2 gq hgq).2.1).trans (HL.out.2.2 gq hgq).2.2) ⟨gq, 5, none⟩ rfl).trans hz5
   have hlq9 : 0 < lq := by rw [← hlq]; exact HPr.out q (List.mem_of_getElem? hq)
   have glq : (0 : Int) < lq := by omega
   have hal5 := below_alloc9 wr (.cells #[.int .i64 q.op, .string (bs q.s), .int .i64 q.n, .slice Aq nq cq, .int .i64 q.line, .int .i64 kq, .int .i64 eq, .slice (some ⟨gq, 0, none⟩) lq bq] 92)
   have hb5 := heap_alloc_new wr (.cells #[.int .i64 q.op, .string (bs q.s), .int .i64 q.n, .slice Aq nq cq, .int .i64 q.line, .int .i64 kq, .int .i64 eq, .slice (some ⟨gq, 0, none⟩) lq bq] 92)
   obtain ⟨Zr, eZ⟩ : ∃ x, wr.heap.size = x := ⟨_, rfl⟩
   rw [eZ] at hb5
   obtain ⟨w5, e5⟩ : ∃ x, wr.alloc (.cells #[.int .i64 q.op, .string (bs q.s), .int .i64 q.n, .slice Aq nq cq, .int .i64 q.line, .int .i64 kq, .int .i64 eq, .slice (some ⟨gq, 0, none⟩) lq bq] 92) = x := ⟨_, rfl⟩
   have z5 : w5.heap.size = Zr + 1 := by rw [← e5, World.size_alloc, eZ]
   rw [e5] at hal5 hb5
   have hM5 := hm.below hal5
   have hon5 : Only (mkF Mb rv) W2 w5 := hon.trans' (Only.of_below hal5)
   have hZn : ∀ i, Zr ≤ i → ¬ mkF Mb rv' i := fun i hi h => by
    rcases h with h | h
    ·have := hm.lt; omega
    ·have := (hm.row.own i h).2; omega
   have hcell5 : ∀ w' rv2 rs', MkAt W0 w' Mb fB X fv fsv rv2 rs' → Only (mkF Mb rv') w5 w' → Only (mkF Mb rv) W2 w' → (w'.cell? ⟨Zr, 1, none⟩ = some (.string (bs q.s)) ∧ w'.cell? ⟨Zr, 7, none⟩ = some (.slice (some ⟨gq, 0, none⟩) lq bq) ∧ w'.cell? ⟨N, 5, none⟩ = some (.int .i64 k) ∧ w'.cell? ⟨N + 1, 0, none⟩ = some (.int .i64 pf) ∧ w'.cell? ⟨N + 1, 1, none⟩ = some (.int .i64 pth) ∧ w'.cell? ⟨N + 1, 2, none⟩ = some (.bool ptg) ∧ w'.cell? ⟨gq, 5, none⟩ = some (.int .i64 kz)) := fun w' rv2 rs' hm9 hb ho9 => by
    have h2 := (box8 ((hb.block Zr (heap_lt hb5) (hZn Zr (Nat.le_refl _))).trans hb5)).1
    obtain ⟨t0, t1, t2, t3, t4, t5⟩ := HC.out w' rv2 rs' hm9 ho9
    exact ⟨h2.2.1, h2.2.2.2.2.2.2.2, t2, t3, t4, t5, hgc w' ho9⟩
   have HC5 := Lib.hid hcell5
   have HCB5 := Lib.hid (fun w (hb : Below w5.heap.size w5 w) => hcell5 w rv' _ (hM5.below hb) (Only.of_below hb) (hon5.trans' (Only.of_below hb)))
   have HS5 := Lib.hid (HCB5.out w5 (Below.refl _ _))
   have HSD5 := Lib.hid (HCB5.out w5.drew (drew_below w5))
   have HA5 := Lib.hid (fun w (hb : Below w5.heap.size w5 w) => (show Calls Tryz.prog 104 #[.pointer (some ⟨Mb, 0, none⟩), .agg #[.int .i64 pf, .int .i64 pth, .bool ptg], .slice (some ⟨w.heap.size, 0, none⟩) 1 1] (w.alloc (.cells #[.int .i64 6, .int .i64 0, .int .i64 k, .int .i64 kz, .int .i64 0, .int .i64 0, .int .i64 0, .string (bs q.s), .slice none 0 0] 44)) (AddQ W0 Mb fB X fv fsv w5 rv' (((rs ++ [(⟨1, 0, k, 0, 0, 0, t.n, [], []⟩ : Ru).at_ pf]) ++ (pairsR k (t.l.take j) (k + 1)).map (·.at_ pf)) ++ [((⟨6, 0, k, kz, 0, 0, 0, q.s, []⟩ : Ru)).at_ pf])) from add_one hM5 hb ⟨pf, pth, ptg⟩ ((⟨6, 0, k, kz, 0, 0, 0, q.s, []⟩ : Ru)) (.slice none 0 0) (IntsF.nil _ _) hfq.2.2.1 (by have := List.length_take_le j t.l; have := HL.out.1; simp [pairsR_len]; omega)))
   have HSl5 := Lib.hid (HCB5.out (w5.drew.alloc (.cells #[.int .i64 6, .int .i64 0, .int .i64 k, .int .i64 kz, .int .i64 0, .int .i64 0, .int .i64 0, .string (bs q.s), .slice none 0 0] 44)) ((drew_below w5).trans (below_alloc9 w5.drew _)))
   have hA6 := HA5.out w5.drew (drew_below w5)
   rw [show w5.drew.heap.size = Zr + 1 from z5] at hA6
   have HA6 := Lib.hid hA6
   have HKz := Lib.hid hkz
   have HK := Lib.hid (And.intro hM5 (And.intro hon5 (And.intro hnw (And.intro hq (And.intro hkN hkq)))))
   clear y0 y1 y2 y3 y4 y5 hm hon hnw hpw hcell hcs hcc hfq hrq hNL hgp hal5 hb5 hM5 hon5 hZn hcell5 hq hkN hkq heq hlq hA6 hgq hNq hqq hcz hccz hkz hz5 hgc
   obtain ⟨v0, v1, v2, v3, v4, v5, v6⟩ := HS5.out
   go_upto_region 5 with fail
   go_region_held3 (fun w' => w'.cell? ⟨Zr, 1, none⟩ = some (.string (bs q.s)) ∧ w'.cell? ⟨Zr, 7, none⟩ = some (.slice (some ⟨gq, 0, none⟩) lq bq) ∧ w'.cell? ⟨N, 5, none⟩ = some (.int .i64 k) ∧ w'.cell? ⟨N + 1, 0, none⟩ = some (.int .i64 pf) ∧ w'.cell? ⟨N + 1, 1, none⟩ = some (.int .i64 pth) ∧ w'.cell? ⟨N + 1, 2, none⟩ = some (.bool ptg) ∧ w'.cell? ⟨gq, 5, none⟩ = some (.int .i64 kz))
    (first | go_keep | exact HSD5.out | exact HSu3.out | exact HTu3.out | exact HSu4.out | exact HTu4.out | exact HSl5.out | exact HS10.out)
    (first
     | (go_at_call 104; refine (HA6.out).mono ?_; rintro e v9 ⟨⟨v00, rfl⟩, rv6, hm6, ho6, hn6⟩; have HS10 := Lib.hid (HC5.out v9 rv6 _ hm6 ho6 (mk_only HK.out.2.1 HK.out.2.2.1 ho6)); have HR := Lib.hid (And.intro hm6 (And.intro (mk_only HK.out.2.1 HK.out.2.2.1 ho6) (mk_new HK.out.2.1 HK.out.2.2.1 hn6))); clear hm6 ho6 hn6))
   go_wp2
   go_roundw
   case rel => exact ⟨j + 1, rv6, by omega, by go_num, by
    have h9 := HR.out.1
    rw [List.append_assoc] at h9
    rw [List.take_add_one, HK.out.2.2.2.1, Option.toList_some, pairsR_app, pairsR, pairsR, List.map_append, List.map_singleton, HK.out.2.2.2.2.1, HKz.out]
    exact h9, HR.out.2⟩
   case measure => simp [intOf]; omega
  ·have g1 : ¬ (j : Int) < ln := by omega
   have hjl : t.l.take j = t.l := List.take_of_length_le (by have := HL.out.1; omega)
   rw [hjl] at hm
   have HF := Lib.hid (And.intro hm (And.intro hon hnw))
   clear hm hon hnw hjl
   go_wp2
   go_end0
   exact AddQ.pre HM.out.1 HM.out.2 ⟨⟨_, rfl⟩, rv', by have h9 := HF.out.1; first | (rw [List.append_assoc] at h9; exact h9) | exact h9, HF.out.2⟩
end
section
open Go.RowKit Go.Proofs
structure RuleOK (X : Cx) (t : Tr) (p : Pl9) : Prop where
 fn_ : t.op = 8 ∨ t.op = 36 → ∃ (j : Nat) (s : FS), p.fn = (j : Int) ∧ X.fs[j]? = some s
 var_ : t.op = 1 ∨ t.op = 30 → ∃ j i f s, VarOK X t.n j i f s
 clo_ : t.op = 10 → ∃ (j : Nat) (f : Fn), t.n = (j : Int) ∧ X.F[j]? = some f ∧ f.vars.length ≤ 100000 ∧ ((f.params : Int) ≤ idxS f.vars t.s → ∃ (i : Nat) (s : FS), idxS f.vars t.s = (i : Int) ∧ VarOK X ((j : Int) * 1000 + (i : Int)) j i f s)
 dec_ : t.op = 41 → ∃ (j i : Nat) (f : Fn) (s : FS), p.fn = (j : Int) ∧ X.F[j]? = some f ∧ idxS f.vars t.s = (i : Int) ∧ VarOK X ((j : Int) * 1000 + (i : Int)) j i f s
 obj_ : t.op = 11 → t.l.length ≤ 1000 ∧ ∀ q ∈ t.l, 0 < q.l.length
 one_ : t.op = 13 ∨ t.op = 14 ∨ t.op = 37 → 1 ≤ t.l.length
 call_ : t.op = 15 ∨ t.op = 16 → 1 ≤ t.l.length ∧ t.l.length ≤ 100000
 mem_ : t.op = 15 → (t.part 0).op = 13 ∨ (t.part 0).op = 14 → 0 < (t.part 0).l.length
 set_ : t.op = 17 → 2 ≤ t.l.length ∧ (((t.part 0).op = 1 ∧ ∃ j i f s, VarOK X (t.part 0).n j i f s) ∨ ((t.part 0).op = 13 ∧ 0 < (t.part 0).l.length) ∨ ((t.part 0).op = 14 ∧ 0 < (t.part 0).l.length))
 two_ : t.op = 21 ∨ t.op = 22 → 2 ≤ t.l.length
 three_ : t.op = 23 → 3 ≤ t.l.length
 few_ : t.op = 30 ∨ t.op = 36 → t.l.length ≤ 1000
theorem rules_none {X : Cx} {t : Tr} {k : Nat} {p : Pl9} (h : kindIn kindsL t.op = none) : ruleOf X t k p = [] := by
 have key : ∀ q ∈ kindsL, t.op ≠ q.1 := fun q hq e => by
  unfold kindIn at h
  rw [Option.map_eq_none_iff, List.find?_eq_none] at h
  exact absurd (h q hq) (by simp [e])
 have h1 := key (1, 60) (by decide); have h2 := key (8, 61) (by decide); have h3 := key (10, 62) (by decide); have h4 := key (41, 63) (by decide)
 have h5 := key (11, 64) (by decide); have h6 := key (13, 65) (by decide); have h7 := key (14, 66) (by decide); have h8 := key (17, 67) (by decide)
 have h9 := key (21, 68) (by decide); have h10 := key (22, 68) (by decide); have h11 := key (23, 68) (by decide); have h12 := key (15, 69) (by decide)
 have h13 := key (16, 70) (by decide); have h14 := key (30, 71) (by decide); have h15 := key (36, 72) (by decide); have h16 := key (37, 73) (by decide)
 simp only at h1 h2 h3 h4 h5 h6 h7 h8 h9 h10 h11 h12 h13 h14 h15 h16
 simp [ruleOf, *]
theorem kind_some {i : Nat} {o : Int} (h : kindIn kindsL o = some i) : (o, i) ∈ kindsL := by
 unfold kindIn at h
 rw [Option.map_eq_some_iff] at h
 obtain ⟨q, h1, rfl⟩ := h
 have h2 := List.find?_some h1
 have h3 := List.mem_of_find?_eq_some h1
 have h4 : q.1 = o := by simpa using h2
 rw [← h4]
 exact h3
theorem do_any {W0 W : World} {Mb fB : Nat} {X : Cx} {fv fsv rv : Value} {rs : List Ru} (hX : CxOK X) (hM : MkAt W0 W Mb fB X fv fsv rv rs) {S : Nat → Prop} {t : Tr} {k : Nat} {cs : List Value} (ht : NtP W S t k cs) (hS : ∀ i, S i → i < W.heap.size ∧ ¬ mkF Mb rv i)
  {p : Pl9} (hok : RuleOK X t p) (htg : p.tg = false) (hr : rs.length ≤ 600000) {i : Nat} (hi : kindIn kindsL t.op = some i) :
  Calls Tryz.prog i #[.pointer (some ⟨Mb, 0, none⟩), .agg cs.toArray, placeW p] W (AddQ W0 Mb fB X fv fsv W rv (rs ++ rulesAt X t k p)) := by
 obtain ⟨pf, pth, ptg⟩ := p
 simp only at htg
 subst htg
 have hm := kind_some hi
 simp only [kindsL, List.mem_cons, Prod.mk.injEq, List.not_mem_nil, or_false] at hm
 unfold placeW
 have er : rulesAt X t k ⟨pf, pth, false⟩ = (ruleOf X t k ⟨pf, pth, false⟩).map (·.at_ pf) := rfl
 rw [er]
 clear er hi
 rcases hm with ⟨h, rfl⟩ | ⟨h, rfl⟩ | ⟨h, rfl⟩ | ⟨h, rfl⟩ | ⟨h, rfl⟩ | ⟨h, rfl⟩ | ⟨h, rfl⟩ | ⟨h, rfl⟩ | ⟨h, rfl⟩ | ⟨h, rfl⟩ | ⟨h, rfl⟩ | ⟨h, rfl⟩ | ⟨h, rfl⟩ | ⟨h, rfl⟩ | ⟨h, rfl⟩ | ⟨h, rfl⟩
 ·have e : ruleOf X t k ⟨pf, pth, false⟩ = [subR (partK t k 0) pth] := by simp [ruleOf, h]
  rw [e]
  exact m_throw hX hM ht hS (hok.one_ (.inr (.inr h))) pf pth false hr
 ·obtain ⟨j, s, hp, hs⟩ := hok.fn_ (.inr h)
  simp only at hp
  subst hp
  have e : ruleOf X t k ⟨(j : Int), pth, false⟩ = (setsK t.l (k + 1)).map fun a => subR a s.ret := by simp [ruleOf, h, Cx.fsAt, hs]
  rw [e, List.map_map]
  exact m_ret hX hM ht hS pth false (hok.few_ (.inr h)) hs hr
 ·obtain ⟨j, i, f, s, hv⟩ := hok.var_ (.inr h)
  have e : ruleOf X t k ⟨pf, pth, false⟩ = (setsK t.l (k + 1)).map fun a => subR a (X.var t.n) := by simp [ruleOf, h]
  rw [e, List.map_map]
  exact m_declared hX hM ht hS pf pth false (hok.few_ (.inl h)) hv hr
 ·have e : ruleOf X t k ⟨pf, pth, false⟩ = [⟨9, 0, partK t k 0, k, 0, pth, t.n, [], setsK (t.l.drop 1) (k + 1 + (t.part 0).size)⟩] := by simp [ruleOf, h]
  rw [e]
  exact m_construction hX hM ht hS (hok.call_ (.inr h)).1 pf pth false (hok.call_ (.inr h)).2 hr
 ·have e : ruleOf X t k ⟨pf, pth, false⟩ = [⟨8, 0, partK t k 0, k, if (t.part 0).op = 13 ∨ (t.part 0).op = 14 then partK t k 0 + 1 else -1, pth, t.n, [], setsK (t.l.drop 1) (k + 1 + (t.part 0).size)⟩] := by simp [ruleOf, h]
  rw [e]
  exact m_call hX hM ht hS (hok.call_ (.inl h)).1 pf pth false (hok.call_ (.inl h)).2 (hok.mem_ h) hr
 ·have e : ruleOf X t k ⟨pf, pth, false⟩ = [subR (partK t k 1) k, subR (partK t k 2) k] := by simp [ruleOf, h]
  rw [e]
  exact m_either23 hX hM ht hS (hok.three_ h) pf pth false h hr
 ·have e : ruleOf X t k ⟨pf, pth, false⟩ = [subR (partK t k 0) k, subR (partK t k 1) k] := by simp [ruleOf, h]
  rw [e]
  exact m_either22 hX hM ht hS (hok.two_ (.inr h)) pf pth false h hr
 ·have e : ruleOf X t k ⟨pf, pth, false⟩ = [subR (partK t k 1) k] := by simp [ruleOf, h]
  rw [e]
  exact m_either21 hX hM ht hS (hok.two_ (.inl h)) pf pth false h hr
 ·obtain ⟨h2, ⟨ho, j, i, f, s, hv⟩ | ⟨ho, hg⟩ | ⟨ho, hg⟩⟩ := hok.set_ h
  ·have e : ruleOf X t k ⟨pf, pth, false⟩ = [subR (partK t k 1) (X.var (t.part 0).n), subR (partK t k 1) k] := by simp [ruleOf, h, ho]
   rw [e]
   exact m_set1 hX hM ht hS h2 pf pth false ho hv hr
  ·have e : ruleOf X t k ⟨pf, pth, false⟩ = [⟨6, 0, partK t k 0 + 1, partK t k 1, 0, 0, 0, (t.part 0).s, []⟩, subR (partK t k 1) k] := by simp [ruleOf, h, ho]
   rw [e]
   exact m_set13 hX hM ht hS h2 pf pth false ho hg hr
  ·have e : ruleOf X t k ⟨pf, pth, false⟩ = [⟨7, 0, partK t k 0 + 1, partK t k 1, 0, 0, 0, [], []⟩, subR (partK t k 1) k] := by simp [ruleOf, h, ho]
   rw [e]
   exact m_set14 hX hM ht hS h2 pf pth false ho hg hr
 ·have e : ruleOf X t k ⟨pf, pth, false⟩ = [⟨5, 0, partK t k 0, k, 0, 0, 0, [], []⟩] := by simp [ruleOf, h]
  rw [e]
  exact m_index hX hM ht hS (hok.one_ (.inr (.inl h))) pf pth false hr
 ·have e : ruleOf X t k ⟨pf, pth, false⟩ = [⟨4, 0, partK t k 0, k, 0, 0, 0, t.s, []⟩] := by simp [ruleOf, h]
  rw [e]
  exact m_member hX hM ht hS (hok.one_ (.inl h)) pf pth false hr
 ·have e : ruleOf X t k ⟨pf, pth, false⟩ = ⟨1, 0, k, 0, 0, 0, t.n, [], []⟩ :: pairsR k t.l (k + 1) := by simp [ruleOf, h]
  rw [e]
  exact m_object hX hM ht hS pf pth false (hok.obj_ h).1 (hok.obj_ h).2 hr
 ·obtain ⟨j, i, f, s, hp, hf, hix, hv⟩ := hok.dec_ h
  simp only at hp
  subst hp
  have e : ruleOf X t k ⟨(j : Int), pth, false⟩ = [⟨2, 0, X.var ((j : Int) * 1000 + (i : Int)), 0, 0, t.n, 0, [], []⟩] := by simp [ruleOf, h, Cx.varsAt, hf, hix]
  rw [e]
  exact m_declaration hX hM ht hS pth false hf hv hix hr
 ·obtain ⟨j, f, hn, hf, hl, hc⟩ := hok.clo_ h
  by_cases hge : (f.params : Int) ≤ idxS f.vars t.s
  ·obtain ⟨i, s, hix, hv⟩ := hc hge
   have e : ruleOf X t k ⟨pf, pth, false⟩ = [⟨2, 0, k, 0, 0, (j : Nat), 0, [], []⟩, ⟨2, 0, X.var ((j : Int) * 1000 + (i : Int)), 0, 0, (j : Nat), 0, [], []⟩] := by
    rw [hix] at hge
    simp [ruleOf, h, Cx.varsAt, Cx.parsAt, hn, hf, hix, hge]
   rw [e]
   exact m_closure2 hX hM ht hS pf pth false hn hf hv hix (by rw [← hix]; exact hge) hr
  ·have e : ruleOf X t k ⟨pf, pth, false⟩ = [⟨2, 0, k, 0, 0, (j : Nat), 0, [], []⟩] := by simp [ruleOf, h, Cx.varsAt, Cx.parsAt, hn, hf, hge]
   rw [e]
   exact m_closure1 hX hM ht hS pf pth false hn hf hl rfl hge hr
 ·obtain ⟨j, s, hp, hs⟩ := hok.fn_ (.inl h)
  simp only at hp
  subst hp
  have e : ruleOf X t k ⟨(j : Int), pth, false⟩ = [subR s.this k] := by simp [ruleOf, h, Cx.fsAt, hs]
  rw [e]
  exact m_this hX hM ht hS pth false hs hr
 ·obtain ⟨j, i, f, s, hv⟩ := hok.var_ (.inl h)
  have e : ruleOf X t k ⟨pf, pth, false⟩ = [subR (X.var t.n) k] := by simp [ruleOf, h]
  rw [e]
  exact m_id hX hM ht hS pf pth false hv hr
end
end Go.Proofs.YtikbfoichhkeaaaGreat
