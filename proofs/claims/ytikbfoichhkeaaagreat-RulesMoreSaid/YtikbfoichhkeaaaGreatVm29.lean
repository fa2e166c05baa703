/- rules.within: the place of a tree's part. -/
import Derived.BigRegion
import Derived.StillTailTactics
import Derived.Test.YtikbfoichhkeaaaGreatVm28
set_option linter.unusedSimpArgs false
set_option linter.unusedVariables false
set_option maxRecDepth 100000
set_option maxHeartbeats 40000000
namespace Go.Proofs.YtikbfoichhkeaaaGreat
section
open Go.RowKit Go.Proofs
def placeW (p : Pl9) : Value := .agg #[.int .i64 p.fn, .int .i64 p.th, .bool p.tg]
theorem fin3 {W : World} {b : Nat} {z0 z1 z2 a0 a1 a2 : Value} {T : TypeId} (h : W.heap[b]? = some (.cells #[z0, z1, z2] T (0, 0))) :
  (((W.setCell ⟨b, 0, none⟩ a0).setCell ⟨b, 1, none⟩ a1).setCell ⟨b, 2, none⟩ a2).heap[b]? = some (.cells #[a0, a1, a2] T (0, 0)) := blk_set (blk_set (blk_set h 0 a0) 1 a1) 2 a2
theorem fin3_only (W : World) (b : Nat) (a0 a1 a2 : Value) : Only (fun i => i = b) W (((W.setCell ⟨b, 0, none⟩ a0).setCell ⟨b, 1, none⟩ a1).setCell ⟨b, 2, none⟩ a2) :=
 ((Only.setCell (F := fun i => i = b) W rfl 0 a0).trans' (Only.setCell (F := fun i => i = b) _ rfl 1 a1)).trans' (Only.setCell (F := fun i => i = b) _ rfl 2 a2)
theorem fz3 {W : World} {b : Nat} {u0 u1 u2 : Value} {T : TypeId} (h : W.heap[b]? = some (.cells #[u0, u1, u2] T (0, 0))) : W.frozen? ⟨b, 0, none⟩ = false ∧ W.frozen? ⟨b, 1, none⟩ = false ∧ W.frozen? ⟨b, 2, none⟩ = false := by simp [World.frozen?, h]
theorem fin4 {n b : Nat} {W U : World} {z0 z1 z2 : Value} {T : TypeId} (hb : Below n W U) (hn : n ≤ b) (hU : n ≤ U.heap.size) (h2 : U.heap[b + 1]? = some (.cells #[z0, z1, z2] T (0, 0))) (j : Nat) (u v0 v1 v2 : Value) :
  ((((U.setCell ⟨b, j, none⟩ u).setCell ⟨b + 1, 0, none⟩ v0).setCell ⟨b + 1, 1, none⟩ v1).setCell ⟨b + 1, 2, none⟩ v2).heap[b + 1]? = some (.cells #[v0, v1, v2] T (0, 0)) ∧ Below n W ((((U.setCell ⟨b, j, none⟩ u).setCell ⟨b + 1, 0, none⟩ v0).setCell ⟨b + 1, 1, none⟩ v1).setCell ⟨b + 1, 2, none⟩ v2) := by
 have h1 := Only.setCell (F := fun i => i = b) U rfl j u
 have h3 := fin3_only (U.setCell ⟨b, j, none⟩ u) (b + 1) v0 v1 v2
 exact ⟨fin3 ((h1.block (b + 1) (heap_lt h2) (by omega)).trans h2), hb.trans ((h1.below hU (fun i hi => by subst hi; exact hn)).trans ((h3.below (Nat.le_trans hU h1.size) (fun i hi => by subst hi; omega))))⟩
theorem within_41 {W0 W : World} {Mb fB : Nat} {X : Cx} {fv fsv rv : Value} {rs : List Ru} (hX : CxOK X) (hM : MkAt W0 W Mb fB X fv fsv rv rs) {S : Nat → Prop} {t : Tr} {k : Nat} {cs : List Value} (ht : NtP W S t k cs) (pf pth : Int) (ptg : Bool) (i : Nat) {jf : Nat} {sf : FS} (hop : t.op = 41) (htn : t.n = (jf : Nat)) (hfs0 : X.fs[jf]? = some sf) :
  Calls Tryz.prog 110 #[.pointer (some ⟨Mb, 0, none⟩), .agg cs.toArray, .agg #[.int .i64 pf, .int .i64 pth, .bool ptg], .int .i64 i] W fun e W' => e = .returned (placeW ⟨(jf : Nat), sf.thr, decide ((i : Int) < (t.l.length : Int) - 1)⟩) ∧ Below W.heap.size W W' := by
 obtain ⟨A0, n0, c0, A, c, rfl, htc, hrow⟩ := (NtP_eq _ _ _ _ _).1 ht
 obtain ⟨ek, hek⟩ : ∃ x, k + t.size = x := ⟨_, rfl⟩
 obtain ⟨ln, hln⟩ : ∃ x, t.l.length = x := ⟨_, rfl⟩
 have hlc : ln ≤ c ∧ c ≤ 9223372036854775807 := by rw [← hln]; exact ⟨htc.1, htc.2.1⟩
 obtain ⟨hlc1, hlc2⟩ := hlc
 rw [hek, hln]
 unfold ntV
 rw [htn]
 obtain ⟨hal, hb0, hb1, hb2, hz3⟩ := alloc3 W (.cells #[.int .i64 t.op, .string (bs t.s), .int .i64 (jf : Nat), .slice A0 n0 c0, .int .i64 t.line, .int .i64 k, .int .i64 ek, .slice A ln c] 92) (.cells #[.int .i64 pf, .int .i64 pth, .bool false] 94) (.cells #[.int .i64 0, .int .i64 0, .bool false] 94)
 obtain ⟨W4, e4⟩ : ∃ x, ((W.alloc (.cells #[.int .i64 t.op, .string (bs t.s), .int .i64 (jf : Nat), .slice A0 n0 c0, .int .i64 t.line, .int .i64 k, .int .i64 ek, .slice A ln c] 92)).alloc (.cells #[.int .i64 pf, .int .i64 pth, .bool false] 94)).alloc (.cells #[.int .i64 0, .int .i64 0, .bool false] 94) = x := ⟨_, rfl⟩
 rw [e4] at hal hb0 hb1 hb2 hz3
 have hM4 := hM.below hal
 obtain ⟨N, eN⟩ : ∃ x, W.heap.size = x := ⟨_, rfl⟩
 rw [eN] at hb0 hb1 hb2 hz3
 obtain ⟨As2, cs2, efs⟩ := hM.fs0.form
 have hfs9 := hM.fs0
 rw [efs] at hfs9
 obtain ⟨g2, off2, v2, rfl, hg2, -, f0, f1, f2, f3, f4⟩ := fs_get hfs9 jf sf hfs0
 have hjl : jf < X.fs.length := (List.getElem?_eq_some_iff.1 hfs0).1
 have hfs : ∀ w' {rv' rs'}, MkAt W0 w' Mb fB X fv fsv rv' rs' → (w'.cell? ⟨g2, off2 + jf * 5 + 1, none⟩ = some v2 ∧ w'.cell? ⟨g2, off2 + jf * 5 + 2, none⟩ = some (.int .i64 sf.this) ∧ w'.cell? ⟨g2, off2 + jf * 5 + 3, none⟩ = some (.int .i64 sf.ret) ∧ w'.cell? ⟨g2, off2 + jf * 5 + 4, none⟩ = some (.int .i64 sf.thr)) := fun w' rv' rs' hm => by
  have hl := hm.low
  have h9 : ∀ o v, W0.cell? ⟨g2, o, none⟩ = some v → w'.cell? ⟨g2, o, none⟩ = some v := fun o v h => (hl.cell (p := ⟨g2, o, none⟩) (by have := hm.size0; show g2 < Mb; omega)).trans h
  exact ⟨h9 _ _ f1, h9 _ _ f2, h9 _ _ f3, h9 _ _ f4⟩
 have hcell : ∀ w' : World, (∀ b, b < W4.heap.size → b ≠ N + 1 + 1 → w'.heap[b]? = W4.heap[b]?) → (w'.cell? ⟨Mb, 2, none⟩ = some (.slice (some ⟨g2, off2, none⟩) X.fs.length cs2) ∧ w'.cell? ⟨g2, off2 + jf * 5 + 4, none⟩ = some (.int .i64 sf.thr) ∧ w'.cell? ⟨N, 0, none⟩ = some (.int .i64 t.op) ∧ w'.cell? ⟨N, 2, none⟩ = some (.int .i64 (jf : Nat)) ∧ w'.cell? ⟨N, 7, none⟩ = some (.slice A ln c)) := fun w' hb => by
  have h0 := (box8 ((hb N (heap_lt hb0) (by omega)).trans hb0)).1
  have hmb : Mb < N := by have := hM.lt; omega
  have hq : ∀ g o v, g < N → W4.cell? ⟨g, o, none⟩ = some v → w'.cell? ⟨g, o, none⟩ = some v := fun g o v hg h => (cell_block (hb g (by omega) (by omega)) ⟨g, o, none⟩ rfl).trans h
  have hg2' : g2 < N := by have := hM.size0; omega
  exact ⟨hq _ _ _ hmb (hM4.cells.1.2.2.1.trans (congrArg some efs)), hq _ _ _ hg2' (hfs W4 hM4).2.2.2, h0.1, h0.2.2.1, h0.2.2.2.2.2.2.2⟩
 obtain ⟨x0, x1, x2, x3, x4⟩ := hcell W4 (fun _ _ _ => rfl)
 have HSD := Lib.hid (hcell W4.drew (fun _ _ _ => rfl))
 obtain ⟨m0, m1, m2⟩ := box3c hb2
 obtain ⟨r0, r1, r2⟩ := fz3 hb2
 have d1 : (t.op == 41) = true := by rw [hop]; rfl
 have wl : IntKind.i64.wrap ((ln : Int) - 1) = (ln : Int) - 1 := IntWalk.i64_in _ (by omega)
 have hF := fin3 (a0 := .int .i64 (jf : Nat)) (a1 := .int .i64 sf.thr) (a2 := (.bool (decide ((i : Int) < (ln : Int) - 1)))) hb2
 have hO := (fin3_only W4 (N + 1 + 1) (.int .i64 (jf : Nat)) (.int .i64 sf.thr) (.bool (decide ((i : Int) < (ln : Int) - 1)))).drew
 have HF := Lib.hid (And.intro hF (hal.trans (hO.below hal.size (fun i hi => by subst hi; omega))))
 clear hcell hF hO hal hb0 hb1 hb2 hM hM4 hX ht htc hrow hek hln hop htn hfs f0 f1 f2 f3 f4 hfs0 hfs9 efs
 go_enter Tryz.func110, Tryz.ntmps110
 go_upto_region 5 with fail
 first | rw [e4] | skip
 go_still_tail 21, (by kernel_rfl)
 change wpList _ _ _ _ _ W4.drew
 go_wp2
 have q := box3c HF.out.1
 exact bodyPost_ret (v := .agg #[.int .i64 (jf : Nat), .int .i64 sf.thr, (.bool (decide ((i : Int) < (ln : Int) - 1)))]) (by simp [results, Tryz.results110, go_sem, q.1, q.2.1, q.2.2]) rfl ⟨rfl, HF.out.2⟩
theorem within_10 {W0 W : World} {Mb fB : Nat} {X : Cx} {fv fsv rv : Value} {rs : List Ru} (hX : CxOK X) (hM : MkAt W0 W Mb fB X fv fsv rv rs) {S : Nat → Prop} {t : Tr} {k : Nat} {cs : List Value} (ht : NtP W S t k cs) (pf pth : Int) (ptg : Bool) (i : Nat) {jf : Nat} {sf : FS} (hop : t.op = 10) (htn : t.n = (jf : Nat)) (hfs0 : X.fs[jf]? = some sf) :
  Calls Tryz.prog 110 #[.pointer (some ⟨Mb, 0, none⟩), .agg cs.toArray, .agg #[.int .i64 pf, .int .i64 pth, .bool ptg], .int .i64 i] W fun e W' => e = .returned (placeW ⟨(jf : Nat), sf.thr, decide ((i : Int) < (t.l.length : Int) - 1)⟩) ∧ Below W.heap.size W W' := by
 obtain ⟨A0, n0, c0, A, c, rfl, htc, hrow⟩ := (NtP_eq _ _ _ _ _).1 ht
 obtain ⟨ek, hek⟩ : ∃ x, k + t.size = x := ⟨_, rfl⟩
 obtain ⟨ln, hln⟩ : ∃ x, t.l.length = x := ⟨_, rfl⟩
 have hlc : ln ≤ c ∧ c ≤ 9223372036854775807 := by rw [← hln]; exact ⟨htc.1, htc.2.1⟩
 obtain ⟨hlc1, hlc2⟩ := hlc
 rw [hek, hln]
 unfold ntV
 rw [htn]
 obtain ⟨hal, hb0, hb1, hb2, hz3⟩ := alloc3 W (.cells #[.int .i64 t.op, .string (bs t.s), .int .i64 (jf : Nat), .slice A0 n0 c0, .int .i64 t.line, .int .i64 k, .int .i64 ek, .slice A ln c] 92) (.cells #[.int .i64 pf, .int .i64 pth, .bool false] 94) (.cells #[.int .i64 0, .int .i64 0, .bool false] 94)
 obtain ⟨W4, e4⟩ : ∃ x, ((W.alloc (.cells #[.int .i64 t.op, .string (bs t.s), .int .i64 (jf : Nat), .slice A0 n0 c0, .int .i64 t.line, .int .i64 k, .int .i64 ek, .slice A ln c] 92)).alloc (.cells #[.int .i64 pf, .int .i64 pth, .bool false] 94)).alloc (.cells #[.int .i64 0, .int .i64 0, .bool false] 94) = x := ⟨_, rfl⟩
 rw [e4] at hal hb0 hb1 hb2 hz3
 have hM4 := hM.below hal
 obtain ⟨N, eN⟩ : ∃ x, W.heap.size = x := ⟨_, rfl⟩
 rw [eN] at hb0 hb1 hb2 hz3
 obtain ⟨As2, cs2, efs⟩ := hM.fs0.form
 have hfs9 := hM.fs0
 rw [efs] at hfs9
 obtain ⟨g2, off2, v2, rfl, hg2, -, f0, f1, f2, f3, f4⟩ := fs_get hfs9 jf sf hfs0
 have hjl : jf < X.fs.length := (List.getElem?_eq_some_iff.1 hfs0).1
 have hfs : ∀ w' {rv' rs'}, MkAt W0 w' Mb fB X fv fsv rv' rs' → (w'.cell? ⟨g2, off2 + jf * 5 + 1, none⟩ = some v2 ∧ w'.cell? ⟨g2, off2 + jf * 5 + 2, none⟩ = some (.int .i64 sf.this) ∧ w'.cell? ⟨g2, off2 + jf * 5 + 3, none⟩ = some (.int .i64 sf.ret) ∧ w'.cell? ⟨g2, off2 + jf * 5 + 4, none⟩ = some (.int .i64 sf.thr)) := fun w' rv' rs' hm => by
  have hl := hm.low
  have h9 : ∀ o v, W0.cell? ⟨g2, o, none⟩ = some v → w'.cell? ⟨g2, o, none⟩ = some v := fun o v h => (hl.cell (p := ⟨g2, o, none⟩) (by have := hm.size0; show g2 < Mb; omega)).trans h
  exact ⟨h9 _ _ f1, h9 _ _ f2, h9 _ _ f3, h9 _ _ f4⟩
 have hcell : ∀ w' : World, (∀ b, b < W4.heap.size → b ≠ N + 1 + 1 → w'.heap[b]? = W4.heap[b]?) → (w'.cell? ⟨Mb, 2, none⟩ = some (.slice (some ⟨g2, off2, none⟩) X.fs.length cs2) ∧ w'.cell? ⟨g2, off2 + jf * 5 + 4, none⟩ = some (.int .i64 sf.thr) ∧ w'.cell? ⟨N, 0, none⟩ = some (.int .i64 t.op) ∧ w'.cell? ⟨N, 2, none⟩ = some (.int .i64 (jf : Nat)) ∧ w'.cell? ⟨N, 7, none⟩ = some (.slice A ln c)) := fun w' hb => by
  have h0 := (box8 ((hb N (heap_lt hb0) (by omega)).trans hb0)).1
  have hmb : Mb < N := by have := hM.lt; omega
  have hq : ∀ g o v, g < N → W4.cell? ⟨g, o, none⟩ = some v → w'.cell? ⟨g, o, none⟩ = some v := fun g o v hg h => (cell_block (hb g (by omega) (by omega)) ⟨g, o, none⟩ rfl).trans h
  have hg2' : g2 < N := by have := hM.size0; omega
  exact ⟨hq _ _ _ hmb (hM4.cells.1.2.2.1.trans (congrArg some efs)), hq _ _ _ hg2' (hfs W4 hM4).2.2.2, h0.1, h0.2.2.1, h0.2.2.2.2.2.2.2⟩
 obtain ⟨x0, x1, x2, x3, x4⟩ := hcell W4 (fun _ _ _ => rfl)
 have HSD := Lib.hid (hcell W4.drew (fun _ _ _ => rfl))
 obtain ⟨m0, m1, m2⟩ := box3c hb2
 obtain ⟨r0, r1, r2⟩ := fz3 hb2
 have d1 : (t.op == 41) = false := by rw [hop]; rfl
 have d2 : (t.op == 10) = true := by rw [hop]; rfl
 have wl : IntKind.i64.wrap ((ln : Int) - 1) = (ln : Int) - 1 := IntWalk.i64_in _ (by omega)
 have hF := fin3 (a0 := .int .i64 (jf : Nat)) (a1 := .int .i64 sf.thr) (a2 := (.bool (decide ((i : Int) < (ln : Int) - 1)))) hb2
 have hO := (fin3_only W4 (N + 1 + 1) (.int .i64 (jf : Nat)) (.int .i64 sf.thr) (.bool (decide ((i : Int) < (ln : Int) - 1)))).drew
 have HF := Lib.hid (And.intro hF (hal.trans (hO.below hal.size (fun i hi => by subst hi; omega))))
 clear hcell hF hO hal hb0 hb1 hb2 hM hM4 hX ht htc hrow hek hln hop htn hfs f0 f1 f2 f3 f4 hfs0 hfs9 efs
 go_enter Tryz.func110, Tryz.ntmps110
 go_upto_region 5 with fail
 first | rw [e4] | skip
 go_still_tail 21, (by kernel_rfl)
 change wpList _ _ _ _ _ W4.drew
 go_wp2
 have q := box3c HF.out.1
 exact bodyPost_ret (v := .agg #[.int .i64 (jf : Nat), .int .i64 sf.thr, (.bool (decide ((i : Int) < (ln : Int) - 1)))]) (by simp [results, Tryz.results110, go_sem, q.1, q.2.1, q.2.2]) rfl ⟨rfl, HF.out.2⟩
theorem within_else {W0 W : World} {Mb fB : Nat} {X : Cx} {fv fsv rv : Value} {rs : List Ru} (hX : CxOK X) (hM : MkAt W0 W Mb fB X fv fsv rv rs) {S : Nat → Prop} {t : Tr} {k : Nat} {cs : List Value} (ht : NtP W S t k cs) (pf pth : Int) (ptg : Bool) (i : Nat) (o1 : (t.op == 41) = false) (o2 : (t.op == 10) = false) (o3 : (t.op == 38) = false) (o4 : (t.op == 17) = false) :
  Calls Tryz.prog 110 #[.pointer (some ⟨Mb, 0, none⟩), .agg cs.toArray, .agg #[.int .i64 pf, .int .i64 pth, .bool ptg], .int .i64 i] W fun e W' => e = .returned (placeW ⟨pf, pth, false⟩) ∧ Below W.heap.size W W' := by
 obtain ⟨A0, n0, c0, A, c, rfl, htc, hrow⟩ := (NtP_eq _ _ _ _ _).1 ht
 obtain ⟨ek, hek⟩ : ∃ x, k + t.size = x := ⟨_, rfl⟩
 obtain ⟨ln, hln⟩ : ∃ x, t.l.length = x := ⟨_, rfl⟩
 have hlc : ln ≤ c ∧ c ≤ 9223372036854775807 := by rw [← hln]; exact ⟨htc.1, htc.2.1⟩
 obtain ⟨hlc1, hlc2⟩ := hlc
 rw [hek, hln]
 unfold ntV
 obtain ⟨hal, hb0, hb1, hb2, hz3⟩ := alloc3 W (.cells #[.int .i64 t.op, .string (bs t.s), .int .i64 t.n, .slice A0 n0 c0, .int .i64 t.line, .int .i64 k, .int .i64 ek, .slice A ln c] 92) (.cells #[.int .i64 pf, .int .i64 pth, .bool false] 94) (.cells #[.int .i64 0, .int .i64 0, .bool false] 94)
 obtain ⟨W4, e4⟩ : ∃ x, ((W.alloc (.cells #[.int .i64 t.op, .string (bs t.s), .int .i64 t.n, .slice A0 n0 c0, .int .i64 t.line, .int .i64 k, .int .i64 ek, .slice A ln c] 92)).alloc (.cells #[.int .i64 pf, .int .i64 pth, .bool false] 94)).alloc (.cells #[.int .i64 0, .int .i64 0, .bool false] 94) = x := ⟨_, rfl⟩
 rw [e4] at hal hb0 hb1 hb2 hz3
 have hM4 := hM.below hal
 obtain ⟨N, eN⟩ : ∃ x, W.heap.size = x := ⟨_, rfl⟩
 rw [eN] at hb0 hb1 hb2 hz3
 have h0 := (box8 hb0).1
 have x0 := h0.1
 have x2 := h0.2.2.1
 clear h0
 obtain ⟨p0, p1, p2⟩ := box3c hb1
 obtain ⟨m0, m1, m2⟩ := box3c hb2
 obtain ⟨r0, r1, r2⟩ := fz3 hb2
 obtain ⟨s0, s1, s2⟩ := fz3 hb1
 have hF := fin3 (a0 := .int .i64 pf) (a1 := .int .i64 pth) (a2 := .bool false) hb2
 have hO := fin3_only W4 (N + 1 + 1) (.int .i64 pf) (.int .i64 pth) (.bool false)
 have HF := Lib.hid (And.intro hF (hal.trans (hO.below hal.size (fun i hi => by subst hi; omega))))
 clear hF hO
 clear hal hb0 hb1 hb2 hM hM4 hX ht htc hrow hek hln
 go_enter Tryz.func110, Tryz.ntmps110
 go_wp2
 have q := box3c HF.out.1
 exact bodyPost_ret (v := .agg #[.int .i64 pf, .int .i64 pth, .bool false]) (by simp [results, Tryz.results110, go_sem, q.1, q.2.1, q.2.2]) rfl ⟨rfl, HF.out.2⟩
theorem within_set {W0 W : World} {Mb fB : Nat} {X : Cx} {fv fsv rv : Value} {rs : List Ru} (hX : CxOK X) (hM : MkAt W0 W Mb fB X fv fsv rv rs) {S : Nat → Prop} {t : Tr} {k : Nat} {cs : List Value} (ht : NtP W S t k cs) (pf pth : Int) (ptg : Bool) (i : Nat) (hop : t.op = 17) :
  Calls Tryz.prog 110 #[.pointer (some ⟨Mb, 0, none⟩), .agg cs.toArray, .agg #[.int .i64 pf, .int .i64 pth, .bool ptg], .int .i64 i] W fun e W' => e = .returned (placeW ⟨pf, pth, ((i : Int) == 0)⟩) ∧ Below W.heap.size W W' := by
 obtain ⟨A0, n0, c0, A, c, rfl, htc, hrow⟩ := (NtP_eq _ _ _ _ _).1 ht
 obtain ⟨ek, hek⟩ : ∃ x, k + t.size = x := ⟨_, rfl⟩
 obtain ⟨ln, hln⟩ : ∃ x, t.l.length = x := ⟨_, rfl⟩
 have hlc : ln ≤ c ∧ c ≤ 9223372036854775807 := by rw [← hln]; exact ⟨htc.1, htc.2.1⟩
 obtain ⟨hlc1, hlc2⟩ := hlc
 rw [hek, hln]
 unfold ntV
 obtain ⟨hal, hb0, hb1, hb2, hz3⟩ := alloc3 W (.cells #[.int .i64 t.op, .string (bs t.s), .int .i64 t.n, .slice A0 n0 c0, .int .i64 t.line, .int .i64 k, .int .i64 ek, .slice A ln c] 92) (.cells #[.int .i64 pf, .int .i64 pth, .bool false] 94) (.cells #[.int .i64 0, .int .i64 0, .bool false] 94)
 obtain ⟨W4, e4⟩ : ∃ x, ((W.alloc (.cells #[.int .i64 t.op, .string (bs t.s), .int .i64 t.n, .slice A0 n0 c0, .int .i64 t.line, .int .i64 k, .int .i64 ek, .slice A ln c] 92)).alloc (.cells #[.int .i64 pf, .int .i64 pth, .bool false] 94)).alloc (.cells #[.int .i64 0, .int .i64 0, .bool false] 94) = x := ⟨_, rfl⟩
 rw [e4] at hal hb0 hb1 hb2 hz3
 have hM4 := hM.below hal
 obtain ⟨N, eN⟩ : ∃ x, W.heap.size = x := ⟨_, rfl⟩
 rw [eN] at hb0 hb1 hb2 hz3
 have h0 := (box8 hb0).1
 have x0 := h0.1
 have x2 := h0.2.2.1
 clear h0
 obtain ⟨p0, p1, p2⟩ := box3c hb1
 obtain ⟨m0, m1, m2⟩ := box3c hb2
 obtain ⟨r0, r1, r2⟩ := fz3 hb2
 obtain ⟨s0, s1, s2⟩ := fz3 hb1
 have o1 : (t.op == 41) = false := by rw [hop]; rfl
 have o2 : (t.op == 10) = false := by rw [hop]; rfl
 have o3 : (t.op == 38) = false := by rw [hop]; rfl
 have o4 : (t.op == 17) = true := by rw [hop]; rfl
 have HF := Lib.hid (fin4 hal (b := N + 1) (by omega) hal.size hb2 2 (.bool ((i : Int) == 0)) (.int .i64 pf) (.int .i64 pth) (.bool ((i : Int) == 0)))
 clear hal hb0 hb1 hb2 hM hM4 hX ht htc hrow hek hln hop
 go_enter Tryz.func110, Tryz.ntmps110
 go_wp2
 have q := box3c HF.out.1
 exact bodyPost_ret (v := .agg #[.int .i64 pf, .int .i64 pth, .bool ((i : Int) == 0)]) (by simp [results, Tryz.results110, go_sem, q.1, q.2.1, q.2.2]) rfl ⟨rfl, HF.out.2⟩
theorem within_try1 {W0 W : World} {Mb fB : Nat} {X : Cx} {fv fsv rv : Value} {rs : List Ru} (hX : CxOK X) (hM : MkAt W0 W Mb fB X fv fsv rv rs) {S : Nat → Prop} {t : Tr} {k : Nat} {cs : List Value} (ht : NtP W S t k cs) (pf pth : Int) (ptg : Bool) (i : Nat) (hop : t.op = 38) (hi : ¬ (i : Int) = 0) :
  Calls Tryz.prog 110 #[.pointer (some ⟨Mb, 0, none⟩), .agg cs.toArray, .agg #[.int .i64 pf, .int .i64 pth, .bool ptg], .int .i64 i] W fun e W' => e = .returned (placeW ⟨pf, pth, false⟩) ∧ Below W.heap.size W W' := by
 obtain ⟨A0, n0, c0, A, c, rfl, htc, hrow⟩ := (NtP_eq _ _ _ _ _).1 ht
 obtain ⟨ek, hek⟩ : ∃ x, k + t.size = x := ⟨_, rfl⟩
 obtain ⟨ln, hln⟩ : ∃ x, t.l.length = x := ⟨_, rfl⟩
 have hlc : ln ≤ c ∧ c ≤ 9223372036854775807 := by rw [← hln]; exact ⟨htc.1, htc.2.1⟩
 obtain ⟨hlc1, hlc2⟩ := hlc
 rw [hek, hln]
 unfold ntV
 obtain ⟨hal, hb0, hb1, hb2, hz3⟩ := alloc3 W (.cells #[.int .i64 t.op, .string (bs t.s), .int .i64 t.n, .slice A0 n0 c0, .int .i64 t.line, .int .i64 k, .int .i64 ek, .slice A ln c] 92) (.cells #[.int .i64 pf, .int .i64 pth, .bool false] 94) (.cells #[.int .i64 0, .int .i64 0, .bool false] 94)
 obtain ⟨W4, e4⟩ : ∃ x, ((W.alloc (.cells #[.int .i64 t.op, .string (bs t.s), .int .i64 t.n, .slice A0 n0 c0, .int .i64 t.line, .int .i64 k, .int .i64 ek, .slice A ln c] 92)).alloc (.cells #[.int .i64 pf, .int .i64 pth, .bool false] 94)).alloc (.cells #[.int .i64 0, .int .i64 0, .bool false] 94) = x := ⟨_, rfl⟩
 rw [e4] at hal hb0 hb1 hb2 hz3
 have hM4 := hM.below hal
 obtain ⟨N, eN⟩ : ∃ x, W.heap.size = x := ⟨_, rfl⟩
 rw [eN] at hb0 hb1 hb2 hz3
 have h0 := (box8 hb0).1
 have x0 := h0.1
 have x2 := h0.2.2.1
 clear h0
 obtain ⟨p0, p1, p2⟩ := box3c hb1
 obtain ⟨m0, m1, m2⟩ := box3c hb2
 obtain ⟨r0, r1, r2⟩ := fz3 hb2
 obtain ⟨s0, s1, s2⟩ := fz3 hb1
 have o1 : (t.op == 41) = false := by rw [hop]; rfl
 have o2 : (t.op == 10) = false := by rw [hop]; rfl
 have o3 : (t.op == 38) = true := by rw [hop]; rfl
 have o5 : ((i : Int) == 0) = false := by simp; omega
 have hF := fin3 (a0 := .int .i64 pf) (a1 := .int .i64 pth) (a2 := .bool false) hb2
 have hO := fin3_only W4 (N + 1 + 1) (.int .i64 pf) (.int .i64 pth) (.bool false)
 have HF := Lib.hid (And.intro hF (hal.trans (hO.below hal.size (fun i hi => by subst hi; omega))))
 clear hF hO
 clear hal hb0 hb1 hb2 hM hM4 hX ht htc hrow hek hln hop hi
 go_enter Tryz.func110, Tryz.ntmps110
 go_wp2
 have q := box3c HF.out.1
 exact bodyPost_ret (v := .agg #[.int .i64 pf, .int .i64 pth, .bool false]) (by simp [results, Tryz.results110, go_sem, q.1, q.2.1, q.2.2]) rfl ⟨rfl, HF.out.2⟩
theorem within_try0 {W0 W : World} {Mb fB : Nat} {X : Cx} {fv fsv rv : Value} {rs : List Ru} (hX : CxOK X) (hM : MkAt W0 W Mb fB X fv fsv rv rs) {S : Nat → Prop} {t : Tr} {k : Nat} {cs : List Value} (ht : NtP W S t k cs) (pf pth : Int) (ptg : Bool) (i : Nat) {j9 i9 : Nat} {f9 : Fn} {s9 : FS} (hop : t.op = 38) (hi : (i : Int) = 0) (hv : VarOK X t.n j9 i9 f9 s9) :
  Calls Tryz.prog 110 #[.pointer (some ⟨Mb, 0, none⟩), .agg cs.toArray, .agg #[.int .i64 pf, .int .i64 pth, .bool ptg], .int .i64 i] W fun e W' => e = .returned (placeW ⟨pf, X.var t.n, false⟩) ∧ Below W.heap.size W W' := by
 obtain ⟨A0, n0, c0, A, c, rfl, htc, hrow⟩ := (NtP_eq _ _ _ _ _).1 ht
 obtain ⟨ek, hek⟩ : ∃ x, k + t.size = x := ⟨_, rfl⟩
 obtain ⟨ln, hln⟩ : ∃ x, t.l.length = x := ⟨_, rfl⟩
 have hlc : ln ≤ c ∧ c ≤ 9223372036854775807 := by rw [← hln]; exact ⟨htc.1, htc.2.1⟩
 obtain ⟨hlc1, hlc2⟩ := hlc
 rw [hek, hln]
 unfold ntV
 obtain ⟨hal, hb0, hb1, hb2, hz3⟩ := alloc3 W (.cells #[.int .i64 t.op, .string (bs t.s), .int .i64 t.n, .slice A0 n0 c0, .int .i64 t.line, .int .i64 k, .int .i64 ek, .slice A ln c] 92) (.cells #[.int .i64 pf, .int .i64 pth, .bool false] 94) (.cells #[.int .i64 0, .int .i64 0, .bool false] 94)
 obtain ⟨W4, e4⟩ : ∃ x, ((W.alloc (.cells #[.int .i64 t.op, .string (bs t.s), .int .i64 t.n, .slice A0 n0 c0, .int .i64 t.line, .int .i64 k, .int .i64 ek, .slice A ln c] 92)).alloc (.cells #[.int .i64 pf, .int .i64 pth, .bool false] 94)).alloc (.cells #[.int .i64 0, .int .i64 0, .bool false] 94) = x := ⟨_, rfl⟩
 rw [e4] at hal hb0 hb1 hb2 hz3
 have hM4 := hM.below hal
 obtain ⟨N, eN⟩ : ∃ x, W.heap.size = x := ⟨_, rfl⟩
 rw [eN] at hb0 hb1 hb2 hz3
 have h0 := (box8 hb0).1
 have x0 := h0.1
 have x2 := h0.2.2.1
 clear h0
 obtain ⟨p0, p1, p2⟩ := box3c hb1
 obtain ⟨m0, m1, m2⟩ := box3c hb2
 obtain ⟨r0, r1, r2⟩ := fz3 hb2
 obtain ⟨s0, s1, s2⟩ := fz3 hb1
 have o1 : (t.op == 41) = false := by rw [hop]; rfl
 have o2 : (t.op == 10) = false := by rw [hop]; rfl
 have o3 : (t.op == 38) = true := by rw [hop]; rfl
 have o5 : ((i : Int) == 0) = true := by simp; omega
 obtain ⟨xv, hxv⟩ : ∃ x, X.var t.n = x := ⟨_, rfl⟩
 have HB := Lib.hid (And.intro hal (And.intro hb1 hb2))
 have HV := Lib.hid (variable_ok hX hM4 hv)
 rw [hxv] at HV ⊢
 clear hal hb0 hb1 hb2 hM hM4 hX ht htc hrow hek hln hop hi hv hxv
 go_enter Tryz.func110, Tryz.ntmps110
 go_wp2_with fail
 go_at_call 106
 refine HV.out.mono ?_
 rintro e u9 ⟨rfl, hb9⟩
 clear p0 p1 p2 m0 m1 m2 r0 r1 r2 s0 s1 s2 x0 x2
 have hc1 := (hb9.block (N + 1) (by omega)).trans HB.out.2.1
 have hc2 := (hb9.block (N + 1 + 1) (by omega)).trans HB.out.2.2
 obtain ⟨p0, p1, p2⟩ := box3c hc1
 obtain ⟨m0, m1, m2⟩ := box3c hc2
 obtain ⟨r0, r1, r2⟩ := fz3 hc2
 obtain ⟨s0, s1, s2⟩ := fz3 hc1
 have hbW := HB.out.1.trans (hb9.mono HB.out.1.size)
 have HF := Lib.hid (fin4 hbW (b := N + 1) (by omega) hbW.size hc2 1 (.int .i64 xv) (.int .i64 pf) (.int .i64 xv) (.bool false))
 clear hc1 hc2 hbW hb9
 go_wp2
 have q := box3c HF.out.1
 exact bodyPost_ret (v := .agg #[.int .i64 pf, .int .i64 xv, .bool false]) (by simp [results, Tryz.results110, go_sem, q.1, q.2.1, q.2.2]) rfl ⟨rfl, HF.out.2⟩
structure PartOK (X : Cx) (t : Tr) : Prop where
 fun_ : t.op = 41 ∨ t.op = 10 → ∃ (j : Nat) (s : FS), t.n = (j : Int) ∧ X.fs[j]? = some s
 try_ : t.op = 38 → ∃ j i f s, VarOK X t.n j i f s
theorem wthn_any {W0 W : World} {Mb fB : Nat} {X : Cx} {fv fsv rv : Value} {rs : List Ru} (hX : CxOK X) (hM : MkAt W0 W Mb fB X fv fsv rv rs) {S : Nat → Prop} {t : Tr} {k : Nat} {cs : List Value} (ht : NtP W S t k cs) (hok : PartOK X t) (p : Pl9) (i : Nat) :
  Calls Tryz.prog 110 #[.pointer (some ⟨Mb, 0, none⟩), .agg cs.toArray, placeW p, .int .i64 i] W fun e W' => e = .returned (placeW (withinP X t.op t.n t.l.length p i)) ∧ Below W.heap.size W W' := by
 obtain ⟨pf, pth, ptg⟩ := p
 by_cases h1 : t.op = 41 ∨ t.op = 10
 ·obtain ⟨j, s, hn, hs⟩ := hok.fun_ h1
  have e : withinP X t.op t.n t.l.length ⟨pf, pth, ptg⟩ i = ⟨(j : Nat), s.thr, decide ((i : Int) < (t.l.length : Int) - 1)⟩ := by
   rw [withinP, if_pos h1, hn]
   simp [Cx.fsAt, hs]
  rw [e]
  rcases h1 with h1 | h1
  ·exact within_41 hX hM ht pf pth ptg i h1 hn hs
  ·exact within_10 hX hM ht pf pth ptg i h1 hn hs
 have e41 : (t.op == 41) = false := by simp; exact fun h => h1 (.inl h)
 have e10 : (t.op == 10) = false := by simp; exact fun h => h1 (.inr h)
 by_cases h2 : t.op = 38
 ·obtain ⟨j9, i9, f9, s9, hv⟩ := hok.try_ h2
  by_cases hi : i = 0
  ·have e : withinP X t.op t.n t.l.length ⟨pf, pth, ptg⟩ i = ⟨pf, X.var t.n, false⟩ := by rw [withinP, if_neg h1, if_pos h2, if_pos hi]
   rw [e]
   exact within_try0 hX hM ht pf pth ptg i h2 (by omega) hv
  ·have e : withinP X t.op t.n t.l.length ⟨pf, pth, ptg⟩ i = ⟨pf, pth, false⟩ := by rw [withinP, if_neg h1, if_pos h2, if_neg hi]
   rw [e]
   exact within_try1 hX hM ht pf pth ptg i h2 (by omega)
 have e38 : (t.op == 38) = false := by simp; exact h2
 by_cases h3 : t.op = 17
 ·have e : withinP X t.op t.n t.l.length ⟨pf, pth, ptg⟩ i = ⟨pf, pth, ((i : Int) == 0)⟩ := by
   rw [withinP, if_neg h1, if_neg h2, if_pos h3]
   by_cases hi : i = 0 <;> simp [hi]
  rw [e]
  exact within_set hX hM ht pf pth ptg i h3
 ·have e : withinP X t.op t.n t.l.length ⟨pf, pth, ptg⟩ i = ⟨pf, pth, false⟩ := by rw [withinP, if_neg h1, if_neg h2, if_neg h3]
  rw [e]
  exact within_else hX hM ht pf pth ptg i e41 e10 e38 (by simp; exact h3)
end
end Go.Proofs.YtikbfoichhkeaaaGreat
