/- rules.sub, VarSet, variable, own. rules.variable, own. rules.add: rules behind those that there are. rules.sets, rising: numbers in rows of their own. The functions' sets in a row of their own. -/
import Derived.BigQuiet
import Derived.BigRegion
import Derived.Test.YtikbfoichhkeaaaGreatVm26
set_option linter.unusedSimpArgs false
set_option linter.unusedVariables false
set_option maxRecDepth 100000
set_option maxHeartbeats 40000000
namespace Go.Proofs.YtikbfoichhkeaaaGreat
section
open Go.RowKit Go.Proofs
theorem drew_below (W : World) : Below W.heap.size W W.drew := ⟨rfl, rfl, rfl, Nat.le_refl _, fun _ _ => rfl⟩
theorem below_of_drew {W w : World} (h : Below W.drew.heap.size W.drew w) : Below W.heap.size W w := ⟨h.os, h.tape, h.output, h.size, fun k hk => h.block k hk⟩
structure CxOK (X : Cx) : Prop where
 len : X.fs.length = X.F.length
 few : X.F.length ≤ 1000
 sets : 0 ≤ X.sets ∧ X.sets ≤ 1000000
 each : ∀ (j : Nat) (f : Fn) (s : FS), X.F[j]? = some f → X.fs[j]? = some s → f.vars.length ≤ 200 ∧ (f.vars.length : Int) ≤ s.this ∧ s.this < s.thr ∧ s.ret < s.thr ∧ 0 ≤ s.ret ∧ s.thr < X.sets
theorem sub_any (x y : Int) (W : World) : Calls Tryz.prog 105 #[.int .i64 x, .int .i64 y] W fun e W' => e = .returned (.agg #[.int .i64 3, .int .i64 0, .int .i64 x, .int .i64 y, .int .i64 0, .int .i64 0, .int .i64 0, .string ⟨#[]⟩, .slice none 0 0]) ∧ Below W.heap.size W W' := by
 have hb := below_alloc9 W (.cells #[.int .i64 3, .int .i64 0, .int .i64 x, .int .i64 y, .int .i64 0, .int .i64 0, .int .i64 0, .string ⟨#[]⟩, .slice none 0 0] 44)
 have hx := heap_alloc_new W (.cells #[.int .i64 3, .int .i64 0, .int .i64 x, .int .i64 y, .int .i64 0, .int .i64 0, .int .i64 0, .string ⟨#[]⟩, .slice none 0 0] 44)
 have HB := Lib.hid (And.intro hb hx)
 clear hb hx
 go_enter Tryz.func105, Tryz.ntmps105
 go_wp2
 obtain ⟨hb, hx⟩ := HB.out
 obtain ⟨W1, e1⟩ : ∃ z, W.alloc (.cells #[.int .i64 3, .int .i64 0, .int .i64 x, .int .i64 y, .int .i64 0, .int .i64 0, .int .i64 0, .string ⟨#[]⟩, .slice none 0 0] 44) = z := ⟨_, rfl⟩
 rw [e1] at hb hx ⊢
 have r0 := cell_of_row W1 _ 0 _ _ _ hx
 have r1 := cell_of_row W1 _ 1 _ _ _ hx
 have r2 := cell_of_row W1 _ 2 _ _ _ hx
 have r3 := cell_of_row W1 _ 3 _ _ _ hx
 have r4 := cell_of_row W1 _ 4 _ _ _ hx
 have r5 := cell_of_row W1 _ 5 _ _ _ hx
 have r6 := cell_of_row W1 _ 6 _ _ _ hx
 have r7 := cell_of_row W1 _ 7 _ _ _ hx
 have r8 := cell_of_row W1 _ 8 _ _ _ hx
 simp at r0 r1 r2 r3 r4 r5 r6 r7 r8
 refine bodyPost_ret (v := .agg #[.int .i64 3, .int .i64 0, .int .i64 x, .int .i64 y, .int .i64 0, .int .i64 0, .int .i64 0, .string ⟨#[]⟩, .slice none 0 0]) (by simp [results, Tryz.results105, go_sem, r0, r1, r2, r3, r4, r5, r6, r7, r8]) rfl ⟨rfl, hb⟩
structure VarOK (X : Cx) (n : Int) (j i : Nat) (f : Fn) (s : FS) : Prop where
 n : n = 1000 * (j : Int) + (i : Int)
 i : i < f.vars.length
 f : X.F[j]? = some f
 s : X.fs[j]? = some s
theorem VarOK.set {X : Cx} (hX : CxOK X) {n : Int} {j i : Nat} {f : Fn} {s : FS} (h : VarOK X n j i f s) : varSet X n = (s.this - f.vars.length + i, 0) := by
 obtain ⟨h1, h2, h3, h4, h5, h6⟩ := hX.each j f s h.f h.s
 have hi := h.i
 have e1 : n / 1000 = (j : Int) := by rw [h.n]; omega
 have e2 : n % 1000 = (i : Int) := by rw [h.n]; omega
 unfold varSet
 rw [if_neg (by have := hX.len; have := h.n; omega), e1, e2, Int.toNat_natCast, h.f, h.s]
 simp only
 rw [if_neg (by omega), if_neg (by omega)]
theorem varset_ok {W : World} {X : Cx} {fB : Nat} {fv fsv rv : Value} (hX : CxOK X) (hF : FunsV W fB fv X.F) (hS : SlAt 5 FsP W fsv X.fs) {n : Int} {j i : Nat} {f : Fn} {s : FS} (h : VarOK X n j i f s) :
  Calls Tryz.prog 15 #[fv, .agg #[.int .i64 X.sets, fsv, rv], .int .i64 n] W fun e w' => e = .returned (.tuple #[.int .i64 (X.var n), .int .i64 0]) ∧ Below W.heap.size W w' := by
 obtain ⟨h1, h2, h3, h4, h5, h6⟩ := hX.each j f s h.f h.s
 have hsp := split_n h.n (by have := h.i; omega)
 have hv : X.var n = s.this - f.vars.length + i := by unfold Cx.var; rw [h.set hX]
 rw [hv]
 obtain ⟨g, c, As, cs, rfl, f0, f1, f2, f3, f4, -⟩ := hF.get h.f
 obtain ⟨As2, cs2, rfl⟩ := hS.form
 obtain ⟨g2, off2, v2, rfl, -, -, s0, s1, s2, s3, s4⟩ := fs_get hS j s h.s
 obtain ⟨d1, d2, d3⟩ := hsp
 have hj : j < X.F.length := (List.getElem?_eq_some_iff.1 h.f).1
 have hl := hX.len
 have hfew := hX.few
 have hsets := hX.sets
 have hi := h.i
 rw [hl]
 have hb := below_alloc9 W (.cells #[.int .i64 X.sets, .slice (some ⟨g2, off2, none⟩) X.F.length cs2, rv] 31)
 have hx := heap_alloc_new W (.cells #[.int .i64 X.sets, .slice (some ⟨g2, off2, none⟩) X.F.length cs2, rv] 31)
 have hfc : c ≤ 9223372036854775807 := by obtain ⟨A9, c9, e9, -, hc9⟩ := hF.form; injection e9 with _ _ e9; subst e9; exact hc9
 have hjc : j < c := by obtain ⟨A9, c9, e9, hc8, -⟩ := hF.form; injection e9 with _ _ e9; subst e9; omega
 have hjc2 : j < cs2 := by obtain ⟨-, hc8, -⟩ := SlAt.get hS; omega
 have t0 : ¬ n < 0 := by omega
 have t1 : ¬ (X.F.length : Int) ≤ j := by omega
 have t2 : ¬ (f.vars.length : Int) ≤ i := by omega
 have w1 : IntKind.i64.wrap (s.this - f.vars.length) = s.this - f.vars.length := IntWalk.i64_in _ (by omega)
 have w2 : IntKind.i64.wrap (s.this - f.vars.length + i) = s.this - f.vars.length + i := IntWalk.i64_in _ (by omega)
 have t3 : ¬ s.this - f.vars.length + (i : Int) < 0 := by omega
 have t4 : ¬ X.sets ≤ s.this - f.vars.length + (i : Int) := by omega
 obtain ⟨W1, e1⟩ : ∃ x, W.alloc (.cells #[.int .i64 X.sets, .slice (some ⟨g2, off2, none⟩) X.F.length cs2, rv] 31) = x := ⟨_, rfl⟩
 rw [e1] at hb hx
 have f3' := (hb.cell (p := ⟨g, j * 5 + 3, none⟩) (cell_lt f3)).trans f3
 have s2' := (hb.cell (p := ⟨g2, off2 + j * 5 + 2, none⟩) (cell_lt s2)).trans s2
 have x0 := cell_of_row W1 _ 0 _ _ _ hx
 have x1 := cell_of_row W1 _ 1 _ _ _ hx
 simp at x0 x1
 have HB := Lib.hid hb
 clear hb hx hF hS h hv f0 f1 f2 f3 f4 s0 s1 s2 s3 s4 hX
 go_enter Tryz.func15, Tryz.ntmps15
 go_upto_region 4 with fail
 go_quiet (fail)
 go_wp2
 refine bodyPost_ret (v := .tuple #[.int .i64 (s.this - f.vars.length + i), .int .i64 0]) (by simp [results, Tryz.results15, go_sem]) rfl ⟨rfl, below_drewN HB.out nq⟩
end
section
open Go.RowKit Go.Proofs
theorem variable_ok {W0 W : World} {Mb fB : Nat} {X : Cx} {fv fsv rv : Value} {rs : List Ru} (hX : CxOK X) (hM : MkAt W0 W Mb fB X fv fsv rv rs) {n : Int} {j i : Nat} {f : Fn} {s : FS} (h : VarOK X n j i f s) :
  Calls Tryz.prog 106 #[.pointer (some ⟨Mb, 0, none⟩), .int .i64 n] W fun e w' => e = .returned (.int .i64 (X.var n)) ∧ Below W.heap.size W w' := by
 obtain ⟨⟨m0, m1, m2, m3⟩, -⟩ := hM.cells
 have HV := Lib.hid (fun w (hb : Below W.heap.size W w) => varset_ok (rv := rv) hX (hM.below hb).fun1 (hM.below hb).fs1 h)
 have HM := Lib.hid hM
 clear hM hX h
 go_enter Tryz.func106, Tryz.ntmps106
 go_wp2_with fail
 go_region_law (first
  | (go_simp; go_at_call 15; (with_reducible refine (HV.out W.drew (drew_below W)).mono ?_); rintro e w1 ⟨rfl, hb⟩; have HL := Lib.hid (below_of_drew hb); clear hb))
 all_goals
  go_wp2
  go_ret
  exact ⟨rfl, HL.out⟩
theorem own_ok {W0 W : World} {Mb fB : Nat} {X : Cx} {fv fsv rv : Value} {rs : List Ru} (hX : CxOK X) (hM : MkAt W0 W Mb fB X fv fsv rv rs) {a b : Int} {j i : Nat} {f : Fn} {s : FS} (h : VarOK X (a * 1000 + b) j i f s) (ha : a = j) (hb : b = i) :
  Calls Tryz.prog 108 #[.pointer (some ⟨Mb, 0, none⟩), .int .i64 a, .int .i64 b] W fun e w' => e = .returned (.int .i64 (X.var (a * 1000 + b))) ∧ Below W.heap.size W w' := by
 have hj : j < X.F.length := (List.getElem?_eq_some_iff.1 h.f).1
 have hi := h.i
 have hf := hX.few
 have h2 := (hX.each j f s h.f h.s).1
 have w1 : IntKind.i64.wrap (a * 1000) = a * 1000 := IntWalk.i64_in _ (by omega)
 have w2 : IntKind.i64.wrap (a * 1000 + b) = a * 1000 + b := IntWalk.i64_in _ (by omega)
 have HV := Lib.hid (variable_ok hX hM h)
 obtain ⟨n, hn⟩ : ∃ n, a * 1000 + b = n := ⟨_, rfl⟩
 rw [hn] at HV w2 ⊢
 clear hM hX h hj hi hf h2 ha hb
 go_enter Tryz.func108, Tryz.ntmps108
 go_wp2_with fail
 go_at_call 106
 refine HV.out.mono ?_
 rintro e w1 ⟨rfl, hb⟩
 have HL := Lib.hid hb
 clear hb
 go_wp2
 go_ret
 exact ⟨rfl, HL.out⟩
end
section
open Go.RowKit Go.Proofs
def SrcR (W : World) (S : Nat → Prop) (v : Value) (l : List Ru) : Prop :=
 ∃ g c, v = .slice (some ⟨g, 0, none⟩) l.length c ∧ S g ∧ l.length ≤ c ∧ c ≤ maxLen ∧ ∀ (i : Nat) (r : Ru), l[i]? = some r → ∃ cs, RuF W S cs r ∧ ∀ j, j < 9 → W.cell? ⟨g, i * 9 + j, none⟩ = cs[j]?
theorem box9 {W : World} {b : Nat} {u0 u1 u2 u3 u4 u5 u6 u7 u8 : Value} {T : TypeId} (h : W.heap[b]? = some (.cells #[u0, u1, u2, u3, u4, u5, u6, u7, u8] T (0, 0))) :
  W.cell? ⟨b, 0, none⟩ = some u0 ∧ W.cell? ⟨b, 1, none⟩ = some u1 ∧ W.cell? ⟨b, 2, none⟩ = some u2 ∧ W.cell? ⟨b, 3, none⟩ = some u3 ∧ W.cell? ⟨b, 4, none⟩ = some u4 ∧ W.cell? ⟨b, 5, none⟩ = some u5 ∧ W.cell? ⟨b, 6, none⟩ = some u6 ∧ W.cell? ⟨b, 7, none⟩ = some u7 ∧ W.cell? ⟨b, 8, none⟩ = some u8 :=
 ⟨cell_of_row _ _ 0 _ _ _ h, cell_of_row _ _ 1 _ _ _ h, cell_of_row _ _ 2 _ _ _ h, cell_of_row _ _ 3 _ _ _ h, cell_of_row _ _ 4 _ _ _ h, cell_of_row _ _ 5 _ _ _ h, cell_of_row _ _ 6 _ _ _ h, cell_of_row _ _ 7 _ _ _ h, cell_of_row _ _ 8 _ _ _ h⟩
theorem add_any {W0 W : World} {Mb fB : Nat} {X : Cx} {fv fsv rv v : Value} {rs l : List Ru} (hM : MkAt W0 W Mb fB X fv fsv rv rs) (p : Pl9) (hS : SrcR W (foot (Mb + 1) W rv) v l) (hl : l.length ≤ 100000) (hr : rs.length + l.length ≤ 800000) :
  Calls Tryz.prog 104 #[.pointer (some ⟨Mb, 0, none⟩), .agg #[.int .i64 p.fn, .int .i64 p.th, .bool p.tg], v] W (AddQ W0 Mb fB X fv fsv W rv (rs ++ l.map (·.at_ p.fn))) := by
 obtain ⟨g, c, rfl, hg, hc1, hc2, hcs⟩ := hS
 have hc3 : c ≤ 9223372036854775807 := hc2
 have hal := below_alloc9 W (.cells #[.int .i64 p.fn, .int .i64 p.th, .bool p.tg] 94)
 have hbx := heap_alloc_new W (.cells #[.int .i64 p.fn, .int .i64 p.th, .bool p.tg] 94)
 have hM1 := hM.below hal
 have hMb := hM.lt
 obtain ⟨W1, e1⟩ : ∃ x, W.alloc (.cells #[.int .i64 p.fn, .int .i64 p.th, .bool p.tg] 94) = x := ⟨_, rfl⟩
 rw [e1] at hal hbx hM1
 have z1 : W1.heap.size = W.heap.size + 1 := by rw [← e1]; exact World.size_alloc _ _
 obtain ⟨N, eN⟩ : ∃ x, W.heap.size = x := ⟨_, rfl⟩
 rw [eN] at hbx z1 hMb
 have hown := hM.row.own
 rw [eN] at hown
 have H0 := Lib.hid (And.intro hal (And.intro hbx (And.intro hM1 (And.intro hg (And.intro hcs hown)))))
 clear hal hbx hM1 hg hcs hM hc2 hown
 go_enter Tryz.func104, Tryz.ntmps104
 go_wp2_with fail
 go_loopw [10] (fun i wr => ∃ (j : Nat) (rv' : Value), j ≤ l.length ∧ i = .int .i64 j ∧ MkAt W0 wr Mb fB X fv fsv rv' (rs ++ (l.take j).map (·.at_ p.fn)) ∧ Only (mkF Mb rv) W1 wr ∧ ∀ k, rv'.ownBlock = some k → rv.ownBlock = some k ∨ W1.heap.size ≤ k) (fun i _ => l.length - (intOf i).toNat)
 case atStart => exact ⟨0, rv, Nat.zero_le _, rfl, by rw [List.take_zero, List.map_nil, List.append_nil]; exact H0.out.2.2.1, Only.refl _ _, fun k h => .inl h⟩
 case round =>
  obtain ⟨j, rv', hj, rfl, hMj, hon, hnew⟩ := hrel
  have hzr := hon.size
  have hbr := (hon.block N (by omega) (by
   rintro (h | h)
   ·omega
   ·have := (H0.out.2.2.2.2.2 N h).2; omega)).trans H0.out.2.1
  have x0 := cell_of_row wr N 0 _ _ _ hbr
  simp at x0
  by_cases hlt : j < l.length
  ·have g1 : (j : Int) < l.length := by omega
   obtain ⟨r, hr9⟩ : ∃ r, l[j]? = some r := ⟨_, List.getElem?_eq_getElem hlt⟩
   obtain ⟨cs, ⟨u, rfl, hu, hsl⟩, hcj⟩ := H0.out.2.2.2.2.1 j r hr9
   obtain ⟨Au, cu, rfl, -⟩ := id hu
   have hkeep : ∀ i, foot (Mb + 1) W rv i → wr.heap[i]? = W.heap[i]? := fun i hi => (hon.block i (by have := hi.1.2; omega) (by
    rintro (h | h)
    ·have := hi.1.1; omega
    ·exact hi.2 h)).trans (H0.out.1.block i hi.1.2)
   have hcell : ∀ i, i < 9 → wr.cell? ⟨g, j * 9 + i, none⟩ = (ruV r (.slice Au r.l.length cu))[i]? := fun i hi => (cell_block (hkeep g H0.out.2.2.2.1) ⟨g, j * 9 + i, none⟩ rfl).trans (hcj i hi)
   have y0 := hcell 0 (by omega)
   have y1 := hcell 1 (by omega)
   have y2 := hcell 2 (by omega)
   have y3 := hcell 3 (by omega)
   have y4 := hcell 4 (by omega)
   have y5 := hcell 5 (by omega)
   have y6 := hcell 6 (by omega)
   have y7 := hcell 7 (by omega)
   have y8 := hcell 8 (by omega)
   simp [ruV] at y0 y1 y2 y3 y4 y5 y6 y7 y8
   have hal5 := below_alloc9 wr (.cells (ruV (r.at_ p.fn) (.slice Au r.l.length cu)).toArray 44)
   have hb5 := heap_alloc_new wr (.cells (ruV (r.at_ p.fn) (.slice Au r.l.length cu)).toArray 44)
   have x0' : (wr.alloc (.cells #[.int .i64 r.kd, .int .i64 r.f, .int .i64 r.x, .int .i64 r.y, .int .i64 r.z, .int .i64 r.n, .int .i64 r.m, .string (bs r.s), .slice Au r.l.length cu] 44)).cell? ⟨N, 0, none⟩ = some (.int .i64 p.fn) := ((below_alloc9 wr _).cell (p := ⟨N, 0, none⟩) (heap_lt hbr)).trans x0
   obtain ⟨w5, e5⟩ : ∃ x, wr.alloc (.cells #[.int .i64 r.kd, .int .i64 p.fn, .int .i64 r.x, .int .i64 r.y, .int .i64 r.z, .int .i64 r.n, .int .i64 r.m, .string (bs r.s), .slice Au r.l.length cu] 44) = x := ⟨_, rfl⟩
   rw [show wr.alloc (.cells (ruV (r.at_ p.fn) (.slice Au r.l.length cu)).toArray 44) = w5 from e5] at hal5 hb5
   obtain ⟨Z, eZ⟩ : ∃ x, wr.heap.size = x := ⟨_, rfl⟩
   have z5 : w5.heap.size = Z + 1 := by rw [← e5, ← eZ]; exact World.size_alloc _ _
   have hM5 := hMj.below hal5
   have hM5d := hM5.below (drew_below w5)
   have hfo : RuF w5.drew (foot (Mb + 1) w5.drew rv') (ruV (r.at_ p.fn) (.slice Au r.l.length cu)) (r.at_ p.fn) := by
    refine ⟨_, rfl, hu.keep (fun i hi => ⟨⟨hi.1.1, ?_⟩, fun h => ?_⟩) (fun i hi => ?_), hsl⟩
    ·have := hi.1.2
     show i < w5.heap.size
     omega
    ·rcases hnew i h with h | h
     ·exact hi.2 h
     ·have := hi.1.2; omega
    ·exact (hal5.block i (by have := hi.1.2; omega)).trans (hkeep i hi)
   have HP0 := RuAcc.push hM5d.row hfo (by have := hM5d.lt; omega) (by rw [List.length_append, List.length_map, List.length_take]; omega)
   rw [show w5.drew.heap.size = Z + 1 from z5] at HP0
   obtain ⟨nn, hnn⟩ : ∃ x, (rs ++ (l.take j).map (·.at_ p.fn)).length + 1 = x := ⟨_, rfl⟩
   rw [hnn] at HP0
   have HP := Lib.hid HP0
   obtain ⟨⟨m0, m1, m2, m3⟩, m4⟩ := hM5.cells
   rw [eZ] at hb5
   obtain ⟨v0, v1, v2, v3, v4, v5, v6, v7, v8⟩ := box9 (show w5.heap[Z]? = some (.cells #[.int .i64 r.kd, .int .i64 p.fn, .int .i64 r.x, .int .i64 r.y, .int .i64 r.z, .int .i64 r.n, .int .i64 r.m, .string (bs r.s), .slice Au r.l.length cu] 44 (0, 0)) from hb5)
   have ma3 : (w5.alloc (.cells #[.int .i64 r.kd, .int .i64 p.fn, .int .i64 r.x, .int .i64 r.y, .int .i64 r.z, .int .i64 r.n, .int .i64 r.m, .string (bs r.s), .slice Au r.l.length cu] 44)).cell? ⟨Mb, 3, none⟩ = some rv' := ((below_alloc9 w5 _).cell (p := ⟨Mb, 3, none⟩) hM5.lt).trans m3
   have hM5l := hM5.lt
   have HK := Lib.hid (And.intro hMj (And.intro hon (And.intro hnew (And.intro hal5 (And.intro hM5d (And.intro hr9 hzr))))))
   clear hMj hon hnew hal5 hM5 hM5d hr9 hfo HP0 hb5 hbr hkeep hcell hu hcj hsl
   go_upto_region 5 with fail
   first | rw [e5] | skip
   go_region_law (first
    | (refine step_app rfl (.tmp 22) (.tmp 24) 29 rfl rv' (.slice (some ⟨Z + 1, 0, none⟩) 1 1) rfl rfl _ HP.out ?_; rintro u8 w8 ⟨hacc, hon8, ⟨A8, c8, rfl⟩, hnew8⟩; have hb8 := (hon8.block Mb hM5l (fun h => absurd (HK.out.1.row.own Mb h).1 (Nat.not_succ_le_self Mb))).trans HK.out.2.2.2.2.1.box; have mm3 := cell_of_row w8 Mb 3 _ _ _ hb8; have mm4 : w8.frozen? ⟨Mb, 3, none⟩ = false := (by simp [World.frozen?, hb8]); have M8 := Lib.hid (And.intro hacc (And.intro hon8 (And.intro hnew8 hb8))); clear hacc hon8 hnew8 hb8))
   all_goals
    go_wp2
    go_roundw
    case rel =>
     have hon9 : Only (fun k => k = Mb) w8 (w8.setCell ⟨Mb, 3, none⟩ (.slice A8 nn c8)) := Only.setCell (F := fun k => k = Mb) w8 rfl 3 _
     have hz9 : wr.heap.size ≤ w8.heap.size := by
      have h1 := HK.out.2.2.2.1.size
      have h2 := M8.out.2.1.size
      exact Nat.le_trans h1 h2
     have hz5 : Mb < w8.heap.size := heap_lt M8.out.2.2.2
     have hon8 : Only (mkF Mb rv') w5.drew w8 := M8.out.2.1.mono fun i _ h => .inr h
     have hon59 := hon8.trans' (hon9.mono fun i _ h => .inl h)
     refine ⟨j + 1, .slice A8 nn c8, by omega, by go_num, ?_, ?_, ?_⟩
     ·have hM9 := HK.out.2.2.2.2.1
      refine ⟨hM9.size0, ?_, hM9.funs, hM9.fs0, blk_set M8.out.2.2.2 3 _, ?_⟩
      ·refine hM9.low.trans (hon59.below (Nat.le_of_lt hM9.lt) fun i hi => ?_)
       rcases hi with h | h
       ·exact Nat.le_of_eq h.symm
       ·have := (HK.out.1.row.own i h).1
        omega
      ·rw [List.take_add_one, HK.out.2.2.2.2.2.1, Option.toList_some, List.map_append, List.map_singleton, ← List.append_assoc]
       exact M8.out.1.keep (fun i hi hi2 => hon9.block i hi2 (by omega)) hon9.size
     ·have hon5 : Only (mkF Mb rv) wr w5.drew := (Only.of_below HK.out.2.2.2.1).trans' (Only.of_below (drew_below w5))
      refine (HK.out.2.1.trans' hon5).trans (hon59.mono fun i hi h => ?_)
      rcases h with h | h
      ·exact .inl (.inl h)
      ·rcases HK.out.2.2.1 i h with h9 | h9
       ·exact .inl (.inr h9)
       ·exact .inr ⟨h9, hi⟩
     ·intro k hk
      rcases M8.out.2.2.1 k hk with h | h
      ·exact HK.out.2.2.1 k h
      ·right
       have h1 : w5.heap.size ≤ k := by rw [z5]; exact h
       have h2 := HK.out.2.1.size
       omega
    case measure => simp [intOf]; omega
  ·have hkl : j = l.length := by omega
   have g1 : ¬ (j : Int) < l.length := by omega
   have HF := Lib.hid (And.intro hMj (And.intro hon hnew))
   clear hMj hon hnew hbr
   go_wp2
   go_end0
   obtain ⟨hMj, hon, hnew⟩ := HF.out
   rw [hkl, List.take_length] at hMj
   refine ⟨⟨_, rfl⟩, rv', hMj, (Only.of_below H0.out.1).trans' hon, fun k hk => ?_⟩
   rcases hnew k hk with h | h
   ·exact .inl h
   ·right
    omega
end
section
open Go.RowKit Go.Proofs
theorem info3i : (Tryz.prog.info? 3).map (fun i => (i.zero, i.size, i.bytes)) = some (some (.int .i64 0), 1, 8) := by kernel_rfl
def iV (l : List Int) : List Value := l.map fun n => .int .i64 n
theorem ints_push {w : World} {B n : Nat} {v : Value} {ns : List Int} (h : w.ownsRow B 3 1 v n (iV ns)) (hnn : ns.length = n) (s : Int) (hB : B ≤ w.heap.size) (hn : n ≤ 1000000) :
  ∃ v' w', (Builtin.append_ #[42, 42] 42 #[v, .slice (some ⟨w.heap.size, 0, none⟩) 1 1]).run Tryz.prog (w.alloc (.cells #[.int .i64 s] 3)) = .ok v' w' ∧
   w'.ownsRow B 3 1 v' (n + 1) (iV (ns ++ [s])) ∧ Below B w w' ∧ ∃ A c, v' = .slice A (n + 1) c := by
 have hal : Below w.heap.size w (w.alloc (.cells #[.int .i64 s] 3)) := (Below.refl _ _).alloc (Nat.le_refl _) _
 have hrow2 := ownsRow_below9 h hal
 obtain ⟨i0, j0, j1, j2, j3⟩ := info_parts info3i
 obtain ⟨v', w3, r1, r2, r3, -, r5⟩ := run_append_own_at (P := Tryz.prog) (w.alloc (.cells #[.int .i64 s] 3)) B 42 42 3 i0 _ 1 8 Tryz.underlying42 j0 j1 j2 j3 rfl (by decide) v n _ hrow2 ⟨w.heap.size, 0, none⟩ 1 1 [.int .i64 s] rfl (fun j u hj => by
  rw [add_mid, cell_of_row _ _ _ _ _ _ (heap_alloc_new w _)]
  simpa using hj) (fun u hu => by simp at hu; subst hu; rfl) (by unfold maxLen; omega) (by omega) (by simp; omega)
 have e : iV (ns ++ [s]) = iV ns ++ [.int .i64 s] := by simp [iV]
 refine ⟨v', w3, r1, by rw [e]; exact r2, (hal.mono hB).trans ((Below.refl B _).grown r3 (by rw [World.size_alloc]; omega) (own_row_ge9 hrow2)), ?_⟩
 rcases r2.2 with ⟨-, h0⟩ | ⟨g, cap, cur, e9, -⟩
 ·omega
 ·exact ⟨_, _, e9⟩
theorem ints_at {w : World} {B : Nat} {v : Value} {ns : List Int} {S : Nat → Prop} (h : w.ownsRow B 3 1 v ns.length (iV ns)) (hS : ∀ k, B ≤ k → k < w.heap.size → S k) : IntsF w S v ns := by
 rcases h.2 with ⟨rfl, h0⟩ | ⟨g, cap, cur, rfl, h1, h2, h3, h4, h5⟩
 ·rw [List.eq_nil_of_length_eq_zero h0]
  exact IntsF.nil _ _
 ·refine ⟨_, cap, rfl, ⟨h3, h4⟩, fun _ => ⟨g, rfl, hS g h1 (heap_lt h2), fun i x hx => ?_⟩⟩
  have hi := (List.getElem?_eq_some_iff.1 hx).1
  rw [World.ownsRow.cellAt h i (by omega), iV, List.getElem?_map, hx]
  rfl
theorem risingL_len (a : Int) : ∀ n : Nat, (risingL a n).length = n
 | 0 => rfl
 | n + 1 => by rw [risingL, List.length_append, risingL_len a n]; rfl
theorem rising_any (a : Int) (n : Nat) (W : World) (ha : 0 ≤ a ∧ a ≤ 1000000) (hn : n ≤ 100000) :
  Calls Tryz.prog 40 #[.int .i64 a, .int .i64 n] W fun e W' => ∃ v, e = .returned v ∧ IntsF W' (New W W') v (risingL a n) ∧ Below W.heap.size W W' := by
 go_enter Tryz.func40, Tryz.ntmps40
 go_wp2
 go_loopw [5, 8] (fun u i wr => ∃ k : Nat, k ≤ n ∧ i = .int .i64 k ∧ wr.ownsRow W.heap.size 3 1 u k (iV (risingL a k)) ∧ Below W.heap.size W wr) (fun _ i _ => n - (intOf i).toNat)
 case atStart => exact ⟨0, Nat.zero_le _, rfl, World.ownsRow_nil _ _ _ _, Below.refl _ _⟩
 case round =>
  obtain ⟨k, hk, rfl, hrow, hb⟩ := hrel
  obtain ⟨A5, c5, rfl, -, -⟩ := row_slice (row_zero hrow)
  have hbz := hb.size
  by_cases hlt : k < n
  ·have g1 : (k : Int) < n := by omega
   have w1 : IntKind.i64.wrap (a + k) = a + k := IntWalk.i64_in _ (by omega)
   have HP := Lib.hid (ints_push hrow (risingL_len a k) (a + k) hbz (by omega))
   have HB := Lib.hid hb
   clear hrow hb
   go_wp2_with (at_builtin; refine wl_app rfl _ _ 42 rfl _ (.slice (some ⟨wr.heap.size, 0, none⟩) 1 1) rfl rfl _ HP.out ?_; rintro u w7 ⟨h1, h2, A7, c7, rfl⟩; have M7 := Lib.hid (And.intro h1 h2); clear h1 h2)
   go_roundw
   case rel => exact ⟨k + 1, by omega, by go_num, M7.out.1, HB.out.trans M7.out.2⟩
   case measure => simp [intOf]; omega
  ·obtain rfl : k = n := by omega
   have g1 : ¬ (k : Int) < k := by omega
   have hr2 : wr.ownsRow W.heap.size 3 1 (.slice A5 k c5) (risingL a k).length (iV (risingL a k)) := by rw [risingL_len]; exact hrow
   have HF := Lib.hid (And.intro (ints_at (S := New W wr) hr2 (fun i h1 h2 => ⟨h1, h2⟩)) hb)
   clear hrow hb hr2
   go_wp2
   go_ret
   exact ⟨_, rfl, HF.out.1, HF.out.2⟩
theorem setsK_len : ∀ (l : List Tr) (k : Nat), (setsK l k).length = l.length
 | [], _ => rfl
 | t :: r, k => by rw [setsK, List.length_cons, List.length_cons, setsK_len r]
theorem setsK_app : ∀ (a b : List Tr) (k : Nat), setsK (a ++ b) k = setsK a k ++ setsK b (k + sizes a)
 | [], b, k => by rw [setsK, sizes_nil]; rfl
 | t :: r, b, k => by rw [List.cons_append, setsK, setsK, setsK_app r b, sizes_cons, Nat.add_assoc]; rfl
theorem sets_any (l : List Tr) (k0 : Nat) (A : Option Addr) (c : Nat) (off : Nat) (W : World) (S : Nat → Prop) (hl : l.length ≤ 100000) (hlc : l.length ≤ c) (hcm : c ≤ maxLen) (hA : 0 < l.length → ∃ g, A = some ⟨g, off, none⟩ ∧ S g ∧ NtL W S l k0 g off) (hS : ∀ k, S k → k < W.heap.size) :
  Calls Tryz.prog 109 #[.slice A l.length c] W fun e W' => ∃ v, e = .returned v ∧ IntsF W' (New W W') v (setsK l k0) ∧ Below W.heap.size W W' := by
 have hc3 : c ≤ 9223372036854775807 := hcm
 have HA := Lib.hid hA
 clear hA hcm
 go_enter Tryz.func109, Tryz.ntmps109
 go_wp2
 go_loopw [3, 8] (fun u i wr => ∃ k : Nat, k ≤ l.length ∧ i = .int .i64 k ∧ wr.ownsRow W.heap.size 3 1 u k (iV (setsK (l.take k) k0)) ∧ Below W.heap.size W wr) (fun _ i _ => l.length - (intOf i).toNat)
 case atStart => exact ⟨0, Nat.zero_le _, rfl, by rw [List.take_zero, setsK]; exact World.ownsRow_nil _ _ _ _, Below.refl _ _⟩
 case round =>
  obtain ⟨k, hk, rfl, hrow, hb⟩ := hrel
  obtain ⟨A5, c5, rfl, -, -⟩ := row_slice (row_zero hrow)
  have hbz := hb.size
  by_cases hlt : k < l.length
  ·have g1 : (k : Int) < l.length := by omega
   obtain ⟨g, rfl, hSg, hL⟩ := HA.out (by omega)
   obtain ⟨t, ht⟩ : ∃ t, l[k]? = some t := ⟨_, List.getElem?_eq_getElem hlt⟩
   obtain ⟨cs, hcs, hc⟩ := NtL.get l k0 g off k t hL ht
   obtain ⟨A0, n0, c0, A8, c8, rfl, -, -⟩ := (NtP_eq _ _ _ _ _).1 hcs
   have hcell : ∀ j, j < 8 → wr.cell? ⟨g, off + k * 8 + j, none⟩ = (ntV t.op t.s t.n (.slice A0 n0 c0) t.line (k0 + sizes (l.take k) : Nat) ((k0 + sizes (l.take k) + t.size : Nat) : Int) (.slice A8 t.l.length c8))[j]? := fun j hj => (hb.cell (p := ⟨g, off + k * 8 + j, none⟩) (hS g hSg)).trans (hc j hj)
   obtain ⟨a, ha⟩ : ∃ x : Int, ((k0 + sizes (l.take k) : Nat) : Int) = x := ⟨_, rfl⟩
   obtain ⟨b, hb9⟩ : ∃ x : Int, ((k0 + sizes (l.take k) + t.size : Nat) : Int) = x := ⟨_, rfl⟩
   rw [ha, hb9] at hcell
   have y0 := hcell 0 (by omega)
   have y1 := hcell 1 (by omega)
   have y2 := hcell 2 (by omega)
   have y3 := hcell 3 (by omega)
   have y4 := hcell 4 (by omega)
   have y5 := hcell 5 (by omega)
   have y6 := hcell 6 (by omega)
   have y7 := hcell 7 (by omega)
   simp [ntV] at y0 y1 y2 y3 y4 y5 y6 y7
   have hal := below_alloc9 wr (.cells #[.int .i64 t.op, .string (bs t.s), .int .i64 t.n, .slice A0 n0 c0, .int .i64 t.line, .int .i64 a, .int .i64 b, .slice A8 t.l.length c8] 92)
   have hbx := heap_alloc_new wr (.cells #[.int .i64 t.op, .string (bs t.s), .int .i64 t.n, .slice A0 n0 c0, .int .i64 t.line, .int .i64 a, .int .i64 b, .slice A8 t.l.length c8] 92)
   obtain ⟨w1, e1⟩ : ∃ x, wr.alloc (.cells #[.int .i64 t.op, .string (bs t.s), .int .i64 t.n, .slice A0 n0 c0, .int .i64 t.line, .int .i64 a, .int .i64 b, .slice A8 t.l.length c8] 92) = x := ⟨_, rfl⟩
   rw [e1] at hal hbx
   have z1 : w1.heap.size = wr.heap.size + 1 := by rw [← e1]; exact World.size_alloc _ _
   have x5 := (box8 hbx).1.2.2.2.2.2.1
   have HP0 := ints_push (ownsRow_below9 hrow hal) (by rw [setsK_len, List.length_take]; omega) a (by omega) (by omega)
   rw [z1] at HP0
   have HP := Lib.hid HP0
   have HB := Lib.hid (And.intro hb (And.intro hal (And.intro ht ha)))
   clear hrow hb hal hbx HP0 hcell hcs hc hL ht ha hb9
   go_wp2_with (at_builtin; refine wl_app rfl _ _ 42 rfl _ (.slice (some ⟨wr.heap.size + 1, 0, none⟩) 1 1) rfl rfl _ HP.out ?_; rintro u w7 ⟨h1, h2, A7, c7, rfl⟩; have M7 := Lib.hid (And.intro h1 h2); clear h1 h2)
   go_roundw
   case rel => exact ⟨k + 1, by omega, by go_num, by
    rw [List.take_add_one, HB.out.2.2.1, setsK_app, Option.toList_some, setsK, setsK, HB.out.2.2.2]
    exact M7.out.1, HB.out.1.trans ((HB.out.2.1.mono hbz).trans M7.out.2)⟩
   case measure => simp [intOf]; omega
  ·obtain rfl : k = l.length := by omega
   have g1 : ¬ (l.length : Int) < l.length := by omega
   rw [List.take_length] at hrow
   have hr2 : wr.ownsRow W.heap.size 3 1 (.slice A5 l.length c5) (setsK l k0).length (iV (setsK l k0)) := by rw [setsK_len]; exact hrow
   have HF := Lib.hid (And.intro (ints_at (S := New W wr) hr2 (fun i h1 h2 => ⟨h1, h2⟩)) hb)
   clear hrow hb hr2
   go_wp2
   go_ret
   exact ⟨_, rfl, HF.out.1, HF.out.2⟩
end
section
open Go.RowKit Go.Proofs
def FsF (W : World) (S : Nat → Prop) (cs : List Value) (f : FS) : Prop := ∃ v, cs = fsV f v ∧ IntsF W S v f.pars
theorem FsF.keep {W W' : World} {S S' : Nat → Prop} {cs : List Value} {r : FS} (h : FsF W S cs r) (hS : ∀ i, S i → S' i) (hk : ∀ i, S i → W'.heap[i]? = W.heap[i]?) : FsF W' S' cs r := by
 obtain ⟨v, h1, h2⟩ := h
 exact ⟨v, h1, h2.keep hS hk⟩
abbrev FsE (B : Nat) (v : Value) (W : World) (cs : List Value) (r : FS) : Prop := FsF W (foot B W v) cs r
theorem FsE.cells (B : Nat) (v : Value) : Cells 5 (FsE B v) := fun W cs r h => by
 obtain ⟨u, rfl, ⟨A, c, rfl, -, -⟩⟩ := h
 refine ⟨rfl, fun u hu => ?_⟩
 simp only [fsV, List.mem_cons, List.not_mem_nil, or_false] at hu
 rcases hu with rfl | rfl | rfl | rfl | rfl <;> rfl
theorem FsP.cells9 : Cells 5 FsP := fun W cs r h => by
 obtain ⟨u, rfl, ⟨A, c, rfl, -, -⟩⟩ := h
 refine ⟨rfl, fun u hu => ?_⟩
 simp only [fsV, List.mem_cons, List.not_mem_nil, or_false] at hu
 rcases hu with rfl | rfl | rfl | rfl | rfl <;> rfl
def FsAcc (B : Nat) (W : World) (l : List FS) (v : Value) : Prop := OwnR 5 64 (FsE B v) W W B v l
theorem infoFs : (Tryz.prog.info? 64).map (fun i => (i.zero, i.size, i.bytes)) = some (some (.agg #[.int .i64 0, .slice none 0 0, .int .i64 0, .int .i64 0, .int .i64 0]), 5, 56) := by kernel_rfl
theorem FsAcc.nil (B : Nat) (W : World) : FsAcc B W [] (.slice none 0 0) := OwnR.nil _ _ _ _ _ _
theorem FsAcc.form {B : Nat} {W : World} {l : List FS} {v : Value} (h : FsAcc B W l v) : ∃ A c, v = .slice A l.length c ∧ l.length ≤ c ∧ c ≤ maxLen := OwnR.form h
theorem FsAcc.own {B : Nat} {W : World} {l : List FS} {v : Value} (h : FsAcc B W l v) : ∀ i, v.ownBlock = some i → B ≤ i ∧ i < W.heap.size := by
 obtain ⟨L, -, -, ho⟩ := h
 intro i hi
 rcases ho.2 with ⟨rfl, -⟩ | ⟨g, cap, cur, rfl, h1, h2, -⟩
 ·simp [Value.ownBlock] at hi
 ·simp [Value.ownBlock] at hi
  subst hi
  exact ⟨h1, heap_lt h2⟩
theorem FsAcc.keep {B : Nat} {W W' : World} {l : List FS} {v : Value} (h : FsAcc B W l v) (hk : ∀ i, B ≤ i → i < W.heap.size → W'.heap[i]? = W.heap[i]?) (hz : W.heap.size ≤ W'.heap.size) : FsAcc B W' l v := by
 obtain ⟨L, h1, h2, h3⟩ := h
 refine ⟨L, h1, fun q hq => (h2 q hq).keep (fun i hi => ⟨⟨hi.1.1, Nat.lt_of_lt_of_le hi.1.2 hz⟩, hi.2⟩) (fun i hi => hk i hi.1.1 hi.1.2), h3.1, ?_⟩
 rcases h3.2 with h | ⟨g, cap, cur, rfl, h4, h5, h6⟩
 ·exact .inl h
 ·exact .inr ⟨g, cap, cur, rfl, h4, (hk g h4 (heap_lt h5)).trans h5, h6⟩
theorem FsAcc.push {B : Nat} {W : World} {l : List FS} {v : Value} {r : FS} {cs : List Value} (h : FsAcc B W l v) (hr : FsF W (foot B W v) cs r) (hB : B ≤ W.heap.size) (hn : l.length ≤ 900000) :
  ∃ v' w', (Builtin.append_ #[28, 28] 28 #[v, .slice (some ⟨W.heap.size, 0, none⟩) 1 1]).run Tryz.prog (W.alloc (.cells cs.toArray 64)) = .ok v' w' ∧
   FsAcc B w' (l ++ [r]) v' ∧ Only (fun i => v.ownBlock = some i) W w' ∧ (∃ A c, v' = .slice A (l.length + 1) c) ∧ (∀ k, v'.ownBlock = some k → v.ownBlock = some k ∨ W.heap.size ≤ k) := by
 have hown := h.own
 have hal : Below W.heap.size W (W.alloc (.cells cs.toArray 64)) := (Below.refl _ _).alloc (Nat.le_refl _) _
 obtain ⟨v', w', r1, r2⟩ := app9 (p := Tryz.prog) (FsE.cells B v) (by decide) Tryz.underlying28 infoFs rfl (by decide) (w0 := W) (w := W.alloc (.cells cs.toArray 64)) (B := B) (v := v) (m := [r]) (OwnR.below h hal) (Src9.blk (x := r) hr (heap_alloc_new W _)) (by simp; omega) (by simp; omega)
 have hon : Only (fun i => v.ownBlock = some i) W w' := (Only.of_below hal).trans' (Only.grown r2.grown (fun r hr => hr.symm ▸ rfl))
 refine ⟨v', w', r1, ?_, hon, ?_, ?_⟩
 ·obtain ⟨L, h1, h2, h3⟩ := r2.own
  refine ⟨L, h1, fun q hq => (h2 q hq).keep (fun i hi => ⟨⟨hi.1.1, Nat.lt_of_lt_of_le hi.1.2 hon.size⟩, fun e' => ?_⟩) (fun i hi => hon.block i hi.1.2 hi.2), h3⟩
  rcases r2.lies with h4 | h4
  ·rw [h4] at e'
   exact hi.2 e'
  ·rw [h4] at e'
   simp at e'
   have := hi.1.2
   omega
 ·obtain ⟨A, c, e, -, -⟩ := r2.form
  exact ⟨A, c, by rw [e]; simp⟩
 ·intro k hk
  rcases r2.lies with h4 | h4
  ·exact .inl (h4 ▸ hk)
  ·rw [h4] at hk
   simp at hk
   right
   omega
theorem FsAcc.sl {B : Nat} {W : World} {l : List FS} {v : Value} (h : FsAcc B W l v) : SlAt 5 FsP W v l := by
 obtain ⟨L, h1, h2, h3⟩ := h
 exact OwnR.at_ FsP.cells9 FsP.keeps (w0 := W) (⟨L, h1, fun q hq => by
  obtain ⟨v, e, h9⟩ := h2 q hq
  exact ⟨v, e, h9.keep (fun i hi => hi.1.2) (fun _ _ => rfl)⟩, h3⟩ : OwnR 5 64 FsP W W B v l) (Below.refl _ _)
theorem laidF_snoc (f : Fn) : ∀ (l : List Fn) (s : Int), laidF (l ++ [f]) s = ((laidF l s).1 ++ [fsOf f (laidF l s).2], (laidF l s).2 + f.vars.length + 3)
 | [], s => by simp [laidF]
 | a :: r, s => by simp [laidF, laidF_snoc f r]
theorem laidF_len : ∀ (l : List Fn) (s : Int), (laidF l s).1.length = l.length
 | [], s => rfl
 | a :: r, s => by simp [laidF, laidF_len r]
theorem laidF_le : ∀ (l : List Fn) (s : Int), (∀ f ∈ l, f.vars.length ≤ 200) → s ≤ (laidF l s).2 ∧ (laidF l s).2 ≤ s + 203 * l.length
 | [], s, _ => by simp [laidF]
 | a :: r, s, h => by
  have h1 := h a (List.mem_cons_self ..)
  have h2 := laidF_le r (s + a.vars.length + 3) fun f hf => h f (List.mem_cons_of_mem _ hf)
  simp only [laidF, List.length_cons]
  omega
end
end Go.Proofs.YtikbfoichhkeaaaGreat
