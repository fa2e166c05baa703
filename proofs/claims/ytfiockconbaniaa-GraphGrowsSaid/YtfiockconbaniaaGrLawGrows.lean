/- The law GraphGrows. -/
import Derived.Test.YtfiockconbaniaaGrSome
import Derived.Laws.MakeOwn
import Derived.Deep.RegionHeldLaw
import Derived.Deep.RegionHeld
import Derived.OrdersHeld
import Derived.Deep.DeepCutAuto
import Derived.Sort.CutIn
namespace Go.Proofs.Ytfiockconbaniaa
set_option linter.unusedSimpArgs false
set_option linter.unusedVariables false
open Go.RowKit Go.Proofs

/-- A row that is made in a region that draws. -/
theorem step_make {P : Program} {ops : Array Oper} {o : Oper} {a : Act} {w : World} {K : Act → World → Prop} {Q : Exit → Act → World → Prop} {E : Prop} (hg : o.guard = none) (l c : Operand) (t : TypeId)
    (hop : o.op = Op.makeSlice t l c) (v u : Value) (hs : a.eval l = v) (hx : a.eval c = u) (R : Value → World → Prop)
    (hrun : ∃ v' w', (Instr.makeSlice t v u).run P w = .ok v' w' ∧ R v' w') (hK : ∀ v' w', R v' w' → K (a.put o.dst v') w') :
    if Region.wanted o (yielded ops a.tmps) = true then Oper.wp P o a w K Q else E := by
  have hw : Region.wanted o (yielded ops a.tmps) = true := by simp [Region.wanted, hg]
  rw [if_pos hw]
  obtain ⟨v', w', hr, h2⟩ := hrun
  unfold Oper.wp
  simp [execOp, hop, hs, hx, hr, Result.andThen]
  exact hK _ _ h2
/-- The same as the next one of a region's operations. -/
theorem AllReadyH.make {P : Program} {md : Region.Mode} {ops : Array Oper} {Q : Exit → Act → World → Prop} {S : World → Prop} {fuel : Nat} {listed : Array Bool} {a : Act} {w : World} {i : Nat} {o : Oper} {rs : List Nat} (ho : ops[i]? = some o) (hg : o.guard = none) (l c : Operand) (t : TypeId)
    (hop : o.op = Op.makeSlice t l c) (v u : Value) (hs : a.eval l = v) (hx : a.eval c = u) (R : Value → World → Prop)
    (hrun : ∃ v' w', (Instr.makeSlice t v u).run P w = .ok v' w' ∧ R v' w') (hK : ∀ v' w', R v' w' → S w' ∧ (S w' → wpAnyH P md ops Q S fuel (listed.setIfInBounds i true) (a.put o.dst v') w'))
    (hr : AllReadyH P md ops Q S fuel listed a w rs) : AllReadyH P md ops Q S fuel listed a w (i :: rs) :=
  AllReadyH.cons ho (fun K hK' => step_make hg l c t hop v u hs hx R hrun fun v' w' h => hK'.out _ _ (hK v' w' h).1 (hK v' w' h).2) hr
theorem infoE2 : (Try.prog.info? 44).map (fun i => (i.zero, i.size, i.bytes)) = some (some (.agg #[.int .i64 0, .int .i64 0, .int .i64 0]), 3, 24) := by kernel_rfl
/-- A row of edges that is being gathered, and blocks beside it. -/
structure GSt (W0 w : World) (H : Nat) (ts : List Ed) (v : Value) (L : List (Nat × Obj)) : Prop where
  ext : Below H W0 w
  hH : W0.heap.size = H
  acc : OwnR 3 44 EdP W0 w H v ts
  blk : ∀ p ∈ L, w.heap[p.1]? = some p.2 ∧ H ≤ p.1 ∧ v.ownBlock ≠ some p.1
section
variable {W0 w : World} {H : Nat} {ts : List Ed} {v u : Value} {L : List (Nat × Obj)}
theorem GSt.le (h : GSt W0 w H ts v L) : H ≤ w.heap.size := by have := h.ext.size; have := h.hH; omega
theorem GSt.start (hH : W0.heap.size = H) : GSt W0 W0 H [] (.slice none 0 0) [] := ⟨Below.refl _ _, hH, OwnR.nil _ _ _ _ _ _, fun p hp => by cases hp⟩
theorem GSt.alloc (h : GSt W0 w H ts v L) (o : Obj) (o' : Obj) {w' : World} {Z : Nat} (he : w.alloc o = w') (hZ : w.heap.size = Z) (ho : (w.alloc o).heap[w.heap.size]? = some o') : GSt W0 w' H ts v ((Z, o') :: L) := by
  subst he hZ
  have hle := h.le
  have hb : Below w.heap.size w (w.alloc o) := (Below.refl _ _).alloc (Nat.le_refl _) _
  refine ⟨h.ext.trans (hb.mono hle), h.hH, h.acc.below hb, fun p hp => ?_⟩
  rcases List.mem_cons.1 hp with rfl | hp
  · refine ⟨ho, hle, fun e => ?_⟩
    obtain ⟨-, cs, e2⟩ := h.acc.blk e
    have := (Array.getElem?_eq_some_iff.1 e2).1
    simp at this
  · obtain ⟨h1, h2, h3⟩ := h.blk p hp
    exact ⟨(hb.block _ (Array.getElem?_eq_some_iff.1 h1).1).trans h1, h2, h3⟩
theorem GSt.make (h : GSt W0 w H [] (.slice none 0 0) L) (n : Nat) (hn : n ≤ 100000) (c : Int) (hc : c = (n : Int)) :
    ∃ v' w', (Instr.makeSlice 30 (.int .i64 0) (.int .i64 c)).run Try.prog w = .ok v' w' ∧ GSt W0 w' H [] v' L := by
  subst hc
  obtain ⟨i0, j0, j1, j2, j3⟩ := info_parts infoE2
  obtain ⟨w', r1, r2, r3⟩ := run_make_own (P := Try.prog) w H 30 44 i0 _ 3 Try.underlying30 j0 j1 j2 .i64 .i64 n (by rw [j3]; omega) (by unfold maxLen; omega) h.le
  have hb : Below w.heap.size w w' := ⟨r3.os, r3.tape, r3.output, r3.size, fun k hk => r3.block k hk (by simp)⟩
  refine ⟨_, w', r1, h.ext.trans (hb.mono h.le), h.hH, ⟨[], rfl, fun q hq => (by cases hq), r2⟩, fun p hp => ?_⟩
  obtain ⟨h1, h2, h3⟩ := h.blk p hp
  have hl := (Array.getElem?_eq_some_iff.1 h1).1
  exact ⟨(hb.block _ hl).trans h1, h2, fun e => by simp [Value.ownBlock] at e; omega⟩
theorem GSt.push {l : List Ed} (h : GSt W0 w H ts v L) (hl : Src9 EdP W0 w u l) (hn : ts.length + l.length ≤ 1000000) :
    ∃ v' w', (Builtin.append_ #[30, 30] 30 #[v, u]).run Try.prog w = .ok v' w' ∧ (GSt W0 w' H (ts ++ l) v' L ∧ ∃ A' c', v' = .slice A' (ts.length + l.length) c') := by
  obtain ⟨v', w', r1, r2⟩ := app9 (p := Try.prog) (t := 30) EdP.cells (by decide) Try.underlying30 infoE2 rfl (by decide) h.acc hl h.le hn
  refine ⟨v', w', r1, ⟨h.ext.trans r2.below, h.hH, r2.own, fun p hp => ?_⟩, ?_⟩
  · obtain ⟨h1, h2, h3⟩ := h.blk p hp
    have hlt := (Array.getElem?_eq_some_iff.1 h1).1
    refine ⟨(r2.grown.block _ hlt (fun e => h3 e.symm)).trans h1, h2, fun e => ?_⟩
    rcases r2.lies with e5 | e5
    · exact h3 (e5 ▸ e)
    · rw [e5] at e
      simp at e
      omega
  · obtain ⟨A', c', e, -⟩ := r2.form
    rw [List.length_append] at e
    exact ⟨A', c', e⟩
theorem GSt.app1 {l : List Ed} (h : GSt W0 w H [] v L) (hr : Edges9 W0 u l) (hn : l.length ≤ 100000) :
    ∃ v' w', (Builtin.append_ #[30, 30] 30 #[v, u]).run Try.prog w = .ok v' w' ∧ GSt W0 w' H l v' L := by
  obtain ⟨v', w', r1, r2, -⟩ := h.push (l := l) (SlAt.src (by decide) EdP.cells hr (by rw [h.hH]; exact h.ext)) (by simp; omega)
  exact ⟨v', w', r1, r2⟩
theorem GSt.app2 {l : List Ed} {Z : Nat} {x : Ed} (h : GSt W0 w H l v L) (hZ : (Z, .cells #[.int .i64 x.fr, .int .i64 x.mark, .int .i64 x.to] 44 (0, 0)) ∈ L) (hx : I64 x.fr ∧ I64 x.mark ∧ I64 x.to) (hn : l.length ≤ 100000) :
    ∃ v' w', (Builtin.append_ #[30, 30] 30 #[v, .slice (some ⟨Z, 0, none⟩) 1 1]).run Try.prog w = .ok v' w' ∧ (GSt W0 w' H (l ++ [x]) v' L ∧ ∃ A' c', v' = .slice A' (l.length + 1) c') :=
  h.push (l := [x]) (Src9.blk (P := EdP) (w0 := W0) (cs := [.int .i64 x.fr, .int .i64 x.mark, .int .i64 x.to]) ⟨rfl, hx⟩ (h.blk _ hZ).1) (by simp; omega)
end
theorem same_eq (A A' : Option Addr) (n c n' c' : Nat) {xs ys : List Int} (w : World) (h : xs = ys) (hr : Ints9 w (.slice A n c) xs) (hr' : Ints9 w (.slice A' n' c') ys) :
    Calls Try.prog 13 #[.slice A n c, .slice A' n' c'] w fun e w' => e = .returned (.bool true) ∧ Below w.heap.size w w' := by
  subst h
  exact same_true A A' n c n' c' xs w hr hr'
set_option maxHeartbeats 1000000 in
theorem right_nil (w : World) : Calls Try.prog 24 #[.slice none 0 0] w fun e w' => e = .returned (.bool true) ∧ w = w' := by
  go_enter Try.func24, Try.ntmps24
  go_wp2
  refine wp_loop_rounds 1 ?_
  rw [rounds_succ]
  go_wp2
  go_ret
  exact ⟨rfl, rfl⟩
set_option maxRecDepth 100000 in
set_option maxHeartbeats 8000000 in
theorem grows_law (A : Option Addr) (n c : Nat) (l : List Ed) (x : Ed) (hx : I64 x.fr ∧ I64 x.mark ∧ I64 x.to) (w : World) (hl : Edges9 w (.slice A n c) l) :
    Calls Try.prog 6 #[.slice A n c, .agg #[.int .i64 x.fr, .int .i64 x.mark, .int .i64 x.to]] w fun e w' => e = .returned (.bool true) ∧ Below w.heap.size w w' := by
  obtain ⟨-, hnc, hcm, -⟩ := SlAt.get hl
  obtain ⟨k, hk⟩ : ∃ k, min n 100 = k := ⟨_, rfl⟩
  have hkn : k ≤ n := by omega
  have hk1 : k ≤ 100 := by omega
  have hF : ∀ W : World, Calls Try.prog 15 #[.slice A n c] W fun e w' => e = .returned (.slice A k c) ∧ W = w' := fun W => by
    rw [← hk]
    exact some_any A n c W hnc hcm
  obtain ⟨l', hl'⟩ : ∃ y, l.take k = y := ⟨_, rfl⟩
  have hr : Edges9 w (.slice A k c) l' := hl' ▸ SlAt.take hl hkn
  have hlen : l'.length = k := (SlAt.get hr).1.symm
  have hal : Below w.heap.size w (w.alloc (.cells #[.int .i64 x.fr, .int .i64 x.mark, .int .i64 x.to] 44)) := (Below.refl _ _).alloc (Nat.le_refl _) _
  have hbx := heap_alloc_new w (.cells #[.int .i64 x.fr, .int .i64 x.mark, .int .i64 x.to] 44)
  obtain ⟨w1, e1⟩ : ∃ y, w.alloc (.cells #[.int .i64 x.fr, .int .i64 x.mark, .int .i64 x.to] 44) = y := ⟨_, rfl⟩
  obtain ⟨Be, eBe⟩ : ∃ y, w.heap.size = y := ⟨_, rfl⟩
  rw [e1] at hal hbx
  rw [eBe] at hbx
  have HE1 := Lib.hid (And.intro e1 eBe)
  have HF := Lib.hid hF
  have H1 := Lib.hid (And.intro hal hbx)
  have HR := Lib.hid (And.intro hr hlen)
  have HX := Lib.hid hx
  clear hF hr hl hk hl' hkn hnc hcm hal hbx e1 eBe hlen hx
  go_enter Try.func6, Try.ntmps6
  go_wp2_with fail
  rw [HE1.out.1, HE1.out.2]
  go_at_call 7
  (with_reducible refine (shown_any w1).mono ?_)
  rintro e w2 ⟨rfl, hb2⟩
  have hbx2 := (hb2.block Be (Array.getElem?_eq_some_iff.1 H1.out.2).1).trans H1.out.2
  have B2 := Lib.hid (And.intro (H1.out.1.trans (hb2.mono H1.out.1.size)) hbx2)
  clear hb2 hbx2
  go_wp2_with fail
  go_at_call 15
  (with_reducible refine (HF.out w2).mono ?_)
  rintro e w' ⟨rfl, rfl⟩
  go_wp2_with fail
  go_at_call 14
  (with_reducible refine (reached_any A k c l' w2 (HR.out.1.below EdP.keeps B2.out.1) (by omega)).mono ?_)
  rintro e w3 ⟨v3, rfl, sa, ho3, hr3⟩
  obtain ⟨A3, c3, rfl⟩ := ho3.at_.form
  have hbx3 := (ho3.below.block Be (Array.getElem?_eq_some_iff.1 B2.out.2).1).trans B2.out.2
  have hb3 := B2.out.1.trans (ho3.below.mono B2.out.1.size)
  obtain ⟨d0, d1, d2⟩ := box3 hbx3
  obtain ⟨H, eH⟩ : ∃ y, w3.heap.size = y := ⟨_, rfl⟩
  obtain ⟨wD, eD⟩ : ∃ y, w3.drew = y := ⟨_, rfl⟩
  have hzD : wD.heap.size = H := by rw [← eD]; exact eH
  have hDb : Below w3.heap.size w3 wD := by rw [← eD]; exact (Below.refl _ _).drew
  have hed := (HR.out.1.below EdP.keeps hb3).below EdP.keeps hDb
  have hBeH : Be < H := by rw [← eH]; exact (Array.getElem?_eq_some_iff.1 hbx3).1
  have hM0 := Lib.hid (GSt.start hzD)
  have hbxD := (hDb.block Be (by rw [eH]; exact hBeH)).trans hbx3
  have HS := Lib.hid (fun w' (hb : Below H wD w') => show w'.cell? ⟨Be, 0, none⟩ = some (.int .i64 x.fr) ∧ w'.cell? ⟨Be, 1, none⟩ = some (.int .i64 x.mark) ∧ w'.cell? ⟨Be, 2, none⟩ = some (.int .i64 x.to) from box3 ((hb.block Be hBeH).trans hbxD))
  have HD := Lib.hid hed
  have HED := Lib.hid eD
  have H3 := Lib.hid (And.intro ho3 (And.intro hr3 (And.intro hb3 (And.intro hDb (And.intro hbxD eH)))))
  have hlk : l'.length ≤ 100000 := by have := HR.out.2; omega
  have hk2 : k + 1 ≤ 100000 := by omega
  have hwrap : IntKind.i64.wrap ((k : Int) + 1) = (k : Int) + 1 := IntWalk.i64_in _ (by omega)
  have HzD := Lib.hid hzD
  clear hed hb3 hbx3 eD hDb hbxD ho3 hr3 eH hzD
  go_upto_region 4 with fail
  go_cut [7] (fun s7 wc => ∃ A9 c9, s7 = .slice A9 (k + 1) c9 ∧ RowKit.Hid (OwnR 3 44 EdP wD wc H (.slice A9 (k + 1) c9) (l' ++ [x]) ∧ Below H wD wc))
  case first =>
    refine wp_region_held_drew (S := fun w' => w'.cell? ⟨Be, 0, none⟩ = some (.int .i64 x.fr) ∧ w'.cell? ⟨Be, 1, none⟩ = some (.int .i64 x.mark) ∧ w'.cell? ⟨Be, 2, none⟩ = some (.int .i64 x.to)) (by kernel_rfl) ⟨d0, d1, d2⟩ (fun hHeld => ?_)
    rw [HED.out] at hHeld ⊢
    have hM := hM0
    refine wpAnyH_take (i := 0) (v := ?_) rfl (by kernel_rfl) (by kernel_rfl) (by kernel_rfl) (fun _ _ _ h => h) (Or.inl ⟨by rfl, ?_⟩) (by assumption) ?_
    rotate_left 1
    · (intro w hSw; (try obtain ⟨s0, s1, s2⟩ := hSw); go_simp <;> (with_reducible rfl))
    refine wpAnyH_take (i := 1) (v := ?_) rfl (by kernel_rfl) (by kernel_rfl) (by kernel_rfl) (fun _ _ _ h => h) (Or.inl ⟨by rfl, ?_⟩) (by assumption) ?_
    rotate_left 1
    · (intro w hSw; (try obtain ⟨s0, s1, s2⟩ := hSw); go_simp <;> (with_reducible rfl))
    refine wpAnyH_take (i := 2) (v := ?_) rfl (by kernel_rfl) (by kernel_rfl) (by kernel_rfl) (fun _ _ _ h => h) (Or.inl ⟨by rfl, ?_⟩) (by assumption) ?_
    rotate_left 1
    · (intro w hSw; (try obtain ⟨s0, s1, s2⟩ := hSw); go_simp <;> (with_reducible rfl))
    refine wpAnyH_take (i := 4) (v := ?_) rfl (by kernel_rfl) (by kernel_rfl) (by kernel_rfl) (fun _ _ _ h => h) (Or.inl ⟨by rfl, ?_⟩) (by assumption) ?_
    rotate_left 1
    · (intro w hSw; (try obtain ⟨s0, s1, s2⟩ := hSw); go_simp <;> (with_reducible rfl))
    refine wpAnyH_take (i := 6) (v := ?_) rfl (by kernel_rfl) (by kernel_rfl) (by kernel_rfl) (fun _ _ _ h => h) (Or.inl ⟨by rfl, ?_⟩) (by assumption) ?_
    rotate_left 1
    · (intro w hSw; (try obtain ⟨s0, s1, s2⟩ := hSw); go_simp <;> (with_reducible rfl))
    refine wpAnyH_ready (rs := [3, 7]) (by kernel_rfl) (by simp) ?_
    refine AllReadyH.make rfl rfl (.const (.int .i64 0)) (.tmp 18) 30 rfl (.int .i64 0) (.int .i64 ((k : Int) + 1)) (by simp [Act.eval, Act.put]) (by simp [Act.eval, Act.put]) _ (hM.out.make (k + 1) hk2 _ (by omega)) ?_ (AllReadyH.cons rfl ?_ AllReadyH.nil)
    intro v wx hm
    have hM := Lib.hid hm
    clear hm
    refine ⟨HS.out _ hM.out.ext, fun hHeld => ?_⟩
    refine wpAnyH_ready (rs := [5, 7]) (by kernel_rfl) (by simp) ?_
    refine AllReadyH.cons rfl ?_ (AllReadyH.cons rfl ?_ AllReadyH.nil)
    intro K hK
    refine step_app rfl (.tmp 19) (.tmp 20) 30 rfl v (.slice A k c) (by simp [Act.eval, Act.put]) (by simp [Act.eval, Act.put]) _ (hM.out.app1 HD.out hlk) ?_
    rintro v wx hm
    have hM := Lib.hid hm
    clear hm
    refine hK.out _ _ (HS.out _ hM.out.ext) (fun hHeld => ?_)
    clear hK K
    refine wpAnyH_ready (rs := [7]) (by kernel_rfl) (by simp) ?_
    refine AllReadyH.cons rfl ?_ AllReadyH.nil
    intro K hK
    go_simp
    obtain ⟨Z, z⟩ : ∃ y, wx.heap.size = y := ⟨_, rfl⟩
    obtain ⟨wx, e⟩ : ∃ y, wx.alloc (.cells #[.int .i64 x.fr, .int .i64 x.mark, .int .i64 x.to] 44) = y := ⟨_, rfl⟩
    have hM := Lib.hid (hM.out.alloc _ _ e z (heap_alloc_new _ _))
    rw [e, z]
    clear e z
    refine hK.out _ _ (HS.out _ hM.out.ext) (fun hHeld => ?_)
    clear hK K
    rotate_left 1
    intro K hK
    go_simp
    obtain ⟨Z, z⟩ : ∃ y, wx.heap.size = y := ⟨_, rfl⟩
    obtain ⟨wx, e⟩ : ∃ y, wx.alloc (.cells #[.int .i64 x.fr, .int .i64 x.mark, .int .i64 x.to] 44) = y := ⟨_, rfl⟩
    have hM := Lib.hid (hM.out.alloc _ _ e z (heap_alloc_new _ _))
    rw [e, z]
    clear e z
    refine hK.out _ _ (HS.out _ hM.out.ext) (fun hHeld => ?_)
    clear hK K
    refine wpAnyH_ready (rs := [5]) (by kernel_rfl) (by simp) ?_
    refine AllReadyH.cons rfl ?_ AllReadyH.nil
    intro K hK
    refine step_app rfl (.tmp 19) (.tmp 20) 30 rfl v (.slice A k c) (by simp [Act.eval, Act.put]) (by simp [Act.eval, Act.put]) _ (hM.out.app1 HD.out hlk) ?_
    rintro v wx hm
    have hM := Lib.hid hm
    clear hm
    refine hK.out _ _ (HS.out _ hM.out.ext) (fun hHeld => ?_)
    clear hK K
    rotate_left 1
    intro K hK
    go_simp
    obtain ⟨Z, z⟩ : ∃ y, wD.heap.size = y := ⟨_, rfl⟩
    obtain ⟨wx, e⟩ : ∃ y, wD.alloc (.cells #[.int .i64 x.fr, .int .i64 x.mark, .int .i64 x.to] 44) = y := ⟨_, rfl⟩
    have hM := Lib.hid (hM.out.alloc _ _ e z (heap_alloc_new _ _))
    rw [e, z]
    clear e z
    refine hK.out _ _ (HS.out _ hM.out.ext) (fun hHeld => ?_)
    clear hK K
    refine wpAnyH_ready (rs := [3]) (by kernel_rfl) (by simp) ?_
    refine AllReadyH.make rfl rfl (.const (.int .i64 0)) (.tmp 18) 30 rfl (.int .i64 0) (.int .i64 ((k : Int) + 1)) (by simp [Act.eval, Act.put]) (by simp [Act.eval, Act.put]) _ (hM.out.make (k + 1) hk2 _ (by omega)) ?_ AllReadyH.nil
    intro v wx hm
    have hM := Lib.hid hm
    clear hm
    refine ⟨HS.out _ hM.out.ext, fun hHeld => ?_⟩
    refine wpAnyH_ready (rs := [5]) (by kernel_rfl) (by simp) ?_
    refine AllReadyH.cons rfl ?_ AllReadyH.nil
    intro K hK
    refine step_app rfl (.tmp 19) (.tmp 20) 30 rfl v (.slice A k c) (by simp [Act.eval, Act.put]) (by simp [Act.eval, Act.put]) _ (hM.out.app1 HD.out hlk) ?_
    rintro v wx hm
    have hM := Lib.hid hm
    clear hm
    refine hK.out _ _ (HS.out _ hM.out.ext) (fun hHeld => ?_)
    clear hK K
    rotate_left 1
    all_goals
      refine wpAnyH_ready (rs := [8]) (by kernel_rfl) (by simp) (AllReadyH.cons rfl ?_ AllReadyH.nil)
      intro K hK
      refine step_app rfl (.tmp 21) (.tmp 23) 30 rfl v (.slice (some ⟨Z, 0, none⟩) 1 1) (by simp [Act.eval, Act.put]) (by simp [Act.eval, Act.put]) _ (hM.out.app2 (Z := Z) (x := x) (by simp) HX.out hlk) ?_
      rintro v wx ⟨hm, A9, c9, rfl⟩
      rw [HR.out.2] at hm ⊢
      have hM := Lib.hid hm
      clear hm
      refine hK.out _ _ (HS.out _ hM.out.ext) (fun hHeld => ?_)
      clear hK K
      refine wpAnyH_take (i := 9) (v := ?_) rfl (by kernel_rfl) (by kernel_rfl) (by kernel_rfl) (fun _ _ _ h => h) (Or.inl ⟨by rfl, ?_⟩) (by assumption) ?_
      rotate_left 1
      · (intro w hSw; (try obtain ⟨s0, s1, s2⟩ := hSw); go_simp <;> (with_reducible rfl))
      refine wpAnyH_done (by kernel_rfl) ?_ _
      go_wp2_with fail
      go_meet
      case rel => exact ⟨A9, c9, rfl, Lib.hid ⟨hM.out.acc, hM.out.ext⟩⟩
  case rest =>
    obtain ⟨A9, c9, rfl, H9⟩ := hcut
    have hbc : Below w.heap.size w wc := (H3.out.2.2.1.trans (H3.out.2.2.2.1.mono H3.out.2.2.1.size)).trans (H9.out.2.mono (by have := H3.out.2.2.1.size; rw [H3.out.2.2.2.2.2] at this; exact this))
    have h3c : Below w3.heap.size w3 wc := H3.out.2.2.2.1.trans (H9.out.2.mono (by rw [H3.out.2.2.2.2.2]; exact Nat.le_refl _))
    have hmore : Edges9 wc (.slice A9 (k + 1) c9) (l' ++ [x]) := OwnR.at_ EdP.cells EdP.keeps H9.out.1 (by rw [HzD.out]; exact H9.out.2)
    have hbxc := (H9.out.2.block Be hBeH).trans H3.out.2.2.2.2.1
    have hic := H3.out.1.later h3c
    have HRc := Lib.hid (reached_any A9 (k + 1) c9 (l' ++ [x]) wc hmore (by omega))
    have Hc := Lib.hid (And.intro hbc (And.intro hbxc hic))
    clear hbc h3c hmore hbxc hic d0 d1 d2
    go_wp2_with fail
    go_at_call 14
    (with_reducible refine (HRc.out).mono ?_)
    rintro e w5 ⟨v5, rfl, sb, ho5, hr5⟩
    obtain ⟨A5, c5, rfl⟩ := ho5.at_.form
    have hbx5 := (ho5.below.block Be (Array.getElem?_eq_some_iff.1 Hc.out.2.1).1).trans Hc.out.2.1
    have hb5 := Hc.out.1.trans (ho5.below.mono Hc.out.1.size)
    obtain ⟨d0, d1, d2⟩ := box3 hbx5
    have hia : Ints9 w5 (.slice A3 sa.length c3) sa := SlAt.below (k := 1) (P := IntP) IntP.keeps Hc.out.2.2 ho5.below
    have hib := ho5.at_
    have hG := H3.out.2.1.grows (e := (x.fr, x.to)) (b := sb) (by have h := hr5; rw [show prE (l' ++ [x]) = prE l' ++ [(x.fr, x.to)] from by simp] at h; exact h)
    obtain ⟨-, hs3, hm3, -⟩ := SlAt.get hia
    have hm3' : c3 ≤ 9223372036854775807 := hm3
    have HI := Lib.hid (And.intro hia (And.intro hib (And.intro hb5 hG)))
    clear hbx5 hb5 hia hib hG ho5 hr5 hm3
    go_wp2
    go_loop [9] (fun i => ∃ kk : Nat, kk ≤ sa.length ∧ i = .int .i64 kk) (fun i => sa.length - (intOf i).toNat)
    case atStart => exact ⟨0, Nat.zero_le _, rfl⟩
    case round =>
      obtain ⟨kk, hkk, rfl⟩ := hrel
      by_cases hlt : kk < sa.length
      · have g1 : (kk : Int) < sa.length := by omega
        obtain ⟨g, off, z, rfl, -, hz, hzb, hc⟩ := int_get HI.out.1 kk hlt
        have HH := Lib.hid (has_any A5 _ c5 sb z w5 HI.out.2.1)
        rw [decide_eq_true (HI.out.2.2.2.1 z (List.mem_of_getElem? hz))] at HH
        clear hz
        go_wp2_with fail
        go_at_call 23
        (with_reducible refine (HH.out).mono ?_)
        rintro e w' ⟨rfl, rfl⟩
        go_wp2
        go_round
        case rel => exact ⟨kk + 1, by omega, by go_num⟩
        case measure => simp [intOf]; omega
      · have g1 : ¬ (kk : Int) < sa.length := by omega
        have HH1 := Lib.hid (has_any A3 _ c3 sa x.fr w5 HI.out.1)
        have HH2 := Lib.hid (has_any A3 _ c3 sa x.to w5 HI.out.1)
        have HH0 := Lib.hid (fun (W : World) (hb : Below w5.heap.size w5 W) => has_any A3 _ c3 sa 0 W (SlAt.below (k := 1) (P := IntP) IntP.keeps HI.out.1 hb))
        rw [decide_eq_true HI.out.2.2.2.2.2] at HH0
        by_cases m1 : x.fr ∈ sa
        · rw [decide_eq_true m1] at HH1
          by_cases m2 : x.to ∈ sa
          · rw [decide_eq_true m2] at HH2
            have HS2 := Lib.hid (same_eq A3 A5 _ c3 _ c5 w5 (HI.out.2.2.2.2.1 (.inr m2)) HI.out.1 HI.out.2.1)
            clear m1 m2
            go_wp2_with fail
            go_at_call 23
            (with_reducible refine (HH1.out).mono ?_)
            rintro e w' ⟨rfl, rfl⟩
            go_wp2_with fail
            go_at_call 23
            (with_reducible refine (HH2.out).mono ?_)
            rintro e w' ⟨rfl, rfl⟩
            go_wp2_with fail
            go_at_call 13
            (with_reducible refine (HS2.out).mono ?_)
            rintro e w6 ⟨rfl, hb6⟩
            have B6 := Lib.hid hb6
            clear hb6
            go_wp2_with fail
            go_at_call 24
            (with_reducible refine (right_nil w6).mono ?_)
            rintro e w' ⟨rfl, rfl⟩
            go_wp2_with fail
            go_at_call 23
            (with_reducible refine (HH0.out w6 B6.out).mono ?_)
            rintro e w' ⟨rfl, rfl⟩
            go_wp2
            go_ret
            exact ⟨rfl, HI.out.2.2.1.trans (B6.out.mono HI.out.2.2.1.size)⟩
          · rw [decide_eq_false m2] at HH2
            clear m1 m2
            go_wp2_with fail
            go_at_call 23
            (with_reducible refine (HH1.out).mono ?_)
            rintro e w' ⟨rfl, rfl⟩
            go_wp2_with fail
            go_at_call 23
            (with_reducible refine (HH2.out).mono ?_)
            rintro e w' ⟨rfl, rfl⟩
            go_wp2_with fail
            go_at_call 24
            (with_reducible refine (right_nil w5).mono ?_)
            rintro e w' ⟨rfl, rfl⟩
            go_wp2_with fail
            go_at_call 23
            (with_reducible refine (HH0.out w5 (Below.refl _ _)).mono ?_)
            rintro e w' ⟨rfl, rfl⟩
            go_wp2
            go_ret
            exact ⟨rfl, HI.out.2.2.1⟩
        · rw [decide_eq_false m1] at HH1
          have HS2 := Lib.hid (same_eq A3 A5 _ c3 _ c5 w5 (HI.out.2.2.2.2.1 (.inl m1)) HI.out.1 HI.out.2.1)
          clear m1
          go_wp2_with fail
          go_at_call 23
          (with_reducible refine (HH1.out).mono ?_)
          rintro e w' ⟨rfl, rfl⟩
          go_wp2_with fail
          go_at_call 13
          (with_reducible refine (HS2.out).mono ?_)
          rintro e w6 ⟨rfl, hb6⟩
          have B6 := Lib.hid hb6
          clear hb6
          go_wp2_with fail
          go_at_call 24
          (with_reducible refine (right_nil w6).mono ?_)
          rintro e w' ⟨rfl, rfl⟩
          go_wp2_with fail
          go_at_call 23
          (with_reducible refine (HH0.out w6 B6.out).mono ?_)
          rintro e w' ⟨rfl, rfl⟩
          go_wp2
          go_ret
          exact ⟨rfl, HI.out.2.2.1.trans (B6.out.mono HI.out.2.2.1.size)⟩
  end Go.Proofs.Ytfiockconbaniaa
