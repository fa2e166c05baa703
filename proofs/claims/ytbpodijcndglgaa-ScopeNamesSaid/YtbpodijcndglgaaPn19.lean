/- jtree.sound, Right, RightExpr. -/
import Derived.Test.YtbpodijcndglgaaProg
import Derived.Test.YtbpodijcndglgaaPn17
import Derived.Test.YtbpodijcndglgaaPn18
set_option linter.unusedSimpArgs false
set_option linter.unusedVariables false
set_option maxRecDepth 100000
set_option maxHeartbeats 40000000
namespace Go.Proofs.Ytbpodijcndglgaa
section
open Go.RowKit Go.Proofs Go.Shelf
attribute [local go_sem] Oper.semAt_some
theorem ItKeeps.below {mine : World → Nat → Prop} {base n : Nat} {A B : World} (h : ItKeeps mine base A B) (hb : n ≤ base) (hA : n ≤ A.heap.size) : Below n A B :=
 ⟨h.os, h.tape, h.output, h.size, fun k hk => h.keep k (by omega) (.inl (by omega))⟩
theorem boxed_it {mine : World → Nat → Prop} {base b : Nat} {A B : World} {t : TypeId} {v : Value} (h : Boxed A b t v) (hk : ItKeeps mine base A B) (hb : b < base ∨ mine A b) : Boxed B b t v :=
 (hk.keep b h.lt hb).trans h
def goodL (p : Lo × Nat) : Bool := goodB (p.1.tree, p.2)
theorem all_good (x : Lo) : (x.levels 1).all goodL = soundT x.tree := by
 unfold soundT
 rw [← lo_levels_tree, List.all_map]
 rfl
structure SoundI (w : World) (K R b : Nat) (x : Lo) (W : World) : Prop where
 known : Boxed W K 86 (.map (some b))
 map : SM W b shapesL.reverse
 below : Below w.heap.size w W
 right : ∃ q, Boxed W R 4 (.bool q)
theorem SoundI.it {w W W' : World} {K R b base : Nat} {x : Lo} (h : SoundI w K R b x W) (hk : ItKeeps (fun _ k => k = R) base W W') (h1 : K < base) (h2 : b < base) (h3 : R < base) (h4 : w.heap.size ≤ base) : SoundI w K R b x W' :=
 ⟨boxed_it h.known hk (.inl h1), h.map.same (hk.keep b h.map.lt (.inl h2)), h.below.trans (hk.below h4 h.below.size), by
  obtain ⟨q, hq⟩ := h.right
  exact ⟨q, boxed_it hq hk (.inl h3)⟩⟩
theorem shV_none : shV ((none : Option Sh).getD (0, 0, 0, 0)) = .agg #[.int .i64 0, .int .i64 0, .int .i64 0, .int .i64 0] := rfl
theorem shV_some (k num lo hi : Int) : shV ((some (k, num, lo, hi)).getD (0, 0, 0, 0)) = .agg #[.int .i64 k, .int .i64 num, .int .i64 lo, .int .i64 hi] := rfl
theorem sound_in (n : Nat) (hn : 3 ≤ n) (x : Lo) (w : World) (hx : LoAt w (fun k => k < w.heap.size) x) (hsz : x.size ≤ 1000000) :
  CallsIn Fence.wide n Try.prog 27 #[x.val] w fun e W' => e = .returned (.bool (soundT x.tree)) ∧ Below w.heap.size w W' := by
 have h1 : 1 ≤ n := by omega
 have hvs : ∃ A c, x.v = .slice A x.l.length c := by
  rw [LoAt_iff] at hx
  obtain ⟨_, A, c, e, _⟩ := hx
  exact ⟨A, c, e⟩
 obtain ⟨Av, cv, hvs⟩ := hvs
 have HX := Lib.hid hx
 have HS := Lib.hid (fun w => shapes_any w)
 have HV := fun n w => levels_in n x w
 unfold Lo.val at HV ⊢
 rw [hvs] at HV ⊢
 have HV := Lib.hid HV
 have Hvs := Lib.hid hvs
 clear hx hvs
 refine callsIn_of_wp_marks Try.func27 rfl trivial ?_ rfl
 simp only [Try.ntmps27, List.size_toArray, List.length_cons, List.length_nil, Nat.reduceAdd, Nat.reduceSub, Array.replicate_succ, Array.replicate_zero, List.push_toArray, List.append_toArray, List.nil_append, List.cons_append]
 gi_wp2_with fail
 refine wpIn_wide.2 (wp_scope_straight ((wpIn_wide (n := n)).1 ?_))
 gi_wp2_with fail
 refine ⟨trivial, ?_⟩
 gi_at_call 39
 refine (callsIn_wide.2 (HS.out _)).mono ?_
 rintro e w1 ⟨b, rfl, hSM, hbw, hB1⟩
 have hblk := (hB1.block w.heap.size (by simp)).trans (heap_alloc_new w (.cells #[.int .i64 x.op, .string (bs x.s), .int .i64 x.n, .slice Av x.l.length cv, .int .i64 x.line] 24))
 have p0 : w1.cell? ⟨w.heap.size, 0, none⟩ = some (.int .i64 x.op) := cell_of_row _ _ 0 _ _ _ hblk
 have p1 : w1.cell? ⟨w.heap.size, 1, none⟩ = some (.string (bs x.s)) := cell_of_row _ _ 1 _ _ _ hblk
 have p2 : w1.cell? ⟨w.heap.size, 2, none⟩ = some (.int .i64 x.n) := cell_of_row _ _ 2 _ _ _ hblk
 have p3 : w1.cell? ⟨w.heap.size, 3, none⟩ = some (.slice Av x.l.length cv) := cell_of_row _ _ 3 _ _ _ hblk
 have p4 : w1.cell? ⟨w.heap.size, 4, none⟩ = some (.int .i64 x.line) := cell_of_row _ _ 4 _ _ _ hblk
 have hz1 := hB1.size
 rw [World.size_alloc] at hz1 hbw
 have q1 : w.heap.size < w1.heap.size := by omega
 have q2 : w.heap.size < w1.heap.size + 1 := by omega
 clear hblk
 gi_wp2
 refine wpIn_label ?_
 gi_wp2_with (refine ⟨trivial, ?_⟩; gi_at_call 40; refine (HV.out (n - 1) _).mono ?_; rintro e w' ⟨rfl, rfl⟩)
 obtain ⟨K, eK⟩ : ∃ K, w1.heap.size = K := ⟨_, rfl⟩
 have bK := ((Boxed.new w1 86 (.map (some b))).alloc (.cells #[.bool true] 4)).alloc (.cells #[.int .i64 x.op, .string (bs x.s), .int .i64 x.n, .slice Av x.l.length cv, .int .i64 x.line] 24)
 have bR := (Boxed.new (w1.alloc (.cells #[.map (some b)] 86)) 4 (.bool true)).alloc (.cells #[.int .i64 x.op, .string (bs x.s), .int .i64 x.n, .slice Av x.l.length cv, .int .i64 x.line] 24)
 have bP := heap_alloc_new ((w1.alloc (.cells #[.map (some b)] 86)).alloc (.cells #[.bool true] 4)) (.cells #[.int .i64 x.op, .string (bs x.s), .int .i64 x.n, .slice Av x.l.length cv, .int .i64 x.line] 24)
 have hbl : Below w1.heap.size w1 (((w1.alloc (.cells #[.map (some b)] 86)).alloc (.cells #[.bool true] 4)).alloc (.cells #[.int .i64 x.op, .string (bs x.s), .int .i64 x.n, .slice Av x.l.length cv, .int .i64 x.line] 24)) :=
  (((Below.refl _ w1).alloc (Nat.le_refl _) _).alloc (by simp) _).alloc (by simp; omega) _
 have hsz0 : (((w1.alloc (.cells #[.map (some b)] 86)).alloc (.cells #[.bool true] 4)).alloc (.cells #[.int .i64 x.op, .string (bs x.s), .int .i64 x.n, .slice Av x.l.length cv, .int .i64 x.line] 24)).heap.size = w1.heap.size + 3 := by simp
 obtain ⟨W0, hW0⟩ : ∃ W0, (((w1.alloc (.cells #[.map (some b)] 86)).alloc (.cells #[.bool true] 4)).alloc (.cells #[.int .i64 x.op, .string (bs x.s), .int .i64 x.n, .slice Av x.l.length cv, .int .i64 x.line] 24)) = W0 := ⟨_, rfl⟩
 simp only [World.size_alloc] at bK bR bP
 rw [hW0] at bK bR bP hbl hsz0 ⊢
 clear hW0
 rw [eK] at bK bR bP hbl hsz0 hz1 q1 q2 ⊢
 have hbk : b < K := by have := hSM.lt; omega
 have hBw : Below w.heap.size w W0 := (((Below.refl _ w).alloc (Nat.le_refl _) _).trans (hB1.mono (by simp))).trans (hbl.mono (by omega))
 have hSM0 : SM W0 b shapesL.reverse := hSM.same (hbl.block b (by omega))
 have hbase : W0.heap.size = K + 3 := by omega
 have hxs := Hvs.out
 clear p0 p1 p2 p3 p4 hB1 hbl hSM
 refine wpIn_rangeRows (mine := fun _ k => k = K + 1) rfl h1 (gf := 58) (lb := #[.pointer (some ⟨K + 1 + 1, 0, none⟩)]) rfl trivial (enters_of Try.func58 (by kernel_rfl) rfl)
  (encs := fun y : Lo × Nat => #[y.1.val, .int .i64 y.2]) (xs := x.levels 1) (w0 := W0)
  (levels_seq (n - 1) (by omega) (K + 1 + 1) w.heap.size x (fun _ k => k = K + 1) W0 hsz (fun _ k hk => by omega) (by rw [hxs]; exact bP) (by omega) (LoAt.keep x HX.out (fun _ h => h) (fun p hp => hBw.cell hp))) (Below.refl _ _) (fun _ => rfl)
  (fun pre W => (SoundI w K (K + 1) b x W ∧ Boxed W (K + 1) 4 (.bool true)) ∧ pre.all goodL = true)
  (fun c pre W => (SoundI w K (K + 1) b x W ∧ Boxed W (K + 1) 4 (.bool false)) ∧ (c = .exit 0 ∧ pre.all goodL = false))
  (fun pre A B h g => ⟨⟨h.1.1.it g (by omega) (by omega) (by omega) (by omega), boxed_it h.1.2 g (.inl (by omega))⟩, h.2⟩)
  (fun c pre A B h g => ⟨⟨h.1.1.it g (by omega) (by omega) (by omega) (by omega), boxed_it h.1.2 g (.inl (by omega))⟩, h.2⟩)
  (fun pre A k h hk => by subst hk; exact ⟨_, h.1.2, rfl⟩) (fun c pre A k h hk => by subst hk; exact ⟨_, h.1.2, rfl⟩) (fun _ _ _ _ h => h)
  ⟨⟨⟨bK, hSM0, hBw, _, bR⟩, bR⟩, rfl⟩
  (fun y a' W => ∃ Bx, K + 1 < Bx ∧ w.heap.size ≤ Bx ∧ W.heap[Bx]? = some (.cells #[.int .i64 y.1.op, .string (bs y.1.s), .int .i64 y.1.n, y.1.v, .int .i64 y.1.line] 24 (0, 0)) ∧ a' = { tmps := (.agg #[.int .i64 x.op, .string (bs x.s), .int .i64 x.n, .slice Av x.l.length cv, .int .i64 x.line] :: .pointer (some ⟨w.heap.size, 0, none⟩) :: .bool false :: .pointer (some ⟨K, 0, none⟩) :: .pointer (some ⟨K + 1, 0, none⟩) :: .pointer (some ⟨Bx, 0, none⟩) :: .int .i64 y.2 :: undef :: undef :: .map (some b) :: .agg #[.int .i64 x.op, .string (bs x.s), .int .i64 x.n, .slice Av x.l.length cv, .int .i64 x.line] :: .func (.func 58) #[] #[.pointer (some ⟨K + 1 + 1, 0, none⟩)] :: y.1.val :: .int .i64 y.2 :: undef :: undef :: undef :: undef :: undef :: undef :: undef :: undef :: undef :: undef :: undef :: undef :: undef :: undef :: undef :: undef :: undef :: []).toArray, defers := [] })
  (fun y a' A B h g => by
   obtain ⟨Bx, g1, g0, g2, g3⟩ := h
   exact ⟨Bx, g1, g0, g _ _ g2 rfl, g3⟩)
  ?assign ?body ?done ?stop
 case assign =>
  rintro l pre ⟨y, lev⟩ W K' ⟨⟨hI, hR⟩, hall⟩ hpre hK
  have hRl := hR.lt
  have hIs := hI.below.size
  obtain ⟨Ay, cy, hvy⟩ := (LoAt.part 1 x HX.out (y, lev) (pre_mem hpre)).slice
  unfold Lo.val
  simp only at hvy ⊢
  have HI := Lib.hid (And.intro hI hR)
  have HVy := Lib.hid hvy
  rw [hvy] at hK ⊢
  clear hI hR hpre hvy
  gi_wp2
  exact hK _ _ ((Below.refl _ W).alloc (Nat.le_refl _) _) ⟨W.heap.size, hRl, hIs, heap_alloc_new W _, by unfold Lo.val; rw [HVy.out]⟩
 case body =>
  rintro l pre ⟨y, lev⟩ a' W hl ⟨⟨hI, hR⟩, hall⟩ ⟨Bx, hBx, hBw2, hblk, rfl⟩ hpre
  simp only at hblk ⊢
  have hLy := LoAt.part 1 x HX.out (y, lev) (pre_mem hpre)
  obtain ⟨Ay, cy, hvy⟩ := hLy.slice
  simp only at hLy hvy
  have hfine := (LoAt_iff _ _ _).1 hLy
  have hLyW := LoAt.keep (W' := W) (S' := fun k => k < W.heap.size) y hLy (fun k hk => Nat.lt_of_lt_of_le hk hI.below.size) (fun p hp => hI.below.cell hp)
  rw [hvy] at hblk
  have c0 : W.cell? ⟨Bx, 0, none⟩ = some (.int .i64 y.op) := cell_of_row W Bx 0 _ _ _ hblk
  have c1 : W.cell? ⟨Bx, 1, none⟩ = some (.string (bs y.s)) := cell_of_row W Bx 1 _ _ _ hblk
  have c2 : W.cell? ⟨Bx, 2, none⟩ = some (.int .i64 y.n) := cell_of_row W Bx 2 _ _ _ hblk
  have c3 : W.cell? ⟨Bx, 3, none⟩ = some (.slice Ay y.l.length cy) := cell_of_row W Bx 3 _ _ _ hblk
  have c4 : W.cell? ⟨Bx, 4, none⟩ = some (.int .i64 y.line) := cell_of_row W Bx 4 _ _ _ hblk
  have cK := hI.known.cell
  have cR := hR.cell
  have fR := hR.frozen
  have lB := (Array.getElem?_eq_some_iff.1 hblk).1
  have lR := hR.lt
  have lK := hI.known.lt
  have hlook := hI.map.look y.op hfine.1.2.1
  have hg : goodL (y, lev) = ((match shapeOf y.op with | none => false | some s => fitsB s y.tree) && decide (lev ≤ 100)) := by
   show goodB (y.tree, lev) = _
   unfold goodB soundOne
   rw [show y.tree.op = y.op by rw [tree_eq]; rfl]
   rfl
  have hall2 : (pre ++ [(y, lev)]).all goodL = goodL (y, lev) := by rw [List.all_append, hall]; simp
  have hAt := fun (W' : World) (h : Below W.heap.size W W') => At.keep (W' := W') (n' := W'.heap.size) y.tree (LoAt.at_ y hLyW (fun _ h => h)) h.size (fun p hp => h.cell hp)
  have hval : y.val = .agg #[.int .i64 y.op, .string (bs y.s), .int .i64 y.n, .slice Ay y.l.length cy, .int .i64 y.line] := by unfold Lo.val; rw [hvy]
  rw [hval] at hAt ⊢
  have HI := Lib.hid hI
  have HRr := Lib.hid hR
  have HAt := Lib.hid hAt
  have HA2 := Lib.hid hall2
  clear hLy hfine hLyW hpre hall hall2 hAt hval hvy hI hR hblk
  have hset : ∀ (W' : World), Below W.heap.size W W' → Boxed (W'.setCell ⟨K + 1, 0, none⟩ (.bool false)) (K + 1) 4 (.bool false) ∧ RdKeeps (fun _ k => k = K + 1) W (W'.setCell ⟨K + 1, 0, none⟩ (.bool false)) ∧ SoundI w K (K + 1) b x (W'.setCell ⟨K + 1, 0, none⟩ (.bool false)) := by
   intro W' hb
   have hR' : Boxed W' (K + 1) 4 (.bool true) := (hb.block _ lR).trans HRr.out
   have hRs : Boxed (W'.setCell ⟨K + 1, 0, none⟩ (.bool false)) (K + 1) 4 (.bool false) := by simpa using hR'.set (.bool false)
   have ho : ∀ k, k ≠ K + 1 → (W'.setCell ⟨K + 1, 0, none⟩ (.bool false)).heap[k]? = W'.heap[k]? := fun k hk => heap_setCell_other W' ⟨K + 1, 0, none⟩ k _ hk
   have hz : (W'.setCell ⟨K + 1, 0, none⟩ (.bool false)).heap.size = W'.heap.size := by simp
   refine ⟨hRs, ⟨hb.os, hb.tape, hb.output, by rw [hz]; exact hb.size, fun k hk hm => (ho k hm).trans (hb.block k hk), fun k hk => .inl hk⟩, ?_⟩
   refine ⟨(ho K (by omega)).trans ((hb.block K lK).trans HI.out.known), HI.out.map.same ((ho b (by omega)).trans (hb.block b (by omega))), ?_, _, hRs⟩
   exact (HI.out.below.trans (hb.mono HI.out.below.size)).setCell (p := ⟨K + 1, 0, none⟩) (by simp; omega) _
  have HSet := Lib.hid hset
  clear hset
  cases hsh : shapeOf y.op with
  | none =>
   rw [hsh] at hlook hg
   rw [shV_none] at hlook
   have HG := Lib.hid (show goodL (y, lev) = false by rw [hg]; rfl)
   simp only [Option.isSome_none] at hlook
   clear hg hsh
   gi_wp2
   obtain ⟨s1, s2, s3⟩ := HSet.out W (Below.refl _ W)
   exact ⟨s2.trans (RdKeeps.of_below ((Below.refl _ _).alloc (Nat.le_refl _) _) (fun _ h => h)) (fun _ _ h => h), ⟨s3.it (base := K + 2) (.of_below ((Below.refl _ _).alloc (Nat.le_refl _) _)) (by omega) (by omega) (by omega) (by omega), s1.alloc _⟩, rfl, HA2.out.trans HG.out⟩
  | some sh =>
   obtain ⟨k, num, lo, hi⟩ := sh
   rw [hsh] at hlook hg
   rw [shV_some] at hlook
   simp only [Option.isSome_some] at hlook hg
   by_cases hlev : lev ≤ 100
   ·have HF := fun W' h => fits_any (k, num, lo, hi) y.tree _ W' (HAt.out W' h)
    have hg2 : goodL (y, lev) = fitsB (k, num, lo, hi) y.tree := by rw [hg]; simp [hlev]
    obtain ⟨q, eq⟩ : ∃ q, fitsB (k, num, lo, hi) y.tree = q := ⟨_, rfl⟩
    rw [eq] at hg2
    simp only [eq] at HF
    unfold shV at HF
    have HF := Lib.hid HF
    have HG := Lib.hid hg2
    have d : ¬ (100 : Int) < lev := by omega
    clear hg hsh hlev hg2 eq
    gi_wp2_with fail
    refine ⟨trivial, fun h => absurd h (by simp [Fence.wide]), ?_⟩
    gi_at_call 41
    refine (CallsIn.inRound l (callsIn_wide.2 (HF.out _ ((Below.refl _ W).alloc (Nat.le_refl _) _)))).mono ?_
    rintro e w2 ⟨rfl, hb2⟩
    have hb3 : Below W.heap.size W w2 := ((Below.refl _ W).alloc (Nat.le_refl _) _).trans (hb2.mono (by simp))
    have hR2 : Boxed w2 (K + 1) 4 (.bool true) := (hb3.block _ lR).trans HRr.out
    have cR2 := hR2.cell
    have fR2 := hR2.frozen
    clear hb2
    cases q with
    | true =>
     gi_wp2
     exact ⟨RdKeeps.of_below hb3 (fun _ h => h), ⟨HI.out.it (base := K + 2) (.of_below hb3) (by omega) (by omega) (by omega) (by omega), hR2⟩, HA2.out.trans HG.out⟩
    | false =>
     gi_wp2
     obtain ⟨s1, s2, s3⟩ := HSet.out w2 hb3
     exact ⟨s2, ⟨s3, s1⟩, rfl, HA2.out.trans HG.out⟩
   ·have HG := Lib.hid (show goodL (y, lev) = false by rw [hg]; simp [hlev])
    have d : (100 : Int) < lev := by omega
    clear hg hsh hlev
    gi_wp2
    obtain ⟨s1, s2, s3⟩ := HSet.out W (Below.refl _ W)
    exact ⟨s2.trans (RdKeeps.of_below ((Below.refl _ _).alloc (Nat.le_refl _) _) (fun _ h => h)) (fun _ _ h => h), ⟨s3.it (base := K + 2) (.of_below ((Below.refl _ _).alloc (Nat.le_refl _) _)) (by omega) (by omega) (by omega) (by omega), s1.alloc _⟩, rfl, HA2.out.trans HG.out⟩
 case done =>
  rintro D W hD ⟨⟨hI, hR⟩, hall⟩ hK
  have cR := hR.cell
  have HR := Lib.hid (show soundT x.tree = true by rw [← all_good]; exact hall)
  have HB := Lib.hid hI.below
  clear hall hI
  gi_wp2
  rw [Exit.noGoto_ret]
  refine ⟨by simp, .inl ⟨_, _, rfl, run_takeDeferred hK, ?_⟩⟩
  exact ⟨_, results_tmp rfl _ _ _, by rw [HR.out]; rfl, HB.out.trans (belowK_b (w := w) (Nat.le_refl _) W D _ _ (by omega) hK rfl rfl)⟩
 case stop =>
  rintro D c pre W hD hpre ⟨⟨hI, hR⟩, rfl, hall⟩ hK
  have cR := hR.cell
  have HR := Lib.hid (show soundT x.tree = false by
   rw [← all_good]
   obtain ⟨r, hr⟩ := hpre
   rw [← hr, List.all_append, hall]
   rfl)
  have HB := Lib.hid hI.below
  clear hall hI
  gi_wp2
  rw [Exit.noGoto_ret]
  refine ⟨by simp, .inl ⟨_, _, rfl, run_takeDeferred hK, ?_⟩⟩
  exact ⟨_, results_tmp rfl _ _ _, by rw [HR.out]; rfl, HB.out.trans (belowK_b (w := w) (Nat.le_refl _) W D _ _ (by omega) hK rfl rfl)⟩
theorem sound_any (t : Tr) (v : Value) (w : World) (ht : At w w.heap.size t v) (hsz : t.size ≤ 1000000) :
  Calls Try.prog 27 #[v] w fun e w' => e = .returned (.bool (soundT t)) ∧ Below w.heap.size w w' := by
 obtain ⟨x, rfl, rfl, hx⟩ := Lo.of_at t ht
 rw [lo_size_tree] at hsz
 exact callsIn_wide.1 (sound_in 3 (Nat.le_refl _) x w hx hsz)
theorem right_walk (t : Tr) (v : Value) (w : World) (ht : At w w.heap.size t v) (hsz : t.size ≤ 1000000) :
  Calls Try.prog 17 #[v] w fun e w' => e = .returned (.bool (hasB 2 t.op && soundT t)) ∧ Below w.heap.size w w' := by
 have ht' := ht
 rw [At_iff] at ht
 obtain ⟨u, rfl, ⟨A, cap, rfl, _⟩, -⟩ := ht
 have hcall : ∀ o, Calls Try.prog 27 #[nodeV t (.slice A t.l.length cap)] (w.alloc o) fun e w' => e = .returned (.bool (soundT t)) ∧ Below (w.alloc o).heap.size (w.alloc o) w' :=
  fun o => sound_any t _ _ (At.keep (n' := (w.alloc o).heap.size) t ht' (by simp) fun p hp => World.cell?_alloc_lt w o p hp) hsz
 have HH := Lib.hid (fun w => has_any 2 t.op w)
 obtain ⟨q, eq⟩ : ∃ q, hasB 2 t.op = q := ⟨_, rfl⟩
 obtain ⟨r, er⟩ : ∃ r, soundT t = r := ⟨_, rfl⟩
 rw [eq] at HH ⊢
 rw [er] at hcall ⊢
 unfold nodeV at hcall ⊢
 have HC := Lib.hid hcall
 clear ht' hcall eq er
 cases q with
 | true =>
  go_enter Try.func17, Try.ntmps17
  go_wp2_with (first | (go_at_call 26; refine (HH.out _).mono ?_; rintro e w' ⟨rfl, rfl⟩) | (go_at_call 27; refine (HC.out _).mono ?_; rintro e w' ⟨rfl, hb⟩))
  go_ret
  exact ⟨by simp, ((Below.refl _ w).alloc (Nat.le_refl _) _).trans (hb.mono (by simp))⟩
 | false =>
  go_enter Try.func17, Try.ntmps17
  go_wp2_with (first | (go_at_call 26; refine (HH.out _).mono ?_; rintro e w' ⟨rfl, rfl⟩))
  go_ret
  exact ⟨by simp, ((Below.refl _ w).alloc (Nat.le_refl _) _)⟩
theorem right_any (t : Tr) (v : Value) (w : World) (ht : At w w.heap.size t v) (hsz : t.size ≤ 1000000) :
  Calls Try.prog 17 #[v] w fun e w' => e = .returned (.bool (rightP t)) ∧ Below w.heap.size w w' := right_walk t v w ht hsz
end
end Go.Proofs.Ytbpodijcndglgaa
