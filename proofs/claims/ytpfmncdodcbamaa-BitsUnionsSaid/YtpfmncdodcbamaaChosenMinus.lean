/- bits.chosen with the test of Minus. -/
import Derived.Test.YtpfmncdodcbamaaTests
namespace Go.Proofs.Ytpfmncdodcbamaa
open Go.RowKit Go.Proofs Go.Shelf

attribute [local go_sem] Oper.semAt_some

set_option maxRecDepth 100000 in
set_option maxHeartbeats 2000000 in
theorem chosen34_in (n : Nat) (hn : 3 ≤ n) (A A' : Option Addr) (na ca nb cb : Nat) (zs zs' : List Int) (w : World) (hA : Ints w w.heap.size A na ca zs) (hA' : Ints w w.heap.size A' nb cb zs')
    (hN : (mrg zs zs').length ≤ 17592186044415) :
    CallsIn Fence.wide n Try.prog 33 #[.slice A na ca, .slice A' nb cb, .func (.func 34) #[] #[]] w fun e W' =>
      ∃ v, e = .returned v ∧ W'.ownsRow w.heap.size 3 1 v (sel pMinus (mrg zs zs')).length ((sel pMinus (mrg zs zs')).map (Value.int .i64)) ∧ Below w.heap.size w W' := by
  have h1 : 1 ≤ n := by omega
  obtain ⟨i0, hi, hz0, hz1, hz2⟩ := info_parts info3
  have HI := Lib.hid (And.intro hi (And.intro hz0 (And.intro hz1 hz2)))
  clear hi hz0 hz1 hz2
  refine callsIn_of_wp_marks Try.func33 rfl trivial ?_ rfl
  simp only [Try.ntmps33, List.size_toArray, List.length_cons, List.length_nil, Nat.reduceAdd, Nat.reduceSub, Array.replicate_succ, Array.replicate_zero, List.push_toArray, List.append_toArray, List.nil_append, List.cons_append]
  gi_wp2_with (refine ⟨trivial, ?_⟩; gi_at_call 36; refine (merged_in (n - 1) A A' na ca nb cb _).mono ?_; rintro e w' ⟨rfl, rfl⟩)
  have bW := ((((Boxed.new w 53 (.func (.func 34) #[] #[])).alloc (.cells #[.slice none 0 0] 22)).alloc (.cells #[.slice A na ca] 22)).alloc (.cells #[.slice A' nb cb] 22))
  have bO := ((Boxed.new (w.alloc (.cells #[.func (.func 34) #[] #[]] 53)) 22 (.slice none 0 0)).alloc (.cells #[.slice A na ca] 22)).alloc (.cells #[.slice A' nb cb] 22)
  have bA := (Boxed.new ((w.alloc (.cells #[.func (.func 34) #[] #[]] 53)).alloc (.cells #[.slice none 0 0] 22)) 22 (.slice A na ca)).alloc (.cells #[.slice A' nb cb] 22)
  have bB := Boxed.new (((w.alloc (.cells #[.func (.func 34) #[] #[]] 53)).alloc (.cells #[.slice none 0 0] 22)).alloc (.cells #[.slice A na ca] 22)) 22 (.slice A' nb cb)
  simp only [World.size_alloc] at bW bO bA bB
  have hB0 : Below w.heap.size w ((((w.alloc (.cells #[.func (.func 34) #[] #[]] 53)).alloc (.cells #[.slice none 0 0] 22)).alloc (.cells #[.slice A na ca] 22)).alloc (.cells #[.slice A' nb cb] 22)) :=
    ((((Below.refl _ w).alloc (Nat.le_refl _) _).alloc (by simp) _).alloc (by simp; omega) _).alloc (by simp; omega) _
  have hsz : ((((w.alloc (.cells #[.func (.func 34) #[] #[]] 53)).alloc (.cells #[.slice none 0 0] 22)).alloc (.cells #[.slice A na ca] 22)).alloc (.cells #[.slice A' nb cb] 22)).heap.size = w.heap.size + 4 := by simp
  obtain ⟨W0, hW0⟩ : ∃ W0, ((((w.alloc (.cells #[.func (.func 34) #[] #[]] 53)).alloc (.cells #[.slice none 0 0] 22)).alloc (.cells #[.slice A na ca] 22)).alloc (.cells #[.slice A' nb cb] 22)) = W0 := ⟨_, rfl⟩
  rw [hW0] at bW bO bA bB hB0 hsz ⊢
  clear hW0
  refine wpIn_rangeFunc_ownH rfl h1 (gf := 41) (lb := #[.pointer (some ⟨w.heap.size + 1 + 1, 0, none⟩), .pointer (some ⟨w.heap.size + 1 + 1 + 1, 0, none⟩)]) rfl trivial (enters_of Try.func41 (by kernel_rfl) rfl)
    (merged_stops (n - 1) (by omega) (w.heap.size + 1 + 1) (w.heap.size + 1 + 1 + 1) (w.heap.size + 1) w.heap.size (by omega) (by omega) A A' na ca nb cb zs zs' W0 bA bB (by omega) (by omega) (hA.below hB0) (hA'.below hB0))
    KpM.trans (KpM.book (by omega)) (Below.refl _ _) (fun _ => rfl)
    (fun pre W => ((∃ v, Boxed W (w.heap.size + 1) 22 v ∧ W.ownsRow w.heap.size 3 1 v (sel pMinus pre).length ((sel pMinus pre).map (Value.int .i64)) ∧ True) ∧ Boxed W w.heap.size 53 (.func (.func 34) #[] #[])) ∧ Below w.heap.size w W)
    (fun _ _ _ => False)
    (OwnFrom.and (OwnFrom.and (Own.from (holdsRow_own w.heap.size (w.heap.size + 1) 22 3 1 (fun pre => (sel pMinus pre).length) (fun pre => (sel pMinus pre).map (Value.int .i64)) (fun _ _ => True)) _) (Own.from (boxed_own _ _ _) _)) (ownFrom_below (Nat.le_refl _) (by omega)))
    (fun _ _ _ _ _ hs _ _ => hs)
    ⟨⟨⟨_, bO, World.ownsRow_nil _ _ _ _, trivial⟩, bW⟩, hB0⟩
    (fun x a' W => ∃ Bx, w.heap.size + 1 < Bx ∧ W.heap[Bx]? = some (.cells #[.int .i64 x.1, .bool x.2.1, .bool x.2.2] 52 (0, 0)) ∧
      a' = { tmps := #[.slice A na ca, .slice A' nb cb, .func (.func 34) #[] #[], undef, undef, .pointer (some ⟨w.heap.size, 0, none⟩), .slice none 0 0, .pointer (some ⟨w.heap.size + 1, 0, none⟩), .pointer (some ⟨Bx, 0, none⟩), .slice A na ca, .slice A' nb cb, .func (.func 41) #[] #[.pointer (some ⟨w.heap.size + 1 + 1, 0, none⟩), .pointer (some ⟨w.heap.size + 1 + 1 + 1, 0, none⟩)], .agg #[.int .i64 x.1, .bool x.2.1, .bool x.2.2], undef, undef, undef, undef, undef, undef, undef, undef, undef], defers := [] })
    (fun x a' _ X Y row hs hg hr => by
      obtain ⟨Bx, g1, g2, g3⟩ := hs
      exact ⟨Bx, g1, (hg.block Bx (Array.getElem?_eq_some_iff.1 g2).1 (fun e => by obtain ⟨_, o, ho, hc⟩ := hr Bx e.symm; rw [g2] at ho; cases ho; cases hc)).trans g2, g3⟩)
    ?assign ?body ?done ?stop
  case assign =>
    rintro l pre x W K ⟨⟨⟨v, bO1, hrow, _⟩, bW1⟩, hB1⟩ hK
    gi_wp2
    exact hK _ _ ((KeepsOthers.alloc _ _).from _) (KpM.alloc W hB1.size _) ⟨⟨⟨v, bO1.alloc _, hrow.alloc _, trivial⟩, bW1.alloc _⟩, hB1.alloc hB1.size _⟩ ⟨W.heap.size, bO1.lt, heap_alloc_new W _, rfl⟩
  case body =>
    rintro l pre x a' W hl ⟨r, hr⟩ ⟨⟨⟨v, bO1, hrow, _⟩, bW1⟩, hB1⟩ ⟨Bx, hBx, hblk, rfl⟩ hlt
    obtain ⟨z, x1, x2⟩ := x
    have cW := bW1.cell
    have c0 : W.cell? ⟨Bx, 0, none⟩ = some (.int .i64 z) := cell_of_row W Bx 0 _ _ _ hblk
    have c1 : W.cell? ⟨Bx, 1, none⟩ = some (.bool x1) := cell_of_row W Bx 1 _ _ _ hblk
    have c2 : W.cell? ⟨Bx, 2, none⟩ = some (.bool x2) := cell_of_row W Bx 2 _ _ _ hblk
    have lBx := (Array.getElem?_eq_some_iff.1 hblk).1
    have hsW := hB1.size
    have hpl := sel_len pMinus pre
    have HT := Lib.hid (test34 z x1 x2)
    cases hp : pMinus x1 x2 with
    | true =>
      have HP := Lib.hid hp
      rw [hp] at HT
      clear hp
      gi_wp2_with fail
      refine ⟨trivial, fun h => absurd h (by simp [Fence.wide]), ?_⟩
      gi_at_call 34
      refine (CallsIn.inRound l (callsIn_wide.2 (HT.out _))).mono ?_
      rintro e w1 ⟨rfl, hbw⟩
      have cf : w1.cell? ⟨Bx, 0, none⟩ = some (.int .i64 z) := (hbw.cell (p := ⟨Bx, 0, none⟩) lBx).trans c0
      have bO2 : Boxed w1 (w.heap.size + 1) 22 v := (hbw.block _ bO1.lt).trans bO1
      have hc := bO2.cell
      have hrow2 : w1.ownsRow w.heap.size 3 1 v (sel pMinus pre).length ((sel pMinus pre).map (Value.int .i64)) := hrow.kept (grownBy_of_below hbw none) (by
        rcases hrow.2 with ⟨rfl, _⟩ | ⟨g, cap, cur, rfl, _⟩
        · exact .inl rfl
        · exact .inr (by simp [Value.ownBlock]))
      have hB2 : Below w.heap.size w w1 := hB1.trans (hbw.mono hB1.size)
      have hs2 := hB2.size
      have hs3 := hbw.size
      gi_wp2_with (gi_at_builtin; refine wpListIn_append_own _ rfl _ _ 22 rfl w.heap.size 3 i0 (.int .i64 0) 1 8 Try.underlying22 HI.out.1 HI.out.2.1 HI.out.2.2.1 HI.out.2.2.2 rfl (by decide) _ _ _ rfl (hrow2.alloc _) ⟨w1.heap.size, 0, none⟩ 1 1 [.int .i64 z] rfl rfl (cell_one_new _ _ _) (by simp [Value.oneCell']) (by unfold maxLen; omega) (by omega) (by simp; omega) ?_; intro v' w2 hown' hgrow _; obtain ⟨g', cap', rfl⟩ := ownsRow_succ hown'; obtain ⟨hv1, hv2, hr2, hk2, hb2⟩ := bO2.appended (by decide) hrow2 hB2.size (by omega) hown' hgrow; have hc1 := hv1.cell; have hf1 := hv1.frozen)
      refine ⟨((keepsOthers_of_below hbw).trans hk2).from _, ?_, ⟨⟨_, hv2, by rw [sel_hit _ _ _ HP.out]; simpa using hr2, trivial⟩, ?_⟩, hB2.trans hb2⟩
      · exact ((KpM.below hbw hB1.size).trans ((KpM.alloc w1 hs2 _).trans (KpM.grown (by simp; omega) hgrow (ownRow_type (hrow2.alloc _))))).trans (KpM.setBox _ (by omega) _)
      · have bW2 : Boxed w1 w.heap.size 53 (.func (.func 34) #[] #[]) := (hbw.block _ bW1.lt).trans bW1
        exact ((bW2.alloc (.cells #[.int .i64 z] 3)).kept hgrow ((bW2.alloc (.cells #[.int .i64 z] 3)).not_row (by decide) (hrow2.alloc (.cells #[.int .i64 z] 3)))).other (by omega) _
    | false =>
      have HP := Lib.hid hp
      rw [hp] at HT
      clear hp
      gi_wp2_with fail
      refine ⟨trivial, fun h => absurd h (by simp [Fence.wide]), ?_⟩
      gi_at_call 34
      refine (CallsIn.inRound l (callsIn_wide.2 (HT.out _))).mono ?_
      rintro e w1 ⟨rfl, hbw⟩
      have bO2 : Boxed w1 (w.heap.size + 1) 22 v := (hbw.block _ bO1.lt).trans bO1
      have bW2 : Boxed w1 w.heap.size 53 (.func (.func 34) #[] #[]) := (hbw.block _ bW1.lt).trans bW1
      have hrow2 : w1.ownsRow w.heap.size 3 1 v (sel pMinus pre).length ((sel pMinus pre).map (Value.int .i64)) := hrow.kept (grownBy_of_below hbw none) (by
        rcases hrow.2 with ⟨rfl, _⟩ | ⟨g, cap, cur, rfl, _⟩
        · exact .inl rfl
        · exact .inr (by simp [Value.ownBlock]))
      gi_wp2
      exact ⟨(keepsOthers_of_below hbw).from _, KpM.below hbw hB1.size, ⟨⟨v, bO2, by rw [sel_miss _ _ _ HP.out]; exact hrow2, trivial⟩, bW2⟩, hB1.trans (hbw.mono hB1.size)⟩
  case done =>
    rintro D ys W hD rfl ⟨⟨⟨v, bO1, hrow, _⟩, bW1⟩, hB1⟩ hK
    have hc := bO1.cell
    gi_wp2
    refine ⟨by simp, .inl ⟨_, _, rfl, run_takeDeferred hK, ?_⟩⟩
    exact ⟨_, results_tmp rfl _ _ _, v, rfl, ownsRow_putObj hrow _ hK rfl, hB1.trans (belowK_b (w := w) (Nat.le_refl _) W D _ _ (by omega) hK rfl rfl)⟩
  case stop =>
    rintro D c pre W _ _ h _
    exact h.elim
end Go.Proofs.Ytpfmncdodcbamaa
