/- rules.laid: a system's sets, function by function. -/
import Derived.BigRegion
import Derived.Deep.AppendLies
import Derived.Deep.RegionLaw
import Derived.Deep.RegionHeldLaw
import Derived.Test.YtikbfoichhkeaaaGreatVm29
set_option linter.unusedSimpArgs false
set_option linter.unusedVariables false
set_option maxRecDepth 100000
set_option maxHeartbeats 40000000
namespace Go.Proofs.YtikbfoichhkeaaaGreat
section
open Go.RowKit Go.Proofs
abbrev sysC (s : Int) (v : Value) : Obj := .cells #[.int .i64 s, v, .slice none 0 0] 31 (0, 0)
theorem laid_any (W : World) (F : List Fn) (fB : Nat) (fv : Value) (hF : FunsV W fB fv F) (m : Nat) (hm : m ≤ 100001) (hl : F.length ≤ 1000) (hv : ∀ f ∈ F, f.vars.length ≤ 200 ∧ f.params ≤ 200) :
  Calls Tryz.prog 25 #[fv, .int .i64 m] W fun e W' => ∃ v, e = .returned (.agg #[.int .i64 ((laidF F m).2 + 9), v, .slice none 0 0]) ∧ (∃ B, W.heap.size ≤ B ∧ FsAcc B W' (laidF F m).1 v) ∧ Below W.heap.size W W' := by
 obtain ⟨Af, cf, rfl, hlc, hcm⟩ := hF.form
 obtain ⟨hal, hb0, hb1, hz2⟩ := alloc2 W (.cells #[.int .i64 0, .slice none 0 0, .slice none 0 0] 31) (.cells #[.int .i64 m, .slice none 0 0, .slice none 0 0] 31)
 obtain ⟨W2, e2⟩ : ∃ y, (W.alloc (.cells #[.int .i64 0, .slice none 0 0, .slice none 0 0] 31)).alloc (.cells #[.int .i64 m, .slice none 0 0, .slice none 0 0] 31) = y := ⟨_, rfl⟩
 rw [e2] at hal hb0 hb1 hz2
 obtain ⟨N, eN⟩ : ∃ y, W.heap.size = y := ⟨_, rfl⟩
 rw [eN] at hal hb0 hb1 hz2
 have H := Lib.hid (And.intro hF (And.intro hal (And.intro hb0 (And.intro hb1 hv))))
 have HE2 := Lib.hid e2
 clear hF hal hb0 hb1 hv e2
 go_enter Tryz.func25, Tryz.ntmps25
 go_upto_region 2 with fail
 rw [HE2.out]
 go_wp2
 go_loopw [13] (fun i wr => ∃ (j : Nat) (v : Value), j ≤ F.length ∧ i = .int .i64 j ∧ Only (fun i => i = N + 1) W2 wr ∧ wr.heap[N + 1]? = some (sysC (laidF (F.take j) m).2 v) ∧ FsAcc (N + 2) wr (laidF (F.take j) m).1 v) (fun i _ => F.length - (intOf i).toNat)
 case atStart => exact ⟨0, .slice none 0 0, Nat.zero_le _, rfl, Only.refl _ _, H.out.2.2.2.1, FsAcc.nil _ _⟩
 case round =>
  obtain ⟨j, v, hj, rfl, hon, hbk, hac⟩ := hrel
  obtain ⟨Aa, ca, rfl, hca1, hca2⟩ := hac.form
  have hle := laidF_le (F.take j) m (fun f hf => (H.out.2.2.2.2 f (List.mem_of_mem_take hf)).1)
  have hln : (laidF (F.take j) m).1.length = j := by rw [laidF_len, List.length_take, Nat.min_eq_left hj]
  rw [List.length_take, Nat.min_eq_left hj] at hle
  rw [hln] at hbk hac hca1
  have hwr : Below N W wr := H.out.2.1.trans (hon.below (by omega) (fun i hi => by omega))
  have hzr := hon.size
  by_cases hlt : j < F.length
  ·have g1 : (j : Int) < F.length := by omega
   obtain ⟨f, hf⟩ : ∃ f, F[j]? = some f := ⟨_, List.getElem?_eq_getElem hlt⟩
   obtain ⟨hv1, hv2⟩ := H.out.2.2.2.2 f (List.mem_of_getElem? hf)
   have hsn := laidF_snoc f (F.take j) m
   have htk : F.take (j + 1) = F.take j ++ [f] := by rw [List.take_add_one, hf]; rfl
   obtain ⟨sj, hsj⟩ : ∃ y, (laidF (F.take j) m).2 = y := ⟨_, rfl⟩
   obtain ⟨ls, hls⟩ : ∃ y, (laidF (F.take j) m).1 = y := ⟨_, rfl⟩
   rw [← htk, hsj, hls] at hsn
   rw [hsj] at hbk hle
   rw [hls] at hac hln
   obtain ⟨g, c9, As, csv, e9, y0, y1, y2, y3, y4, -⟩ := (H.out.1.below (W' := wr) (by rw [eN]; exact hwr)).get hf
   injection e9 with e91 e92 e93
   subst e91
   obtain ⟨vl, hvl⟩ : ∃ y, f.vars.length = y := ⟨_, rfl⟩
   rw [hvl] at y3 hv1 hsn
   have hal5 := below_alloc9 wr (.cells #[.int .i64 f.around, .string (bs f.name), .int .i64 f.params, .slice As vl csv, .int .i64 f.mark] 48)
   have hb5 := heap_alloc_new wr (.cells #[.int .i64 f.around, .string (bs f.name), .int .i64 f.params, .slice As vl csv, .int .i64 f.mark] 48)
   obtain ⟨w5, e5⟩ : ∃ y, wr.alloc (.cells #[.int .i64 f.around, .string (bs f.name), .int .i64 f.params, .slice As vl csv, .int .i64 f.mark] 48) = y := ⟨_, rfl⟩
   obtain ⟨Z, eZ⟩ : ∃ y, wr.heap.size = y := ⟨_, rfl⟩
   have z5 : w5.heap.size = Z + 1 := by rw [← e5, ← eZ]; exact World.size_alloc _ _
   rw [e5] at hal5 hb5
   rw [eZ] at hb5 hzr
   have hbk5 := (hal5.block (N + 1) (heap_lt hbk)).trans hbk
   obtain ⟨v0, v1, v2, v3, v4⟩ := (box_facts hb5).1
   obtain ⟨d0, d1, d2⟩ := box3c hbk5
   have hw1 : IntKind.i64.wrap (sj + (vl : Int)) = sj + vl := IntWalk.i64_in _ (by omega)
   have hw2 : IntKind.i64.wrap (sj + (vl : Int) + 1) = sj + vl + 1 := IntWalk.i64_in _ (by omega)
   have hw3 : IntKind.i64.wrap (sj + (vl : Int) + 2) = sj + vl + 2 := IntWalk.i64_in _ (by omega)
   have hw4 : IntKind.i64.wrap (sj + (vl : Int) + 3) = sj + vl + 3 := IntWalk.i64_in _ (by omega)
   have HC := Lib.hid (rising_any sj f.params w5.drew (by omega) (by omega))
   have HS : ∀ (w6 : World) (Ap : Option Addr) (cp : Nat), IntsF w6 (New w5.drew w6) (.slice Ap f.params cp) (risingL sj f.params) → Below w5.drew.heap.size w5.drew w6 → _ := fun w6 Ap cp hp hb6 => by
    have hz6 : Z + 1 ≤ w6.heap.size := by have := hb6.size; rw [← z5]; exact this
    have h56 : Below wr.heap.size wr w6 := hal5.trans ((drew_below w5).mono (by omega) |>.trans (hb6.mono (by show wr.heap.size ≤ w5.heap.size; omega)))
    have hac6 : FsAcc (N + 2) w6 ls (.slice Aa j ca) := hac.keep (fun i _ hi => h56.block i hi) h56.size
    have hfo : FsF w6 (foot (N + 2) w6 (.slice Aa j ca)) (fsV (fsOf f sj) (.slice Ap f.params cp)) (fsOf f sj) := ⟨_, rfl, hp.keep (fun i hi => by
     have h1 : w5.heap.size ≤ i := hi.1
     exact ⟨⟨by omega, hi.2⟩, fun h => by have := (hac.own i h).2; omega⟩) (fun _ _ => rfl)⟩
    exact And.intro (FsAcc.push hac6 hfo (by omega) (by omega)) (And.intro h56 ((hb6.block (N + 1) (heap_lt hbk5)).trans hbk5))
   have HK := Lib.hid (And.intro hac.own (And.intro hon (And.intro hsn (And.intro hzr (And.intro eZ hbk5)))))
   have HS := Lib.hid HS
   have HV := Lib.hid hb5
   have HEF := Lib.hid (fun pv : Value => show fsV (fsOf f sj) pv = [.int .i64 f.mark, pv, .int .i64 (sj + vl), .int .i64 (sj + vl + 1), .int .i64 (sj + vl + 2)] from by rw [← hvl]; rfl)
   have hSof : ∀ w' : World, w'.heap[N + 1]? = some (sysC sj (.slice Aa j ca)) → w'.heap[Z]? = some (.cells #[.int .i64 f.around, .string (bs f.name), .int .i64 f.params, .slice As vl csv, .int .i64 f.mark] 48 (0, 0)) → w'.cell? ⟨N + 1, 0, none⟩ = some (.int .i64 sj) ∧ w'.cell? ⟨Z, 4, none⟩ = some (.int .i64 f.mark) ∧ w'.cell? ⟨Z, 2, none⟩ = some (.int .i64 f.params) := fun w' h1 h2 =>
    ⟨(box3c h1).1, (box_facts h2).1.2.2.2.2, (box_facts h2).1.2.2.1⟩
   have HT := Lib.hid (fun (w6 w8 : World) (A8 : Option Addr) (c8 : Nat) (hb : w6.heap[N + 1]? = some (sysC sj (.slice Aa j ca))) (hz : w6.heap[Z]? = some (.cells #[.int .i64 f.around, .string (bs f.name), .int .i64 f.params, .slice As vl csv, .int .i64 f.mark] 48 (0, 0))) (ho : Only (fun i => (Value.slice Aa j ca).ownBlock = some i) w6 w8) =>
    show w8.heap[N + 1]? = some (sysC sj (.slice Aa j ca)) ∧ w8.cell? ⟨N + 1, 1, none⟩ = some (.slice Aa j ca) ∧ w8.frozen? ⟨N + 1, 1, none⟩ = false ∧ (w8.setCell ⟨N + 1, 1, none⟩ (.slice A8 (j + 1) c8)).frozen? ⟨N + 1, 0, none⟩ = false ∧ (w8.setCell ⟨N + 1, 1, none⟩ (.slice A8 (j + 1) c8)).cell? ⟨N + 1, 0, none⟩ = some (.int .i64 sj) ∧ (w8.cell? ⟨N + 1, 0, none⟩ = some (.int .i64 sj) ∧ w8.cell? ⟨Z, 4, none⟩ = some (.int .i64 f.mark) ∧ w8.cell? ⟨Z, 2, none⟩ = some (.int .i64 f.params)) ∧ ((w8.setCell ⟨N + 1, 1, none⟩ (.slice A8 (j + 1) c8)).cell? ⟨N + 1, 0, none⟩ = some (.int .i64 sj) ∧ (w8.setCell ⟨N + 1, 1, none⟩ (.slice A8 (j + 1) c8)).cell? ⟨Z, 4, none⟩ = some (.int .i64 f.mark) ∧ (w8.setCell ⟨N + 1, 1, none⟩ (.slice A8 (j + 1) c8)).cell? ⟨Z, 2, none⟩ = some (.int .i64 f.params)) from by
     have hb8 := (ho.block (N + 1) (heap_lt hb) (fun h => by have := (hac.own (N + 1) h).1; omega)).trans hb
     have hz8 := (ho.block Z (heap_lt hz) (fun h => by have := (hac.own Z h).2; omega)).trans hz
     have hb9 : (w8.setCell ⟨N + 1, 1, none⟩ (.slice A8 (j + 1) c8)).heap[N + 1]? = some (sysC sj (.slice A8 (j + 1) c8)) := blk_set hb8 1 _
     have hz9 := ((Only.setCell (F := fun i => i = N + 1) w8 rfl 1 (.slice A8 (j + 1) c8)).block Z (heap_lt hz8) (by omega)).trans hz8
     exact ⟨hb8, (box3c hb8).2.1, (fz3 hb8).2.1, (fz3 hb9).1, (box3c hb9).1, hSof w8 hb8 hz8, (box3c hb9).1, (box_facts hz9).1.2.2.2.2, (box_facts hz9).1.2.2.1⟩)
   have hS5 := hSof w5 hbk5 hb5
   have HSO := Lib.hid hSof
   have hlN := heap_lt hbk5
   have hlZ := heap_lt hb5
   clear hac hon hbk hsn hb5 hbk5 hal5 hwr hle hSof
   go_upto_region 6 with fail
   first | rw [e5] | skip
   refine wp_region_held_drew (S := fun w' => w'.cell? ⟨N + 1, 0, none⟩ = some (.int .i64 sj) ∧ w'.cell? ⟨Z, 4, none⟩ = some (.int .i64 f.mark) ∧ w'.cell? ⟨Z, 2, none⟩ = some (.int .i64 f.params)) (by kernel_rfl) hS5 (fun hHeld => ?_)
   refine wpAnyH_take (i := 0) (v := ?_) rfl (by kernel_rfl) (by kernel_rfl) (by kernel_rfl) (fun _ _ _ h => h) (Or.inl ⟨by rfl, ?_⟩) (by assumption) ?_
   rotate_left 1
   ·(intro w hSw; (try dsimp only at hSw); go_simp <;> (with_reducible rfl))
   refine wpAnyH_take (i := 2) (v := ?_) rfl (by kernel_rfl) (by kernel_rfl) (by kernel_rfl) (fun _ _ _ h => h) (Or.inl ⟨by rfl, ?_⟩) (by assumption) ?_
   rotate_left 1
   ·(intro w hSw; (try dsimp only at hSw); go_simp <;> (with_reducible rfl))
   refine wpAnyH_take (i := 3) (v := ?_) rfl (by kernel_rfl) (by kernel_rfl) (by kernel_rfl) (fun _ _ _ h => h) (Or.inl ⟨by rfl, ?_⟩) (by assumption) ?_
   rotate_left 1
   ·(intro w hSw; (try dsimp only at hSw); go_simp <;> (with_reducible rfl))
   refine wpAnyH_take (i := 4) (v := ?_) rfl (by kernel_rfl) (by kernel_rfl) (by kernel_rfl) (fun _ _ _ h => h) (Or.inl ⟨by rfl, ?_⟩) (by assumption) ?_
   rotate_left 1
   ·(intro w hSw; (try dsimp only at hSw); go_simp <;> (with_reducible rfl))
   refine wpAnyH_take (i := 5) (v := ?_) rfl (by kernel_rfl) (by kernel_rfl) (by kernel_rfl) (fun _ _ _ h => h) (Or.inl ⟨by rfl, ?_⟩) (by assumption) ?_
   rotate_left 1
   ·(intro w hSw; (try dsimp only at hSw); go_simp <;> (with_reducible rfl))
   refine wpAnyH_take (i := 6) (v := ?_) rfl (by kernel_rfl) (by kernel_rfl) (by kernel_rfl) (fun _ _ _ h => h) (Or.inl ⟨by rfl, ?_⟩) (by assumption) ?_
   rotate_left 1
   ·(intro w hSw; (try dsimp only at hSw); go_simp <;> (with_reducible rfl))
   refine wpAnyH_take (i := 7) (v := ?_) rfl (by kernel_rfl) (by kernel_rfl) (by kernel_rfl) (fun _ _ _ h => h) (Or.inl ⟨by rfl, ?_⟩) (by assumption) ?_
   rotate_left 1
   ·(intro w hSw; (try dsimp only at hSw); go_simp <;> (with_reducible rfl))
   refine wpAnyH_take (i := 9) (v := ?_) rfl (by kernel_rfl) (by kernel_rfl) (by kernel_rfl) (fun _ _ _ h => h) (Or.inl ⟨by rfl, ?_⟩) (by assumption) ?_
   rotate_left 1
   ·(intro w hSw; (try dsimp only at hSw); go_simp <;> (with_reducible rfl))
   refine wpAnyH_take (i := 10) (v := ?_) rfl (by kernel_rfl) (by kernel_rfl) (by kernel_rfl) (fun _ _ _ h => h) (Or.inl ⟨by rfl, ?_⟩) (by assumption) ?_
   rotate_left 1
   ·(intro w hSw; (try dsimp only at hSw); go_simp <;> (with_reducible rfl))
   refine wpAnyH_take (i := 11) (v := ?_) rfl (by kernel_rfl) (by kernel_rfl) (by kernel_rfl) (fun _ _ _ h => h) (Or.inl ⟨by rfl, ?_⟩) (by assumption) ?_
   rotate_left 1
   ·(intro w hSw; (try dsimp only at hSw); go_simp <;> (with_reducible rfl))
   refine wpAnyH_take (i := 12) (v := ?_) rfl (by kernel_rfl) (by kernel_rfl) (by kernel_rfl) (fun _ _ _ h => h) (Or.inl ⟨by rfl, ?_⟩) (by assumption) ?_
   rotate_left 1
   ·(intro w hSw; (try dsimp only at hSw); go_simp <;> (with_reducible rfl))
   refine wpAnyH_take (i := 13) (v := ?_) rfl (by kernel_rfl) (by kernel_rfl) (by kernel_rfl) (fun _ _ _ h => h) (Or.inl ⟨by rfl, ?_⟩) (by assumption) ?_
   rotate_left 1
   ·(intro w hSw; (try dsimp only at hSw); go_simp <;> (with_reducible rfl))
   refine wpAnyH_ready (rs := [1, 8]) (by kernel_rfl) (by simp) ?_
   refine AllReadyH.cons rfl (fun K hK => ?_) ?_
   ·go_simp
    refine hK.out _ _ ?_ (fun hHeld => ?_)
    ·exact hHeld
    clear hK K
    refine wpAnyH_ready (rs := [8]) (by kernel_rfl) (by simp) ?_
    refine AllReadyH.cons rfl (fun K hK => ?_) ?_
    ·go_simp
     go_at_call 40
     refine HC.out.mono ?_
     rintro e w6 ⟨pv, rfl, hpv, hb6⟩
     obtain ⟨Ap, cp, rfl⟩ : ∃ Ap cp, pv = .slice Ap f.params cp := (by obtain ⟨Ap, cp, e, -⟩ := hpv; exact ⟨Ap, cp, by rw [e, risingL_len]⟩)
     obtain ⟨hP, h56, hbk6⟩ := HS.out w6 Ap cp hpv hb6
     have hz6 := (hb6.block Z hlZ).trans HV.out
     obtain ⟨Z6, eZ6⟩ : ∃ y, w6.heap.size = y := ⟨_, rfl⟩
     rw [eZ6, hln, HEF.out] at hP
     have HP := Lib.hid hP
     obtain ⟨x0, x1, x2⟩ := box3c hbk6
     have hS6 := HSO.out w6 hbk6 hz6
     have hal7 := below_alloc9 w6 (.cells #[.int .i64 f.mark, .slice Ap f.params cp, .int .i64 (sj + vl), .int .i64 (sj + vl + 1), .int .i64 (sj + vl + 2)] 64)
     have xa := (hal7.cell (p := ⟨N + 1, 1, none⟩) (heap_lt hbk6)).trans x1
     have hS7 := HSO.out _ ((hal7.block (N + 1) (heap_lt hbk6)).trans hbk6) ((hal7.block Z (heap_lt hz6)).trans hz6)
     have HQ := Lib.hid (And.intro h56 (And.intro hbk6 (And.intro eZ6 hz6)))
     clear hP h56 hbk6 hpv hb6 hz6 hal7
     refine hK.out _ _ ?_ (fun hHeld => ?_)
     ·exact hS6
     clear hK K
     refine wpAnyH_take (i := 14) (v := ?_) rfl (by kernel_rfl) (by kernel_rfl) (by kernel_rfl) (fun _ _ _ h => h) (Or.inl ⟨by rfl, ?_⟩) (by assumption) ?_
     rotate_left 1
     ·(intro w hSw; (try dsimp only at hSw); go_simp <;> (with_reducible rfl))
     refine wpAnyH_ready (rs := [15]) (by kernel_rfl) (by simp) ?_
     refine AllReadyH.cons rfl (fun K hK => ?_) ?_
     ·go_simp
      refine hK.out _ _ ?_ (fun hHeld => ?_)
      ·exact hS7
      clear hK K
      refine wpAnyH_ready (rs := [16]) (by kernel_rfl) (by simp) ?_
      refine AllReadyH.cons rfl (fun K hK => ?_) ?_
      ·refine step_app rfl (.tmp 24) (.tmp 38) 28 rfl (.slice Aa j ca) (.slice (some ⟨Z6, 0, none⟩) 1 1) rfl rfl _ HP.out ?_
       rintro u8 w8 ⟨hacc, hon8, ⟨A8, c8, rfl⟩, -⟩
       obtain ⟨hb8, x8, f1, f0, x9, hS8, hS9⟩ := HT.out w6 w8 A8 c8 HQ.out.2.1 HQ.out.2.2.2 hon8
       have M8 := Lib.hid (And.intro hacc (And.intro hon8 hb8))
       clear hacc hon8 hb8
       refine hK.out _ _ ?_ (fun hHeld => ?_)
       ·exact hS8
       clear hK K
       refine wpAnyH_take (i := 17) (v := ?_) rfl (by kernel_rfl) (by kernel_rfl) (by kernel_rfl) (fun _ _ _ h => h) (Or.inl ⟨by rfl, ?_⟩) (by assumption) ?_
       rotate_left 1
       ·(intro w hSw; (try dsimp only at hSw); go_simp <;> (with_reducible rfl))
       refine wpAnyH_ready (rs := [18]) (by kernel_rfl) (by simp) ?_
       refine AllReadyH.cons rfl (fun K hK => ?_) ?_
       ·go_simp
        refine hK.out _ _ ?_ (fun hHeld => ?_)
        ·exact hS9
        clear hK K
        refine wpAnyH_done (by kernel_rfl) ?_ _
        go_wp2
        go_roundw
        case rel =>
         have ho9 : Only (fun i => i = N + 1) w8 ((w8.setCell ⟨N + 1, 1, none⟩ (.slice A8 (j + 1) c8)).setCell ⟨N + 1, 0, none⟩ (.int .i64 (sj + vl + 3))) := (Only.setCell (F := fun i => i = N + 1) w8 rfl 1 _).trans' (Only.setCell (F := fun i => i = N + 1) _ rfl 0 _)
         refine ⟨_, _, .int .i64 ((j + 1 : Nat) : Int), ⟨j + 1, by omega, rfl, ?_, .slice A8 (j + 1) c8, ?_, ?_⟩, rfl, rfl, by first | go_num | simp⟩
         ·refine (HK.out.2.1.trans' (Only.of_below HQ.out.1)).trans ((M8.out.2.1.mono fun i _ h => ?_).trans' (ho9.mono fun i _ h => .inl h))
          have := HK.out.1 i h
          have := HQ.out.1.size
          exact .inr ⟨by omega, by omega⟩
         ·rw [HK.out.2.2.1]
          exact blk_set (blk_set M8.out.2.2 1 _) 0 _
         ·rw [HK.out.2.2.1]
          exact M8.out.1.keep (fun i hi hi2 => ho9.block i hi2 (by omega)) ho9.size
        case measure => simp [intOf]; omega
       exact AllReadyH.nil
      exact AllReadyH.nil
     exact AllReadyH.nil
    exact AllReadyH.nil
   refine AllReadyH.cons rfl (fun K hK => ?_) ?_
   ·go_simp
    go_at_call 40
    refine HC.out.mono ?_
    rintro e w6 ⟨pv, rfl, hpv, hb6⟩
    obtain ⟨Ap, cp, rfl⟩ : ∃ Ap cp, pv = .slice Ap f.params cp := (by obtain ⟨Ap, cp, e, -⟩ := hpv; exact ⟨Ap, cp, by rw [e, risingL_len]⟩)
    obtain ⟨hP, h56, hbk6⟩ := HS.out w6 Ap cp hpv hb6
    have hz6 := (hb6.block Z hlZ).trans HV.out
    obtain ⟨Z6, eZ6⟩ : ∃ y, w6.heap.size = y := ⟨_, rfl⟩
    rw [eZ6, hln, HEF.out] at hP
    have HP := Lib.hid hP
    obtain ⟨x0, x1, x2⟩ := box3c hbk6
    have hS6 := HSO.out w6 hbk6 hz6
    have hal7 := below_alloc9 w6 (.cells #[.int .i64 f.mark, .slice Ap f.params cp, .int .i64 (sj + vl), .int .i64 (sj + vl + 1), .int .i64 (sj + vl + 2)] 64)
    have xa := (hal7.cell (p := ⟨N + 1, 1, none⟩) (heap_lt hbk6)).trans x1
    have hS7 := HSO.out _ ((hal7.block (N + 1) (heap_lt hbk6)).trans hbk6) ((hal7.block Z (heap_lt hz6)).trans hz6)
    have HQ := Lib.hid (And.intro h56 (And.intro hbk6 (And.intro eZ6 hz6)))
    clear hP h56 hbk6 hpv hb6 hz6 hal7
    refine hK.out _ _ ?_ (fun hHeld => ?_)
    ·exact hS6
    clear hK K
    refine wpAnyH_take (i := 14) (v := ?_) rfl (by kernel_rfl) (by kernel_rfl) (by kernel_rfl) (fun _ _ _ h => h) (Or.inl ⟨by rfl, ?_⟩) (by assumption) ?_
    rotate_left 1
    ·(intro w hSw; (try dsimp only at hSw); go_simp <;> (with_reducible rfl))
    refine wpAnyH_ready (rs := [1, 15]) (by kernel_rfl) (by simp) ?_
    refine AllReadyH.cons rfl (fun K hK => ?_) ?_
    ·go_simp
     refine hK.out _ _ ?_ (fun hHeld => ?_)
     ·exact hS6
     clear hK K
     refine wpAnyH_ready (rs := [15]) (by kernel_rfl) (by simp) ?_
     refine AllReadyH.cons rfl (fun K hK => ?_) ?_
     ·go_simp
      refine hK.out _ _ ?_ (fun hHeld => ?_)
      ·exact hS7
      clear hK K
      refine wpAnyH_ready (rs := [16]) (by kernel_rfl) (by simp) ?_
      refine AllReadyH.cons rfl (fun K hK => ?_) ?_
      ·refine step_app rfl (.tmp 24) (.tmp 38) 28 rfl (.slice Aa j ca) (.slice (some ⟨Z6, 0, none⟩) 1 1) rfl rfl _ HP.out ?_
       rintro u8 w8 ⟨hacc, hon8, ⟨A8, c8, rfl⟩, -⟩
       obtain ⟨hb8, x8, f1, f0, x9, hS8, hS9⟩ := HT.out w6 w8 A8 c8 HQ.out.2.1 HQ.out.2.2.2 hon8
       have M8 := Lib.hid (And.intro hacc (And.intro hon8 hb8))
       clear hacc hon8 hb8
       refine hK.out _ _ ?_ (fun hHeld => ?_)
       ·exact hS8
       clear hK K
       refine wpAnyH_take (i := 17) (v := ?_) rfl (by kernel_rfl) (by kernel_rfl) (by kernel_rfl) (fun _ _ _ h => h) (Or.inl ⟨by rfl, ?_⟩) (by assumption) ?_
       rotate_left 1
       ·(intro w hSw; (try dsimp only at hSw); go_simp <;> (with_reducible rfl))
       refine wpAnyH_ready (rs := [18]) (by kernel_rfl) (by simp) ?_
       refine AllReadyH.cons rfl (fun K hK => ?_) ?_
       ·go_simp
        refine hK.out _ _ ?_ (fun hHeld => ?_)
        ·exact hS9
        clear hK K
        refine wpAnyH_done (by kernel_rfl) ?_ _
        go_wp2
        go_roundw
        case rel =>
         have ho9 : Only (fun i => i = N + 1) w8 ((w8.setCell ⟨N + 1, 1, none⟩ (.slice A8 (j + 1) c8)).setCell ⟨N + 1, 0, none⟩ (.int .i64 (sj + vl + 3))) := (Only.setCell (F := fun i => i = N + 1) w8 rfl 1 _).trans' (Only.setCell (F := fun i => i = N + 1) _ rfl 0 _)
         refine ⟨_, _, .int .i64 ((j + 1 : Nat) : Int), ⟨j + 1, by omega, rfl, ?_, .slice A8 (j + 1) c8, ?_, ?_⟩, rfl, rfl, by first | go_num | simp⟩
         ·refine (HK.out.2.1.trans' (Only.of_below HQ.out.1)).trans ((M8.out.2.1.mono fun i _ h => ?_).trans' (ho9.mono fun i _ h => .inl h))
          have := HK.out.1 i h
          have := HQ.out.1.size
          exact .inr ⟨by omega, by omega⟩
         ·rw [HK.out.2.2.1]
          exact blk_set (blk_set M8.out.2.2 1 _) 0 _
         ·rw [HK.out.2.2.1]
          exact M8.out.1.keep (fun i hi hi2 => ho9.block i hi2 (by omega)) ho9.size
        case measure => simp [intOf]; omega
       exact AllReadyH.nil
      exact AllReadyH.nil
     exact AllReadyH.nil
    refine AllReadyH.cons rfl (fun K hK => ?_) ?_
    ·go_simp
     refine hK.out _ _ ?_ (fun hHeld => ?_)
     ·exact hS7
     clear hK K
     refine wpAnyH_ready (rs := [1]) (by kernel_rfl) (by simp) ?_
     refine AllReadyH.cons rfl (fun K hK => ?_) ?_
     ·go_simp
      refine hK.out _ _ ?_ (fun hHeld => ?_)
      ·exact hS7
      clear hK K
      refine wpAnyH_ready (rs := [16]) (by kernel_rfl) (by simp) ?_
      refine AllReadyH.cons rfl (fun K hK => ?_) ?_
      ·refine step_app rfl (.tmp 24) (.tmp 38) 28 rfl (.slice Aa j ca) (.slice (some ⟨Z6, 0, none⟩) 1 1) rfl rfl _ HP.out ?_
       rintro u8 w8 ⟨hacc, hon8, ⟨A8, c8, rfl⟩, -⟩
       obtain ⟨hb8, x8, f1, f0, x9, hS8, hS9⟩ := HT.out w6 w8 A8 c8 HQ.out.2.1 HQ.out.2.2.2 hon8
       have M8 := Lib.hid (And.intro hacc (And.intro hon8 hb8))
       clear hacc hon8 hb8
       refine hK.out _ _ ?_ (fun hHeld => ?_)
       ·exact hS8
       clear hK K
       refine wpAnyH_take (i := 17) (v := ?_) rfl (by kernel_rfl) (by kernel_rfl) (by kernel_rfl) (fun _ _ _ h => h) (Or.inl ⟨by rfl, ?_⟩) (by assumption) ?_
       rotate_left 1
       ·(intro w hSw; (try dsimp only at hSw); go_simp <;> (with_reducible rfl))
       refine wpAnyH_ready (rs := [18]) (by kernel_rfl) (by simp) ?_
       refine AllReadyH.cons rfl (fun K hK => ?_) ?_
       ·go_simp
        refine hK.out _ _ ?_ (fun hHeld => ?_)
        ·exact hS9
        clear hK K
        refine wpAnyH_done (by kernel_rfl) ?_ _
        go_wp2
        go_roundw
        case rel =>
         have ho9 : Only (fun i => i = N + 1) w8 ((w8.setCell ⟨N + 1, 1, none⟩ (.slice A8 (j + 1) c8)).setCell ⟨N + 1, 0, none⟩ (.int .i64 (sj + vl + 3))) := (Only.setCell (F := fun i => i = N + 1) w8 rfl 1 _).trans' (Only.setCell (F := fun i => i = N + 1) _ rfl 0 _)
         refine ⟨_, _, .int .i64 ((j + 1 : Nat) : Int), ⟨j + 1, by omega, rfl, ?_, .slice A8 (j + 1) c8, ?_, ?_⟩, rfl, rfl, by first | go_num | simp⟩
         ·refine (HK.out.2.1.trans' (Only.of_below HQ.out.1)).trans ((M8.out.2.1.mono fun i _ h => ?_).trans' (ho9.mono fun i _ h => .inl h))
          have := HK.out.1 i h
          have := HQ.out.1.size
          exact .inr ⟨by omega, by omega⟩
         ·rw [HK.out.2.2.1]
          exact blk_set (blk_set M8.out.2.2 1 _) 0 _
         ·rw [HK.out.2.2.1]
          exact M8.out.1.keep (fun i hi hi2 => ho9.block i hi2 (by omega)) ho9.size
        case measure => simp [intOf]; omega
       exact AllReadyH.nil
      exact AllReadyH.nil
     exact AllReadyH.nil
    exact AllReadyH.nil
   exact AllReadyH.nil
  ·obtain rfl : j = F.length := by omega
   have g1 : ¬ (F.length : Int) < F.length := by omega
   rw [List.take_length] at hbk hac hle hln
   obtain ⟨sj, hsj⟩ : ∃ y, (laidF F m).2 = y := ⟨_, rfl⟩
   rw [hsj] at hbk hle
   have hw1 : IntKind.i64.wrap (sj + 9) = sj + 9 := IntWalk.i64_in _ (by omega)
   have hN := (hon.block N (by omega) (by omega)).trans H.out.2.2.1
   obtain ⟨d0, d1, d2⟩ := box3c hbk
   obtain ⟨f0, f1, f2⟩ := fz3 hbk
   obtain ⟨p0, p1, p2⟩ := box3c hN
   obtain ⟨q0, q1, q2⟩ := fz3 hN
   have hb9 : (wr.setCell ⟨N + 1, 0, none⟩ (.int .i64 (sj + 9))).heap[N]? = some (.cells #[.int .i64 0, .slice none 0 0, .slice none 0 0] 31 (0, 0)) := ((Only.setCell (F := fun i => i = N + 1) wr rfl 0 (.int .i64 (sj + 9))).block N (heap_lt hN) (by omega)).trans hN
   have hF1 := fin3 (a0 := .int .i64 (sj + 9)) (a1 := .slice Aa F.length ca) (a2 := .slice none 0 0) hb9
   have ho : Only (fun i => i = N + 1 ∨ i = N) wr _ := ((Only.setCell (F := fun i => i = N + 1) wr rfl 0 (.int .i64 (sj + 9))).mono (fun i _ h => .inl h)).trans' ((fin3_only (wr.setCell ⟨N + 1, 0, none⟩ (.int .i64 (sj + 9))) N (.int .i64 (sj + 9)) (.slice Aa F.length ca) (.slice none 0 0)).mono (fun i _ h => .inr h))
   have HL := Lib.hid (And.intro hF1 (And.intro (hac.keep (fun i hi hi2 => ho.block i hi2 (by rintro (h | h) <;> omega)) ho.size) (hwr.trans (ho.below (by have := hwr.size; omega) (by rintro i (h | h) <;> omega)))))
   clear hon hbk hac hN hb9 hF1 ho hwr
   go_wp2
   have q := box3c HL.out.1
   exact bodyPost_ret (v := .agg #[.int .i64 (sj + 9), .slice Aa F.length ca, .slice none 0 0]) (by simp [results, Tryz.results25, go_sem, q.1, q.2.1, q.2.2]) rfl ⟨_, by first | rfl | rw [hsj], ⟨N + 2, by omega, HL.out.2.1⟩, by first | exact HL.out.2.2 | (rw [eN]; exact HL.out.2.2)⟩
end
end Go.Proofs.YtikbfoichhkeaaaGreat
