/- gumshoelaw05.renamed. The law ScopeNames: its walk. -/
import Derived.BigQuiet
import Derived.Test.YtbpodijcndglgaaPn48
set_option linter.unusedSimpArgs false
set_option linter.unusedVariables false
set_option maxRecDepth 100000
set_option maxHeartbeats 40000000
namespace Go.Proofs.Ytbpodijcndglgaa
section
open Go.RowKit Go.Proofs
theorem bs_join9 (a b : Bs) : bs a ++ bs b = bs (a ++ b) := by
 apply ByteArray.ext
 simp [bs]
theorem ren_eq (t : Tr) : renT und t = .mk t.op (renS und t.op t.s) t.n t.line (t.l.map (renT und)) := by
 cases t with | mk o s n i l =>
 rw [renT, renL_map]
 rfl
theorem ren_cases (op : Int) (s : Bs) :
  ((op == 1) = true ∧ renS und op s = und s) ∨ ((op == 1) = false ∧ (op == 30) = true ∧ renS und op s = und s) ∨ ((op == 1) = false ∧ (op == 30) = false ∧ (op == 35) = true ∧ renS und op s = und s) ∨
  ((op == 1) = false ∧ (op == 30) = false ∧ (op == 35) = false ∧ (op == 38) = true ∧ renS und op s = und s) ∨
  ((op == 1) = false ∧ (op == 30) = false ∧ (op == 35) = false ∧ (op == 38) = false ∧ (op == 41) = true ∧ renS und op s = und s) ∨
  ((op == 1) = false ∧ (op == 30) = false ∧ (op == 35) = false ∧ (op == 38) = false ∧ (op == 41) = false ∧ (op == 10) = true ∧ (bs s).toList.isEmpty = false ∧ renS und op s = und s) ∨
  ((op == 1) = false ∧ (op == 30) = false ∧ (op == 35) = false ∧ (op == 38) = false ∧ (op == 41) = false ∧ (op == 10) = true ∧ (bs s).toList.isEmpty = true ∧ renS und op s = s) ∨
  ((op == 1) = false ∧ (op == 30) = false ∧ (op == 35) = false ∧ (op == 38) = false ∧ (op == 41) = false ∧ (op == 10) = false ∧ renS und op s = s) := by
 have he : (bs s).toList.isEmpty = s.isEmpty := by rw [Lib.toList_data, bs_list]
 rw [he]
 unfold renS
 simp only [beq_iff_eq, beq_eq_false_iff_ne, ne_eq]
 by_cases h1 : op = 1
 ·exact .inl ⟨h1, if_pos (by omega)⟩
 refine .inr ?_
 by_cases h2 : op = 30
 ·exact .inl ⟨h1, h2, if_pos (by omega)⟩
 refine .inr ?_
 by_cases h3 : op = 35
 ·exact .inl ⟨h1, h2, h3, if_pos (by omega)⟩
 refine .inr ?_
 by_cases h4 : op = 38
 ·exact .inl ⟨h1, h2, h3, h4, if_pos (by omega)⟩
 refine .inr ?_
 by_cases h5 : op = 41
 ·exact .inl ⟨h1, h2, h3, h4, h5, if_pos (by omega)⟩
 refine .inr ?_
 rw [if_neg (by omega)]
 by_cases h6 : op = 10
 ·cases s with
  | nil => exact .inr (.inl ⟨h1, h2, h3, h4, h5, h6, rfl, if_neg (fun h => h.2 rfl)⟩)
  | cons a r => exact .inl ⟨h1, h2, h3, h4, h5, h6, rfl, if_pos ⟨h6, fun h => by cases h⟩⟩
 ·exact .inr (.inr ⟨h1, h2, h3, h4, h5, h6, if_neg (fun h => h6 h.1)⟩)
theorem renamed_any (t : Tr) : ∀ (v : Value) (w : World) (S : Nat → Prop), TreeAt w S t v → (∀ k, S k → k < w.heap.size) → t.size ≤ 1000000 → (∀ y ∈ t.flat, y.s.length ≤ 140737488355328) →
    Calls Try.prog 14 #[v] w fun e w' => ∃ v', e = .returned v' ∧ TreeAt w' (New w w') ((renT und) t) v' ∧ Below w.heap.size w w' := by
  refine tree_ind (P := fun t => ∀ (v : Value) (w : World) (S : Nat → Prop), TreeAt w S t v → (∀ k, S k → k < w.heap.size) → t.size ≤ 1000000 → (∀ y ∈ t.flat, y.s.length ≤ 140737488355328) → Calls Try.prog 14 #[v] w fun e w' => ∃ v', e = .returned v' ∧ TreeAt w' (New w w') ((renT und) t) v' ∧ Below w.heap.size w w') ?_ t
  clear t
  intro t ih v w S hT hS hz hsh
  obtain ⟨A, c, rfl, hrow, hfine⟩ := hT.form
  have hlen := length_le_sizes t.l
  have hsz := size_eq t
  obtain ⟨A1, c1, e1, hc1, hc2⟩ := hrow.slice
  injection e1 with e2 e3 e4
  subst e2 e4
  have hc3 : c ≤ 9223372036854775807 := hc2
  have HI := Lib.hid ih
  have hl3 : t.l.length ≤ 1000000 := by omega
  have hs0 : t.s.length ≤ 140737488355328 := hsh t (by rw [flat_eq]; exact List.mem_cons_self)
  have hss := Lib.hid (fun (y : Tr) (hy : y ∈ t.l) (z : Tr) (hz : z ∈ y.flat) => hsh z (by rw [flat_eq]; exact List.mem_cons_of_mem _ (good_part hy z hz)))
  obtain ⟨m, hm⟩ : ∃ m, renS und t.op t.s = m := ⟨_, rfl⟩
  have hfm : Fine t.op m t.n := by
    refine ⟨?_, hfine.2⟩
    rw [← hm]
    unfold renS und maxLen
    split
    · simp only [List.length_append, List.length_singleton]; omega
    · split
      · simp only [List.length_append, List.length_singleton]; omega
      · omega
  have hj := bs_join9 t.s [95]
  have hl3 : ¬ (9223372036854775807 < (bs t.s).size + 1) := by rw [bs_size]; omega
  have hrn := ren_cases t.op t.s
  have HR := Lib.hid (And.intro hrow (And.intro hS (And.intro hfm (And.intro hz hsz))))
  have b1 := ((below_alloc9 (w.alloc (.cells #[.int .i64 t.op, .string (bs m), .int .i64 t.n, .slice A t.l.length c, .int .i64 t.line] 24)) (.cells #[.int .i64 0, .string ⟨#[]⟩, .int .i64 0, .slice none 0 0, .int .i64 0] 24)).block w.heap.size (by simp)).trans (heap_alloc_new w (.cells #[.int .i64 t.op, .string (bs m), .int .i64 t.n, .slice A t.l.length c, .int .i64 t.line] 24))
  have b2 := heap_alloc_new (w.alloc (.cells #[.int .i64 t.op, .string (bs m), .int .i64 t.n, .slice A t.l.length c, .int .i64 t.line] 24)) (.cells #[.int .i64 0, .string ⟨#[]⟩, .int .i64 0, .slice none 0 0, .int .i64 0] 24)
  have hb := (below_alloc9 w (.cells #[.int .i64 t.op, .string (bs m), .int .i64 t.n, .slice A t.l.length c, .int .i64 t.line] 24)).alloc (by simp) (.cells #[.int .i64 0, .string ⟨#[]⟩, .int .i64 0, .slice none 0 0, .int .i64 0] 24)
  have hz0 : ((w.alloc (.cells #[.int .i64 t.op, .string (bs m), .int .i64 t.n, .slice A t.l.length c, .int .i64 t.line] 24)).alloc (.cells #[.int .i64 0, .string ⟨#[]⟩, .int .i64 0, .slice none 0 0, .int .i64 0] 24)).heap.size = w.heap.size + 2 := by simp
  rw [World.size_alloc] at b2
  go_enter Try.func14, Try.ntmps14
  have HM := Lib.hid hm
  clear hT ih hrow hS hfine hz hsz hlen hc2 hm hfm hsh hs0
  have HB0 := Lib.hid (And.intro b1 (And.intro b2 (And.intro hb hz0)))
  clear b1 b2 hb hz0
  have HJ := Lib.hid hj
  clear hj
  rcases hrn with ⟨d1, hm2⟩ | ⟨d1, d2, hm2⟩ | ⟨d1, d2, d3, hm2⟩ | ⟨d1, d2, d3, d4, hm2⟩ | ⟨d1, d2, d3, d4, d5, hm2⟩ | ⟨d1, d2, d3, d4, d5, d6, d7, hm2⟩ | ⟨d1, d2, d3, d4, d5, d6, d7, hm2⟩ | ⟨d1, d2, d3, d4, d5, d6, hm2⟩
  all_goals
    have HM2 := Lib.hid hm2
    clear hm2
    go_upto_region 11 with fail
    have hmb : bs t.s ++ bs [95] = bs m ∨ bs t.s = bs m := by
      first
        | exact .inl (by rw [HJ.out, ← HM.out, HM2.out]; rfl)
        | exact .inr (by rw [← HM.out, HM2.out])
    first
      | (have hmc : bs t.s ++ (ByteArray.mk #[95]) = bs m := by rw [show (ByteArray.mk #[95]) = bs [95] from rfl, HJ.out, ← HM.out, HM2.out]; rfl
         rw [hmc]; clear hmc)
      | (have hmc : bs t.s = bs m := by rw [← HM.out, HM2.out]
         rw [hmc]; clear hmc)
    clear hmb HM2
    obtain ⟨b1, b2, hb, hz0⟩ := HB0.out
    obtain ⟨W1, e1⟩ : ∃ W, ((w.alloc (.cells #[.int .i64 t.op, .string (bs m), .int .i64 t.n, .slice A t.l.length c, .int .i64 t.line] 24)).alloc (.cells #[.int .i64 0, .string ⟨#[]⟩, .int .i64 0, .slice none 0 0, .int .i64 0] 24)) = W := ⟨_, rfl⟩
    rw [e1] at b1 b2 hb hz0 ⊢
    clear e1 HB0
    clear d1
    try clear d2
    try clear d3
    try clear d4
    try clear d5
    try clear d6
    try clear d7
  all_goals
    have hz1 := hz0
    have HB := Lib.hid (And.intro b1 (And.intro b2 (And.intro hb hz0)))
    clear b1 b2 hb hz0
    go_wp2_with fail
    go_loopw [3, 4] (fun l i wr => ∃ (k : Nat), k ≤ t.l.length ∧ i = .int .i64 k ∧ AccAt (w.heap.size + 2) wr ((t.l.take k).map (renT und)) l ∧ Below W1.heap.size W1 wr) (fun _ i _ => t.l.length - (intOf i).toNat)
    case atStart => exact ⟨0, Nat.zero_le _, rfl, AccAt.nil _ _, Below.refl _ _⟩
    case round =>
      obtain ⟨k, hk, rfl, hac, hb⟩ := hrel
      obtain ⟨acc, eacc⟩ : ∃ a, (t.l.take k).map (renT und) = a := ⟨_, rfl⟩
      rw [eacc] at hac
      have hal : acc.length = k := by rw [← eacc, List.length_map, List.length_take]; omega
      have EA := Lib.hid (And.intro eacc hal)
      clear eacc hal
      obtain ⟨A0, c0, rfl, -, -⟩ := hac.slice
      have hzr := hb.size
      have b1 := (hb.block w.heap.size (by omega)).trans HB.out.1
      have b2 := (hb.block (w.heap.size + 1) (by omega)).trans HB.out.2.1
      have x0 := cell_of_row wr _ 0 _ _ _ b1
      have x1 := cell_of_row wr _ 1 _ _ _ b1
      have x2 := cell_of_row wr _ 2 _ _ _ b1
      have x3 := cell_of_row wr _ 3 _ _ _ b1
      have x4 := cell_of_row wr _ 4 _ _ _ b1
      simp at x0 x1 x2 x3 x4
      have hbw : Below w.heap.size w wr := HB.out.2.2.1.trans (hb.mono (by omega))
      by_cases hlt : k < t.l.length
      · obtain ⟨g, off, p, A', c', rfl, hSg, hp, hT, y0, y1, y2, y3, y4⟩ := part_get HR.out.1 k hlt
        have hgl := HR.out.2.1 g hSg
        replace y0 := (hbw.cell (p := ⟨g, off + k * 5, none⟩) hgl).trans y0
        replace y1 := (hbw.cell (p := ⟨g, off + k * 5 + 1, none⟩) hgl).trans y1
        replace y2 := (hbw.cell (p := ⟨g, off + k * 5 + 2, none⟩) hgl).trans y2
        replace y3 := (hbw.cell (p := ⟨g, off + k * 5 + 3, none⟩) hgl).trans y3
        replace y4 := (hbw.cell (p := ⟨g, off + k * 5 + 4, none⟩) hgl).trans y4
        have g1 : (k : Int) < t.l.length := by omega
        have hps := size_part (t := t) (List.mem_of_getElem? hp)
        have HC := Lib.hid (HI.out p hps _ wr S (hT.keep (fun _ h => h) fun i hi => hbw.block i (HR.out.2.1 i hi)) (fun i hi => by have := HR.out.2.1 i hi; omega) (by have := HR.out.2.2.2.1; omega) (hss.out p (List.mem_of_getElem? hp)))
        have HK := Lib.hid (And.intro hac (And.intro hb (And.intro hp hzr)))
        clear hac hb hp hps hT hbw b1 b2 hzr
        go_wp2_with fail
        go_at_call 14
        refine HC.out.mono ?_
        rintro e w6 ⟨v6, rfl, t6, hb6⟩
        obtain ⟨A6, c6, rfl, -, -⟩ := t6.form
        have z6 := hb6.size
        have hzk := HK.out.2.2.2
        have hac6 := HK.out.1.fr (Fr.of_below (R := w.heap.size) hb6 (Nat.le_refl _)) (by omega)
        have HP := Lib.hid (AccAt.push (R := w.heap.size) (w := w6) hac6 (HK.out.1.fresh t6 (by omega)) (by have := EA.out.2; omega) (by omega) 22 #[.int .i64 ((renT und) p).op, .string (bs ((renT und) p).s), .int .i64 ((renT und) p).n, .slice A6 ((renT und) p).l.length c6, .int .i64 ((renT und) p).line] rfl)
        have HA6 := Lib.hid (And.intro hac6 hb6)
        clear hac6 hb6 t6 x0 x1 x2 x3 x4 y0 y1 y2 y3 y4
        go_wp2_with (at_builtin; refine wl_app rfl _ _ 22 rfl _ (.slice (some ⟨w6.heap.size, 0, none⟩) 1 1) rfl rfl _ HP.out ?_; rintro u w7 ⟨hacc, hon, A7, c7, rfl⟩; have M7 := Lib.hid (And.intro hacc hon); clear hacc hon)
        clear HP
        go_roundw
        case rel => exact ⟨k + 1, by omega, by go_num, by
          rw [List.take_add_one, HK.out.2.2.1, List.map_append, EA.out.1]
          exact M7.out.1, (HK.out.2.1.trans (HA6.out.2.mono HK.out.2.1.size)).trans (M7.out.2.below (by omega) (fun i hi => by have := (own_blk HA6.out.1 hi).1; omega))⟩
        case measure => simp [intOf]; omega
      · obtain rfl : k = t.l.length := by omega
        have g1 : ¬ (t.l.length : Int) < t.l.length := by omega
        have y0 := cell_of_row wr _ 0 _ _ _ b2
        have y1 := cell_of_row wr _ 1 _ _ _ b2
        have y2 := cell_of_row wr _ 2 _ _ _ b2
        have y3 := cell_of_row wr _ 3 _ _ _ b2
        have y4 := cell_of_row wr _ 4 _ _ _ b2
        have f1 := frozen_of_row wr _ 3 _ _ b1
        have z0 := frozen_of_row wr _ 0 _ _ b2
        have z1 := frozen_of_row wr _ 1 _ _ b2
        have z2 := frozen_of_row wr _ 2 _ _ b2
        have z3 := frozen_of_row wr _ 3 _ _ b2
        have z4 := frozen_of_row wr _ 4 _ _ b2
        simp at y0 y1 y2 y3 y4
        have l1 := heap_lt b1
        have l2 := heap_lt b2
        have eall : acc = t.l.map (renT und) := by rw [← EA.out.1, List.take_of_length_le (Nat.le_refl _)]
        obtain ⟨n0, hn0⟩ : ∃ n0, acc.length = n0 := ⟨_, rfl⟩
        rw [hn0] at hac ⊢
        have EL := Lib.hid eall
        clear eall hn0
        have hF := fin5 (W := wr) (b1 := w.heap.size) (L := .slice A0 n0 c0) (a := .int .i64 t.op) (b := .string (bs m)) (c := .int .i64 t.n) (d := .slice A0 n0 c0) (e := .int .i64 t.line) (by omega) b2
        have hO := fin5_only wr w.heap.size (w.heap.size + 1) (.slice A0 n0 c0) (.int .i64 t.op) (.string (bs m)) (.int .i64 t.n) (.slice A0 n0 c0) (.int .i64 t.line)
        have HF := Lib.hid (And.intro hF (And.intro hO (And.intro hac (And.intro hbw hzr))))
        clear b1 b2 hF hO hac hb hbw hzr
        go_wp2
        obtain ⟨hF, hO, hac, hbw, hzr⟩ := HF.out
        obtain ⟨WF, eF⟩ : ∃ W, ((((((wr.setCell ⟨w.heap.size, 3, none⟩ (.slice A0 n0 c0)).setCell ⟨w.heap.size + 1, 0, none⟩ (.int .i64 t.op)).setCell ⟨w.heap.size + 1, 1, none⟩ (.string (bs m))).setCell ⟨w.heap.size + 1, 2, none⟩ (.int .i64 t.n)).setCell ⟨w.heap.size + 1, 3, none⟩ (.slice A0 n0 c0)).setCell ⟨w.heap.size + 1, 4, none⟩ (.int .i64 t.line)) = W := ⟨_, rfl⟩
        rw [eF] at hF hO ⊢
        have r0 := cell_of_row WF _ 0 _ _ _ hF
        have r1 := cell_of_row WF _ 1 _ _ _ hF
        have r2 := cell_of_row WF _ 2 _ _ _ hF
        have r3 := cell_of_row WF _ 3 _ _ _ hF
        have r4 := cell_of_row WF _ 4 _ _ _ hF
        simp at r0 r1 r2 r3 r4
        refine bodyPost_ret (v := .agg #[.int .i64 t.op, .string (bs m), .int .i64 t.n, .slice A0 n0 c0, .int .i64 t.line]) (by simp [results, Try.results14, go_sem, r0, r1, r2, r3, r4]) rfl ⟨_, rfl, ?_, ?_⟩
        · rw [ren_eq, HM.out, ← EL.out]
          exact TreeAt.mk (hac.row.keep (fun i hi => ⟨by omega, by have := hO.size; omega⟩) (fun i hi => hO.block i hi.2 (by rintro (e | e) <;> omega))) HR.out.2.2.1
        · exact hbw.trans (hO.below hbw.size (fun i hi => by rcases hi with rfl | rfl <;> omega))
end
section
open Go.RowKit Go.Proofs
theorem nos_get {w : World} {B : Nat} {u : Value} {ns : List Int} (h : w.ownsRow B 2 1 u ns.length (nosV ns)) (k : Nat) (hk : k < ns.length) :
  ∃ g c, u = .slice (some ⟨g, 0, none⟩) ns.length c ∧ w.cell? ⟨g, k, none⟩ = some (.int .i64 (ns[k]'hk)) := by
 rcases h.2 with ⟨e, h0⟩ | ⟨g, cap, cur, rfl, k1, k2, k3⟩
 ·have := nosV_len ns
  rw [h0] at this
  simp at this
  omega
 ·refine ⟨g, cap, rfl, ?_⟩
  rw [World.ownsRow.cellAt h k (by omega), nosV, List.getElem?_map, List.getElem?_eq_getElem hk]
  rfl
theorem names_any (t : Tr) (v : Value) (w : World) (ht : At w w.heap.size t v) (hsh : ∀ y ∈ t.flat, y.s.length ≤ 140737488355328) : Calls Try.prog 5 #[v] w fun e w' => e = .returned (.bool true) ∧ Below w.heap.size w w' := by
 obtain ⟨A, c, rfl, -, -⟩ := (TreeAt.of_at ht).form
 have hat : ∀ w', Below w.heap.size w w' → At w' w'.heap.size t (.agg #[.int .i64 t.op, .string (bs t.s), .int .i64 t.n, .slice A t.l.length c, .int .i64 t.line]) := fun w' hb => At.keep t ht hb.size fun p hp => hb.cell hp
 have HAt := Lib.hid hat
 have HSh := Lib.hid hsh
 clear hat ht hsh
 go_enter Try.func5, Try.ntmps5
 have hal := below_alloc9 w (.cells #[.int .i64 t.op, .string (bs t.s), .int .i64 t.n, .slice A t.l.length c, .int .i64 t.line] 24)
 have hbx := heap_alloc_new w (.cells #[.int .i64 t.op, .string (bs t.s), .int .i64 t.n, .slice A t.l.length c, .int .i64 t.line] 24)
 obtain ⟨N, eN⟩ : ∃ N, w.heap.size = N := ⟨_, rfl⟩
 have H0 := Lib.hid (And.intro hal hbx)
 clear hal hbx
 go_wp2_with fail
 go_at_call 6
 refine (shown_any _).mono ?_
 rintro e w1 ⟨rfl, hb1⟩
 have hbx1 := (hb1.block w.heap.size (by simp)).trans H0.out.2
 have hw1 : Below w.heap.size w w1 := H0.out.1.trans (hb1.mono (by simp))
 rw [eN] at hbx1
 obtain ⟨x0, x1, x2, x3, x4⟩ := (box_facts hbx1).1
 have H1 := Lib.hid (And.intro hw1 hbx1)
 clear hb1 hbx1 hw1 H0
 go_wp2_with fail
 go_at_call 13
 refine (rright_all t _ w1 (HAt.out w1 H1.out.1)).mono ?_
 rintro e w1' ⟨rfl, hb1'⟩
 have hbx1' := (hb1'.block N (heap_lt H1.out.2)).trans H1.out.2
 have hw1' : Below w.heap.size w w1' := H1.out.1.trans (hb1'.mono H1.out.1.size)
 have H1' := Lib.hid (And.intro hw1' hbx1')
 clear hb1' hbx1' hw1' x0 x1 x2 x3 x4 H1
 obtain ⟨x0, x1, x2, x3, x4⟩ := (box_facts H1'.out.2).1
 obtain ⟨rb, hrb⟩ : ∃ rb, rightP t = rb := ⟨_, rfl⟩
 rw [hrb]
 have HRb := Lib.hid hrb
 clear hrb
 go_wp2_with fail
 go_at_call 7
 refine (small_any t _ w1' (HAt.out w1' H1'.out.1)).mono ?_
 rintro e w2 ⟨rfl, hb2⟩
 have hbx2 := (hb2.block N (heap_lt H1'.out.2)).trans H1'.out.2
 have hw2 : Below w.heap.size w w2 := H1'.out.1.trans (hb2.mono H1'.out.1.size)
 have H2 := Lib.hid (And.intro hw2 hbx2)
 clear hb2 hbx2 hw2 x0 x1 x2 x3 x4 H1'
 obtain ⟨y0, y1, y2, y3, y4⟩ := (box_facts H2.out.2).1
 by_cases hz : t.size ≤ 1500
 case neg =>
  rw [if_neg hz]
  cases rb with
  | true =>
   go_wp2
   go_ret
   exact ⟨rfl, H2.out.1⟩
  | false =>
   go_wp2
   go_ret
   exact ⟨rfl, H2.out.1⟩
 rw [if_pos hz]
 cases rb with
 | false =>
  go_wp2
  go_ret
  exact ⟨rfl, H2.out.1⟩
 | true =>
 go_wp2_with fail
 go_at_call 8
 refine (resout_any t _ w2 (fun k => k < w2.heap.size) (TreeAt.of_at (HAt.out w2 H2.out.1)) (fun _ h => h) (by omega)).mono ?_
 rintro e w3 ⟨fv, qv, rfl, hF, hT, hb3⟩
 have hw3 : Below w.heap.size w w3 := H2.out.1.trans (hb3.mono H2.out.1.size)
 have hout := resOut_ren t HRb.out
 have hqz := resOut_size t hz
 have hqz2 := resOut_size (renT und t) (by rw [ren_size]; exact hz)
 obtain ⟨X, hX⟩ : ∃ X, resOut t = X := ⟨_, rfl⟩
 obtain ⟨Y, hY⟩ : ∃ Y, resOut (renT und t) = Y := ⟨_, rfl⟩
 rw [hX] at hF hT hout hqz ⊢
 rw [hY] at hout hqz2
 obtain ⟨fs, q, li, er⟩ := X
 obtain ⟨fs2, q2, li2, er2⟩ := Y
 obtain ⟨hno, e2⟩ : nosT q2 = nosT q ∧ (li2, er2) = (li, er) := hout
 injection e2 with e2 e3
 subst e2 e3
 simp only at hF hT hqz hqz2 ⊢
 obtain ⟨Af0, cf0, rfl, -, -⟩ := hF.form
 obtain ⟨Aq, cq, rfl, -, -⟩ := hT.form
 have hbP3 := (hb3.block N (heap_lt H2.out.2)).trans H2.out.2
 have hal4 := below_alloc9 w3 (.cells #[.int .i64 q.op, .string (bs q.s), .int .i64 q.n, .slice Aq q.l.length cq, .int .i64 q.line] 24)
 have hbx4 := heap_alloc_new w3 (.cells #[.int .i64 q.op, .string (bs q.s), .int .i64 q.n, .slice Aq q.l.length cq, .int .i64 q.line] 24)
 obtain ⟨w4, e4⟩ : ∃ w4, w3.alloc (.cells #[.int .i64 q.op, .string (bs q.s), .int .i64 q.n, .slice Aq q.l.length cq, .int .i64 q.line] 24) = w4 := ⟨_, rfl⟩
 rw [e4] at hal4 hbx4
 have hbP4 := (hal4.block N (heap_lt hbP3)).trans hbP3
 have hw4 : Below w.heap.size w w4 := hw3.trans (hal4.mono hw3.size)
 have hT4 : TreeAt w4 (fun k => k < w4.heap.size) q (.agg #[.int .i64 q.op, .string (bs q.s), .int .i64 q.n, .slice Aq q.l.length cq, .int .i64 q.line]) := hT.keep (fun k hk => by have := hk.2; have := hal4.size; omega) (fun k hk => hal4.block k hk.2)
 have HLn := Lib.hid (renamed_any t _ w4 (fun k => k < w4.heap.size) (TreeAt.of_at (HAt.out w4 hw4)) (fun k hk => hk) (by omega) HSh.out)
 have hsm : (renT und t).size ≤ 40000 := by rw [ren_size]; omega
 have H4 := Lib.hid (And.intro hw4 (And.intro hbP4 (And.intro hbx4 (And.intro hT4 (And.intro hno (And.intro hqz (And.intro hqz2 (And.intro hsm (And.intro hY e4)))))))))
 obtain ⟨p0, p1, p2, p3, p4⟩ := (box_facts hbP4).1
 clear hw3 hal4 hbx4 hbP3 hbP4 hF hT hT4 hw4 hb3 y0 y1 y2 y3 y4 H2 e4 hz hsm hno hqz hqz2 hX hY
 go_upto_region 6 with fail
 rw [H4.out.2.2.2.2.2.2.2.2.2]
 go_wp2_with fail
 go_at_call 14
 refine HLn.out.mono ?_
 rintro e w5 ⟨lv, rfl, ht5, hb5⟩
 have hRs := resout_any (renT und t) lv w5 (New w4 w5) ht5 (fun k hk => hk.2) H4.out.2.2.2.2.2.2.2.1
 rw [H4.out.2.2.2.2.2.2.2.2.1] at hRs
 have HRs := Lib.hid hRs
 have H5 := Lib.hid hb5
 obtain ⟨A5, c5, rfl, -, -⟩ := ht5.form
 clear hRs hb5 ht5 p0 p1 p2 p3 p4
 go_wp2_with fail
 go_at_call 8
 refine HRs.out.mono ?_
 rintro e w6 ⟨gv, rv, rfl, hF6, hT6, hb6⟩
 obtain ⟨Ag0, cg0, rfl, -, -⟩ := hF6.form
 obtain ⟨Ar, cr, rfl, -, -⟩ := hT6.form
 have hal7 := below_alloc9 w6 (.cells #[.int .i64 q2.op, .string (bs q2.s), .int .i64 q2.n, .slice Ar q2.l.length cr, .int .i64 q2.line] 24)
 have hbx7 := heap_alloc_new w6 (.cells #[.int .i64 q2.op, .string (bs q2.s), .int .i64 q2.n, .slice Ar q2.l.length cr, .int .i64 q2.line] 24)
 obtain ⟨w7, e7⟩ : ∃ w7, w6.alloc (.cells #[.int .i64 q2.op, .string (bs q2.s), .int .i64 q2.n, .slice Ar q2.l.length cr, .int .i64 q2.line] 24) = w7 := ⟨_, rfl⟩
 rw [e7] at hal7 hbx7
 have hb47 : Below w4.heap.size w4 w7 := (H5.out.trans (hb6.mono H5.out.size)).trans (hal7.mono (by have := H5.out.size; have := hb6.size; omega))
 have hbx47 := (hb47.block w3.heap.size (heap_lt H4.out.2.2.1)).trans H4.out.2.2.1
 have hT47 : TreeAt w7 (fun k => k < w7.heap.size) q (.agg #[.int .i64 q.op, .string (bs q.s), .int .i64 q.n, .slice Aq q.l.length cq, .int .i64 q.line]) := H4.out.2.2.2.1.keep (fun k hk => by have := hb47.size; omega) (fun k hk => hb47.block k hk)
 have hT7 : TreeAt w7 (fun k => k < w7.heap.size) q2 (.agg #[.int .i64 q2.op, .string (bs q2.s), .int .i64 q2.n, .slice Ar q2.l.length cr, .int .i64 q2.line]) := hT6.keep (fun k hk => by have := hk.2; have := hal7.size; omega) (fun k hk => hal7.block k hk.2)
 have hqz := H4.out.2.2.2.2.2.1
 have hqz2 := H4.out.2.2.2.2.2.2.1
 have HN1 := Lib.hid (numbers_any q _ (.slice none 0 0) w7 (fun k => k < w7.heap.size) w7.heap.size [] hT47 (fun k hk => hk) (Nat.le_refl _) (World.ownsRow_nil _ _ _ _) (by simp; omega))
 have HN2 := Lib.hid (fun (w8 : World) (hb8 : Below w7.heap.size w7 w8) => numbers_any q2 _ (.slice none 0 0) w8 (fun k => k < w7.heap.size) w8.heap.size [] (hT7.keep (fun _ h => h) (fun k hk => hb8.block k hk)) (fun k hk => by have := hb8.size; omega) (Nat.le_refl _) (World.ownsRow_nil _ _ _ _) (by simp; omega))
 have H7 := Lib.hid (And.intro (H4.out.1.trans (hb47.mono H4.out.1.size)) (And.intro hbx47 (And.intro hbx7 e7)))
 obtain ⟨p0, p1, p2, p3, p4⟩ := (box_facts hbx47).1
 clear hal7 hbx7 hb47 hbx47 hT47 hT7 hF6 hT6 hb6 e7 hqz hqz2 HAt
 go_upto_region 7 with fail
 rw [H7.out.2.2.2]
 go_wp2_with fail
 go_at_call 15
 refine HN1.out.mono ?_
 rintro e w8 ⟨u8, rfl, hn8⟩
 have hb8 : Below w7.heap.size w7 w8 := hn8.below (ns2 := []) (World.ownsRow_nil _ _ _ _) (Nat.le_refl _)
 have HN := Lib.hid (HN2.out w8 hb8)
 have hbr8 := (hb8.block w6.heap.size (heap_lt H7.out.2.2.1)).trans H7.out.2.2.1
 have H8 := Lib.hid (And.intro hn8 hb8)
 clear hn8 hb8 p0 p1 p2 p3 p4
 obtain ⟨y0, y1, y2, y3, y4⟩ := (box_facts hbr8).1
 clear hbr8
 go_wp2_with fail
 go_at_call 15
 refine HN.out.mono ?_
 rintro e w9 ⟨u9, rfl, hn9⟩
 have hb9 : Below w8.heap.size w8 w9 := hn9.below (ns2 := []) (World.ownsRow_nil _ _ _ _) (Nat.le_refl _)
 have hr8 : w9.ownsRow w7.heap.size 2 1 u8 (nosT q).length (nosV (nosT q)) := rowBelow8 (by have := H8.out.1.row; simpa using this) hb9
 have hr9 : w9.ownsRow w8.heap.size 2 1 u9 (nosT q).length (nosV (nosT q)) := by have := hn9.row; rw [H4.out.2.2.2.2.1] at this; simpa using this
 have hbw : Below w.heap.size w w9 := (H7.out.1.trans (H8.out.2.mono H7.out.1.size)).trans (hb9.mono (by have := H7.out.1.size; have := H8.out.2.size; omega))
 obtain ⟨xs, hxs⟩ : ∃ xs, nosT q = xs := ⟨_, rfl⟩
 rw [hxs] at hr8 hr9
 obtain ⟨A8, c8, rfl, -, -⟩ := row_slice (row_zero hr8)
 obtain ⟨A9, c9, rfl, -, hc9⟩ := row_slice (row_zero hr9)
 have hxl : xs.length ≤ 100000 := by
  have h1 := nos_len q
  have h2 := H4.out.2.2.2.2.2.1
  rw [← hxs]
  omega
 have H9 := Lib.hid (And.intro hr8 (And.intro hr9 hbw))
 clear hn9 hb9 hr8 hr9 hbw hxs hc9 y0 y1 y2 y3 y4 HN HN2 HN1 HLn HRs HSh H8 H7 H5 H4
 go_wp2_with fail
 go_loopw [15] (fun i wr => ∃ k : Nat, k ≤ xs.length ∧ i = .int .i64 k ∧ Below w9.heap.size w9 wr) (fun i _ => xs.length - (intOf i).toNat)
 case atStart => exact ⟨0, Nat.zero_le _, rfl, Below.refl _ _⟩
 case round =>
  obtain ⟨k, hk, rfl, hb⟩ := hrel
  have HB := Lib.hid hb
  by_cases hlt : k < xs.length
  ·have g1 : (k : Int) < xs.length := by omega
   obtain ⟨g8, d8, e8, z8⟩ := nos_get (rowBelow8 H9.out.1 hb) k hlt
   obtain ⟨g9, d9, e9, z9⟩ := nos_get (rowBelow8 H9.out.2.1 hb) k hlt
   injection e8 with e8 ex8 ey8
   injection e9 with e9 ex9 ey9
   subst e8 e9
   obtain ⟨x, hx⟩ : ∃ x, xs[k] = x := ⟨_, rfl⟩
   rw [hx] at z8 z9
   clear hb hx ex8 ey8 ex9 ey9
   go_wp2_with fail
   go_quiet (fail)
   go_wp2
   go_roundw
   case rel => exact ⟨k + 1, by omega, by go_num, below_drewN HB.out nq⟩
   case measure => simp [intOf]; omega
  ·have g1 : ¬ (k : Int) < xs.length := by omega
   clear hb
   go_wp2
   go_ret
   exact ⟨rfl, by rw [← eN]; exact H9.out.2.2.trans (HB.out.mono H9.out.2.2.size)⟩
end
end Go.Proofs.Ytbpodijcndglgaa
