/- gumshoelaw05.bare. gumshoeref03.Same at trees that are alike but for their lines. gumshoeref04.SameAt at one tree twice. A good tree has no numbers but those of numbers. No program. The law ScopeSame: its walk. The law ScopeSame: whatever the input, the call returns true and leaves what was there as it was. -/
import Derived.StillTailTactics
import Derived.Deep.RegionHeld3
import Derived.BigQuiet
import Derived.Test.YtejbdoiamhfbjaaPm51
set_option linter.unusedSimpArgs false
set_option linter.unusedVariables false
namespace Go.Proofs.Ytejbdoiamhfbjaa
open Go.RowKit Go.Proofs
mutual
def Tr.norm : Tr → Tr
  | .mk o s n _ l => .mk o s n 0 (norms l)
def norms : List Tr → List Tr
  | [] => []
  | t :: r => t.norm :: norms r
end
theorem norm_mk (o : Int) (x : Bs) (k i : Int) (l : List Tr) : (Tr.mk o x k i l).norm = .mk o x k 0 (norms l) := by rw [Tr.norm]
theorem norms_map : ∀ l, norms l = l.map Tr.norm
  | [] => by rw [norms]; rfl
  | t :: r => by rw [norms, norms_map r]; rfl
end Go.Proofs.Ytejbdoiamhfbjaa
namespace Go.Proofs.Ytejbdoiamhfbjaa
open Go.RowKit Go.Proofs
theorem bareL_map : ∀ l : List Tr, bareL l = l.map bareT
  | [] => by rw [bareL]; rfl
  | t :: r => by rw [bareL, bareL_map r]; rfl
theorem bare_eq (t : Tr) : bareT t = .mk t.op t.s (if t.op = 2 then t.n else 0) t.line (t.l.map bareT) := by
  cases t with | mk o s n i l =>
  rw [bareT, bareL_map]
  rfl
set_option maxRecDepth 100000 in
set_option maxHeartbeats 4000000 in
theorem bare_any (t : Tr) : ∀ (v : Value) (w : World) (S : Nat → Prop), TreeAt w S t v → (∀ k, S k → k < w.heap.size) → t.size ≤ 1000000 →
    Calls Try.prog 19 #[v] w fun e w' => ∃ v', e = .returned v' ∧ TreeAt w' (New w w') (bareT t) v' ∧ Below w.heap.size w w' := by
  refine tree_ind (P := fun t => ∀ (v : Value) (w : World) (S : Nat → Prop), TreeAt w S t v → (∀ k, S k → k < w.heap.size) → t.size ≤ 1000000 → Calls Try.prog 19 #[v] w fun e w' => ∃ v', e = .returned v' ∧ TreeAt w' (New w w') (bareT t) v' ∧ Below w.heap.size w w') ?_ t
  clear t
  intro t ih v w S hT hS hz
  obtain ⟨A, c, rfl, hrow, hfine⟩ := hT.form
  have hlen := length_le_sizes t.l
  have hsz := size_eq t
  obtain ⟨A1, c1, e1, hc1, hc2⟩ := hrow.slice
  injection e1 with e2 e3 e4
  subst e2 e4
  have hc3 : c ≤ 9223372036854775807 := hc2
  have HI := Lib.hid ih
  have hl3 : t.l.length ≤ 1000000 := by omega
  obtain ⟨m, hm⟩ : ∃ m, (if t.op = 2 then t.n else 0) = m := ⟨_, rfl⟩
  have hfm : Fine t.op t.s m := by
    rw [← hm]
    split
    · exact hfine
    · exact ⟨hfine.1, hfine.2.1, by omega⟩
  have HR := Lib.hid (And.intro hrow (And.intro hS (And.intro hfm (And.intro hz hsz))))
  have b1 := ((below_alloc9 (w.alloc (.cells #[.int .i64 t.op, .string (bs t.s), .int .i64 m, .slice A t.l.length c, .int .i64 t.line] 24)) (.cells #[.int .i64 0, .string ⟨#[]⟩, .int .i64 0, .slice none 0 0, .int .i64 0] 24)).block w.heap.size (by simp)).trans (heap_alloc_new w (.cells #[.int .i64 t.op, .string (bs t.s), .int .i64 m, .slice A t.l.length c, .int .i64 t.line] 24))
  have b2 := heap_alloc_new (w.alloc (.cells #[.int .i64 t.op, .string (bs t.s), .int .i64 m, .slice A t.l.length c, .int .i64 t.line] 24)) (.cells #[.int .i64 0, .string ⟨#[]⟩, .int .i64 0, .slice none 0 0, .int .i64 0] 24)
  have hb := (below_alloc9 w (.cells #[.int .i64 t.op, .string (bs t.s), .int .i64 m, .slice A t.l.length c, .int .i64 t.line] 24)).alloc (by simp) (.cells #[.int .i64 0, .string ⟨#[]⟩, .int .i64 0, .slice none 0 0, .int .i64 0] 24)
  have hz0 : ((w.alloc (.cells #[.int .i64 t.op, .string (bs t.s), .int .i64 m, .slice A t.l.length c, .int .i64 t.line] 24)).alloc (.cells #[.int .i64 0, .string ⟨#[]⟩, .int .i64 0, .slice none 0 0, .int .i64 0] 24)).heap.size = w.heap.size + 2 := by simp
  rw [World.size_alloc] at b2
  go_enter Try.func19, Try.ntmps19
  have HM := Lib.hid hm
  clear hT ih hrow hS hfine hz hsz hlen hc2 hm hfm
  by_cases h2 : t.op = 2
  case' pos =>
    have d2 : (t.op != 2) = false := by rw [h2]; rfl
    have hm2 : t.n = m := by rw [← HM.out, if_pos h2]
    rw [hm2]
    have HB0 := Lib.hid (And.intro b1 (And.intro b2 (And.intro hb hz0)))
    clear b1 b2 hb hz0 h2 hm2
    go_upto_region 3 with fail
    obtain ⟨b1, b2, hb, hz0⟩ := HB0.out
    obtain ⟨W1, e1⟩ : ∃ W, ((w.alloc (.cells #[.int .i64 t.op, .string (bs t.s), .int .i64 m, .slice A t.l.length c, .int .i64 t.line] 24)).alloc (.cells #[.int .i64 0, .string ⟨#[]⟩, .int .i64 0, .slice none 0 0, .int .i64 0] 24)) = W := ⟨_, rfl⟩
    rw [e1] at b1 b2 hb hz0 ⊢
    clear d2 e1 HB0
  case' neg =>
    have d2 : (t.op != 2) = true := by rw [bne_iff_ne]; exact h2
    have hm2 := Lib.hid (show m = 0 by rw [← HM.out, if_neg h2])
    have HB0 := Lib.hid (And.intro b1 (And.intro b2 (And.intro hb hz0)))
    clear b1 b2 hb hz0 h2
    go_upto_region 3 with fail
    rw [show ((w.alloc (.cells #[.int .i64 t.op, .string (bs t.s), .int .i64 0, .slice A t.l.length c, .int .i64 t.line] 24)).alloc (.cells #[.int .i64 0, .string ⟨#[]⟩, .int .i64 0, .slice none 0 0, .int .i64 0] 24)) = ((w.alloc (.cells #[.int .i64 t.op, .string (bs t.s), .int .i64 m, .slice A t.l.length c, .int .i64 t.line] 24)).alloc (.cells #[.int .i64 0, .string ⟨#[]⟩, .int .i64 0, .slice none 0 0, .int .i64 0] 24)) by rw [hm2.out]]
    obtain ⟨b1, b2, hb, hz0⟩ := HB0.out
    obtain ⟨W1, e1⟩ : ∃ W, ((w.alloc (.cells #[.int .i64 t.op, .string (bs t.s), .int .i64 m, .slice A t.l.length c, .int .i64 t.line] 24)).alloc (.cells #[.int .i64 0, .string ⟨#[]⟩, .int .i64 0, .slice none 0 0, .int .i64 0] 24)) = W := ⟨_, rfl⟩
    rw [e1] at b1 b2 hb hz0 ⊢
    clear d2 e1 HB0 hm2
  all_goals
    have hz1 := hz0
    have HB := Lib.hid (And.intro b1 (And.intro b2 (And.intro hb hz0)))
    clear b1 b2 hb hz0
    go_wp2_with fail
    go_loopw [3, 4] (fun l i wr => ∃ (k : Nat), k ≤ t.l.length ∧ i = .int .i64 k ∧ AccAt (w.heap.size + 2) wr ((t.l.take k).map bareT) l ∧ Below W1.heap.size W1 wr) (fun _ i _ => t.l.length - (intOf i).toNat)
    case atStart => exact ⟨0, Nat.zero_le _, rfl, AccAt.nil _ _, Below.refl _ _⟩
    case round =>
      obtain ⟨k, hk, rfl, hac, hb⟩ := hrel
      obtain ⟨acc, eacc⟩ : ∃ a, (t.l.take k).map bareT = a := ⟨_, rfl⟩
      rw [eacc] at hac
      have hal : acc.length = k := by rw [← eacc, List.length_map, List.length_take]; omega
      have EA := Lib.hid (And.intro eacc hal)
      clear eacc hal
      obtain ⟨A0, c0, rfl, -, -⟩ := hac.slice
      have hzr := hb.size
      have b1 := (hb.block w.heap.size (by omega)).trans HB.out.1
      have b2 := (hb.block (w.heap.size + 1) (by omega)).trans HB.out.2.1
      have x0 := cell_of_row wr _ 0 _ _ _ b1
      have x1 := cell_of_row wr _ 1 _ _ _ b1
      have x2 := cell_of_row wr _ 2 _ _ _ b1
      have x3 := cell_of_row wr _ 3 _ _ _ b1
      have x4 := cell_of_row wr _ 4 _ _ _ b1
      simp at x0 x1 x2 x3 x4
      have hbw : Below w.heap.size w wr := HB.out.2.2.1.trans (hb.mono (by omega))
      by_cases hlt : k < t.l.length
      · obtain ⟨g, off, p, A', c', rfl, hSg, hp, hT, y0, y1, y2, y3, y4⟩ := part_get HR.out.1 k hlt
        have hgl := HR.out.2.1 g hSg
        replace y0 := (hbw.cell (p := ⟨g, off + k * 5, none⟩) hgl).trans y0
        replace y1 := (hbw.cell (p := ⟨g, off + k * 5 + 1, none⟩) hgl).trans y1
        replace y2 := (hbw.cell (p := ⟨g, off + k * 5 + 2, none⟩) hgl).trans y2
        replace y3 := (hbw.cell (p := ⟨g, off + k * 5 + 3, none⟩) hgl).trans y3
        replace y4 := (hbw.cell (p := ⟨g, off + k * 5 + 4, none⟩) hgl).trans y4
        have g1 : (k : Int) < t.l.length := by omega
        have hps := size_part (t := t) (List.mem_of_getElem? hp)
        have HC := Lib.hid (HI.out p hps _ wr S (hT.keep (fun _ h => h) fun i hi => hbw.block i (HR.out.2.1 i hi)) (fun i hi => by have := HR.out.2.1 i hi; omega) (by have := HR.out.2.2.2.1; omega))
        have HK := Lib.hid (And.intro hac (And.intro hb (And.intro hp hzr)))
        clear hac hb hp hps hT hbw b1 b2 hzr
        go_wp2_with fail
        go_at_call 19
        refine HC.out.mono ?_
        rintro e w6 ⟨v6, rfl, t6, hb6⟩
        obtain ⟨A6, c6, rfl, -, -⟩ := t6.form
        have z6 := hb6.size
        have hzk := HK.out.2.2.2
        have hac6 := HK.out.1.fr (Fr.of_below (R := w.heap.size) hb6 (Nat.le_refl _)) (by omega)
        have HP := Lib.hid (AccAt.push (R := w.heap.size) (w := w6) hac6 (HK.out.1.fresh t6 (by omega)) (by have := EA.out.2; omega) (by omega) 22 #[.int .i64 (bareT p).op, .string (bs (bareT p).s), .int .i64 (bareT p).n, .slice A6 (bareT p).l.length c6, .int .i64 (bareT p).line] rfl)
        have HA6 := Lib.hid (And.intro hac6 hb6)
        clear hac6 hb6 t6 x0 x1 x2 x3 x4 y0 y1 y2 y3 y4
        go_wp2_with (at_builtin; refine wl_app rfl _ _ 22 rfl _ (.slice (some ⟨w6.heap.size, 0, none⟩) 1 1) rfl rfl _ HP.out ?_; rintro u w7 ⟨hacc, hon, A7, c7, rfl⟩; have M7 := Lib.hid (And.intro hacc hon); clear hacc hon)
        clear HP
        go_roundw
        case rel => exact ⟨k + 1, by omega, by go_num, by
          rw [List.take_add_one, HK.out.2.2.1, List.map_append, EA.out.1]
          exact M7.out.1, (HK.out.2.1.trans (HA6.out.2.mono HK.out.2.1.size)).trans (M7.out.2.below (by omega) (fun i hi => by have := (own_blk HA6.out.1 hi).1; omega))⟩
        case measure => simp [intOf]; omega
      · obtain rfl : k = t.l.length := by omega
        have g1 : ¬ (t.l.length : Int) < t.l.length := by omega
        have y0 := cell_of_row wr _ 0 _ _ _ b2
        have y1 := cell_of_row wr _ 1 _ _ _ b2
        have y2 := cell_of_row wr _ 2 _ _ _ b2
        have y3 := cell_of_row wr _ 3 _ _ _ b2
        have y4 := cell_of_row wr _ 4 _ _ _ b2
        have f1 := frozen_of_row wr _ 3 _ _ b1
        have z0 := frozen_of_row wr _ 0 _ _ b2
        have z1 := frozen_of_row wr _ 1 _ _ b2
        have z2 := frozen_of_row wr _ 2 _ _ b2
        have z3 := frozen_of_row wr _ 3 _ _ b2
        have z4 := frozen_of_row wr _ 4 _ _ b2
        simp at y0 y1 y2 y3 y4
        have l1 := heap_lt b1
        have l2 := heap_lt b2
        have eall : acc = t.l.map bareT := by rw [← EA.out.1, List.take_of_length_le (Nat.le_refl _)]
        obtain ⟨n0, hn0⟩ : ∃ n0, acc.length = n0 := ⟨_, rfl⟩
        rw [hn0] at hac ⊢
        have EL := Lib.hid eall
        clear eall hn0
        have hF := fin5 (W := wr) (b1 := w.heap.size) (L := .slice A0 n0 c0) (a := .int .i64 t.op) (b := .string (bs t.s)) (c := .int .i64 m) (d := .slice A0 n0 c0) (e := .int .i64 t.line) (by omega) b2
        have hO := fin5_only wr w.heap.size (w.heap.size + 1) (.slice A0 n0 c0) (.int .i64 t.op) (.string (bs t.s)) (.int .i64 m) (.slice A0 n0 c0) (.int .i64 t.line)
        have HF := Lib.hid (And.intro hF (And.intro hO (And.intro hac (And.intro hbw hzr))))
        clear b1 b2 hF hO hac hb hbw hzr
        go_wp2
        obtain ⟨hF, hO, hac, hbw, hzr⟩ := HF.out
        obtain ⟨WF, eF⟩ : ∃ W, ((((((wr.setCell ⟨w.heap.size, 3, none⟩ (.slice A0 n0 c0)).setCell ⟨w.heap.size + 1, 0, none⟩ (.int .i64 t.op)).setCell ⟨w.heap.size + 1, 1, none⟩ (.string (bs t.s))).setCell ⟨w.heap.size + 1, 2, none⟩ (.int .i64 m)).setCell ⟨w.heap.size + 1, 3, none⟩ (.slice A0 n0 c0)).setCell ⟨w.heap.size + 1, 4, none⟩ (.int .i64 t.line)) = W := ⟨_, rfl⟩
        rw [eF] at hF hO ⊢
        have r0 := cell_of_row WF _ 0 _ _ _ hF
        have r1 := cell_of_row WF _ 1 _ _ _ hF
        have r2 := cell_of_row WF _ 2 _ _ _ hF
        have r3 := cell_of_row WF _ 3 _ _ _ hF
        have r4 := cell_of_row WF _ 4 _ _ _ hF
        simp at r0 r1 r2 r3 r4
        refine bodyPost_ret (v := .agg #[.int .i64 t.op, .string (bs t.s), .int .i64 m, .slice A0 n0 c0, .int .i64 t.line]) (by simp [results, Try.results19, go_sem, r0, r1, r2, r3, r4]) rfl ⟨_, rfl, ?_, ?_⟩
        · rw [bare_eq, HM.out, ← EL.out]
          exact TreeAt.mk (hac.row.keep (fun i hi => ⟨by omega, by have := hO.size; omega⟩) (fun i hi => hO.block i hi.2 (by rintro (e | e) <;> omega))) HR.out.2.2.1
        · exact hbw.trans (hO.below hbw.size (fun i hi => by rcases hi with rfl | rfl <;> omega))
end Go.Proofs.Ytejbdoiamhfbjaa
namespace Go.Proofs.Ytejbdoiamhfbjaa
open Go.RowKit Go.Proofs
set_option maxRecDepth 100000 in
set_option maxHeartbeats 4000000 in
theorem rsame_like (a : Tr) : ∀ (b : Tr) (va vb : Value) (w : World), a.norm = b.norm → At w w.heap.size a va → At w w.heap.size b vb →
    Calls Try.prog 18 #[va, vb] w fun e w' => e = .returned (.bool true) ∧ Below w.heap.size w w' := by
  refine tree_ind (P := fun a => ∀ (b : Tr) (va vb : Value) (w : World), a.norm = b.norm → At w w.heap.size a va → At w w.heap.size b vb → Calls Try.prog 18 #[va, vb] w fun e w' => e = .returned (.bool true) ∧ Below w.heap.size w w') ?_ a
  clear a
  intro a ih b va vb w heq ha hb
  have IH := Lib.hid ih
  clear ih
  rw [At_iff] at ha hb
  obtain ⟨ua, rfl, ⟨A, ca, rfl, hca, ha⟩, hsa⟩ := ha
  obtain ⟨ub, rfl, ⟨B, cb, rfl, hcb, hb⟩, hsb⟩ := hb
  have HA := Lib.hid ha
  have HB := Lib.hid hb
  have h9 : a.op = b.op ∧ a.s = b.s ∧ a.n = b.n ∧ a.l.map Tr.norm = b.l.map Tr.norm := by
    cases a
    cases b
    rw [norm_mk, norm_mk, norms_map, norms_map] at heq
    injection heq with q1 q2 q3 q4 q5
    exact ⟨q1, q2, q3, q5⟩
  obtain ⟨h1, h2, h3, hmap⟩ := h9
  have h4 : a.l.length = b.l.length := by simpa using congrArg List.length hmap
  have IH := Lib.hid (fun u (hu : u ∈ a.l) => IH.out u (size_part hu))
  have hpt : ∀ (k : Nat) x y, a.l[k]? = some x → b.l[k]? = some y → x.norm = y.norm := fun k x y hx hy => by
    have := congrArg (·[k]?) hmap
    simpa [hx, hy] using this
  unfold nodeV
  rw [← h4] at HB hcb ⊢
  rw [← h1, ← h2, ← h3]
  obtain ⟨la, ela⟩ : ∃ x, a.l = x := ⟨_, rfl⟩
  obtain ⟨lb, elb⟩ : ∃ x, b.l = x := ⟨_, rfl⟩
  rw [ela] at HA IH hca hcb hpt h4 ⊢
  rw [ela] at HB
  rw [elb] at HB hpt h4
  obtain ⟨len, el⟩ : ∃ k, la.length = k := ⟨_, rfl⟩
  have HL := Lib.hid el
  have HLb := Lib.hid (h4.symm.trans el)
  rw [el] at HA HB hca hcb ⊢
  obtain ⟨oa, eoa⟩ : ∃ x, a.op = x := ⟨_, rfl⟩
  obtain ⟨na, ena⟩ : ∃ x, a.n = x := ⟨_, rfl⟩
  obtain ⟨sa, esa⟩ : ∃ x, a.s = x := ⟨_, rfl⟩
  obtain ⟨ia, eia⟩ : ∃ x, a.line = x := ⟨_, rfl⟩
  obtain ⟨ib, eib⟩ : ∃ x, b.line = x := ⟨_, rfl⟩
  rw [eoa, ena, esa, eia, eib]
  clear elb eib eoa ena esa eia ela h4 el hsa hsb ha hb h1 h2 h3 hmap heq
  have HPt := Lib.hid hpt
  have hca' := hca
  have hcb' := hcb
  unfold maxLen at hca' hcb'
  clear hpt hca hcb
  go_enter Try.func18, Try.ntmps18
  go_wp2
  obtain ⟨w2, hw2⟩ : ∃ x, ((w.alloc (.cells #[.int .i64 oa, .string (bs sa), .int .i64 na, .slice A len ca, .int .i64 ia] 24)).alloc (.cells #[.int .i64 oa, .string (bs sa), .int .i64 na, .slice B len cb, .int .i64 ib] 24)) = x := ⟨_, rfl⟩
  obtain ⟨hsz, hbel, c1, c2⟩ : w2.heap.size = w.heap.size + 2 ∧ Below w.heap.size w w2 ∧ w2.cell? ⟨w.heap.size, 3, none⟩ = some (.slice A len ca) ∧ w2.cell? ⟨w.heap.size + 1, 3, none⟩ = some (.slice B len cb) := by
    subst hw2
    refine ⟨by simp, ((Below.refl _ w).alloc (Nat.le_refl _) _).alloc (by simp) _, by go_simp, by go_simp⟩
  rw [hw2]
  clear hw2
  go_loopw [5] (fun i wr => ∃ k : Nat, k ≤ len ∧ i = .int .i64 k ∧ Below w2.heap.size w2 wr) (fun i _ => len - (intOf i).toNat)
  case atStart => exact ⟨0, Nat.zero_le _, rfl, Below.refl _ _⟩
  case round =>
    obtain ⟨k, hk, rfl, hB⟩ := hrel
    have d1 := (hB.cell (p := ⟨w.heap.size, 3, none⟩) (by simp; omega)).trans c1
    have d2 := (hB.cell (p := ⟨w.heap.size + 1, 3, none⟩) (by simp; omega)).trans c2
    have hbw := hbel.trans (hB.mono (by omega))
    by_cases hlt : k < len
    · obtain ⟨ga, fa, rfl, hga, HA⟩ := HA.out (by have := HL.out; omega)
      obtain ⟨gb, fb, rfl, hgb, HB⟩ := HB.out (by have := HL.out; omega)
      obtain ⟨x, ex⟩ : ∃ x, la[k]? = some x := ⟨_, List.getElem?_eq_getElem (by rw [HL.out]; exact hlt)⟩
      obtain ⟨y, ey⟩ : ∃ x, lb[k]? = some x := ⟨_, List.getElem?_eq_getElem (by rw [HLb.out]; exact hlt)⟩
      obtain ⟨vx, hx, x0, x1, x2, x3, x4⟩ := AtL.get la k x (AtL.keep (W' := wr) (n' := w.heap.size) la HA hga (Nat.le_refl _) fun _ hp => hbw.cell hp) ex
      obtain ⟨vy, hy, y0, y1, y2, y3, y4⟩ := AtL.get lb k y (AtL.keep (W' := wr) (n' := w.heap.size) lb HB hgb (Nat.le_refl _) fun _ hp => hbw.cell hp) ey
      have IHk := Lib.hid (IH.out x (List.mem_of_getElem? ex) y _ _ wr.drew (HPt.out k x y ex ey) (At.keep (n' := wr.heap.size) x hx (by have := hB.size; omega) fun _ _ => rfl) (At.keep (n' := wr.heap.size) y hy (by have := hB.size; omega) fun _ _ => rfl))
      clear HA HB hx hy ex ey
      go_wp2
      go_still_tail 10, (by kernel_rfl)
      change wpList _ _ _ _ _ wr.drew
      go_wp2_with (go_at_call 18; refine IHk.out.mono ?_; rintro e w' ⟨rfl, hb⟩)
      go_roundw
      case rel => exact ⟨k + 1, by omega, by go_num, hB.drew.trans (hb.mono hB.size)⟩
      case measure => simp [intOf]; omega
    · obtain rfl : k = len := by omega
      go_wp2
      go_ret
      exact ⟨rfl, hbw⟩
end Go.Proofs.Ytejbdoiamhfbjaa
namespace Go.Proofs.Ytejbdoiamhfbjaa
open Go.RowKit Go.Proofs
set_option maxRecDepth 100000 in
set_option maxHeartbeats 4000000 in
theorem sameat_self (a : Tr) : ∀ (b : Tr) (va vb : Value) (w : World), a = b → At w w.heap.size a va → At w w.heap.size b vb →
    Calls Try.prog 16 #[va, vb] w fun e w' => e = .returned (.bool true) ∧ Below w.heap.size w w' := by
  refine tree_ind (P := fun a => ∀ (b : Tr) (va vb : Value) (w : World), a = b → At w w.heap.size a va → At w w.heap.size b vb → Calls Try.prog 16 #[va, vb] w fun e w' => e = .returned (.bool true) ∧ Below w.heap.size w w') ?_ a
  clear a
  intro a ih b va vb w heq ha hb
  have IH := Lib.hid ih
  clear ih
  rw [At_iff] at ha hb
  obtain ⟨ua, rfl, ⟨A, ca, rfl, hca, ha⟩, hsa⟩ := ha
  obtain ⟨ub, rfl, ⟨B, cb, rfl, hcb, hb⟩, hsb⟩ := hb
  have HA := Lib.hid ha
  have HB := Lib.hid hb
  subst heq
  have IH := Lib.hid (fun u (hu : u ∈ a.l) => IH.out u (size_part hu))
  have hpt : ∀ (k : Nat) x y, a.l[k]? = some x → a.l[k]? = some y → x = y := fun k x y hx hy => by rw [hx] at hy; exact Option.some.inj hy
  obtain ⟨la, ela⟩ : ∃ x, a.l = x := ⟨_, rfl⟩
  obtain ⟨lb, elb⟩ : ∃ x, la = x := ⟨_, rfl⟩
  have h4 : la.length = lb.length := by rw [elb]
  unfold nodeV
  rw [ela] at HA HB IH hca hcb hpt ⊢
  obtain ⟨len, el⟩ : ∃ k, la.length = k := ⟨_, rfl⟩
  have HL := Lib.hid el
  rw [el] at HA HB hca hcb ⊢
  obtain ⟨oa, eoa⟩ : ∃ x, a.op = x := ⟨_, rfl⟩
  obtain ⟨na, ena⟩ : ∃ x, a.n = x := ⟨_, rfl⟩
  obtain ⟨sa, esa⟩ : ∃ x, a.s = x := ⟨_, rfl⟩
  obtain ⟨ia, eia⟩ : ∃ x, a.line = x := ⟨_, rfl⟩
  obtain ⟨ib, eib⟩ : ∃ x, ia = x := ⟨_, rfl⟩
  rw [eoa, ena, esa, eia]
  have HLb := HL
  clear elb eib eoa ena esa eia ela h4 el hsa hsb ha hb
  have HPt := Lib.hid hpt
  have hca' := hca
  have hcb' := hcb
  unfold maxLen at hca' hcb'
  clear hpt hca hcb
  go_enter Try.func16, Try.ntmps16
  go_wp2
  obtain ⟨w2, hw2⟩ : ∃ x, ((w.alloc (.cells #[.int .i64 oa, .string (bs sa), .int .i64 na, .slice A len ca, .int .i64 ia] 24)).alloc (.cells #[.int .i64 oa, .string (bs sa), .int .i64 na, .slice B len cb, .int .i64 ia] 24)) = x := ⟨_, rfl⟩
  obtain ⟨hsz, hbel, c1, c2⟩ : w2.heap.size = w.heap.size + 2 ∧ Below w.heap.size w w2 ∧ w2.cell? ⟨w.heap.size, 3, none⟩ = some (.slice A len ca) ∧ w2.cell? ⟨w.heap.size + 1, 3, none⟩ = some (.slice B len cb) := by
    subst hw2
    refine ⟨by simp, ((Below.refl _ w).alloc (Nat.le_refl _) _).alloc (by simp) _, by go_simp, by go_simp⟩
  rw [hw2]
  clear hw2
  go_loopw [5] (fun i wr => ∃ k : Nat, k ≤ len ∧ i = .int .i64 k ∧ Below w2.heap.size w2 wr) (fun i _ => len - (intOf i).toNat)
  case atStart => exact ⟨0, Nat.zero_le _, rfl, Below.refl _ _⟩
  case round =>
    obtain ⟨k, hk, rfl, hB⟩ := hrel
    have d1 := (hB.cell (p := ⟨w.heap.size, 3, none⟩) (by simp; omega)).trans c1
    have d2 := (hB.cell (p := ⟨w.heap.size + 1, 3, none⟩) (by simp; omega)).trans c2
    have hbw := hbel.trans (hB.mono (by omega))
    by_cases hlt : k < len
    · obtain ⟨ga, fa, rfl, hga, HA⟩ := HA.out (by have := HL.out; omega)
      obtain ⟨gb, fb, rfl, hgb, HB⟩ := HB.out (by have := HL.out; omega)
      obtain ⟨x, ex⟩ : ∃ x, la[k]? = some x := ⟨_, List.getElem?_eq_getElem (by rw [HL.out]; exact hlt)⟩
      obtain ⟨y, ey⟩ : ∃ x, la[k]? = some x := ⟨_, List.getElem?_eq_getElem (by rw [HLb.out]; exact hlt)⟩
      obtain ⟨vx, hx, x0, x1, x2, x3, x4⟩ := AtL.get la k x (AtL.keep (W' := wr) (n' := w.heap.size) la HA hga (Nat.le_refl _) fun _ hp => hbw.cell hp) ex
      obtain ⟨vy, hy, y0, y1, y2, y3, y4⟩ := AtL.get la k y (AtL.keep (W' := wr) (n' := w.heap.size) la HB hgb (Nat.le_refl _) fun _ hp => hbw.cell hp) ey
      have IHk := Lib.hid (IH.out x (List.mem_of_getElem? ex) y _ _ wr.drew (HPt.out k x y ex ey) (At.keep (n' := wr.heap.size) x hx (by have := hB.size; omega) fun _ _ => rfl) (At.keep (n' := wr.heap.size) y hy (by have := hB.size; omega) fun _ _ => rfl))
      clear HA HB hx hy ex ey
      go_wp2
      go_still_tail 10, (by kernel_rfl)
      change wpList _ _ _ _ _ wr.drew
      go_wp2_with (go_at_call 16; refine IHk.out.mono ?_; rintro e w' ⟨rfl, hb⟩)
      go_roundw
      case rel => exact ⟨k + 1, by omega, by go_num, hB.drew.trans (hb.mono hB.size)⟩
      case measure => simp [intOf]; omega
    · obtain rfl : k = len := by omega
      go_wp2
      go_ret
      exact ⟨rfl, hbw⟩
end Go.Proofs.Ytejbdoiamhfbjaa
namespace Go.Proofs.Ytejbdoiamhfbjaa
theorem shape_num {op : Int} {s : Int × Int × Int × Int} (h : shapeOf op = some s) (h2 : op ≠ 2) : s.2.1 = 0 := by
  unfold shapeOf shapeIn at h
  cases hf : shapesL.reverse.find? (fun p => decide (p.1 = op)) with
  | none => rw [hf] at h; cases h
  | some p =>
    rw [hf] at h
    cases h
    have h1 : p.1 = op := by simpa using List.find?_some hf
    have h3 : ∀ p ∈ shapesL.reverse, p.1 ≠ 2 → p.2.2.1 = 0 := by decide
    exact h3 p (List.mem_of_find?_eq_some hf) (by rw [h1]; exact h2)
theorem sound_num {t : Tr} (h : soundOne t = true) : (if t.op = 2 then t.n else 0) = t.n := by
  by_cases h2 : t.op = 2
  · rw [if_pos h2]
  · rw [if_neg h2]
    unfold soundOne at h
    cases hs : shapeOf t.op with
    | none => rw [hs] at h; cases h
    | some s =>
      rw [hs] at h
      have h0 := shape_num hs h2
      simp only [fitsB, Bool.and_eq_true, decide_eq_true_eq] at h
      omega
mutual
theorem levels_bare : ∀ (t : Tr) (n : Nat), (t.levels n).all goodB = true → bareT t = t
  | .mk op s k i l, n, h => by
    rw [Tr.levels, List.all_cons, Bool.and_eq_true] at h
    have h1 : soundOne (.mk op s k i l) = true := by
      have := h.1
      unfold goodB at this
      simp only [Bool.and_eq_true] at this
      exact this.1
    have h3 := sound_num h1
    rw [bareT, levelsL_bare l _ h.2]
    have h4 : (if op = 2 then k else 0) = k := h3
    rw [h4]
theorem levelsL_bare : ∀ (l : List Tr) (n : Nat), (levelsL n l).all goodB = true → bareL l = l
  | [], n, h => by rw [bareL]
  | t :: r, n, h => by
    rw [levelsL, List.all_append, Bool.and_eq_true] at h
    rw [bareL, levels_bare t n h.1, levelsL_bare r n h.2]
end
theorem right_bare {t : Tr} (h : rightP t = true) : bareT t = t := by
  unfold rightP soundT at h
  simp only [Bool.and_eq_true] at h
  exact levels_bare t 1 h.2
end Go.Proofs.Ytejbdoiamhfbjaa
namespace Go.Proofs.Ytejbdoiamhfbjaa
open Go.RowKit Go.Proofs
set_option maxRecDepth 100000 in
set_option maxHeartbeats 4000000 in
theorem same_law (t : Tr) (v : Value) (w : World) (ht : At w w.heap.size t v) : Calls Try.prog 5 #[v] w fun e w' => e = .returned (.bool true) ∧ Below w.heap.size w w' := by
  obtain ⟨A, c, rfl, -, -⟩ := (TreeAt.of_at ht).form
  have hat : ∀ w', Below w.heap.size w w' → At w' w'.heap.size t (.agg #[.int .i64 t.op, .string (bs t.s), .int .i64 t.n, .slice A t.l.length c, .int .i64 t.line]) := fun w' hb => At.keep t ht hb.size fun p hp => hb.cell hp
  have HAt := Lib.hid hat
  clear hat ht
  go_enter Try.func5, Try.ntmps5
  have hal := below_alloc9 w (.cells #[.int .i64 t.op, .string (bs t.s), .int .i64 t.n, .slice A t.l.length c, .int .i64 t.line] 24)
  have hbx := heap_alloc_new w (.cells #[.int .i64 t.op, .string (bs t.s), .int .i64 t.n, .slice A t.l.length c, .int .i64 t.line] 24)
  obtain ⟨N, eN⟩ : ∃ N, w.heap.size = N := ⟨_, rfl⟩
  have H0 := Lib.hid (And.intro hal hbx)
  clear hal hbx
  go_wp2_with fail
  go_at_call 11
  refine (shown_any _).mono ?_
  rintro e w1 ⟨rfl, hb1⟩
  have hbx1 := (hb1.block w.heap.size (by simp)).trans H0.out.2
  have hw1 : Below w.heap.size w w1 := H0.out.1.trans (hb1.mono (by simp))
  rw [eN] at hbx1
  have x0 := cell_of_row w1 _ 0 _ _ _ hbx1
  have x1 := cell_of_row w1 _ 1 _ _ _ hbx1
  have x2 := cell_of_row w1 _ 2 _ _ _ hbx1
  have x3 := cell_of_row w1 _ 3 _ _ _ hbx1
  have x4 := cell_of_row w1 _ 4 _ _ _ hbx1
  simp at x0 x1 x2 x3 x4
  have H1 := Lib.hid (And.intro hw1 hbx1)
  clear hb1 hbx1 hw1 H0
  go_wp2_with fail
  go_at_call 12
  refine (small_any t _ w1 (HAt.out w1 H1.out.1)).mono ?_
  rintro e w2 ⟨rfl, hb2⟩
  have hbx2 := (hb2.block N (heap_lt H1.out.2)).trans H1.out.2
  have hw2 : Below w.heap.size w w2 := H1.out.1.trans (hb2.mono H1.out.1.size)
  have y0 := cell_of_row w2 _ 0 _ _ _ hbx2
  have y1 := cell_of_row w2 _ 1 _ _ _ hbx2
  have y2 := cell_of_row w2 _ 2 _ _ _ hbx2
  have y3 := cell_of_row w2 _ 3 _ _ _ hbx2
  have y4 := cell_of_row w2 _ 4 _ _ _ hbx2
  simp at y0 y1 y2 y3 y4
  have H2 := Lib.hid (And.intro hw2 hbx2)
  clear hb2 hbx2 hw2 x0 x1 x2 x3 x4 H1
  by_cases hz : t.size ≤ 1500
  case neg =>
    rw [if_neg hz]
    go_wp2
    go_ret
    exact ⟨rfl, H2.out.1⟩
  rw [if_pos hz]
  go_wp2_with fail
  go_at_call 13
  refine (scres_any t _ w2 (fun k => k < w2.heap.size) (TreeAt.of_at (HAt.out w2 H2.out.1)) (fun _ h => h) (by omega)).mono ?_
  rintro e w3 ⟨hb3, hq⟩
  have hw3 : Below w.heap.size w w3 := H2.out.1.trans (hb3.mono H2.out.1.size)
  by_cases hr : rightP t = true
  case neg =>
    rw [if_neg hr] at hq
    subst hq
    have HE := Lib.hid (And.intro hw3 hr)
    clear hw3 hb3 y0 y1 y2 y3 y4 hr
    unfold noTree
    have hz0 := fun (W : World) => (TreeAt.zero W (fun k => k < W.heap.size)).below_ (fun k hk => hk)
    have HZ := Lib.hid (fun (W : World) => rsame_like Tr.zero Tr.zero _ _ W rfl (hz0 W) (hz0 W))
    clear hz0
    go_wp2_with fail
    go_at_call 18
    refine (HZ.out _).mono ?_
    rintro e w5 ⟨rfl, hb5⟩
    have HF := Lib.hid ((HE.out.1.alloc HE.out.1.size (.cells #[.int .i64 0, .string ⟨#[]⟩, .int .i64 0, .slice none 0 0, .int .i64 0] 24)).trans (hb5.mono (by have := HE.out.1.size; simp; omega)))
    clear hb5
    go_wp2
    go_ret
    exact ⟨rfl, HF.out⟩
  rw [if_pos hr] at hq
  cases hrs : resolveT t with
  | error p9 =>
    obtain ⟨line, er⟩ := p9
    rw [hrs] at hq
    simp only at hq
    subst hq
    have ee : (er != 0) = true := by
      have := resolve_err hrs
      simp [this]
    have HE := Lib.hid (And.intro hw3 hr)
    clear hw3 hb3 y0 y1 y2 y3 y4 hr hrs
    unfold noTree
    have hz0 := fun (W : World) => (TreeAt.zero W (fun k => k < W.heap.size)).below_ (fun k hk => hk)
    have HZ := Lib.hid (fun (W : World) => rsame_like Tr.zero Tr.zero _ _ W rfl (hz0 W) (hz0 W))
    clear hz0
    go_wp2_with fail
    go_at_call 18
    refine (HZ.out _).mono ?_
    rintro e w5 ⟨rfl, hb5⟩
    have HF := Lib.hid ((HE.out.1.alloc HE.out.1.size (.cells #[.int .i64 0, .string ⟨#[]⟩, .int .i64 0, .slice none 0 0, .int .i64 0] 24)).trans (hb5.mono (by have := HE.out.1.size; simp; omega)))
    clear hb5
    go_wp2
    go_ret
    exact ⟨rfl, HF.out⟩
  | ok p9 =>
  obtain ⟨fs, q⟩ := p9
  rw [hrs] at hq
  obtain ⟨fv, qv, rfl, hF, hT⟩ := hq
  obtain ⟨Af, cf, rfl, hfc, hfm⟩ := hF.form
  obtain ⟨Aq, cq, rfl, hrq, hfq⟩ := hT.form
  have hbP3 := (hb3.block N (heap_lt H2.out.2)).trans H2.out.2
  have hal4 := below_alloc9 w3 (.cells #[.int .i64 q.op, .string (bs q.s), .int .i64 q.n, .slice Aq q.l.length cq, .int .i64 q.line] 24)
  have hbx4 := heap_alloc_new w3 (.cells #[.int .i64 q.op, .string (bs q.s), .int .i64 q.n, .slice Aq q.l.length cq, .int .i64 q.line] 24)
  obtain ⟨w4, e4⟩ : ∃ w4, w3.alloc (.cells #[.int .i64 q.op, .string (bs q.s), .int .i64 q.n, .slice Aq q.l.length cq, .int .i64 q.line] 24) = w4 := ⟨_, rfl⟩
  rw [e4] at hal4 hbx4
  have hbP4 := (hal4.block N (heap_lt hbP3)).trans hbP3
  have hqs := resolve_size hrs
  have hbq : bareT q = t := (resolve_told hrs).1.trans (right_bare hr)
  have hT4 : TreeAt w4 (fun k => k < w4.heap.size) q (.agg #[.int .i64 q.op, .string (bs q.s), .int .i64 q.n, .slice Aq q.l.length cq, .int .i64 q.line]) := hT.keep (fun k hk => by have := hk.2; have := hal4.size; omega) (fun k hk => hal4.block k hk.2)
  have hw4 : Below w.heap.size w w4 := hw3.trans (hal4.mono hw3.size)
  have HBare := Lib.hid (bare_any q _ w4.drew (fun k => k < w4.heap.size) (hT4.keep (fun k hk => hk) (fun k hk => rfl)) (fun k hk => hk) (by omega))
  have HS0 := Lib.hid (And.intro (box_facts hbP4).1 (box_facts hbx4).1)
  have HSD := Lib.hid (And.intro (box_facts (show w4.drew.heap[N]? = _ from hbP4)).1 (box_facts (show w4.drew.heap[w3.heap.size]? = _ from hbx4)).1)
  have H4 := Lib.hid (And.intro hw4 (And.intro hbP4 (And.intro hbx4 (And.intro hbq e4))))
  obtain ⟨⟨x0, x1, x2, x3, x4⟩, ⟨p0, p1, p2, p3, p4⟩⟩ := And.intro (box_facts hbx4).1 (box_facts hbP4).1
  clear hw3 hal4 hbx4 hbP3 hbP4 hF hT hT4 hw4 hbq hqs hfc hfm hrq hfq hb3 y0 y1 y2 y3 y4 H2 e4 hrs hr hz
  go_upto_region 7 with fail
  rw [H4.out.2.2.2.2]
  go_region_held3 (fun w' => (w'.cell? ⟨N, 0, none⟩ = some (.int .i64 t.op) ∧ w'.cell? ⟨N, 1, none⟩ = some (.string (bs t.s)) ∧ w'.cell? ⟨N, 2, none⟩ = some (.int .i64 t.n) ∧ w'.cell? ⟨N, 3, none⟩ = some (.slice A t.l.length c) ∧ w'.cell? ⟨N, 4, none⟩ = some (.int .i64 t.line)) ∧ (w'.cell? ⟨w3.heap.size, 0, none⟩ = some (.int .i64 q.op) ∧ w'.cell? ⟨w3.heap.size, 1, none⟩ = some (.string (bs q.s)) ∧ w'.cell? ⟨w3.heap.size, 2, none⟩ = some (.int .i64 q.n) ∧ w'.cell? ⟨w3.heap.size, 3, none⟩ = some (.slice Aq q.l.length cq) ∧ w'.cell? ⟨w3.heap.size, 4, none⟩ = some (.int .i64 q.line)))
    (first | go_keep | exact HS0.out | exact HSD.out | exact HS2.out | exact HS1.out)
    (first
      | (go_at_call 19; refine HBare.out.mono ?_; rintro e u1 ⟨vb, rfl, htb, hb1⟩; have HU1 := Lib.hid (show Below w4.heap.size w4 u1 from (show Below w4.heap.size w4 w4.drew from ⟨rfl, rfl, rfl, Nat.le_refl _, fun _ _ => rfl⟩).trans hb1); have HS1 := Lib.hid (And.intro (box_facts ((HU1.out.block N (heap_lt H4.out.2.1)).trans H4.out.2.1)).1 (box_facts ((HU1.out.block w3.heap.size (heap_lt H4.out.2.2.1)).trans H4.out.2.2.1)).1); have hA1 := htb.below_ (n := u1.heap.size) (fun k hk => hk.2); rw [H4.out.2.2.2.1] at hA1; have HSa := Lib.hid (sameat_self t t vb _ u1 rfl hA1 (HAt.out u1 (H4.out.1.trans (HU1.out.mono H4.out.1.size)))); clear htb hb1 hA1)
      | (go_at_call 16; refine HSa.out.mono ?_; rintro e u2 ⟨rfl, hb2⟩; have HU2 := Lib.hid (show Below w.heap.size w u2 from (H4.out.1.trans (HU1.out.mono H4.out.1.size)).trans (hb2.mono (by have := H4.out.1.size; have := HU1.out.size; omega))); have HW2 := HU1.out.trans (hb2.mono HU1.out.size); have HS2 := Lib.hid (And.intro (box_facts ((HW2.block N (heap_lt H4.out.2.1)).trans H4.out.2.1)).1 (box_facts ((HW2.block w3.heap.size (heap_lt H4.out.2.2.1)).trans H4.out.2.2.1)).1); clear hb2 HW2))
  all_goals
    go_wp2
    go_ret
    exact ⟨rfl, HU2.out⟩
end Go.Proofs.Ytejbdoiamhfbjaa
namespace Go.Proofs.Ytejbdoiamhfbjaa.scopeSame
open Go.ChangeShapes Go.WideShapes Go.ChangeAt Go.RowKit
open Go.ChangeMaps (open_string shut_string)
set_option maxRecDepth 100000 in
theorem lifted (os : Os) (started : os.Started) (H : Type) (enc : TypeId × Value → H) :
    ReturnsInHanded {} Try.checked os 5 .any (Rows.scopeSameSpec.pre6 enc Try.prog Try.f5 Rows.scopeSameRow.domain false) (Rows.scopeSameSpec.post enc Try.prog Try.f5 false true false false) := by
  refine returnsInHanded_of_change (C := Try.checked) ownK started (by kernel_rfl) Try.func5
    (ChangeSpec.witness6 (enc := enc) (C := Try.checked) false ⟨#[], #[.agg #[.int .i64 0, .string ByteArray.empty, .int .i64 0, .slice none 0 0, .int .i64 0]], []⟩ 8 (by kernel_rfl) (by kernel_rfl) (by kernel_rfl) (by kernel_rfl)) ?_
  intro W base args ds gs before hval0 hW hcnd _
  have hval : ∀ (j : Nat) t v, Try.f5.params[j]? = some t → args[j]? = some v → Value.okWide Try.prog W .any base t v := hval0
  have hW' := hW
  obtain ⟨p, q, hA0, hV, rfl, hfz, hnd⟩ := hW
  have hA : DataW.TrodAll enc Try.prog W 0 (fun _ => true) true Try.f5.params.toList args.toList ds p := hA0
  rw [Try.params5] at hA hval
  obtain ⟨v0, vs0, d0, ds0, p0, q0, hargs, rfl, rfl, h0, r0⟩ := trodAll_cons hA
  obtain ⟨rfl, rfl, rfl⟩ := trodAll_nil r0
  obtain rfl : args = #[v0] := by cases args; simp_all
  obtain ⟨rfl, rfl⟩ := trodVars_none hV
  obtain ⟨a0, w0⟩ := open_node (hval 0 24 v0 rfl rfl) h0
  clear hA0 hval0
  simp only [List.append_nil] at hW'
  refine (same_law a0 v0 W w0).mono fun e W' ⟨he, bel⟩ => ?_
  subst he
  exact ⟨_, rfl, _, _, _, [], _, [], hW', trodAll_mk1 (shut_bool Try.underlying4 _), (trodAll_cons_mk (Below.trod laidOut (by kernel_rfl) (of_decide_eq_true (by kernel_rfl)) h0 bel (node_lt h0)) trodAll_mk0), rfl, bel.frame _, fun h => by cases h⟩
theorem over : Rows.scopeSameRow.holds Try.pinned (OpenSpec.ofChange Rows.scopeSameSpec) :=
  OpenClaim.holds_of_wide 5 Try.f5 rfl rfl rfl rfl rfl rfl rfl ⟨rfl, rfl, rfl, rfl, rfl⟩ rfl rfl rfl rfl rfl (by kernel_rfl) Try.func5 (by kernel_rfl)
    (of_decide_eq_true (by kernel_rfl)) (by unfold Func.isWrapper; first | (rw [if_pos (by decide +kernel)]; kernel_rfl) | (rw [if_neg (by decide +kernel)]; exact ⟨rfl, rfl⟩))
    (fun os started H enc _ => lifted os started H enc)
theorem proved : Rows.ScopeSameSaid := over
#print axioms proved
end Go.Proofs.Ytejbdoiamhfbjaa.scopeSame
