/- scope.declares: its names come to yield one by one. scope's function while it is opened: its box, its names, their places; declare. scope.declared: an iterator over a block's names. -/
import Derived.TacticsInMore
import Derived.LoopIn
import Derived.Sort.CutIn
import Derived.BigRegion
import Derived.Maps.AppendAt
import Derived.Deep.RegionLaw
import Derived.StillTailTactics
import Derived.Test.YtikbfoichhkeaaaGreatVm03
import Derived.Test.YtikbfoichhkeaaaGreatVm07
set_option linter.unusedSimpArgs false
set_option linter.unusedVariables false
set_option maxRecDepth 100000
set_option maxHeartbeats 40000000
namespace Go.Proofs.YtikbfoichhkeaaaGreat
section
open Go.RowKit Go.Proofs
theorem declS_eq (t : Tr) : declS t = if t.op = 10 then [] else if t.op = 41 then [t.s] else (if t.op = 30 ∨ t.op = 35 ∨ t.op = 38 then [t.s] else []) ++ declSL t.l := by cases t; rw [declS]; rfl
theorem declSL_drop {l : List Tr} {k : Nat} {p : Tr} (h : l[k]? = some p) : declSL (l.drop k) = declS p ++ declSL (l.drop (k + 1)) := by
 obtain ⟨hk, rfl⟩ := List.getElem?_eq_some_iff.1 h
 rw [List.drop_eq_getElem_cons hk, declSL]
theorem RdKeeps.then_ {mine : World → Nat → Prop} {A B C : World} (h : RdKeeps mine A B) (g : RdKeeps mine B C) : RdKeeps mine A C :=
 h.trans g fun k hk hm => (h.new k hm).elim id (fun h => by omega)
theorem RdKeeps.low {mine : World → Nat → Prop} {w0 A B : World} (hmn : ∀ k, mine A k → w0.heap.size ≤ k) (hb : Below w0.heap.size w0 A) (h : RdKeeps mine A B) : Below w0.heap.size w0 B :=
 ⟨h.os.trans hb.os, h.tape.trans hb.tape, h.output.trans hb.output, Nat.le_trans hb.size h.size, fun i hi => (h.keep i (by have := hb.size; omega) (fun hm => by have := hmn i hm; omega)).trans (hb.block i hi)⟩
theorem declares_any (lf base : Nat) (xs : List Bs) (mine : World → Nat → Prop) (J Jx : List Bs → World → Prop) (w0 : World) (S : Nat → Prop) (hS : ∀ k, S k → k < w0.heap.size)
  (hmn : ∀ W k, mine W k → w0.heap.size ≤ k) (hJ : ∀ pre A B, J pre A → ItKeeps mine base A B → J pre B) (hM : ∀ pre A k, J pre A → mine A k → k < A.heap.size) (hMs : ∀ A B k, ItKeeps mine base A B → mine B k → mine A k)
  (hY : ∀ pre x W1, J pre W1 → pre ++ [x] <+: xs → YieldAt Fence.wide 0 Tryz.prog lf #[.string (bs x)] W1 fun e W' => (e = .returned (.bool true) ∧ J (pre ++ [x]) W' ∧ RdKeeps mine W1 W') ∨ (e = .returned (.bool false) ∧ Jx (pre ++ [x]) W')) (t : Tr) :
  ∀ (v : Value) (pre rest : List Bs) (W : World), TreeAt w0 S t v → Below w0.heap.size w0 W → t.size ≤ 1000000 → J pre W → pre ++ (declS t ++ rest) = xs →
   Calls Tryz.prog 150 #[v, .func (.yield lf) #[] #[]] W fun e W' => (e = .returned (.bool true) ∧ J (pre ++ declS t) W' ∧ RdKeeps mine W W') ∨ (e = .returned (.bool false) ∧ ∃ pre', pre' <+: xs ∧ Jx pre' W') := by
 refine tree_ind (P := fun t => ∀ (v : Value) (pre rest : List Bs) (W : World), TreeAt w0 S t v → Below w0.heap.size w0 W → t.size ≤ 1000000 → J pre W → pre ++ (declS t ++ rest) = xs →
   Calls Tryz.prog 150 #[v, .func (.yield lf) #[] #[]] W fun e W' => (e = .returned (.bool true) ∧ J (pre ++ declS t) W' ∧ RdKeeps mine W W') ∨ (e = .returned (.bool false) ∧ ∃ pre', pre' <+: xs ∧ Jx pre' W')) ?_ t
 clear t
 intro t ih v pre rest W hT hb hz hJ0 hxs
 obtain ⟨A, c, rfl, hrow, hfine⟩ := hT.form
 have hlen := length_le_sizes t.l
 have hsz := size_eq t
 obtain ⟨A1, c1, e1, hc1, hc2⟩ := hrow.slice
 injection e1 with e2 e3 e4
 subst e2 e4
 have hc3 : c ≤ 9223372036854775807 := hc2
 have hl3 : t.l.length ≤ 1000000 := by omega
 have HI := Lib.hid ih
 have HR := Lib.hid (And.intro hrow (And.intro hfine (And.intro hz hsz)))
 have hal := below_alloc9 W (.cells #[.int .i64 t.op, .string (bs t.s), .int .i64 t.n, .slice A t.l.length c, .int .i64 t.line] 24)
 have hbx := heap_alloc_new W (.cells #[.int .i64 t.op, .string (bs t.s), .int .i64 t.n, .slice A t.l.length c, .int .i64 t.line] 24)
 obtain ⟨W1, eW⟩ : ∃ W1, W.alloc (.cells #[.int .i64 t.op, .string (bs t.s), .int .i64 t.n, .slice A t.l.length c, .int .i64 t.line] 24) = W1 := ⟨_, rfl⟩
 rw [eW] at hal hbx
 have hk1 : ItKeeps mine base W W1 := .of_below hal
 have hJ1 := hJ _ _ _ hJ0 hk1
 have hN1 : ¬ mine W1 W.heap.size := fun hm => by
  have := hM _ _ _ hJ0 (hMs _ _ _ hk1 hm)
  omega
 have hR1 : RdKeeps mine W W1 := .of_below hal (fun k hk => hMs _ _ _ hk1 hk)
 have H1 := Lib.hid (And.intro hbx (And.intro hJ1 (And.intro hN1 (And.intro hR1 (hb.trans (hal.mono hb.size))))))
 have HX := Lib.hid hxs
 have HY := Lib.hid hY
 have HJ := Lib.hid hJ
 have HM := Lib.hid hM
 have HMs := Lib.hid hMs
 have Hmn := Lib.hid hmn
 have HS := Lib.hid hS
 have HW := Lib.hid eW
 have HBw := Lib.hid hb
 clear hT ih hrow hfine hz hsz hlen hc2 hal hbx hk1 hJ1 hN1 hR1 hxs hY hJ hM hMs hmn hS hJ0 hb eW
 refine (callsIn_wide (n := 5)).1 ?_
 refine callsIn_of_wp Tryz.func150 rfl trivial ?_ rfl
 simp only [Tryz.ntmps150, List.size_toArray, List.length_cons, List.length_nil, Nat.reduceAdd, Nat.reduceSub, Array.replicate_succ, Array.replicate_zero, List.push_toArray, List.append_toArray, List.nil_append, List.cons_append]
 gi_upto_region 2 with fail
 rw [HW.out]
 have x0 := cell_of_row W1 _ 0 _ _ _ H1.out.1
 have x1 := cell_of_row W1 _ 1 _ _ _ H1.out.1
 have x3 := cell_of_row W1 _ 3 _ _ _ H1.out.1
 simp at x0 x1 x3
 obtain ⟨N, eN⟩ : ∃ N, W.heap.size = N := ⟨_, rfl⟩
 rw [eN] at x0 x1 x3 ⊢
 have HD := declS_eq t
 by_cases h10 : t.op = 10
 ·rw [if_pos h10] at HD
  have e10 : (t.op == 10) = true := by rw [h10]; rfl
  have HD := Lib.hid HD
  clear h10
  gi_wp2
  go_ret
  exact .inl ⟨rfl, by first | exact H1.out.2.1 | (rw [HD.out, List.append_nil]; exact H1.out.2.1), H1.out.2.2.2.1⟩
 rw [if_neg h10] at HD
 have e10 : (t.op == 10) = false := by simp [h10]
 by_cases h41 : t.op = 41
 ·rw [if_pos h41] at HD
  have e41 : (t.op == 41) = true := by rw [h41]; rfl
  obtain ⟨fn, tmps, assign, rbody, hy, hRR⟩ := yieldAt_any (m' := 4) (HY.out pre t.s W1 H1.out.2.1 ⟨rest, by rw [List.append_assoc, ← HD]; exact HX.out⟩)
  have HRR := Lib.hid hRR
  have HD := Lib.hid HD
  clear h10 h41 hRR
  gi_wp2
  refine HRR.out.mono ?_
  rintro e W7 (⟨rfl, hJ7, hk7⟩ | ⟨rfl, hJx7⟩)
  ·have HE := Lib.hid (And.intro hJ7 (H1.out.2.2.2.1.then_ hk7))
   clear hJ7 hk7
   gi_wp2
   go_ret
   exact .inl ⟨rfl, by first | exact HE.out.1 | (rw [HD.out]; exact HE.out.1), HE.out.2⟩
  ·have HE := Lib.hid hJx7
   clear hJx7
   gi_wp2
   go_ret
   exact .inr ⟨rfl, _, ⟨rest, by rw [List.append_assoc, ← HD.out]; exact HX.out⟩, HE.out⟩
 rw [if_neg h41] at HD
 have e41 : (t.op == 41) = false := by simp [h41]
 have hcase : ((t.op == 30) = true ∧ (t.op = 30 ∨ t.op = 35 ∨ t.op = 38)) ∨ ((t.op == 30) = false ∧ (t.op == 35) = true ∧ (t.op = 30 ∨ t.op = 35 ∨ t.op = 38)) ∨ ((t.op == 30) = false ∧ (t.op == 35) = false ∧ (t.op == 38) = true ∧ (t.op = 30 ∨ t.op = 35 ∨ t.op = 38)) ∨ ((t.op == 30) = false ∧ (t.op == 35) = false ∧ (t.op == 38) = false ∧ ¬ (t.op = 30 ∨ t.op = 35 ∨ t.op = 38)) := by
  simp only [beq_iff_eq, beq_eq_false_iff_ne]
  omega
 clear h10 h41
 rcases hcase with ⟨e30, hn⟩ | ⟨e30, e35, hn⟩ | ⟨e30, e35, e38, hn⟩ | ⟨e30, e35, e38, hn⟩
 case inr.inr.inr =>
  rw [if_neg hn, List.nil_append] at HD
  have HE := Lib.hid (And.intro (show W1.heap[N]? = some (.cells #[.int .i64 t.op, .string (bs t.s), .int .i64 t.n, .slice A t.l.length c, .int .i64 t.line] 24 (0, 0)) by rw [← eN]; exact H1.out.1) (And.intro H1.out.2.1 (And.intro (show ¬ mine W1 N by rw [← eN]; exact H1.out.2.2.1) (And.intro H1.out.2.2.2.1 (And.intro (show pre ++ (declSL t.l ++ rest) = xs by rw [← HD]; exact HX.out) (show pre ++ declS t = pre ++ declSL t.l by rw [HD]))))))
  clear HD hn
  gi_wp2
  gi_loopw [29] (fun i wr => ∃ (k : Nat) (prel : List Bs), k ≤ t.l.length ∧ i = .int .i64 k ∧ J prel wr ∧ prel ++ (declSL (t.l.drop k) ++ rest) = xs ∧ pre ++ declS t = prel ++ declSL (t.l.drop k) ∧ RdKeeps mine W wr ∧ wr.heap[N]? = some (.cells #[.int .i64 t.op, .string (bs t.s), .int .i64 t.n, .slice A t.l.length c, .int .i64 t.line] 24 (0, 0)) ∧ ¬ mine wr N) (fun i _ => t.l.length - (intOf i).toNat)
  case atStart => exact ⟨0, _, Nat.zero_le _, rfl, HE.out.2.1, HE.out.2.2.2.2.1, HE.out.2.2.2.2.2, HE.out.2.2.2.1, HE.out.1, HE.out.2.2.1⟩
  case round =>
   obtain ⟨k, prel, hk, rfl, hJk, hxk, hpk, hRk, hbk, hnk⟩ := hrel
   by_cases hlt : k < t.l.length
   ·obtain ⟨g, off, p, A', c', rfl, hSg, hp, hT, f0, f1, f2, f3, f4⟩ := part_get HR.out.1 k hlt
    have hb0 := hRk.low (fun k hm => Hmn.out W k hm) HBw.out
    have hgl := HS.out g hSg
    rw [← hb0.cell (p := ⟨g, off + k * 5, none⟩) hgl] at f0
    rw [← hb0.cell (p := ⟨g, off + k * 5 + 1, none⟩) hgl] at f1
    rw [← hb0.cell (p := ⟨g, off + k * 5 + 2, none⟩) hgl] at f2
    rw [← hb0.cell (p := ⟨g, off + k * 5 + 3, none⟩) hgl] at f3
    rw [← hb0.cell (p := ⟨g, off + k * 5 + 4, none⟩) hgl] at f4
    have g1 : (k : Int) < t.l.length := by omega
    have hal := below_alloc9 wr (.cells #[.int .i64 p.op, .string (bs p.s), .int .i64 p.n, .slice A' p.l.length c', .int .i64 p.line] 24)
    have hk6 : ItKeeps mine base wr (wr.alloc (.cells #[.int .i64 p.op, .string (bs p.s), .int .i64 p.n, .slice A' p.l.length c', .int .i64 p.line] 24)) := .of_below hal
    have hR6 : RdKeeps mine wr (wr.alloc (.cells #[.int .i64 p.op, .string (bs p.s), .int .i64 p.n, .slice A' p.l.length c', .int .i64 p.line] 24)) := .of_below hal (fun k hk => HMs.out _ _ _ hk6 hk)
    have hps := size_part (t := t) (List.mem_of_getElem? hp)
    have hdr := declSL_drop hp
    have HC := Lib.hid (HI.out p hps _ prel (declSL (t.l.drop (k + 1)) ++ rest) _ hT (hb0.trans (hal.mono hb0.size)) (by have := HR.out.2.2.1; omega) (HJ.out _ _ _ hJk hk6) (by rw [← hxk, hdr, List.append_assoc]))
    have HK := Lib.hid (And.intro (show prel ++ declS p ++ (declSL (t.l.drop (k + 1)) ++ rest) = xs by rw [← hxk, hdr]; simp) (And.intro (show pre ++ declS t = prel ++ declS p ++ declSL (t.l.drop (k + 1)) by rw [hpk, hdr]; simp) (And.intro (hRk.then_ hR6) (And.intro ((hal.block N (heap_lt hbk)).trans hbk) (fun hm => hnk (HMs.out _ _ _ hk6 hm))))))
    clear hb0 hgl hal hk6 hR6 hps hdr hT hJk hxk hpk hRk hbk hnk hp
    gi_wp2_with fail
    refine ⟨trivial, ?_⟩
    gi_at_call 150
    refine (callsIn_wide.2 HC.out).mono ?_
    rintro e w2 (⟨rfl, hJ2, hR2⟩ | ⟨rfl, pre', hpre', hJx'⟩)
    ·have HL := Lib.hid (And.intro hJ2 (And.intro (HK.out.2.2.1.then_ hR2) (And.intro ((hR2.keep N (heap_lt HK.out.2.2.2.1) HK.out.2.2.2.2).trans HK.out.2.2.2.1) (fun hm => (hR2.new N hm).elim HK.out.2.2.2.2 (fun h => by have := heap_lt HK.out.2.2.2.1; omega)))))
     clear hJ2 hR2
     gi_wp2
     go_roundw
     case rel => exact ⟨k + 1, _, by omega, by go_num, HL.out.1, HK.out.1, HK.out.2.1, HL.out.2.1, HL.out.2.2.1, HL.out.2.2.2⟩
     case measure => simp [intOf]; omega
    ·have HL := Lib.hid (And.intro hpre' hJx')
     clear hpre' hJx'
     gi_wp2
     go_ret
     exact .inr ⟨rfl, _, HL.out.1, HL.out.2⟩
   ·have g1 : ¬ (k : Int) < t.l.length := by omega
    have HL := Lib.hid (And.intro (show J (pre ++ declS t) wr by rw [hpk, List.drop_eq_nil_of_le (by omega), declSL, List.append_nil]; exact hJk) hRk)
    clear hJk hxk hpk hRk hbk hnk
    gi_wp2
    go_ret
    exact .inl ⟨rfl, by first | exact HL.out.1 | (have h9 := HL.out.1; rw [HD.out] at h9; simpa using h9), HL.out.2⟩
 all_goals
  rw [if_pos hn] at HD
  obtain ⟨fn, tmps, assign, rbody, hy, hRR⟩ := yieldAt_any (m' := 4) (HY.out pre t.s W1 H1.out.2.1 ⟨declSL t.l ++ rest, by rw [← HX.out, HD]; simp⟩)
  have HRR := Lib.hid hRR
  have HD := Lib.hid HD
  clear hn hRR
  gi_wp2
  refine HRR.out.mono ?_
  rintro e W7 (⟨rfl, hJ7, hk7⟩ | ⟨rfl, hJx7⟩)
  rotate_left 1
  ·have HL := Lib.hid hJx7
   clear hJx7
   gi_wp2
   go_ret
   exact .inr ⟨rfl, _, ⟨declSL t.l ++ rest, by rw [← HX.out, HD.out]; simp⟩, HL.out⟩
  have hN1 : ¬ mine W1 N := by rw [← eN]; exact H1.out.2.2.1
  have hb1 : W1.heap[N]? = some (.cells #[.int .i64 t.op, .string (bs t.s), .int .i64 t.n, .slice A t.l.length c, .int .i64 t.line] 24 (0, 0)) := by rw [← eN]; exact H1.out.1
  have hbx7 := (hk7.keep N (heap_lt hb1) hN1).trans hb1
  have x3' := cell_of_row W7 N 3 _ _ _ hbx7
  simp at x3'
  have HE := Lib.hid (And.intro hbx7 (And.intro hJ7 (And.intro (fun hm => (hk7.new N hm).elim hN1 (fun h => by have := heap_lt hb1; omega)) (And.intro (H1.out.2.2.2.1.then_ hk7) (And.intro (show pre ++ [t.s] ++ (declSL t.l ++ rest) = xs by rw [← HX.out, HD.out]; simp) (show pre ++ declS t = pre ++ [t.s] ++ declSL t.l by rw [HD.out]; simp))))))
  clear hJ7 hk7 hN1 hb1 hbx7
  gi_wp2
  gi_loopw [29] (fun i wr => ∃ (k : Nat) (prel : List Bs), k ≤ t.l.length ∧ i = .int .i64 k ∧ J prel wr ∧ prel ++ (declSL (t.l.drop k) ++ rest) = xs ∧ pre ++ declS t = prel ++ declSL (t.l.drop k) ∧ RdKeeps mine W wr ∧ wr.heap[N]? = some (.cells #[.int .i64 t.op, .string (bs t.s), .int .i64 t.n, .slice A t.l.length c, .int .i64 t.line] 24 (0, 0)) ∧ ¬ mine wr N) (fun i _ => t.l.length - (intOf i).toNat)
  case atStart => exact ⟨0, _, Nat.zero_le _, rfl, HE.out.2.1, HE.out.2.2.2.2.1, HE.out.2.2.2.2.2, HE.out.2.2.2.1, HE.out.1, HE.out.2.2.1⟩
  case round =>
   obtain ⟨k, prel, hk, rfl, hJk, hxk, hpk, hRk, hbk, hnk⟩ := hrel
   by_cases hlt : k < t.l.length
   ·obtain ⟨g, off, p, A', c', rfl, hSg, hp, hT, f0, f1, f2, f3, f4⟩ := part_get HR.out.1 k hlt
    have hb0 := hRk.low (fun k hm => Hmn.out W k hm) HBw.out
    have hgl := HS.out g hSg
    rw [← hb0.cell (p := ⟨g, off + k * 5, none⟩) hgl] at f0
    rw [← hb0.cell (p := ⟨g, off + k * 5 + 1, none⟩) hgl] at f1
    rw [← hb0.cell (p := ⟨g, off + k * 5 + 2, none⟩) hgl] at f2
    rw [← hb0.cell (p := ⟨g, off + k * 5 + 3, none⟩) hgl] at f3
    rw [← hb0.cell (p := ⟨g, off + k * 5 + 4, none⟩) hgl] at f4
    have g1 : (k : Int) < t.l.length := by omega
    have hal := below_alloc9 wr (.cells #[.int .i64 p.op, .string (bs p.s), .int .i64 p.n, .slice A' p.l.length c', .int .i64 p.line] 24)
    have hk6 : ItKeeps mine base wr (wr.alloc (.cells #[.int .i64 p.op, .string (bs p.s), .int .i64 p.n, .slice A' p.l.length c', .int .i64 p.line] 24)) := .of_below hal
    have hR6 : RdKeeps mine wr (wr.alloc (.cells #[.int .i64 p.op, .string (bs p.s), .int .i64 p.n, .slice A' p.l.length c', .int .i64 p.line] 24)) := .of_below hal (fun k hk => HMs.out _ _ _ hk6 hk)
    have hps := size_part (t := t) (List.mem_of_getElem? hp)
    have hdr := declSL_drop hp
    have HC := Lib.hid (HI.out p hps _ prel (declSL (t.l.drop (k + 1)) ++ rest) _ hT (hb0.trans (hal.mono hb0.size)) (by have := HR.out.2.2.1; omega) (HJ.out _ _ _ hJk hk6) (by rw [← hxk, hdr, List.append_assoc]))
    have HK := Lib.hid (And.intro (show prel ++ declS p ++ (declSL (t.l.drop (k + 1)) ++ rest) = xs by rw [← hxk, hdr]; simp) (And.intro (show pre ++ declS t = prel ++ declS p ++ declSL (t.l.drop (k + 1)) by rw [hpk, hdr]; simp) (And.intro (hRk.then_ hR6) (And.intro ((hal.block N (heap_lt hbk)).trans hbk) (fun hm => hnk (HMs.out _ _ _ hk6 hm))))))
    clear hb0 hgl hal hk6 hR6 hps hdr hT hJk hxk hpk hRk hbk hnk hp
    gi_wp2_with fail
    refine ⟨trivial, ?_⟩
    gi_at_call 150
    refine (callsIn_wide.2 HC.out).mono ?_
    rintro e w2 (⟨rfl, hJ2, hR2⟩ | ⟨rfl, pre', hpre', hJx'⟩)
    ·have HL := Lib.hid (And.intro hJ2 (And.intro (HK.out.2.2.1.then_ hR2) (And.intro ((hR2.keep N (heap_lt HK.out.2.2.2.1) HK.out.2.2.2.2).trans HK.out.2.2.2.1) (fun hm => (hR2.new N hm).elim HK.out.2.2.2.2 (fun h => by have := heap_lt HK.out.2.2.2.1; omega)))))
     clear hJ2 hR2
     gi_wp2
     go_roundw
     case rel => exact ⟨k + 1, _, by omega, by go_num, HL.out.1, HK.out.1, HK.out.2.1, HL.out.2.1, HL.out.2.2.1, HL.out.2.2.2⟩
     case measure => simp [intOf]; omega
    ·have HL := Lib.hid (And.intro hpre' hJx')
     clear hpre' hJx'
     gi_wp2
     go_ret
     exact .inr ⟨rfl, _, HL.out.1, HL.out.2⟩
   ·have g1 : ¬ (k : Int) < t.l.length := by omega
    have HL := Lib.hid (And.intro (show J (pre ++ declS t) wr by rw [hpk, List.drop_eq_nil_of_le (by omega), declSL, List.append_nil]; exact hJk) hRk)
    clear hJk hxk hpk hRk hbk hnk
    gi_wp2
    go_ret
    exact .inl ⟨rfl, by first | exact HL.out.1 | (have h9 := HL.out.1; rw [HD.out] at h9; simpa using h9), HL.out.2⟩
end
section
open Go.RowKit Go.Proofs Go.Maps
theorem info9s : (Tryz.prog.info? 9).map (fun i => (i.zero, i.size, i.bytes)) = some (some (.string ⟨#[]⟩), 1, 16) := by kernel_rfl
def namesV (l : List Bs) : List Value := l.map fun s => .string (bs s)
structure OpenAt (W : World) (F m B : Nat) (a : Int) (s : Bs) (ps : Int) (mk : Int) (vars : List Bs) : Prop where
 box : ∃ v, W.heap[F]? = some (.cells #[.int .i64 a, .string (bs s), .int .i64 ps, v, .int .i64 mk, .map (some m)] 126 (0, 0)) ∧ W.ownsRow B 9 1 v vars.length (namesV vars)
 map : PlacesAt W m vars
 ne : m ≠ F ∧ F < B ∧ m < B
theorem OpenAt.form {W : World} {F m B : Nat} {a : Int} {nm : Bs} {ps mk : Int} {vars : List Bs} (h : OpenAt W F m B a nm ps mk vars) : ∃ A c, W.heap[F]? = some (.cells #[.int .i64 a, .string (bs nm), .int .i64 ps, .slice A vars.length c, .int .i64 mk, .map (some m)] 126 (0, 0)) ∧ W.ownsRow B 9 1 (.slice A vars.length c) vars.length (namesV vars) ∧ vars.length ≤ c ∧ c ≤ maxLen := by
 obtain ⟨v, h1, h2⟩ := h.box
 rcases h2.2 with ⟨rfl, h0⟩ | ⟨g, cap, cur, rfl, k1, k2, k3, k4, k5⟩
 ·exact ⟨none, 0, by rw [h0]; exact h1, by rw [h0] at h2 ⊢; exact h2, by omega, by unfold maxLen; omega⟩
 ·exact ⟨_, cap, h1, h2, k3, k4⟩
def RowB (W : World) (F k : Nat) : Prop := ∃ cs v, W.heap[F]? = some (.cells cs 126 (0, 0)) ∧ cs[3]? = some v ∧ v.ownBlock = some k
theorem RowB.of {W : World} {F k : Nat} {a b c v d e : Value} (h : W.heap[F]? = some (.cells #[a, b, c, v, d, e] 126 (0, 0))) : RowB W F k ↔ v.ownBlock = some k := by
 constructor
 ·rintro ⟨cs, u, h1, h2, h3⟩
  rw [h] at h1
  simp only [Option.some.injEq, Obj.cells.injEq, and_true] at h1
  subst h1
  simp at h2
  subst h2
  exact h3
 ·exact fun h1 => ⟨_, v, h, rfl, h1⟩
theorem declare_any {F m B : Nat} {a : Int} {nm : Bs} {ps mk : Int} {vars : List Bs} (s : Bs) (w : World) (h : OpenAt w F m B a nm ps mk vars) (hB : B ≤ w.heap.size) (hs : s.length ≤ maxLen) (hl : vars.length ≤ 100000) :
  Calls Tryz.prog 141 #[.pointer (some ⟨F, 0, none⟩), .string (bs s)] w fun e w' => e = .returned (.tuple #[]) ∧ OpenAt w' F m B a nm ps mk (withN vars s) ∧ Only (fun k => k = F ∨ k = m ∨ B ≤ k) w w' ∧ Only (fun k => k = F ∨ k = m ∨ RowB w F k) w w' ∧ ∀ k, RowB w' F k → RowB w F k ∨ w.heap.size ≤ k := by
 obtain ⟨A, c, hbox, hrow, hca, hcm⟩ := h.form
 have hm1 : c ≤ 9223372036854775807 := hcm
 obtain ⟨q, hrun, -⟩ := h.map.look s hs
 have c5 := cell_of_row w F 5 _ _ _ hbox
 simp at c5
 have HO := Lib.hid (And.intro h (And.intro hbox (And.intro hrow hB)))
 by_cases hin : s ∈ vars
 ·have HW := Lib.hid (show withN vars s = vars by unfold withN; rw [if_pos hin])
  rw [decide_eq_true hin] at hrun
  clear hin h hbox hrow hB hcm
  go_enter Tryz.func141, Tryz.ntmps141
  go_wp2
  refine bodyPost_ret (results_none rfl _ _ _) rfl ?_
  exact ⟨rfl, by rw [HW.out]; exact HO.out.1, Only.refl _ _, Only.refl _ _, fun k h => .inl h⟩
 ·have HW := Lib.hid (show withN vars s = vars ++ [s] by unfold withN; rw [if_neg hin])
  rw [decide_eq_false hin] at hrun
  have c3 := cell_of_row w F 3 _ _ _ hbox
  simp at c3
  obtain ⟨w1, hput, hp1, ht1⟩ := PlacesAt.put (W := w.drew) (m := m) (vars := vars) h.map s hs hin (by omega)
  have HP := Lib.hid (And.intro hp1 ht1)
  have hne := h.ne
  have hg1 := ht1.grown
  have hF1 : w1.heap[F]? = w.heap[F]? := hg1.block F (heap_lt hbox) (by simp; omega)
  have hbox1 := hF1.trans hbox
  have d3 := cell_of_row w1 F 3 _ _ _ hbox1
  have fr1 := frozen_of_row w1 F 3 _ _ hbox1
  simp at d3
  have hrow1 : w1.ownsRow B 9 1 (.slice A vars.length c) vars.length (namesV vars) := ⟨hrow.1, hrow.2.imp id fun ⟨g, cap, cur, e1, e2, e3, e4⟩ => ⟨g, cap, cur, e1, e2, (hg1.block g (heap_lt e3) (by simp; omega)).trans e3, e4⟩⟩
  have hz1 : w.heap.size ≤ w1.heap.size := hg1.size
  have hal : Below w1.heap.size w1 (w1.alloc (.cells #[.string (bs s)] 9)) := (Below.refl _ _).alloc (Nat.le_refl _) _
  have hrow2 : (w1.alloc (.cells #[.string (bs s)] 9)).ownsRow B 9 1 (.slice A vars.length c) vars.length (namesV vars) := ⟨hrow1.1, hrow1.2.imp id fun ⟨g, cap, cur, e1, e2, e3, e4⟩ => ⟨g, cap, cur, e1, e2, (hal.block g (heap_lt e3)).trans e3, e4⟩⟩
  obtain ⟨i0, j0, j1, j2, j3⟩ := info_parts info9s
  obtain ⟨v', w3, r1, r2, r3, -, r5⟩ := run_append_own_at (P := Tryz.prog) (w1.alloc (.cells #[.string (bs s)] 9)) B 46 46 9 i0 _ 1 16 Tryz.underlying46 j0 j1 j2 j3 rfl (by decide) (.slice A vars.length c) vars.length _ hrow2 ⟨w1.heap.size, 0, none⟩ 1 1 [.string (bs s)] rfl (fun j u hj => by
   rw [add_mid, cell_of_row _ _ _ _ _ _ (heap_alloc_new w1 _)]
   simpa using hj) (fun u hu => by simp at hu; subst hu; rfl) (by unfold maxLen; omega) (by omega) (by simp; omega)
  obtain ⟨A3, c3', rfl⟩ : ∃ A c, v' = .slice A (vars.length + 1) c := by
   rcases r2.2 with ⟨-, h0⟩ | ⟨g, cap, cur, e, -⟩
   ·omega
   ·exact ⟨_, _, e⟩
  have hge : ∀ k, (Value.slice A vars.length c).ownBlock = some k → B ≤ k := fun k hk => (own_lt hrow hk).1
  have hF3 : w3.heap[F]? = w1.heap[F]? := (r3.block F (by have := heap_lt hbox1; simp; omega) (fun e => by have := hge F e.symm; omega)).trans (hal.block F (heap_lt hbox1))
  have hbox3 := hF3.trans hbox1
  have fr3 := frozen_of_row w3 F 3 _ _ hbox3
  have e3 := cell_of_row w3 F 3 _ _ _ hbox3
  simp at e3
  have hm3 : w3.heap[m]? = w1.heap[m]? := (r3.block m (by have := hp1.lt; simp; omega) (fun e => by have := hge m e.symm; omega)).trans (hal.block m hp1.lt)
  have hfin : OpenAt (w3.setCell ⟨F, 3, none⟩ (.slice A3 (vars.length + 1) c3')) F m B a nm ps mk (vars ++ [s]) := by
   refine ⟨⟨.slice A3 (vars.length + 1) c3', by have := blk_set hbox3 3 (.slice A3 (vars.length + 1) c3'); simpa using this, ?_⟩, hp1.keep ((heap_setCell_other w3 ⟨F, 3, none⟩ m _ hne.1).trans hm3), hne⟩
   have e : namesV (vars ++ [s]) = namesV vars ++ [.string (bs s)] := by simp [namesV]
   rw [e, List.length_append]
   exact ⟨r2.1, r2.2.imp id fun ⟨g, cap, cur, e1, e2, e3, e4⟩ => ⟨g, cap, cur, e1, e2, (heap_setCell_other w3 ⟨F, 3, none⟩ g _ (by show g ≠ F; omega)).trans e3, e4⟩⟩
  have hon : Only (fun k => k = F ∨ k = m ∨ B ≤ k) w (w3.setCell ⟨F, 3, none⟩ (.slice A3 (vars.length + 1) c3')) :=
   ((((Only.refl _ w).drew.trans' (Only.grown hg1 (fun r hr => by cases hr; exact .inr (.inl rfl)))).trans' (Only.of_below hal)).trans' (Only.grown r3 (fun r hr => .inr (.inr (hge r hr))))).trans' (Only.setCell w3 (.inl rfl) 3 _)
  have hrb := fun k => RowB.of (k := k) hbox
  have hon2 : Only (fun k => k = F ∨ k = m ∨ RowB w F k) w (w3.setCell ⟨F, 3, none⟩ (.slice A3 (vars.length + 1) c3')) :=
   ((((Only.refl _ w).drew.trans' (Only.grown hg1 (fun r hr => by cases hr; exact .inr (.inl rfl)))).trans' (Only.of_below hal)).trans' (Only.grown r3 (fun r hr => .inr (.inr ((hrb r).2 hr))))).trans' (Only.setCell w3 (.inl rfl) 3 _)
  have hnew : ∀ k, RowB (w3.setCell ⟨F, 3, none⟩ (.slice A3 (vars.length + 1) c3')) F k → RowB w F k ∨ w.heap.size ≤ k := fun k hk => by
   have hb9 := blk_set hbox3 3 (.slice A3 (vars.length + 1) c3')
   simp at hb9
   rw [RowB.of hb9] at hk
   rcases r5 with h5 | h5
   ·exact .inl ((hrb k).2 (h5 ▸ hk))
   ·rw [hk] at h5
    simp at h5
    right
    omega
  have HR := Lib.hid r1
  have HF := Lib.hid (And.intro hfin (And.intro hon (And.intro hon2 hnew)))
  clear hin h hbox hrow hB hcm hp1 ht1 hg1 hF1 hbox1 hrow1 hal hrow2 r1 r2 r3 r5 hge hF3 hbox3 hm3 hfin hon hon2 hnew hrb j0 j1 j2 j3 hne
  go_enter Tryz.func141, Tryz.ntmps141
  go_wp2_with fail
  go_region
  go_wp2_with (at_builtin; refine wl_app rfl _ _ 46 rfl _ _ rfl rfl (fun v w => v = .slice A3 (vars.length + 1) c3' ∧ w = w3) ⟨_, _, HR.out, rfl, rfl⟩ ?_; rintro v5 w5 ⟨rfl, rfl⟩)
  go_end0
  exact ⟨rfl, by rw [HW.out]; exact HF.out.1, HF.out.2⟩
end
section
open Go.RowKit Go.Proofs
theorem declared_in (n : Nat) (b : Tr) (A : Option Addr) (c : Nat) (w : World) : CallsIn Fence.wide n Tryz.prog 142 #[.agg #[.int .i64 b.op, .string (bs b.s), .int .i64 b.n, .slice A b.l.length c, .int .i64 b.line]] w fun e w' => e = .returned (.func (.func 149) #[] #[.pointer (some ⟨w.heap.size, 0, none⟩)]) ∧ w' = w.alloc (.cells #[.int .i64 b.op, .string (bs b.s), .int .i64 b.n, .slice A b.l.length c, .int .i64 b.line] 24) := by
 refine callsIn_of_wp Tryz.func142 rfl trivial ?_ rfl
 simp only [Tryz.ntmps142, List.size_toArray, List.length_cons, List.length_nil, Nat.reduceAdd, Nat.reduceSub, Array.replicate_succ, Array.replicate_zero, List.push_toArray, List.append_toArray, List.nil_append, List.cons_append]
 gi_wp2
 go_ret
 exact ⟨rfl, rfl⟩
theorem declared_seq (n Bp : Nat) (b : Tr) (A : Option Addr) (c : Nat) (w0 : World) (S : Nat → Prop) (mine : World → Nat → Prop) (w : World) (hT : TreeAt w0 S b (.agg #[.int .i64 b.op, .string (bs b.s), .int .i64 b.n, .slice A b.l.length c, .int .i64 b.line])) (hS : ∀ k, S k → k < w0.heap.size) (hz : b.size ≤ 1000000)
  (hmn : ∀ W k, mine W k → w0.heap.size ≤ k) (hBp : w.heap[Bp]? = some (.cells #[.int .i64 b.op, .string (bs b.s), .int .i64 b.n, .slice A b.l.length c, .int .i64 b.line] 24 (0, 0))) (hn0 : Below w0.heap.size w0 w) :
  SeqRowsK Fence.wide n Tryz.prog 149 #[.pointer (some ⟨Bp, 0, none⟩)] (fun x => #[.string (bs x)]) mine (fun _ _ => True) (declS b) w := by
 intro lf J Jx W hW hJ hM hMs hY _ h0
 have hbx := (hW.block Bp (heap_lt hBp)).trans hBp
 have HD := Lib.hid (declares_any lf W.heap.size (declS b) mine J Jx w0 S hS hmn hJ hM hMs (fun pre x W1 h h' => yieldAt_any (hY pre x W1 h h')) b _ [] [] W hT (hn0.trans (hW.mono hn0.size)) hz h0 (by simp))
 have x0 := cell_of_row W Bp 0 _ _ _ hbx
 have x1 := cell_of_row W Bp 1 _ _ _ hbx
 have x2 := cell_of_row W Bp 2 _ _ _ hbx
 have x3 := cell_of_row W Bp 3 _ _ _ hbx
 have x4 := cell_of_row W Bp 4 _ _ _ hbx
 simp at x0 x1 x2 x3 x4
 clear hT hS hz hmn hBp hn0 hW hJ hM hMs hY h0 hbx
 refine callsIn_of_wp Tryz.func149 rfl trivial ?_ rfl
 simp only [Tryz.ntmps149, List.size_toArray, List.length_cons, List.length_nil, Nat.reduceAdd, Nat.reduceSub, Array.replicate_succ, Array.replicate_zero, List.push_toArray, List.append_toArray, List.nil_append, List.cons_append]
 gi_wp2_with fail
 refine ⟨trivial, fun h => absurd h (by simp [Fence.wide]), ?_⟩
 gi_at_call 150
 refine (callsIn_wide.2 HD.out).mono ?_
 rintro e w2 (⟨rfl, hJ2, -⟩ | ⟨rfl, pre', hpre', hJx'⟩)
 ·have HE := Lib.hid hJ2
  clear hJ2
  gi_wp2
  go_end0
  exact ⟨⟨_, rfl⟩, .inl (by simpa using HE.out)⟩
 ·have HE := Lib.hid (And.intro hpre' hJx')
  clear hpre' hJx'
  gi_wp2
  go_end0
  exact ⟨⟨_, rfl⟩, .inr ⟨_, HE.out.1, HE.out.2⟩⟩
end
end Go.Proofs.YtikbfoichhkeaaaGreat
