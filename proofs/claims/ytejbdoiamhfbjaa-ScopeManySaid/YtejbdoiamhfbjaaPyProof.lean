/- Which programs have too many functions, too many variables. No program. gumshoelaw05.lined. gumshoeref03.Same at trees that are alike but for their lines. gumshoeref05.SameFuns at the same functions. What the law of lines goes by. No program. The law ScopeLines: its walk. The law of many functions, many variables: its trees are good. No program. The law ScopeMany: its walk. The law ScopeMany: whatever the input, the call returns true and leaves what was there as it was. -/
import Derived.StillTailTactics
import Derived.BigQuiet
import Derived.Test.YtejbdoiamhfbjaaPm51
set_option linter.unusedSimpArgs false
set_option linter.unusedVariables false
namespace Go.Proofs.Ytejbdoiamhfbjaa
open Go.RowKit Go.Proofs
mutual
def Tr.norm : Tr → Tr
  | .mk o s n _ l => .mk o s n 0 (norms l)
def norms : List Tr → List Tr
  | [] => []
  | t :: r => t.norm :: norms r
end
theorem norm_mk (o : Int) (x : Bs) (k i : Int) (l : List Tr) : (Tr.mk o x k i l).norm = .mk o x k 0 (norms l) := by rw [Tr.norm]
theorem norms_map : ∀ l, norms l = l.map Tr.norm
  | [] => by rw [norms]; rfl
  | t :: r => by rw [norms, norms_map r]; rfl
mutual
def linedT (k : Int) : Tr → Tr
  | .mk op s n _ l => .mk op s n k (linedL k l)
def linedL (k : Int) : List Tr → List Tr
  | [] => []
  | t :: r => linedT k t :: linedL k r
end
mutual
theorem decl_lined (k : Int) : ∀ (t : Tr) (out : List Bs), decl (linedT k t) out = decl t out
  | .mk op s n line l, out => by
    simp only [linedT, decl]
    split <;> (split <;> first | rfl | exact decls_lined k l _)
theorem decls_lined (k : Int) : ∀ (l : List Tr) (out : List Bs), decls (linedL k l) out = decls l out
  | [], _ => rfl
  | t :: r, out => by
    simp only [linedL, decls]
    rw [decl_lined k t out, decls_lined k r _]
end
theorem linedL_map (k : Int) : ∀ l : List Tr, linedL k l = l.map (linedT k)
  | [] => rfl
  | t :: r => by simp [linedL, linedL_map k r]
theorem lined_s (k : Int) (t : Tr) : (linedT k t).s = t.s := by cases t; rfl
theorem openF_lined (k op : Int) (s : Bs) (l : List Tr) (a m : Int) : openF op s (linedL k l) a m = openF op s l a m := by
  have e1 : (linedL k l).dropLast.foldl (fun o t => withN o t.s) [] = l.dropLast.foldl (fun o t => withN o t.s) [] := by
    rw [linedL_map, ← List.map_dropLast, List.foldl_map]
    simp only [lined_s]
  have e2 : (linedL k l).getLast? = l.getLast?.map (linedT k) := by rw [linedL_map, List.getLast?_map]
  unfold openF
  simp only [e1, e2]
  cases l.getLast? with
  | none => rfl
  | some b => simp [decl_lined]
def lineA (k : Int) {α : Type} (f : α → α) : Except (Int × Int) (α × WS) → Except (Int × Int) (α × WS)
  | .ok (t, w) => .ok (f t, w)
  | .error (_, e) => .error (k, e)
mutual
theorem resT_lined (k : Int) : ∀ (t : Tr) (a : Int) (loop : Bool) (w : WS), resT (linedT k t) a loop w = lineA k (linedT k) (resT t a loop w)
  | .mk op s n line l, a, loop, w => by
    simp only [linedT, resT, openF_lined]
    split
    · split
      · rfl
      · rw [resL_lined k l]
        cases resL l w.funs.length false _ with
        | error x => rfl
        | ok x => rfl
    · split
      · rw [resL_lined k l]
        cases resL l a loop _ with
        | error x => rfl
        | ok x => rfl
      · split
        · cases findN w.funs w.funs.length a s with
          | none => rfl
          | some v =>
            simp only
            rw [resL_lined k l]
            cases resL l a _ w with
            | error x => rfl
            | ok x => rfl
        · split
          · rfl
          · rw [resL_lined k l]
            cases resL l a _ w with
            | error x => rfl
            | ok x => rfl
theorem resL_lined (k : Int) : ∀ (l : List Tr) (a : Int) (loop : Bool) (w : WS), resL (linedL k l) a loop w = lineA k (linedL k) (resL l a loop w)
  | [], _, _, _ => rfl
  | t :: r, a, loop, w => by
    simp only [linedL, resL]
    rw [resT_lined k t]
    cases resT t a loop w with
    | error x => rfl
    | ok x =>
      obtain ⟨t', w'⟩ := x
      simp only [lineA]
      rw [resL_lined k r]
      cases resL r a loop w' with
      | error x => rfl
      | ok x => rfl
end
theorem resolve_lined (k : Int) (p : Tr) : resolveT (linedT k p) = match resolveT p with
    | .error (_, e) => .error (k, e)
    | .ok (F, q) => .ok (F, linedT k q) := by
  rw [resolve_eq, resolve_eq, decl_lined]
  have e : rootF (linedT k p) = rootF p := by
    unfold rootF
    exact openF_lined k 41 [] [p] (-1) 0
  have el : (linedT k p).line = k := by cases p; rfl
  rw [e, el]
  split
  · rfl
  · rw [resT_lined]
    cases resT p 0 false ⟨[rootF p], 4⟩ with
    | error x => rfl
    | ok x => rfl
end Go.Proofs.Ytejbdoiamhfbjaa
namespace Go.Proofs.Ytejbdoiamhfbjaa
def fnT : Tr := .mk 41 [102] 0 0 [.mk 32 [] 0 0 []]
def blockT (l : List Tr) : Tr := .mk 32 [] 0 0 l
def codeE {α : Type} : Except (Int × Int) α → Int
  | .ok _ => 0
  | .error x => x.2
theorem fnT_res (w : WS) (h0 : 0 < w.funs.length) : resT fnT 0 false w = if w.funs.length = 500 then .error (0, 52) else .ok (.mk 41 [102] w.funs.length 0 [.mk 32 [] 0 0 []], ⟨w.funs ++ [openF 41 [102] [.mk 32 [] 0 0 []] 0 w.mark], w.mark + 2⟩) := by
  have hv : (openF 41 [102] [.mk 32 [] 0 0 []] 0 w.mark).vars.length = 0 := rfl
  unfold fnT
  rw [resT, if_pos (show isFun 41 = true from rfl)]
  simp only [hv]
  by_cases h : w.funs.length = 500
  · rw [if_pos (.inl h), if_pos h]
  · rw [if_neg (by omega), if_neg h, if_neg (by omega)]
    rfl
theorem many_funs : ∀ (n : Nat) (w : WS), 0 < w.funs.length → w.funs.length ≤ 500 → codeE (resL (List.replicate n fnT) 0 false w) = if 500 < w.funs.length + n then 52 else 0
  | 0, w, _, h => by
    rw [if_neg (by omega)]
    rfl
  | n + 1, w, h0, h => by
    rw [List.replicate_succ, resL, fnT_res w h0]
    by_cases h5 : w.funs.length = 500
    · rw [if_pos h5, if_pos (by omega)]
      rfl
    · rw [if_neg h5]
      simp only
      have ih := many_funs n ⟨w.funs ++ [openF 41 [102] [.mk 32 [] 0 0 []] 0 w.mark], w.mark + 2⟩ (by simp) (by simp; omega)
      simp only [List.length_append, List.length_cons, List.length_nil] at ih
      rw [show w.funs.length + (n + 1) = w.funs.length + (0 + 1) + n by omega, ← ih]
      cases resL (List.replicate n fnT) 0 false _ with
      | error x => rfl
      | ok x => rfl
theorem decls_fns : ∀ n : Nat, (decls (List.replicate n fnT) [[102]]) = [[102]]
  | 0 => rfl
  | n + 1 => by
    rw [List.replicate_succ, decls]
    exact decls_fns n
theorem decl_fns (n : Nat) : (decl (blockT (List.replicate n fnT)) []).length ≤ 1 := by
  cases n with
  | zero => decide
  | succ n =>
    have : decl (blockT (List.replicate (n + 1) fnT)) [] = decls (List.replicate n fnT) [[102]] := rfl
    rw [this, decls_fns]
    decide
theorem block_code (l : List Tr) (w : WS) : codeE (resT (blockT l) 0 false w) = codeE (resL l 0 false w) := by
  unfold blockT
  rw [resT, if_neg (by decide), if_neg (by decide), if_neg (by decide), if_neg (by decide)]
  show codeE (nodeE 32 [] 0 0 (resL l 0 false w)) = _
  cases resL l 0 false w with
  | error x => rfl
  | ok x => rfl
theorem resolve_code (p : Tr) : codeE (resolveT p) = if 200 < (decl p []).length then 52 else codeE (resT p 0 false ⟨[rootF p], 4⟩) := by
  rw [resolve_eq]
  split
  · rfl
  · cases resT p 0 false ⟨[rootF p], 4⟩ with
    | error x => rfl
    | ok x => rfl
theorem many_first (n : Nat) : codeE (resolveT (blockT (List.replicate n fnT))) = if 500 < n + 1 then 52 else 0 := by
  rw [resolve_code, if_neg (by have := decl_fns n; omega), block_code, many_funs n _ (by simp) (by simp)]
  by_cases h : 500 < n + 1
  · rw [if_pos h, if_pos (by simp; omega)]
  · rw [if_neg h, if_neg (by simp; omega)]
def vee (i : Nat) : Bs := List.replicate (i + 1) 118
def varT (i : Nat) : Tr := .mk 30 (vee i) 0 0 []
theorem decls_vars : ∀ (n k : Nat), decls ((List.range' k n).map varT) ((List.range k).map vee) = (List.range (k + n)).map vee
  | 0, k => rfl
  | n + 1, k => by
    rw [List.range'_succ, List.map_cons, decls]
    have e : decl (varT k) ((List.range k).map vee) = (List.range (k + 1)).map vee := by
      have hn : vee k ∉ (List.range k).map vee := fun h => by
        obtain ⟨j, hj, e⟩ := List.mem_map.1 h
        have := congrArg List.length e
        simp [vee] at this
        have := List.mem_range.1 hj
        omega
      show withN ((List.range k).map vee) (vee k) = _
      unfold withN
      rw [if_neg hn, List.range_succ, List.map_append]
      rfl
    rw [e, decls_vars n (k + 1), show k + 1 + n = k + (n + 1) by omega]
theorem vars_code : ∀ (l : List Nat) (w : WS), codeE (resL (l.map varT) 0 false w) ≠ 52
  | [], w => by
    show (0 : Int) ≠ 52
    decide
  | i :: r, w => by
    rw [List.map_cons, resL]
    have e : ∃ x, resT (varT i) 0 false w = .error (0, 50) ∨ resT (varT i) 0 false w = .ok (x, w) := by
      unfold varT
      rw [resT, if_neg (by decide), if_neg (by decide), if_pos (by decide)]
      cases findN w.funs w.funs.length 0 (vee i) with
      | none => exact ⟨.zero, .inl rfl⟩
      | some v => exact ⟨_, .inr rfl⟩
    obtain ⟨x, e | e⟩ := e
    · rw [e]
      show (50 : Int) ≠ 52
      decide
    · rw [e]
      simp only
      have ih := vars_code r w
      cases h : resL (r.map varT) 0 false w with
      | error y => rw [h] at ih; exact ih
      | ok y => show (0 : Int) ≠ 52; decide
theorem many_second (n : Nat) : codeE (resolveT (blockT ((List.range' 0 n).map varT))) = 52 ↔ 200 < n := by
  have hd : (decl (blockT ((List.range' 0 n).map varT)) []).length = n := by
    have : decl (blockT ((List.range' 0 n).map varT)) [] = decls ((List.range' 0 n).map varT) ((List.range 0).map vee) := rfl
    rw [this, decls_vars]
    simp
  rw [resolve_code, hd]
  by_cases h : 200 < n
  · rw [if_pos h]
    exact ⟨fun _ => h, fun _ => rfl⟩
  · rw [if_neg h, block_code]
    exact ⟨fun e => absurd e (vars_code _ _), fun e => absurd e h⟩
end Go.Proofs.Ytejbdoiamhfbjaa
namespace Go.Proofs.Ytejbdoiamhfbjaa
open Go.RowKit Go.Proofs
theorem linedL_map9 (ln : Int) : ∀ l : List Tr, linedL ln l = l.map (linedT ln)
  | [] => by rw [linedL]; rfl
  | t :: r => by rw [linedL, linedL_map9 ln r]; rfl
theorem lined_eq (ln : Int) (t : Tr) : linedT ln t = .mk t.op t.s t.n ln (t.l.map (linedT ln)) := by
  cases t with | mk o s n i l =>
  rw [linedT, linedL_map9]
  rfl
set_option maxRecDepth 100000 in
set_option maxHeartbeats 4000000 in
theorem lined_any (ln : Int) (t : Tr) : ∀ (v : Value) (w : World) (S : Nat → Prop), TreeAt w S t v → (∀ k, S k → k < w.heap.size) → t.size ≤ 1000000 →
    Calls Try.prog 23 #[v, .int .i64 ln] w fun e w' => ∃ v', e = .returned v' ∧ TreeAt w' (New w w') ((linedT ln) t) v' ∧ Below w.heap.size w w' := by
  refine tree_ind (P := fun t => ∀ (v : Value) (w : World) (S : Nat → Prop), TreeAt w S t v → (∀ k, S k → k < w.heap.size) → t.size ≤ 1000000 → Calls Try.prog 23 #[v, .int .i64 ln] w fun e w' => ∃ v', e = .returned v' ∧ TreeAt w' (New w w') ((linedT ln) t) v' ∧ Below w.heap.size w w') ?_ t
  clear t
  intro t ih v w S hT hS hz
  obtain ⟨A, c, rfl, hrow, hfine⟩ := hT.form
  have hlen := length_le_sizes t.l
  have hsz := size_eq t
  obtain ⟨A1, c1, e1, hc1, hc2⟩ := hrow.slice
  injection e1 with e2 e3 e4
  subst e2 e4
  have hc3 : c ≤ 9223372036854775807 := hc2
  have HI := Lib.hid ih
  have hl3 : t.l.length ≤ 1000000 := by omega
  have HR := Lib.hid (And.intro hrow (And.intro hS (And.intro hfine (And.intro hz hsz))))
  have b1 := ((below_alloc9 (w.alloc (.cells #[.int .i64 t.op, .string (bs t.s), .int .i64 t.n, .slice A t.l.length c, .int .i64 ln] 24)) (.cells #[.int .i64 0, .string ⟨#[]⟩, .int .i64 0, .slice none 0 0, .int .i64 0] 24)).block w.heap.size (by simp)).trans (heap_alloc_new w (.cells #[.int .i64 t.op, .string (bs t.s), .int .i64 t.n, .slice A t.l.length c, .int .i64 ln] 24))
  have b2 := heap_alloc_new (w.alloc (.cells #[.int .i64 t.op, .string (bs t.s), .int .i64 t.n, .slice A t.l.length c, .int .i64 ln] 24)) (.cells #[.int .i64 0, .string ⟨#[]⟩, .int .i64 0, .slice none 0 0, .int .i64 0] 24)
  have hb := (below_alloc9 w (.cells #[.int .i64 t.op, .string (bs t.s), .int .i64 t.n, .slice A t.l.length c, .int .i64 ln] 24)).alloc (by simp) (.cells #[.int .i64 0, .string ⟨#[]⟩, .int .i64 0, .slice none 0 0, .int .i64 0] 24)
  have hz0 : ((w.alloc (.cells #[.int .i64 t.op, .string (bs t.s), .int .i64 t.n, .slice A t.l.length c, .int .i64 ln] 24)).alloc (.cells #[.int .i64 0, .string ⟨#[]⟩, .int .i64 0, .slice none 0 0, .int .i64 0] 24)).heap.size = w.heap.size + 2 := by simp
  rw [World.size_alloc] at b2
  go_enter Try.func23, Try.ntmps23
  clear hT ih hrow hS hfine hz hsz hlen hc2
  have HB0 := Lib.hid (And.intro b1 (And.intro b2 (And.intro hb hz0)))
  clear b1 b2 hb hz0
  go_upto_region 2 with fail
  obtain ⟨b1, b2, hb, hz0⟩ := HB0.out
  obtain ⟨W1, e1⟩ : ∃ W, ((w.alloc (.cells #[.int .i64 t.op, .string (bs t.s), .int .i64 t.n, .slice A t.l.length c, .int .i64 ln] 24)).alloc (.cells #[.int .i64 0, .string ⟨#[]⟩, .int .i64 0, .slice none 0 0, .int .i64 0] 24)) = W := ⟨_, rfl⟩
  rw [e1] at b1 b2 hb hz0 ⊢
  clear e1 HB0
  all_goals
    have hz1 := hz0
    have HB := Lib.hid (And.intro b1 (And.intro b2 (And.intro hb hz0)))
    clear b1 b2 hb hz0
    go_wp2_with fail
    go_loopw [5, 6] (fun l i wr => ∃ (k : Nat), k ≤ t.l.length ∧ i = .int .i64 k ∧ AccAt (w.heap.size + 2) wr ((t.l.take k).map (linedT ln)) l ∧ Below W1.heap.size W1 wr) (fun _ i _ => t.l.length - (intOf i).toNat)
    case atStart => exact ⟨0, Nat.zero_le _, rfl, AccAt.nil _ _, Below.refl _ _⟩
    case round =>
      obtain ⟨k, hk, rfl, hac, hb⟩ := hrel
      obtain ⟨acc, eacc⟩ : ∃ a, (t.l.take k).map (linedT ln) = a := ⟨_, rfl⟩
      rw [eacc] at hac
      have hal : acc.length = k := by rw [← eacc, List.length_map, List.length_take]; omega
      have EA := Lib.hid (And.intro eacc hal)
      clear eacc hal
      obtain ⟨A0, c0, rfl, -, -⟩ := hac.slice
      have hzr := hb.size
      have b1 := (hb.block w.heap.size (by omega)).trans HB.out.1
      have b2 := (hb.block (w.heap.size + 1) (by omega)).trans HB.out.2.1
      have x0 := cell_of_row wr _ 0 _ _ _ b1
      have x1 := cell_of_row wr _ 1 _ _ _ b1
      have x2 := cell_of_row wr _ 2 _ _ _ b1
      have x3 := cell_of_row wr _ 3 _ _ _ b1
      have x4 := cell_of_row wr _ 4 _ _ _ b1
      simp at x0 x1 x2 x3 x4
      have hbw : Below w.heap.size w wr := HB.out.2.2.1.trans (hb.mono (by omega))
      by_cases hlt : k < t.l.length
      · obtain ⟨g, off, p, A', c', rfl, hSg, hp, hT, y0, y1, y2, y3, y4⟩ := part_get HR.out.1 k hlt
        have hgl := HR.out.2.1 g hSg
        replace y0 := (hbw.cell (p := ⟨g, off + k * 5, none⟩) hgl).trans y0
        replace y1 := (hbw.cell (p := ⟨g, off + k * 5 + 1, none⟩) hgl).trans y1
        replace y2 := (hbw.cell (p := ⟨g, off + k * 5 + 2, none⟩) hgl).trans y2
        replace y3 := (hbw.cell (p := ⟨g, off + k * 5 + 3, none⟩) hgl).trans y3
        replace y4 := (hbw.cell (p := ⟨g, off + k * 5 + 4, none⟩) hgl).trans y4
        have g1 : (k : Int) < t.l.length := by omega
        have hps := size_part (t := t) (List.mem_of_getElem? hp)
        have HC := Lib.hid (HI.out p hps _ wr S (hT.keep (fun _ h => h) fun i hi => hbw.block i (HR.out.2.1 i hi)) (fun i hi => by have := HR.out.2.1 i hi; omega) (by have := HR.out.2.2.2.1; omega))
        have HK := Lib.hid (And.intro hac (And.intro hb (And.intro hp hzr)))
        clear hac hb hp hps hT hbw b1 b2 hzr
        go_wp2_with fail
        go_at_call 23
        refine HC.out.mono ?_
        rintro e w6 ⟨v6, rfl, t6, hb6⟩
        obtain ⟨A6, c6, rfl, -, -⟩ := t6.form
        have z6 := hb6.size
        have hzk := HK.out.2.2.2
        have hac6 := HK.out.1.fr (Fr.of_below (R := w.heap.size) hb6 (Nat.le_refl _)) (by omega)
        have HP := Lib.hid (AccAt.push (R := w.heap.size) (w := w6) hac6 (HK.out.1.fresh t6 (by omega)) (by have := EA.out.2; omega) (by omega) 22 #[.int .i64 ((linedT ln) p).op, .string (bs ((linedT ln) p).s), .int .i64 ((linedT ln) p).n, .slice A6 ((linedT ln) p).l.length c6, .int .i64 ((linedT ln) p).line] rfl)
        have HA6 := Lib.hid (And.intro hac6 hb6)
        clear hac6 hb6 t6 x0 x1 x2 x3 x4 y0 y1 y2 y3 y4
        go_wp2_with (at_builtin; refine wl_app rfl _ _ 22 rfl _ (.slice (some ⟨w6.heap.size, 0, none⟩) 1 1) rfl rfl _ HP.out ?_; rintro u w7 ⟨hacc, hon, A7, c7, rfl⟩; have M7 := Lib.hid (And.intro hacc hon); clear hacc hon)
        clear HP
        go_roundw
        case rel => exact ⟨k + 1, by omega, by go_num, by
          rw [List.take_add_one, HK.out.2.2.1, List.map_append, EA.out.1]
          exact M7.out.1, (HK.out.2.1.trans (HA6.out.2.mono HK.out.2.1.size)).trans (M7.out.2.below (by omega) (fun i hi => by have := (own_blk HA6.out.1 hi).1; omega))⟩
        case measure => simp [intOf]; omega
      · obtain rfl : k = t.l.length := by omega
        have g1 : ¬ (t.l.length : Int) < t.l.length := by omega
        have y0 := cell_of_row wr _ 0 _ _ _ b2
        have y1 := cell_of_row wr _ 1 _ _ _ b2
        have y2 := cell_of_row wr _ 2 _ _ _ b2
        have y3 := cell_of_row wr _ 3 _ _ _ b2
        have y4 := cell_of_row wr _ 4 _ _ _ b2
        have f1 := frozen_of_row wr _ 3 _ _ b1
        have z0 := frozen_of_row wr _ 0 _ _ b2
        have z1 := frozen_of_row wr _ 1 _ _ b2
        have z2 := frozen_of_row wr _ 2 _ _ b2
        have z3 := frozen_of_row wr _ 3 _ _ b2
        have z4 := frozen_of_row wr _ 4 _ _ b2
        simp at y0 y1 y2 y3 y4
        have l1 := heap_lt b1
        have l2 := heap_lt b2
        have eall : acc = t.l.map (linedT ln) := by rw [← EA.out.1, List.take_of_length_le (Nat.le_refl _)]
        obtain ⟨n0, hn0⟩ : ∃ n0, acc.length = n0 := ⟨_, rfl⟩
        rw [hn0] at hac ⊢
        have EL := Lib.hid eall
        clear eall hn0
        have hF := fin5 (W := wr) (b1 := w.heap.size) (L := .slice A0 n0 c0) (a := .int .i64 t.op) (b := .string (bs t.s)) (c := .int .i64 t.n) (d := .slice A0 n0 c0) (e := .int .i64 ln) (by omega) b2
        have hO := fin5_only wr w.heap.size (w.heap.size + 1) (.slice A0 n0 c0) (.int .i64 t.op) (.string (bs t.s)) (.int .i64 t.n) (.slice A0 n0 c0) (.int .i64 ln)
        have HF := Lib.hid (And.intro hF (And.intro hO (And.intro hac (And.intro hbw hzr))))
        clear b1 b2 hF hO hac hb hbw hzr
        go_wp2
        obtain ⟨hF, hO, hac, hbw, hzr⟩ := HF.out
        obtain ⟨WF, eF⟩ : ∃ W, ((((((wr.setCell ⟨w.heap.size, 3, none⟩ (.slice A0 n0 c0)).setCell ⟨w.heap.size + 1, 0, none⟩ (.int .i64 t.op)).setCell ⟨w.heap.size + 1, 1, none⟩ (.string (bs t.s))).setCell ⟨w.heap.size + 1, 2, none⟩ (.int .i64 t.n)).setCell ⟨w.heap.size + 1, 3, none⟩ (.slice A0 n0 c0)).setCell ⟨w.heap.size + 1, 4, none⟩ (.int .i64 ln)) = W := ⟨_, rfl⟩
        rw [eF] at hF hO ⊢
        have r0 := cell_of_row WF _ 0 _ _ _ hF
        have r1 := cell_of_row WF _ 1 _ _ _ hF
        have r2 := cell_of_row WF _ 2 _ _ _ hF
        have r3 := cell_of_row WF _ 3 _ _ _ hF
        have r4 := cell_of_row WF _ 4 _ _ _ hF
        simp at r0 r1 r2 r3 r4
        refine bodyPost_ret (v := .agg #[.int .i64 t.op, .string (bs t.s), .int .i64 t.n, .slice A0 n0 c0, .int .i64 ln]) (by simp [results, Try.results23, go_sem, r0, r1, r2, r3, r4]) rfl ⟨_, rfl, ?_, ?_⟩
        · rw [lined_eq, ← EL.out]
          exact TreeAt.mk (hac.row.keep (fun i hi => ⟨by omega, by have := hO.size; omega⟩) (fun i hi => hO.block i hi.2 (by rintro (e | e) <;> omega))) HR.out.2.2.1
        · exact hbw.trans (hO.below hbw.size (fun i hi => by rcases hi with rfl | rfl <;> omega))
end Go.Proofs.Ytejbdoiamhfbjaa
namespace Go.Proofs.Ytejbdoiamhfbjaa
open Go.RowKit Go.Proofs
set_option maxRecDepth 100000 in
set_option maxHeartbeats 4000000 in
theorem rsame_like (a : Tr) : ∀ (b : Tr) (va vb : Value) (w : World), a.norm = b.norm → At w w.heap.size a va → At w w.heap.size b vb →
    Calls Try.prog 18 #[va, vb] w fun e w' => e = .returned (.bool true) ∧ Below w.heap.size w w' := by
  refine tree_ind (P := fun a => ∀ (b : Tr) (va vb : Value) (w : World), a.norm = b.norm → At w w.heap.size a va → At w w.heap.size b vb → Calls Try.prog 18 #[va, vb] w fun e w' => e = .returned (.bool true) ∧ Below w.heap.size w w') ?_ a
  clear a
  intro a ih b va vb w heq ha hb
  have IH := Lib.hid ih
  clear ih
  rw [At_iff] at ha hb
  obtain ⟨ua, rfl, ⟨A, ca, rfl, hca, ha⟩, hsa⟩ := ha
  obtain ⟨ub, rfl, ⟨B, cb, rfl, hcb, hb⟩, hsb⟩ := hb
  have HA := Lib.hid ha
  have HB := Lib.hid hb
  have h9 : a.op = b.op ∧ a.s = b.s ∧ a.n = b.n ∧ a.l.map Tr.norm = b.l.map Tr.norm := by
    cases a
    cases b
    rw [norm_mk, norm_mk, norms_map, norms_map] at heq
    injection heq with q1 q2 q3 q4 q5
    exact ⟨q1, q2, q3, q5⟩
  obtain ⟨h1, h2, h3, hmap⟩ := h9
  have h4 : a.l.length = b.l.length := by simpa using congrArg List.length hmap
  have IH := Lib.hid (fun u (hu : u ∈ a.l) => IH.out u (size_part hu))
  have hpt : ∀ (k : Nat) x y, a.l[k]? = some x → b.l[k]? = some y → x.norm = y.norm := fun k x y hx hy => by
    have := congrArg (·[k]?) hmap
    simpa [hx, hy] using this
  unfold nodeV
  rw [← h4] at HB hcb ⊢
  rw [← h1, ← h2, ← h3]
  obtain ⟨la, ela⟩ : ∃ x, a.l = x := ⟨_, rfl⟩
  obtain ⟨lb, elb⟩ : ∃ x, b.l = x := ⟨_, rfl⟩
  rw [ela] at HA IH hca hcb hpt h4 ⊢
  rw [ela] at HB
  rw [elb] at HB hpt h4
  obtain ⟨len, el⟩ : ∃ k, la.length = k := ⟨_, rfl⟩
  have HL := Lib.hid el
  have HLb := Lib.hid (h4.symm.trans el)
  rw [el] at HA HB hca hcb ⊢
  obtain ⟨oa, eoa⟩ : ∃ x, a.op = x := ⟨_, rfl⟩
  obtain ⟨na, ena⟩ : ∃ x, a.n = x := ⟨_, rfl⟩
  obtain ⟨sa, esa⟩ : ∃ x, a.s = x := ⟨_, rfl⟩
  obtain ⟨ia, eia⟩ : ∃ x, a.line = x := ⟨_, rfl⟩
  obtain ⟨ib, eib⟩ : ∃ x, b.line = x := ⟨_, rfl⟩
  rw [eoa, ena, esa, eia, eib]
  clear elb eib eoa ena esa eia ela h4 el hsa hsb ha hb h1 h2 h3 hmap heq
  have HPt := Lib.hid hpt
  have hca' := hca
  have hcb' := hcb
  unfold maxLen at hca' hcb'
  clear hpt hca hcb
  go_enter Try.func18, Try.ntmps18
  go_wp2
  obtain ⟨w2, hw2⟩ : ∃ x, ((w.alloc (.cells #[.int .i64 oa, .string (bs sa), .int .i64 na, .slice A len ca, .int .i64 ia] 24)).alloc (.cells #[.int .i64 oa, .string (bs sa), .int .i64 na, .slice B len cb, .int .i64 ib] 24)) = x := ⟨_, rfl⟩
  obtain ⟨hsz, hbel, c1, c2⟩ : w2.heap.size = w.heap.size + 2 ∧ Below w.heap.size w w2 ∧ w2.cell? ⟨w.heap.size, 3, none⟩ = some (.slice A len ca) ∧ w2.cell? ⟨w.heap.size + 1, 3, none⟩ = some (.slice B len cb) := by
    subst hw2
    refine ⟨by simp, ((Below.refl _ w).alloc (Nat.le_refl _) _).alloc (by simp) _, by go_simp, by go_simp⟩
  rw [hw2]
  clear hw2
  go_loopw [5] (fun i wr => ∃ k : Nat, k ≤ len ∧ i = .int .i64 k ∧ Below w2.heap.size w2 wr) (fun i _ => len - (intOf i).toNat)
  case atStart => exact ⟨0, Nat.zero_le _, rfl, Below.refl _ _⟩
  case round =>
    obtain ⟨k, hk, rfl, hB⟩ := hrel
    have d1 := (hB.cell (p := ⟨w.heap.size, 3, none⟩) (by simp; omega)).trans c1
    have d2 := (hB.cell (p := ⟨w.heap.size + 1, 3, none⟩) (by simp; omega)).trans c2
    have hbw := hbel.trans (hB.mono (by omega))
    by_cases hlt : k < len
    · obtain ⟨ga, fa, rfl, hga, HA⟩ := HA.out (by have := HL.out; omega)
      obtain ⟨gb, fb, rfl, hgb, HB⟩ := HB.out (by have := HL.out; omega)
      obtain ⟨x, ex⟩ : ∃ x, la[k]? = some x := ⟨_, List.getElem?_eq_getElem (by rw [HL.out]; exact hlt)⟩
      obtain ⟨y, ey⟩ : ∃ x, lb[k]? = some x := ⟨_, List.getElem?_eq_getElem (by rw [HLb.out]; exact hlt)⟩
      obtain ⟨vx, hx, x0, x1, x2, x3, x4⟩ := AtL.get la k x (AtL.keep (W' := wr) (n' := w.heap.size) la HA hga (Nat.le_refl _) fun _ hp => hbw.cell hp) ex
      obtain ⟨vy, hy, y0, y1, y2, y3, y4⟩ := AtL.get lb k y (AtL.keep (W' := wr) (n' := w.heap.size) lb HB hgb (Nat.le_refl _) fun _ hp => hbw.cell hp) ey
      have IHk := Lib.hid (IH.out x (List.mem_of_getElem? ex) y _ _ wr.drew (HPt.out k x y ex ey) (At.keep (n' := wr.heap.size) x hx (by have := hB.size; omega) fun _ _ => rfl) (At.keep (n' := wr.heap.size) y hy (by have := hB.size; omega) fun _ _ => rfl))
      clear HA HB hx hy ex ey
      go_wp2
      go_still_tail 10, (by kernel_rfl)
      change wpList _ _ _ _ _ wr.drew
      go_wp2_with (go_at_call 18; refine IHk.out.mono ?_; rintro e w' ⟨rfl, hb⟩)
      go_roundw
      case rel => exact ⟨k + 1, by omega, by go_num, hB.drew.trans (hb.mono hB.size)⟩
      case measure => simp [intOf]; omega
    · obtain rfl : k = len := by omega
      go_wp2
      go_ret
      exact ⟨rfl, hbw⟩
end Go.Proofs.Ytejbdoiamhfbjaa
namespace Go.Proofs.Ytejbdoiamhfbjaa
open Go.RowKit Go.Proofs
theorem cell_lt9 {W : World} {b o : Nat} {v : Value} (h : W.cell? ⟨b, o, none⟩ = some v) : b < W.heap.size := by
  refine Nat.lt_of_not_le fun hn => ?_
  have e : W.heap[b]? = none := Array.getElem?_eq_none hn
  simp [World.cell?, e] at h
set_option maxRecDepth 100000 in
set_option maxHeartbeats 4000000 in
theorem samefuns_self (fs : List Fn) (W : World) (B B' : Nat) (v v' : Value) (h : FunsV W B v fs) (h' : FunsV W B' v' fs) (hv : ∀ f ∈ fs, f.vars.length ≤ 200) :
    Calls Try.prog 15 #[v, v'] W fun e w' => e = .returned (.bool true) ∧ Below W.heap.size W w' := by
  obtain ⟨A, c, rfl, hc1, hc2⟩ := h.form
  obtain ⟨A', c', rfl, hc1', hc2'⟩ := h'.form
  have H := Lib.hid (And.intro h h')
  have hfs : fs.length ≤ 9223372036854775807 := by unfold maxLen at hc2; omega
  have HV := Lib.hid hv
  clear h h' hv hc1 hc2 hc1' hc2'
  go_enter Try.func15, Try.ntmps15
  go_wp2
  go_loopw [5] (fun i wr => ∃ (k : Nat), k ≤ fs.length ∧ i = .int .i64 k ∧ Below W.heap.size W wr) (fun i _ => fs.length - (intOf i).toNat)
  case atStart => exact ⟨0, Nat.zero_le _, rfl, Below.refl _ _⟩
  case round =>
    obtain ⟨k, hk, rfl, hb⟩ := hrel
    by_cases hlt : k < fs.length
    · obtain ⟨f, hf⟩ : ∃ f, fs[k]? = some f := ⟨_, List.getElem?_eq_getElem hlt⟩
      have g1 : (k : Int) < fs.length := by omega
      obtain ⟨gf, cf, As, cs, ev, m0, m1, m2, m3, m4, hnm⟩ := (H.out.1.below hb).get hf
      injection ev with ea eb ec
      subst ea ec
      obtain ⟨gf', cf', As', cs', ev', n0, n1, n2, n3, n4, hnm'⟩ := (H.out.2.below hb).get hf
      injection ev' with ea' eb' ec'
      subst ea' ec'
      have hv9 := HV.out f (List.mem_of_getElem? hf)
      have hl0 := cell_lt9 n0
      have hl9 := cell_lt9 m0
      have b1 := ((below_alloc9 (wr.alloc (.cells #[.int .i64 f.around, .string (bs f.name), .int .i64 f.params, .slice As f.vars.length cs, .int .i64 f.mark] 43)) (.cells #[.int .i64 f.around, .string (bs f.name), .int .i64 f.params, .slice As' f.vars.length cs', .int .i64 f.mark] 43)).block wr.heap.size (by simp)).trans (heap_alloc_new wr (.cells #[.int .i64 f.around, .string (bs f.name), .int .i64 f.params, .slice As f.vars.length cs, .int .i64 f.mark] 43))
      have b2 := heap_alloc_new (wr.alloc (.cells #[.int .i64 f.around, .string (bs f.name), .int .i64 f.params, .slice As f.vars.length cs, .int .i64 f.mark] 43)) (.cells #[.int .i64 f.around, .string (bs f.name), .int .i64 f.params, .slice As' f.vars.length cs', .int .i64 f.mark] 43)
      have hb2 := (below_alloc9 wr (.cells #[.int .i64 f.around, .string (bs f.name), .int .i64 f.params, .slice As f.vars.length cs, .int .i64 f.mark] 43)).alloc (by simp) (.cells #[.int .i64 f.around, .string (bs f.name), .int .i64 f.params, .slice As' f.vars.length cs', .int .i64 f.mark] 43)
      rw [World.size_alloc] at b2
      obtain ⟨W2, e2⟩ : ∃ W2, (wr.alloc (.cells #[.int .i64 f.around, .string (bs f.name), .int .i64 f.params, .slice As f.vars.length cs, .int .i64 f.mark] 43)).alloc (.cells #[.int .i64 f.around, .string (bs f.name), .int .i64 f.params, .slice As' f.vars.length cs', .int .i64 f.mark] 43) = W2 := ⟨_, rfl⟩
      have hz2 : W2.heap.size = wr.heap.size + 2 := by rw [← e2]; simp
      rw [e2] at b1 b2 hb2
      have hn2 : ∀ j s, f.vars[j]? = some s → ∃ b, As = some ⟨b, 0, none⟩ ∧ W2.cell? ⟨b, j, none⟩ = some (.string (bs s)) ∧ b < W2.heap.size := fun j s hs => by
        obtain ⟨b, e, hc⟩ := hnm j s hs
        have hl := cell_lt9 hc
        exact ⟨b, e, (hb2.cell (p := ⟨b, j, none⟩) hl).trans hc, by omega⟩
      have hn3 : ∀ j s, f.vars[j]? = some s → ∃ b, As' = some ⟨b, 0, none⟩ ∧ W2.cell? ⟨b, j, none⟩ = some (.string (bs s)) ∧ b < W2.heap.size := fun j s hs => by
        obtain ⟨b, e, hc⟩ := hnm' j s hs
        have hl := cell_lt9 hc
        exact ⟨b, e, (hb2.cell (p := ⟨b, j, none⟩) hl).trans hc, by omega⟩
      have HN := Lib.hid (And.intro hn2 (And.intro hn3 (And.intro hb (And.intro hb2 (And.intro b1 (And.intro b2 e2))))))
      obtain ⟨x0, x1, x2, x3, x4⟩ := (box_facts b1).1
      obtain ⟨y0, y1, y2, y3, y4⟩ := (box_facts b2).1
      clear hn2 hn3 hb hb2 b1 b2 e2 hnm hnm' hf
      go_upto_region 8 with fail
      rw [HN.out.2.2.2.2.2.2]
      clear m0 m1 m2 m3 m4 n0 n1 n2 n3 n4 hl0 hl9
      go_wp2_with fail
      go_loopw [8] (fun i wr => ∃ (j : Nat), j ≤ f.vars.length ∧ i = .int .i64 j ∧ Below W2.heap.size W2 wr) (fun i _ => f.vars.length - (intOf i).toNat)
      case atStart => exact ⟨0, Nat.zero_le _, rfl, Below.refl _ _⟩
      case round =>
        obtain ⟨j, hj, rfl, hb3⟩ := hrel
        clear x0 x1 x2 x3 x4 y0 y1 y2 y3 y4
        obtain ⟨x0, x1, x2, x3, x4⟩ := (box_facts ((hb3.block _ (heap_lt HN.out.2.2.2.2.1)).trans HN.out.2.2.2.2.1)).1
        obtain ⟨y0, y1, y2, y3, y4⟩ := (box_facts ((hb3.block _ (heap_lt HN.out.2.2.2.2.2.1)).trans HN.out.2.2.2.2.2.1)).1
        by_cases hlt2 : j < f.vars.length
        · obtain ⟨s, hs⟩ : ∃ s, f.vars[j]? = some s := ⟨_, List.getElem?_eq_getElem hlt2⟩
          obtain ⟨b9, rfl, hs1, hl1⟩ := HN.out.1 j s hs
          obtain ⟨b8, rfl, hs2, hl2⟩ := HN.out.2.1 j s hs
          have g2 : (j : Int) < f.vars.length := by omega
          replace hs1 := (hb3.cell (p := ⟨b9, j, none⟩) hl1).trans hs1
          replace hs2 := (hb3.cell (p := ⟨b8, j, none⟩) hl2).trans hs2
          have HM := Lib.hid hb3
          clear hb3 hs hl1 hl2
          go_wp2_with fail
          go_quiet (fail)
          go_wp2
          go_roundw
          case rel => exact ⟨j + 1, by omega, by go_num, below_drewN HM.out nq⟩
          case measure => simp [intOf]; omega
        · have g2 : ¬ (j : Int) < f.vars.length := by omega
          have HM := Lib.hid ((HN.out.2.2.1.trans (HN.out.2.2.2.1.mono HN.out.2.2.1.size)).trans (hb3.mono (by have := HN.out.2.2.1.size; omega)))
          clear hb3
          go_wp2
          go_roundw
          case rel => exact ⟨k + 1, by omega, by go_num, HM.out⟩
          case measure => simp [intOf]; omega
    · have g1 : ¬ (k : Int) < fs.length := by omega
      have HN := Lib.hid hb
      clear hb
      go_wp2
      go_ret
      exact ⟨rfl, HN.out⟩
end Go.Proofs.Ytejbdoiamhfbjaa
namespace Go.Proofs.Ytejbdoiamhfbjaa
mutual
theorem resT_er30 : ∀ (t : Tr) (a : Int) (loop : Bool) (w : WS) (line er : Int), resT t a loop w = .error (line, er) → er ≠ 30
  | .mk op s n li l, a, loop, w, line, er, h => by
    have key : ∀ (k : Int) (b : Int) (lp : Bool) (w1 : WS), nodeE op s k li (resL l b lp w1) = .error (line, er) → er ≠ 30 := fun k b lp w1 h => by
      cases hl : resL l b lp w1 with
      | error x =>
        obtain ⟨x1, x2⟩ := x
        rw [hl] at h
        cases h
        exact resL_er30 l b lp w1 _ _ hl
      | ok x => rw [hl] at h; cases h
    rw [resT] at h
    split at h
    · simp only at h
      split at h
      · cases h; decide
      · exact key _ _ _ _ h
    · split at h
      · exact key _ _ _ _ h
      · split at h
        · split at h
          · cases h; decide
          · exact key _ _ _ _ h
        · split at h
          · cases h; decide
          · exact key _ _ _ _ h
theorem resL_er30 : ∀ (l : List Tr) (a : Int) (loop : Bool) (w : WS) (line er : Int), resL l a loop w = .error (line, er) → er ≠ 30
  | [], a, loop, w, line, er, h => by rw [resL] at h; cases h
  | t :: r, a, loop, w, line, er, h => by
    rw [resL] at h
    split at h
    · rename_i x hx
      cases h
      exact resT_er30 t a loop w _ _ hx
    · split at h
      · rename_i x hx
        cases h
        exact resL_er30 r _ _ _ _ _ hx
      · cases h
end
theorem resolve_er30 {t : Tr} {line er : Int} (h : resolveT t = .error (line, er)) : er ≠ 30 := by
  unfold resolveT at h
  split at h
  · rename_i x hx
    cases h
    exact resT_er30 _ _ _ _ _ _ hx
  · cases h
theorem lined_parts (k : Int) (t : Tr) : (linedT k t).op = t.op ∧ (linedT k t).s = t.s ∧ (linedT k t).n = t.n ∧ (linedT k t).l = linedL k t.l := by
  cases t with | mk o s n i l =>
  rw [linedT]
  exact ⟨rfl, rfl, rfl, rfl⟩
theorem linedL_length (k : Int) : ∀ l : List Tr, (linedL k l).length = l.length
  | [] => by rw [linedL]
  | t :: r => by rw [linedL, List.length_cons, List.length_cons, linedL_length k r]
theorem partsB_lined (k op count : Int) : ∀ (l : List Tr) (i : Int), partsB op count i (linedL k l) = partsB op count i l
  | [], i => by rw [linedL]
  | t :: r, i => by rw [linedL, partsB, partsB, (lined_parts k t).1, partsB_lined k op count r (i + 1)]
theorem soundOne_lined (k : Int) (t : Tr) : soundOne (linedT k t) = soundOne t := by
  obtain ⟨h1, h2, h3, h4⟩ := lined_parts k t
  unfold soundOne
  rw [h1]
  cases shapeOf t.op with
  | none => rfl
  | some s =>
    simp only [fitsB]
    rw [h1, h2, h3, h4, linedL_length, partsB_lined]
mutual
theorem levels_lined (k : Int) : ∀ (t : Tr) (n : Nat), (linedT k t).levels n = (t.levels n).map fun p => (linedT k p.1, p.2)
  | .mk op s m i l, n => by
    rw [Tr.levels, List.map_cons]
    have h : (linedT k (.mk op s m i l)).levels n = (linedT k (.mk op s m i l), n) :: levelsL (n + 1) (linedT k (.mk op s m i l)).l := by
      rw [linedT, Tr.levels]
      rfl
    rw [h, (lined_parts k _).2.2.2]
    show _ :: levelsL (n + 1) (linedL k l) = _
    rw [levelsL_lined k l (n + 1)]
theorem levelsL_lined (k : Int) : ∀ (l : List Tr) (n : Nat), levelsL n (linedL k l) = (levelsL n l).map fun p => (linedT k p.1, p.2)
  | [], n => by rw [linedL, levelsL]; rfl
  | t :: r, n => by rw [linedL, levelsL, levelsL, List.map_append, levels_lined k t n, levelsL_lined k r n]
end
theorem right_lined (k : Int) (t : Tr) : rightP (linedT k t) = rightP t := by
  unfold rightP soundT
  rw [(lined_parts k t).1, levels_lined, List.all_map]
  have h : (goodB ∘ fun p : Tr × Nat => (linedT k p.1, p.2)) = goodB := by
    funext p
    show goodB (linedT k p.1, p.2) = goodB p
    unfold goodB
    rw [soundOne_lined]
  rw [h]
mutual
theorem norm_lined (k : Int) : ∀ t : Tr, (linedT k t).norm = t.norm
  | .mk op s m i l => by rw [linedT, Tr.norm, Tr.norm, norms_lined k l]
theorem norms_lined (k : Int) : ∀ l : List Tr, norms (linedL k l) = norms l
  | [] => by rw [linedL]
  | t :: r => by rw [linedL, norms, norms, norm_lined k t, norms_lined k r]
end
mutual
theorem lined_size (k : Int) : ∀ t : Tr, (linedT k t).size = t.size
  | .mk op s m i l => by rw [linedT, Tr.size, Tr.size, lined_sizes k l]
theorem lined_sizes (k : Int) : ∀ l : List Tr, sizes (linedL k l) = sizes l
  | [] => by rw [linedL]
  | t :: r => by rw [linedL, sizes, sizes, lined_size k t, lined_sizes k r]
end
def resOut (t : Tr) : List Fn × Tr × Int × Int :=
  if rightP t = true then match resolveT t with
    | .error (l, e) => ([], Tr.zero, l, e)
    | .ok (F, q) => (F, q, 0, 0)
  else ([], Tr.zero, 0, 30)
theorem resOut_lined (k : Int) (t : Tr) : (resOut (linedT k t)).1 = (resOut t).1 ∧ (resOut (linedT k t)).2.1.norm = (resOut t).2.1.norm ∧ (resOut (linedT k t)).2.2.2 = (resOut t).2.2.2 ∧
    (((resOut t).2.2.2 = 0 ∧ (resOut (linedT k t)).2.2.1 = 0) ∨ ((resOut t).2.2.2 = 30 ∧ (resOut (linedT k t)).2.2.1 = 0) ∨ ((resOut t).2.2.2 ≠ 0 ∧ (resOut t).2.2.2 ≠ 30 ∧ (resOut (linedT k t)).2.2.1 = k)) := by
  unfold resOut
  rw [right_lined, resolve_lined]
  by_cases hr : rightP t = true
  · rw [if_pos hr, if_pos hr]
    cases h : resolveT t with
    | error x =>
      obtain ⟨l, e⟩ := x
      exact ⟨rfl, rfl, rfl, .inr (.inr ⟨resolve_err h, resolve_er30 h, rfl⟩)⟩
    | ok x =>
      obtain ⟨F, q⟩ := x
      exact ⟨rfl, norm_lined k q, rfl, .inl ⟨rfl, rfl⟩⟩
  · rw [if_neg hr, if_neg hr]
    exact ⟨rfl, rfl, rfl, .inr (.inl ⟨rfl, rfl⟩)⟩
theorem resOut_vars (t : Tr) : ∀ f ∈ (resOut t).1, f.vars.length ≤ 200 := by
  intro f hf
  unfold resOut at hf
  split at hf
  · split at hf
    · cases hf
    · rename_i F q h
      obtain ⟨-, -, m, -, hI⟩ := resolve_told h
      obtain ⟨i, hi⟩ := List.mem_iff_getElem?.1 hf
      exact (hI.2 i f hi).2.2.1
  · cases hf
theorem resOut_size (t : Tr) (h : t.size ≤ 1500) : (resOut t).2.1.size ≤ 1500 := by
  unfold resOut
  split
  · split
    · show Tr.zero.size ≤ 1500
      decide
    · rename_i F q h9
      rw [resolve_size h9]
      exact h
  · show Tr.zero.size ≤ 1500
    decide
end Go.Proofs.Ytejbdoiamhfbjaa
namespace Go.Proofs.Ytejbdoiamhfbjaa
open Go.RowKit Go.Proofs
theorem resout_any (t : Tr) (v : Value) (W : World) (S : Nat → Prop) (hT : TreeAt W S t v) (hS : ∀ k, S k → k < W.heap.size) (hz : t.size ≤ 40000) :
    Calls Try.prog 13 #[v] W fun e W' => ∃ fv qv, e = .returned (.tuple #[fv, qv, .int .i64 (resOut t).2.2.1, .int .i64 (resOut t).2.2.2]) ∧ FunsV W' W.heap.size fv (resOut t).1 ∧ TreeAt W' (New W W') (resOut t).2.1 qv ∧ Below W.heap.size W W' := by
  refine (scres_any t v W S hT hS hz).mono ?_
  rintro e W' ⟨hb, h⟩
  unfold resOut
  by_cases hr : rightP t = true
  · rw [if_pos hr] at h
    rw [if_pos hr]
    cases hrs : resolveT t with
    | error x =>
      obtain ⟨l, er⟩ := x
      rw [hrs] at h
      exact ⟨_, _, h, ⟨[], rfl, World.ownsRow_nil _ _ _ _, fun q hq => by cases hq⟩, TreeAt.zero _ _, hb⟩
    | ok x =>
      obtain ⟨F, q⟩ := x
      rw [hrs] at h
      obtain ⟨fv, qv, h1, h2, h3⟩ := h
      exact ⟨fv, qv, h1, h2, h3, hb⟩
  · rw [if_neg hr] at h
    rw [if_neg hr]
    exact ⟨_, _, h, ⟨[], rfl, World.ownsRow_nil _ _ _ _, fun q hq => by cases hq⟩, TreeAt.zero _ _, hb⟩
set_option maxRecDepth 100000 in
set_option maxHeartbeats 4000000 in
theorem lines_any (t : Tr) (ln : Int) (v : Value) (w : World) (ht : At w w.heap.size t v) : Calls Try.prog 7 #[v, .int .i64 ln] w fun e w' => e = .returned (.bool true) ∧ Below w.heap.size w w' := by
  obtain ⟨A, c, rfl, -, -⟩ := (TreeAt.of_at ht).form
  have hat : ∀ w', Below w.heap.size w w' → At w' w'.heap.size t (.agg #[.int .i64 t.op, .string (bs t.s), .int .i64 t.n, .slice A t.l.length c, .int .i64 t.line]) := fun w' hb => At.keep t ht hb.size fun p hp => hb.cell hp
  have HAt := Lib.hid hat
  clear hat ht
  go_enter Try.func7, Try.ntmps7
  have hal := below_alloc9 w (.cells #[.int .i64 t.op, .string (bs t.s), .int .i64 t.n, .slice A t.l.length c, .int .i64 t.line] 24)
  have hbx := heap_alloc_new w (.cells #[.int .i64 t.op, .string (bs t.s), .int .i64 t.n, .slice A t.l.length c, .int .i64 t.line] 24)
  obtain ⟨N, eN⟩ : ∃ N, w.heap.size = N := ⟨_, rfl⟩
  have H0 := Lib.hid (And.intro hal hbx)
  clear hal hbx
  go_wp2_with fail
  go_at_call 11
  refine (shown_any _).mono ?_
  rintro e w1 ⟨rfl, hb1⟩
  have hbx1 := (hb1.block w.heap.size (by simp)).trans H0.out.2
  have hw1 : Below w.heap.size w w1 := H0.out.1.trans (hb1.mono (by simp))
  rw [eN] at hbx1
  have x0 := cell_of_row w1 _ 0 _ _ _ hbx1
  have x1 := cell_of_row w1 _ 1 _ _ _ hbx1
  have x2 := cell_of_row w1 _ 2 _ _ _ hbx1
  have x3 := cell_of_row w1 _ 3 _ _ _ hbx1
  have x4 := cell_of_row w1 _ 4 _ _ _ hbx1
  simp at x0 x1 x2 x3 x4
  have H1 := Lib.hid (And.intro hw1 hbx1)
  clear hb1 hbx1 hw1 H0
  go_wp2_with fail
  go_at_call 12
  refine (small_any t _ w1 (HAt.out w1 H1.out.1)).mono ?_
  rintro e w2 ⟨rfl, hb2⟩
  have hbx2 := (hb2.block N (heap_lt H1.out.2)).trans H1.out.2
  have hw2 : Below w.heap.size w w2 := H1.out.1.trans (hb2.mono H1.out.1.size)
  have y0 := cell_of_row w2 _ 0 _ _ _ hbx2
  have y1 := cell_of_row w2 _ 1 _ _ _ hbx2
  have y2 := cell_of_row w2 _ 2 _ _ _ hbx2
  have y3 := cell_of_row w2 _ 3 _ _ _ hbx2
  have y4 := cell_of_row w2 _ 4 _ _ _ hbx2
  simp at y0 y1 y2 y3 y4
  have H2 := Lib.hid (And.intro hw2 hbx2)
  clear hb2 hbx2 hw2 x0 x1 x2 x3 x4 H1
  by_cases hz : t.size ≤ 1500
  case neg =>
    rw [if_neg hz]
    go_wp2
    go_ret
    exact ⟨rfl, H2.out.1⟩
  rw [if_pos hz]
  go_wp2_with fail
  go_at_call 13
  have hsm : (linedT ln t).size ≤ 40000 := by rw [lined_size]; omega
  have hout := resOut_lined ln t
  have hvr := resOut_vars t
  have hvr2 := resOut_vars (linedT ln t)
  refine (resout_any t _ w2 (fun k => k < w2.heap.size) (TreeAt.of_at (HAt.out w2 H2.out.1)) (fun _ h => h) (by omega)).mono ?_
  rintro e w3 ⟨fv, qv, rfl, hF, hT, hb3⟩
  have hw3 : Below w.heap.size w w3 := H2.out.1.trans (hb3.mono H2.out.1.size)
  obtain ⟨X, hX⟩ : ∃ X, resOut t = X := ⟨_, rfl⟩
  obtain ⟨Y, hY⟩ : ∃ Y, resOut (linedT ln t) = Y := ⟨_, rfl⟩
  rw [hX] at hF hT hout hvr ⊢
  rw [hY] at hout hvr2
  obtain ⟨fs, q, li, er⟩ := X
  obtain ⟨fs2, q2, li2, er2⟩ := Y
  obtain ⟨e1, hnm, e2, hcs⟩ : fs2 = fs ∧ q2.norm = q.norm ∧ er2 = er ∧ _ := hout
  have e1 := e1.symm
  have e2 := e2.symm
  subst e1 e2
  simp only at hF hT hvr hvr2 hcs ⊢
  obtain ⟨Aq, cq, rfl, hrq, hfq⟩ := hT.form
  have hbP3 := (hb3.block N (heap_lt H2.out.2)).trans H2.out.2
  have hal4 := below_alloc9 w3 (.cells #[.int .i64 q.op, .string (bs q.s), .int .i64 q.n, .slice Aq q.l.length cq, .int .i64 q.line] 24)
  have hbx4 := heap_alloc_new w3 (.cells #[.int .i64 q.op, .string (bs q.s), .int .i64 q.n, .slice Aq q.l.length cq, .int .i64 q.line] 24)
  obtain ⟨w4, e4⟩ : ∃ w4, w3.alloc (.cells #[.int .i64 q.op, .string (bs q.s), .int .i64 q.n, .slice Aq q.l.length cq, .int .i64 q.line] 24) = w4 := ⟨_, rfl⟩
  rw [e4] at hal4 hbx4
  have hbP4 := (hal4.block N (heap_lt hbP3)).trans hbP3
  have hw4 : Below w.heap.size w w4 := hw3.trans (hal4.mono hw3.size)
  have hF4 := hF.below hal4
  have hT4 : TreeAt w4 (fun k => k < w4.heap.size) q (.agg #[.int .i64 q.op, .string (bs q.s), .int .i64 q.n, .slice Aq q.l.length cq, .int .i64 q.line]) := hT.keep (fun k hk => by have := hk.2; have := hal4.size; omega) (fun k hk => hal4.block k hk.2)
  have HLn := Lib.hid (lined_any ln t _ w4 (fun k => k < w4.heap.size) (TreeAt.of_at (HAt.out w4 hw4)) (fun k hk => hk) (by omega))
  have H4 := Lib.hid (And.intro hw4 (And.intro hbP4 (And.intro hbx4 (And.intro hF4 (And.intro hT4 (And.intro hvr (And.intro hnm (And.intro hcs (And.intro hsm (And.intro hY e4))))))))))
  obtain ⟨p0, p1, p2, p3, p4⟩ := (box_facts hbP4).1
  clear hw3 hal4 hbx4 hbP3 hbP4 hF hT hF4 hT4 hw4 hrq hfq hb3 y0 y1 y2 y3 y4 H2 e4 hz hsm hvr hvr2 hnm hcs hX hY
  go_upto_region 5 with fail
  rw [H4.out.2.2.2.2.2.2.2.2.2.2]
  go_wp2_with fail
  go_at_call 23
  refine HLn.out.mono ?_
  rintro e w5 ⟨lv, rfl, ht5, hb5⟩
  have hRs := resout_any (linedT ln t) lv w5 (New w4 w5) ht5 (fun k hk => hk.2) H4.out.2.2.2.2.2.2.2.2.1
  rw [H4.out.2.2.2.2.2.2.2.2.2.1] at hRs
  have HRs := Lib.hid hRs
  have H5 := Lib.hid hb5
  obtain ⟨A5, c5, rfl, -, -⟩ := ht5.form
  clear hRs hb5 ht5 p0 p1 p2 p3 p4
  go_wp2_with fail
  go_at_call 13
  refine HRs.out.mono ?_
  rintro e w6 ⟨gv, rv, rfl, hF6, hT6, hb6⟩
  obtain ⟨Ar, cr, rfl, -, -⟩ := hT6.form
  obtain ⟨Af, cf, rfl, hfc, hfm⟩ := H4.out.2.2.2.1.form
  obtain ⟨Ag, cg, rfl, hgc, hgm⟩ := hF6.form
  have hal7 := below_alloc9 w6 (.cells #[.int .i64 q2.op, .string (bs q2.s), .int .i64 q2.n, .slice Ar q2.l.length cr, .int .i64 q2.line] 24)
  have hbx7 := heap_alloc_new w6 (.cells #[.int .i64 q2.op, .string (bs q2.s), .int .i64 q2.n, .slice Ar q2.l.length cr, .int .i64 q2.line] 24)
  obtain ⟨w7, e7⟩ : ∃ w7, w6.alloc (.cells #[.int .i64 q2.op, .string (bs q2.s), .int .i64 q2.n, .slice Ar q2.l.length cr, .int .i64 q2.line] 24) = w7 := ⟨_, rfl⟩
  rw [e7] at hal7 hbx7
  have hb47 : Below w4.heap.size w4 w7 := (H5.out.trans (hb6.mono H5.out.size)).trans (hal7.mono (by have := H5.out.size; have := hb6.size; omega))
  have hbx47 := (hb47.block w3.heap.size (heap_lt H4.out.2.2.1)).trans H4.out.2.2.1
  have HSF := Lib.hid (samefuns_self fs w7 _ _ _ _ (H4.out.2.2.2.1.below hb47) (hF6.below hal7) H4.out.2.2.2.2.2.1)
  have hAq : ∀ w', Below w7.heap.size w7 w' → At w' w'.heap.size q (.agg #[.int .i64 q.op, .string (bs q.s), .int .i64 q.n, .slice Aq q.l.length cq, .int .i64 q.line]) := fun w' hb => (H4.out.2.2.2.2.1.keep (S' := fun k => k < w'.heap.size) (fun k hk => by have := hb47.size; have := hb.size; omega) (fun k hk => (hb.block k (by have := hb47.size; omega)).trans (hb47.block k hk))).below_ (fun k hk => hk)
  have hAr : ∀ w', Below w7.heap.size w7 w' → At w' w'.heap.size q2 (.agg #[.int .i64 q2.op, .string (bs q2.s), .int .i64 q2.n, .slice Ar q2.l.length cr, .int .i64 q2.line]) := fun w' hb => (hT6.keep (S' := fun k => k < w'.heap.size) (fun k hk => by have := hk.2; have := hal7.size; have := hb.size; omega) (fun k hk => (hb.block k (by have := hk.2; have := hal7.size; omega)).trans (hal7.block k hk.2))).below_ (fun k hk => hk)
  have HSm := Lib.hid (fun w' hb => rsame_like q q2 _ _ w' H4.out.2.2.2.2.2.2.1.symm (hAq w' hb) (hAr w' hb))
  have hcs := H4.out.2.2.2.2.2.2.2.1
  have H7 := Lib.hid (And.intro (H4.out.1.trans (hb47.mono H4.out.1.size)) (And.intro hbx47 (And.intro hbx7 e7)))
  clear hal7 hbx7 hb47 hbx47 hAq hAr hF6 hT6 hb6 e7 hfc hfm hgc hgm HAt
  go_upto_region 6 with fail
  rw [H7.out.2.2.2]
  go_wp2_with fail
  go_at_call 15
  refine HSF.out.mono ?_
  rintro e w8 ⟨rfl, hb8⟩
  obtain ⟨x0, x1, x2, x3, x4⟩ := (box_facts ((hb8.block _ (heap_lt H7.out.2.1)).trans H7.out.2.1)).1
  obtain ⟨y0, y1, y2, y3, y4⟩ := (box_facts ((hb8.block _ (heap_lt H7.out.2.2.1)).trans H7.out.2.2.1)).1
  have HS := Lib.hid (HSm.out w8 hb8)
  have H8 := Lib.hid hb8
  clear hb8
  go_wp2_with fail
  go_at_call 18
  refine HS.out.mono ?_
  rintro e w9 ⟨rfl, hb9⟩
  have H9 := Lib.hid ((H7.out.1.trans (H8.out.mono H7.out.1.size)).trans (hb9.mono (by have := H7.out.1.size; have := H8.out.size; omega)))
  clear hb9 x0 x1 x2 x3 x4 y0 y1 y2 y3 y4
  rcases hcs with ⟨h1, h2⟩ | ⟨h1, h2⟩ | ⟨h1, h2, h3⟩
  · subst h1 h2
    go_wp2
    go_ret
    exact ⟨rfl, H9.out⟩
  · subst h1 h2
    go_wp2
    go_ret
    exact ⟨rfl, H9.out⟩
  · have d1 : (er == 0) = false := by rw [beq_eq_false_iff_ne]; exact h1
    have d2 : (er == 30) = false := by rw [beq_eq_false_iff_ne]; exact h2
    subst h3
    go_wp2
    go_ret
    exact ⟨rfl, H9.out⟩
end Go.Proofs.Ytejbdoiamhfbjaa
namespace Go.Proofs.Ytejbdoiamhfbjaa
theorem block_sound (l : List Tr) (hl : l.length ≤ 1000) (h : ∀ t ∈ l, hasB 1 t.op = true) : soundOne (blockT l) = true := by
  unfold soundOne
  rw [show shapeOf (blockT l).op = some (0, 0, 0, 9223372036854775807) from (show shapeOf 32 = _ by decide)]
  simp only [fitsB, Bool.and_eq_true, decide_eq_true_eq]
  refine ⟨(show allowsB 0 [] = true by decide), (show (0 : Int) ≤ 0 by decide), (show (0 : Int) ≤ 0 by decide), ?_, ?_, ?_⟩
  · show (0 : Int) ≤ (l.length : Int)
    omega
  · show (l.length : Int) ≤ 9223372036854775807
    omega
  · show partsB 32 (l.length : Int) 0 l = true
    rw [partsB_get]
    intro k t hk
    have e : wantedB 32 (0 + (k : Int)) (l.length : Int) = 1 := by unfold wantedB; simp
    rw [e]
    exact h t (List.mem_of_getElem? hk)
theorem block_right (l : List Tr) (hl : l.length ≤ 1000) (h : ∀ t ∈ l, hasB 1 t.op = true) (h2 : (levelsL 2 l).all goodB = true) : rightP (blockT l) = true := by
  unfold rightP soundT
  rw [Bool.and_eq_true]
  refine ⟨(show hasB 2 32 = true by decide), ?_⟩
  rw [levels_eq, List.all_cons, Bool.and_eq_true]
  refine ⟨?_, h2⟩
  unfold goodB
  rw [block_sound l hl h]
  rfl
theorem fns_good : ∀ n : Nat, (levelsL 2 (List.replicate n fnT)).all goodB = true
  | 0 => by rw [List.replicate_zero, levelsL_nil]; rfl
  | n + 1 => by
    rw [List.replicate_succ, levelsL_cons, List.all_append, fns_good n, Bool.and_true]
    decide
theorem fns_right (n : Nat) (hn : n ≤ 1000) : rightP (blockT (List.replicate n fnT)) = true :=
  block_right _ (by simpa using hn) (fun t ht => by rw [List.eq_of_mem_replicate ht]; decide) (fns_good n)
theorem vee_name (i : Nat) : isNameL (vee i) = true := by
  unfold vee
  rw [List.replicate_succ, isNameL, Bool.and_eq_true, Bool.and_eq_true]
  refine ⟨by decide, ?_, ?_⟩
  · rw [List.all_eq_true]
    intro c hc
    rw [List.eq_of_mem_replicate hc]
    decide
  · have h : ∀ w ∈ wordsL, w.all (· == 118) = false := by decide
    unfold isWordL
    cases hw : wordsL.contains (118 :: List.replicate i 118) with
    | false => rfl
    | true =>
      have h1 := h _ (List.contains_iff_mem.1 hw)
      rw [← List.replicate_succ] at h1
      have h2 : (List.replicate (i + 1) (118 : UInt8)).all (· == 118) = true := by
        rw [List.all_eq_true]
        intro c hc
        rw [List.eq_of_mem_replicate hc]
        rfl
      rw [h2] at h1
      cases h1
theorem var_sound (i : Nat) : soundOne (varT i) = true := by
  unfold soundOne
  rw [show shapeOf (varT i).op = some (3, 0, 0, 1) from (show shapeOf 30 = _ by decide)]
  simp only [fitsB, Bool.and_eq_true, decide_eq_true_eq]
  refine ⟨?_, (show (0 : Int) ≤ 0 by decide), (show (0 : Int) ≤ 0 by decide), (show (0 : Int) ≤ ((0 : Nat) : Int) by decide), (show ((0 : Nat) : Int) ≤ 1 by decide), (show partsB 30 0 0 [] = true by decide)⟩
  show allowsB 3 (vee i) = true
  unfold allowsB
  rw [if_neg (by decide), if_neg (by decide), if_neg (by decide), if_neg (by decide), if_pos rfl]
  exact vee_name i
theorem vars_good : ∀ l : List Nat, (levelsL 2 (l.map varT)).all goodB = true
  | [] => by rw [List.map_nil, levelsL_nil]; rfl
  | i :: r => by
    rw [List.map_cons, levelsL_cons, List.all_append, vars_good r, Bool.and_true, levels_eq, List.all_cons]
    have h1 : goodB (varT i, 2) = true := by
      unfold goodB
      rw [var_sound]
      rfl
    rw [h1]
    show (levelsL 3 []).all goodB = true
    rw [levelsL_nil]
    rfl
theorem vars_right (n : Nat) (hn : n ≤ 1000) : rightP (blockT ((List.range' 0 n).map varT)) = true :=
  block_right _ (by simpa using hn) (fun t ht => by
    obtain ⟨i, -, rfl⟩ := List.mem_map.1 ht
    exact (show hasB 1 30 = true by decide)) (vars_good _)
theorem fns_size : ∀ n : Nat, sizes (List.replicate n fnT) = 2 * n
  | 0 => by rw [List.replicate_zero, sizes]
  | n + 1 => by
    rw [List.replicate_succ, sizes, fns_size n, show fnT.size = 2 by decide]
    omega
theorem vars_size : ∀ l : List Nat, sizes (l.map varT) = l.length
  | [] => by rw [List.map_nil, sizes]; rfl
  | i :: r => by
    rw [List.map_cons, sizes, vars_size r, List.length_cons, show (varT i).size = 1 by unfold varT; rw [Tr.size, sizes]]
    omega
theorem block_size (l : List Tr) : (blockT l).size = 1 + sizes l := by unfold blockT; rw [Tr.size]
theorem resOut_code {t : Tr} (h : rightP t = true) : (resOut t).2.2.2 = codeE (resolveT t) := by
  unfold resOut
  rw [if_pos h]
  cases resolveT t with
  | error x => rfl
  | ok x => rfl
end Go.Proofs.Ytejbdoiamhfbjaa
namespace Go.Proofs.Ytejbdoiamhfbjaa
open Go.RowKit Go.Proofs
theorem vee_add (k : Nat) : bs (vee k) ++ (⟨#[118]⟩ : ByteArray) = bs (vee (k + 1)) := by
  unfold vee
  rw [List.replicate_succ' (n := k + 1)]
  apply ByteArray.ext
  simp [bs]
  apply Array.ext'
  rw [Array.toList_push, Array.toList_replicate]
set_option maxRecDepth 100000 in
set_option maxHeartbeats 4000000 in
theorem many_law (f0 f1 : Int) (w : World) : Calls Try.prog 9 #[.int .i64 f0, .int .i64 f1] w fun e w' => e = .returned (.bool true) ∧ Below w.heap.size w w' := by
  go_enter Try.func9, Try.ntmps9
  go_wp2_with fail
  go_at_call 11
  refine (shown_any _).mono ?_
  rintro e w1 ⟨rfl, hb1⟩
  have H1 := Lib.hid hb1
  clear hb1
  by_cases a1 : f0 < 490
  · go_wp2
    go_ret
    exact ⟨rfl, H1.out⟩
  by_cases a2 : 510 < f0
  · go_wp2
    go_ret
    exact ⟨rfl, H1.out⟩
  by_cases a3 : f1 < 190
  · go_wp2
    go_ret
    exact ⟨rfl, H1.out⟩
  by_cases a4 : 210 < f1
  · go_wp2
    go_ret
    exact ⟨rfl, H1.out⟩
  have b0 := heap_alloc_new w1 (.cells #[.int .i64 32, .string ⟨#[]⟩, .int .i64 0, .slice none 0 0, .int .i64 0] 24)
  have hal0 := below_alloc9 w1 (.cells #[.int .i64 32, .string ⟨#[]⟩, .int .i64 0, .slice none 0 0, .int .i64 0] 24)
  obtain ⟨w2, e2⟩ : ∃ W, w1.alloc (.cells #[.int .i64 32, .string ⟨#[]⟩, .int .i64 0, .slice none 0 0, .int .i64 0] 24) = W := ⟨_, rfl⟩
  rw [e2] at b0 hal0
  have HB0 := Lib.hid (And.intro b0 (And.intro hal0 e2))
  clear b0 hal0 e2
  go_upto_region 5 with fail
  rw [HB0.out.2.2]
  obtain ⟨P, eP⟩ : ∃ P, w1.heap.size = P := ⟨_, rfl⟩
  obtain ⟨B0, hal0, -⟩ := HB0.out
  rw [eP] at B0 hal0 ⊢
  have HB := Lib.hid (And.intro B0 hal0)
  have hz1 : P ≤ w2.heap.size := by rw [← eP]; exact HB0.out.2.1.size
  clear B0 hal0
  go_wp2_with fail
  go_loopw [7] (fun i wr => ∃ (k : Nat) (v : Value), (k : Int) ≤ f0 ∧ i = .int .i64 k ∧ wr.heap[P]? = some (.cells #[.int .i64 32, .string ⟨#[]⟩, .int .i64 0, v, .int .i64 0] 24 (0, 0)) ∧ AccAt (P + 1) wr (List.replicate k fnT) v ∧ Below P w1 wr) (fun i _ => f0.toNat - (intOf i).toNat)
  case atStart => exact ⟨0, _, by omega, rfl, HB.out.1, AccAt.nil _ _, HB.out.2⟩
  case round =>
    obtain ⟨k, v, hk, rfl, hbx, hac, hb⟩ := hrel
    obtain ⟨acc, eacc⟩ : ∃ a, List.replicate k fnT = a := ⟨_, rfl⟩
    rw [eacc] at hac
    have hal : acc.length = k := by rw [← eacc, List.length_replicate]
    obtain ⟨A0, c0, rfl, -, -⟩ := hac.slice
    have hPl := heap_lt hbx
    obtain ⟨x0, x1, x2, x3, x4⟩ := (box_facts hbx).1
    by_cases hlt : (k : Int) < f0
    · have ht1 : TreeAt (wr.alloc (.cells #[.int .i64 32, .string ⟨#[]⟩, .int .i64 0, .slice none 0 0, .int .i64 0] 24)) (New wr (wr.alloc (.cells #[.int .i64 32, .string ⟨#[]⟩, .int .i64 0, .slice none 0 0, .int .i64 0] 24))) fnT (.agg #[.int .i64 41, .string ⟨#[102]⟩, .int .i64 0, .slice (some ⟨wr.heap.size, 0, none⟩) 1 1, .int .i64 0]) :=
        TreeAt.mk (o := 41) (s := [102]) (k := 0) (i := 0) (RowAt.one (TreeAt.leaf (o := 32) (s := []) (k := 0) (i := 0) _ ⟨by decide, by decide, by decide⟩) (heap_alloc_new wr (.cells #[.int .i64 32, .string ⟨#[]⟩, .int .i64 0, .slice none 0 0, .int .i64 0] 24)) rfl ⟨Nat.le_refl _, by simp⟩) ⟨by decide, by decide, by decide⟩
      have hbA := below_alloc9 wr (.cells #[.int .i64 32, .string ⟨#[]⟩, .int .i64 0, .slice none 0 0, .int .i64 0] 24)
      have hac1 := hac.fr (Fr.of_below (R := P) hbA (Nat.le_refl _)) (by omega)
      have hP9 := AccAt.push (R := P) hac1 (hac.fresh ht1 (by omega)) (by omega) (by simp; omega) 22 #[.int .i64 41, .string ⟨#[102]⟩, .int .i64 0, .slice (some ⟨wr.heap.size, 0, none⟩) 1 1, .int .i64 0] rfl
      rw [World.size_alloc] at hP9
      have HP := Lib.hid hP9
      have HK := Lib.hid (And.intro hac1 (And.intro hbx (And.intro hb (And.intro eacc (And.intro hal hbA)))))
      clear hac1 hbx hb eacc hal hbA hac ht1 hP9
      go_wp2_with (at_builtin; refine wl_app rfl _ _ 22 rfl _ (.slice (some ⟨wr.heap.size + 1, 0, none⟩) 1 1) rfl rfl _ HP.out ?_; rintro u w7 ⟨hacc, hon, A7, c7, rfl⟩; have hb7 := (hon.block P (by simp; omega) (fun e => by have := (own_blk HK.out.1 e).1; omega)).trans ((HK.out.2.2.2.2.2.block P hPl).trans HK.out.2.1); clear x0 x1 x2 x3 x4; obtain ⟨⟨x0, x1, x2, x3, x4⟩, f0', f1', f2', f3', f4'⟩ := box_facts hb7; have hl7 := heap_lt hb7; have M7 := Lib.hid (And.intro hacc (And.intro hon hb7)); clear hacc hon hb7)
      clear HP
      go_roundw
      case rel => exact ⟨k + 1, _, by omega, by go_num, (blk_set M7.out.2.2 3 _).trans rfl, by
        rw [List.replicate_succ', HK.out.2.2.2.1]
        exact M7.out.1.away (by omega) 3 _, ((HK.out.2.2.1.trans (HK.out.2.2.2.2.2.mono (by omega))).trans (M7.out.2.1.below (by simp; omega) (fun i hi => by have := (own_blk HK.out.1 hi).1; omega))).trans (below_set _ (Nat.le_refl _) 3 _)⟩
      case measure => simp [intOf]; omega
    · have hkf : (k : Int) = f0 := by omega
      have hT : TreeAt wr (fun i => i < wr.heap.size) (blockT acc) (.agg #[.int .i64 32, .string ⟨#[]⟩, .int .i64 0, .slice A0 acc.length c0, .int .i64 0]) :=
        TreeAt.mk (o := 32) (s := []) (k := 0) (i := 0) (hac.row.keep (fun i hi => hi.2) (fun i hi => rfl)) ⟨by decide, by decide, by decide⟩
      have hsz : (blockT acc).size ≤ 40000 := by rw [block_size, ← eacc, fns_size]; omega
      have hR := resout_any (blockT acc) _ wr _ hT (fun i hi => hi) hsz
      have hcode : (resOut (blockT acc)).2.2.2 = if 500 < k + 1 then 52 else 0 := by
        rw [resOut_code (by rw [← eacc]; exact fns_right k (by omega)), ← eacc]
        exact many_first k
      have hww : Below w.heap.size w wr := H1.out.trans (hb.mono (by have := H1.out.size; omega))
      obtain ⟨X, hX⟩ : ∃ X, resOut (blockT acc) = X := ⟨_, rfl⟩
      rw [hX] at hR hcode
      obtain ⟨fs, q, li, er⟩ := X
      simp only at hR hcode
      have HRs := Lib.hid hR
      have h1 : (er == 52) = decide (500 < f0 + 1) := by
        rw [hcode]
        by_cases h : 500 < k + 1
        · rw [if_pos h, decide_eq_true (by omega)]; rfl
        · rw [if_neg h, decide_eq_false (by omega)]; rfl
      have HC := Lib.hid (And.intro h1 (And.intro hkf hww))
      clear hR hcode h1 hkf hww hT hsz hX hac hbx hb eacc hal
      go_wp2_with fail
      go_at_call 13
      refine HRs.out.mono ?_
      rintro e w3 ⟨fv, qv, rfl, -, hT3, hb3⟩
      obtain ⟨Aq, cq, rfl, -, -⟩ := hT3.form
      have b4 := heap_alloc_new (w3.alloc (.cells #[.int .i64 q.op, .string (bs q.s), .int .i64 q.n, .slice Aq q.l.length cq, .int .i64 q.line] 24)) (.cells #[.int .i64 32, .string ⟨#[]⟩, .int .i64 0, .slice none 0 0, .int .i64 0] 24)
      have hal4 := (below_alloc9 w3 (.cells #[.int .i64 q.op, .string (bs q.s), .int .i64 q.n, .slice Aq q.l.length cq, .int .i64 q.line] 24)).alloc (by simp) (.cells #[.int .i64 32, .string ⟨#[]⟩, .int .i64 0, .slice none 0 0, .int .i64 0] 24)
      rw [World.size_alloc] at b4
      obtain ⟨w4, e4⟩ : ∃ W, (w3.alloc (.cells #[.int .i64 q.op, .string (bs q.s), .int .i64 q.n, .slice Aq q.l.length cq, .int .i64 q.line] 24)).alloc (.cells #[.int .i64 32, .string ⟨#[]⟩, .int .i64 0, .slice none 0 0, .int .i64 0] 24) = W := ⟨_, rfl⟩
      have hz4 : w4.heap.size = w3.heap.size + 2 := by rw [← e4]; simp
      rw [e4] at b4 hal4
      have hw4 : Below w.heap.size w w4 := (HC.out.2.2.trans (hb3.mono HC.out.2.2.size)).trans (hal4.mono (by have := HC.out.2.2.size; have := hb3.size; omega))
      have hwP : w.heap.size ≤ w3.heap.size + 1 := by have := HC.out.2.2.size; have := hb3.size; omega
      have H4 := Lib.hid (And.intro b4 (And.intro hw4 e4))
      clear b4 hal4 hw4 e4 hT3 hb3 x0 x1 x2 x3 x4
      go_upto_region 11 with fail
      rw [H4.out.2.2]
      obtain ⟨P2, eP2⟩ : ∃ P, w3.heap.size + 1 = P := ⟨_, rfl⟩
      have B4 := H4.out.1
      rw [eP2] at B4 hwP ⊢
      have HB4 := Lib.hid B4
      have hz5 : w4.heap.size = P2 + 1 := by omega
      clear B4
      go_wp2_with fail
      go_loopw [13, 14] (fun s i wr => ∃ (k : Nat) (v : Value), (k : Int) ≤ f1 ∧ s = .string (bs (vee k)) ∧ i = .int .i64 k ∧ wr.heap[P2]? = some (.cells #[.int .i64 32, .string ⟨#[]⟩, .int .i64 0, v, .int .i64 0] 24 (0, 0)) ∧ AccAt (P2 + 1) wr ((List.range' 0 k).map varT) v ∧ Below P2 w4 wr) (fun _ i _ => f1.toNat - (intOf i).toNat)
      case atStart => exact ⟨0, _, by omega, rfl, rfl, HB4.out, AccAt.nil _ _, Below.refl _ _⟩
      case round =>
        obtain ⟨k, v, hk, rfl, rfl, hbx, hac, hb⟩ := hrel
        obtain ⟨acc, eacc⟩ : ∃ a, (List.range' 0 k).map varT = a := ⟨_, rfl⟩
        rw [eacc] at hac
        have hal : acc.length = k := by rw [← eacc]; simp
        obtain ⟨A0, c0, rfl, -, -⟩ := hac.slice
        have hPl := heap_lt hbx
        obtain ⟨x0, x1, x2, x3, x4⟩ := (box_facts hbx).1
        by_cases hlt : (k : Int) < f1
        · have hfv : Fine 30 (vee k) 0 := fine_s (by unfold vee; rw [List.length_replicate]; omega) (by decide)
          have ht1 : TreeAt wr (fun i => (P2 + 1 ≤ i ∧ i < wr.heap.size) ∧ (Value.slice A0 acc.length c0).ownBlock ≠ some i) (varT k) (.agg #[.int .i64 30, .string (bs (vee k)), .int .i64 0, .slice none 0 0, .int .i64 0]) := TreeAt.leaf (o := 30) (s := vee k) (k := 0) (i := 0) _ hfv
          have HP := Lib.hid (AccAt.push (R := P2) hac ht1 (by omega) (by omega) 22 #[.int .i64 30, .string (bs (vee k)), .int .i64 0, .slice none 0 0, .int .i64 0] rfl)
          have HK := Lib.hid (And.intro hac (And.intro hbx (And.intro hb (And.intro eacc hal))))
          have hsv : (bs (vee k)).size = k + 1 := by show (vee k).toArray.size = k + 1; rw [List.size_toArray]; unfold vee; rw [List.length_replicate]
          have hsb := vee_add k
          clear hbx hb eacc hal hac ht1 hfv
          go_wp2_with (at_builtin; refine wl_app rfl _ _ 22 rfl _ (.slice (some ⟨wr.heap.size, 0, none⟩) 1 1) rfl rfl _ HP.out ?_; rintro u w7 ⟨hacc, hon, A7, c7, rfl⟩; have hb7 := (hon.block P2 hPl (fun e => by have := (own_blk HK.out.1 e).1; omega)).trans HK.out.2.1; clear x0 x1 x2 x3 x4; obtain ⟨⟨x0, x1, x2, x3, x4⟩, f0', f1', f2', f3', f4'⟩ := box_facts hb7; have hl7 := heap_lt hb7; have M7 := Lib.hid (And.intro hacc (And.intro hon hb7)); clear hacc hon hb7)
          clear HP
          go_roundw
          case rel => exact ⟨k + 1, _, by omega, by first | rfl | rw [← hsb] | (rw [hsb]), by go_num, (blk_set M7.out.2.2 3 _).trans rfl, by
            rw [List.range'_concat, List.map_append, HK.out.2.2.2.1]
            simp only [Nat.one_mul, Nat.zero_add]
            exact M7.out.1.away (by omega) 3 _, (HK.out.2.2.1.trans (M7.out.2.1.below (by omega) (fun i hi => by have := (own_blk HK.out.1 hi).1; omega))).trans (below_set _ (Nat.le_refl _) 3 _)⟩
          case measure => simp [intOf]; omega
        · have hkf : (k : Int) = f1 := by omega
          have hT : TreeAt wr (fun i => i < wr.heap.size) (blockT acc) (.agg #[.int .i64 32, .string ⟨#[]⟩, .int .i64 0, .slice A0 acc.length c0, .int .i64 0]) :=
            TreeAt.mk (o := 32) (s := []) (k := 0) (i := 0) (hac.row.keep (fun i hi => hi.2) (fun i hi => rfl)) ⟨by decide, by decide, by decide⟩
          have hsz : (blockT acc).size ≤ 40000 := by rw [block_size, ← eacc, vars_size]; simp; omega
          have hR := resout_any (blockT acc) _ wr _ hT (fun i hi => hi) hsz
          have hcode2 : (resOut (blockT acc)).2.2.2 = 52 ↔ 200 < k := by
            rw [resOut_code (by rw [← eacc]; exact vars_right k (by omega)), ← eacc]
            exact many_second k
          have hww : Below w.heap.size w wr := H4.out.2.1.trans (hb.mono hwP)
          obtain ⟨X, hX⟩ : ∃ X, resOut (blockT acc) = X := ⟨_, rfl⟩
          rw [hX] at hR hcode2
          obtain ⟨fs2, q2, li2, er2⟩ := X
          simp only at hR hcode2
          have HRs := Lib.hid hR
          have HD := Lib.hid (And.intro hcode2 (And.intro hkf hww))
          clear hR hcode2 hkf hww hT hsz hX hac hbx hb eacc hal
          go_wp2_with fail
          go_at_call 13
          refine HRs.out.mono ?_
          rintro e w5 ⟨fv2, qv2, rfl, -, hT5, hb5⟩
          obtain ⟨Ar, cr, rfl, -, -⟩ := hT5.form
          have HF := Lib.hid ((HD.out.2.2.trans (hb5.mono HD.out.2.2.size)).alloc (by have := HD.out.2.2.size; have := hb5.size; omega) (.cells #[.int .i64 q2.op, .string (bs q2.s), .int .i64 q2.n, .slice Ar q2.l.length cr, .int .i64 q2.line] 24))
          clear hT5 hb5 x0 x1 x2 x3 x4
          have h1 := HC.out.1
          have h2 : (er2 == 52) = decide (200 < f1) := by
            by_cases h : er2 = 52
            · rw [decide_eq_true (by have := HD.out.1.1 h; have := HD.out.2.1; omega), h]; rfl
            · rw [decide_eq_false (by intro h9; exact h (HD.out.1.2 (by have := HD.out.2.1; omega))), beq_eq_false_iff_ne]; exact h
          go_wp2
          go_ret
          exact ⟨rfl, HF.out⟩
end Go.Proofs.Ytejbdoiamhfbjaa
namespace Go.Proofs.Ytejbdoiamhfbjaa.scopeMany
open Go.ChangeShapes Go.WideShapes Go.ChangeAt Go.RowKit
open Go.ChangeMaps (open_string shut_string)
set_option maxRecDepth 100000 in
theorem lifted (os : Os) (started : os.Started) (H : Type) (enc : TypeId × Value → H) :
    ReturnsInHanded {} Try.checked os 9 .any (Rows.scopeManySpec.pre6 enc Try.prog Try.f9 Rows.scopeManyRow.domain false) (Rows.scopeManySpec.post enc Try.prog Try.f9 false true false false) := by
  refine returnsInHanded_of_change (C := Try.checked) ownK started (by kernel_rfl) Try.func9
    (ChangeSpec.witness6 (enc := enc) (C := Try.checked) false ⟨#[], #[.int .i64 0, .int .i64 0], []⟩ 8 (by kernel_rfl) (by kernel_rfl) (by kernel_rfl) (by kernel_rfl)) ?_
  intro W base args ds gs before hval0 hW hcnd _
  have hval : ∀ (j : Nat) t v, Try.f9.params[j]? = some t → args[j]? = some v → Value.okWide Try.prog W .any base t v := hval0
  have hW' := hW
  obtain ⟨p, q, hA0, hV, rfl, hfz, hnd⟩ := hW
  have hA : DataW.TrodAll enc Try.prog W 0 (fun _ => true) true Try.f9.params.toList args.toList ds p := hA0
  rw [Try.params9] at hA hval
  obtain ⟨v0, vs0, d0, ds0, p0, q0, hargs, rfl, rfl, h0, r0⟩ := trodAll_cons hA
  obtain ⟨v1, vs1, d1, ds1, p1, q1, hargs1, rfl, rfl, h1, r1⟩ := trodAll_cons r0
  obtain ⟨rfl, rfl, rfl⟩ := trodAll_nil r1
  subst hargs1
  obtain rfl : args = #[v0, v1] := by cases args; simp_all
  obtain ⟨rfl, rfl⟩ := trodVars_none hV
  obtain ⟨a0, rfl, rfl, rfl, w0⟩ := open_int Try.underlying3 (hval 0 3 v0 rfl rfl) h0
  obtain ⟨a1, rfl, rfl, rfl, w1⟩ := open_int Try.underlying3 (hval 1 3 v1 rfl rfl) h1
  clear hA0 hval0
  simp only [List.append_nil] at hW'
  refine (many_law a0 a1 W).mono fun e W' ⟨he, bel⟩ => ?_
  subst he
  exact ⟨_, rfl, _, _, _, [], _, [], hW', trodAll_mk1 (shut_bool Try.underlying4 _), (trodAll_cons_mk (shut_int Try.underlying3 w0) (trodAll_cons_mk (shut_int Try.underlying3 w1) trodAll_mk0)), rfl, bel.frame _, fun h => by cases h⟩
theorem over : Rows.scopeManyRow.holds Try.pinned (OpenSpec.ofChange Rows.scopeManySpec) :=
  OpenClaim.holds_of_wide 9 Try.f9 rfl rfl rfl rfl rfl rfl rfl ⟨rfl, rfl, rfl, rfl, rfl⟩ rfl rfl rfl rfl rfl (by kernel_rfl) Try.func9 (by kernel_rfl)
    (of_decide_eq_true (by kernel_rfl)) (by unfold Func.isWrapper; first | (rw [if_pos (by decide +kernel)]; kernel_rfl) | (rw [if_neg (by decide +kernel)]; exact ⟨rfl, rfl⟩))
    (fun os started H enc _ => lifted os started H enc)
theorem proved : Rows.ScopeManySaid := over
#print axioms proved
end Go.Proofs.Ytejbdoiamhfbjaa.scopeMany
