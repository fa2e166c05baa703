/- The document's reader: a program of its tokens. -/
import Derived.Deep.RegionHeldLaw
import Derived.Test.YtikbfoichhkeaaaGreatVm16
import Derived.Test.YtikbfoichhkeaaaGreatVm47
set_option linter.unusedSimpArgs false
set_option linter.unusedVariables false
set_option maxRecDepth 100000
set_option maxHeartbeats 40000000
namespace Go.Proofs.YtikbfoichhkeaaaGreat
section
open Go.RowKit Go.Proofs
def line0 (L : List Tok) : Int := match L with
 | [] => 0
 | t :: _ => t.line
def parseA (L : List Tok) (F : Nat) : Option (Tr × Int × Int) :=
 match run L F (.stmts []) ⟨0, 0, 0⟩ with
 | none => none
 | some (l, s1) =>
  let s2 := if s1.e = 0 ∧ s1.pos < L.length then stopR L s1 true else s1
  if s2.e ≠ 0 then some (Tr.zero, s2.line, s2.e)
  else if rightP (.mk 32 [] 0 0 l) = false then some (Tr.zero, 0, 41)
  else some (.mk 32 [] 0 (line0 L) l, 0, 0)
structure ToksAt (w : World) (A : Option Addr) (c : Nat) (L : List Tok) : Prop where
 row : ∀ k t, L[k]? = some t → ∃ g, A = some ⟨g, 0, none⟩ ∧ g < w.heap.size ∧ TokAt w g k t
 len : L.length ≤ 65536
 cap : L.length ≤ c
 fine : ∀ t ∈ L, t.s.length ≤ 65536 ∧ 0 ≤ t.n ∧ t.n ≤ 999999999999999
theorem stop_err (L : List Tok) (st : St) (b : Bool) (h : st.e = 0) : (stopR L st b).e ≠ 0 := by
 have key : ∀ e : Int, e ≠ 0 → (failR L st e).e ≠ 0 := fun e he => by
  unfold failR
  rw [if_pos h]
  split <;> exact he
 unfold stopR
 dsimp only
 split
 ·exact key _ (by decide)
 ·split
  ·exact key _ (by decide)
  ·split
   ·exact key _ (by decide)
   ·exact key _ (by decide)
section
variable {cp : Nat} {A : Option Addr} {L : List Tok} {F : Nat}
theorem blk_fr2 {R B : Nat} {wk w' : World} {o : Obj} (h : wk.heap[B]? = some o) (hf : Fr R wk w') (hR : B ≠ R) : w'.heap[B]? = some o := (hf.block B (heap_lt h) hR).trans h
theorem blk_below {B : Nat} {wk w' : World} {o : Obj} (h : wk.heap[B]? = some o) (hf : Below wk.heap.size wk w') : w'.heap[B]? = some o := (hf.block B (heap_lt h)).trans h
theorem below_fr {n R : Nat} {wk w' : World} (hf : Fr R wk w') (hn : n ≤ R) (hs : n ≤ wk.heap.size) : Below n wk w' := hf.below hs (fun i hi => by omega)
theorem err_past {R b : Nat} {wk : World} {st : St} (h : RdAt wk R A cp L st) (hb : b < R) (v0 v1 v2 v3 v4 : Value) : (put5 wk b v0 v1 v2 v3 v4).cell? ⟨R, 2, none⟩ = some (.int .i64 st.e) ∧ (put5 wk b v0 v1 v2 v3 v4).cell? ⟨R, 3, none⟩ = some (.int .i64 st.line) := by
 have hk := cell_block ((put5_only wk b v0 v1 v2 v3 v4).block R h.lt (by omega))
 exact ⟨(hk ⟨R, 2, none⟩ rfl).trans h.cells.2.2.1, (hk ⟨R, 3, none⟩ rfl).trans h.cells.2.2.2⟩
theorem TreeAt.below_ {w : World} {S : Nat → Prop} {n : Nat} {t : Tr} {v : Value} (h : TreeAt w S t v) (hS : ∀ k, S k → k < n) : At w n t v := by
 obtain ⟨x, rfl, rfl, h3⟩ := h
 exact h3.at_ x hS
theorem drew_cell (W : World) (p : Addr) : W.drew.cell? p = W.cell? p := rfl
theorem drew_belowP {n : Nat} {W W' : World} (h : Below n W W') : Below n W W'.drew := ⟨h.os, h.tape, h.output, h.size, h.block⟩
theorem drew_blk (W : World) (k : Nat) : W.drew.heap[k]? = W.heap[k]? := rfl
theorem err_pastd {R b : Nat} {wk : World} {st : St} (h : RdAt wk R A cp L st) (hb : b < R) (v0 v1 v2 v3 v4 : Value) : (put5 wk b v0 v1 v2 v3 v4).drew.cell? ⟨R, 2, none⟩ = some (.int .i64 st.e) ∧ (put5 wk b v0 v1 v2 v3 v4).drew.cell? ⟨R, 3, none⟩ = some (.int .i64 st.line) := by
 rw [drew_cell, drew_cell]
 exact err_past h hb v0 v1 v2 v3 v4
theorem parse_ret {w W : World} {t : Tr} {fn : Func} {a : Act} {x y : Int} {v0 v1 v2 v3 v4 : Value} (s1 s2 s3 : Nat) (hfn : fn.results = #[.cell s1 24, .tmp s2, .tmp s3]) (h1 : a.tmps.getD s1 undef = .pointer (some ⟨w.heap.size, 0, none⟩)) (h2 : a.tmps.getD s2 undef = .int .i64 x) (h3 : a.tmps.getD s3 undef = .int .i64 y) (hd : a.defers = [])
  (hx : W.heap[w.heap.size]? = some (.cells #[v0, v1, v2, v3, v4] 24 (0, 0))) (hb : Below w.heap.size w W) (ht : TreeAt W (New w W) t (.agg #[v0, v1, v2, v3, v4])) :
  bodyPost Tryz.prog fn (fun e w' => ∃ v, e = .returned (.tuple #[v, .int .i64 x, .int .i64 y]) ∧ Below w.heap.size w w' ∧ TreeAt w' (New w w') t v) .ret a W := by
 obtain ⟨⟨y0, y1, y2, y3, y4⟩, -⟩ := box_facts hx
 refine bodyPost_ret (v := .tuple #[.agg #[v0, v1, v2, v3, v4], .int .i64 x, .int .i64 y]) ?_ hd ⟨_, rfl, hb, ht⟩
 have e1 : a.tmps[s1]?.getD undef = .pointer (some ⟨w.heap.size, 0, none⟩) := by rw [← Array.getD_eq_getD_getElem?]; exact h1
 have e2 : a.tmps[s2]?.getD undef = .int .i64 x := by rw [← Array.getD_eq_getD_getElem?]; exact h2
 have e3 : a.tmps[s3]?.getD undef = .int .i64 y := by rw [← Array.getD_eq_getD_getElem?]; exact h3
 simp [results, hfn, e1, e2, e3, go_sem, y0, y1, y2, y3, y4]
theorem parse_err {w w5 : World} {fn : Func} {a : Act} {x y : Int} (s1 s2 s3 : Nat) (hfn : fn.results = #[.cell s1 24, .tmp s2, .tmp s3]) (h1 : a.tmps.getD s1 undef = .pointer (some ⟨w.heap.size, 0, none⟩)) (h2 : a.tmps.getD s2 undef = .int .i64 x) (h3 : a.tmps.getD s3 undef = .int .i64 y) (hd : a.defers = [])
  (hx : w5.heap[w.heap.size]? = some (.cells #[.int .i64 0, .string ⟨#[]⟩, .int .i64 0, .slice none 0 0, .int .i64 0] 24 (0, 0))) (hb : Below w.heap.size w w5) :
  bodyPost Tryz.prog fn (fun e w' => ∃ v, e = .returned (.tuple #[v, .int .i64 x, .int .i64 y]) ∧ Below w.heap.size w w' ∧ TreeAt w' (New w w') Tr.zero v) .ret a (put5 w5 w.heap.size (.int .i64 0) (.string ⟨#[]⟩) (.int .i64 0) (.slice none 0 0) (.int .i64 0)).drew :=
 parse_ret s1 s2 s3 hfn h1 h2 h3 hd (by rw [drew_blk]; exact put5_blk hx) (drew_belowP (hb.trans (put5_below (Nat.le_refl _) _ _ _ _ _))) (TreeAt.zero _ _)
theorem parse_err0 {w w5 : World} {fn : Func} {a : Act} {x y : Int} (s1 s2 s3 : Nat) (hfn : fn.results = #[.cell s1 24, .tmp s2, .tmp s3]) (h1 : a.tmps.getD s1 undef = .pointer (some ⟨w.heap.size, 0, none⟩)) (h2 : a.tmps.getD s2 undef = .int .i64 x) (h3 : a.tmps.getD s3 undef = .int .i64 y) (hd : a.defers = [])
  (hx : w5.heap[w.heap.size]? = some (.cells #[.int .i64 0, .string ⟨#[]⟩, .int .i64 0, .slice none 0 0, .int .i64 0] 24 (0, 0))) (hb : Below w.heap.size w w5) :
  bodyPost Tryz.prog fn (fun e w' => ∃ v, e = .returned (.tuple #[v, .int .i64 x, .int .i64 y]) ∧ Below w.heap.size w w' ∧ TreeAt w' (New w w') Tr.zero v) .ret a (put5 w5 w.heap.size (.int .i64 0) (.string ⟨#[]⟩) (.int .i64 0) (.slice none 0 0) (.int .i64 0)) :=
 parse_ret s1 s2 s3 hfn h1 h2 h3 hd (put5_blk hx) (hb.trans (put5_below (Nat.le_refl _) _ _ _ _ _)) (TreeAt.zero _ _)
theorem parse_any (hF : F ≤ 2000001) (t : Tr) (ln er : Int) (hr : parseA L F = some (t, ln, er)) (hsz : ∀ l s1, run L F (.stmts []) ⟨0, 0, 0⟩ = some (l, s1) → (Tr.mk 32 [] 0 0 l).size ≤ 1000000) (hri : ∀ l s1, run L F (.stmts []) ⟨0, 0, 0⟩ = some (l, s1) → ∀ v w, At w w.heap.size (Tr.mk 32 [] 0 0 l) v → Calls Tryz.prog 17 #[v] w fun e w' => e = .returned (.bool (rightP (Tr.mk 32 [] 0 0 l))) ∧ Below w.heap.size w w') (w : World) (h : ToksAt w A cp L) :
  Calls Tryz.prog 34 #[.slice A L.length cp] w fun e w' => ∃ v, e = .returned (.tuple #[v, .int .i64 ln, .int .i64 er]) ∧ Below w.heap.size w w' ∧ TreeAt w' (New w w') t v := by
 obtain ⟨W1, e1⟩ : ∃ W, w.alloc (.cells #[.int .i64 0, .string ⟨#[]⟩, .int .i64 0, .slice none 0 0, .int .i64 0] 24) = W := ⟨_, rfl⟩
 obtain ⟨W2, e2⟩ : ∃ W, W1.alloc (.cells #[.slice A L.length cp, .int .i64 0, .int .i64 0, .int .i64 0] 108) = W := ⟨_, rfl⟩
 have z1 : W1.heap.size = w.heap.size + 1 := by rw [← e1]; simp
 have hb1 : Below w.heap.size w W1 := by rw [← e1]; exact (Below.refl _ w).alloc (Nat.le_refl _) _
 have hb2 : Below w.heap.size w W2 := by rw [← e2]; exact hb1.alloc (by omega) _
 have hb12 : Below W1.heap.size W1 W2 := by rw [← e2]; exact (Below.refl _ W1).alloc (Nat.le_refl _) _
 obtain ⟨R, hRe⟩ : ∃ R, w.heap.size + 1 = R := ⟨_, rfl⟩
 rw [hRe] at z1
 have h2 : RdAt W2 R A cp L ⟨0, 0, 0⟩ := ⟨by rw [← z1, ← e2]; exact heap_alloc_new _ _, fun k t ht => by
  obtain ⟨g, eA, hg, hT⟩ := h.row k t ht
  exact ⟨g, eA, by omega, hT.keep (hb2.block g hg)⟩, h.len, h.cap, Nat.zero_le _, h.fine⟩
 have bx : W1.heap[w.heap.size]? = some (.cells #[.int .i64 0, .string ⟨#[]⟩, .int .i64 0, .slice none 0 0, .int .i64 0] 24 (0, 0)) := by rw [← e1]; exact heap_alloc_new _ _
 have bx2 := blk_below bx hb12
 have hlen := h.len
 have hcap := h.cap
 unfold parseA at hr
 cases hrun : run L F (.stmts []) ⟨0, 0, 0⟩ with
 | none => rw [hrun] at hr; cases hr
 | some x =>
 obtain ⟨l, s1⟩ := x
 rw [hrun] at hr
 dsimp only at hr
 have hsz := hsz l s1 hrun
 have HRI := Lib.hid (hri l s1 hrun)
 clear hri
 have HS := Lib.hid (rd_all F hF (.stmts []) _ _ _ hrun rfl W2 h2)
 have HI := Lib.hid (And.intro bx2 (And.intro hb2 h))
 have zw : w.heap.size < R := by omega
 clear h2 bx bx2 hb1 hb2 hb12 h hrun
 go_enter Tryz.func34, Tryz.ntmps34
 go_wp2_with fail
 go_at_call 51
 refine (HS.out).mono ?_
 rintro e w3 ⟨v3, rfl, h3, f3, r3⟩
 obtain ⟨A3, c3, rfl, -, -⟩ := r3.slice
 have z3 := f3.size
 have z2 : R < W2.heap.size := by rw [← e2]; simp; omega
 obtain ⟨w4, e4⟩ : ∃ W, w3.alloc (.cells #[.int .i64 32, .string ⟨#[]⟩, .int .i64 0, .slice A3 l.length c3, .int .i64 0] 24) = W := ⟨_, rfl⟩
 have f4 : Fr R w3 w4 := by rw [← e4]; exact Only.alloc _ _
 have h4 : RdAt w4 R A cp L s1 := by rw [← e4]; exact h3.alloc _
 have z4 : w4.heap.size = w3.heap.size + 1 := by rw [← e4]; simp
 have b4 : Bx w4 w3.heap.size (.int .i64 32) (.string ⟨#[]⟩) (.int .i64 0) (.slice A3 l.length c3) (.int .i64 0) := by rw [← e4]; exact heap_alloc_new _ _
 have x4 := blk_fr2 (blk_fr2 HI.out.1 f3 (by omega)) f4 (by omega)
 have r4 : RowAt w4 (fun k => R < k ∧ k < w3.heap.size) l (.slice A3 l.length c3) := r3.keep (fun k hk => ⟨by have := hk.1; omega, hk.2⟩) (fun k hk => by rw [← e4]; exact Below.heap_alloc _ _ k hk.2)
 have bl4 : Below w.heap.size w w4 := HI.out.2.1.trans (below_fr (n := w.heap.size) (f3.trans' f4) (by omega) (by omega))
 have HM := Lib.hid (And.intro bl4 (And.intro r4 (And.intro b4 (And.intro x4 h4))))
 clear h3 f3 r3 f4 h4 b4 x4 r4 bl4 HS
 obtain ⟨c0, c1, c2, c3'⟩ := HM.out.2.2.2.2.cells
 have hsame := setCell_same (i := 4) (u := .int .i64 0) HM.out.2.2.1 rfl
 obtain ⟨q0, q1, q2, q3, q4⟩ := (show Bx w4 w3.heap.size _ _ _ _ _ from HM.out.2.2.1).thaw
 obtain ⟨p0, p1, p2, p3, p4⟩ := (show Bx w4 w3.heap.size _ _ _ _ _ from HM.out.2.2.1).cells
 by_cases he : s1.e = 0
 ·have d1 : (s1.e == 0) = true := by simpa using he
  rw [he] at c2
  by_cases hp : s1.pos < L.length
  ·have hp' : (s1.pos : Int) < (L.length : Int) := by omega
   rw [show (if s1.e = 0 ∧ s1.pos < L.length then stopR L s1 true else s1) = stopR L s1 true from if_pos ⟨he, hp⟩] at hr
   have hne := stop_err L s1 true he
   rw [if_pos hne] at hr
   obtain ⟨rfl, rfl, rfl⟩ : Tr.zero = t ∧ (stopR L s1 true).line = ln ∧ (stopR L s1 true).e = er := by simpa using hr
   have d2 : ((stopR L s1 true).e != 0) = true := by simpa using hne
   have HQ := Lib.hid (stop_any true w4 HM.out.2.2.2.2)
   clear hr hne he hp
   go_wp2_with fail
   go_at_call 52
   refine (HQ.out).mono ?_
   rintro e w5 ⟨rfl, h5, f5⟩
   have x5 := blk_fr2 HM.out.2.2.2.1 f5 (by omega)
   have z5 := f5.size
   have bl5 : Below w.heap.size w w5 := HM.out.1.trans (below_fr f5 (by omega) (by omega))
   have HN := Lib.hid (And.intro bl5 x5)
   obtain ⟨c0, c1, c2, c3'⟩ := h5.cells
   obtain ⟨⟨y0, y1, y2, y3, y4⟩, g0, g1, g2, g3, g4⟩ := box_facts x5
   have HD := Lib.hid (And.intro h5 (show RdAt w5.drew R A cp L (stopR L s1 true) from h5.keep fun i _ => rfl))
   clear h5 f5 x5 bl5
   go_wp2_with fail
   have hs0 := And.intro HD.out.2.cells.2.2.1 HD.out.2.cells.2.2.2
   have hs1 := And.intro HD.out.1.cells.2.2.1 HD.out.1.cells.2.2.2
   have hs4 := fun v0 v1 v2 v3 v4 => err_pastd HD.out.1 (b := w.heap.size) (by omega) v0 v1 v2 v3 v4
   have hs2 := fun v0 v1 v2 v3 v4 => err_past HD.out.1 (b := w.heap.size) (by omega) v0 v1 v2 v3 v4
   have hs3 := fun v0 v1 v2 v3 v4 => err_past HD.out.2 (b := w.heap.size) (by omega) v0 v1 v2 v3 v4
   go_region_held_law (fun w' => w'.cell? ⟨R, 2, none⟩ = some (.int .i64 (stopR L s1 true).e) ∧ w'.cell? ⟨R, 3, none⟩ = some (.int .i64 (stopR L s1 true).line))
    (first | with_reducible exact hs4 _ _ _ _ _ | with_reducible exact hs3 _ _ _ _ _ | with_reducible exact hs0 | with_reducible exact hs2 _ _ _ _ _ | with_reducible exact hs1)
    (fail)
   go_wp2
   exact parse_err (w5 := w5) 2 3 4 rfl rfl rfl rfl rfl HN.out.2 HN.out.1
  ·have hp' : ¬ (s1.pos : Int) < (L.length : Int) := by omega
   rw [show (if s1.e = 0 ∧ s1.pos < L.length then stopR L s1 true else s1) = s1 from if_neg (fun h => hp h.2)] at hr
   rw [if_neg (show ¬ s1.e ≠ 0 by simpa using he)] at hr
   have htr : TreeAt w4 (fun k => R < k ∧ k < w3.heap.size) (Tr.mk 32 [] 0 0 l) _ := TreeAt.mk HM.out.2.1 ⟨by simp, by omega, by omega⟩
   have HQ := Lib.hid (HRI.out _ w4 (htr.below_ (fun k hk => by have := hk.2; omega)))
   clear htr
   obtain ⟨q, hq⟩ : ∃ q, rightP (Tr.mk 32 [] 0 0 l) = q := ⟨_, rfl⟩
   rw [hq] at hr HQ
   clear hp he
   cases q with
   | false =>
    obtain ⟨rfl, rfl, rfl⟩ : Tr.zero = t ∧ 0 = ln ∧ 41 = er := by simpa using hr
    clear hr
    go_wp2_with fail
    go_at_call 17
    refine (HQ.out).mono ?_
    rintro e w5 ⟨rfl, hb5⟩
    have x5 := blk_below HM.out.2.2.2.1 hb5
    have bl5 : Below w.heap.size w w5 := HM.out.1.trans (hb5.mono (by omega))
    have HN := Lib.hid (And.intro bl5 x5)
    obtain ⟨⟨y0, y1, y2, y3, y4⟩, g0, g1, g2, g3, g4⟩ := box_facts x5
    clear x5 bl5 hb5
    go_wp2
    exact parse_err0 (w5 := w5) 2 3 4 rfl rfl rfl rfl rfl HN.out.2 HN.out.1
   | true =>
    obtain ⟨ht, rfl, rfl⟩ : Tr.mk 32 [] 0 (line0 L) l = t ∧ 0 = ln ∧ 0 = er := by simpa using hr
    clear hr
    by_cases hl : L.length = 0
    ·have hl0 : ¬ (0 : Int) < (L.length : Int) := by omega
     have hln : line0 L = 0 := by rw [List.length_eq_zero_iff.1 hl]; rfl
     rw [hln] at ht
     subst ht
     clear hl hln
     go_wp2_with fail
     go_at_call 17
     refine (HQ.out).mono ?_
     rintro e w5 ⟨rfl, hb5⟩
     have z5 := hb5.size
     have x5 := blk_below HM.out.2.2.2.1 hb5
     have n5 : Bx w5 w3.heap.size _ _ _ _ _ := blk_below HM.out.2.2.1 hb5
     have bl5 : Below w.heap.size w w5 := HM.out.1.trans (hb5.mono (by omega))
     have r5 : RowAt w5 (fun k => R < k ∧ k < w3.heap.size) l (.slice A3 l.length c3) := HM.out.2.1.keep (fun k hk => hk) (fun k hk => hb5.block k (by have := hk.2; omega))
     have HN := Lib.hid (And.intro bl5 (And.intro x5 r5))
     obtain ⟨⟨y0, y1, y2, y3, y4⟩, g0, g1, g2, g3, g4⟩ := box_facts x5
     clear p0 p1 p2 p3 p4 q0 q1 q2 q3 q4
     obtain ⟨p0, p1, p2, p3, p4⟩ := n5.cells
     clear x5 bl5 hb5 n5 r5
     go_wp2
     have hp5 := put5_only w5 w.heap.size (.int .i64 32) (.string ⟨#[]⟩) (.int .i64 0) (.slice A3 l.length c3) (.int .i64 0)
     exact parse_ret (W := put5 w5 w.heap.size (.int .i64 32) (.string ⟨#[]⟩) (.int .i64 0) (.slice A3 l.length c3) (.int .i64 0)) 2 3 4 rfl rfl rfl rfl rfl (put5_blk HN.out.2.1) (HN.out.1.trans (put5_below (Nat.le_refl _) _ _ _ _ _)) (TreeAt.mk (HN.out.2.2.keep (fun k hk => ⟨by have := hk.1; omega, by have := hp5.size; have := hk.2; omega⟩) (fun k hk => hp5.block k (by have := hk.2; omega) (by have := hk.1; omega))) ⟨by simp, by omega, by omega⟩)
    ·have hl0 : (0 : Int) < (L.length : Int) := by omega
     obtain ⟨t0, ht0⟩ : ∃ t, L[0]? = some t := ⟨_, List.getElem?_eq_getElem (by omega)⟩
     have hln : line0 L = t0.line := by
      cases L with
      | nil => simp at ht0
      | cons a r => simp at ht0; rw [← ht0]; rfl
     rw [hln] at ht
     subst ht
     obtain ⟨g, rfl, hg, -, -, -, hT, -⟩ := HI.out.2.2.row 0 t0 ht0
     clear hl hln ht0
     go_wp2_with fail
     go_at_call 17
     refine (HQ.out).mono ?_
     rintro e w5 ⟨rfl, hb5⟩
     have z5 := hb5.size
     have x5 := blk_below HM.out.2.2.2.1 hb5
     have n5 : Bx w5 w3.heap.size _ _ _ _ _ := blk_below HM.out.2.2.1 hb5
     have bl5 : Below w.heap.size w w5 := HM.out.1.trans (hb5.mono (by omega))
     have r5 : RowAt w5 (fun k => R < k ∧ k < w3.heap.size) l (.slice A3 l.length c3) := HM.out.2.1.keep (fun k hk => hk) (fun k hk => hb5.block k (by have := hk.2; omega))
     have t5 : w5.cell? ⟨g, 3, none⟩ = some (.int .i64 t0.line) := (cell_block (bl5.block g hg) _ rfl).trans hT
     obtain ⟨w6, e6⟩ : ∃ W, w5.setCell ⟨w3.heap.size, 4, none⟩ (.int .i64 t0.line) = W := ⟨_, rfl⟩
     have hs6 : Only (fun k => k = w3.heap.size) w5 w6 := by rw [← e6]; exact Only.setCell (F := fun k => k = w3.heap.size) w5 rfl 4 _
     have z6 := hs6.size
     have n6 : Bx w6 w3.heap.size (.int .i64 32) (.string ⟨#[]⟩) (.int .i64 0) (.slice A3 l.length c3) (.int .i64 t0.line) := by rw [← e6]; exact blk_set n5 4 _
     have x6 := (hs6.block w.heap.size (by omega) (by omega)).trans x5
     have bl6 : Below w.heap.size w w6 := bl5.trans (hs6.below (by omega) (fun i hi => by omega))
     have r6 : RowAt w6 (fun k => R < k ∧ k < w3.heap.size) l (.slice A3 l.length c3) := r5.keep (fun k hk => hk) (fun k hk => hs6.block k (by have := hk.2; omega) (by have := hk.2; omega))
     have HN := Lib.hid (And.intro bl6 (And.intro x6 r6))
     clear p0 p1 p2 p3 p4 q0 q1 q2 q3 q4
     obtain ⟨q0, q1, q2, q3, q4⟩ := n5.thaw
     obtain ⟨o0, o1, o2, o3, o4⟩ := n5.cells
     obtain ⟨⟨y0, y1, y2, y3, y4⟩, g0, g1, g2, g3, g4⟩ := box_facts x6
     obtain ⟨p0, p1, p2, p3, p4⟩ := n6.cells
     clear x5 bl5 hb5 n5 r5 hs6 n6 x6 bl6 r6
     go_wp2
     have hp5 := put5_only w6 w.heap.size (.int .i64 32) (.string ⟨#[]⟩) (.int .i64 0) (.slice A3 l.length c3) (.int .i64 t0.line)
     exact parse_ret (W := put5 w6 w.heap.size (.int .i64 32) (.string ⟨#[]⟩) (.int .i64 0) (.slice A3 l.length c3) (.int .i64 t0.line)) 2 3 4 rfl rfl rfl rfl rfl (put5_blk HN.out.2.1) (HN.out.1.trans (put5_below (Nat.le_refl _) _ _ _ _ _)) (TreeAt.mk (HN.out.2.2.keep (fun k hk => ⟨by have := hk.1; omega, by have := hp5.size; have := hk.2; omega⟩) (fun k hk => hp5.block k (by have := hk.2; omega) (by have := hk.1; omega))) ⟨by simp, by omega, by omega⟩)
 ·have d1 : (s1.e == 0) = false := by simpa using he
  have d2 : (s1.e != 0) = true := by simpa using he
  rw [show (if s1.e = 0 ∧ s1.pos < L.length then stopR L s1 true else s1) = s1 from if_neg (fun h => he h.1)] at hr
  rw [if_pos he] at hr
  obtain ⟨rfl, rfl, rfl⟩ : Tr.zero = t ∧ s1.line = ln ∧ s1.e = er := by simpa using hr
  obtain ⟨⟨y0, y1, y2, y3, y4⟩, g0, g1, g2, g3, g4⟩ := box_facts HM.out.2.2.2.1
  have HD := Lib.hid (And.intro HM.out.2.2.2.2 (show RdAt w4.drew R A cp L s1 from HM.out.2.2.2.2.keep fun i _ => rfl))
  clear hr he
  go_wp2_with fail
  have hs0 := And.intro HD.out.2.cells.2.2.1 HD.out.2.cells.2.2.2
  have hs1 := And.intro HD.out.1.cells.2.2.1 HD.out.1.cells.2.2.2
  have hs4 := fun v0 v1 v2 v3 v4 => err_pastd HD.out.1 (b := w.heap.size) (by omega) v0 v1 v2 v3 v4
  have hs2 := fun v0 v1 v2 v3 v4 => err_past HD.out.1 (b := w.heap.size) (by omega) v0 v1 v2 v3 v4
  have hs3 := fun v0 v1 v2 v3 v4 => err_past HD.out.2 (b := w.heap.size) (by omega) v0 v1 v2 v3 v4
  go_region_held_law (fun w' => w'.cell? ⟨R, 2, none⟩ = some (.int .i64 s1.e) ∧ w'.cell? ⟨R, 3, none⟩ = some (.int .i64 s1.line))
   (first | with_reducible exact hs4 _ _ _ _ _ | with_reducible exact hs3 _ _ _ _ _ | with_reducible exact hs0 | with_reducible exact hs2 _ _ _ _ _ | with_reducible exact hs1)
   (fail)
  go_wp2
  exact parse_err (w5 := w4) 2 3 4 rfl rfl rfl rfl rfl HM.out.2.2.2.1 HM.out.1
end
end
end Go.Proofs.YtikbfoichhkeaaaGreat
