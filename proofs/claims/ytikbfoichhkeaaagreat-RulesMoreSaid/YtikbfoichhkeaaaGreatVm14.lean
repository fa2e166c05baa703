/- scope.meet: what a tree that is met comes to. -/
import Derived.Test.YtikbfoichhkeaaaGreatVm13
set_option linter.unusedSimpArgs false
set_option linter.unusedVariables false
set_option maxRecDepth 100000
set_option maxHeartbeats 40000000
namespace Go.Proofs.YtikbfoichhkeaaaGreat
section
open Go.RowKit Go.Proofs
def MeetOk (W W' : World) (R B nb no : Nat) (ws ws' : WS) (L : List (Fn × Value × Nat)) (v : Value) (n : Int) : Prop :=
 ∃ more v', RSt W' R B ws' (L ++ more) v' ∧ Only (fun k => k = R ∨ k = nb ∨ v.ownBlock = some k) W W' ∧
  (∀ cs T, W.heap[nb]? = some (.cells cs T (0, 0)) → W'.heap[nb]? = some (.cells (cs.setIfInBounds (no + 2) (.int .i64 n)) T (0, 0))) ∧
  (∀ k, v'.ownBlock = some k → v.ownBlock = some k ∨ W.heap.size ≤ k) ∧ (∀ q ∈ more, ∀ k, q.2.1.ownBlock = some k ∨ q.2.2 = k → W.heap.size ≤ k)
def MeetQ (W : World) (R B nb no : Nat) (ws : WS) (L : List (Fn × Value × Nat)) (v : Value) (ev : Ev5) (e : Ending) (W' : World) : Prop :=
 match stepE ws ev with
 | .error (line, er) => e = .returned (faultV line er) ∧ er ≠ 0 ∧ Below W.heap.size W W'
 | .ok (ws', n) => e = .returned (faultV 0 0) ∧ MeetOk W W' R B nb no ws ws' L v n
theorem RSt.box {W W' : World} {R B N : Nat} {ws : WS} {L : List (Fn × Value × Nat)} {v : Value} {cs : Array Value} (h : RSt W R B ws L v) (hN : W.heap[N]? = some (.cells cs 76 (0, 0))) (ho : Only (fun i => i = N) W W') : RSt W' R B ws L v := by
 refine h.keep (ho.block R (heap_lt h.head) ?_) (fun k hk => ho.block k (h.row.lt k hk).2 ?_) (fun q hq k hk => ho.block k ((h.each q hq).lt hk).2 ?_)
 ·rintro rfl
  have h1 := h.head
  rw [hN] at h1
  injection h1 with e
  injection e with e1 e2
  exact absurd e2 (by decide)
 ·rintro rfl
  obtain ⟨cs', hc'⟩ := row_blk (row_zero h.row) hk
  rw [hN] at hc'
  injection hc' with e
  injection e with e1 e2
  exact absurd e2 (by decide)
 ·rintro rfl
  exact (h.each q hq).no_fault hk hN
theorem MeetOk.fin {W W0 w1 : World} {R B nb no N : Nat} {ws ws' : WS} {L : List (Fn × Value × Nat)} {v x y a b : Value} {n : Int} (h : MeetOk W0 w1 R B nb no ws ws' L v n) (hb : Below W.heap.size W W0) (hnl : nb < W.heap.size) (hN : W.heap.size ≤ N) (h1 : w1.heap[N]? = some (.cells #[x, y] 76 (0, 0))) :
  ((w1.setCell ⟨N, 0, none⟩ a).setCell ⟨N, 1, none⟩ b).heap[N]? = some (.cells #[a, b] 76 (0, 0)) ∧ MeetOk W ((w1.setCell ⟨N, 0, none⟩ a).setCell ⟨N, 1, none⟩ b) R B nb no ws ws' L v n := by
 have ho := set2_only w1 N a b
 obtain ⟨more, v', k1, k2, k3, k4, k5⟩ := h
 refine ⟨blk_set (blk_set h1 0 a) 1 b, more, v', k1.box h1 ho, ?_, ?_, ?_, ?_⟩
 ·refine ((Only.of_below (F := fun k => k = R ∨ k = nb ∨ v.ownBlock = some k) hb).trans' k2).trans (ho.mono fun i hi e => .inr ⟨by rw [e]; exact hN, hi⟩)
 ·intro cs T hc
  have h2 := k3 cs T ((hb.block nb hnl).trans hc)
  exact (ho.block nb (heap_lt h2) (by omega)).trans h2
 ·intro k hk
  exact (k4 k hk).imp id fun h => Nat.le_trans hb.size h
 ·intro q hq k hk
  exact Nat.le_trans hb.size (k5 q hq k hk)
theorem EnterOk.meet {W W' : World} {R B nb no : Nat} {ws : WS} {L : List (Fn × Value × Nat)} {v : Value} {f : Fn} {mk : Int} (h : EnterOk W W' R B nb no ws L v f mk) : MeetOk W W' R B nb no ws ⟨ws.funs ++ [f], mk⟩ L v ws.funs.length := by
 obtain ⟨sv, m, v', k1, k2, k3, k4, k5⟩ := h
 exact ⟨[(f, sv, m)], v', k1, k2, k3, k4, fun q hq k hk => by rw [List.mem_singleton.1 hq] at hk; exact k5 k hk⟩
theorem set_same {cs : Array Value} {i : Nat} {u : Value} (h : cs[i]? = some u) : cs.setIfInBounds i u = cs := by
 obtain ⟨hi, e⟩ := Array.getElem?_eq_some_iff.1 h
 apply Array.ext
 ·simp
 ·intro j h1 h2
  by_cases hj : i = j
  ·subst hj; simp [e]
  ·rw [Array.getElem_setIfInBounds]
   ·simp [hj]
   ·exact h2
theorem MeetOk.idle {W W' : World} {R B nb no : Nat} {ws : WS} {L : List (Fn × Value × Nat)} {v : Value} {n : Int} (h : RSt W R B ws L v) (hb : Below W.heap.size W W') (hnl : nb < W.heap.size) (hn : W.cell? ⟨nb, no + 2, none⟩ = some (.int .i64 n)) : MeetOk W W' R B nb no ws ws L v n := by
 refine ⟨[], v, by rw [List.append_nil]; exact h.below hb, Only.of_below hb, fun cs T hc => ?_, fun k hk => .inl hk, fun q hq => (by cases hq)⟩
 have h1 := cell_of_row W nb (no + 2) _ _ _ hc
 rw [hn] at h1
 rw [set_same h1.symm]
 exact (hb.block nb hnl).trans hc
theorem SetN.meet {W W' : World} {R B nb no : Nat} {ws : WS} {L : List (Fn × Value × Nat)} {v : Value} {n : Int} (h : RSt W R B ws L v) (hs : SetN W W' nb no n) (hnR : nb ≠ R) (hnB : nb < B) : MeetOk W W' R B nb no ws ws L v n := by
 refine ⟨[], v, ?_, hs.1.mono fun i _ e => .inr (.inl e), hs.2, fun k hk => .inl hk, fun q hq => (by cases hq)⟩
 rw [List.append_nil]
 exact h.keep (hs.1.block R (heap_lt h.head) (by omega)) (fun k hk => hs.1.block k (h.row.lt k hk).2 (by have := h.row.lt k hk; omega)) (fun q hq k hk => hs.1.block k ((h.each q hq).lt hk).2 (by have := (h.each q hq).lt hk; omega))
theorem MeetOk.mark {W : World} {R B nb no : Nat} {ws : WS} {L : List (Fn × Value × Nat)} {v : Value} {m n : Int} (h : RSt W R B ws L v) (hnR : nb ≠ R) (hnB : nb < B) (hnl : nb < W.heap.size) : MeetOk W ((W.setCell ⟨nb, no + 2, none⟩ (.int .i64 n)).setCell ⟨R, 1, none⟩ (.int .i64 m)) R B nb no ws ⟨ws.funs, m⟩ L v n := by
 have ho := (Only.setCell (F := fun k => k = R ∨ k = nb) W (b := nb) (.inr rfl) (no + 2) (.int .i64 n)).trans' (Only.setCell (F := fun k => k = R ∨ k = nb) (W.setCell ⟨nb, no + 2, none⟩ (.int .i64 n)) (b := R) (.inl rfl) 1 (.int .i64 m))
 have h1 : (W.setCell ⟨nb, no + 2, none⟩ (.int .i64 n)).heap[R]? = some (.cells #[v, .int .i64 ws.mark] 74 (0, 0)) := (Below.heap_setCell _ _ _ R (by show R ≠ nb; omega)).trans h.head
 refine ⟨[], v, ?_, ho.mono fun i _ e => e.imp id .inl, fun cs T hc => ?_, fun k hk => .inl hk, fun q hq => (by cases hq)⟩
 ·rw [List.append_nil]
  have hB := h.lt
  refine ⟨blk_set h1 1 _, h.funs, ?_, fun q hq => (h.each q hq).keep fun k hk => ho.block k ((h.each q hq).lt hk).2 (by have := (h.each q hq).lt hk; omega), hB⟩
  refine ⟨h.row.1, h.row.2.imp id fun ⟨g, cap, cur, e1, e2, e3, e4⟩ => ⟨g, cap, cur, e1, e2, (ho.block g (heap_lt e3) (by omega)).trans e3, e4⟩⟩
 ·exact (Below.heap_setCell _ _ _ nb (by show nb ≠ R; omega)).trans (blk_set hc _ _)
theorem meet_any (W : World) (R B nb no : Nat) (ws : WS) (L : List (Fn × Value × Nat)) (v : Value) (t : Tr) (S : Nat → Prop) (A : Option Addr) (c : Nat) (fn : Int) (loop : Bool) (k : Nat) (hR : RSt W R B ws L v) (hB : B ≤ W.heap.size) (hwf : WfF ws.funs) (hl5 : ws.funs.length ≤ 500) (hmk : 0 ≤ ws.mark ∧ ws.mark ≤ 1000000) (hnR : nb ≠ R) (hnB : nb < B)
  (hf : -1 ≤ fn ∧ fn < ws.funs.length)
  (hT : TreeAt W S t (.agg #[.int .i64 t.op, .string (bs t.s), .int .i64 t.n, .slice A t.l.length c, .int .i64 t.line])) (hS : ∀ k, S k → k < W.heap.size) (hz : t.size ≤ 50000) (h0 : isFun t.op = true → 0 < t.l.length)
  (c0 : W.cell? ⟨nb, no, none⟩ = some (.int .i64 t.op)) (c1 : W.cell? ⟨nb, no + 1, none⟩ = some (.string (bs t.s))) (c2 : W.cell? ⟨nb, no + 2, none⟩ = some (.int .i64 t.n)) (c3 : W.cell? ⟨nb, no + 3, none⟩ = some (.slice A t.l.length c)) (c4 : W.cell? ⟨nb, no + 4, none⟩ = some (.int .i64 t.line)) (hnb : ∃ cs T, W.heap[nb]? = some (.cells cs T (0, 0))) :
  Calls Tryz.prog 57 #[.pointer (some ⟨R, 0, none⟩), .pointer (some ⟨nb, no, none⟩), placeV fn loop] W (MeetQ W R B nb no ws L v ⟨t, fn, loop, k⟩) := by
 have hbl := cell_lt c1
 obtain ⟨csn, Tn, hnb⟩ := hnb
 have hRl := heap_lt hR.head
 have HFi := Lib.hid (show t.s.length ≤ maxLen from by
  obtain ⟨A9, c9, -, -, h⟩ := hT.form
  exact h.1)
 have HFi := Lib.hid (show t.s.length ≤ maxLen from by
  obtain ⟨A9, c9, -, -, h⟩ := hT.form
  exact h.1)
 have HC := Lib.hid (And.intro c0 (And.intro c1 (And.intro c2 (And.intro c3 (And.intro c4 hnb)))))
 have HR := Lib.hid (And.intro hR (And.intro hT (And.intro hS (And.intro hwf h0))))
 clear c0 c1 c2 c3 c4 hnb hR hT hS hwf h0
 unfold placeV
 go_enter Tryz.func57, Tryz.ntmps57
 go_upto_region 1 with fail
 have hb0 := (below_alloc9 W (.cells #[.int .i64 fn, .bool loop] 122)).alloc (by simp) (.cells #[.int .i64 0, .int .i64 0] 76)
 have bA := ((below_alloc9 (W.alloc (.cells #[.int .i64 fn, .bool loop] 122)) (.cells #[.int .i64 0, .int .i64 0] 76)).block W.heap.size (by simp)).trans (heap_alloc_new W _)
 have bB := heap_alloc_new (W.alloc (.cells #[.int .i64 fn, .bool loop] 122)) (.cells #[.int .i64 0, .int .i64 0] 76)
 simp only [World.size_alloc] at bB
 obtain ⟨W0, eW⟩ : ∃ W0, (W.alloc (.cells #[.int .i64 fn, .bool loop] 122)).alloc (.cells #[.int .i64 0, .int .i64 0] 76) = W0 := ⟨_, rfl⟩
 have hsz0 : W0.heap.size = W.heap.size + 2 := by rw [← eW]; simp
 rw [eW] at bA bB hb0 ⊢
 obtain ⟨N, eN⟩ : ∃ N, W.heap.size = N := ⟨_, rfl⟩
 rw [eN] at bA bB hsz0 ⊢
 have n0 := ((bcell hb0).1 nb no hbl).trans HC.out.1
 have n2 := ((bcell hb0).1 nb (no + 2) hbl).trans HC.out.2.2.1
 have n4 := ((bcell hb0).1 nb (no + 4) hbl).trans HC.out.2.2.2.2.1
 have hnb0 := (hb0.block nb hbl).trans HC.out.2.2.2.2.2
 have fn2 := frozen_of_row W0 nb (no + 2) _ _ hnb0
 have hR0 := HR.out.1.below hb0
 have r0 := cell_of_row W0 R 0 _ _ _ hR0.head
 have r1 := cell_of_row W0 R 1 _ _ _ hR0.head
 have fr1 := frozen_of_row W0 R 1 _ _ hR0.head
 have a0 := cell_of_row W0 _ 0 _ _ _ bA
 have a1 := cell_of_row W0 _ 1 _ _ _ bA
 have b0 := cell_of_row W0 _ 0 _ _ _ bB
 have b1 := cell_of_row W0 _ 1 _ _ _ bB
 have fb0 := frozen_of_row W0 _ 0 _ _ bB
 have fb1 := frozen_of_row W0 _ 1 _ _ bB
 simp at r0 r1 a0 a1 b0 b1
 have H0 := Lib.hid (And.intro hb0 (And.intro bA (And.intro bB (And.intro hR0 (And.intro hsz0 hnb0)))))
 clear hb0 bA bB hR0 eW hnb0
 have hst : ∀ e W', MeetQ W R B nb no ws L v ⟨t, fn, loop, k⟩ e W' ↔ (match stepE ws ⟨t, fn, loop, k⟩ with
   | .error (line, er) => e = .returned (faultV line er) ∧ er ≠ 0 ∧ Below W.heap.size W W'
   | .ok (ws', n) => e = .returned (faultV 0 0) ∧ MeetOk W W' R B nb no ws ws' L v n) := fun e W' => Iff.rfl
 have hst : ∀ e W', MeetQ W R B nb no ws L v ⟨t, fn, loop, k⟩ e W' ↔ (match stepE ws ⟨t, fn, loop, k⟩ with
   | .error (line, er) => e = .returned (faultV line er) ∧ er ≠ 0 ∧ Below W.heap.size W W'
   | .ok (ws', n) => e = .returned (faultV 0 0) ∧ MeetOk W W' R B nb no ws ws' L v n) := fun e W' => Iff.rfl
 have hst : ∀ e W', MeetQ W R B nb no ws L v ⟨t, fn, loop, k⟩ e W' ↔ (match stepE ws ⟨t, fn, loop, k⟩ with
   | .error (line, er) => e = .returned (faultV line er) ∧ er ≠ 0 ∧ Below W.heap.size W W'
   | .ok (ws', n) => e = .returned (faultV 0 0) ∧ MeetOk W W' R B nb no ws ws' L v n) := fun e W' => Iff.rfl
 have hst : ∀ e W', MeetQ W R B nb no ws L v ⟨t, fn, loop, k⟩ e W' ↔ (match stepE ws ⟨t, fn, loop, k⟩ with
   | .error (line, er) => e = .returned (faultV line er) ∧ er ≠ 0 ∧ Below W.heap.size W W'
   | .ok (ws', n) => e = .returned (faultV 0 0) ∧ MeetOk W W' R B nb no ws ws' L v n) := fun e W' => Iff.rfl
 by_cases h41 : t.op = 41 ∨ t.op = 10
 ·-- a function
  have hfun : isFun t.op = true := by unfold isFun; rcases h41 with h | h <;> rw [h] <;> rfl
  have hS1 : stepE ws ⟨t, fn, loop, k⟩ = if ws.funs.length = 500 ∨ 200 < (openF t.op t.s t.l fn ws.mark).vars.length then .error (t.line, 52) else .ok (⟨ws.funs ++ [openF t.op t.s t.l fn ws.mark], if ws.funs.length = 0 then 4 else ws.mark + 2⟩, ws.funs.length) := by
   unfold stepE
   rw [if_pos hfun]
  have HE := Lib.hid (enter_any W0 R B nb no ws L v t S A c fn loop H0.out.2.2.2.1 (by omega) hl5 hmk hnR hnB (HR.out.2.1.keep (fun _ h => h) (fun k hk => H0.out.1.block k (HR.out.2.2.1 k hk))) (fun k hk => by have := HR.out.2.2.1 k hk; omega) hz (HR.out.2.2.2.2 hfun)
   n0 (((bcell H0.out.1).1 nb (no + 1) hbl).trans HC.out.2.1) n2 (((bcell H0.out.1).1 nb (no + 3) hbl).trans HC.out.2.2.2.1) n4 ⟨_, _, H0.out.2.2.2.2.2⟩)
  have HS := Lib.hid (And.intro hst hS1)
  have h4 : (t.op == 41) = true ∨ ((t.op == 41) = false ∧ (t.op == 10) = true) := by
   rcases h41 with h | h
   ·exact .inl (by rw [h]; rfl)
   ·exact .inr ⟨by rw [h]; rfl, by rw [h]; rfl⟩
  clear hst hS1 h41 hfun
  rcases h4 with e41 | ⟨e41, e10⟩
  all_goals
   go_wp2_with fail
   go_at_call 102
   refine HE.out.mono ?_
   intro e w1 hq
   unfold EnterQ at hq
   by_cases hc : ws.funs.length = 500 ∨ 200 < (openF t.op t.s t.l fn ws.mark).vars.length
   ·rw [if_pos hc] at hq
    obtain ⟨rfl, hb1⟩ := hq
    have hN1 := (hb1.block (N + 1) (by omega)).trans H0.out.2.2.1
    have hfin := fault_fin (v0 := .int .i64 t.line) (v1 := .int .i64 52) (b := N + 1) (by omega) (H0.out.1.trans (hb1.mono H0.out.1.size)) hN1
    have d0 := cell_of_row w1 _ 0 _ _ _ hN1
    have d1 := cell_of_row w1 _ 1 _ _ _ hN1
    have fd0 := frozen_of_row w1 _ 0 _ _ hN1
    have fd1 := frozen_of_row w1 _ 1 _ _ hN1
    simp at d0 d1
    have HF := Lib.hid (And.intro hfin hc)
    clear hfin hN1 hb1 hc
    unfold faultV
    go_wp2
    refine bodyPost_ret (results_fault _ _ _ rfl rfl HF.out.1.1) rfl ?_
    rw [HS.out.1, HS.out.2, if_pos HF.out.2]
    exact ⟨rfl, by decide, HF.out.1.2⟩
   ·rw [if_neg hc] at hq
    obtain ⟨rfl, hq⟩ := hq
    have hq := hq.meet
    have hN1 : w1.heap[N + 1]? = some (.cells #[.int .i64 0, .int .i64 0] 76 (0, 0)) := by
     obtain ⟨more, v', k1, k2, -⟩ := hq
     exact (k2.block (N + 1) (by omega) (by
      rintro (e | e | e)
      ·omega
      ·omega
      ·have := (HR.out.1.row.lt _ e).2; omega)).trans H0.out.2.2.1
    have hfin := hq.fin (a := .int .i64 0) (b := .int .i64 0) (N := N + 1) H0.out.1 hbl (by omega) hN1
    have d0 := cell_of_row w1 _ 0 _ _ _ hN1
    have d1 := cell_of_row w1 _ 1 _ _ _ hN1
    have fd0 := frozen_of_row w1 _ 0 _ _ hN1
    have fd1 := frozen_of_row w1 _ 1 _ _ hN1
    simp at d0 d1
    have HF := Lib.hid (And.intro hfin hc)
    clear hfin hN1 hq hc
    unfold faultV
    go_wp2
    refine bodyPost_ret (results_fault _ _ _ rfl rfl HF.out.1.1) rfl ?_
    rw [HS.out.1, HS.out.2, if_neg HF.out.2]
    exact ⟨rfl, HF.out.1.2⟩
 have hnf : ¬ isFun t.op = true := by unfold isFun; simp; omega
 have hE0 : stepE ws ⟨t, fn, loop, k⟩ = if t.op = 11 ∨ t.op = 15 ∨ t.op = 16 then .ok (⟨ws.funs, ws.mark + 1⟩, ws.mark)
   else if t.op = 1 ∨ t.op = 30 ∨ t.op = 35 ∨ t.op = 38 then (match findN ws.funs ws.funs.length fn t.s with
    | none => .error (t.line, 50)
    | some v => .ok (ws, v))
   else if (t.op = 36 ∧ fn = 0) ∨ ((t.op = 39 ∨ t.op = 40) ∧ loop = false) then .error (t.line, 51) else .ok (ws, t.n) := by
  unfold stepE
  rw [if_neg hnf]
  rfl
 have e41 : (t.op == 41) = false := by rw [beq_eq_false_iff_ne]; omega
 have e10 : (t.op == 10) = false := by rw [beq_eq_false_iff_ne]; omega
 by_cases hm : t.op = 11 ∨ t.op = 15 ∨ t.op = 16
 ·-- a mark
  rw [if_pos hm] at hE0
  have HS := Lib.hid (And.intro hst hE0)
  have h4 : (t.op == 11) = true ∨ ((t.op == 11) = false ∧ (t.op == 16) = true) ∨ ((t.op == 11) = false ∧ (t.op == 16) = false ∧ (t.op == 15) = true) := by
   simp only [beq_iff_eq, beq_eq_false_iff_ne]
   omega
  have hok := MeetOk.mark (m := ws.mark + 1) (n := ws.mark) (no := no) H0.out.2.2.2.1 hnR hnB (by omega : nb < W0.heap.size)
  have hN1 : ((W0.setCell ⟨nb, no + 2, none⟩ (.int .i64 ws.mark)).setCell ⟨R, 1, none⟩ (.int .i64 (ws.mark + 1))).heap[N + 1]? = some (.cells #[.int .i64 0, .int .i64 0] 76 (0, 0)) :=
   (Below.heap_setCell _ _ _ (N + 1) (by show N + 1 ≠ R; omega)).trans ((Below.heap_setCell _ _ _ (N + 1) (by show N + 1 ≠ nb; omega)).trans H0.out.2.2.1)
  have HF := Lib.hid (hok.fin (a := .int .i64 0) (b := .int .i64 0) (N := N + 1) H0.out.1 hbl (by omega) hN1)
  clear hst hE0 hm h41 hok hN1
  rcases h4 with e11 | ⟨e11, e16⟩ | ⟨e11, e16, e15⟩
  all_goals
   go_wp2
   refine bodyPost_ret (results_fault _ _ _ rfl rfl HF.out.1) rfl ?_
   rw [HS.out.1, HS.out.2]
   exact ⟨rfl, HF.out.2⟩
 rw [if_neg hm] at hE0
 have e11 : (t.op == 11) = false := by rw [beq_eq_false_iff_ne]; omega
 have e16 : (t.op == 16) = false := by rw [beq_eq_false_iff_ne]; omega
 have e15 : (t.op == 15) = false := by rw [beq_eq_false_iff_ne]; omega
 by_cases hn : t.op = 1 ∨ t.op = 30 ∨ t.op = 35 ∨ t.op = 38
 ·-- a name
  rw [if_pos hn] at hE0
  have h4 : (t.op == 1) = true ∨ ((t.op == 1) = false ∧ (t.op == 30) = true) ∨ ((t.op == 1) = false ∧ (t.op == 30) = false ∧ (t.op == 35) = true) ∨ ((t.op == 1) = false ∧ (t.op == 30) = false ∧ (t.op == 35) = false ∧ (t.op == 38) = true) := by
   simp only [beq_iff_eq, beq_eq_false_iff_ne]
   omega
  have HE := Lib.hid (scname_any W0 R B nb no ws L v t.s t.line t.n fn loop H0.out.2.2.2.1 HR.out.2.2.2.1 hl5 hf HFi.out (((bcell H0.out.1).1 nb (no + 1) hbl).trans HC.out.2.1) n2 n4 ⟨_, _, H0.out.2.2.2.2.2⟩)
  have HS := Lib.hid (And.intro hst hE0)
  clear hst hE0 hn hm h41 hnf
  rcases h4 with e1 | ⟨e1, e30⟩ | ⟨e1, e30, e35⟩ | ⟨e1, e30, e35, e38⟩
  all_goals
   go_wp2_with fail
   go_at_call 103
   refine HE.out.mono ?_
   intro e w1 hq
   cases hfd : findN ws.funs ws.funs.length fn t.s with
   | none =>
    rw [hfd] at hq
    obtain ⟨rfl, hb1⟩ := hq
    have hN1 := (hb1.block (N + 1) (by omega)).trans H0.out.2.2.1
    have hfin := fault_fin (v0 := .int .i64 t.line) (v1 := .int .i64 50) (b := N + 1) (by omega) (H0.out.1.trans (hb1.mono H0.out.1.size)) hN1
    have d0 := cell_of_row w1 _ 0 _ _ _ hN1
    have d1 := cell_of_row w1 _ 1 _ _ _ hN1
    have fd0 := frozen_of_row w1 _ 0 _ _ hN1
    have fd1 := frozen_of_row w1 _ 1 _ _ hN1
    simp at d0 d1
    have HF := Lib.hid (And.intro hfin hfd)
    clear hfin hN1 hb1 hfd
    unfold faultV
    go_wp2
    refine bodyPost_ret (results_fault _ _ _ rfl rfl HF.out.1.1) rfl ?_
    rw [HS.out.1, HS.out.2, HF.out.2]
    exact ⟨rfl, by decide, HF.out.1.2⟩
   | some n9 =>
    rw [hfd] at hq
    obtain ⟨rfl, hq⟩ := hq
    have hN1 : w1.heap[N + 1]? = some (.cells #[.int .i64 0, .int .i64 0] 76 (0, 0)) := (hq.1.block (N + 1) (by omega) (by omega)).trans H0.out.2.2.1
    have hq := hq.meet H0.out.2.2.2.1 hnR hnB
    have hfin := hq.fin (a := .int .i64 0) (b := .int .i64 0) (N := N + 1) H0.out.1 hbl (by omega) hN1
    have d0 := cell_of_row w1 _ 0 _ _ _ hN1
    have d1 := cell_of_row w1 _ 1 _ _ _ hN1
    have fd0 := frozen_of_row w1 _ 0 _ _ hN1
    have fd1 := frozen_of_row w1 _ 1 _ _ hN1
    simp at d0 d1
    have HF := Lib.hid (And.intro hfin hfd)
    clear hfin hN1 hq hfd
    unfold faultV
    go_wp2
    refine bodyPost_ret (results_fault _ _ _ rfl rfl HF.out.1.1) rfl ?_
    rw [HS.out.1, HS.out.2, HF.out.2]
    exact ⟨rfl, HF.out.1.2⟩
 rw [if_neg hn] at hE0
 have e1 : (t.op == 1) = false := by rw [beq_eq_false_iff_ne]; omega
 have e30 : (t.op == 30) = false := by rw [beq_eq_false_iff_ne]; omega
 have e35 : (t.op == 35) = false := by rw [beq_eq_false_iff_ne]; omega
 have e38 : (t.op == 38) = false := by rw [beq_eq_false_iff_ne]; omega
 by_cases h36 : t.op = 36
 ·have e36 : (t.op == 36) = true := by rw [h36]; rfl
  by_cases h0 : fn = 0
  ·rw [if_pos (.inl ⟨h36, h0⟩)] at hE0
   have HS := Lib.hid (And.intro hst hE0)
   have ez : (fn == 0) = true := by rw [h0]; rfl
   clear hst hE0 hn hm h41 hnf h36 h0
   have hfin := fault_fin (v0 := .int .i64 t.line) (v1 := .int .i64 51) (b := N + 1) (by omega) H0.out.1 H0.out.2.2.1
   have HF := Lib.hid hfin
   clear hfin
   go_wp2
   refine bodyPost_ret (results_fault _ _ _ rfl rfl HF.out.1) rfl ?_
   rw [HS.out.1, HS.out.2]
   exact ⟨rfl, by decide, HF.out.2⟩
  ·rw [if_neg (by omega)] at hE0
   have HS := Lib.hid (And.intro hst hE0)
   have ez : (fn == 0) = false := by rw [beq_eq_false_iff_ne]; exact h0
   clear hst hE0 hn hm h41 hnf h36 h0
   have hfin := fault_fin (v0 := .int .i64 0) (v1 := .int .i64 0) (b := N + 1) (by omega) H0.out.1 H0.out.2.2.1
   have HF := Lib.hid hfin
   clear hfin
   go_wp2
   refine bodyPost_ret (results_fault _ _ _ rfl rfl HF.out.1) rfl ?_
   rw [HS.out.1, HS.out.2]
   exact ⟨rfl, MeetOk.idle HR.out.1 HF.out.2 hbl HC.out.2.2.1⟩
 have e36 : (t.op == 36) = false := by rw [beq_eq_false_iff_ne]; omega
 by_cases h39 : t.op = 39 ∨ t.op = 40
 ·have h4 : (t.op == 39) = true ∨ ((t.op == 39) = false ∧ (t.op == 40) = true) := by
   simp only [beq_iff_eq, beq_eq_false_iff_ne]
   omega
  cases loop with
  | false =>
   rw [if_pos (.inr ⟨h39, rfl⟩)] at hE0
   have HS := Lib.hid (And.intro hst hE0)
   clear hst hE0 hn hm h41 hnf h36 h39
   rcases h4 with e39 | ⟨e39, e40⟩
   all_goals
    have hfin := fault_fin (v0 := .int .i64 t.line) (v1 := .int .i64 51) (b := N + 1) (by omega) H0.out.1 H0.out.2.2.1
    have HF := Lib.hid hfin
    clear hfin
    go_wp2
    refine bodyPost_ret (results_fault _ _ _ rfl rfl HF.out.1) rfl ?_
    rw [HS.out.1, HS.out.2]
    exact ⟨rfl, by decide, HF.out.2⟩
  | true =>
   rw [if_neg (by rintro (⟨h, -⟩ | ⟨-, h⟩); exact h36 h; cases h)] at hE0
   have HS := Lib.hid (And.intro hst hE0)
   clear hst hE0 hn hm h41 hnf h36 h39
   rcases h4 with e39 | ⟨e39, e40⟩
   all_goals
    have hfin := fault_fin (v0 := .int .i64 0) (v1 := .int .i64 0) (b := N + 1) (by omega) H0.out.1 H0.out.2.2.1
    have HF := Lib.hid hfin
    clear hfin
    go_wp2
    refine bodyPost_ret (results_fault _ _ _ rfl rfl HF.out.1) rfl ?_
    rw [HS.out.1, HS.out.2]
    exact ⟨rfl, MeetOk.idle HR.out.1 HF.out.2 hbl HC.out.2.2.1⟩
 rw [if_neg (by omega)] at hE0
 have e39 : (t.op == 39) = false := by rw [beq_eq_false_iff_ne]; omega
 have e40 : (t.op == 40) = false := by rw [beq_eq_false_iff_ne]; omega
 have HS := Lib.hid (And.intro hst hE0)
 clear hst hE0 hn hm h41 hnf h36 h39
 have hfin := fault_fin (v0 := .int .i64 0) (v1 := .int .i64 0) (b := N + 1) (by omega) H0.out.1 H0.out.2.2.1
 have HF := Lib.hid hfin
 clear hfin
 go_wp2
 refine bodyPost_ret (results_fault _ _ _ rfl rfl HF.out.1) rfl ?_
 rw [HS.out.1, HS.out.2]
 exact ⟨rfl, MeetOk.idle HR.out.1 HF.out.2 hbl HC.out.2.2.1⟩
end
end Go.Proofs.YtikbfoichhkeaaaGreat
