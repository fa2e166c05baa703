/- gumshoeref02.Alike: tokens that are the same but for lines and NL. -/
import Derived.Test.YtfjfbpmlohgghaaDoorShown
import Derived.Test.YtfjfbpmlohgghaaDoorMathK
import Derived.Test.YtfjfbpmlohgghaaDoorQuote
namespace Go.Proofs.YtfjfbpmlohgghaaDoor
open Go.RowKit Go.Proofs

theorem toksC_at : ∀ (ts : List Tok) (k j : Nat) (t : Tok), j < 5 → ts[k]? = some t → (toksC ts)[5 * k + j]? = (tokC t)[j]?
  | [], k, j, t, _, h => by simp at h
  | a :: r, 0, j, t, hj, h => by
    obtain rfl : a = t := by simpa using h
    show (tokC a ++ toksC r)[5 * 0 + j]? = _
    rw [Nat.mul_zero, Nat.zero_add, List.getElem?_append_left (by simpa [tokC] using hj)]
  | a :: r, k + 1, j, t, hj, h => by
    have ih := toksC_at r k j t hj (by simpa using h)
    show (tokC a ++ toksC r)[5 * (k + 1) + j]? = _
    have e : (tokC a).length = 5 := rfl
    rw [List.getElem?_append_right (by omega), e, show 5 * (k + 1) + j - 5 = 5 * k + j by omega, ih]

theorem toksC_k (ts : List Tok) (k j : Nat) (t : Tok) (hj : j < 5) (h : ts[k]? = some t) : (toksC ts)[k * 5 + j]? = (tokC t)[j]? := by
  rw [Nat.mul_comm]; exact toksC_at ts k j t hj h
theorem toksC_0 (ts : List Tok) (k : Nat) (t : Tok) (h : ts[k]? = some t) : (toksC ts)[k * 5]? = (tokC t)[0]? := toksC_k ts k 0 t (by decide) h
/-- A slice over these tokens. -/
def TokRow (W : World) (v : Value) (ts : List Tok) : Prop :=
  (ts = [] ∧ v = .slice none 0 0) ∨ ∃ g cap, v = .slice (some ⟨g, 0, none⟩) ts.length cap ∧ g < W.heap.size ∧ ts.length ≤ cap ∧ ∀ j u, (toksC ts)[j]? = some u → W.cell? ⟨g, j, none⟩ = some u
theorem TokRow.kept {W W' : World} {v : Value} {ts : List Tok} (h : TokRow W v ts) {B : Nat} (hB : Below B W W') (hW : W.heap.size ≤ B) : TokRow W' v ts := by
  rcases h with h | ⟨g, cap, rfl, h3, h4, h5⟩
  · exact .inl h
  · have := hB.size
    exact .inr ⟨g, cap, rfl, by omega, h4, fun j u hj => (hB.cell (p := ⟨g, j, none⟩) (by simp; omega)).trans (h5 j u hj)⟩
theorem TokRow.grown {W W' : World} {v : Value} {ts : List Tok} (h : TokRow W v ts) {B : Nat} (hB : Below B W W') (hW : ∀ g cap, v = .slice (some ⟨g, 0, none⟩) ts.length cap → g < B) : TokRow W' v ts := by
  rcases h with h | ⟨g, cap, rfl, h3, h4, h5⟩
  · exact .inl h
  · have := hB.size
    exact .inr ⟨g, cap, rfl, by omega, h4, fun j u hj => (hB.cell (p := ⟨g, j, none⟩) (hW g cap rfl)).trans (h5 j u hj)⟩
theorem toksC_len : ∀ ts : List Tok, (toksC ts).length = ts.length * 5
  | [] => rfl
  | t :: r => by
    have := toksC_len r
    show (tokC t ++ toksC r).length = (r.length + 1) * 5
    rw [List.length_append, this, Nat.add_mul, Nat.add_comm]
    rfl
theorem TokRow.of_owns {W : World} {B : Nat} {v : Value} {ts : List Tok} (h : W.ownsRow B 30 5 v ts.length (toksC ts)) : TokRow W v ts := by
  rcases h.2 with ⟨rfl, h0⟩ | ⟨g, cap, cur, rfl, h1, h2, h3, h4, h5, h6⟩
  · exact .inl ⟨List.eq_nil_of_length_eq_zero h0, rfl⟩
  · refine .inr ⟨g, cap, rfl, (Array.getElem?_eq_some_iff.1 h2).1, h3, fun j u hj => ?_⟩
    have := h.cells (g := g) rfl j u hj
    have e : (⟨g, 0, none⟩ : Addr).add j = ⟨g, j, none⟩ := by unfold Addr.add; split <;> simp_all
    rwa [e] at this
theorem lex_row {w : World} {o : Lexed} {e : Ending} {W' : World} (h : LexPost w o e W') :
    ∃ v, e = .returned (.tuple #[v, .int .i64 o.line, .int .i64 o.e]) ∧ TokRow W' v o.toks ∧ Below w.heap.size w W' := by
  obtain ⟨v, rfl, hrow, hB⟩ := h
  exact ⟨v, rfl, .of_owns hrow, hB⟩

theorem bare_ne {t u : Tok} : bareT t = bareT u ↔ t.kind = u.kind ∧ t.s = u.s ∧ t.n = u.n := by
  unfold bareT; simp
theorem take_bare {ts us : List Tok} {k : Nat} {t u : Tok} (ht : ts[k]? = some t) (hu : us[k]? = some u) (h : (ts.take k).map bareT = (us.take k).map bareT) (e : bareT t = bareT u) :
    (ts.take (k + 1)).map bareT = (us.take (k + 1)).map bareT := by
  rw [List.take_add_one, List.take_add_one, ht, hu, List.map_append, List.map_append, h]
  simp [e]
theorem not_bare {ts us : List Tok} {k : Nat} {t u : Tok} (ht : ts[k]? = some t) (hu : us[k]? = some u) (e : bareT t ≠ bareT u) : ts.map bareT ≠ us.map bareT := by
  intro h
  apply e
  have := congrArg (fun l => l[k]?) h
  simpa [ht, hu] using this

set_option maxRecDepth 100000 in
set_option maxHeartbeats 2000000 in
theorem alike_some (ts us : List Tok) (n g1 g2 c1 c2 : Nat) (w : World) (hl1 : ts.length = n) (hl2 : us.length = n) (hsz : n ≤ 1000000) (hn1 : n ≤ c1) (hn2 : n ≤ c2) (hg1 : g1 < w.heap.size) (hg2 : g2 < w.heap.size)
    (ht : ∀ j u, (toksC ts)[j]? = some u → w.cell? ⟨g1, j, none⟩ = some u) (hu : ∀ j u, (toksC us)[j]? = some u → w.cell? ⟨g2, j, none⟩ = some u) :
    Calls Tryd.prog 19 #[.slice (some ⟨g1, 0, none⟩) n c1, .slice (some ⟨g2, 0, none⟩) n c2] w fun e w' => e = .returned (.bool (decide (ts.map bareT = us.map bareT))) ∧ Below w.heap.size w w' := by
  have HT := Lib.hid ht
  have HU := Lib.hid hu
  have HL := Lib.hid (And.intro hl1 hl2)
  clear ht hu hl1 hl2
  go_enter Tryd.func19, Tryd.ntmps19
  go_wp2
  go_loopw [5] (fun i wr => ∃ k : Nat, k ≤ n ∧ i = .int .i64 k ∧ (ts.take k).map bareT = (us.take k).map bareT ∧ Below w.heap.size w wr) (fun i _ => n - (intOf i).toNat)
  case atStart => exact ⟨0, Nat.zero_le _, rfl, rfl, Below.refl _ _⟩
  case round =>
    obtain ⟨k, hk, rfl, hpre, hB⟩ := hrel
    have HP := Lib.hid hpre
    clear hpre
    by_cases hlt : k < n
    · obtain ⟨t, het⟩ : ∃ t, ts[k]? = some t := ⟨_, List.getElem?_eq_getElem (by rw [HL.out.1]; exact hlt)⟩
      obtain ⟨u, heu⟩ : ∃ u, us[k]? = some u := ⟨_, List.getElem?_eq_getElem (by rw [HL.out.2]; exact hlt)⟩
      have ct0 : wr.cell? ⟨g1, k * 5, none⟩ = some (.int .i64 t.kind) := (hB.cell (p := ⟨g1, _, none⟩) hg1).trans (HT.out _ _ (by rw [toksC_0 _ k _ het]; rfl))
      have ct1 : wr.cell? ⟨g1, k * 5 + 1, none⟩ = some (.string (bs t.s)) := (hB.cell (p := ⟨g1, _, none⟩) hg1).trans (HT.out _ _ (by rw [toksC_k _ k 1 _ (by decide) het]; rfl))
      have ct2 : wr.cell? ⟨g1, k * 5 + 2, none⟩ = some (.int .i64 t.n) := (hB.cell (p := ⟨g1, _, none⟩) hg1).trans (HT.out _ _ (by rw [toksC_k _ k 2 _ (by decide) het]; rfl))
      have cu0 : wr.cell? ⟨g2, k * 5, none⟩ = some (.int .i64 u.kind) := (hB.cell (p := ⟨g2, _, none⟩) hg2).trans (HU.out _ _ (by rw [toksC_0 _ k _ heu]; rfl))
      have cu1 : wr.cell? ⟨g2, k * 5 + 1, none⟩ = some (.string (bs u.s)) := (hB.cell (p := ⟨g2, _, none⟩) hg2).trans (HU.out _ _ (by rw [toksC_k _ k 1 _ (by decide) heu]; rfl))
      have cu2 : wr.cell? ⟨g2, k * 5 + 2, none⟩ = some (.int .i64 u.n) := (hB.cell (p := ⟨g2, _, none⟩) hg2).trans (HU.out _ _ (by rw [toksC_k _ k 2 _ (by decide) heu]; rfl))
      have hlt' : (k : Int) < (n : Int) := by omega
      obtain ⟨a0, e0⟩ : ∃ a, t.kind = a := ⟨_, rfl⟩
      obtain ⟨a1, e1⟩ : ∃ a, bs t.s = a := ⟨_, rfl⟩
      obtain ⟨a2, e2⟩ : ∃ a, t.n = a := ⟨_, rfl⟩
      obtain ⟨b0, f0⟩ : ∃ a, u.kind = a := ⟨_, rfl⟩
      obtain ⟨b1, f1⟩ : ∃ a, bs u.s = a := ⟨_, rfl⟩
      obtain ⟨b2, f2⟩ : ∃ a, u.n = a := ⟨_, rfl⟩
      rw [e0] at ct0
      rw [e1] at ct1
      rw [e2] at ct2
      rw [f0] at cu0
      rw [f1] at cu1
      rw [f2] at cu2
      by_cases h1 : a0 = b0
      · subst h1
        by_cases h2 : a1 = b1
        · subst h2
          by_cases h3 : a2 = b2
          · subst h3
            have HE := Lib.hid (take_bare het heu HP.out (bare_ne.2 ⟨e0.trans f0.symm, by have := congrArg (fun x => x.data.toList) (e1.trans f1.symm); simpa [bs_list] using this, e2.trans f2.symm⟩))
            clear e0 e1 e2 f0 f1 f2 het heu
            go_wp2_with fail
            go_quiet (fail)
            go_wp2
            go_roundw
            case rel => exact ⟨k + 1, by omega, by go_num, HE.out, hB.trans ((Drewn.below ⟨_, rfl⟩ : Below wr.heap.size wr (wr.drewN nq)).mono hB.size)⟩
            case measure => simp [intOf]; omega
          · have d3 : (a2 != b2) = true := by simpa using h3
            have HN := Lib.hid (show decide (ts.map bareT = us.map bareT) = false from decide_eq_false (not_bare het heu (fun e => h3 (by rw [← e2, ← f2]; exact (bare_ne.1 e).2.2))))
            clear h3 e0 e1 e2 f0 f1 f2 het heu
            go_wp2_with fail
            go_quiet (fail)
            go_wp2
            go_ret
            exact ⟨ret_b (by rw [HN.out]), hB.trans ((Drewn.below ⟨_, rfl⟩ : Below wr.heap.size wr (wr.drewN nq)).mono hB.size)⟩
        · have d2 : (a1.toList == b1.toList) = false := by
            rw [beq_eq_false_iff_ne, Lib.toList_data, Lib.toList_data]
            intro e
            apply h2
            rw [← bs_of a1, ← bs_of b1, e]
          have d2' : (!a1.toList == b1.toList) = true := by rw [d2]; rfl
          have HN := Lib.hid (show decide (ts.map bareT = us.map bareT) = false from decide_eq_false (not_bare het heu (fun e => h2 (by rw [← e1, ← f1, (bare_ne.1 e).2.1]))))
          clear h2 e0 e1 e2 f0 f1 f2 het heu
          go_wp2_with fail
          go_quiet (fail)
          go_wp2
          go_ret
          exact ⟨ret_b (by rw [HN.out]), hB.trans ((Drewn.below ⟨_, rfl⟩ : Below wr.heap.size wr (wr.drewN nq)).mono hB.size)⟩
      · have d1 : (a0 != b0) = true := by simpa using h1
        have HN := Lib.hid (show decide (ts.map bareT = us.map bareT) = false from decide_eq_false (not_bare het heu (fun e => h1 (by rw [← e0, ← f0]; exact (bare_ne.1 e).1))))
        clear h1 e0 e1 e2 f0 f1 f2 het heu
        go_wp2_with fail
        go_quiet (fail)
        go_wp2
        go_ret
        exact ⟨ret_b (by rw [HN.out]), hB.trans ((Drewn.below ⟨_, rfl⟩ : Below wr.heap.size wr (wr.drewN nq)).mono hB.size)⟩
    · obtain rfl : k = n := by omega
      go_wp2
      go_ret
      refine ⟨ret_b ?_, hB⟩
      have h := HP.out
      rw [List.take_of_length_le (by rw [HL.out.1]; exact Nat.le_refl _), List.take_of_length_le (by rw [HL.out.2]; exact Nat.le_refl _)] at h
      simp [h]
set_option maxHeartbeats 1000000 in
theorem alike_none (A1 A2 : Option Addr) (c1 c2 : Nat) (w : World) : Calls Tryd.prog 19 #[.slice A1 0 c1, .slice A2 0 c2] w fun e w' => e = .returned (.bool true) ∧ Below w.heap.size w w' := by
  go_enter Tryd.func19, Tryd.ntmps19
  go_wp2
  go_loopw [5] (fun i wr => i = .int .i64 0 ∧ wr = w) (fun _ _ => 0)
  case atStart => exact ⟨rfl, rfl⟩
  case round =>
    obtain ⟨rfl, rfl⟩ := hrel
    go_wp2
    go_ret
    exact ⟨rfl, Below.refl _ _⟩
set_option maxHeartbeats 1000000 in
theorem alike_differ (A1 A2 : Option Addr) (n m c1 c2 : Nat) (w : World) (h : n ≠ m) : Calls Tryd.prog 19 #[.slice A1 n c1, .slice A2 m c2] w fun e w' => e = .returned (.bool false) ∧ Below w.heap.size w w' := by
  have d : (n != m) = true := by simpa using h
  have d' : ((n : Int) != (m : Int)) = true := by
    rw [bne_iff_ne]
    omega
  go_enter Tryd.func19, Tryd.ntmps19
  go_wp2
  go_ret
  exact ⟨rfl, Below.refl _ _⟩
/-- Alike tells whether tokens are the same but for lines and NL. -/
theorem alike_any (v u : Value) (ts us : List Tok) (w : World) (hv : TokRow w v ts) (hu : TokRow w u us) (h1 : ts.length ≤ 1000000) :
    Calls Tryd.prog 19 #[v, u] w fun e w' => e = .returned (.bool (decide (ts.map bareT = us.map bareT))) ∧ Below w.heap.size w w' := by
  rcases hv with ⟨rfl, rfl⟩ | ⟨g1, c1, rfl, a1, a2, a3⟩
  · rcases hu with ⟨rfl, rfl⟩ | ⟨g2, c2, rfl, b1, b2, b3⟩
    · exact alike_none none none 0 0 w
    · by_cases h0 : us = []
      · subst h0
        exact alike_none none _ 0 c2 w
      · have := List.length_pos_iff.2 h0
        rw [decide_eq_false (fun e => h0 (List.map_eq_nil_iff.1 e.symm))]
        exact alike_differ none _ 0 us.length 0 c2 w (by omega)
  · rcases hu with ⟨rfl, rfl⟩ | ⟨g2, c2, rfl, b1, b2, b3⟩
    · by_cases h0 : ts = []
      · subst h0
        exact alike_none _ none c1 0 w
      · have := List.length_pos_iff.2 h0
        rw [decide_eq_false (show ¬ List.map bareT ts = List.map bareT [] from fun e => h0 (List.map_eq_nil_iff.1 e))]
        exact alike_differ _ none ts.length 0 c1 0 w (by omega)
    · by_cases hl : ts.length = us.length
      · by_cases h0 : 0 < ts.length
        · rw [← hl]
          exact alike_some ts us ts.length g1 g2 c1 c2 w rfl hl.symm h1 a2 (by omega) a1 b1 a3 b3
        · obtain rfl : ts = [] := List.eq_nil_of_length_eq_zero (by omega)
          obtain rfl : us = [] := List.eq_nil_of_length_eq_zero (by omega)
          exact alike_none _ _ c1 c2 w
      · rw [decide_eq_false (fun e => hl (by have := congrArg List.length e; simpa using this))]
        exact alike_differ _ _ _ _ c1 c2 w hl

/-- 'make([]Token, 0, n)' and 'append(.., ..)', within a guard that is met. -/
theorem wl_make {ops : Array Oper} {rest : List Oper} {o : Oper} {a : Act} {w : World} {Q : Exit → Act → World → Prop} (hw : Region.wanted o (yielded ops a.tmps) = true) (l c : Operand) (hop : o.op = Op.makeSlice 25 l c)
    (B n : Nat) (C : Int) (hl : a.eval l = .int .i64 0) (hc : a.eval c = .int .i64 C) (hC : C = n) (hn : n ≤ 1000000) (hB : B ≤ w.heap.size)
    (hK : ∀ w', w'.ownsRow B 30 5 (.slice (some ⟨w.heap.size, 0, none⟩) 0 n) 0 (toksC []) → w.grownBy w' none → wpList Tryd.prog ops Q rest (a.put o.dst (.slice (some ⟨w.heap.size, 0, none⟩) 0 n)) w') :
    wpList Tryd.prog ops Q (o :: rest) a w := by
  obtain ⟨i0, hi, hz0, hz1, hz2⟩ := info_parts info30
  refine wpList_step fun K hK' => ?_
  rw [if_pos hw]
  subst hC
  obtain ⟨w', hrun, r1, r2⟩ := run_make_own (P := Tryd.prog) w B 25 30 i0 _ 5 Tryd.underlying25 hi hz0 hz1 .i64 .i64 n (by rw [hz2]; omega) (by unfold maxLen; omega) hB
  unfold Oper.wp
  simp [execOp, hop, hl, hc, hrun, Result.andThen]
  exact hK' _ _ (hK w' r1 r2)
theorem wl_app {ops : Array Oper} {rest : List Oper} {o : Oper} {a : Act} {w : World} {Q : Exit → Act → World → Prop} (hw : Region.wanted o (yielded ops a.tmps) = true) (s x : Operand) (hop : o.op = Op.call { callee := Callee.builtin Builtin.append, args := #[s, x], argTypes := #[25, 25] })
    (B : Nat) (v u : Value) (n : Nat) (ts us : List Tok) (hs : a.eval s = v) (hx : a.eval x = u) (hown : w.ownsRow B 30 5 v n (toksC ts)) (hu : TokRow w u us) (hb : n + us.length ≤ 1000000) (hB : B ≤ w.heap.size)
    (hK : ∀ v' w', w'.ownsRow B 30 5 v' (n + us.length) (toksC (ts ++ us)) → w.grownBy w' v.ownBlock → wpList Tryd.prog ops Q rest (a.put o.dst v') w') :
    wpList Tryd.prog ops Q (o :: rest) a w := by
  obtain ⟨i0, hi, hz0, hz1, hz2⟩ := info_parts info30
  refine wpList_step fun K hK' => ?_
  rw [if_pos hw]
  have happ : toksC (ts ++ us) = toksC ts ++ toksC us := by simp [toksC]
  have key : ∃ v' w', (Builtin.append_ #[25, 25] o.type #[v, u]).run Tryd.prog w = .ok v' w' ∧ w'.ownsRow B 30 5 v' (n + us.length) (toksC (ts ++ us)) ∧ w.grownBy w' v.ownBlock := by
    rcases hu with ⟨rfl, rfl⟩ | ⟨g, cap, rfl, h1, h2, h3⟩
    · exact ⟨v, w, run_append_owned_none (P := Tryd.prog) w B 25 o.type 30 i0 5 Tryd.underlying25 hi _ n _ hown, by simpa using hown, World.grownBy.refl _ _⟩
    · obtain ⟨v', w', r1, r2, r3, -⟩ := run_append_own (P := Tryd.prog) w B 25 o.type 30 i0 _ 5 48 Tryd.underlying25 hi hz0 hz1 hz2 rfl (by decide) v n _ hown ⟨g, 0, none⟩ us.length cap (toksC us) (toksC_len us) (fun j x hj => by
        have e : (⟨g, 0, none⟩ : Addr).add j = ⟨g, j, none⟩ := by unfold Addr.add; split <;> simp_all
        rw [e]
        exact h3 j x hj) (fun x hx => by
        obtain ⟨t, -, ht⟩ := List.mem_flatMap.1 hx
        simp only [tokC, List.mem_cons, List.not_mem_nil, or_false] at ht
        rcases ht with rfl | rfl | rfl | rfl | rfl <;> rfl) (by unfold maxLen; omega) (by omega) hB
      exact ⟨v', w', r1, by rw [happ]; exact r2, r3⟩
  obtain ⟨v', w', r1, r2, r3⟩ := key
  unfold Oper.wp execOp
  simp only [hop, resolve, invoke, builtin, Sem.run_bind, Sem.run_pure, Result.andThen_ok, List.map_toArray, List.map_cons, List.map_nil, hs, hx, r1]
  exact hK' _ _ (hK v' w' r2 r3)

theorem sc_nl (u : Bs) : sc (10 :: u) = sc u := by
  have hb : blankL (10 :: u) = (1, 0) := by
    unfold blankL
    rw [pre2_no (by decide), pre2_no (by decide)]
    simp [longestL]
  rw [sc_blank (by rw [hb]; decide), hb]
  rfl
theorem appB_all {xs : List Bare} (h : errB xs = 0) (ys : List Bare) : appB xs ys = xs ++ ys := by
  have := (errB_zero xs).1 h
  unfold appB
  rw [if_pos (by simpa using this)]
/-- Two texts without a fault, parted by a line's end. -/
theorem lex_join (l u : Bs) (hl : l.length ≤ 9000) (hu : u.length ≤ 9000) (h1 : (lexE l).e = 0) (h2 : (lexE u).e = 0) :
    (lexE (l ++ 10 :: u)).e = 0 ∧ (lexE (l ++ 10 :: u)).toks.map bareT = ((lexE l).toks ++ (lexE u).toks).map bareT := by
  obtain ⟨a1, a2⟩ := lex_bare l (by omega)
  obtain ⟨b1, b2⟩ := lex_bare u (by omega)
  obtain ⟨c1, c2⟩ := lex_bare (l ++ 10 :: u) (by simp; omega)
  rw [h1] at a1
  rw [h2] at b1
  have hj := sc_join u _ l (Nat.le_refl _) (fun x hx => by rw [(errB_zero _).1 a1.symm x hx]; decide)
  rw [sc_nl, appB_all a1.symm] at hj
  have he : errB (sc l ++ sc u) = 0 := by
    rw [← appB_all a1.symm, errB_app, if_pos a1.symm]
    exact b1.symm
  rw [if_pos a1.symm] at a2
  rw [if_pos b1.symm] at b2
  rw [hj] at c1 c2
  rw [if_pos he] at c2
  refine ⟨c1.trans he, ?_⟩
  rw [c2, List.map_append, List.map_append, a2, b2]
end Go.Proofs.YtfjfbpmlohgghaaDoor
