/- jlex.Lex: the tokens of a text, or the first error, and its line. -/
import Derived.Test.YtfjfbpmlohgghaaDoorTokens
namespace Go.Proofs.YtfjfbpmlohgghaaDoor
open Go.RowKit Go.Proofs Go.Shelf

attribute [local go_sem] Oper.semAt_some

theorem info30 : (Tryd.prog.info? 30).map (fun i => (i.zero, i.size, i.bytes)) = some (some (.agg #[.int .i64 0, .string ⟨#[]⟩, .int .i64 0, .int .i64 0, .bool false]), 5, 48) := by kernel_rfl

/-- A token's cells, and those of tokens behind each other. -/
def tokC (t : Tok) : List Value := [.int .i64 t.kind, .string (bs t.s), .int .i64 t.n, .int .i64 t.line, .bool t.nl]
def toksC (l : List Tok) : List Value := l.flatMap tokC
def evsC (l : List Ev) : List Value := toksC (l.map (·.1))
theorem evsC_snoc (l : List Ev) (x : Ev) : evsC (l ++ [x]) = evsC l ++ tokC x.1 := by simp [evsC, toksC]
theorem KW.ofOthers {n₀ : Nat} {W W' : World} (h : KeepsOthers W W') (hb : Below n₀ W W') : KW n₀ W W' :=
  ⟨hb, h.size, fun k o hk ho => h.same k o hk (Obj.not_cells_of_walk ho)⟩
theorem cells_row (w : World) (vs : List Value) (T : TypeId) (j : Nat) (u : Value) (h : vs[j]? = some u) :
    (w.alloc (.cells vs.toArray T)).cell? ((⟨w.heap.size, 0, none⟩ : Addr).add j) = some u := by
  have e : (⟨w.heap.size, 0, none⟩ : Addr).add j = ⟨w.heap.size, j, none⟩ := by unfold Addr.add; split <;> simp_all
  rw [e, cell_of_row _ _ j _ T _ (heap_alloc_new w _)]
  simp [h]

theorem gathered_pre : ∀ (xs ys : List Ev) (out : List Tok), (∀ x ∈ xs, x.2 = 0) → out.length + xs.length ≤ 20000 → gathered out (xs ++ ys) = gathered (out ++ xs.map (·.1)) ys
  | [], ys, out, _, _ => by simp
  | (t, e) :: r, ys, out, h, hl => by
    have he : e = 0 := h (t, e) (by simp)
    subst he
    simp only [List.length_cons] at hl
    rw [List.cons_append, gathered, if_pos rfl, if_neg (by omega), gathered_pre r ys _ (fun x hx => h x (by simp [hx])) (by simp; omega)]
    simp
theorem gathered_all (xs : List Ev) (h : ∀ x ∈ xs, x.2 = 0) (hl : xs.length ≤ 20000) : gathered [] xs = ⟨xs.map (·.1), 0, 0⟩ := by
  have := gathered_pre xs [] [] h (by simpa using hl)
  rw [List.append_nil] at this
  rw [this]
  simp [gathered]
theorem gathered_stop {q : List Ev} {t : Tok} {e er : Int} {xs : List Ev} (hp : q ++ [(t, e)] <+: xs) (h : ∀ x ∈ q, x.2 = 0) (hor : (e ≠ 0 ∧ er = e ∧ q.length ≤ 20000) ∨ (e = 0 ∧ er = 20 ∧ q.length = 20000)) :
    gathered [] xs = ⟨[], t.line, er⟩ := by
  obtain ⟨r, rfl⟩ := hp
  rw [List.append_assoc, gathered_pre q _ [] h (by simp; omega)]
  rcases hor with ⟨h1, rfl, _⟩ | ⟨rfl, rfl, h2⟩
  · simp [gathered, h1]
  · simp [gathered, h2]
def lexE (s : Bs) : Lexed := gathered [] (evs 1 s)

/-- What Lex hands back: tokens in a row of new memory, a line, an error. -/
def LexPost (w : World) (o : Lexed) (e : Ending) (W' : World) : Prop :=
  ∃ v, e = .returned (.tuple #[v, .int .i64 o.line, .int .i64 o.e]) ∧ W'.ownsRow w.heap.size 30 5 v o.toks.length (toksC o.toks) ∧ Below w.heap.size w W'

set_option maxRecDepth 100000 in
set_option maxHeartbeats 1000000 in
theorem lex_long (s : ByteArray) (w : World) (hs : s.size ≤ maxLen) (h : 65536 < s.size) :
    Calls Tryd.prog 18 #[.string s] w (LexPost w ⟨[], 0, 20⟩) := by
  unfold maxLen at hs
  have g : (65536 : Int) < s.size := by omega
  go_enter Tryd.func18, Tryd.ntmps18
  go_wp2
  go_step3
  go_wp2
  rw [Exit.noGoto_ret]
  refine bodyPost_ret (v := .tuple #[.slice none 0 0, .int .i64 0, .int .i64 20]) (by simp [results, Tryd.results18, go_sem]) rfl ⟨_, rfl, World.ownsRow_nil _ _ _ _, Below.refl _ _⟩

/-- The loop was left: what is told. -/
def LeftLex (bO : Nat) (c : Code) (pre : List Ev) (W : World) : Prop :=
  c = .exit 0 ∧ ∃ (q : List Ev) (t : Tok) (e er : Int), pre = q ++ [(t, e)] ∧ (∀ x ∈ q, x.2 = 0) ∧ Boxed W bO 25 (.slice none 0 0) ∧ Boxed W (bO + 1) 3 (.int .i64 t.line) ∧ Boxed W (bO + 1 + 1) 26 (.int .i64 er) ∧
    ((e ≠ 0 ∧ er = e ∧ q.length ≤ 20000) ∨ (e = 0 ∧ er = 20 ∧ q.length = 20000))

set_option maxRecDepth 100000 in
set_option maxHeartbeats 4000000 in
theorem lex_in (n : Nat) (hn : 3 ≤ n) (s : ByteArray) (w : World) (hs : s.size ≤ 65536) (hE : Env w) :
    CallsIn Fence.wide n Tryd.prog 18 #[.string s] w (LexPost w (lexE s.data.toList)) := by
  have h1 : 1 ≤ n := by omega
  obtain ⟨i0, hi, hz0, hz1, hz2⟩ := info_parts info30
  have HI := Lib.hid (And.intro hi (And.intro hz0 (And.intro hz1 hz2)))
  clear hi hz0 hz1 hz2
  refine callsIn_of_wp_marks Tryd.func18 rfl trivial ?_ rfl
  simp only [Tryd.ntmps18, List.size_toArray, List.length_cons, List.length_nil, Nat.reduceAdd, Nat.reduceSub, Array.replicate_succ, Array.replicate_zero, List.push_toArray, List.append_toArray, List.nil_append, List.cons_append]
  gi_wp2_with fail
  refine wpIn_wide.2 (wp_scope_straight ((wpIn_wide (n := n)).1 ?_))
  have g : (s.size : Int) ≤ 65536 := by omega
  gi_wp2
  refine wpIn_label ?_
  gi_wp2_with (refine ⟨trivial, ?_⟩; gi_at_call 28; refine (tokens_in (n - 1) s _).mono ?_; rintro e w' ⟨rfl, rfl⟩)
  have bO := (((Boxed.new w 25 (.slice none 0 0)).alloc (.cells #[.int .i64 0] 3)).alloc (.cells #[.int .i64 0] 26)).alloc (.cells #[.string s] 9)
  have bL := ((Boxed.new (w.alloc (.cells #[.slice none 0 0] 25)) 3 (.int .i64 0)).alloc (.cells #[.int .i64 0] 26)).alloc (.cells #[.string s] 9)
  have bF := (Boxed.new ((w.alloc (.cells #[.slice none 0 0] 25)).alloc (.cells #[.int .i64 0] 3)) 26 (.int .i64 0)).alloc (.cells #[.string s] 9)
  have bS := Boxed.new (((w.alloc (.cells #[.slice none 0 0] 25)).alloc (.cells #[.int .i64 0] 3)).alloc (.cells #[.int .i64 0] 26)) 9 (.string s)
  simp only [World.size_alloc] at bO bL bF bS
  have hB0 : Below w.heap.size w ((((w.alloc (.cells #[.slice none 0 0] 25)).alloc (.cells #[.int .i64 0] 3)).alloc (.cells #[.int .i64 0] 26)).alloc (.cells #[.string s] 9)) :=
    ((((Below.refl _ w).alloc (Nat.le_refl _) _).alloc (by simp) _).alloc (by simp; omega) _).alloc (by simp; omega) _
  have hsz : ((((w.alloc (.cells #[.slice none 0 0] 25)).alloc (.cells #[.int .i64 0] 3)).alloc (.cells #[.int .i64 0] 26)).alloc (.cells #[.string s] 9)).heap.size = w.heap.size + 4 := by simp
  obtain ⟨W0, hW0⟩ : ∃ W0, ((((w.alloc (.cells #[.slice none 0 0] 25)).alloc (.cells #[.int .i64 0] 3)).alloc (.cells #[.int .i64 0] 26)).alloc (.cells #[.string s] 9)) = W0 := ⟨_, rfl⟩
  rw [hW0] at bO bL bF bS hB0 hsz ⊢
  clear hW0
  have hE0 : Env W0 := hE.kept hB0
  have h3 := hE.size
  refine wpIn_rangeFunc_ownH rfl h1 (gf := 31) (lb := #[.pointer (some ⟨w.heap.size + 1 + 1 + 1, 0, none⟩)]) rfl trivial (enters_of Tryd.func31 (by kernel_rfl) rfl)
    (tokens_stops (n - 1) (by omega) (w.heap.size + 1 + 1 + 1) w.heap.size s (by omega) W0 bS hE0 h3)
    KW.trans (KW.book (by omega)) (Below.refl _ _) (fun _ => rfl)
    (fun pre W => (((∃ v, Boxed W w.heap.size 25 v ∧ W.ownsRow w.heap.size 30 5 v pre.length (evsC pre) ∧ True) ∧ Boxed W (w.heap.size + 1) 3 (.int .i64 0)) ∧ (Boxed W (w.heap.size + 1 + 1) 26 (.int .i64 0) ∧ ((∀ x ∈ pre, x.2 = 0) ∧ pre.length ≤ 20000))) ∧ Below w.heap.size w W)
    (fun c pre W => LeftLex w.heap.size c pre W ∧ Below w.heap.size w W)
    (OwnFrom.and (OwnFrom.and (OwnFrom.and (Own.from (holdsRow_own w.heap.size w.heap.size 25 30 5 (fun pre => pre.length) (fun pre => evsC pre) (fun _ _ => True)) _) (Own.from (boxed_own _ _ (fun (_ : List Ev) => Value.int .i64 0)) _)) (OwnFrom.and (Own.from (boxed_own _ _ (fun (_ : List Ev) => Value.int .i64 0)) _) (ownFrom_pure _ _))) (ownFrom_below (Nat.le_refl _) (by omega)))
    (fun c => OwnFrom.and (fun s X Y row hs hg hr => by
      obtain ⟨g1, q, t, e, er, g2, g3, g4, g5, g6, g7⟩ := hs
      exact ⟨g1, q, t, e, er, g2, g3, boxed_own w.heap.size 25 (fun (_ : Unit) => Value.slice none 0 0) () X Y row g4 hg (fun r e => (hr r e).2), boxed_own (w.heap.size + 1) 3 (fun (_ : Unit) => Value.int .i64 t.line) () X Y row g5 hg (fun r e => (hr r e).2),
        boxed_own (w.heap.size + 1 + 1) 26 (fun (_ : Unit) => Value.int .i64 er) () X Y row g6 hg (fun r e => (hr r e).2), g7⟩) (ownFrom_below (Nat.le_refl _) (by omega)))
    ⟨⟨⟨⟨_, bO, World.ownsRow_nil _ _ _ _, trivial⟩, bL⟩, bF, by simp, by simp⟩, hB0⟩
    (fun x a' W => ∃ Bx, w.heap.size + 1 + 1 < Bx ∧ W.heap[Bx]? = some (.cells (tokC x.1).toArray 30 (0, 0)) ∧
      a' = { tmps := #[.string s, undef, .slice none 0 0, .int .i64 0, .int .i64 0, .pointer (some ⟨w.heap.size, 0, none⟩), .pointer (some ⟨w.heap.size + 1, 0, none⟩), .pointer (some ⟨w.heap.size + 1 + 1, 0, none⟩), .pointer (some ⟨Bx, 0, none⟩), .int .i64 x.2, .string s, .int .i64 s.size, .bool (decide ((65536 : Int) < s.size)), .string s,
        .func (.func 31) #[] #[.pointer (some ⟨w.heap.size + 1 + 1 + 1, 0, none⟩)], tokV x.1, .int .i64 x.2, undef, undef, undef, undef, undef, undef, undef, undef, undef, undef, undef, undef, undef, undef, undef, undef, undef, undef, undef], defers := [] })
    (fun x a' _ X Y row hs hg hr => by
      obtain ⟨Bx, g1, g2, g3⟩ := hs
      exact ⟨Bx, g1, (hg.block Bx (Array.getElem?_eq_some_iff.1 g2).1 (fun e => by obtain ⟨_, o, ho, hc⟩ := hr Bx e.symm; rw [g2] at ho; cases ho; cases hc)).trans g2, g3⟩)
    ?assign ?body ?done ?stop
  case assign =>
    rintro l pre x W K ⟨⟨⟨⟨v, bO1, hrow, _⟩, bL1⟩, bF1, hin⟩, hB1⟩ hK
    obtain ⟨⟨kd, ts, nn, ln, nl⟩, er⟩ := x
    unfold encE tokV
    gi_wp2
    refine hK _ _ ((KeepsOthers.alloc _ _).from _) (KW.ofOthers (KeepsOthers.alloc _ _) ((Below.refl _ W).alloc hB1.size _)) ⟨⟨⟨⟨v, bO1.alloc _, hrow.alloc _, trivial⟩, bL1.alloc _⟩, bF1.alloc _, hin⟩, hB1.alloc hB1.size _⟩ ⟨W.heap.size, bF1.lt, heap_alloc_new W _, rfl⟩
  case body =>
    rintro l pre x a' W hl ⟨r, hr⟩ ⟨⟨⟨⟨v, bO1, hrow, _⟩, bL1⟩, bF1, hin, hlen⟩, hB1⟩ ⟨Bx, hBx, hblk, rfl⟩ hlt
    obtain ⟨⟨kd, ts, nn, ln, nl⟩, er⟩ := x
    have hblk : W.heap[Bx]? = some (.cells #[.int .i64 kd, .string (bs ts), .int .i64 nn, .int .i64 ln, .bool nl] 30 (0, 0)) := hblk
    have HIn := Lib.hid hin
    clear hin
    have cO := bO1.cell
    have fO := bO1.frozen
    have cL := bL1.cell
    have fL := bL1.frozen
    have cF := bF1.cell
    have fF := bF1.frozen
    have c0 : W.cell? ⟨Bx, 0, none⟩ = some (.int .i64 kd) := cell_of_row W Bx 0 _ _ _ hblk
    have c1 : W.cell? ⟨Bx, 1, none⟩ = some (.string (bs ts)) := cell_of_row W Bx 1 _ _ _ hblk
    have c2 : W.cell? ⟨Bx, 2, none⟩ = some (.int .i64 nn) := cell_of_row W Bx 2 _ _ _ hblk
    have c3 : W.cell? ⟨Bx, 3, none⟩ = some (.int .i64 ln) := cell_of_row W Bx 3 _ _ _ hblk
    have c4 : W.cell? ⟨Bx, 4, none⟩ = some (.bool nl) := cell_of_row W Bx 4 _ _ _ hblk
    have hsW := hB1.size
    by_cases he : er = 0
    · subst he
      obtain ⟨A, cap, rfl⟩ : ∃ A cap, v = .slice A pre.length cap := by
        rcases hrow.2 with ⟨rfl, h0⟩ | ⟨g, cap, cur, rfl, _⟩
        · exact ⟨none, 0, by rw [h0]⟩
        · exact ⟨_, _, rfl⟩
      by_cases hfull : pre.length = 20000
      · have hf : ((pre.length : Int) == 20000) = true := by simp; omega
        have HF := Lib.hid hfull
        clear hfull hlen hlt
        dsimp only
        gi_wp2
        gi_region_with (fail)
        all_goals
          gi_wp2
          refine ⟨((((KeepsOthers.setCell _ _ _).trans (KeepsOthers.setCell _ _ _)).trans (KeepsOthers.setCell _ _ _)).trans (KeepsOthers.drew _)).from _, ⟨rfl, pre, ⟨kd, ts, nn, ln, nl⟩, _, 20, rfl, HIn.out, ?_, ?_, ?_, .inr ⟨rfl, rfl, HF.out⟩⟩, ?_⟩
          · exact ((bO1.set (.slice none 0 0)).other (by omega) _).other (by omega) _
          · exact ((bL1.other (by omega) _).set (.int .i64 ln)).other (by omega) _
          · exact ((bF1.other (by omega) _).other (by omega) _).set (.int .i64 20)
          · exact (((hB1.setCell (p := ⟨w.heap.size, 0, none⟩) (Nat.le_refl _) _).setCell (p := ⟨w.heap.size + 1, 0, none⟩) (by simp) _).setCell (p := ⟨w.heap.size + 1 + 1, 0, none⟩) (by simp; omega) _).drew
      · have hf : ((pre.length : Int) == 20000) = false := by simp; omega
        have hl2 : pre.length + 1 ≤ 20000 := by omega
        have HL2 := Lib.hid hl2
        clear hlen hfull
        dsimp only
        gi_wp2_with (gi_at_builtin; refine wpListIn_append_own _ rfl _ _ 25 rfl w.heap.size 30 i0 _ 5 48 Tryd.underlying25 HI.out.1 HI.out.2.1 HI.out.2.2.1 HI.out.2.2.2 rfl (by decide) _ _ _ rfl (hrow.alloc _) ⟨W.heap.size, 0, none⟩ 1 1 (tokC ⟨kd, ts, nn, ln, nl⟩) rfl rfl (cells_row _ _ _) (by simp [tokC, Value.oneCell']) (by unfold maxLen; omega) (by omega) (by simp; omega) ?_; intro v' w2 hown' hgrow _; obtain ⟨g', cap', rfl⟩ := ownsRow_succ hown'; obtain ⟨hv1, hv2, hr2, hk2, hb2⟩ := bO1.appended (by decide) hrow hB1.size (by omega) hown' hgrow; have hc1 := hv1.cell; have hf1 := hv1.frozen; have HG := Lib.hid hgrow; clear hgrow)
        have hgrow := HG.out
        refine ⟨hk2.from _, KW.ofOthers hk2 hb2, ⟨⟨⟨⟨_, hv2, ?_⟩, ?_⟩, ?_, ?_, ?_⟩, hB1.trans hb2⟩⟩
        · rw [List.length_append, evsC_snoc]
          exact hr2
        · exact ((bL1.alloc (.cells #[.int .i64 kd, .string (bs ts), .int .i64 nn, .int .i64 ln, .bool nl] 30)).kept hgrow ((bL1.alloc (.cells #[.int .i64 kd, .string (bs ts), .int .i64 nn, .int .i64 ln, .bool nl] 30)).not_row (by decide) (hrow.alloc (.cells #[.int .i64 kd, .string (bs ts), .int .i64 nn, .int .i64 ln, .bool nl] 30)))).other (by omega) _
        · exact ((bF1.alloc (.cells #[.int .i64 kd, .string (bs ts), .int .i64 nn, .int .i64 ln, .bool nl] 30)).kept hgrow ((bF1.alloc (.cells #[.int .i64 kd, .string (bs ts), .int .i64 nn, .int .i64 ln, .bool nl] 30)).not_row (by decide) (hrow.alloc (.cells #[.int .i64 kd, .string (bs ts), .int .i64 nn, .int .i64 ln, .bool nl] 30)))).other (by omega) _
        · intro a b h
          rcases List.mem_append.1 h with h | h
          · exact HIn.out (a, b) h
          · simp at h
            exact h.2
        · rw [List.length_append]
          have := HL2.out
          simpa using this
    · have hne0 : (er == 0) = false := by simpa using he
      have HE := Lib.hid he
      clear he
      have HL := Lib.hid hlen
      clear hlen
      dsimp only
      gi_wp2
      gi_region_with (fail)
      all_goals
        gi_wp2
        refine ⟨((((KeepsOthers.setCell _ _ _).trans (KeepsOthers.setCell _ _ _)).trans (KeepsOthers.setCell _ _ _)).trans (KeepsOthers.drew _)).from _, ⟨rfl, pre, ⟨kd, ts, nn, ln, nl⟩, _, er, rfl, HIn.out, ?_, ?_, ?_, .inl ⟨HE.out, rfl, HL.out⟩⟩, ?_⟩
        · exact ((bO1.set (.slice none 0 0)).other (by omega) _).other (by omega) _
        · exact ((bL1.other (by omega) _).set (.int .i64 ln)).other (by omega) _
        · exact ((bF1.other (by omega) _).other (by omega) _).set (.int .i64 er)
        · exact (((hB1.setCell (p := ⟨w.heap.size, 0, none⟩) (Nat.le_refl _) _).setCell (p := ⟨w.heap.size + 1, 0, none⟩) (by simp) _).setCell (p := ⟨w.heap.size + 1 + 1, 0, none⟩) (by simp; omega) _).drew
  case done =>
    rintro D ys W hD rfl ⟨⟨⟨⟨v, bO1, hrow, _⟩, bL1⟩, bF1, hin, hlen⟩, hB1⟩ hK
    have cO := bO1.cell
    have cL := bL1.cell
    have cF := bF1.cell
    have HR := Lib.hid (gathered_all _ hin hlen)
    clear hin hlen
    gi_wp2_with fail
    refine wpIn_wide.2 ?_
    go_quiet (fail)
    gi_wp2
    rw [Exit.noGoto_ret]
    refine ⟨by simp, .inl ⟨_, _, rfl, run_takeDeferred (w := W.drewN nq) hK, ?_⟩⟩
    refine ⟨_, results_tmp3 rfl _ _ _, ?_⟩
    unfold LexPost lexE
    rw [HR.out]
    refine ⟨_, rfl, ?_, (hB1.trans ((Drewn.below ⟨_, rfl⟩ : Below W.heap.size W (W.drewN nq)).mono hB1.size)).trans (belowK_b (w := w) (Nat.le_refl _) (W.drewN nq) D _ _ (by omega) hK rfl rfl)⟩
    rw [List.length_map]
    exact ownsRow_putObj (W := W.drewN nq) hrow _ hK rfl
  case stop =>
    rintro D c pre W hD hpre ⟨⟨rfl, q, t, e, er, rfl, hq, bO1, bL1, bF1, hor⟩, hB1⟩ hK
    have cO := bO1.cell
    have cL := bL1.cell
    have cF := bF1.cell
    have HR := Lib.hid (gathered_stop hpre hq hor)
    clear hq hor
    gi_wp2_with fail
    refine wpIn_wide.2 ?_
    go_quiet (fail)
    gi_wp2
    rw [Exit.noGoto_ret]
    refine ⟨by simp, .inl ⟨_, _, rfl, run_takeDeferred (w := W.drewN nq) hK, ?_⟩⟩
    refine ⟨_, results_tmp3 rfl _ _ _, ?_⟩
    unfold LexPost lexE
    rw [HR.out]
    exact ⟨_, rfl, World.ownsRow_nil _ _ _ _, (hB1.trans ((Drewn.below ⟨_, rfl⟩ : Below W.heap.size W (W.drewN nq)).mono hB1.size)).trans (belowK_b (w := w) (Nat.le_refl _) (W.drewN nq) D _ _ (by omega) hK rfl rfl)⟩

/-- jlex.Lex, at each text. -/
theorem lex_any (s : ByteArray) (w : World) (hs : s.size ≤ 65536) (hE : Env w) : Calls Tryd.prog 18 #[.string s] w (LexPost w (lexE s.data.toList)) :=
  callsIn_wide.1 (lex_in 3 (by omega) s w hs hE)
end Go.Proofs.YtfjfbpmlohgghaaDoor
