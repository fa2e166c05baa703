/- The law's walk: each token's line, and whether it is the first of its line. -/
import Derived.Test.YtfjfbpmlohgghaaDoorLawJoins
namespace Go.Proofs.YtfjfbpmlohgghaaDoor
open Go.RowKit Go.Proofs

/-- Lines that go up from a on and end by m; NL says where one goes up. -/
def LineRow (m : Nat) : Nat → List Tok → Prop
  | _, [] => True
  | a, t :: r => a ≤ t.line ∧ t.line ≤ m ∧ t.nl = decide (a < t.line) ∧ LineRow m t.line r

theorem count_split (l : Bs) (n : Nat) : l.count 10 = (l.take n).count 10 + (l.drop n).count 10 := by
  rw [← List.count_append, List.take_append_drop]
theorem count_drop (l : Bs) (n : Nat) : (l.drop n).count 10 ≤ l.count 10 := by
  have := count_split l n
  omega
theorem nl_line (a e : Nat) : decide (0 < e) = decide (a < a + e) := by
  by_cases h : 0 < e
  · rw [decide_eq_true h, decide_eq_true (by omega)]
  · rw [decide_eq_false h, decide_eq_false (by omega)]
theorem evs_lines (m : Nat) : ∀ (n : Nat) (l : Bs) (line : Nat), l.length ≤ n → line + l.count 10 ≤ m → LineRow m line ((evs line l).map (·.1)) := by
  intro n
  induction n with
  | zero =>
    intro l line hl _
    obtain rfl : l = [] := List.eq_nil_of_length_eq_zero (by omega)
    rw [evs_nil]
    trivial
  | succ n ih =>
    intro l line hl hm
    have hends : endsL l ≤ l.count 10 := by
      have := count_split l (gapL l).1
      unfold endsL
      omega
    have hdrop : line + endsL l + (l.drop (gapL l).1).count 10 ≤ m := by
      have := count_split l (gapL l).1
      unfold endsL
      omega
    by_cases h2 : (gapL l).2 = 0
    · by_cases h0 : l.drop (gapL l).1 = []
      · rw [evs_end h2 h0]
        trivial
      · by_cases h3 : (firstL (l.drop (gapL l).1)).e = 0
        · obtain ⟨hl1, hl2⟩ := firstL_len _ h0 h3
          rw [evs_tok h2 h0 h3 hl1]
          have hgl := gapL_le _ l (Nat.le_refl _)
          have hc := count_drop (l.drop (gapL l).1) (firstL (l.drop (gapL l).1)).len
          have h4 := ih ((l.drop (gapL l).1).drop (firstL (l.drop (gapL l).1)).len) (line + endsL l) (by rw [List.length_drop, List.length_drop] at *; omega) (by omega)
          exact ⟨by simp, by simp; omega, nl_line line (endsL l), h4⟩
        · rw [evs_err h2 h0 h3]
          exact ⟨by simp, by simp; omega, nl_line line (endsL l), trivial⟩
    · rw [evs_bad h2]
      exact ⟨by simp, by simp; omega, nl_line line (endsL l), trivial⟩
theorem LineRow.mid {m : Nat} : ∀ {q : List Tok} {a : Nat} {t : Tok} {r : List Tok}, LineRow m a (q ++ t :: r) → a ≤ t.line ∧ t.line ≤ m
  | [], _, _, _, h => ⟨h.1, h.2.1⟩
  | x :: q, a, t, r, h => by
    have h' : LineRow m x.line (q ++ t :: r) := h.2.2.2
    have := h'.mid
    exact ⟨Nat.le_trans h.1 this.1, this.2⟩
theorem event_split (xs : List Ev) : (∀ x ∈ xs, x.2 = 0) ∨ ∃ q t e r, xs = q ++ (t, e) :: r ∧ (∀ x ∈ q, x.2 = 0) ∧ e ≠ 0 := by
  induction xs with
  | nil => exact .inl (by simp)
  | cons x r ih =>
    by_cases hx : x.2 = 0
    · rcases ih with h | ⟨q, t, e, r', h1, h2, h3⟩
      · left
        intro y hy
        rcases List.mem_cons.1 hy with rfl | hy
        · exact hx
        · exact h y hy
      · refine .inr ⟨x :: q, t, e, r', by rw [h1]; rfl, fun y hy => ?_, h3⟩
        rcases List.mem_cons.1 hy with rfl | hy
        · exact hx
        · exact h2 y hy
    · exact .inr ⟨[], x.1, x.2, r, rfl, by simp, hx⟩
/-- What Lex tells of lines. -/
theorem lex_lines (l : Bs) (hl : l.length ≤ 20000) : ((lexE l).e = 0 ∧ (lexE l).line = 0 ∧ LineRow (1 + l.count 10) 1 (lexE l).toks) ∨ ((lexE l).e ≠ 0 ∧ (lexE l).toks = [] ∧ 1 ≤ (lexE l).line ∧ (lexE l).line ≤ 1 + l.count 10) := by
  have hr := evs_lines (1 + l.count 10) _ l 1 (Nat.le_refl _) (Nat.le_refl _)
  obtain ⟨-, hlen⟩ := evs_bare _ l 1 (Nat.le_refl _)
  unfold lexE
  rcases event_split (evs 1 l) with h | ⟨q, t, e, r, hx, hq, he⟩
  · rw [gathered_all _ h (by omega)]
    exact .inl ⟨rfl, rfl, hr⟩
  · right
    have hlq : q.length ≤ 20000 := by
      rw [hx] at hlen
      simp at hlen
      omega
    rw [gathered_stop (q := q) (t := t) (e := e) (er := e) ⟨r, by rw [hx]; simp⟩ hq (.inl ⟨he, rfl, hlq⟩)]
    rw [hx, List.map_append, List.map_cons] at hr
    have := hr.mid
    exact ⟨he, rfl, this.1, this.2⟩

/-- So many lines end within the first k bytes, and one more. -/
def upL (s : ByteArray) (k : Nat) : Nat := 1 + (s.data.toList.take k).count 10
theorem upL_le (s : ByteArray) (k : Nat) : upL s k ≤ 1 + k := by
  have h1 : (s.data.toList.take k).count 10 ≤ (s.data.toList.take k).length := List.count_le_length
  have h2 : (s.data.toList.take k).length ≤ k := List.length_take_le _ _
  unfold upL
  omega
theorem upL_in (s : ByteArray) (k : Nat) (h : k < s.size) (h10 : s[k] = 10) : upL s (k + 1) = upL s k + 1 := by
  unfold upL
  rw [take_snoc s k h, List.count_append, h10]
  simp
  omega
theorem upL_out (s : ByteArray) (k : Nat) (h : k < s.size) (h10 : s[k] ≠ 10) : upL s (k + 1) = upL s k := by
  unfold upL
  rw [take_snoc s k h, List.count_append]
  simp [h10]

set_option maxRecDepth 100000 in
set_option maxHeartbeats 4000000 in
theorem lines_in (s T : ByteArray) (ts : List Tok) (ln N : Nat) (er : Int) (w : World) (hs : s.size ≤ maxLen) (hE : Env w) (hT : s.extract 0 (min s.size 3000) = T) (hTs : T.size ≤ 3000) (hTs2 : T.size ≤ s.size)
    (H1 : ∀ w, Env w → Calls Tryd.prog 18 #[.string T] w (LexPost w ⟨ts, ln, er⟩)) (b1 : ts.length ≤ 20000) (hN : upL s T.size = N)
    (hor : (er = 0 ∧ ln = 0 ∧ LineRow N 1 ts) ∨ (er ≠ 0 ∧ ts = [] ∧ 1 ≤ ln ∧ ln ≤ N)) :
    Calls Tryd.prog 6 #[.string s] w fun e w' => e = .returned (.bool true) ∧ Below w.heap.size w w' := by
  have HS := Lib.hid (shown_any w hE)
  have H1' := Lib.hid H1
  have HC : ∀ w, Calls Tryd.prog 16 #[.string s] w fun e w' => e = .returned (.string T) ∧ w = w' := fun w => by
    have := cut_any s w hs
    rwa [hT] at this
  have HC' := Lib.hid HC
  have hor' := Lib.hid hor
  clear H1 HC hor
  unfold maxLen at hs
  go_enter Tryd.func6, Tryd.ntmps6
  go_wp2_with (first | (go_at_call 10; refine HS.out.mono ?_; rintro e w1 ⟨rfl, hB1⟩; have hE1 := hE.kept hB1) | (go_at_call 16; refine (HC'.out _).mono ?_; rintro e w' ⟨rfl, rfl⟩))
  go_at_call 18
  refine (H1'.out _ hE1).mono ?_
  intro e w2 hp
  obtain ⟨v1, rfl, hr1, hb1⟩ := lex_row hp
  have hB2 := hB1.trans (hb1.mono hB1.size)
  clear hp
  dsimp only at hr1
  obtain ⟨A1, c1, hv1⟩ := hr1.slice
  subst hv1
  go_wp2_with fail
  go_loopw [7, 8] (fun v i wr => ∃ k : Nat, k ≤ T.size ∧ i = .int .i64 k ∧ v = .int .i64 (upL s k) ∧ wr = w2) (fun _ i _ => T.size - (intOf i).toNat)
  case atStart => exact ⟨0, Nat.zero_le _, rfl, rfl, rfl⟩
  case round =>
    obtain ⟨k, hk, rfl, rfl, rfl⟩ := hrel
    by_cases hlt : k < T.size
    · have hlt2 : k < s.size := by omega
      have g1 : (k : Int) < T.size := by omega
      have hu := upL_le s k
      by_cases h10 : s[k] = 10
      · have HU := Lib.hid (upL_in s k hlt2 h10)
        go_wp2_with (go_at_call 16; refine (HC'.out _).mono ?_; rintro e w' ⟨rfl, rfl⟩)
        go_roundw
        case rel => exact ⟨k + 1, by omega, by go_num, by rw [HU.out]; go_num, trivial⟩
        case measure => simp [intOf]; omega
      · have HU := Lib.hid (upL_out s k hlt2 h10)
        have d : ((s[k].toNat : Int) == 10) = false := by
          rw [beq_eq_false_iff_ne]
          intro e
          apply h10
          have e2 : s[k].toNat = 10 := by omega
          rw [← UInt8.toNat_inj]
          exact e2
        clear h10
        go_wp2_with (go_at_call 16; refine (HC'.out _).mono ?_; rintro e w' ⟨rfl, rfl⟩)
        go_roundw
        case rel => exact ⟨k + 1, by omega, by go_num, by rw [HU.out], trivial⟩
        case measure => simp [intOf]; omega
    · obtain rfl : k = T.size := by omega
      rw [hN]
      have hNle : N ≤ 1 + T.size := by rw [← hN]; exact upL_le s _
      clear hN
      have hsz := hB2.size
      rcases hor'.out with ⟨rfl, rfl, hrow⟩ | ⟨h1, rfl, h2, h3⟩
      · obtain ⟨W0, hW0⟩ : ∃ x, x = wr := ⟨_, rfl⟩
        subst hW0
        have HR := Lib.hid hr1
        have HW := Lib.hid hrow
        clear hr1 hrow hlt hk
        go_wp2_with (go_at_call 16; refine (HC'.out _).mono ?_; rintro e w' ⟨rfl, rfl⟩)
        go_loopw [9, 10] (fun v i wr => ∃ (k a : Nat), k ≤ ts.length ∧ i = .int .i64 k ∧ v = .int .i64 a ∧ LineRow N a (ts.drop k) ∧ Below W0.heap.size W0 wr) (fun _ i _ => ts.length - (intOf i).toNat)
        case atStart => exact ⟨0, 1, Nat.zero_le _, rfl, rfl, HW.out, Below.refl _ _⟩
        case round =>
          obtain ⟨k, a, hk, rfl, rfl, hrow, hB5⟩ := hrel
          by_cases hlt : k < ts.length
          · obtain ⟨t, het⟩ : ∃ t, ts[k]? = some t := ⟨_, List.getElem?_eq_getElem hlt⟩
            have hd : ts.drop k = t :: ts.drop (k + 1) := by
              rw [List.drop_eq_getElem_cons hlt]
              congr 1
              rw [List.getElem?_eq_getElem hlt] at het
              exact Option.some.inj het
            rw [hd] at hrow
            obtain ⟨p1, p2, p3, p4⟩ := hrow
            have HQ := Lib.hid p4
            have g0 : (k : Int) < (ts.length : Int) := by omega
            obtain ⟨g, hg, hA, hcells⟩ : ∃ g, A1 = some ⟨g, 0, none⟩ ∧ g < W0.heap.size ∧ ∀ j u, (toksC ts)[j]? = some u → W0.cell? ⟨g, j, none⟩ = some u := by
              rcases HR.out with ⟨h0, -⟩ | ⟨g, cap, h1, h2, h3, h4⟩
              · rw [h0] at hlt; simp at hlt
              · have e := (Value.slice.inj h1).1
                exact ⟨g, e, h2, h4⟩
            subst hg
            have ct3 : wr.cell? ⟨g, k * 5 + 3, none⟩ = some (.int .i64 t.line) := (hB5.cell (p := ⟨g, _, none⟩) hA).trans (hcells _ _ (by rw [toksC_k _ k 3 _ (by decide) het]; rfl))
            have ct4 : wr.cell? ⟨g, k * 5 + 4, none⟩ = some (.bool t.nl) := (hB5.cell (p := ⟨g, _, none⟩) hA).trans (hcells _ _ (by rw [toksC_k _ k 4 _ (by decide) het]; rfl))
            obtain ⟨tl, etl⟩ : ∃ x, t.line = x := ⟨_, rfl⟩
            obtain ⟨tn, etn⟩ : ∃ x, t.nl = x := ⟨_, rfl⟩
            rw [etl] at ct3 p1 p2 p3 HQ
            rw [etn] at ct4 p3
            have d1 : decide (tl < a) = false := decide_eq_false (by omega)
            have d2 : decide (N < tl) = false := decide_eq_false (by omega)
            have d3 : (tn == decide (a < tl)) = true := by rw [p3]; simp
            clear hd het p1 p2 p3 p4 etl etn hcells
            go_wp2_with fail
            go_quiet (fail)
            go_wp2
            go_roundw
            case rel => exact ⟨k + 1, tl, by omega, by go_num, rfl, HQ.out, hB5.trans ((Drewn.below ⟨_, rfl⟩ : Below wr.heap.size wr (wr.drewN nq)).mono hB5.size)⟩
            case measure => simp [intOf]; omega
          · have g0 : ¬ (k : Int) < (ts.length : Int) := by omega
            go_wp2
            go_ret
            exact ⟨rfl, hB2.trans (hB5.mono hsz)⟩
      · have d1 : (er != 0) = true := by simpa using h1
        have g1 : (1 : Int) ≤ ln := by omega
        have g2 : (ln : Int) ≤ N := by omega
        clear h1 h2 h3 hr1
        go_wp2_with (go_at_call 16; refine (HC'.out _).mono ?_; rintro e w' ⟨rfl, rfl⟩)
        go_ret
        exact ⟨rfl, hB2⟩

theorem lines_walk (s : ByteArray) (w : World) (hs : s.size ≤ maxLen) (hE : Env w) :
    Calls Tryd.prog 6 #[.string s] w fun e w' => e = .returned (.bool true) ∧ Below w.heap.size w w' := by
  obtain ⟨T, hT⟩ : ∃ T, s.extract 0 (min s.size 3000) = T := ⟨_, rfl⟩
  have hz : T.size = min s.size 3000 := by rw [← hT]; exact ext0_size s _ (by omega)
  have k1 := len_toList T
  have c1 := lex_toks T.data.toList (by omega)
  have hN : upL s T.size = 1 + T.data.toList.count 10 := by
    unfold upL
    rw [← hT, ext_take, ext0_size s _ (by omega)]
  exact lines_in s T (lexE T.data.toList).toks (lexE T.data.toList).line _ (lexE T.data.toList).e w hs hE hT (by omega) (by omega) (fun w hE => lex_any T w (by omega) hE) (by omega) hN (lex_lines T.data.toList (by omega))
end Go.Proofs.YtfjfbpmlohgghaaDoor
