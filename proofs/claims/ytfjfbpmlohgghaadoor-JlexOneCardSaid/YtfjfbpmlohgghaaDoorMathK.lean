/- Tokens but for lines and NL: of two texts, parted by a line's end, they are those of both. -/
import Derived.Test.YtfjfbpmlohgghaaDoorMathJ
namespace Go.Proofs.YtfjfbpmlohgghaaDoor
open Go.RowKit Go.Proofs

/-- A token but for its line and NL. -/
abbrev Bare := (Int × Bs × Int) × Int
def bare (x : Ev) : Bare := ((x.1.kind, x.1.s, x.1.n), x.2)
def bareO (o : One) : Bare := ((o.t.kind, o.t.s, o.t.n), o.e)
/-- What a text is gone through in, but for lines and NL. -/
def sc (l : Bs) : List Bare :=
  if l = [] then []
  else if (blankL l).1 = 0 then
    if (blankL l).2 = 0 then
      if (firstL l).e = 0 then if (firstL l).len = 0 then [] else bareO (firstL l) :: sc (l.drop (firstL l).len)
      else [bareO (firstL l)]
    else [((0, [], 0), (blankL l).2)]
  else sc (l.drop (blankL l).1)
termination_by l.length
decreasing_by
  all_goals
    have := List.length_pos_iff.2 ‹¬l = []›
    rw [List.length_drop]
    omega
theorem sc_nil : sc [] = [] := by rw [sc, if_pos rfl]
theorem blank_nil : blankL [] = (0, 0) := by kernel_rfl
theorem sc_blank {l : Bs} (h : (blankL l).1 ≠ 0) : sc l = sc (l.drop (blankL l).1) := by
  have h0 : l ≠ [] := fun e => by rw [e, blank_nil] at h; exact h rfl
  rw [sc, if_neg h0, if_neg h]
theorem sc_bad {l : Bs} (h0 : l ≠ []) (h : (blankL l).1 = 0) (h2 : (blankL l).2 ≠ 0) : sc l = [((0, [], 0), (blankL l).2)] := by rw [sc, if_neg h0, if_pos h, if_neg h2]
theorem sc_err {l : Bs} (h0 : l ≠ []) (h : (blankL l).1 = 0) (h2 : (blankL l).2 = 0) (h3 : (firstL l).e ≠ 0) : sc l = [bareO (firstL l)] := by rw [sc, if_neg h0, if_pos h, if_pos h2, if_neg h3]
theorem sc_tok {l : Bs} (h0 : l ≠ []) (h : (blankL l).1 = 0) (h2 : (blankL l).2 = 0) (h3 : (firstL l).e = 0) : sc l = bareO (firstL l) :: sc (l.drop (firstL l).len) := by
  have := (firstL_len l h0 h3).1
  rw [sc, if_neg h0, if_pos h, if_pos h2, if_pos h3, if_neg (by omega)]

/-- One list behind another one, if that has no error. -/
def appB (xs ys : List Bare) : List Bare := if xs.all (fun x => x.2 == 0) then xs ++ ys else xs
theorem appB_nil (ys : List Bare) : appB [] ys = ys := rfl
theorem appB_err {x : Bare} (h : x.2 ≠ 0) (ys : List Bare) : appB [x] ys = [x] := by simp [appB, h]
theorem appB_tok {x : Bare} (h : x.2 = 0) (xs ys : List Bare) : appB (x :: xs) ys = x :: appB xs ys := by
  unfold appB
  simp only [List.all_cons, h]
  cases xs.all (fun x => x.2 == 0) <;> simp
theorem appB_end (xs : List Bare) : appB xs [] = xs := by unfold appB; simp

theorem sc_join (u : Bs) : ∀ (n : Nat) (l : Bs), l.length ≤ n → (∀ x ∈ sc l, x.2 ≠ 23) → sc (l ++ 10 :: u) = appB (sc l) (sc (10 :: u)) := by
  intro n
  induction n with
  | zero =>
    intro l hl _
    obtain rfl : l = [] := List.eq_nil_of_length_eq_zero (by omega)
    rw [sc_nil, List.nil_append, appB_nil]
  | succ n ih =>
    intro l hl h23
    cases l with
    | nil => rw [sc_nil, List.nil_append, appB_nil]
    | cons c r =>
      have hb1 := blankL_le (c :: r)
      by_cases hz : (blankL (c :: r)).1 = 0
      · by_cases he : (blankL (c :: r)).2 = 0
        · have hb : blankL ((c :: r) ++ 10 :: u) = blankL (c :: r) := blank_end c r u (by rw [he]; decide)
          have hf := first_end c r u
          by_cases h3 : (firstL (c :: r)).e = 0
          · obtain ⟨hl1, hl2⟩ := firstL_len (c :: r) (by simp) h3
            rw [sc_tok (l := (c :: r) ++ 10 :: u) (by simp) (by rw [hb]; exact hz) (by rw [hb]; exact he) (by rw [hf]; exact h3), hf, List.drop_append_of_le_length hl2]
            rw [sc_tok (by simp) hz he h3, appB_tok (x := bareO (firstL (c :: r))) h3]
            rw [ih _ (by rw [List.length_drop]; omega) (fun x hx => h23 x (by rw [sc_tok (by simp) hz he h3]; simp [hx]))]
          · rw [sc_err (l := (c :: r) ++ 10 :: u) (by simp) (by rw [hb]; exact hz) (by rw [hb]; exact he) (by rw [hf]; exact h3), hf, sc_err (by simp) hz he h3, appB_err (x := bareO (firstL (c :: r))) h3]
        · exfalso
          rcases blankL_cases (c :: r) with h | ⟨_, h⟩
          · exact he h
          · exact h23 ((0, [], 0), (blankL (c :: r)).2) (by rw [sc_bad (by simp) hz he]; simp) h
      · have hne : (blankL (c :: r)).2 ≠ 23 := by
          rcases blankL_cases (c :: r) with h | ⟨h, _⟩
          · rw [h]; decide
          · exact absurd h hz
        have hb : blankL ((c :: r) ++ 10 :: u) = blankL (c :: r) := blank_end c r u hne
        rw [sc_blank (l := (c :: r) ++ 10 :: u) (by rw [hb]; exact hz), hb, List.drop_append_of_le_length hb1]
        have h := sc_blank hz
        rw [h] at h23 ⊢
        exact ih _ (by rw [List.length_drop]; omega) h23
/-- The first error of a list, or 0. -/
def errB : List Bare → Int
  | [] => 0
  | x :: r => if x.2 = 0 then errB r else x.2
theorem errB_zero : ∀ xs : List Bare, errB xs = 0 ↔ ∀ x ∈ xs, x.2 = 0
  | [] => by simp [errB]
  | x :: r => by
    have := errB_zero r
    unfold errB
    by_cases h : x.2 = 0
    · rw [if_pos h, this]; simp [h]
    · rw [if_neg h]; simp [h]
/-- Errors come last. -/
theorem sc_23 : ∀ (n : Nat) (l : Bs), l.length ≤ n → errB (sc l) ≠ 23 → ∀ x ∈ sc l, x.2 ≠ 23 := by
  intro n
  induction n with
  | zero =>
    intro l hl _ x hx
    obtain rfl : l = [] := List.eq_nil_of_length_eq_zero (by omega)
    rw [sc_nil] at hx; cases hx
  | succ n ih =>
    intro l hl h x hx
    by_cases h0 : l = []
    · subst h0; rw [sc_nil] at hx; cases hx
    · have hb1 := blankL_le l
      by_cases hz : (blankL l).1 = 0
      · by_cases he : (blankL l).2 = 0
        · by_cases h3 : (firstL l).e = 0
          · obtain ⟨hl1, hl2⟩ := firstL_len l h0 h3
            rw [sc_tok h0 hz he h3] at h hx
            have e : errB (bareO (firstL l) :: sc (l.drop (firstL l).len)) = errB (sc (l.drop (firstL l).len)) := by
              show (if (firstL l).e = 0 then _ else _) = _
              rw [if_pos h3]
            rw [e] at h
            rcases List.mem_cons.1 hx with rfl | hx
            · show (firstL l).e ≠ 23
              rw [h3]; decide
            · exact ih _ (by rw [List.length_drop]; have := List.length_pos_iff.2 h0; omega) h x hx
          · rw [sc_err h0 hz he h3] at h hx
            obtain rfl : x = bareO (firstL l) := by simpa using hx
            intro h23
            apply h
            show (if (firstL l).e = 0 then _ else (firstL l).e) = 23
            rw [if_neg h3]
            exact h23
        · rw [sc_bad h0 hz he] at h hx
          obtain rfl : x = ((0, [], 0), (blankL l).2) := by simpa using hx
          intro h23
          apply h
          show (if (blankL l).2 = 0 then _ else (blankL l).2) = 23
          rw [if_neg he]
          exact h23
      · have e := sc_blank hz
        rw [e] at h hx
        exact ih _ (by rw [List.length_drop]; omega) h x hx
theorem errB_app {xs ys : List Bare} : errB (appB xs ys) = if errB xs = 0 then errB ys else errB xs := by
  induction xs with
  | nil => rfl
  | cons x r ih =>
    by_cases h : x.2 = 0
    · rw [appB_tok h]
      show (if x.2 = 0 then errB (appB r ys) else x.2) = if (if x.2 = 0 then errB r else x.2) = 0 then errB ys else (if x.2 = 0 then errB r else x.2)
      rw [if_pos h, if_pos h, ih]
    · have : appB (x :: r) ys = x :: r := by unfold appB; simp [h]
      rw [this]
      show (if x.2 = 0 then errB r else x.2) = if (if x.2 = 0 then errB r else x.2) = 0 then errB ys else (if x.2 = 0 then errB r else x.2)
      rw [if_neg h, if_neg h]

/-- The tokens of a text are what it is gone through in, but for lines and NL. -/
theorem evs_bare : ∀ (n : Nat) (l : Bs) (line : Nat), l.length ≤ n → (evs line l).map bare = sc l ∧ (evs line l).length ≤ l.length := by
  intro n
  induction n with
  | zero =>
    intro l line hl
    obtain rfl : l = [] := List.eq_nil_of_length_eq_zero (by omega)
    rw [evs_nil, sc_nil]
    simp
  | succ n ih =>
    intro l line hl
    have hgl := gapL_le _ l (Nat.le_refl _)
    have hsc : sc l = sc (l.drop (gapL l).1) ∧ (blankL (l.drop (gapL l).1)).1 = 0 ∧ (blankL (l.drop (gapL l).1)).2 = (gapL l).2 := by
      have key : ∀ (n : Nat) (l : Bs), l.length ≤ n → sc l = sc (l.drop (gapL l).1) ∧ (blankL (l.drop (gapL l).1)).1 = 0 ∧ (blankL (l.drop (gapL l).1)).2 = (gapL l).2 := by
        intro n
        induction n with
        | zero =>
          intro l hl
          have := blankL_le l
          have hz : (blankL l).1 = 0 := by omega
          rw [gapL_stop hz]
          exact ⟨rfl, hz, rfl⟩
        | succ n ih =>
          intro l hl
          have hb := blankL_le l
          by_cases hz : (blankL l).1 = 0
          · rw [gapL_stop hz]
            exact ⟨rfl, hz, rfl⟩
          · obtain ⟨h1, h2, h3⟩ := ih (l.drop (blankL l).1) (by rw [List.length_drop]; omega)
            rw [gapL_more hz, sc_blank hz]
            simp only
            rw [← List.drop_drop]
            exact ⟨h1, h2, h3⟩
      exact key _ l (Nat.le_refl _)
    obtain ⟨hs, hz, he⟩ := hsc
    by_cases h2 : (gapL l).2 = 0
    · by_cases h0 : l.drop (gapL l).1 = []
      · rw [evs_end h2 h0, hs, h0, sc_nil]
        simp
      · by_cases h3 : (firstL (l.drop (gapL l).1)).e = 0
        · obtain ⟨hl1, hl2⟩ := firstL_len _ h0 h3
          rw [evs_tok h2 h0 h3 hl1, hs, sc_tok h0 hz (by rw [he]; exact h2) h3]
          obtain ⟨i1, i2⟩ := ih ((l.drop (gapL l).1).drop (firstL (l.drop (gapL l).1)).len) (line + endsL l) (by rw [List.length_drop, List.length_drop] at *; omega)
          rw [List.map_cons, i1]
          refine ⟨?_, ?_⟩
          · congr 1
            unfold bare bareO
            rw [h3]
          · rw [List.length_drop, List.length_drop] at i2
            rw [List.length_drop] at hl2
            simp only [List.length_cons]
            omega
        · rw [evs_err h2 h0 h3, hs, sc_err h0 hz (by rw [he]; exact h2) h3]
          refine ⟨rfl, ?_⟩
          have := List.length_pos_iff.2 h0
          rw [List.length_drop] at this
          simp only [List.length_cons, List.length_nil]
          omega
    · have h0 : l.drop (gapL l).1 ≠ [] := fun e => by
        rw [e, blank_nil] at he
        exact h2 he.symm
      rw [evs_bad h2, hs, sc_bad h0 hz (by rw [he]; exact h2), he]
      refine ⟨rfl, ?_⟩
      have := List.length_pos_iff.2 h0
      rw [List.length_drop] at this
      simp only [List.length_cons, List.length_nil]
      omega

def bareT (t : Tok) : Int × Bs × Int := (t.kind, t.s, t.n)
theorem errB_map (xs : List Ev) : errB (xs.map bare) = 0 ↔ ∀ x ∈ xs, x.2 = 0 := by
  rw [errB_zero]
  constructor
  · intro h x hx; exact h (bare x) (List.mem_map_of_mem hx)
  · intro h x hx
    obtain ⟨y, hy, rfl⟩ := List.mem_map.1 hx
    exact h y hy
theorem gathered_bare (xs : List Ev) (hl : xs.length ≤ 20000) :
    (gathered [] xs).e = errB (xs.map bare) ∧ (gathered [] xs).toks.map bareT = if errB (xs.map bare) = 0 then (xs.map bare).map (·.1) else [] := by
  by_cases h : ∀ x ∈ xs, x.2 = 0
  · have he := (errB_map xs).2 h
    rw [gathered_all xs h hl, he, if_pos rfl]
    refine ⟨rfl, ?_⟩
    simp [bareT, bare]
  · have hn : errB (xs.map bare) ≠ 0 := fun e => h ((errB_map xs).1 e)
    rw [if_neg hn]
    obtain ⟨q, t, e, r, rfl, hq, he⟩ : ∃ q t e r, xs = q ++ (t, e) :: r ∧ (∀ x ∈ q, x.2 = 0) ∧ e ≠ 0 := by
      clear hl hn
      induction xs with
      | nil => exact absurd (by simp) h
      | cons x r ih =>
        by_cases hx : x.2 = 0
        · obtain ⟨q, t, e, r', h1, h2, h3⟩ := ih (fun hh => h (fun y hy => by
            rcases List.mem_cons.1 hy with rfl | hy
            · exact hx
            · exact hh y hy))
          refine ⟨x :: q, t, e, r', by rw [h1]; rfl, fun y hy => ?_, h3⟩
          rcases List.mem_cons.1 hy with rfl | hy
          · exact hx
          · exact h2 y hy
        · exact ⟨[], x.1, x.2, r, rfl, by simp, hx⟩
    have hlen : q.length ≤ 20000 := by simp at hl; omega
    rw [gathered_stop (q := q) (t := t) (e := e) (er := e) ⟨r, by simp⟩ hq (.inl ⟨he, rfl, hlen⟩)]
    refine ⟨?_, rfl⟩
    have key : ∀ q : List Ev, (∀ x ∈ q, x.2 = 0) → errB ((q ++ (t, e) :: r).map bare) = e := by
      intro q
      induction q with
      | nil =>
        intro _
        show (if e = 0 then _ else e) = e
        rw [if_neg he]
      | cons x q ih =>
        intro hq
        show (if x.2 = 0 then errB ((q ++ (t, e) :: r).map bare) else x.2) = e
        rw [if_pos (hq x (by simp)), ih (fun y hy => hq y (by simp [hy]))]
    exact (key q hq).symm
/-- What Lex tells of a text of at most twenty thousand bytes, but for lines and NL. -/
theorem lex_bare (l : Bs) (hl : l.length ≤ 20000) : (lexE l).e = errB (sc l) ∧ (lexE l).toks.map bareT = if errB (sc l) = 0 then (sc l).map (·.1) else [] := by
  obtain ⟨h1, h2⟩ := evs_bare _ l 1 (Nat.le_refl _)
  have := gathered_bare (evs 1 l) (by omega)
  rw [h1] at this
  exact this
end Go.Proofs.YtfjfbpmlohgghaaDoor
