/- The law's walk: the tokens of two texts, joined by a line's end. -/
import Derived.Test.YtfjfbpmlohgghaaDoorAlike
namespace Go.Proofs.YtfjfbpmlohgghaaDoor
open Go.RowKit Go.Proofs

/-- A text's first two thousand bytes. -/
def cut2 (s : ByteArray) : ByteArray := s.extract 0 (min s.size 2000)
theorem cut2_len (s : ByteArray) : (cut2 s).size ≤ 2000 := by
  unfold cut2
  rw [ext0_size s _ (by omega)]
  omega

theorem noRow {B : Nat} : ∀ k, (none : Option Nat) = some k → B ≤ k := fun _ h => by cases h
theorem TokRow.slice {W : World} {v : Value} {ts : List Tok} (h : TokRow W v ts) : ∃ A c, v = .slice A ts.length c := by
  rcases h with ⟨rfl, rfl⟩ | ⟨g, cap, rfl, _⟩
  · exact ⟨none, 0, rfl⟩
  · exact ⟨_, cap, rfl⟩

set_option maxRecDepth 100000 in
set_option maxHeartbeats 4000000 in
theorem joins_in (s t S T : ByteArray) (t1 t2 t3 : List Tok) (n1 n2 n3 : Nat) (e1 e2 e3 : Int) (w : World) (hs : s.size ≤ maxLen) (ht : t.size ≤ maxLen) (hE : Env w) (hS : s.extract 0 (min s.size 2000) = S) (hT : t.extract 0 (min t.size 2000) = T) (hS2 : S.size ≤ 2000) (hT2 : T.size ≤ 2000)
    (H1 : ∀ w, Env w → Calls Tryd.prog 18 #[.string S] w (LexPost w ⟨t1, n1, e1⟩)) (H2 : ∀ w, Env w → Calls Tryd.prog 18 #[.string T] w (LexPost w ⟨t2, n2, e2⟩)) (H3 : ∀ w, Env w → Calls Tryd.prog 18 #[.string (S ++ ⟨#[10]⟩ ++ T)] w (LexPost w ⟨t3, n3, e3⟩))
    (b1 : t1.length ≤ 20000) (b2 : t2.length ≤ 20000) (b3 : t3.length ≤ 20000) (hor : e1 ≠ 0 ∨ (e1 = 0 ∧ e2 ≠ 0) ∨ (e1 = 0 ∧ e2 = 0 ∧ e3 = 0 ∧ t3.map bareT = (t1 ++ t2).map bareT)) :
    Calls Tryd.prog 9 #[.string s, .string t] w fun e w' => e = .returned (.bool true) ∧ Below w.heap.size w w' := by
  have HS := Lib.hid (shown_any w hE)
  have H1 := Lib.hid H1
  have H2 := Lib.hid H2
  have H3 := Lib.hid H3
  have ms : (min (s.size : Int) 2000).toNat = min s.size 2000 := by omega
  have mt : (min (t.size : Int) 2000).toNat = min t.size 2000 := by omega
  unfold maxLen at hs ht
  rcases hor with h1 | ⟨rfl, h2⟩ | ⟨rfl, rfl, rfl, h3⟩
  · have d1 : (e1 == 0) = false := by simpa using h1
    have d1' : (e1 != 0) = true := by simpa using h1
    clear h1
    go_enter Tryd.func9, Tryd.ntmps9
    go_wp2_with (go_at_call 10; refine HS.out.mono ?_; rintro e w1 ⟨rfl, hB1⟩)
    have hE1 := hE.kept hB1
    go_at_call 18
    refine (H1.out _ hE1).mono ?_
    intro e w2 hp
    obtain ⟨v1, rfl, hr1, hb1⟩ := lex_row hp
    have hE2 := hE1.kept hb1
    have hB2 := hB1.trans (hb1.mono hB1.size)
    clear hp
    go_wp2_with fail
    go_at_call 18
    refine (H2.out _ hE2).mono ?_
    intro e w3 hp
    obtain ⟨v2, rfl, hr2, hb2⟩ := lex_row hp
    have hE3 := hE2.kept hb2
    have hB3 := hB2.trans (hb2.mono hB2.size)
    clear hp
    go_wp2_with fail
    go_at_call 18
    refine (H3.out _ hE3).mono ?_
    intro e w4 hp
    obtain ⟨v3, rfl, hr3, hb3⟩ := lex_row hp
    have hB4 := hB3.trans (hb3.mono hB3.size)
    clear hp
    clear hr1 hr2 hr3
    go_wp2
    go_ret
    exact ⟨rfl, hB4⟩
  · have d1 : (e2 == 0) = false := by simpa using h2
    have d1' : (e2 != 0) = true := by simpa using h2
    clear h2
    go_enter Tryd.func9, Tryd.ntmps9
    go_wp2_with (go_at_call 10; refine HS.out.mono ?_; rintro e w1 ⟨rfl, hB1⟩)
    have hE1 := hE.kept hB1
    go_at_call 18
    refine (H1.out _ hE1).mono ?_
    intro e w2 hp
    obtain ⟨v1, rfl, hr1, hb1⟩ := lex_row hp
    have hE2 := hE1.kept hb1
    have hB2 := hB1.trans (hb1.mono hB1.size)
    clear hp
    go_wp2_with fail
    go_at_call 18
    refine (H2.out _ hE2).mono ?_
    intro e w3 hp
    obtain ⟨v2, rfl, hr2, hb2⟩ := lex_row hp
    have hE3 := hE2.kept hb2
    have hB3 := hB2.trans (hb2.mono hB2.size)
    clear hp
    go_wp2_with fail
    go_at_call 18
    refine (H3.out _ hE3).mono ?_
    intro e w4 hp
    obtain ⟨v3, rfl, hr3, hb3⟩ := lex_row hp
    have hB4 := hB3.trans (hb3.mono hB3.size)
    clear hp
    clear hr1 hr2 hr3
    go_wp2
    go_ret
    exact ⟨rfl, hB4⟩
  · have h3 := Lib.hid h3
    go_enter Tryd.func9, Tryd.ntmps9
    go_wp2_with (go_at_call 10; refine HS.out.mono ?_; rintro e w1 ⟨rfl, hB1⟩)
    have hE1 := hE.kept hB1
    go_at_call 18
    refine (H1.out _ hE1).mono ?_
    intro e w2 hp
    obtain ⟨v1, rfl, hr1, hb1⟩ := lex_row hp
    have hE2 := hE1.kept hb1
    have hB2 := hB1.trans (hb1.mono hB1.size)
    clear hp
    go_wp2_with fail
    go_at_call 18
    refine (H2.out _ hE2).mono ?_
    intro e w3 hp
    obtain ⟨v2, rfl, hr2, hb2⟩ := lex_row hp
    have hE3 := hE2.kept hb2
    have hB3 := hB2.trans (hb2.mono hB2.size)
    clear hp
    go_wp2_with fail
    go_at_call 18
    refine (H3.out _ hE3).mono ?_
    intro e w4 hp
    obtain ⟨v3, rfl, hr3, hb3⟩ := lex_row hp
    have hB4 := hB3.trans (hb3.mono hB3.size)
    clear hp
    have hr1 := (hr1.kept hb2 (Nat.le_refl _)).kept hb3 (Nat.le_refl _)
    have hr2 := hr2.kept hb3 (Nat.le_refl _)
    dsimp only at hr1 hr2 hr3
    have hs4 := hB4.size
    obtain ⟨A1, c1, hv1⟩ := hr1.slice
    obtain ⟨A2, c2, hv2⟩ := hr2.slice
    subst hv1
    subst hv2
    go_wp2_with (first
      | (at_make; refine wl_make rfl _ _ rfl w4.heap.size (t1.length + t2.length) _ rfl rfl (by omega) (by omega) (Nat.le_refl _) ?_; intro w5 hown5 hgrow5; have hB5 := (Below.refl w4.heap.size w4).grown hgrow5 (Nat.le_refl _) noRow; have hr15 := hr1.kept hB5 (Nat.le_refl _))
      | (at_builtin; refine wl_app rfl (.tmp 66) (.tmp 67) rfl w4.heap.size _ _ 0 [] t1 rfl rfl hown5 hr15 (by omega) hB5.size ?_; intro v6 w6 hown6 hgrow6; have hB6 := hB5.grown hgrow6 hB5.size (own_row_ge hown5); have hr26 := hr2.kept hB6 (Nat.le_refl _))
      | (at_builtin; refine wl_app rfl (.tmp 68) (.tmp 69) rfl w4.heap.size _ _ _ _ t2 rfl rfl hown6 hr26 (by omega) hB6.size ?_; intro v7 w7 hown7 hgrow7; have hB7 := hB6.grown hgrow7 hB6.size (own_row_ge hown6); have hr37 := hr3.kept hB7 (Nat.le_refl _)))
    have hr7 : TokRow w7 v7 (t1 ++ t2) := by
      have : w7.ownsRow w4.heap.size 30 5 v7 (t1 ++ t2).length (toksC (t1 ++ t2)) := by
        rw [List.length_append]
        simpa using hown7
      exact .of_owns this
    have HA := alike_any _ _ t3 (t1 ++ t2) _ hr37 hr7 (by omega)
    rw [decide_eq_true h3.out] at HA
    go_at_call 19
    refine HA.mono ?_
    rintro e w8 ⟨rfl, hb8⟩
    go_wp2
    go_ret
    exact ⟨rfl, hB4.trans ((hB7.mono hs4).trans (hb8.mono (Nat.le_trans hs4 hB7.size)))⟩

theorem lex_toks (l : Bs) (hl : l.length ≤ 20000) : (lexE l).toks.length ≤ l.length := by
  obtain ⟨a1, a2⟩ := lex_bare l hl
  obtain ⟨h1, h2⟩ := evs_bare _ l 1 (Nat.le_refl _)
  have := congrArg List.length a2
  rw [List.length_map] at this
  rw [this]
  split
  · rw [List.length_map, ← h1, List.length_map]
    exact h2
  · simp
theorem joins_walk (s t : ByteArray) (w : World) (hs : s.size ≤ maxLen) (ht : t.size ≤ maxLen) (hE : Env w) :
    Calls Tryd.prog 9 #[.string s, .string t] w fun e w' => e = .returned (.bool true) ∧ Below w.heap.size w w' := by
  obtain ⟨S, hS⟩ : ∃ S, s.extract 0 (min s.size 2000) = S := ⟨_, rfl⟩
  obtain ⟨T, hT⟩ : ∃ T, t.extract 0 (min t.size 2000) = T := ⟨_, rfl⟩
  have hl1 : S.size ≤ 2000 := by rw [← hS]; exact cut2_len s
  have hl2 : T.size ≤ 2000 := by rw [← hT]; exact cut2_len t
  have e3 : (S ++ ⟨#[10]⟩ ++ T).data.toList = S.data.toList ++ 10 :: T.data.toList := by simp
  have z3 : (S ++ ⟨#[10]⟩ ++ T).size ≤ 5000 := by
    rw [← len_toList, e3, List.length_append, List.length_cons, len_toList, len_toList]
    omega
  have H3 := fun w hE => lex_any (S ++ ⟨#[10]⟩ ++ T) w (by omega) hE
  rw [e3] at H3
  have k1 := len_toList S
  have k2 := len_toList T
  have c1 := lex_toks S.data.toList (by omega)
  have c2 := lex_toks T.data.toList (by omega)
  have c3 := lex_toks (S.data.toList ++ 10 :: T.data.toList) (by simp; omega)
  have k3 : (S.data.toList ++ 10 :: T.data.toList).length ≤ 5000 := by rw [← e3, len_toList]; exact z3
  refine joins_in s t S T (lexE S.data.toList).toks (lexE T.data.toList).toks (lexE (S.data.toList ++ 10 :: T.data.toList)).toks _ _ _ _ _ _ w hs ht hE hS hT hl1 hl2 (fun w hE => lex_any S w (by omega) hE) (fun w hE => lex_any T w (by omega) hE) H3 (by omega) (by omega) (by omega) ?_
  by_cases h1 : (lexE S.data.toList).e = 0
  · by_cases h2 : (lexE T.data.toList).e = 0
    · have hj := lex_join S.data.toList T.data.toList (by omega) (by omega) h1 h2
      exact .inr (.inr ⟨h1, h2, hj.1, hj.2⟩)
    · exact .inr (.inl ⟨h1, h2⟩)
  · exact .inl h1
end Go.Proofs.YtfjfbpmlohgghaaDoor
