/- The law's walk: blanks and comments between texts change no token. -/
import Derived.Test.YtfjfbpmlohgghaaDoorLawJoins
namespace Go.Proofs.YtfjfbpmlohgghaaDoor
open Go.RowKit Go.Proofs

theorem sc_32 (u : Bs) : sc (32 :: u) = sc u := by
  have hb : blankL (32 :: u) = (1, 0) := by
    unfold blankL
    rw [pre2_no (by decide), pre2_no (by decide)]
    simp [longestL]
  rw [sc_blank (by rw [hb]; decide), hb]
  rfl
theorem sc_9 (u : Bs) : sc (9 :: u) = sc u := by
  have hb : blankL (9 :: u) = (1, 0) := by
    unfold blankL
    rw [pre2_no (by decide), pre2_no (by decide)]
    simp [longestL]
  rw [sc_blank (by rw [hb]; decide), hb]
  rfl
theorem sc_13 (u : Bs) : sc (13 :: u) = sc u := by
  have hb : blankL (13 :: u) = (1, 0) := by
    unfold blankL
    rw [pre2_no (by decide), pre2_no (by decide)]
    simp [longestL]
  rw [sc_blank (by rw [hb]; decide), hb]
  rfl
/-- A comment to a line's end. -/
def Remark (c : Bs) : Prop := ∃ r, c = 47 :: 47 :: r ∧ 10 ∉ c
theorem run_remark {c : Bs} (h : 10 ∉ c) : runL noEndB c = c.length := runL_all_such _ _ (fun x hx => by
  unfold noEndB
  have : x ≠ 10 := fun e => h (e ▸ hx)
  simpa using this)
theorem sc_remark {c : Bs} (h : Remark c) (u : Bs) : sc (c ++ 10 :: u) = sc u := by
  obtain ⟨r, hr, h10⟩ := h
  have hb : blankL (c ++ 10 :: u) = (c.length, 0) := by
    unfold blankL
    have hp : ([47, 47] : Bs).isPrefixOf (c ++ 10 :: u) = true := by rw [hr]; rfl
    rw [if_pos hp, run_end noEndB (by decide), run_remark h10]
  have h0 : c.length ≠ 0 := by rw [hr]; simp
  rw [sc_blank (by rw [hb]; exact h0), hb, List.drop_left' rfl]
  exact sc_nl u
theorem sc_remark_end {c : Bs} (h : Remark c) : sc c = [] := by
  obtain ⟨r, hr, h10⟩ := h
  have hb : blankL c = (c.length, 0) := by
    unfold blankL
    have hp : ([47, 47] : Bs).isPrefixOf c = true := by rw [hr]; rfl
    rw [if_pos hp, run_remark h10]
  have h0 : c.length ≠ 0 := by rw [hr]; simp
  rw [sc_blank (by rw [hb]; exact h0), hb, List.drop_length, sc_nil]

/-- Two texts, with blanks and comments ahead, between and behind. -/
def airL (c l u : Bs) : Bs := 32 :: 9 :: (c ++ 10 :: (l ++ 10 :: (c ++ 10 :: 13 :: (u ++ 10 :: c))))
theorem sc_air {c : Bs} (hc : Remark c) (l u : Bs) (h : errB (sc l) ≠ 23) : ∃ z, sc (airL c l u) = appB (sc l) z ∧ (errB (sc u) ≠ 23 → z = sc u) := by
  refine ⟨sc (u ++ 10 :: c), ?_, fun hu => ?_⟩
  · unfold airL
    rw [sc_32, sc_9, sc_remark hc, sc_join _ _ l (Nat.le_refl _) (sc_23 _ l (Nat.le_refl _) h), sc_nl, sc_remark hc, sc_13]
  · rw [sc_join _ _ u (Nat.le_refl _) (sc_23 _ u (Nat.le_refl _) hu), sc_nl, sc_remark_end hc, appB_end]
theorem lex_air {c : Bs} (hc : Remark c) (l u : Bs) (hl : (airL c l u).length ≤ 20000) (k1 : l.length ≤ 20000) (k2 : u.length ≤ 20000) :
    ((lexE l).e ≠ 0 ∧ (lexE l).e ≠ 23 → (lexE (airL c l u)).e ≠ 0) ∧ ((lexE l).e = 0 ∧ (lexE u).e ≠ 0 ∧ (lexE u).e ≠ 23 → (lexE (airL c l u)).e ≠ 0) ∧
    ((lexE l).e = 0 ∧ (lexE u).e = 0 → (lexE (airL c l u)).e = 0 ∧ (lexE (airL c l u)).toks.map bareT = ((lexE l).toks ++ (lexE u).toks).map bareT) := by
  obtain ⟨a1, a2⟩ := lex_bare l k1
  obtain ⟨b1, b2⟩ := lex_bare u k2
  obtain ⟨c1, c2⟩ := lex_bare (airL c l u) hl
  rw [a1, b1, c1]
  refine ⟨fun h => ?_, fun h => ?_, fun h => ?_⟩
  · obtain ⟨z, hz, -⟩ := sc_air hc l u h.2
    rw [hz, errB_app, if_neg h.1]
    exact h.1
  · obtain ⟨z, hz, h2⟩ := sc_air hc l u (by rw [h.1]; decide)
    rw [hz, errB_app, if_pos h.1, h2 h.2.2]
    exact h.2.1
  · obtain ⟨z, hz, h2⟩ := sc_air hc l u (by rw [h.1]; decide)
    rw [if_pos h.1] at a2
    rw [if_pos h.2] at b2
    have he : errB (sc (airL c l u)) = 0 := by
      rw [hz, errB_app, if_pos h.1, h2 (by rw [h.2]; decide)]
      exact h.2
    refine ⟨he, ?_⟩
    rw [if_pos he] at c2
    rw [c2, hz, appB_all h.1, h2 (by rw [h.2]; decide), List.map_append, List.map_append, a2, b2]

/-- The comment that the first k bytes make. -/
def remarkOf (s : ByteArray) (k : Nat) : Bs := 47 :: 47 :: (s.data.toList.take k).filter (fun c => !(c == 10))
theorem remarkOf_len (s : ByteArray) (k : Nat) : (remarkOf s k).length ≤ k + 2 := by
  have h1 := List.length_filter_le (fun c : UInt8 => !(c == 10)) (s.data.toList.take k)
  have h2 : (s.data.toList.take k).length ≤ k := List.length_take_le _ _
  unfold remarkOf
  simp only [List.length_cons]
  omega
theorem remarkOf_is (s : ByteArray) (k : Nat) : Remark (remarkOf s k) := by
  refine ⟨_, rfl, ?_⟩
  unfold remarkOf
  simp
theorem remarkOf_in (s : ByteArray) (k : Nat) (h : k < s.size) (h10 : s[k] ≠ 10) : remarkOf s (k + 1) = remarkOf s k ++ [s[k]] := by
  unfold remarkOf
  rw [take_snoc s k h, List.filter_append]
  simp [h10]
theorem remarkOf_out (s : ByteArray) (k : Nat) (h : k < s.size) (h10 : s[k] = 10) : remarkOf s (k + 1) = remarkOf s k := by
  unfold remarkOf
  rw [take_snoc s k h, List.filter_append]
  simp [h10]

theorem bs_app (l u : Bs) : bs (l ++ u) = bs l ++ bs u := by
  rw [← bs_of (bs l ++ bs u)]
  congr 1
/-- What is known of the three answers. -/
def AirCase (t1 t2 t3 : List Tok) (e1 e2 e3 : Int) : Prop :=
  e1 = 23 ∨ (e1 = 0 ∧ e2 = 23) ∨ (e1 ≠ 0 ∧ e1 ≠ 23 ∧ e3 ≠ 0) ∨ (e1 = 0 ∧ e2 ≠ 0 ∧ e2 ≠ 23 ∧ e3 ≠ 0) ∨ (e1 = 0 ∧ e2 = 0 ∧ e3 = 0 ∧ t3.map bareT = (t1 ++ t2).map bareT)
def airS (c S T : ByteArray) : ByteArray := ⟨#[32, 9]⟩ ++ c ++ ⟨#[10]⟩ ++ S ++ ⟨#[10]⟩ ++ c ++ ⟨#[10, 13]⟩ ++ T ++ ⟨#[10]⟩ ++ c

set_option maxRecDepth 100000 in
set_option maxHeartbeats 4000000 in
theorem blanks_in (s t r S T : ByteArray) (t1 t2 : List Tok) (n1 n2 : Nat) (e1 e2 : Int) (w : World) (hs : s.size ≤ maxLen) (ht : t.size ≤ maxLen) (hr : r.size ≤ maxLen) (hE : Env w) (hS : s.extract 0 (min s.size 2000) = S) (hT : t.extract 0 (min t.size 2000) = T) (hS2 : S.size ≤ 2000) (hT2 : T.size ≤ 2000)
    (H1 : ∀ w, Env w → Calls Tryd.prog 18 #[.string S] w (LexPost w ⟨t1, n1, e1⟩)) (H2 : ∀ w, Env w → Calls Tryd.prog 18 #[.string T] w (LexPost w ⟨t2, n2, e2⟩))
    (H3 : ∀ c : Bs, Remark c → c.length ≤ 102 → ∃ t3 n3 e3, (∀ w, Env w → Calls Tryd.prog 18 #[.string (⟨#[32, 9]⟩ ++ bs c ++ ⟨#[10]⟩ ++ S ++ ⟨#[10]⟩ ++ bs c ++ ⟨#[10, 13]⟩ ++ T ++ ⟨#[10]⟩ ++ bs c)] w (LexPost w ⟨t3, n3, e3⟩)) ∧ t3.length ≤ 20000 ∧ AirCase t1 t2 t3 e1 e2 e3)
    (b1 : t1.length ≤ 20000) (b2 : t2.length ≤ 20000) :
    Calls Tryd.prog 5 #[.string s, .string t, .string r] w fun e w' => e = .returned (.bool true) ∧ Below w.heap.size w w' := by
  have HS := Lib.hid (shown_any w hE)
  have H1' := Lib.hid H1
  have H2' := Lib.hid H2
  have H3' := Lib.hid H3
  clear H1 H2 H3
  have ms : (min (s.size : Int) 2000).toNat = min s.size 2000 := by omega
  have mt : (min (t.size : Int) 2000).toNat = min t.size 2000 := by omega
  unfold maxLen at hs ht hr
  go_enter Tryd.func5, Tryd.ntmps5
  go_wp2_with (go_at_call 10; refine HS.out.mono ?_; rintro e w1 ⟨rfl, hB1⟩)
  go_loopw [8, 9] (fun v i wr => ∃ k : Nat, k ≤ r.size ∧ k ≤ 100 ∧ i = .int .i64 k ∧ v = .string (bs (remarkOf r k)) ∧ Below w.heap.size w wr) (fun _ i _ => r.size - (intOf i).toNat)
  case atStart => exact ⟨0, Nat.zero_le _, Nat.zero_le _, rfl, rfl, hB1⟩
  case round =>
    obtain ⟨k, hk, hk2, rfl, rfl, hB⟩ := hrel
    clear hB1
    by_cases hlt : k < r.size
    · by_cases hlt2 : k < 100
      · have g1 : (k : Int) < r.size := by omega
        have g2 : (k : Int) < 100 := by omega
        by_cases h10 : r[k] = 10
        · have HC := Lib.hid (remarkOf_out r k hlt h10)
          have d : ((r[k].toNat : Int) != 10) = false := by rw [h10]; rfl
          go_wp2
          go_roundw
          case rel => exact ⟨k + 1, by omega, by omega, by go_num, by rw [HC.out], hB⟩
          case measure => simp [intOf]; omega
        · have HC := Lib.hid (remarkOf_in r k hlt h10)
          have d : ((r[k].toNat : Int) != 10) = true := by
            rw [bne_iff_ne]
            intro e
            apply h10
            have e2 : r[k].toNat = 10 := by omega
            rw [← UInt8.toNat_inj]
            exact e2
          have z1 : ¬ 9223372036854775807 < (bs (remarkOf r k)).size + (bs [r[k]]).size := by
            rw [bs_size, bs_size]
            have := remarkOf_len r k
            simp
            omega
          have hcv := byteRow_str (W := wr.alloc (.cells #[.int .u8 r[k].toNat] 5)) (B := w.heap.size) (v := .slice (some ⟨wr.heap.size, 0, none⟩) 1 1) (l := [r[k]]) ⟨rfl, .inr ⟨wr.heap.size, 1, _, rfl, hB.size, heap_alloc_new wr _, Nat.le_refl _, by unfold maxLen; decide, rfl, rfl⟩⟩
          go_wp2
          go_roundw
          case rel => exact ⟨k + 1, by omega, by omega, by go_num, by rw [HC.out, bs_app], hB.alloc hB.size _⟩
          case measure => simp [intOf]; omega
      · obtain rfl : k = 100 := by omega
        have g1 : (100 : Int) < r.size := by omega
        have hk3 := remarkOf_len r 100
        obtain ⟨t3, n3, e3, K3, b3, hor⟩ := H3'.out (remarkOf r 100) (remarkOf_is r 100) (by omega)
        have hC2 : (bs (remarkOf r 100)).size ≤ 102 := by rw [bs_size]; omega
        obtain ⟨C, hC⟩ : ∃ C, bs (remarkOf r 100) = C := ⟨_, rfl⟩
        rw [hC] at K3 hC2 ⊢
        have K3' := Lib.hid K3
        clear K3 hC hk3
        have hE1 := hE.kept hB
        go_wp2_with fail
        go_at_call 18
        refine (H1'.out _ hE1).mono ?_
        intro e w2 hp
        obtain ⟨v1, rfl, hr1, hb1⟩ := lex_row hp
        have hE2 := hE1.kept hb1
        have hB2 := hB.trans (hb1.mono hB.size)
        clear hp
        go_wp2_with fail
        go_at_call 18
        refine (H2'.out _ hE2).mono ?_
        intro e w3 hp
        obtain ⟨v2, rfl, hr2, hb2⟩ := lex_row hp
        have hE3 := hE2.kept hb2
        have hB3 := hB2.trans (hb2.mono hB2.size)
        clear hp
        go_wp2_with fail
        go_at_call 18
        refine (K3'.out _ hE3).mono ?_
        intro e w4 hp
        obtain ⟨v3, rfl, hr3, hb3⟩ := lex_row hp
        have hB4 := hB3.trans (hb3.mono hB3.size)
        clear hp
        rcases hor with rfl | ⟨rfl, rfl⟩ | ⟨h1, h2, h3⟩ | ⟨rfl, h1, h2, h3⟩ | ⟨rfl, rfl, rfl, h3⟩
        · clear hr1 hr2 hr3
          go_wp2
          go_ret
          exact ⟨rfl, hB4⟩
        · clear hr1 hr2 hr3
          go_wp2
          go_ret
          exact ⟨rfl, hB4⟩
        · have d1 : (e1 == 23) = false := by simpa using h2
          have d2 : (e1 == 0) = false := by simpa using h1
          have d3 : (e1 != 0) = true := by simpa using h1
          have d4 : (e3 != 0) = true := by simpa using h3
          clear hr1 hr2 hr3 h1 h2 h3
          go_wp2
          go_ret
          exact ⟨rfl, hB4⟩
        · have d1 : (e2 == 23) = false := by simpa using h2
          have d2 : (e2 == 0) = false := by simpa using h1
          have d3 : (e2 != 0) = true := by simpa using h1
          have d4 : (e3 != 0) = true := by simpa using h3
          clear hr1 hr2 hr3 h1 h2 h3
          go_wp2
          go_ret
          exact ⟨rfl, hB4⟩
        · have h3' := Lib.hid h3
          clear h3
          have hr1 := (hr1.kept hb2 (Nat.le_refl _)).kept hb3 (Nat.le_refl _)
          have hr2 := hr2.kept hb3 (Nat.le_refl _)
          dsimp only at hr1 hr2 hr3
          have hs4 := hB4.size
          obtain ⟨A1, c1, hv1⟩ := hr1.slice
          obtain ⟨A2, c2, hv2⟩ := hr2.slice
          subst hv1
          subst hv2
          go_wp2_with (first
            | (at_make; refine wl_make rfl _ _ rfl w4.heap.size (t1.length + t2.length) _ rfl rfl (by omega) (by omega) (Nat.le_refl _) ?_; intro w5 hown5 hgrow5; have hB5 := (Below.refl w4.heap.size w4).grown hgrow5 (Nat.le_refl _) noRow; have hr15 := hr1.kept hB5 (Nat.le_refl _))
            | (at_builtin; refine wl_app rfl (.tmp 116) (.tmp 117) rfl w4.heap.size _ _ 0 [] t1 rfl rfl hown5 hr15 (by omega) hB5.size ?_; intro v6 w6 hown6 hgrow6; have hB6 := hB5.grown hgrow6 hB5.size (own_row_ge hown5); have hr26 := hr2.kept hB6 (Nat.le_refl _))
            | (at_builtin; refine wl_app rfl (.tmp 118) (.tmp 119) rfl w4.heap.size _ _ _ _ t2 rfl rfl hown6 hr26 (by omega) hB6.size ?_; intro v7 w7 hown7 hgrow7; have hB7 := hB6.grown hgrow7 hB6.size (own_row_ge hown6); have hr37 := hr3.kept hB7 (Nat.le_refl _)))
          have hr7 : TokRow w7 v7 (t1 ++ t2) := by
            have : w7.ownsRow w4.heap.size 30 5 v7 (t1 ++ t2).length (toksC (t1 ++ t2)) := by
              rw [List.length_append]
              simpa using hown7
            exact .of_owns this
          have HA := alike_any _ _ t3 (t1 ++ t2) _ hr37 hr7 (by omega)
          rw [decide_eq_true h3'.out] at HA
          go_at_call 19
          refine HA.mono ?_
          rintro e w8 ⟨rfl, hb8⟩
          go_wp2
          go_ret
          exact ⟨rfl, hB4.trans ((hB7.mono hs4).trans (hb8.mono (Nat.le_trans hs4 hB7.size)))⟩
    · have g1 : ¬ (k : Int) < r.size := by omega
      have hk3 := remarkOf_len r k
      obtain ⟨t3, n3, e3, K3, b3, hor⟩ := H3'.out (remarkOf r k) (remarkOf_is r k) (by omega)
      have hC2 : (bs (remarkOf r k)).size ≤ 102 := by rw [bs_size]; omega
      obtain ⟨C, hC⟩ : ∃ C, bs (remarkOf r k) = C := ⟨_, rfl⟩
      rw [hC] at K3 hC2 ⊢
      have K3' := Lib.hid K3
      clear K3 hC hk3
      have hE1 := hE.kept hB
      go_wp2_with fail
      go_at_call 18
      refine (H1'.out _ hE1).mono ?_
      intro e w2 hp
      obtain ⟨v1, rfl, hr1, hb1⟩ := lex_row hp
      have hE2 := hE1.kept hb1
      have hB2 := hB.trans (hb1.mono hB.size)
      clear hp
      go_wp2_with fail
      go_at_call 18
      refine (H2'.out _ hE2).mono ?_
      intro e w3 hp
      obtain ⟨v2, rfl, hr2, hb2⟩ := lex_row hp
      have hE3 := hE2.kept hb2
      have hB3 := hB2.trans (hb2.mono hB2.size)
      clear hp
      go_wp2_with fail
      go_at_call 18
      refine (K3'.out _ hE3).mono ?_
      intro e w4 hp
      obtain ⟨v3, rfl, hr3, hb3⟩ := lex_row hp
      have hB4 := hB3.trans (hb3.mono hB3.size)
      clear hp
      rcases hor with rfl | ⟨rfl, rfl⟩ | ⟨h1, h2, h3⟩ | ⟨rfl, h1, h2, h3⟩ | ⟨rfl, rfl, rfl, h3⟩
      · clear hr1 hr2 hr3
        go_wp2
        go_ret
        exact ⟨rfl, hB4⟩
      · clear hr1 hr2 hr3
        go_wp2
        go_ret
        exact ⟨rfl, hB4⟩
      · have d1 : (e1 == 23) = false := by simpa using h2
        have d2 : (e1 == 0) = false := by simpa using h1
        have d3 : (e1 != 0) = true := by simpa using h1
        have d4 : (e3 != 0) = true := by simpa using h3
        clear hr1 hr2 hr3 h1 h2 h3
        go_wp2
        go_ret
        exact ⟨rfl, hB4⟩
      · have d1 : (e2 == 23) = false := by simpa using h2
        have d2 : (e2 == 0) = false := by simpa using h1
        have d3 : (e2 != 0) = true := by simpa using h1
        have d4 : (e3 != 0) = true := by simpa using h3
        clear hr1 hr2 hr3 h1 h2 h3
        go_wp2
        go_ret
        exact ⟨rfl, hB4⟩
      · have h3' := Lib.hid h3
        clear h3
        have hr1 := (hr1.kept hb2 (Nat.le_refl _)).kept hb3 (Nat.le_refl _)
        have hr2 := hr2.kept hb3 (Nat.le_refl _)
        dsimp only at hr1 hr2 hr3
        have hs4 := hB4.size
        obtain ⟨A1, c1, hv1⟩ := hr1.slice
        obtain ⟨A2, c2, hv2⟩ := hr2.slice
        subst hv1
        subst hv2
        go_wp2_with (first
          | (at_make; refine wl_make rfl _ _ rfl w4.heap.size (t1.length + t2.length) _ rfl rfl (by omega) (by omega) (Nat.le_refl _) ?_; intro w5 hown5 hgrow5; have hB5 := (Below.refl w4.heap.size w4).grown hgrow5 (Nat.le_refl _) noRow; have hr15 := hr1.kept hB5 (Nat.le_refl _))
          | (at_builtin; refine wl_app rfl (.tmp 116) (.tmp 117) rfl w4.heap.size _ _ 0 [] t1 rfl rfl hown5 hr15 (by omega) hB5.size ?_; intro v6 w6 hown6 hgrow6; have hB6 := hB5.grown hgrow6 hB5.size (own_row_ge hown5); have hr26 := hr2.kept hB6 (Nat.le_refl _))
          | (at_builtin; refine wl_app rfl (.tmp 118) (.tmp 119) rfl w4.heap.size _ _ _ _ t2 rfl rfl hown6 hr26 (by omega) hB6.size ?_; intro v7 w7 hown7 hgrow7; have hB7 := hB6.grown hgrow7 hB6.size (own_row_ge hown6); have hr37 := hr3.kept hB7 (Nat.le_refl _)))
        have hr7 : TokRow w7 v7 (t1 ++ t2) := by
          have : w7.ownsRow w4.heap.size 30 5 v7 (t1 ++ t2).length (toksC (t1 ++ t2)) := by
            rw [List.length_append]
            simpa using hown7
          exact .of_owns this
        have HA := alike_any _ _ t3 (t1 ++ t2) _ hr37 hr7 (by omega)
        rw [decide_eq_true h3'.out] at HA
        go_at_call 19
        refine HA.mono ?_
        rintro e w8 ⟨rfl, hb8⟩
        go_wp2
        go_ret
        exact ⟨rfl, hB4.trans ((hB7.mono hs4).trans (hb8.mono (Nat.le_trans hs4 hB7.size)))⟩

theorem blanks_walk (s t r : ByteArray) (w : World) (hs : s.size ≤ maxLen) (ht : t.size ≤ maxLen) (hr : r.size ≤ maxLen) (hE : Env w) :
    Calls Tryd.prog 5 #[.string s, .string t, .string r] w fun e w' => e = .returned (.bool true) ∧ Below w.heap.size w w' := by
  obtain ⟨S, hS⟩ : ∃ S, s.extract 0 (min s.size 2000) = S := ⟨_, rfl⟩
  obtain ⟨T, hT⟩ : ∃ T, t.extract 0 (min t.size 2000) = T := ⟨_, rfl⟩
  have hl1 : S.size ≤ 2000 := by rw [← hS]; exact cut2_len s
  have hl2 : T.size ≤ 2000 := by rw [← hT]; exact cut2_len t
  have k1 := len_toList S
  have k2 := len_toList T
  have c1 := lex_toks S.data.toList (by omega)
  have c2 := lex_toks T.data.toList (by omega)
  refine blanks_in s t r S T (lexE S.data.toList).toks (lexE T.data.toList).toks _ _ _ _ w hs ht hr hE hS hT hl1 hl2 (fun w hE => lex_any S w (by omega) hE) (fun w hE => lex_any T w (by omega) hE) (fun c hc hcl => ?_) (by omega) (by omega)
  have e3 : (⟨#[32, 9]⟩ ++ bs c ++ ⟨#[10]⟩ ++ S ++ ⟨#[10]⟩ ++ bs c ++ ⟨#[10, 13]⟩ ++ T ++ ⟨#[10]⟩ ++ bs c : ByteArray).data.toList = airL c S.data.toList T.data.toList := by
    simp [airL, bs_list]
  have z3 : (airL c S.data.toList T.data.toList).length ≤ 5000 := by
    unfold airL
    simp only [List.length_cons, List.length_append, k1, k2]
    omega
  have c3 := lex_toks _ (Nat.le_trans z3 (by decide))
  have H3 := fun w hE => lex_any (⟨#[32, 9]⟩ ++ bs c ++ ⟨#[10]⟩ ++ S ++ ⟨#[10]⟩ ++ bs c ++ ⟨#[10, 13]⟩ ++ T ++ ⟨#[10]⟩ ++ bs c) w (by rw [← len_toList, e3]; omega) hE
  rw [e3] at H3
  refine ⟨_, _, _, H3, Nat.le_trans c3 (Nat.le_trans z3 (by decide)), ?_⟩
  obtain ⟨m1, m2, m3⟩ := lex_air hc S.data.toList T.data.toList (by omega) (by omega) (by omega)
  by_cases h1 : (lexE S.data.toList).e = 23
  · exact .inl h1
  · by_cases h2 : (lexE S.data.toList).e = 0
    · by_cases h3 : (lexE T.data.toList).e = 23
      · exact .inr (.inl ⟨h2, h3⟩)
      · by_cases h4 : (lexE T.data.toList).e = 0
        · exact .inr (.inr (.inr (.inr ⟨h2, h4, (m3 ⟨h2, h4⟩).1, (m3 ⟨h2, h4⟩).2⟩)))
        · exact .inr (.inr (.inr (.inl ⟨h2, h4, h3, m2 ⟨h2, h4, h3⟩⟩)))
    · exact .inr (.inr (.inl ⟨h2, h1, m1 ⟨h2, h1⟩⟩))
end Go.Proofs.YtfjfbpmlohgghaaDoor
