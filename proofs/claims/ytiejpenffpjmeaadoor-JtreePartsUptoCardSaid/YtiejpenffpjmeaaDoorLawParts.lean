/- JtreeParts. -/
import Derived.Test.YtiejpenffpjmeaaDoorBound
import Derived.Test.YtiejpenffpjmeaaDoorLawSames
import Derived.Deep.DeepMust
namespace Go.Proofs.YtiejpenffpjmeaaDoor
set_option linter.unusedSimpArgs false
set_option linter.unusedVariables false
open Go.RowKit Go.Proofs

/-- A block of one statement. -/
def alone (x : Tr) : Tr := .mk 32 [] 0 0 [x]
theorem levels_part : ∀ {l : List Tr} {x : Tr} (k : Nat), x ∈ l → ∀ p ∈ x.levels k, p ∈ levelsL k l
  | a :: r, x, k, h, p, hp => by
    rw [levelsL_cons, List.mem_append]
    rcases List.mem_cons.1 h with rfl | h
    · exact .inl hp
    · exact .inr (levels_part k h p hp)
theorem rightP_op {t : Tr} (h : rightP t = true) : t.op = 32 := by
  unfold rightP at h
  rw [Bool.and_eq_true] at h
  have := h.1
  unfold hasB at this
  simpa using this
theorem rightP_alone {t x : Tr} (h : rightP t = true) (hx : x ∈ t.l) : rightP (alone x) = true := by
  have hop := rightP_op h
  unfold rightP at h ⊢
  rw [Bool.and_eq_true] at h ⊢
  obtain ⟨h1, h2⟩ := h
  refine ⟨by rw [hop] at h1; exact h1, ?_⟩
  unfold soundT at h2 ⊢
  rw [List.all_eq_true] at h2 ⊢
  intro p hp
  rw [levels_eq] at hp
  have ht := h2 (t, 1) (by rw [levels_eq]; exact List.mem_cons_self)
  unfold goodB at ht
  rw [Bool.and_eq_true] at ht
  have hS := ((inv_32 hop).1 ht.1).2.2.2 x hx
  rcases List.mem_cons.1 hp with rfl | hp
  · unfold goodB
    rw [Bool.and_eq_true]
    exact ⟨(inv_32 (t := alone x) rfl).2 ⟨rfl, rfl, show (1 : Nat) ≤ 9223372036854775807 by decide, fun y hy => by rw [List.mem_singleton.1 hy]; exact hS⟩, show decide ((1 : Nat) ≤ 100) = true by decide⟩
  · refine h2 p ?_
    rw [levels_eq]
    have : p ∈ levelsL 2 [x] := hp
    rw [levelsL_cons, levelsL_nil, List.append_nil] at this
    exact List.mem_cons_of_mem _ (levels_part 2 hx p this)
theorem showP_alone (x : Tr) : showP (alone x) = indentB 0 ++ (x.txt 0 ++ [10]) := by
  unfold showP alone
  simp [linesL]
theorem strs_part {l : List Tr} {x : Tr} (h : x ∈ l) : x.strs ≤ strsL l := by
  induction l with
  | nil => cases h
  | cons a r ih =>
    rw [strsL_cons]
    rcases List.mem_cons.1 h with rfl | h
    · omega
    · have := ih h; omega

/-- One statement out of a program, as a program. -/
theorem alone_at {w : World} {t : Tr} {g off c : Nat} (hr : Row w w.heap.size t.l (.slice (some ⟨g, off, none⟩) t.l.length c)) (k : Nat) (x : Tr) (hx : t.l[k]? = some x) :
    At w w.heap.size (alone x) (.agg #[.int .i64 32, .string ⟨#[]⟩, .int .i64 0, .slice (some ⟨g, off + k * 5, none⟩) 1 (c - k), .int .i64 0]) := by
  obtain ⟨hk, -⟩ := List.getElem?_eq_some_iff.1 hx
  obtain ⟨A, cap, e, h1, h2⟩ := hr
  cases e
  obtain ⟨g', off', e, hg, ha⟩ := h2 (by omega)
  cases e
  obtain ⟨v, hv, c0, c1, c2, c3, c4⟩ := AtL.get t.l k x ha hx
  refine at_lit (alone x) _ ⟨_, c - k, rfl, ⟨by show 1 ≤ c - k; omega, by omega⟩, fun _ => ⟨g, off + k * 5, rfl, hg, ?_⟩⟩ (fine_by 32 [] 0 (by decide) (by decide) (by decide))
  show AtL w _ g _ [x]
  rw [AtL_cons]
  exact ⟨⟨v, hv, c0, c1, c2, c3, c4⟩, AtL_nil _ _ _ _⟩

set_option maxRecDepth 100000 in
set_option maxHeartbeats 4000000 in
theorem parts_law (t : Tr) (v : Value) (w : World) (hA : At w w.heap.size t v) (hst : t.strs ≤ 10000000) (he : Env w) (h1 : 1 ≤ w.heap.size) :
    Calls Tryd.prog 8 #[v] w fun e w' => e = .returned (.bool true) ∧ Below w.heap.size w w' := by
  have hfine := at_fine _ _ _ _ hA
  obtain ⟨ua, rfl, hrow, -⟩ := (At_iff _ _ _ _).1 hA
  obtain ⟨A, c, rfl, hlc, hcm⟩ := row_at hrow
  have hform : 0 < t.l.length → ∃ g off, A = some ⟨g, off, none⟩ := fun h0 => by
    obtain ⟨A', c', e, -, h2⟩ := hrow
    cases e
    obtain ⟨g, off, rfl, -⟩ := h2 h0
    exact ⟨g, off, rfl⟩
  obtain ⟨W0, eW⟩ : ∃ W, w.alloc (.cells #[.int .i64 t.op, .string (bs t.s), .int .i64 t.n, .slice A t.l.length c, .int .i64 t.line] 24) = W := ⟨_, rfl⟩
  have hb0 : Below w.heap.size w W0 := by rw [← eW]; exact (Below.refl _ w).alloc (Nat.le_refl _) _
  have hz0 : W0.heap.size = w.heap.size + 1 := by rw [← eW]; simp
  have hx : W0.heap[w.heap.size]? = some (.cells #[.int .i64 t.op, .string (bs t.s), .int .i64 t.n, .slice A t.l.length c, .int .i64 t.line] 24 (0, 0)) := by rw [← eW]; exact heap_alloc_new w _
  have hAt : ∀ w', Below W0.heap.size W0 w' → At w' w'.heap.size t (nodeV t (.slice A t.l.length c)) := fun w' hb =>
    have hb' := hb0.trans (hb.mono (by omega))
    At.keep t hA hb'.size fun p hp => hb'.cell hp
  have hs := shown_any W0 (he.below hb0) (by omega)
  have h11 := fun (w' : World) (hb : Below W0.heap.size W0 w') => small_any t _ w' (hAt w' hb)
  have hbx := fun (w' : World) (hb : Below W0.heap.size W0 w') => box_in hb hx
  have HS := Lib.hid hs
  have HW := Lib.hid (And.intro eW (And.intro hb0 hz0))
  by_cases hsz : t.size ≤ 1500
  · have h16 := fun (w' : World) (hb : Below W0.heap.size W0 w') => show_any t _ w' (hAt w' hb) (by omega) (fun _ => showP_len t hfine hsz hst) ((he.below hb0).below hb)
    have h12 := fun (w' : World) (hb : Below W0.heap.size W0 w') => right_any t _ w' (hAt w' hb) (by omega)
    simp only [if_pos hsz] at h11
    have hal := fun (w' : World) (hb : Below W0.heap.size W0 w') (k : Nat) (x : Tr) (hx : t.l[k]? = some x) (g off : Nat) (hA' : A = some ⟨g, off, none⟩) (hr : rightP t = true) =>
      show_any (alone x) (.agg #[.int .i64 32, .string ⟨#[]⟩, .int .i64 0, .slice (some ⟨g, off + k * 5, none⟩) 1 (c - k), .int .i64 0]) w'
        (alone_at (by
          obtain ⟨u, e, hr', -⟩ := (At_iff _ _ _ _).1 (hAt w' hb)
          unfold nodeV at e
          simp only [Value.agg.injEq, Array.mk.injEq, List.cons.injEq, and_true, true_and] at e
          rw [← e, hA'] at hr'
          exact hr') k x hx) (by have := size_part (List.mem_of_getElem? hx); show 1 + sizes [x] ≤ _; rw [sizes_cons, sizes_nil]; omega)
        (fun _ => showP_len (alone x) (at_fine w' _ _ _ (alone_at (by
          obtain ⟨u, e, hr', -⟩ := (At_iff _ _ _ _).1 (hAt w' hb)
          unfold nodeV at e
          simp only [Value.agg.injEq, Array.mk.injEq, List.cons.injEq, and_true, true_and] at e
          rw [← e, hA'] at hr'
          exact hr') k x hx)) (by have := size_part (List.mem_of_getElem? hx); show 1 + sizes [x] ≤ _; rw [sizes_cons, sizes_nil]; omega)
          (by have := strs_part (List.mem_of_getElem? hx); have := strs_eq t; show 0 + strsL [x] ≤ _; rw [strsL_cons, strsL_nil]; omega)) ((he.below hb0).below hb)
    obtain ⟨r, er⟩ : ∃ r, rightP t = r := ⟨_, rfl⟩
    have hal2 := fun (w' : World) (hb : Below W0.heap.size W0 w') (k : Nat) (x : Tr) (hx : t.l[k]? = some x) (g off : Nat) (hA' : A = some ⟨g, off, none⟩) (hr : r = true) => hal w' hb k x hx g off hA' (er.trans hr)
    have hone := fun (hr : r = true) (x : Tr) (hx : x ∈ t.l) => rightP_alone (er.trans hr) hx
    have hlenS := fun (hr : r = true) => showP_len t hfine hsz hst
    rw [er] at h16 h12
    unfold nodeV at h11 h16 h12 ⊢
    unfold BoxAt at hbx
    unfold Tells at h16 hal2
    have H11 := Lib.hid h11
    have HBx := Lib.hid hbx
    have H12 := Lib.hid h12
    have HAL := Lib.hid (And.intro hal2 (And.intro hone hlenS))
    have hl15 : t.l.length ≤ 1500 := by
      have := length_le_sizes t.l
      have := size_eq t
      omega
    have HLc := Lib.hid (And.intro hlc hl15)
    clear hl15
    have HF := Lib.hid hform
    cases r with
    | false =>
      simp only [Bool.false_eq_true, if_false] at h16
      have H16 := Lib.hid h16
      clear hA hrow hlc hcm he h1 hb0 hz0 hx hAt hs h11 hbx hsz hst hfine h16 h12 hal hal2 hone hlenS er hform
      go_enter Tryd.func8, Tryd.ntmps8
      go_wp2_with fail
      go_at_call 10
      refine HS.out.mono ?_
      rintro e w1 ⟨rfl, hb1⟩
      have HB1 := Lib.hid hb1
      obtain ⟨f0, f1, f2, f3, f4⟩ := HBx.out w1 hb1
      have HC1 := Lib.hid (H11.out w1 hb1)
      clear hb1 eW
      go_wp2_with fail
      go_at_call 11
      refine HC1.out.mono ?_
      rintro e w2 ⟨rfl, hb2⟩
      have HB2 := Lib.hid (HB1.out.trans (hb2.mono HB1.out.size))
      clear hb2 f0 f1 f2 f3 f4
      obtain ⟨f0, f1, f2, f3, f4⟩ := HBx.out w2 HB2.out
      have HC2 := Lib.hid (H16.out w2 HB2.out)
      go_wp2_with fail
      go_at_call 16
      refine HC2.out.mono ?_
      rintro e w3 ⟨rfl, hb3⟩
      have HB3 := Lib.hid (HB2.out.trans (hb3.mono HB2.out.size))
      clear hb3 f0 f1 f2 f3 f4
      obtain ⟨f0, f1, f2, f3, f4⟩ := HBx.out w3 HB3.out
      have HC3 := Lib.hid (H12.out w3 HB3.out)
      go_wp2_with fail
      go_at_call 12
      refine HC3.out.mono ?_
      rintro e w4 ⟨rfl, hb4⟩
      have HB4 := Lib.hid (HB3.out.trans (hb4.mono HB3.out.size))
      clear hb4 f0 f1 f2 f3 f4
      go_wp2
      go_ret
      exact ⟨by first | rfl | simp, HW.out.2.1.trans (HB4.out.mono (by have := HW.out.2.2; omega))⟩
    | true =>
      simp only [if_true] at h16
      have H16 := Lib.hid h16
      clear hA hrow hlc hcm he h1 hb0 hz0 hx hAt hs h11 hbx hsz hst hfine h16 h12 hal hal2 hone hlenS er hform
      go_enter Tryd.func8, Tryd.ntmps8
      go_wp2_with fail
      go_at_call 10
      refine HS.out.mono ?_
      rintro e w1 ⟨rfl, hb1⟩
      have HB1 := Lib.hid hb1
      obtain ⟨f0, f1, f2, f3, f4⟩ := HBx.out w1 hb1
      have HC1 := Lib.hid (H11.out w1 hb1)
      clear hb1 eW
      go_wp2_with fail
      go_at_call 11
      refine HC1.out.mono ?_
      rintro e w2 ⟨rfl, hb2⟩
      have HB2 := Lib.hid (HB1.out.trans (hb2.mono HB1.out.size))
      clear hb2 f0 f1 f2 f3 f4
      obtain ⟨f0, f1, f2, f3, f4⟩ := HBx.out w2 HB2.out
      have HC2 := Lib.hid (H16.out w2 HB2.out)
      go_wp2_with fail
      go_at_call 16
      refine HC2.out.mono ?_
      rintro e w3 ⟨rfl, hb3⟩
      have HB3 := Lib.hid (HB2.out.trans (hb3.mono HB2.out.size))
      clear hb3 f0 f1 f2 f3 f4
      obtain ⟨f0, f1, f2, f3, f4⟩ := HBx.out w3 HB3.out
      go_wp2
      go_loopw [6, 7] (fun v i wr => ∃ k : Nat, k ≤ t.l.length ∧ i = .int .i64 k ∧ v = .string (bs (linesL 0 ((t.l.map (Tr.txt 0)).take k))) ∧ RowKit.Hid (Below W0.heap.size W0 wr)) (fun _ i _ => t.l.length - (intOf i).toNat)
      case atStart => exact ⟨0, Nat.zero_le _, rfl, rfl, HB3⟩
      case round =>
        obtain ⟨k, hk, rfl, rfl, HBr⟩ := hrel
        clear f0 f1 f2 f3 f4
        have hq1 : (bs (linesL 0 ((t.l.map (Tr.txt 0)).take k))).size ≤ 100000000 := by
          rw [bs_size]
          have := lines_pre 0 (t.l.map (Tr.txt 0)) k
          have h2 := HAL.out.2.2 trivial
          unfold showP at h2
          omega
        by_cases hlt : k < t.l.length
        · obtain ⟨x, hx⟩ : ∃ x, t.l[k]? = some x := ⟨_, List.getElem?_eq_getElem hlt⟩
          obtain ⟨g, off, hAg⟩ := HF.out (by omega)
          have hc := HAL.out.1 wr HBr.out k x hx g off hAg trivial
          rw [HAL.out.2.1 trivial x (List.mem_of_getElem? hx)] at hc
          simp only [if_true] at hc
          subst hAg
          obtain ⟨f0, f1, f2, f3, f4⟩ := HBx.out wr HBr.out
          have hq2 : (bs (showP (alone x))).size ≤ 100000000 := by
            rw [bs_size, showP_alone]
            have := lines_pre 0 (t.l.map (Tr.txt 0)) (k + 1)
            rw [lines_next (t := x.txt 0) (by rw [List.getElem?_map, hx]; rfl)] at this
            have h2 := HAL.out.2.2 trivial
            unfold showP at h2
            simp only [List.length_append] at this h2 ⊢
            omega
          have hnext : bs (linesL 0 ((t.l.map (Tr.txt 0)).take (k + 1))) = bs (linesL 0 ((t.l.map (Tr.txt 0)).take k)) ++ bs (showP (alone x)) := by
            rw [bs_cat, lines_next (t := x.txt 0) (by rw [List.getElem?_map, hx]; rfl), showP_alone]
          obtain ⟨q1, e1⟩ : ∃ q, bs (linesL 0 ((t.l.map (Tr.txt 0)).take k)) = q := ⟨_, rfl⟩
          obtain ⟨q2, e2⟩ : ∃ q, bs (showP (alone x)) = q := ⟨_, rfl⟩
          rw [e1] at hq1 hnext ⊢
          rw [e2] at hq2 hnext hc
          have hkc : k + 1 ≤ c := by have := HLc.out.1; omega
          have hk15 : k ≤ 1500 := by have := HLc.out.2; omega
          have hsum : ¬ (9223372036854775807 < q1.size + q2.size) := by omega
          have HC := Lib.hid hc
          have HN := Lib.hid hnext
          clear hc hnext e1 e2 hq1 hq2 hx
          go_wp2_with fail
          go_at_call 16
          refine HC.out.mono ?_
          rintro e w5 ⟨rfl, hb5⟩
          have HB5 := Lib.hid (HBr.out.trans (hb5.mono HBr.out.size))
          clear hb5
          go_wp2
          go_roundw
          case rel => exact ⟨k + 1, by omega, by simp, by rw [HN.out], HB5⟩
          case measure => simp [intOf]; omega
        · obtain rfl : k = t.l.length := by omega
          have hall : linesL 0 ((t.l.map (Tr.txt 0)).take t.l.length) = showP t := by
            rw [List.take_of_length_le (by simp)]
            rfl
          rw [hall]
          obtain ⟨f0, f1, f2, f3, f4⟩ := HBx.out wr HBr.out
          clear hall hq1
          go_wp2
          go_ret
          exact ⟨by first | rfl | simp, HW.out.2.1.trans (HBr.out.mono (by have := HW.out.2.2; omega))⟩
  · simp only [if_neg hsz] at h11
    unfold nodeV at h11 ⊢
    unfold BoxAt at hbx
    have H11 := Lib.hid h11
    have HBx := Lib.hid hbx
    clear hA hrow hlc hcm he h1 hb0 hz0 hx hAt hs h11 hbx hsz hst hfine
    go_enter Tryd.func8, Tryd.ntmps8
    go_wp2_with fail
    go_at_call 10
    refine HS.out.mono ?_
    rintro e w1 ⟨rfl, hb1⟩
    have HB1 := Lib.hid hb1
    obtain ⟨f0, f1, f2, f3, f4⟩ := HBx.out w1 hb1
    have HC1 := Lib.hid (H11.out w1 hb1)
    clear hb1 eW
    go_wp2_with fail
    go_at_call 11
    refine HC1.out.mono ?_
    rintro e w2 ⟨rfl, hb2⟩
    have HB2 := Lib.hid (HB1.out.trans (hb2.mono HB1.out.size))
    clear hb2 f0 f1 f2 f3 f4
    go_wp2
    go_ret
    exact ⟨rfl, HW.out.2.1.trans (HB2.out.mono (by have := HW.out.2.2; omega))⟩
end Go.Proofs.YtiejpenffpjmeaaDoor
