/- Texts read back: all trees. No program. -/
import Derived.Test.YtiejpenffpjmeaaDoorRead2
namespace Go.Proofs.YtiejpenffpjmeaaDoor
set_option linter.unusedSimpArgs false
set_option linter.unusedVariables false

/-! ### names, words -/
theorem kw_words : ∀ w ∈ kwL, isWordL w = true := by decide
theorem words_nameB : ∀ w ∈ wordsL, w ≠ [] ∧ ∀ c ∈ w, nameB c = true := by decide
theorem kw_digit : ∀ w ∈ kwL, digitB (w.headD 0) = false := by decide
theorem name_of {s : Bs} (h : isNameL s = true) : s ≠ [] ∧ (∀ c ∈ s, nameB c = true) ∧ s ∉ kwL ∧ digitB (s.headD 0) = false ∧ isWordL s = false := by
  cases s with
  | nil => exact absurd h (by simp [isNameL])
  | cons c r =>
    unfold isNameL at h
    simp only [Bool.and_eq_true, Bool.not_eq_true', List.all_eq_true] at h
    obtain ⟨h1, h2, h3⟩ := h
    refine ⟨by simp, fun d hd => ?_, fun hk => ?_, digit_letter h1, h3⟩
    · rcases List.mem_cons.1 hd with rfl | hd
      · unfold nameB; rw [h1]; rfl
      · exact h2 d hd
    · rw [kw_words _ hk] at h3
      exact absurd h3 (by simp)
theorem word_ne {s w : Bs} (h : isWordL s = false) (hw : isWordL w = true) : s ≠ w := by
  rintro rfl
  rw [hw] at h
  exact absurd h (by simp)
theorem wordT_name {s : Bs} (h : isNameL s = true) : wordT s = .mk 1 s 0 0 [] := by
  obtain ⟨_, _, _, h4, h5⟩ := name_of h
  unfold wordT
  rw [h4, if_neg (by simp), if_neg (word_ne h5 (by decide)), if_neg (word_ne h5 (by decide)), if_neg (word_ne h5 (by decide)), if_neg (word_ne h5 (by decide)), if_neg (word_ne h5 (by decide)), if_neg (word_ne h5 (by decide))]
theorem mem_of {s : Bs} (h : isWordL s = true ∨ isNameL s = true) : ∀ c ∈ s, nameB c = true := by
  rcases h with h | h
  · exact (words_nameB s (by unfold isWordL at h; simpa using h)).2
  · exact (name_of h).2.1
theorem dec_of (n : Nat) : Lib.decDigits n ≠ [] ∧ (∀ c ∈ Lib.decDigits n, nameB c = true) ∧ Lib.decDigits n ∉ kwL ∧ wordT (Lib.decDigits n) = .mk 2 [] n 0 [] := by
  obtain ⟨h1, h2⟩ := dec_all n
  have hd : digitB ((Lib.decDigits n).headD 0) = true := by
    obtain ⟨c, q, e⟩ := List.exists_cons_of_ne_nil h2
    rw [e] at h1 ⊢
    exact h1 c List.mem_cons_self
  refine ⟨h2, fun c hc => ?_, fun hk => ?_, ?_⟩
  · unfold nameB; rw [h1 c hc]; simp
  · rw [kw_digit _ hk] at hd
    exact absurd hd (by simp)
  · unfold wordT
    rw [hd, if_pos (by rfl), dec_val]

theorem txt_mk (k : Nat) {o : Int} {s : Bs} {n i : Int} {l : List Tr} (h : o ≠ 32) : (Tr.mk o s n i l).txt k = form (Int.toNat o) s n (op0 l) (l.map (Tr.txt k)) := txt_form k _ h

/-! ### expressions -/
theorem succ_of {c F : Nat} (h : c + 1 ≤ F) : ∃ m, F = m + 1 ∧ c ≤ m := ⟨F - 1, by omega, by omega⟩
theorem e_word {k : Nat} {t : Tr} (w : Bs) (ht : t.txt k = w) (h0 : w ≠ []) (hw : ∀ c ∈ w, nameB c = true) (hn : t.norm = wordT w) : EOK k t :=
  ⟨1, fun F r hF hr _ => by
    obtain ⟨m, rfl, _⟩ := succ_of (c := 0) hF
    exact ⟨m, by omega, by rw [ht, rdE_word m k h0 hw hr, hn]⟩⟩
theorem norm0 (o : Int) (s : Bs) (n i : Int) : (Tr.mk o s n i []).norm = .mk o s n 0 [] := by rw [norm_mk, norms_nil]
theorem norm1 (o : Int) (s : Bs) (n i : Int) (a : Tr) : (Tr.mk o s n i [a]).norm = .mk o s n 0 [a.norm] := by rw [norm_mk, norms_cons, norms_nil]
theorem norm2 (o : Int) (s : Bs) (n i : Int) (a b : Tr) : (Tr.mk o s n i [a, b]).norm = .mk o s n 0 [a.norm, b.norm] := by rw [norm_mk, norms_cons, norms_cons, norms_nil]
theorem norm3 (o : Int) (s : Bs) (n i : Int) (a b c : Tr) : (Tr.mk o s n i [a, b, c]).norm = .mk o s n 0 [a.norm, b.norm, c.norm] := by rw [norm_mk, norms_cons, norms_cons, norms_cons, norms_nil]

theorem e_1 {k : Nat} {s : Bs} {i : Int} (h : isNameL s = true) : EOK k (.mk 1 s 0 i []) :=
  e_word s (by rw [txt_mk k (o := 1) (by decide)]; rfl) (name_of h).1 (name_of h).2.1 (by rw [norm0, wordT_name h])
theorem e_2 {k : Nat} {n i : Int} (h : 0 ≤ n) : EOK k (.mk 2 [] n i []) :=
  e_word (Lib.decDigits n.toNat) (by rw [txt_mk k (o := 2) (by decide)]; rfl) (dec_of _).1 (dec_of _).2.1 (by rw [norm0, (dec_of _).2.2.2, Int.toNat_of_nonneg h])
theorem e_3 {k : Nat} {s : Bs} {i : Int} : EOK k (.mk 3 s 0 i []) :=
  ⟨1, fun F r hF hr _ => by
    obtain ⟨m, rfl, _⟩ := succ_of (c := 0) hF
    refine ⟨m, by omega, ?_⟩
    rw [txt_mk k (o := 3) (by decide), norm0]
    exact rdE_str m k s r (ends_pre hr)⟩
theorem e_10 {k : Nat} {s : Bs} {i : Int} {l : List Tr} (h : s = [] ∨ isNameL s = true) (hl : FOK k l) : EOK k (.mk 10 s 0 i l) := by
  obtain ⟨c, hc⟩ := hl
  refine ⟨c + 2, fun F r hF hr _ => ?_⟩
  obtain ⟨m, rfl, hm⟩ := succ_of (c := c + 1) hF
  obtain ⟨f, rfl, hf⟩ := succ_of hm
  refine ⟨f, by omega, ?_⟩
  rw [txt_mk k (o := 10) (by decide), norm_mk]
  have e : form (Int.toNat 10) s 0 (op0 l) (l.map (Tr.txt k)) ++ r = 40 :: (funW ++ ((if s = [] then [] else [32] ++ s) ++ (funcB (l.map (Tr.txt k)) ++ 41 :: r))) := by
    show ([40, 102, 117, 110, 99, 116, 105, 111, 110] ++ ((if s = [] then [] else [32] ++ s) ++ (funcB (l.map (Tr.txt k)) ++ [41]))) ++ r = _
    simp [funW]
  rw [e, rdE_paren]
  have hq : funcB (l.map (Tr.txt k)) ++ 41 :: r = 40 :: ((commas (l.map (Tr.txt k)).dropLast ++ ([41, 32] ++ (l.map (Tr.txt k)).getLastD [])) ++ 41 :: r) := by simp [funcB]
  by_cases hs : s = []
  · subst hs
    rw [if_pos (by rfl), List.nil_append, hq, rdP_fun0, ← hq, hc f _ hf, Option.bind_some, show (41 :: r : Bs) = [41] ++ r from rfl, pre_app, Option.bind_some]
  · rw [if_neg hs]
    have hn := name_of (h.resolve_left hs)
    rw [show ([32] ++ s) ++ (funcB (l.map (Tr.txt k)) ++ 41 :: r) = 32 :: (s ++ (funcB (l.map (Tr.txt k)) ++ 41 :: r)) by simp, rdP_fun1 f k hn.2.1 (by rw [hq]; exact ends_lit (by decide)), hc f _ hf, Option.bind_some, show (41 :: r : Bs) = [41] ++ r from rfl, pre_app, Option.bind_some]
theorem e_11 {k : Nat} {i : Int} {l : List Tr} (hl : AOK k l 125) : EOK k (.mk 11 [] 0 i l) := by
  obtain ⟨c, hc⟩ := hl
  refine ⟨c + 2, fun F r hF hr _ => ?_⟩
  obtain ⟨m, rfl, hm⟩ := succ_of (c := c + 1) hF
  obtain ⟨f, rfl, hf⟩ := succ_of hm
  refine ⟨f, by omega, ?_⟩
  rw [txt_mk k (o := 11) (by decide), norm_mk]
  have e : form (Int.toNat 11) [] 0 (op0 l) (l.map (Tr.txt k)) ++ r = 40 :: 123 :: (commas (l.map (Tr.txt k)) ++ 125 :: ([41] ++ r)) := by
    show ([40, 123] ++ (commas (l.map (Tr.txt k)) ++ [125, 41])) ++ r = _
    simp
  rw [e, rdE_paren, rdP_obj, hc f _ hf, Option.bind_some, pre_app, Option.bind_some]
theorem e_12 {k : Nat} {s : Bs} {i : Int} {a : Tr} (ha : XOK k a) : EOK k (.mk 12 s 0 i [a]) := by
  obtain ⟨c, hc⟩ := ha
  refine ⟨c + 1, fun F r hF hr hn => ?_⟩
  obtain ⟨f, rfl, hf⟩ := succ_of hF
  refine ⟨f, by omega, ?_⟩
  rw [txt_mk k (o := 12) (by decide), norm1]
  have e : form (Int.toNat 12) s 0 (op0 [a]) ([a].map (Tr.txt k)) ++ r = quoteL s ++ ([58, 32] ++ (a.txt k ++ r)) := by
    show (quoteL s ++ ([58, 32] ++ a.txt k)) ++ r = _
    simp
  rw [e, rdE_pair, hc f r hf hr (hn rfl), Option.bind_some]
theorem e_13n {k : Nat} {s : Bs} {i : Int} {a : Tr} (hs : ∀ c ∈ s, nameB c = true) (ha : XOK k a) (hf : Front (a.txt k)) (h2 : a.op = 2) : EOK k (.mk 13 s 0 i [a]) := by
  obtain ⟨c, hc⟩ := ha
  refine ⟨c + 2, fun F r hF hr hn => ?_⟩
  obtain ⟨m, rfl, hm⟩ := succ_of (c := c + 1) hF
  obtain ⟨f, rfl, hf'⟩ := succ_of hm
  refine ⟨f, by omega, ?_⟩
  rw [txt_mk k (o := 13) (by decide), norm1]
  have e : form (Int.toNat 13) s 0 (op0 [a]) ([a].map (Tr.txt k)) ++ r = 40 :: (a.txt k ++ ([41, 46] ++ (s ++ r))) := by
    show (if a.op = 2 then [40] ++ (a.txt k ++ ([41, 46] ++ s)) else a.txt k ++ ([46] ++ s)) ++ r = _
    rw [if_pos h2]
    simp
  have hE : Ends ([41, 46] ++ (s ++ r)) := ends_lit (by decide)
  rw [e, rdE_paren, rdP_e f k (hf.app hE), hc f _ hf' hE (noTail_lit (by decide)), Option.bind_some]
  simp only [pre_app]
  rw [(run_app hs hr).1, (run_app hs hr).2]
theorem e_13 {k : Nat} {s : Bs} {i : Int} {a : Tr} (hs : ∀ c ∈ s, nameB c = true) (ha : EOK k a) (h2 : a.op ≠ 2) (h12 : a.op ≠ 12) : EOK k (.mk 13 s 0 i [a]) := by
  obtain ⟨c, hc⟩ := ha
  refine ⟨c + 1, fun F r hF hr hn => ?_⟩
  rw [txt_mk k (o := 13) (by decide), norm1]
  have e : form (Int.toNat 13) s 0 (op0 [a]) ([a].map (Tr.txt k)) ++ r = a.txt k ++ (46 :: (s ++ r)) := by
    show (if a.op = 2 then [40] ++ (a.txt k ++ ([41, 46] ++ s)) else a.txt k ++ ([46] ++ s)) ++ r = _
    rw [if_neg h2]
    simp
  obtain ⟨g, hg, eg⟩ := hc F (46 :: (s ++ r)) (by omega) (ends_lit (by decide)) (fun h => absurd h h12)
  obtain ⟨f, rfl, hf⟩ := succ_of (c := 0) (F := g) (by omega)
  exact ⟨f, by omega, by rw [e, eg, post_dot f k _ hs hr]⟩
theorem e_14 {k : Nat} {i : Int} {a b : Tr} (ha : EOK k a) (h12 : a.op ≠ 12) (hb : XOK k b) : EOK k (.mk 14 [] 0 i [a, b]) := by
  obtain ⟨c, hc⟩ := ha
  obtain ⟨d, hd⟩ := hb
  refine ⟨c + d + 1, fun F r hF hr hn => ?_⟩
  rw [txt_mk k (o := 14) (by decide), norm2]
  have e : form (Int.toNat 14) [] 0 (op0 [a, b]) ([a, b].map (Tr.txt k)) ++ r = a.txt k ++ (91 :: (b.txt k ++ ([93] ++ r))) := by
    show (a.txt k ++ ([91] ++ (b.txt k ++ [93]))) ++ r = _
    simp
  obtain ⟨g, hg, eg⟩ := hc F (91 :: (b.txt k ++ ([93] ++ r))) (by omega) (ends_lit (by decide)) (fun h => absurd h h12)
  obtain ⟨f, rfl, hf⟩ := succ_of (c := d) (F := g) (by omega)
  exact ⟨f, by omega, by rw [e, eg, post_idx, hd f _ hf (by exact ends_lit (by decide)) (by exact noTail_lit (by decide)), Option.bind_some, pre_app, Option.bind_some]⟩
theorem e_15 {k : Nat} {i : Int} {a : Tr} {l : List Tr} (ha : EOK k a) (h12 : a.op ≠ 12) (hb : AOK k l 41) : EOK k (.mk 15 [] 0 i (a :: l)) := by
  obtain ⟨c, hc⟩ := ha
  obtain ⟨d, hd⟩ := hb
  refine ⟨c + d + 1, fun F r hF hr hn => ?_⟩
  rw [txt_mk k (o := 15) (by decide), norm_mk, norms_cons]
  have e : form (Int.toNat 15) [] 0 (op0 (a :: l)) ((a :: l).map (Tr.txt k)) ++ r = a.txt k ++ (40 :: (commas (l.map (Tr.txt k)) ++ 41 :: r)) := by
    show (a.txt k ++ ([40] ++ (commas (l.map (Tr.txt k)) ++ [41]))) ++ r = _
    simp
  obtain ⟨g, hg, eg⟩ := hc F (40 :: (commas (l.map (Tr.txt k)) ++ 41 :: r)) (by omega) (ends_lit (by decide)) (fun h => absurd h h12)
  obtain ⟨f, rfl, hf⟩ := succ_of (c := d) (F := g) (by omega)
  exact ⟨f, by omega, by rw [e, eg, post_call, hd f _ hf, Option.bind_some]⟩
theorem e_16i {k : Nat} {i j : Int} {s : Bs} {l : List Tr} (hs : isNameL s = true) (hb : AOK k l 41) : EOK k (.mk 16 [] 0 i (.mk 1 s 0 j [] :: l)) := by
  obtain ⟨d, hd⟩ := hb
  refine ⟨d + 2, fun F r hF hr hn => ?_⟩
  obtain ⟨m, rfl, hm⟩ := succ_of (c := d + 1) hF
  obtain ⟨f, rfl, hf⟩ := succ_of hm
  refine ⟨f, by omega, ?_⟩
  rw [txt_mk k (o := 16) (by decide), norm_mk, norms_cons, norm0]
  have e : form (Int.toNat 16) [] 0 (op0 (.mk 1 s 0 j [] :: l)) ((.mk 1 s 0 j [] :: l).map (Tr.txt k)) ++ r = 40 :: (newW ++ 32 :: (s ++ 40 :: (commas (l.map (Tr.txt k)) ++ 41 :: ([41] ++ r)))) := by
    have e1 : (Tr.mk 1 s 0 j []).txt k = s := by rw [txt_mk k (o := 1) (by decide)]; rfl
    show ((if (1 : Int) = 1 then [40, 110, 101, 119, 32] ++ (Tr.mk 1 s 0 j []).txt k else [40, 110, 101, 119, 32, 40] ++ ((Tr.mk 1 s 0 j []).txt k ++ [41])) ++ ([40] ++ (commas (l.map (Tr.txt k)) ++ [41, 41]))) ++ r = _
    rw [if_pos (by rfl), e1]
    simp [newW]
  rw [e, rdE_paren, rdP_new0 f k (name_of hs).1 (name_of hs).2.1, hd f _ hf, Option.bind_some, pre_app, Option.bind_some]
theorem e_16 {k : Nat} {i : Int} {a : Tr} {l : List Tr} (ha : XOK k a) (h1 : a.op ≠ 1) (hb : AOK k l 41) : EOK k (.mk 16 [] 0 i (a :: l)) := by
  obtain ⟨c, hc⟩ := ha
  obtain ⟨d, hd⟩ := hb
  refine ⟨c + d + 2, fun F r hF hr hn => ?_⟩
  obtain ⟨m, rfl, hm⟩ := succ_of (c := c + d + 1) hF
  obtain ⟨f, rfl, hf⟩ := succ_of hm
  refine ⟨f, by omega, ?_⟩
  rw [txt_mk k (o := 16) (by decide), norm_mk, norms_cons]
  have e : form (Int.toNat 16) [] 0 (op0 (a :: l)) ((a :: l).map (Tr.txt k)) ++ r = 40 :: (newW ++ 32 :: 40 :: (a.txt k ++ ([41, 40] ++ (commas (l.map (Tr.txt k)) ++ 41 :: ([41] ++ r))))) := by
    show ((if a.op = 1 then [40, 110, 101, 119, 32] ++ a.txt k else [40, 110, 101, 119, 32, 40] ++ (a.txt k ++ [41])) ++ ([40] ++ (commas (l.map (Tr.txt k)) ++ [41, 41]))) ++ r = _
    rw [if_neg h1]
    simp [newW]
  rw [e, rdE_paren, rdP_new1 f k, hc f _ (by omega) (by exact ends_lit (by decide)) (by exact noTail_lit (by decide)), Option.bind_some, pre_app, Option.bind_some, hd f _ (by omega), Option.bind_some, pre_app, Option.bind_some]
theorem sp_take : ∀ (s r : Bs), (∀ c ∈ s, noSp c = true) → (s ++ 32 :: r).takeWhile noSp = s ∧ (s ++ 32 :: r).dropWhile noSp = 32 :: r
  | [], r, _ => by simp [noSp]
  | a :: s, r, h => by
    have h1 := h a List.mem_cons_self
    have h2 := sp_take s r fun c hc => h c (List.mem_cons_of_mem _ hc)
    simp [h1, h2.1, h2.2]
theorem no_dot (q : Bs) : preR [41, 46] (32 :: q) = none := pre_none (by simp [List.isPrefixOf])
/-- Two operands with a sign between them. -/
theorem e_bin {k : Nat} {t a b : Tr} (s : Bs) (hs : ∀ c ∈ s, noSp c = true) (h63 : s ≠ [63]) (ht : t.txt k = [40] ++ (a.txt k ++ (([32] ++ (s ++ [32])) ++ (b.txt k ++ [41])))) (hn : t.norm = signT s a.norm b.norm)
    (ha : XOK k a) (hf : Front (a.txt k)) (hb : XOK k b) : EOK k t := by
  obtain ⟨c, hc⟩ := ha
  obtain ⟨d, hd⟩ := hb
  refine ⟨c + d + 2, fun F r hF hr _ => ?_⟩
  obtain ⟨m, rfl, hm⟩ := succ_of (c := c + d + 1) hF
  obtain ⟨f, rfl, hf'⟩ := succ_of hm
  refine ⟨f, by omega, ?_⟩
  have e : t.txt k ++ r = 40 :: (a.txt k ++ (32 :: (s ++ 32 :: (b.txt k ++ ([41] ++ r))))) := by
    rw [ht]
    simp
  have hE : Ends (32 :: (s ++ 32 :: (b.txt k ++ ([41] ++ r)))) := ends_lit (by decide)
  obtain ⟨h1, h2⟩ := sp_take s (b.txt k ++ ([41] ++ r)) hs
  rw [e, rdE_paren, rdP_e f k (hf.app hE), hc f _ (by omega) hE (noTail_lit (by decide)), Option.bind_some]
  simp only [no_dot, List.drop_succ_cons, List.drop_zero, h1, h2]
  rw [hd f _ (by omega) (by exact ends_lit (by decide)) (by exact noTail_lit (by decide)), Option.bind_some, if_neg h63, pre_app, Option.bind_some, hn]
theorem e_23 {k : Nat} {i : Int} {a b x : Tr} (ha : XOK k a) (hf : Front (a.txt k)) (hb : XOK k b) (hx : XOK k x) : EOK k (.mk 23 [] 0 i [a, b, x]) := by
  obtain ⟨c, hc⟩ := ha
  obtain ⟨d, hd⟩ := hb
  obtain ⟨g, hg⟩ := hx
  refine ⟨c + d + g + 2, fun F r hF hr _ => ?_⟩
  obtain ⟨m, rfl, hm⟩ := succ_of (c := c + d + g + 1) hF
  obtain ⟨f, rfl, hf'⟩ := succ_of hm
  refine ⟨f, by omega, ?_⟩
  rw [txt_mk k (o := 23) (by decide), norm3]
  have e : form (Int.toNat 23) [] 0 (op0 [a, b, x]) ([a, b, x].map (Tr.txt k)) ++ r = 40 :: (a.txt k ++ (32 :: ([63] ++ 32 :: (b.txt k ++ ([32, 58, 32] ++ (x.txt k ++ ([41] ++ r))))))) := by
    show ([40] ++ (a.txt k ++ ([32, 63, 32] ++ (b.txt k ++ ([32, 58, 32] ++ (x.txt k ++ [41])))))) ++ r = _
    simp
  have hE : Ends (32 :: ([63] ++ 32 :: (b.txt k ++ ([32, 58, 32] ++ (x.txt k ++ ([41] ++ r)))))) := ends_lit (by decide)
  obtain ⟨h1, h2⟩ := sp_take [63] (b.txt k ++ ([32, 58, 32] ++ (x.txt k ++ ([41] ++ r)))) (by decide)
  rw [e, rdE_paren, rdP_e f k (hf.app hE), hc f _ (by omega) hE (noTail_lit (by decide)), Option.bind_some]
  simp only [no_dot, List.drop_succ_cons, List.drop_zero, h1, h2]
  rw [hd f _ (by omega) (by exact ends_lit (by decide)) (by exact noTail_lit (by decide)), Option.bind_some, if_pos (by trivial), pre_app, Option.bind_some, hg f _ (by omega) (by exact ends_lit (by decide)) (by exact noTail_lit (by decide)), Option.bind_some, pre_app, Option.bind_some]
theorem e_19 {k : Nat} {i : Int} {a : Tr} (ha : XOK k a) : EOK k (.mk 19 [] 0 i [a]) := by
  obtain ⟨c, hc⟩ := ha
  refine ⟨c + 2, fun F r hF hr _ => ?_⟩
  obtain ⟨m, rfl, hm⟩ := succ_of (c := c + 1) hF
  obtain ⟨f, rfl, hf'⟩ := succ_of hm
  refine ⟨f, by omega, ?_⟩
  rw [txt_mk k (o := 19) (by decide), norm1]
  have e : form (Int.toNat 19) [] 0 (op0 [a]) ([a].map (Tr.txt k)) ++ r = 40 :: 33 :: (a.txt k ++ ([41] ++ r)) := by
    show ([40, 33] ++ (a.txt k ++ [41])) ++ r = _
    simp
  rw [e, rdE_paren, rdP_not, hc f _ hf' (by exact ends_lit (by decide)) (by exact noTail_lit (by decide)), Option.bind_some, pre_app, Option.bind_some]
theorem e_20 {k : Nat} {i : Int} {a : Tr} (ha : XOK k a) : EOK k (.mk 20 [] 0 i [a]) := by
  obtain ⟨c, hc⟩ := ha
  refine ⟨c + 2, fun F r hF hr _ => ?_⟩
  obtain ⟨m, rfl, hm⟩ := succ_of (c := c + 1) hF
  obtain ⟨f, rfl, hf'⟩ := succ_of hm
  refine ⟨f, by omega, ?_⟩
  rw [txt_mk k (o := 20) (by decide), norm1]
  have e : form (Int.toNat 20) [] 0 (op0 [a]) ([a].map (Tr.txt k)) ++ r = 40 :: 45 :: (a.txt k ++ ([41] ++ r)) := by
    show ([40, 45] ++ (a.txt k ++ [41])) ++ r = _
    simp
  rw [e, rdE_paren, rdP_neg, hc f _ hf' (by exact ends_lit (by decide)) (by exact noTail_lit (by decide)), Option.bind_some, pre_app, Option.bind_some]
end Go.Proofs.YtiejpenffpjmeaaDoor
