/- Unlike trees have unlike texts. No program. -/
import Derived.Test.YtiejpenffpjmeaaDoorRead4
namespace Go.Proofs.YtiejpenffpjmeaaDoor
set_option linter.unusedSimpArgs false
set_option linter.unusedVariables false

theorem ops_of {t : Tr} (h : soundOne t = true) : (1 ≤ t.op ∧ t.op ≤ 23) ∨ (30 ≤ t.op ∧ t.op ≤ 41) := by
  unfold soundOne at h
  cases hs : shapeOf t.op with
  | none => rw [hs] at h; exact absurd h (by simp)
  | some s =>
    unfold shapeOf shapeIn at hs
    rw [Option.map_eq_some_iff] at hs
    obtain ⟨p, hp, -⟩ := hs
    have h1 := List.mem_of_find?_eq_some hp
    have h2 := List.find?_some hp
    have h2 : p.1 = t.op := by simpa using h2
    have : ∀ p ∈ shapesL.reverse, (1 ≤ p.1 ∧ p.1 ≤ 23) ∨ (30 ≤ p.1 ∧ p.1 ≤ 41) := by decide
    have := this p h1
    rw [h2] at this
    exact this

theorem signs_ok : ∀ s ∈ signsB, s ≠ [63] ∧ s ≠ [61] ∧ s ≠ [38, 38] ∧ s ≠ [124, 124] ∧ ∀ c ∈ s, noSp c = true := by decide

/-- Whatever its text stands ahead of, it is read back. -/
theorem read_all (t : Tr) : sane t → ∀ k, (1 ≤ t.op → t.op ≤ 23 → EOK k t) ∧ (30 ≤ t.op → t.op ≤ 41 → SOK k t) ∧ (t.op = 32 → BOK k t) := by
  induction t using tree_ind with
  | h t ih =>
    intro hs k
    have hg := hs.self
    have iE : ∀ a, a ∈ t.l → isE a → EOK k a ∧ a.op ≠ 12 := fun a ha he => ⟨(ih a (size_part ha) (hs.part ha) k).1 ((isE_iff a).1 he).1 ((isE_iff a).1 he).2.1, ((isE_iff a).1 he).2.2⟩
    have iX : ∀ a, a ∈ t.l → 1 ≤ a.op → a.op ≤ 23 → XOK k a ∧ Front (a.txt k) := fun a ha h1 h2 => ⟨((ih a (size_part ha) (hs.part ha) k).1 h1 h2).x, front_txt k a (hs.part ha) h1 h2⟩
    have iXE : ∀ a, a ∈ t.l → isE a → XOK k a ∧ Front (a.txt k) := fun a ha he => iX a ha ((isE_iff a).1 he).1 ((isE_iff a).1 he).2.1
    have iB : ∀ a, a ∈ t.l → a.op = 32 → BOK k a := fun a ha h => (ih a (size_part ha) (hs.part ha) k).2.2 h
    have iS : ∀ a, a ∈ t.l → isS a → ∀ k, SOK k a := fun a ha he k => (ih a (size_part ha) (hs.part ha) k).2.1 ((isS_iff a).1 he).1 ((isS_iff a).1 he).2
    have hself : ∀ a ∈ t.l, sane a := fun a ha => hs.part ha
    clear ih hs
    obtain ⟨o, s, n, i, l⟩ := t
    have hops := ops_of hg
    simp only [Tr.op_mk, Tr.l_mk] at hops iE iX iXE iB iS hself ⊢
    have : (o = 1 ∨ o = 2 ∨ o = 3 ∨ o = 4 ∨ o = 5 ∨ o = 6 ∨ o = 7 ∨ o = 8 ∨ o = 9 ∨ o = 10 ∨ o = 11 ∨ o = 12 ∨ o = 13 ∨ o = 14 ∨ o = 15 ∨ o = 16 ∨ o = 17 ∨ o = 18 ∨ o = 19 ∨ o = 20 ∨ o = 21 ∨ o = 22 ∨ o = 23) ∨
        (o = 30 ∨ o = 31 ∨ o = 32 ∨ o = 33 ∨ o = 34 ∨ o = 35 ∨ o = 36 ∨ o = 37 ∨ o = 38 ∨ o = 39 ∨ o = 40 ∨ o = 41) := by omega
    rcases this with this | this
    · refine ⟨fun _ _ => ?_, fun h _ => absurd h (by omega), fun h => absurd h (by omega)⟩
      rcases this with rfl | rfl | rfl | rfl | rfl | rfl | rfl | rfl | rfl | rfl | rfl | rfl | rfl | rfl | rfl | rfl | rfl | rfl | rfl | rfl | rfl | rfl | rfl
      · obtain ⟨h1, h2, h3⟩ := (inv_1 rfl).1 hg
        simp only [Tr.s_mk, Tr.n_mk, Tr.l_mk] at h1 h2 h3
        subst h2 h3
        exact e_1 h1
      · obtain ⟨h1, h2, h3, h4⟩ := (inv_2 rfl).1 hg
        simp only [Tr.s_mk, Tr.n_mk, Tr.l_mk] at h1 h2 h3 h4
        subst h1 h4
        exact e_2 h2
      · obtain ⟨h2, h3⟩ := (inv_3 rfl).1 hg
        simp only [Tr.s_mk, Tr.n_mk, Tr.l_mk] at h2 h3
        subst h2 h3
        exact e_3
      · obtain ⟨h1, h2, h3⟩ := (inv_4 rfl).1 hg
        simp only [Tr.s_mk, Tr.n_mk, Tr.l_mk] at h1 h2 h3
        subst h1 h2 h3
        exact e_word [116, 114, 117, 101] (by rw [txt_mk k (o := 4) (by decide)]; rfl) (by decide) (by decide) (by rw [norm0]; rfl)
      · obtain ⟨h1, h2, h3⟩ := (inv_5 rfl).1 hg
        simp only [Tr.s_mk, Tr.n_mk, Tr.l_mk] at h1 h2 h3
        subst h1 h2 h3
        exact e_word [102, 97, 108, 115, 101] (by rw [txt_mk k (o := 5) (by decide)]; rfl) (by decide) (by decide) (by rw [norm0]; rfl)
      · obtain ⟨h1, h2, h3⟩ := (inv_6 rfl).1 hg
        simp only [Tr.s_mk, Tr.n_mk, Tr.l_mk] at h1 h2 h3
        subst h1 h2 h3
        exact e_word [110, 117, 108, 108] (by rw [txt_mk k (o := 6) (by decide)]; rfl) (by decide) (by decide) (by rw [norm0]; rfl)
      · obtain ⟨h1, h2, h3⟩ := (inv_7 rfl).1 hg
        simp only [Tr.s_mk, Tr.n_mk, Tr.l_mk] at h1 h2 h3
        subst h1 h2 h3
        exact e_word [117, 110, 100, 101, 102, 105, 110, 101, 100] (by rw [txt_mk k (o := 7) (by decide)]; rfl) (by decide) (by decide) (by rw [norm0]; rfl)
      · obtain ⟨h1, h2, h3⟩ := (inv_8 rfl).1 hg
        simp only [Tr.s_mk, Tr.n_mk, Tr.l_mk] at h1 h2 h3
        subst h1 h2 h3
        exact e_word [116, 104, 105, 115] (by rw [txt_mk k (o := 8) (by decide)]; rfl) (by decide) (by decide) (by rw [norm0]; rfl)
      · obtain ⟨h1, h2, h3⟩ := (inv_9 rfl).1 hg
        simp only [Tr.s_mk, Tr.n_mk, Tr.l_mk] at h1 h2 h3
        subst h1 h2 h3
        exact e_word [105, 110, 112, 117, 116] (by rw [txt_mk k (o := 9) (by decide)]; rfl) (by decide) (by decide) (by rw [norm0]; rfl)
      · obtain ⟨h1, h2, -, xs, b, h3, h4, h5⟩ := (inv_10 rfl).1 hg
        simp only [Tr.s_mk, Tr.n_mk, Tr.l_mk] at h1 h2 h3 h4
        subst h2 h3
        exact e_10 h1 (fok k xs b (fun x hx => iX x (by simp [hx]) (by rw [h4 x hx]; decide) (by rw [h4 x hx]; decide)) (iB b (by simp) h5))
      · obtain ⟨h1, h2, -, h3⟩ := (inv_11 rfl).1 hg
        simp only [Tr.s_mk, Tr.n_mk, Tr.l_mk] at h1 h2 h3
        subst h1 h2
        exact e_11 (aok k 125 (.inr rfl) l fun x hx => iX x hx (by rw [h3 x hx]; decide) (by rw [h3 x hx]; decide))
      · obtain ⟨h2, a, h3, h4⟩ := (inv_12 rfl).1 hg
        simp only [Tr.s_mk, Tr.n_mk, Tr.l_mk] at h2 h3
        subst h2 h3
        exact e_12 (iXE a (by simp) h4).1
      · obtain ⟨h1, h2, a, h3, h4⟩ := (inv_13 rfl).1 hg
        simp only [Tr.s_mk, Tr.n_mk, Tr.l_mk] at h1 h2 h3
        subst h2 h3
        by_cases h : a.op = 2
        · exact e_13n (mem_of h1) (iXE a (by simp) h4).1 (iXE a (by simp) h4).2 h
        · exact e_13 (mem_of h1) (iE a (by simp) h4).1 h (iE a (by simp) h4).2
      · obtain ⟨h1, h2, a, b, h3, h4, h5⟩ := (inv_14 rfl).1 hg
        simp only [Tr.s_mk, Tr.n_mk, Tr.l_mk] at h1 h2 h3
        subst h1 h2 h3
        exact e_14 (iE a (by simp) h4).1 (iE a (by simp) h4).2 (iXE b (by simp) h5).1
      · obtain ⟨h1, h2, -, a, r, h3, h4⟩ := (inv_15 rfl).1 hg
        simp only [Tr.s_mk, Tr.n_mk, Tr.l_mk] at h1 h2 h3
        subst h1 h2 h3
        exact e_15 (iE a (by simp) (h4 a (by simp))).1 (iE a (by simp) (h4 a (by simp))).2 (aok k 41 (.inl rfl) r fun x hx => iXE x (by simp [hx]) (h4 x (by simp [hx])))
      · obtain ⟨h1, h2, -, a, r, h3, h4⟩ := (inv_16 rfl).1 hg
        simp only [Tr.s_mk, Tr.n_mk, Tr.l_mk] at h1 h2 h3
        subst h1 h2 h3
        have hr := aok k 41 (.inl rfl) r fun x hx => iXE x (by simp [hx]) (h4 x (by simp [hx]))
        by_cases h : a.op = 1
        · have hs := (hself a (by simp)).self
          obtain ⟨h6, h7, h8⟩ := (inv_1 h).1 hs
          obtain ⟨o', s', n', j, l'⟩ := a
          simp only [Tr.op_mk, Tr.s_mk, Tr.n_mk, Tr.l_mk] at h h6 h7 h8
          subst h h7 h8
          exact e_16i h6 hr
        · exact e_16 (iXE a (by simp) (h4 a (by simp))).1 h hr
      · obtain ⟨h1, h2, a, b, h3, h4, h5⟩ := (inv_17 rfl).1 hg
        simp only [Tr.s_mk, Tr.n_mk, Tr.l_mk] at h1 h2 h3
        subst h1 h2 h3
        have ha : 1 ≤ a.op ∧ a.op ≤ 23 := by
          unfold hasB at h4
          simp at h4
          omega
        exact e_bin [61] (by decide) (by decide) (by rw [txt_mk k (o := 17) (by decide)]; rfl) (by rw [norm2]; rfl) (iX a (by simp) ha.1 ha.2).1 (iX a (by simp) ha.1 ha.2).2 (iXE b (by simp) h5).1
      · obtain ⟨h1, h2, a, b, h3, h4, h5⟩ := (inv_18 rfl).1 hg
        simp only [Tr.s_mk, Tr.n_mk, Tr.l_mk] at h1 h2 h3
        subst h2 h3
        obtain ⟨k1, k2, k3, k4, k5⟩ := signs_ok s (by simpa using h1)
        exact e_bin s k5 k1 (by rw [txt_mk k (o := 18) (by decide)]; rfl) (by rw [norm2]; unfold signT; rw [if_neg k2, if_neg k3, if_neg k4]) (iXE a (by simp) h4).1 (iXE a (by simp) h4).2 (iXE b (by simp) h5).1
      · obtain ⟨h1, h2, a, h3, h4⟩ := (inv_19 rfl).1 hg
        simp only [Tr.s_mk, Tr.n_mk, Tr.l_mk] at h1 h2 h3
        subst h1 h2 h3
        exact e_19 (iXE a (by simp) h4).1
      · obtain ⟨h1, h2, a, h3, h4⟩ := (inv_20 rfl).1 hg
        simp only [Tr.s_mk, Tr.n_mk, Tr.l_mk] at h1 h2 h3
        subst h1 h2 h3
        exact e_20 (iXE a (by simp) h4).1
      · obtain ⟨h1, h2, a, b, h3, h4, h5⟩ := (inv_21 rfl).1 hg
        simp only [Tr.s_mk, Tr.n_mk, Tr.l_mk] at h1 h2 h3
        subst h1 h2 h3
        exact e_bin [38, 38] (by decide) (by decide) (by rw [txt_mk k (o := 21) (by decide)]; rfl) (by rw [norm2]; rfl) (iXE a (by simp) h4).1 (iXE a (by simp) h4).2 (iXE b (by simp) h5).1
      · obtain ⟨h1, h2, a, b, h3, h4, h5⟩ := (inv_22 rfl).1 hg
        simp only [Tr.s_mk, Tr.n_mk, Tr.l_mk] at h1 h2 h3
        subst h1 h2 h3
        exact e_bin [124, 124] (by decide) (by decide) (by rw [txt_mk k (o := 22) (by decide)]; rfl) (by rw [norm2]; rfl) (iXE a (by simp) h4).1 (iXE a (by simp) h4).2 (iXE b (by simp) h5).1
      · obtain ⟨h1, h2, a, b, c, h3, h4, h5, h6⟩ := (inv_23 rfl).1 hg
        simp only [Tr.s_mk, Tr.n_mk, Tr.l_mk] at h1 h2 h3
        subst h1 h2 h3
        exact e_23 (iXE a (by simp) h4).1 (iXE a (by simp) h4).2 (iXE b (by simp) h5).1 (iXE c (by simp) h6).1
    · refine ⟨fun _ h => absurd h (by omega), ?_⟩
      rcases this with rfl | rfl | rfl | rfl | rfl | rfl | rfl | rfl | rfl | rfl | rfl | rfl
      · refine ⟨fun _ _ => ?_, fun h => absurd h (by decide)⟩
        obtain ⟨h1, h2, h3⟩ := (inv_30 rfl).1 hg
        simp only [Tr.s_mk, Tr.n_mk, Tr.l_mk] at h1 h2 h3
        subst h2
        rcases h3 with rfl | ⟨a, rfl, h4⟩
        · exact s_30n h1
        · exact s_30 h1 (iXE a (by simp) h4).1
      · refine ⟨fun _ _ => ?_, fun h => absurd h (by decide)⟩
        obtain ⟨h1, h2, a, h3, h4⟩ := (inv_31 rfl).1 hg
        simp only [Tr.s_mk, Tr.n_mk, Tr.l_mk] at h1 h2 h3
        subst h1 h2 h3
        exact s_31 (iXE a (by simp) h4).1 (iXE a (by simp) h4).2
      · obtain ⟨h1, h2, -, h4⟩ := (inv_32 rfl).1 hg
        simp only [Tr.s_mk, Tr.n_mk, Tr.l_mk] at h1 h2 h4
        subst h1 h2
        have hb : BOK k (.mk 32 [] 0 i l) := bok k i l fun x hx => iS x hx (h4 x hx) (k + 1)
        exact ⟨fun _ _ => bok_s hb rfl, fun _ => hb⟩
      · refine ⟨fun _ _ => ?_, fun h => absurd h (by decide)⟩
        obtain ⟨h1, h2, h3⟩ := (inv_33 rfl).1 hg
        simp only [Tr.s_mk, Tr.n_mk, Tr.l_mk] at h1 h2 h3
        subst h1 h2
        rcases h3 with ⟨a, b, rfl, h4, h5⟩ | ⟨a, b, c, rfl, h4, h5, h6⟩
        · exact s_33a (iXE a (by simp) h4).1 (iB b (by simp) h5)
        · exact s_33b (iXE a (by simp) h4).1 (iB b (by simp) h5) (iB c (by simp) h6)
      · refine ⟨fun _ _ => ?_, fun h => absurd h (by decide)⟩
        obtain ⟨h1, h2, a, b, h3, h4, h5⟩ := (inv_34 rfl).1 hg
        simp only [Tr.s_mk, Tr.n_mk, Tr.l_mk] at h1 h2 h3
        subst h1 h2 h3
        exact s_34 (iXE a (by simp) h4).1 (iB b (by simp) h5)
      · refine ⟨fun _ _ => ?_, fun h => absurd h (by decide)⟩
        obtain ⟨h1, h2, a, b, h3, h4, h5⟩ := (inv_35 rfl).1 hg
        simp only [Tr.s_mk, Tr.n_mk, Tr.l_mk] at h1 h2 h3
        subst h2 h3
        exact s_35 h1 (iXE a (by simp) h4).1 (iB b (by simp) h5)
      · refine ⟨fun _ _ => ?_, fun h => absurd h (by decide)⟩
        obtain ⟨h1, h2, h3⟩ := (inv_36 rfl).1 hg
        simp only [Tr.s_mk, Tr.n_mk, Tr.l_mk] at h1 h2 h3
        subst h1 h2
        rcases h3 with rfl | ⟨a, rfl, h4⟩
        · exact s_36n
        · exact s_36 (iXE a (by simp) h4).1
      · refine ⟨fun _ _ => ?_, fun h => absurd h (by decide)⟩
        obtain ⟨h1, h2, a, h3, h4⟩ := (inv_37 rfl).1 hg
        simp only [Tr.s_mk, Tr.n_mk, Tr.l_mk] at h1 h2 h3
        subst h1 h2 h3
        exact s_37 (iXE a (by simp) h4).1
      · refine ⟨fun _ _ => ?_, fun h => absurd h (by decide)⟩
        obtain ⟨h1, h2, a, b, h3, h4, h5⟩ := (inv_38 rfl).1 hg
        simp only [Tr.s_mk, Tr.n_mk, Tr.l_mk] at h1 h2 h3
        subst h2 h3
        exact s_38 h1 (iB a (by simp) h4) (iB b (by simp) h5)
      · refine ⟨fun _ _ => ?_, fun h => absurd h (by decide)⟩
        obtain ⟨h1, h2, h3⟩ := (inv_39 rfl).1 hg
        simp only [Tr.s_mk, Tr.n_mk, Tr.l_mk] at h1 h2 h3
        subst h1 h2 h3
        exact s_39
      · refine ⟨fun _ _ => ?_, fun h => absurd h (by decide)⟩
        obtain ⟨h1, h2, h3⟩ := (inv_40 rfl).1 hg
        simp only [Tr.s_mk, Tr.n_mk, Tr.l_mk] at h1 h2 h3
        subst h1 h2 h3
        exact s_40
      · refine ⟨fun _ _ => ?_, fun h => absurd h (by decide)⟩
        obtain ⟨h1, h2, -, xs, b, h3, h4, h5⟩ := (inv_41 rfl).1 hg
        simp only [Tr.s_mk, Tr.n_mk, Tr.l_mk] at h1 h2 h3 h4
        subst h2 h3
        exact s_41 h1 (fok k xs b (fun x hx => iX x (by simp [hx]) (by rw [h4 x hx]; decide) (by rw [h4 x hx]; decide)) (iB b (by simp) h5))

theorem sane_of {t : Tr} (h : soundT t = true) : sane t := by
  intro y hy
  unfold soundT at h
  rw [List.all_eq_true] at h
  rw [← levels_flat 1 t, List.mem_map] at hy
  obtain ⟨p, hp, rfl⟩ := hy
  have := h p hp
  unfold goodB at this
  rw [Bool.and_eq_true] at this
  exact this.1
theorem op0_norms (l : List Tr) : op0 (norms l) = op0 l := by
  cases l with
  | nil => rw [norms_nil]
  | cons a r => rw [norms_cons]; cases a; rw [norm_mk]; rfl
mutual
theorem txt_norm : ∀ (k : Nat) (t : Tr), t.norm.txt k = t.txt k
  | k, .mk o s n i l => by rw [norm_mk, Tr.txt, Tr.txt, txts_norm k l, txts_norm (k + 1) l, op0_norms]
theorem txts_norm : ∀ (k : Nat) (l : List Tr), txts k (norms l) = txts k l
  | k, [] => by rw [norms_nil]
  | k, t :: r => by rw [norms_cons, txts, txts, txt_norm k t, txts_norm k r]
end
theorem text_of_norm {a b : Tr} (h : a.norm = b.norm) : showE a = showE b := by
  unfold showE
  rw [← txt_norm 0 a, ← txt_norm 0 b, h]
theorem showE_apart {a b : Tr} (ha : rightE a = true) (hb : rightE b = true) : decide (showE a = showE b) = sameT a b := by
  unfold rightE at ha hb
  rw [Bool.and_eq_true] at ha hb
  have key : ∀ t, (hasB 0 t.op = true ∧ soundT t = true) → XOK 0 t := fun t h => ((read_all t (sane_of h.2) 0).1 ((isE_iff t).1 h.1).1 ((isE_iff t).1 h.1).2.1).x
  obtain ⟨c, hc⟩ := key a ha
  obtain ⟨d, hd⟩ := key b hb
  have hE : Ends [] := fun c q h => by cases h
  have hN : NoTail [] := ⟨by simp, by simp, by simp⟩
  have h1 := hc (c + d) [] (by omega) hE hN
  have h2 := hd (c + d) [] (by omega) hE hN
  rw [List.append_nil] at h1 h2
  have hz : showE a = showE b ↔ sameT a b = true := by
    rw [same_norm]
    constructor
    · intro h
      unfold showE at h
      rw [h, h2] at h1
      exact (Prod.mk.inj (Option.some.inj h1)).1.symm
    · intro h
      exact text_of_norm h
  cases hs : sameT a b with
  | true => rw [decide_eq_true_iff]; exact hz.2 hs
  | false => rw [decide_eq_false_iff_not]; intro h; rw [hz.1 h] at hs; exact absurd hs (by simp)
theorem showP_apart {a b : Tr} (ha : rightP a = true) (hb : rightP b = true) : decide (showP a = showP b) = sameT a b := by
  unfold rightP at ha hb
  rw [Bool.and_eq_true] at ha hb
  have key : ∀ t, (hasB 2 t.op = true ∧ soundT t = true) → LOK 0 t.l ∧ t.op = 32 ∧ t.s = [] ∧ t.n = 0 := by
    intro t h
    have h32 : t.op = 32 := by simpa [hasB] using h.1
    have hs := sane_of h.2
    obtain ⟨h1, h2, -, h4⟩ := (inv_32 h32).1 hs.self
    exact ⟨lok 0 t.l fun x hx => (read_all x (hs.part hx) 0).2.1 ((isS_iff x).1 (h4 x hx)).1 ((isS_iff x).1 (h4 x hx)).2, h32, h1, h2⟩
  obtain ⟨⟨c, hc⟩, a1, a2, a3⟩ := key a ha
  obtain ⟨⟨d, hd⟩, b1, b2, b3⟩ := key b hb
  have h1 := hc (c + d) [] (by omega) (.inl rfl)
  have h2 := hd (c + d) [] (by omega) (.inl rfl)
  rw [List.append_nil] at h1 h2
  obtain ⟨o, s, n, i, l⟩ := a
  obtain ⟨o', s', n', i', l'⟩ := b
  simp only [Tr.op_mk, Tr.s_mk, Tr.n_mk, Tr.l_mk] at a1 a2 a3 b1 b2 b3 h1 h2
  subst a1 a2 a3 b1 b2 b3
  have hz : showP (.mk 32 [] 0 i l) = showP (.mk 32 [] 0 i' l') ↔ sameT (.mk 32 [] 0 i l) (.mk 32 [] 0 i' l') = true := by
    rw [same_norm, norm_mk, norm_mk]
    unfold showP
    simp only [Tr.l_mk]
    constructor
    · intro h
      rw [h, h2] at h1
      rw [(Prod.mk.inj (Option.some.inj h1)).1]
    · intro h
      have h := (Tr.mk.inj h).2.2.2.2
      rw [← txts_map, ← txts_map, ← txts_norm 0 l, ← txts_norm 0 l', h]
  cases hs : sameT (.mk 32 [] 0 i l) (.mk 32 [] 0 i' l') with
  | true => rw [decide_eq_true_iff]; exact hz.2 hs
  | false => rw [decide_eq_false_iff_not]; intro h; rw [hz.1 h] at hs; exact absurd hs (by simp)
end Go.Proofs.YtiejpenffpjmeaaDoor
