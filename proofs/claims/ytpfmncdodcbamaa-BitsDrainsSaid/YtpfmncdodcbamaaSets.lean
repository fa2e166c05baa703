/- Sets as lists that rise: plain facts. -/
import Derived.Test.YtpfmncdodcbamaaTests
namespace Go.Proofs.Ytpfmncdodcbamaa
open Go.RowKit Go.Proofs

theorem setFrom_iff : ∀ (m : Int) (zs : List Int), setFrom m zs = true ↔ zs.Pairwise (· < ·) ∧ ∀ z ∈ zs, m ≤ z ∧ z ≤ 1073741824
  | m, [] => by simp [setFrom]
  | m, z :: r => by
    rw [setFrom, Bool.and_eq_true, decide_eq_true_eq, setFrom_iff (z + 1) r, List.pairwise_cons]
    constructor
    · rintro ⟨⟨h1, h2⟩, h3, h4⟩
      refine ⟨⟨fun y hy => by have := h4 y hy; omega, h3⟩, fun y hy => ?_⟩
      rcases List.mem_cons.1 hy with rfl | hy
      · exact ⟨h1, h2⟩
      · have := h4 y hy; omega
    · rintro ⟨⟨h1, h2⟩, h3⟩
      exact ⟨h3 z List.mem_cons_self, h2, fun y hy => by have := h1 y hy; have := h3 y (List.mem_cons_of_mem _ hy); omega⟩
theorem isSet_iff (zs : List Int) : isSet zs = true ↔ zs.Pairwise (· < ·) ∧ ∀ z ∈ zs, 0 ≤ z ∧ z ≤ 1073741824 := setFrom_iff 0 zs
theorem isSet_nil : isSet [] = true := rfl
theorem setFrom_len : ∀ (m : Int) (zs : List Int), setFrom m zs = true → (zs.length : Int) ≤ 1073741825 - m ∨ zs = []
  | m, [], _ => .inr rfl
  | m, z :: r, h => by
    rw [setFrom, Bool.and_eq_true, decide_eq_true_eq] at h
    left
    rcases setFrom_len (z + 1) r h.2 with h1 | rfl
    · simp only [List.length_cons]; omega
    · simp; omega
theorem isSet_len {zs : List Int} (h : isSet zs = true) : zs.length ≤ 1073741825 := by
  rcases setFrom_len 0 zs h with h1 | rfl
  · omega
  · simp
theorem isSet_sub {l m : List Int} (h : isSet m = true) (hs : List.Sublist l m) : isSet l = true := by
  rw [isSet_iff] at h ⊢
  exact ⟨h.1.sublist hs, fun z hz => h.2 z (hs.subset hz)⟩
/-- Two sets with the same numbers are one list. -/
theorem isSet_ext : ∀ (l m : List Int), l.Pairwise (· < ·) → m.Pairwise (· < ·) → (∀ x, x ∈ l ↔ x ∈ m) → l = m
  | [], [], _, _, _ => rfl
  | [], b :: r, _, _, h => absurd ((h b).2 List.mem_cons_self) (by simp)
  | a :: r, [], _, _, h => absurd ((h a).1 List.mem_cons_self) (by simp)
  | a :: r, b :: s, h1, h2, h => by
    rw [List.pairwise_cons] at h1 h2
    have e : a = b := by
      rcases List.mem_cons.1 ((h a).1 List.mem_cons_self) with e | ha
      · exact e
      · rcases List.mem_cons.1 ((h b).2 List.mem_cons_self) with e | hb
        · exact e.symm
        · have := h1.1 b hb; have := h2.1 a ha; omega
    subst e
    rw [isSet_ext r s h1.2 h2.2 (fun x => by
      constructor
      · intro hx
        rcases List.mem_cons.1 ((h x).1 (List.mem_cons_of_mem _ hx)) with rfl | hy
        · exact absurd (h1.1 _ hx) (by omega)
        · exact hy
      · intro hx
        rcases List.mem_cons.1 ((h x).2 (List.mem_cons_of_mem _ hx)) with rfl | hy
        · exact absurd (h2.1 _ hx) (by omega)
        · exact hy)]
theorem set_ext {l m : List Int} (hl : isSet l = true) (hm : isSet m = true) (h : ∀ x, x ∈ l ↔ x ∈ m) : l = m :=
  isSet_ext l m ((isSet_iff l).1 hl).1 ((isSet_iff m).1 hm).1 h

/-- What two rising lists have, in turn: each number once, in order, and where it is. -/
theorem mrg_spec : ∀ (l m : List Int), l.Pairwise (· < ·) → m.Pairwise (· < ·) →
    ((mrg l m).map (·.1)).Pairwise (· < ·) ∧ (∀ f ∈ mrg l m, (f.1 ∈ l ∨ f.1 ∈ m) ∧ f.2.1 = decide (f.1 ∈ l) ∧ f.2.2 = decide (f.1 ∈ m)) ∧ (∀ x, x ∈ l ∨ x ∈ m → ∃ f ∈ mrg l m, f.1 = x) ∧ (mrg l m).length ≤ l.length + m.length
  | [], [], _, _ => by rw [mrg]; simp
  | a :: r, [], h1, h2 => by
    rw [List.pairwise_cons] at h1
    obtain ⟨g1, g2, g3, g4⟩ := mrg_spec r [] h1.2 h2
    rw [mrg]
    refine ⟨?_, ?_, ?_, by simp at g4 ⊢; omega⟩
    · rw [List.map_cons, List.pairwise_cons]
      refine ⟨fun y hy => ?_, g1⟩
      obtain ⟨f, hf, rfl⟩ := List.mem_map.1 hy
      rcases (g2 f hf).1 with h | h
      · exact h1.1 _ h
      · cases h
    · intro f hf
      rcases List.mem_cons.1 hf with rfl | hf
      · simp
      · obtain ⟨k1, k2, k3⟩ := g2 f hf
        rcases k1 with h | h
        · have := h1.1 _ h
          refine ⟨.inl (List.mem_cons_of_mem _ h), ?_, by simpa using k3⟩
          rw [k2]; simp [h]
        · cases h
    · rintro x (hx | hx)
      · rcases List.mem_cons.1 hx with rfl | hx
        · exact ⟨_, List.mem_cons_self, rfl⟩
        · obtain ⟨f, hf, e⟩ := g3 x (.inl hx)
          exact ⟨f, List.mem_cons_of_mem _ hf, e⟩
      · cases hx
  | [], b :: s, h1, h2 => by
    rw [List.pairwise_cons] at h2
    obtain ⟨g1, g2, g3, g4⟩ := mrg_spec [] s h1 h2.2
    rw [mrg]
    refine ⟨?_, ?_, ?_, by simp at g4 ⊢; omega⟩
    · rw [List.map_cons, List.pairwise_cons]
      refine ⟨fun y hy => ?_, g1⟩
      obtain ⟨f, hf, rfl⟩ := List.mem_map.1 hy
      rcases (g2 f hf).1 with h | h
      · cases h
      · exact h2.1 _ h
    · intro f hf
      rcases List.mem_cons.1 hf with rfl | hf
      · simp
      · obtain ⟨k1, k2, k3⟩ := g2 f hf
        rcases k1 with h | h
        · cases h
        · refine ⟨.inr (List.mem_cons_of_mem _ h), by simpa using k2, ?_⟩
          rw [k3]; simp [h]
    · rintro x (hx | hx)
      · cases hx
      · rcases List.mem_cons.1 hx with rfl | hx
        · exact ⟨_, List.mem_cons_self, rfl⟩
        · obtain ⟨f, hf, e⟩ := g3 x (.inr hx)
          exact ⟨f, List.mem_cons_of_mem _ hf, e⟩
  | a :: r, b :: s, h1, h2 => by
    have h1' := List.pairwise_cons.1 h1
    have h2' := List.pairwise_cons.1 h2
    rw [mrg]
    by_cases c1 : a < b
    · rw [if_pos c1]
      obtain ⟨g1, g2, g3, g4⟩ := mrg_spec r (b :: s) h1'.2 h2
      have hall : ∀ y ∈ b :: s, a < y := fun y hy => by
        rcases List.mem_cons.1 hy with rfl | hy
        · exact c1
        · have := h2'.1 y hy; omega
      refine ⟨?_, ?_, ?_, by simp at g4 ⊢; omega⟩
      · rw [List.map_cons, List.pairwise_cons]
        refine ⟨fun y hy => ?_, g1⟩
        obtain ⟨f, hf, rfl⟩ := List.mem_map.1 hy
        rcases (g2 f hf).1 with h | h
        · exact h1'.1 _ h
        · exact hall _ h
      · intro f hf
        rcases List.mem_cons.1 hf with rfl | hf
        · refine ⟨.inl List.mem_cons_self, by simp, ?_⟩
          symm
          rw [decide_eq_false_iff_not]
          intro h
          have := hall _ h
          simp at this
        · obtain ⟨k1, k2, k3⟩ := g2 f hf
          have hlt : a < f.1 := by
            rcases k1 with h | h
            · exact h1'.1 _ h
            · exact hall _ h
          have hne : f.1 ≠ a := by omega
          refine ⟨?_, ?_, k3⟩
          · rcases k1 with h | h
            · exact .inl (List.mem_cons_of_mem _ h)
            · exact .inr h
          · rw [k2]; simp [hne]
      · rintro x (hx | hx)
        · rcases List.mem_cons.1 hx with rfl | hx
          · exact ⟨_, List.mem_cons_self, rfl⟩
          · obtain ⟨f, hf, e⟩ := g3 x (.inl hx)
            exact ⟨f, List.mem_cons_of_mem _ hf, e⟩
        · obtain ⟨f, hf, e⟩ := g3 x (.inr hx)
          exact ⟨f, List.mem_cons_of_mem _ hf, e⟩
    · rw [if_neg c1]
      by_cases c2 : b < a
      · rw [if_pos c2]
        obtain ⟨g1, g2, g3, g4⟩ := mrg_spec (a :: r) s h1 h2'.2
        have hall : ∀ y ∈ a :: r, b < y := fun y hy => by
          rcases List.mem_cons.1 hy with rfl | hy
          · exact c2
          · have := h1'.1 y hy; omega
        refine ⟨?_, ?_, ?_, by simp at g4 ⊢; omega⟩
        · rw [List.map_cons, List.pairwise_cons]
          refine ⟨fun y hy => ?_, g1⟩
          obtain ⟨f, hf, rfl⟩ := List.mem_map.1 hy
          rcases (g2 f hf).1 with h | h
          · exact hall _ h
          · exact h2'.1 _ h
        · intro f hf
          rcases List.mem_cons.1 hf with rfl | hf
          · refine ⟨.inr List.mem_cons_self, ?_, by simp⟩
            symm
            rw [decide_eq_false_iff_not]
            intro h
            have := hall _ h
            simp at this
          · obtain ⟨k1, k2, k3⟩ := g2 f hf
            have hlt : b < f.1 := by
              rcases k1 with h | h
              · exact hall _ h
              · exact h2'.1 _ h
            have hne : f.1 ≠ b := by omega
            refine ⟨?_, k2, ?_⟩
            · rcases k1 with h | h
              · exact .inl h
              · exact .inr (List.mem_cons_of_mem _ h)
            · rw [k3]; simp [hne]
        · rintro x (hx | hx)
          · obtain ⟨f, hf, e⟩ := g3 x (.inl hx)
            exact ⟨f, List.mem_cons_of_mem _ hf, e⟩
          · rcases List.mem_cons.1 hx with rfl | hx
            · exact ⟨_, List.mem_cons_self, rfl⟩
            · obtain ⟨f, hf, e⟩ := g3 x (.inr hx)
              exact ⟨f, List.mem_cons_of_mem _ hf, e⟩
      · rw [if_neg c2]
        obtain rfl : a = b := by omega
        obtain ⟨g1, g2, g3, g4⟩ := mrg_spec r s h1'.2 h2'.2
        refine ⟨?_, ?_, ?_, by simp at g4 ⊢; omega⟩
        · rw [List.map_cons, List.pairwise_cons]
          refine ⟨fun y hy => ?_, g1⟩
          obtain ⟨f, hf, rfl⟩ := List.mem_map.1 hy
          rcases (g2 f hf).1 with h | h
          · exact h1'.1 _ h
          · exact h2'.1 _ h
        · intro f hf
          rcases List.mem_cons.1 hf with rfl | hf
          · simp
          · obtain ⟨k1, k2, k3⟩ := g2 f hf
            have hlt : a < f.1 := by
              rcases k1 with h | h
              · exact h1'.1 _ h
              · exact h2'.1 _ h
            have hne : f.1 ≠ a := by omega
            refine ⟨?_, by rw [k2]; simp [hne], by rw [k3]; simp [hne]⟩
            rcases k1 with h | h
            · exact .inl (List.mem_cons_of_mem _ h)
            · exact .inr (List.mem_cons_of_mem _ h)
        · rintro x (hx | hx)
          · rcases List.mem_cons.1 hx with rfl | hx
            · exact ⟨_, List.mem_cons_self, rfl⟩
            · obtain ⟨f, hf, e⟩ := g3 x (.inl hx)
              exact ⟨f, List.mem_cons_of_mem _ hf, e⟩
          · rcases List.mem_cons.1 hx with rfl | hx
            · exact ⟨_, List.mem_cons_self, rfl⟩
            · obtain ⟨f, hf, e⟩ := g3 x (.inr hx)
              exact ⟨f, List.mem_cons_of_mem _ hf, e⟩
termination_by l m => l.length + m.length

theorem mrg_len {l m : List Int} (hl : isSet l = true) (hm : isSet m = true) : (mrg l m).length ≤ 17592186044415 := by
  have h := (mrg_spec l m ((isSet_iff l).1 hl).1 ((isSet_iff m).1 hm).1).2.2.2
  have := isSet_len hl
  have := isSet_len hm
  omega
/-- What a test lets through of two sets is a set; which numbers it has. -/
theorem sel_set {l m : List Int} (hl : isSet l = true) (hm : isSet m = true) (p : Bool → Bool → Bool) :
    isSet (sel p (mrg l m)) = true ∧ ∀ x, x ∈ sel p (mrg l m) ↔ (x ∈ l ∨ x ∈ m) ∧ p (decide (x ∈ l)) (decide (x ∈ m)) = true := by
  obtain ⟨l1, l2⟩ := (isSet_iff l).1 hl
  obtain ⟨m1, m2⟩ := (isSet_iff m).1 hm
  obtain ⟨g1, g2, g3, _⟩ := mrg_spec l m l1 m1
  constructor
  · rw [isSet_iff]
    refine ⟨?_, fun z hz => ?_⟩
    · exact g1.sublist (List.Sublist.map _ List.filter_sublist)
    · unfold sel at hz
      obtain ⟨f, hf, rfl⟩ := List.mem_map.1 hz
      rcases (g2 f (List.mem_filter.1 hf).1).1 with h | h
      · exact l2 _ h
      · exact m2 _ h
  · intro x
    unfold sel
    constructor
    · intro hx
      obtain ⟨f, hf, rfl⟩ := List.mem_map.1 hx
      obtain ⟨k0, kp⟩ := List.mem_filter.1 hf
      obtain ⟨k1, k2, k3⟩ := g2 f k0
      rw [k2, k3] at kp
      exact ⟨k1, kp⟩
    · rintro ⟨hx, hp⟩
      obtain ⟨f, hf, rfl⟩ := g3 x hx
      obtain ⟨_, k2, k3⟩ := g2 f hf
      exact List.mem_map.2 ⟨f, List.mem_filter.2 ⟨hf, by rw [k2, k3]; exact hp⟩, rfl⟩
theorem isSet_I64 {l : List Int} (h : isSet l = true) : ∀ z ∈ l, I64 z := fun z hz => by
  have := ((isSet_iff l).1 h).2 z hz
  unfold I64
  omega

/-- r is the set of all numbers that are in one of the lists. -/
def UniOf (r : List Int) (zss : List (List Int)) : Prop := isSet r = true ∧ ∀ x, x ∈ r ↔ ∃ zs ∈ zss, x ∈ zs
theorem UniOf.join {l m : List Int} {k : Nat} {zss : List (List Int)} (hl : UniOf l (zss.take k)) (hm : UniOf m (zss.drop k)) : UniOf (sel pAll (mrg l m)) zss := by
  obtain ⟨h1, h2⟩ := sel_set hl.1 hm.1 pAll
  refine ⟨h1, fun x => ?_⟩
  rw [h2 x]
  constructor
  · rintro ⟨h | h, _⟩
    · obtain ⟨zs, h3, h4⟩ := (hl.2 x).1 h
      exact ⟨zs, List.mem_of_mem_take h3, h4⟩
    · obtain ⟨zs, h3, h4⟩ := (hm.2 x).1 h
      exact ⟨zs, List.mem_of_mem_drop h3, h4⟩
  · rintro ⟨zs, h3, h4⟩
    refine ⟨?_, rfl⟩
    rw [← List.take_append_drop k zss] at h3
    rcases List.mem_append.1 h3 with h | h
    · exact .inl ((hl.2 x).2 ⟨zs, h, h4⟩)
    · exact .inr ((hm.2 x).2 ⟨zs, h, h4⟩)
theorem UniOf.unique {r s : List Int} {zss : List (List Int)} (h : UniOf r zss) (k : UniOf s zss) : r = s := set_ext h.1 k.1 (fun x => (h.2 x).trans (k.2 x).symm)
end Go.Proofs.Ytpfmncdodcbamaa
