/- Sorted edges. No program. -/
import Derived.Test.YtfiockconbaniaaGrModel
namespace Go.Proofs.Ytfiockconbaniaa

/-- Two lists that rise by an order, with the same members. -/
theorem rise_ext {α : Type} {lt : α → α → Prop} (irr : ∀ a, ¬ lt a a) (tr : ∀ a b c, lt a b → lt b c → lt a c) : ∀ (a b : List α), a.Pairwise lt → b.Pairwise lt → (∀ x, x ∈ a ↔ x ∈ b) → a = b
  | [], [], _, _, _ => rfl
  | [], y :: r, _, _, h => absurd ((h y).2 List.mem_cons_self) (by simp)
  | x :: r, [], _, _, h => absurd ((h x).1 List.mem_cons_self) (by simp)
  | x :: r, y :: q, ha, hb, h => by
    rw [List.pairwise_cons] at ha hb
    have hxy : x = y := by
      rcases List.mem_cons.1 ((h x).1 List.mem_cons_self) with e | e
      · exact e
      · rcases List.mem_cons.1 ((h y).2 List.mem_cons_self) with e' | e'
        · exact e'.symm
        · exact absurd (tr _ _ _ (hb.1 x e) (ha.1 y e')) (irr y)
    subst hxy
    rw [rise_ext irr tr r q ha.2 hb.2 fun z => ?_]
    constructor
    · intro hz
      rcases List.mem_cons.1 ((h z).1 (List.mem_cons_of_mem _ hz)) with e | e
      · exact absurd (ha.1 z hz) (by rw [e]; exact irr x)
      · exact e
    · intro hz
      rcases List.mem_cons.1 ((h z).2 (List.mem_cons_of_mem _ hz)) with e | e
      · exact absurd (hb.1 z hz) (by rw [e]; exact irr x)
      · exact e
/-- An edge. -/
structure Ed where
  fr : Int
  mark : Int
  to : Int
theorem Ed.ext' {a b : Ed} (h1 : a.fr = b.fr) (h2 : a.mark = b.mark) (h3 : a.to = b.to) : a = b := by
  cases a; cases b; cases h1; cases h2; cases h3; rfl
/-- Is an edge ahead of another one? -/
def befE (a b : Ed) : Prop := a.fr < b.fr ∨ (a.fr = b.fr ∧ (a.mark < b.mark ∨ (a.mark = b.mark ∧ a.to < b.to)))
instance (a b : Ed) : Decidable (befE a b) := by unfold befE; exact inferInstance
theorem befE_irr (a : Ed) : ¬ befE a a := by unfold befE; omega
theorem befE_tr (a b c : Ed) (h1 : befE a b) (h2 : befE b c) : befE a c := by unfold befE at *; omega
theorem befE_tri (a b : Ed) : befE a b ∨ a = b ∨ befE b a := by
  by_cases h1 : befE a b
  · exact .inl h1
  · by_cases h2 : befE b a
    · exact .inr (.inr h2)
    · unfold befE at h1 h2
      exact .inr (.inl (Ed.ext' (by omega) (by omega) (by omega)))
theorem edges_ext (a b : List Ed) (ha : a.Pairwise befE) (hb : b.Pairwise befE) (h : ∀ x, x ∈ a ↔ x ∈ b) : a = b := rise_ext befE_irr befE_tr a b ha hb h
/-- An edge put in where the list has none that is not ahead of it: the document's way, from behind. -/
theorem put_edge {l : List Ed} {e : Ed} {k : Nat} (hl : l.Pairwise befE) (h1 : ∀ x ∈ l.take k, befE x e) (h2 : ∀ x ∈ l.drop k, befE e x) : (l.take k ++ e :: l.drop k).Pairwise befE ∧ ∀ x, x ∈ l.take k ++ e :: l.drop k ↔ x = e ∨ x ∈ l := by
  have hl' := hl
  rw [← List.take_append_drop k l, List.pairwise_append] at hl'
  refine ⟨?_, fun x => ?_⟩
  · rw [List.pairwise_append, List.pairwise_cons]
    refine ⟨hl'.1, ⟨h2, hl'.2.1⟩, fun x hx y hy => ?_⟩
    rcases List.mem_cons.1 hy with rfl | hy
    · exact h1 x hx
    · exact hl'.2.2 x hx y hy
  · rw [List.mem_append, List.mem_cons]
    constructor
    · rintro (h | h | h)
      · exact .inr (List.mem_of_mem_take h)
      · exact .inl h
      · exact .inr (List.mem_of_mem_drop h)
    · rintro (h | h)
      · exact .inr (.inl h)
      · rw [← List.take_append_drop k l, List.mem_append] at h
        rcases h with h | h
        · exact .inl h
        · exact .inr (.inr h)
/-- The same for numbers. -/
theorem put_num {l : List Int} {e : Int} {k : Nat} (hl : upI l) (h1 : ∀ x ∈ l.take k, x < e) (h2 : ∀ x ∈ l.drop k, e < x) : l.take k ++ e :: l.drop k = insI e l := by
  have hl' : (l.take k ++ l.drop k).Pairwise (· < ·) := by rw [List.take_append_drop]; exact hl
  rw [List.pairwise_append] at hl'
  refine upI_ext _ _ ?_ (up_insI e l hl) fun x => ?_
  · rw [upI, List.pairwise_append, List.pairwise_cons]
    refine ⟨hl'.1, ⟨h2, hl'.2.1⟩, fun x hx y hy => ?_⟩
    rcases List.mem_cons.1 hy with rfl | hy
    · exact h1 x hx
    · exact hl'.2.2 x hx y hy
  · rw [mem_insI, List.mem_append, List.mem_cons]
    constructor
    · rintro (h | h | h)
      · exact .inr (List.mem_of_mem_take h)
      · exact .inl h
      · exact .inr (List.mem_of_mem_drop h)
    · rintro (h | h)
      · exact .inr (.inl h)
      · rw [← List.take_append_drop k l, List.mem_append] at h
        rcases h with h | h
        · exact .inl h
        · exact .inr (.inr h)
theorem ins_has {l : List Int} {e : Int} (hl : upI l) (h : e ∈ l) : insI e l = l :=
  upI_ext _ _ (up_insI e l hl) hl fun x => by
    rw [mem_insI]
    exact ⟨fun h' => h'.elim (fun h' => h' ▸ h) id, .inr⟩
end Go.Proofs.Ytfiockconbaniaa
