/- How high a tree is. No program. -/
import Derived.Test.YtiejpenffpjmeaaDoorAll
namespace Go.Proofs.YtiejpenffpjmeaaDoor

mutual
def Tr.height : Tr → Nat
  | .mk _ _ _ _ l => 1 + heights l
def heights : List Tr → Nat
  | [] => 0
  | t :: r => max t.height (heights r)
end
theorem height_eq (t : Tr) : t.height = 1 + heights t.l := by cases t; rw [Tr.height]; rfl
theorem heights_cons (t : Tr) (r : List Tr) : heights (t :: r) = max t.height (heights r) := by rw [heights]
theorem heights_nil : heights [] = 0 := by rw [heights]
theorem heights_le {m : Nat} : ∀ {l : List Tr}, heights l ≤ m ↔ ∀ y ∈ l, y.height ≤ m
  | [] => by rw [heights_nil]; simp
  | t :: r => by
    rw [heights_cons, Nat.max_le, heights_le (l := r)]
    simp
theorem levels_le (t : Tr) : ∀ k m, (∀ p ∈ t.levels k, p.2 ≤ m) ↔ k + t.height ≤ m + 1 := by
  induction t using tree_ind with
  | h t ih =>
    intro k m
    rw [levels_eq, height_eq]
    have key : ∀ (l : List Tr), (∀ y ∈ l, y ∈ t.l) → k ≤ m → ((∀ p ∈ levelsL (k + 1) l, p.2 ≤ m) ↔ k + 1 + heights l ≤ m + 1) := by
      intro l
      induction l with
      | nil => intro _ hk; rw [levelsL_nil, heights_nil]; simp; omega
      | cons a r ihr =>
        intro hl hk
        have h1 := ih a (size_part (hl a List.mem_cons_self)) (k + 1) m
        have h2 := ihr (fun y hy => hl y (List.mem_cons_of_mem _ hy)) hk
        rw [levelsL_cons, heights_cons]
        constructor
        · intro h
          have a1 := h1.1 fun p hp => h p (List.mem_append_left _ hp)
          have a2 := h2.1 fun p hp => h p (List.mem_append_right _ hp)
          omega
        · intro h p hp
          rcases List.mem_append.1 hp with hp | hp
          · exact h1.2 (by omega) p hp
          · exact h2.2 (by omega) p hp
    constructor
    · intro h
      have hk : k ≤ m := h (t, k) List.mem_cons_self
      have := (key t.l (fun y hy => hy) hk).1 fun p hp => h p (List.mem_cons_of_mem _ hp)
      omega
    · intro h p hp
      rcases List.mem_cons.1 hp with rfl | hp
      · show k ≤ m
        omega
      · exact (key t.l (fun y hy => hy) (by omega)).2 (by omega) p hp
theorem mem_flats : ∀ {l : List Tr} {z : Tr}, z ∈ flats l → ∃ y ∈ l, z ∈ y.flat
  | [], z, h => by rw [flats_nil] at h; cases h
  | a :: r, z, h => by
    rw [flats_cons, List.mem_append] at h
    rcases h with h | h
    · exact ⟨a, List.mem_cons_self, h⟩
    · obtain ⟨y, hy, hz⟩ := mem_flats h
      exact ⟨y, List.mem_cons_of_mem _ hy, hz⟩
theorem good_iff (t : Tr) : good t ↔ soundOne t = true ∧ ∀ y ∈ t.l, good y := by
  constructor
  · exact fun h => ⟨h.self, fun y hy => h.part hy⟩
  · rintro ⟨h1, h2⟩ z hz
    rw [flat_eq] at hz
    rcases List.mem_cons.1 hz with rfl | hz
    · exact h1
    · obtain ⟨y, hy, hzy⟩ := mem_flats hz
      exact h2 y hy z hzy
theorem soundT_iff (t : Tr) : soundT t = true ↔ good t ∧ t.height ≤ 100 := by
  constructor
  · intro h
    refine ⟨good_of h, ?_⟩
    have := (levels_le t 1 100).1 fun p hp => by
      unfold soundT at h
      rw [List.all_eq_true] at h
      have := h p hp
      unfold goodB at this
      rw [Bool.and_eq_true, decide_eq_true_eq] at this
      exact this.2
    omega
  · rintro ⟨h1, h2⟩
    unfold soundT
    rw [List.all_eq_true]
    intro p hp
    unfold goodB
    rw [Bool.and_eq_true, decide_eq_true_eq]
    refine ⟨h1 p.1 ?_, (levels_le t 1 100).2 (by omega) p hp⟩
    rw [← levels_flat 1 t, List.mem_map]
    exact ⟨p, hp, rfl⟩
/-- Is it what it should be, and of so many levels at the most. -/
def OK (h : Int) (t : Tr) : Prop := good t ∧ (t.height : Int) ≤ h
theorem ok_iff (h : Int) (t : Tr) : OK h t ↔ 1 ≤ h ∧ soundOne t = true ∧ ∀ y ∈ t.l, OK (h - 1) y := by
  unfold OK
  rw [good_iff, height_eq]
  constructor
  · rintro ⟨⟨h1, h2⟩, h3⟩
    refine ⟨by omega, h1, fun y hy => ⟨h2 y hy, ?_⟩⟩
    have := (heights_le (l := t.l)).1 (Nat.le_refl _) y hy
    omega
  · rintro ⟨h1, h2, h3⟩
    refine ⟨⟨h2, fun y hy => (h3 y hy).1⟩, ?_⟩
    have := (heights_le (m := (h - 1).toNat) (l := t.l)).2 fun y hy => by have := (h3 y hy).2; omega
    omega
theorem right_ok (t : Tr) : rightP t = true ↔ t.op = 32 ∧ OK 100 t := by
  unfold rightP OK
  rw [Bool.and_eq_true, soundT_iff]
  constructor
  · rintro ⟨h1, h2, h3⟩
    refine ⟨?_, h2, by omega⟩
    unfold hasB at h1
    simpa using h1
  · rintro ⟨h1, h2, h3⟩
    exact ⟨by rw [h1]; rfl, h2, by omega⟩
theorem rightE_ok (t : Tr) : rightE t = true ↔ isE t ∧ OK 100 t := by
  unfold rightE OK isE
  rw [Bool.and_eq_true, soundT_iff]
  constructor
  · rintro ⟨h1, h2, h3⟩
    exact ⟨h1, h2, by omega⟩
  · rintro ⟨h1, h2, h3⟩
    exact ⟨h1, h2, by omega⟩
end Go.Proofs.YtiejpenffpjmeaaDoor
