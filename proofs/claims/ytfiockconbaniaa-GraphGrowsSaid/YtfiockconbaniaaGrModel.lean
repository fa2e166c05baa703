/- What edges reach, sorted lists of numbers. No program. -/
import Derived.Test.YtfiockconbaniaaMem
namespace Go.Proofs.Ytfiockconbaniaa

/-- Rising numbers: a set as a list. -/
abbrev upI (l : List Int) : Prop := l.Pairwise (· < ·)
theorem upI_ext : ∀ (a b : List Int), upI a → upI b → (∀ x, x ∈ a ↔ x ∈ b) → a = b
  | [], [], _, _, _ => rfl
  | [], y :: r, _, _, h => absurd ((h y).2 List.mem_cons_self) (by simp)
  | x :: r, [], _, _, h => absurd ((h x).1 List.mem_cons_self) (by simp)
  | x :: r, y :: q, ha, hb, h => by
    rw [upI, List.pairwise_cons] at ha hb
    have hxy : x = y := by
      rcases List.mem_cons.1 ((h x).1 List.mem_cons_self) with e | e
      · exact e
      · rcases List.mem_cons.1 ((h y).2 List.mem_cons_self) with e' | e'
        · exact e'.symm
        · have := hb.1 x e
          have := ha.1 y e'
          omega
    subst hxy
    rw [upI_ext r q ha.2 hb.2 fun z => ?_]
    constructor
    · intro hz
      rcases List.mem_cons.1 ((h z).1 (List.mem_cons_of_mem _ hz)) with e | e
      · have := ha.1 z hz
        omega
      · exact e
    · intro hz
      rcases List.mem_cons.1 ((h z).2 (List.mem_cons_of_mem _ hz)) with e | e
      · have := hb.1 z hz
        omega
      · exact e
/-- A number more. -/
def insI (x : Int) : List Int → List Int
  | [] => [x]
  | y :: r => if x < y then x :: y :: r else if x = y then y :: r else y :: insI x r
theorem mem_insI (x z : Int) : ∀ l : List Int, z ∈ insI x l ↔ z = x ∨ z ∈ l
  | [] => by simp [insI]
  | y :: r => by
    rw [insI]
    split
    · simp
    · split
      · rename_i h
        subst h
        simp
      · rw [List.mem_cons, mem_insI x z r, List.mem_cons]
        constructor
        · rintro (h | h | h)
          · exact .inr (.inl h)
          · exact .inl h
          · exact .inr (.inr h)
        · rintro (h | h | h)
          · exact .inr (.inl h)
          · exact .inl h
          · exact .inr (.inr h)
theorem up_insI (x : Int) : ∀ l : List Int, upI l → upI (insI x l)
  | [], _ => by simp [insI, upI]
  | y :: r, h => by
    have h' := h
    rw [upI, List.pairwise_cons] at h
    rw [insI]
    split
    · rename_i hx
      rw [upI, List.pairwise_cons]
      refine ⟨fun z hz => ?_, h'⟩
      rcases List.mem_cons.1 hz with rfl | hz
      · exact hx
      · have := h.1 z hz
        omega
    · split
      · exact h'
      · rw [upI, List.pairwise_cons]
        refine ⟨fun z hz => ?_, up_insI x r h.2⟩
        rcases (mem_insI x z r).1 hz with rfl | hz
        · omega
        · exact h.1 z hz
/-- The set of a list. -/
def setI : List Int → List Int
  | [] => []
  | x :: r => insI x (setI r)
theorem mem_setI (z : Int) : ∀ l : List Int, z ∈ setI l ↔ z ∈ l
  | [] => Iff.rfl
  | x :: r => by rw [setI, mem_insI, mem_setI z r, List.mem_cons]
theorem up_setI : ∀ l : List Int, upI (setI l)
  | [] => List.Pairwise.nil
  | x :: r => up_insI x _ (up_setI r)
theorem set_eq {a l : List Int} (ha : upI a) (h : ∀ z, z ∈ a ↔ z ∈ l) : a = setI l :=
  upI_ext a (setI l) ha (up_setI l) fun z => (h z).trans (mem_setI z l).symm
/-- What edges reach from nothing on. -/
inductive ReachI (E : List (Int × Int)) : Int → Prop
  | zero : ReachI E 0
  | step (a b : Int) : (a, b) ∈ E → ReachI E a → ReachI E b
/-- A list is just what edges reach. -/
structure IsReach (E : List (Int × Int)) (l : List Int) : Prop where
  up : upI l
  mem : ∀ x, x ∈ l ↔ ReachI E x
theorem IsReach.eq {E : List (Int × Int)} {a b : List Int} (ha : IsReach E a) (hb : IsReach E b) : a = b :=
  upI_ext a b ha.up hb.up fun x => (ha.mem x).trans (hb.mem x).symm
/-- A set that is reached, and closed. -/
theorem reach_closed {E : List (Int × Int)} {l : List Int} (hu : upI l) (h0 : (0 : Int) ∈ l) (hs : ∀ x ∈ l, ReachI E x) (hc : ∀ e ∈ E, e.1 ∈ l → e.2 ∈ l) : IsReach E l :=
  ⟨hu, fun x => ⟨hs x, fun h => by
    induction h with
    | zero => exact h0
    | step a b he _ ih => exact hc (a, b) he ih⟩⟩
theorem ReachI.more {E E' : List (Int × Int)} (hE : ∀ e ∈ E, e ∈ E') {x : Int} (h : ReachI E x) : ReachI E' x := by
  induction h with
  | zero => exact .zero
  | step a b he _ ih => exact .step a b (hE _ he) ih
/-- An edge more that adds nothing. -/
theorem ReachI.idle {E : List (Int × Int)} {e : Int × Int} (h : ¬ ReachI E e.1 ∨ ReachI E e.2) {x : Int} (hx : ReachI (E ++ [e]) x) : ReachI E x := by
  induction hx with
  | zero => exact .zero
  | step a b he _ ih =>
    rcases List.mem_append.1 he with he | he
    · exact .step a b he ih
    · obtain rfl := List.mem_singleton.1 he
      rcases h with h | h
      · exact absurd ih h
      · exact h
theorem IsReach.grows {E : List (Int × Int)} {e : Int × Int} {a b : List Int} (ha : IsReach E a) (hb : IsReach (E ++ [e]) b) :
    (∀ x ∈ a, x ∈ b) ∧ ((e.1 ∉ a ∨ e.2 ∈ a) → a = b) ∧ (0 : Int) ∈ a := by
  refine ⟨fun x hx => (hb.mem x).2 (((ha.mem x).1 hx).more fun y hy => List.mem_append_left _ hy), fun h => ?_, (ha.mem 0).2 .zero⟩
  refine upI_ext a b ha.up hb.up fun x => ⟨fun hx => (hb.mem x).2 (((ha.mem x).1 hx).more fun y hy => List.mem_append_left _ hy), fun hx => (ha.mem x).2 (ReachI.idle (e := e) ?_ ((hb.mem x).1 hx))⟩
  rcases h with h | h
  · exact .inl fun hr => h ((ha.mem _).2 hr)
  · exact .inr ((ha.mem _).1 h)
/-- How many edges lead out of a set: what a pass makes less. -/
def outI (E : List (Int × Int)) (l : List Int) : Nat := (E.filter fun e => decide (e.2 ∉ l)).length
theorem outI_less {E : List (Int × Int)} {l l' : List Int} (hl : ∀ x ∈ l, x ∈ l') {e : Int × Int} (he : e ∈ E) (h1 : e.2 ∉ l) (h2 : e.2 ∈ l') : outI E l' < outI E l := by
  unfold outI
  have key : ∀ E : List (Int × Int), (E.filter fun e => decide (e.2 ∉ l')).length ≤ (E.filter fun e => decide (e.2 ∉ l)).length ∧ (e ∈ E → (E.filter fun e => decide (e.2 ∉ l')).length < (E.filter fun e => decide (e.2 ∉ l)).length) := by
    intro E
    induction E with
    | nil => exact ⟨Nat.le_refl _, fun h => by cases h⟩
    | cons a r ih =>
      rw [List.filter_cons, List.filter_cons]
      by_cases ha : a.2 ∈ l
      · have ha' := hl _ ha
        rw [if_neg (by simpa using ha'), if_neg (by simpa using ha)]
        refine ⟨ih.1, fun h => ?_⟩
        rcases List.mem_cons.1 h with rfl | h
        · exact absurd ha h1
        · exact ih.2 h
      · rw [if_pos (show decide (a.2 ∉ l) = true by simpa using ha), List.length_cons]
        by_cases ha' : a.2 ∈ l'
        · rw [if_neg (by simpa using ha')]
          exact ⟨by omega, fun _ => by omega⟩
        · rw [if_pos (by simpa using ha'), List.length_cons]
          refine ⟨by omega, fun h => ?_⟩
          rcases List.mem_cons.1 h with rfl | h
          · exact absurd h2 ha'
          · have := ih.2 h
            omega
  exact (key E).2 he
end Go.Proofs.Ytfiockconbaniaa
