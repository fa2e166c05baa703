/- Programs as trees, as plain data. No program. -/
import Derived.Test.YtiejpenffpjmeaaDoorPlain
namespace Go.Proofs.YtiejpenffpjmeaaDoor

/-- A tree: operation, text, number, line, parts. -/
inductive Tr where
  | mk (op : Int) (s : Bs) (n : Int) (line : Int) (l : List Tr) : Tr
namespace Tr
def op : Tr → Int | mk o _ _ _ _ => o
def s : Tr → Bs | mk _ x _ _ _ => x
def n : Tr → Int | mk _ _ x _ _ => x
def line : Tr → Int | mk _ _ _ x _ => x
def l : Tr → List Tr | mk _ _ _ _ x => x
@[simp] theorem op_mk (o : Int) (x : Bs) (k i : Int) (ts : List Tr) : (mk o x k i ts).op = o := rfl
@[simp] theorem s_mk (o : Int) (x : Bs) (k i : Int) (ts : List Tr) : (mk o x k i ts).s = x := rfl
@[simp] theorem n_mk (o : Int) (x : Bs) (k i : Int) (ts : List Tr) : (mk o x k i ts).n = k := rfl
@[simp] theorem line_mk (o : Int) (x : Bs) (k i : Int) (ts : List Tr) : (mk o x k i ts).line = i := rfl
@[simp] theorem l_mk (o : Int) (x : Bs) (k i : Int) (ts : List Tr) : (mk o x k i ts).l = ts := rfl
end Tr
mutual
/-- How many trees it is. -/
def Tr.size : Tr → Nat
  | .mk _ _ _ _ l => 1 + sizes l
def sizes : List Tr → Nat
  | [] => 0
  | t :: r => t.size + sizes r
end
theorem size_pos (t : Tr) : 1 ≤ t.size := by cases t; unfold Tr.size; omega
theorem size_mk (o : Int) (x : Bs) (k i : Int) (l : List Tr) : (Tr.mk o x k i l).size = 1 + sizes l := by rw [Tr.size]
theorem size_eq (t : Tr) : t.size = 1 + sizes t.l := by cases t; rw [Tr.size]; rfl
theorem sizes_cons (t : Tr) (r : List Tr) : sizes (t :: r) = t.size + sizes r := by rw [sizes]
theorem sizes_nil : sizes [] = 0 := by rw [sizes]
theorem size_mem : ∀ {l : List Tr} {t : Tr}, t ∈ l → t.size ≤ sizes l
  | a :: r, t, h => by
    rw [sizes_cons]
    rcases List.mem_cons.1 h with rfl | h
    · omega
    · have := size_mem h
      omega
theorem size_part {t x : Tr} (h : x ∈ t.l) : x.size < t.size := by
  have := size_mem h
  rw [size_eq t]
  omega
theorem sizes_app : ∀ (a b : List Tr), sizes (a ++ b) = sizes a + sizes b
  | [], b => by simp [sizes_nil]
  | t :: r, b => by rw [List.cons_append, sizes_cons, sizes_cons, sizes_app r b]; omega
theorem length_le_sizes : ∀ l : List Tr, l.length ≤ sizes l
  | [] => by simp
  | t :: r => by
    have := length_le_sizes r
    have := size_pos t
    rw [sizes_cons, List.length_cons]
    omega
/-- What holds of a tree if it holds of all smaller ones holds of all. -/
theorem tree_ind {P : Tr → Prop} (h : ∀ t, (∀ u, u.size < t.size → P u) → P t) (t : Tr) : P t := by
  have key : ∀ n (t : Tr), t.size ≤ n → P t := by
    intro n
    induction n with
    | zero => intro t ht; have := size_pos t; omega
    | succ n ih => intro t ht; exact h t fun u hu => ih u (by omega)
  exact key _ t (Nat.le_refl _)

mutual
/-- Are two trees alike in all but their lines. -/
def sameT : Tr → Tr → Bool
  | .mk o s n _ l, .mk o' s' n' _ l' => decide (o = o') && (decide (s = s') && (decide (n = n') && sameL l l'))
def sameL : List Tr → List Tr → Bool
  | [], [] => true
  | a :: r, b :: q => sameT a b && sameL r q
  | [], _ :: _ => false
  | _ :: _, [] => false
end
mutual
/-- A tree without lines. -/
def Tr.norm : Tr → Tr
  | .mk o s n _ l => .mk o s n 0 (norms l)
def norms : List Tr → List Tr
  | [] => []
  | t :: r => t.norm :: norms r
end
theorem norm_mk (o : Int) (x : Bs) (k i : Int) (l : List Tr) : (Tr.mk o x k i l).norm = .mk o x k 0 (norms l) := by rw [Tr.norm]
theorem norms_map : ∀ l, norms l = l.map Tr.norm
  | [] => by rw [norms]; rfl
  | t :: r => by rw [norms, norms_map r]; rfl
mutual
theorem same_norm : ∀ a b : Tr, sameT a b = true ↔ a.norm = b.norm
  | .mk o s n i l, .mk o' s' n' i' l' => by
    rw [sameT, norm_mk, norm_mk]
    have := same_norms l l'
    simp [this]
theorem same_norms : ∀ a b : List Tr, sameL a b = true ↔ norms a = norms b
  | [], [] => by simp [sameL, norms]
  | a :: r, b :: q => by
    rw [sameL, norms, norms]
    have h1 := same_norm a b
    have h2 := same_norms r q
    simp [h1, h2]
  | [], b :: q => by simp [sameL, norms]
  | a :: r, [] => by simp [sameL, norms]
end
theorem same_self (a : Tr) : sameT a a = true := (same_norm a a).2 rfl
theorem sameL_iff : ∀ (a b : List Tr), sameL a b = true ↔ a.length = b.length ∧ ∀ (i : Nat) (x y : Tr), a[i]? = some x → b[i]? = some y → sameT x y = true
  | [], [] => by simp [sameL]
  | a :: r, b :: q => by
    rw [sameL, Bool.and_eq_true, sameL_iff r q]
    constructor
    · rintro ⟨h1, h2, h3⟩
      refine ⟨by simp [h2], fun i x y hx hy => ?_⟩
      cases i with
      | zero => simp at hx hy; subst hx hy; exact h1
      | succ i => exact h3 i x y (by simpa using hx) (by simpa using hy)
    · rintro ⟨h1, h2⟩
      exact ⟨h2 0 a b rfl rfl, by simpa using h1, fun i x y hx hy => h2 (i + 1) x y (by simpa using hx) (by simpa using hy)⟩
  | [], b :: q => by simp [sameL]
  | a :: r, [] => by simp [sameL]

mutual
/-- A tree and all its parts, in order. -/
def Tr.flat : Tr → List Tr
  | .mk o s n i l => .mk o s n i l :: flats l
def flats : List Tr → List Tr
  | [] => []
  | t :: r => t.flat ++ flats r
end
theorem flat_eq (t : Tr) : t.flat = t :: flats t.l := by cases t; rw [Tr.flat]; rfl
theorem flats_cons (t : Tr) (r : List Tr) : flats (t :: r) = t.flat ++ flats r := by rw [flats]
theorem flats_nil : flats [] = [] := by rw [flats]
mutual
theorem flat_len : ∀ t : Tr, t.flat.length = t.size
  | .mk o s n i l => by rw [Tr.flat, Tr.size, List.length_cons, flats_len l]; omega
theorem flats_len : ∀ l : List Tr, (flats l).length = sizes l
  | [] => by rw [flats, sizes]; rfl
  | t :: r => by rw [flats, sizes, List.length_append, flat_len t, flats_len r]
end
mutual
/-- A tree and all its parts, in order, each with its level. -/
def Tr.levels (k : Nat) : Tr → List (Tr × Nat)
  | .mk o s n i l => (.mk o s n i l, k) :: levelsL (k + 1) l
def levelsL (k : Nat) : List Tr → List (Tr × Nat)
  | [] => []
  | t :: r => t.levels k ++ levelsL k r
end
theorem levels_eq (k : Nat) (t : Tr) : t.levels k = (t, k) :: levelsL (k + 1) t.l := by cases t; rw [Tr.levels]; rfl
theorem levelsL_cons (k : Nat) (t : Tr) (r : List Tr) : levelsL k (t :: r) = t.levels k ++ levelsL k r := by rw [levelsL]
theorem levelsL_nil (k : Nat) : levelsL k [] = [] := by rw [levelsL]
mutual
theorem levels_flat : ∀ (k : Nat) (t : Tr), (t.levels k).map (·.1) = t.flat
  | k, .mk o s n i l => by rw [Tr.levels, Tr.flat, List.map_cons, levelsL_flat (k + 1) l]
theorem levelsL_flat : ∀ (k : Nat) (l : List Tr), (levelsL k l).map (·.1) = flats l
  | k, [] => by rw [levelsL, flats]; rfl
  | k, t :: r => by rw [levelsL, flats, List.map_append, levels_flat k t, levelsL_flat k r]
end
end Go.Proofs.YtiejpenffpjmeaaDoor
