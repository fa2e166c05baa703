/- How long a tree's text is. No program. -/
import Derived.Test.YtiejpenffpjmeaaDoorAll
import Derived.Lib.ItoaLen
namespace Go.Proofs.YtiejpenffpjmeaaDoor
set_option linter.unusedSimpArgs false
set_option linter.unusedVariables false

def lens (ts : List Bs) : Nat := (ts.map List.length).sum
theorem lens_nil : lens [] = 0 := rfl
theorem lens_cons (a : Bs) (r : List Bs) : lens (a :: r) = a.length + lens r := by simp [lens]
theorem commas_len : ∀ ts : List Bs, (commas ts).length ≤ lens ts + 2 * ts.length
  | [] => by simp [commas, lens]
  | [a] => by simp [commas, lens]
  | a :: b :: r => by
    have := commas_len (b :: r)
    rw [commas]
    simp only [List.length_append, List.length_cons, List.length_nil, lens_cons] at this ⊢
    omega
theorem quote_len (s : Bs) : (quoteL s).length ≤ 4 * s.length + 2 := by
  have h : ∀ l : Bs, (l.flatMap quoteB).length ≤ 4 * l.length := by
    intro l
    induction l with
    | nil => simp
    | cons c r ih =>
      have : (quoteB c).length ≤ 4 := by
        unfold quoteB
        repeat (first | split | simp)
      simp only [List.flatMap_cons, List.length_append, List.length_cons]
      omega
  have := h s
  unfold quoteL
  simp only [List.length_append, List.length_cons, List.length_nil]
  omega
theorem func_len (ts : List Bs) : (funcB ts).length ≤ lens ts + 2 * ts.length + 3 := by
  rcases List.eq_nil_or_concat ts with rfl | ⟨xs, b, rfl⟩
  · decide
  · unfold funcB
    have h1 := commas_len xs
    have h2 : lens (xs ++ [b]) = lens xs + b.length := by simp [lens]
    simp only [List.concat_eq_append, List.dropLast_concat, List.length_append, List.length_cons, List.length_nil, List.getLastD_concat] at *
    omega
theorem lens_drop (ts : List Bs) : (at_ ts 0).length + lens (ts.drop 1) ≤ lens ts := by
  cases ts with
  | nil => simp [at_, lens]
  | cons a r => simp [at_, lens_cons]
theorem lens_two (ts : List Bs) : (at_ ts 0).length + (at_ ts 1).length ≤ lens ts := by
  cases ts with
  | nil => simp [at_, lens]
  | cons a r => cases r with
    | nil => simp [at_, lens_cons]
    | cons b r => simp [at_, lens_cons] <;> omega
theorem lens_three (ts : List Bs) : (at_ ts 0).length + ((at_ ts 1).length + (at_ ts 2).length) ≤ lens ts := by
  cases ts with
  | nil => simp [at_, lens]
  | cons a r => cases r with
    | nil => simp [at_, lens_cons]
    | cons b r => cases r with
      | nil => simp [at_, lens_cons]
      | cons c r => simp [at_, lens_cons] <;> omega
theorem head_len (p : Bs) (ts : List Bs) : (match ts with | [] => ([] : Bs) | a :: _ => p ++ a).length ≤ p.length + lens ts := by
  cases ts with
  | nil => simp
  | cons a r => simp [lens_cons] <;> omega
theorem form_len (op : Nat) (s : Bs) (n : Int) (o0 : Int) (ts : List Bs) (hn : n ≤ 9999999999999999999) : (form op s n o0 ts).length ≤ 4 * s.length + (lens ts + 2 * ts.length) + 30 := by
  have h1 := commas_len ts
  have h2 := commas_len (ts.drop 1)
  have h3 := quote_len s
  have h4 := func_len ts
  have h5 := lens_drop ts
  have h6 := lens_two ts
  have h7 := lens_three ts
  have h8 : (ts.drop 1).length ≤ ts.length := by simp
  have h9 := head_len [32, 61, 32] ts
  have h10 := head_len [32] ts
  have h11 : (Lib.decDigits n.toNat).length ≤ 30 := by
    rw [Lib.decDigits_length]
    have := Lib.nDigits_le20 n.toNat (by omega)
    omega
  unfold form
  split <;> (repeat' split) <;> simp only [List.length_append, List.length_cons, List.length_nil] at * <;> omega
mutual
/-- How many bytes its texts have. -/
def Tr.strs : Tr → Nat
  | .mk _ s _ _ l => s.length + strsL l
def strsL : List Tr → Nat
  | [] => 0
  | t :: r => t.strs + strsL r
end
theorem strs_eq (t : Tr) : t.strs = t.s.length + strsL t.l := by cases t; rw [Tr.strs]; rfl
theorem strsL_cons (t : Tr) (r : List Tr) : strsL (t :: r) = t.strs + strsL r := by rw [strsL]
theorem strsL_nil : strsL [] = 0 := by rw [strsL]
theorem lines_len (k : Nat) (hk : k ≤ 1500) : ∀ ts : List Bs, (linesL k ts).length ≤ lens ts + 3001 * ts.length
  | [] => by simp [linesL]
  | a :: r => by
    have := lines_len k hk r
    unfold linesL indentB at *
    simp only [List.flatMap_cons, List.length_append, List.length_replicate, List.length_cons, List.length_nil, lens_cons] at *
    omega
set_option maxRecDepth 100000 in
theorem parts_len (k : Nat) : ∀ l : List Tr, (∀ y ∈ l, (y.txt k).length + 3100 ≤ 4 * y.strs + 6200 * y.size) → lens (l.map (Tr.txt k)) + 3100 * l.length ≤ 4 * strsL l + 6200 * sizes l
  | [], _ => by simp [lens]
  | a :: r, h => by
    have h1 := h a List.mem_cons_self
    have h2 := parts_len k r fun y hy => h y (List.mem_cons_of_mem _ hy)
    rw [List.map_cons, lens_cons, List.length_cons, strsL_cons, sizes_cons, Nat.mul_add, Nat.mul_add, Nat.mul_add, Nat.mul_one]
    clear h
    generalize lens (List.map (Tr.txt k) r) = A at *
    generalize (a.txt k).length = B at *
    generalize a.strs = C at *
    generalize a.size = D at *
    generalize strsL r = E at *
    generalize sizes r = F at *
    generalize r.length = G at *
    omega

set_option maxRecDepth 100000 in
theorem txt_len (t : Tr) : ∀ k, (∀ y ∈ t.flat, y.n ≤ 9223372036854775807) → k + t.size ≤ 1500 → (t.txt k).length + 3100 ≤ 4 * t.strs + 6200 * t.size := by
  induction t using tree_ind with
  | h t ih =>
    intro k hn hk
    have hpart : ∀ y ∈ t.l, ∀ z ∈ y.flat, z.n ≤ 9223372036854775807 := fun y hy z hz => hn z (by rw [flat_eq]; exact List.mem_cons_of_mem _ (good_part hy z hz))
    have h0 : t.n ≤ 9223372036854775807 := hn t (by rw [flat_eq]; exact List.mem_cons_self)
    have hs := size_eq t
    have hst := strs_eq t
    by_cases hop : t.op = 32
    · rw [txt_block k t hop]
      have h1 := parts_len (k + 1) t.l fun y hy => ih y (size_part hy) (k + 1) (hpart y hy) (by have := size_mem hy; omega)
      have h2 := lines_len (k + 1) (by omega) (t.l.map (Tr.txt (k + 1)))
      unfold indentB
      simp only [List.length_append, List.length_replicate, List.length_cons, List.length_nil, List.length_map] at h1 h2 ⊢
      omega
    · rw [txt_form k t hop]
      have h1 := parts_len k t.l fun y hy => ih y (size_part hy) k (hpart y hy) (by have := size_mem hy; omega)
      have h2 := form_len t.op.toNat t.s t.n (op0 t.l) (t.l.map (Tr.txt k)) (by omega)
      simp only [List.length_map] at h1 h2 ⊢
      omega
set_option maxRecDepth 100000 in
theorem showP_len (t : Tr) (hn : ∀ y ∈ t.flat, y.n ≤ 9223372036854775807) (hk : t.size ≤ 1500) (hs : t.strs ≤ 10000000) : (showP t).length ≤ 100000000 := by
  have h1 := parts_len 0 t.l fun y hy => txt_len y 0 (fun z hz => hn z (by rw [flat_eq]; exact List.mem_cons_of_mem _ (good_part hy z hz))) (by have := size_part hy; omega)
  have h2 := lines_len 0 (by omega) (t.l.map (Tr.txt 0))
  have h3 := size_eq t
  have h4 := strs_eq t
  unfold showP
  simp only [List.length_map] at h1 h2 ⊢
  omega
set_option maxRecDepth 100000 in
theorem showE_len (t : Tr) (hn : ∀ y ∈ t.flat, y.n ≤ 9223372036854775807) (hk : t.size ≤ 1500) (hs : t.strs ≤ 10000000) : (showE t).length ≤ 100000000 := by
  have := txt_len t 0 hn (by omega)
  unfold showE
  omega
open Go.Proofs Go.RowKit
theorem at_fine (W : World) (n : Nat) (t : Tr) : ∀ v, At W n t v → ∀ y ∈ t.flat, y.n ≤ 9223372036854775807 := by
  induction t using tree_ind with
  | h t ih =>
    intro v hAt y hy
    rw [At_iff] at hAt
    obtain ⟨u, -, ⟨A, c, -, -, hr⟩, hf⟩ := hAt
    rw [flat_eq] at hy
    rcases List.mem_cons.1 hy with rfl | hy
    · exact hf.2.2.2
    · have key : ∀ (l : List Tr), (∀ x ∈ l, x ∈ t.l) → y ∈ flats l → ∃ x ∈ t.l, y ∈ x.flat := by
        intro l
        induction l with
        | nil => intro _ h; rw [flats_nil] at h; cases h
        | cons a r ihr =>
          intro hl h
          rw [flats_cons, List.mem_append] at h
          rcases h with h | h
          · exact ⟨a, hl a List.mem_cons_self, h⟩
          · exact ihr (fun x hx => hl x (List.mem_cons_of_mem _ hx)) h
      obtain ⟨x, hx, hyx⟩ := key t.l (fun x hx => hx) hy
      obtain ⟨i, hi, ei⟩ := List.mem_iff_getElem.1 hx
      obtain ⟨g, off, -, -, ha⟩ := hr (by omega)
      obtain ⟨v', hv', -⟩ := AtL.get t.l i x ha (by rw [List.getElem?_eq_getElem hi, ei])
      exact ih x (size_part hx) _ hv' y hyx
end Go.Proofs.YtiejpenffpjmeaaDoor
