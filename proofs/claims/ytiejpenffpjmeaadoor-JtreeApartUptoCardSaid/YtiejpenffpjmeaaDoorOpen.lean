/- How long a tree's text is. No program. A tree that comes in. -/
import Derived.Test.YtiejpenffpjmeaaDoorAll
import Derived.Lib.ItoaLen
import Derived.Test.YtiejpenffpjmeaaDoorBase
import Derived.Deep.Slices
import Derived.Deep.Fields
import Derived.Lib.SmallJoins
import Derived.Carry
namespace Go.Proofs.YtiejpenffpjmeaaDoor
set_option linter.unusedSimpArgs false
set_option linter.unusedVariables false

def lens (ts : List Bs) : Nat := (ts.map List.length).sum
theorem lens_nil : lens [] = 0 := rfl
theorem lens_cons (a : Bs) (r : List Bs) : lens (a :: r) = a.length + lens r := by simp [lens]
theorem commas_len : ∀ ts : List Bs, (commas ts).length ≤ lens ts + 2 * ts.length
  | [] => by simp [commas, lens]
  | [a] => by simp [commas, lens]
  | a :: b :: r => by
    have := commas_len (b :: r)
    rw [commas]
    simp only [List.length_append, List.length_cons, List.length_nil, lens_cons] at this ⊢
    omega
theorem quote_len (s : Bs) : (quoteL s).length ≤ 4 * s.length + 2 := by
  have h : ∀ l : Bs, (l.flatMap quoteB).length ≤ 4 * l.length := by
    intro l
    induction l with
    | nil => simp
    | cons c r ih =>
      have : (quoteB c).length ≤ 4 := by
        unfold quoteB
        repeat (first | split | simp)
      simp only [List.flatMap_cons, List.length_append, List.length_cons]
      omega
  have := h s
  unfold quoteL
  simp only [List.length_append, List.length_cons, List.length_nil]
  omega
theorem func_len (ts : List Bs) : (funcB ts).length ≤ lens ts + 2 * ts.length + 3 := by
  rcases List.eq_nil_or_concat ts with rfl | ⟨xs, b, rfl⟩
  · decide
  · unfold funcB
    have h1 := commas_len xs
    have h2 : lens (xs ++ [b]) = lens xs + b.length := by simp [lens]
    simp only [List.concat_eq_append, List.dropLast_concat, List.length_append, List.length_cons, List.length_nil, List.getLastD_concat] at *
    omega
theorem lens_drop (ts : List Bs) : (at_ ts 0).length + lens (ts.drop 1) ≤ lens ts := by
  cases ts with
  | nil => simp [at_, lens]
  | cons a r => simp [at_, lens_cons]
theorem lens_two (ts : List Bs) : (at_ ts 0).length + (at_ ts 1).length ≤ lens ts := by
  cases ts with
  | nil => simp [at_, lens]
  | cons a r => cases r with
    | nil => simp [at_, lens_cons]
    | cons b r => simp [at_, lens_cons] <;> omega
theorem lens_three (ts : List Bs) : (at_ ts 0).length + ((at_ ts 1).length + (at_ ts 2).length) ≤ lens ts := by
  cases ts with
  | nil => simp [at_, lens]
  | cons a r => cases r with
    | nil => simp [at_, lens_cons]
    | cons b r => cases r with
      | nil => simp [at_, lens_cons]
      | cons c r => simp [at_, lens_cons] <;> omega
theorem head_len (p : Bs) (ts : List Bs) : (match ts with | [] => ([] : Bs) | a :: _ => p ++ a).length ≤ p.length + lens ts := by
  cases ts with
  | nil => simp
  | cons a r => simp [lens_cons] <;> omega
theorem form_len (op : Nat) (s : Bs) (n : Int) (o0 : Int) (ts : List Bs) (hn : n ≤ 9999999999999999999) : (form op s n o0 ts).length ≤ 4 * s.length + (lens ts + 2 * ts.length) + 30 := by
  have h1 := commas_len ts
  have h2 := commas_len (ts.drop 1)
  have h3 := quote_len s
  have h4 := func_len ts
  have h5 := lens_drop ts
  have h6 := lens_two ts
  have h7 := lens_three ts
  have h8 : (ts.drop 1).length ≤ ts.length := by simp
  have h9 := head_len [32, 61, 32] ts
  have h10 := head_len [32] ts
  have h11 : (Lib.decDigits n.toNat).length ≤ 30 := by
    rw [Lib.decDigits_length]
    have := Lib.nDigits_le20 n.toNat (by omega)
    omega
  unfold form
  split <;> (repeat' split) <;> simp only [List.length_append, List.length_cons, List.length_nil] at * <;> omega
mutual
/-- How many bytes its texts have. -/
def Tr.strs : Tr → Nat
  | .mk _ s _ _ l => s.length + strsL l
def strsL : List Tr → Nat
  | [] => 0
  | t :: r => t.strs + strsL r
end
theorem strs_eq (t : Tr) : t.strs = t.s.length + strsL t.l := by cases t; rw [Tr.strs]; rfl
theorem strsL_cons (t : Tr) (r : List Tr) : strsL (t :: r) = t.strs + strsL r := by rw [strsL]
theorem strsL_nil : strsL [] = 0 := by rw [strsL]
theorem lines_len (k : Nat) (hk : k ≤ 1500) : ∀ ts : List Bs, (linesL k ts).length ≤ lens ts + 3001 * ts.length
  | [] => by simp [linesL]
  | a :: r => by
    have := lines_len k hk r
    unfold linesL indentB at *
    simp only [List.flatMap_cons, List.length_append, List.length_replicate, List.length_cons, List.length_nil, lens_cons] at *
    omega
set_option maxRecDepth 100000 in
theorem parts_len (k : Nat) : ∀ l : List Tr, (∀ y ∈ l, (y.txt k).length + 3100 ≤ 4 * y.strs + 6200 * y.size) → lens (l.map (Tr.txt k)) + 3100 * l.length ≤ 4 * strsL l + 6200 * sizes l
  | [], _ => by simp [lens]
  | a :: r, h => by
    have h1 := h a List.mem_cons_self
    have h2 := parts_len k r fun y hy => h y (List.mem_cons_of_mem _ hy)
    rw [List.map_cons, lens_cons, List.length_cons, strsL_cons, sizes_cons, Nat.mul_add, Nat.mul_add, Nat.mul_add, Nat.mul_one]
    clear h
    generalize lens (List.map (Tr.txt k) r) = A at *
    generalize (a.txt k).length = B at *
    generalize a.strs = C at *
    generalize a.size = D at *
    generalize strsL r = E at *
    generalize sizes r = F at *
    generalize r.length = G at *
    omega

set_option maxRecDepth 100000 in
theorem txt_len (t : Tr) : ∀ k, (∀ y ∈ t.flat, y.n ≤ 9223372036854775807) → k + t.size ≤ 1500 → (t.txt k).length + 3100 ≤ 4 * t.strs + 6200 * t.size := by
  induction t using tree_ind with
  | h t ih =>
    intro k hn hk
    have hpart : ∀ y ∈ t.l, ∀ z ∈ y.flat, z.n ≤ 9223372036854775807 := fun y hy z hz => hn z (by rw [flat_eq]; exact List.mem_cons_of_mem _ (good_part hy z hz))
    have h0 : t.n ≤ 9223372036854775807 := hn t (by rw [flat_eq]; exact List.mem_cons_self)
    have hs := size_eq t
    have hst := strs_eq t
    by_cases hop : t.op = 32
    · rw [txt_block k t hop]
      have h1 := parts_len (k + 1) t.l fun y hy => ih y (size_part hy) (k + 1) (hpart y hy) (by have := size_mem hy; omega)
      have h2 := lines_len (k + 1) (by omega) (t.l.map (Tr.txt (k + 1)))
      unfold indentB
      simp only [List.length_append, List.length_replicate, List.length_cons, List.length_nil, List.length_map] at h1 h2 ⊢
      omega
    · rw [txt_form k t hop]
      have h1 := parts_len k t.l fun y hy => ih y (size_part hy) k (hpart y hy) (by have := size_mem hy; omega)
      have h2 := form_len t.op.toNat t.s t.n (op0 t.l) (t.l.map (Tr.txt k)) (by omega)
      simp only [List.length_map] at h1 h2 ⊢
      omega
set_option maxRecDepth 100000 in
theorem showP_len (t : Tr) (hn : ∀ y ∈ t.flat, y.n ≤ 9223372036854775807) (hk : t.size ≤ 1500) (hs : t.strs ≤ 10000000) : (showP t).length ≤ 100000000 := by
  have h1 := parts_len 0 t.l fun y hy => txt_len y 0 (fun z hz => hn z (by rw [flat_eq]; exact List.mem_cons_of_mem _ (good_part hy z hz))) (by have := size_part hy; omega)
  have h2 := lines_len 0 (by omega) (t.l.map (Tr.txt 0))
  have h3 := size_eq t
  have h4 := strs_eq t
  unfold showP
  simp only [List.length_map] at h1 h2 ⊢
  omega
set_option maxRecDepth 100000 in
theorem showE_len (t : Tr) (hn : ∀ y ∈ t.flat, y.n ≤ 9223372036854775807) (hk : t.size ≤ 1500) (hs : t.strs ≤ 10000000) : (showE t).length ≤ 100000000 := by
  have := txt_len t 0 hn (by omega)
  unfold showE
  omega
open Go.Proofs Go.RowKit
theorem at_fine (W : World) (n : Nat) (t : Tr) : ∀ v, At W n t v → ∀ y ∈ t.flat, y.n ≤ 9223372036854775807 := by
  induction t using tree_ind with
  | h t ih =>
    intro v hAt y hy
    rw [At_iff] at hAt
    obtain ⟨u, -, ⟨A, c, -, -, hr⟩, hf⟩ := hAt
    rw [flat_eq] at hy
    rcases List.mem_cons.1 hy with rfl | hy
    · exact hf.2.2.2
    · have key : ∀ (l : List Tr), (∀ x ∈ l, x ∈ t.l) → y ∈ flats l → ∃ x ∈ t.l, y ∈ x.flat := by
        intro l
        induction l with
        | nil => intro _ h; rw [flats_nil] at h; cases h
        | cons a r ihr =>
          intro hl h
          rw [flats_cons, List.mem_append] at h
          rcases h with h | h
          · exact ⟨a, hl a List.mem_cons_self, h⟩
          · exact ihr (fun x hx => hl x (List.mem_cons_of_mem _ hx)) h
      obtain ⟨x, hx, hyx⟩ := key t.l (fun x hx => hx) hy
      obtain ⟨i, hi, ei⟩ := List.mem_iff_getElem.1 hx
      obtain ⟨g, off, -, -, ha⟩ := hr (by omega)
      obtain ⟨v', hv', -⟩ := AtL.get t.l i x ha (by rw [List.getElem?_eq_getElem hi, ei])
      exact ih x (size_part hx) _ hv' y hyx
end Go.Proofs.YtiejpenffpjmeaaDoor

namespace Go.Proofs.YtiejpenffpjmeaaDoor
open Go.Joins Go.ChangeShapes Go.WideShapes Go.RowKit Go.Deep

theorem laidOut : laidOutB Tryd.prog = true := by kernel_rfl
theorem cells24 : Tryd.prog.cellsOf 24 = 5 := by kernel_rfl
theorem cells3 : Tryd.prog.cellsOf 3 = 1 := by kernel_rfl
theorem cells2 : Tryd.prog.cellsOf 2 = 1 := by kernel_rfl
theorem cells9 : Tryd.prog.cellsOf 9 = 1 := by kernel_rfl
theorem cells22 : Tryd.prog.cellsOf 22 = 1 := by kernel_rfl

theorem add_none (g o k : Nat) : (⟨g, o, none⟩ : Addr).add k = ⟨g, o + k, none⟩ := by
  cases k with
  | zero => rfl
  | succ k => simp [Addr.add]
/-- What five cells hold: a tree, its texts of so many bytes at the most. -/
def Holds (W : World) (cs : List Value) (B : Nat) : Prop := ∃ (t : Tr) (v : Value), cs = [.int .i64 t.op, .string (bs t.s), .int .i64 t.n, v, .int .i64 t.line] ∧ At W W.heap.size t (nodeV t v) ∧ t.strs ≤ B

theorem row_of {H : Type} (W : World) (g : Nat) : ∀ (ds : List (DataW H)) (off : Nat), (∀ (i : Nat) (d : DataW H), ds[i]? = some d → ∃ cs, Holds W cs (Rows.uptoBulk d) ∧ ∀ j, j < 5 → W.cell? ⟨g, off + i * 5 + j, none⟩ = cs[j]?) → ∃ l : List Tr, l.length = ds.length ∧ AtL W W.heap.size g off l ∧ strsL l ≤ Rows.uptoBulkAll ds
  | [], off, _ => ⟨[], rfl, AtL_nil _ _ _ _, by rw [strsL_nil]; exact Nat.zero_le _⟩
  | d :: ds, off, h => by
    obtain ⟨l, hl, ha, hs⟩ := row_of W g ds (off + 5) fun i d' hd => by
      obtain ⟨cs, h1, h2⟩ := h (i + 1) d' (by simpa using hd)
      exact ⟨cs, h1, fun j hj => by have := h2 j hj; rw [show off + (i + 1) * 5 + j = off + 5 + i * 5 + j by omega] at this; exact this⟩
    obtain ⟨cs, ⟨t, v, rfl, hat, hst⟩, h2⟩ := h 0 d rfl
    refine ⟨t :: l, by rw [List.length_cons, List.length_cons, hl], ?_, by rw [strsL_cons]; simp only [Rows.uptoBulkAll]; omega⟩
    rw [AtL_cons]
    simp only [Nat.zero_mul, Nat.add_zero] at h2
    exact ⟨⟨v, hat, h2 0 (by decide), h2 1 (by decide), h2 2 (by decide), h2 3 (by decide), h2 4 (by decide)⟩, ha⟩

variable {H : Type} {enc : TypeId × Value → H} {W : World}
theorem holds_of : ∀ (fuel : Nat) (cs : List Value) (x : DataW H × List MemPlace), DataW.trod enc Tryd.prog W 0 (fun _ => true) true fuel 24 cs = some x → Holds W cs (Rows.uptoBulk x.1) := by
  intro fuel
  induction fuel using Nat.strongRecOn with
  | ind fuel ih =>
    intro cs x h
    obtain ⟨xs, n, rfl, hxx, hlen, hxl, hf⟩ := DataW.trod_struct Tryd.underlying24 h
    rw [cells24] at hlen
    match cs, hlen with
    | [c0, c1, c2, c3, c4], _ =>
    match xs, hxl with
    | [y0, y1, y2, y3, y4], _ =>
    have k0 : DataW.trod enc Tryd.prog W 0 (fun _ => true) true n 3 [c0] = some y0 := by
      have := hf 0 _ rfl
      change DataW.trod enc Tryd.prog W 0 (fun _ => true) true n 3 (List.take (Tryd.prog.cellsOf 3) (List.drop 0 [c0, c1, c2, c3, c4])) = [y0, y1, y2, y3, y4][0]? at this
      rw [cells3] at this
      exact this
    have k1 : DataW.trod enc Tryd.prog W 0 (fun _ => true) true n 9 [c1] = some y1 := by
      have := hf 1 _ rfl
      change DataW.trod enc Tryd.prog W 0 (fun _ => true) true n 9 (List.take (Tryd.prog.cellsOf 9) (List.drop 1 [c0, c1, c2, c3, c4])) = [y0, y1, y2, y3, y4][1]? at this
      rw [cells9] at this
      exact this
    have k2 : DataW.trod enc Tryd.prog W 0 (fun _ => true) true n 2 [c2] = some y2 := by
      have := hf 2 _ rfl
      change DataW.trod enc Tryd.prog W 0 (fun _ => true) true n 2 (List.take (Tryd.prog.cellsOf 2) (List.drop 2 [c0, c1, c2, c3, c4])) = [y0, y1, y2, y3, y4][2]? at this
      rw [cells2] at this
      exact this
    have k3 : DataW.trod enc Tryd.prog W 0 (fun _ => true) true n 22 [c3] = some y3 := by
      have := hf 3 _ rfl
      change DataW.trod enc Tryd.prog W 0 (fun _ => true) true n 22 (List.take (Tryd.prog.cellsOf 22) (List.drop 3 [c0, c1, c2, c3, c4])) = [y0, y1, y2, y3, y4][3]? at this
      rw [cells22] at this
      exact this
    have k4 : DataW.trod enc Tryd.prog W 0 (fun _ => true) true n 3 [c4] = some y4 := by
      have := hf 4 _ rfl
      change DataW.trod enc Tryd.prog W 0 (fun _ => true) true n 3 (List.take (Tryd.prog.cellsOf 3) (List.drop 4 [c0, c1, c2, c3, c4])) = [y0, y1, y2, y3, y4][4]? at this
      rw [cells3] at this
      exact this
    obtain ⟨z0, e0, u0, w0⟩ := DataW.trod_int Tryd.underlying3 k0
    obtain ⟨s1, e1, u1, w1⟩ := DataW.trod_string Tryd.underlying9 k1
    obtain ⟨z2, e2, u2, w2⟩ := DataW.trod_int Tryd.underlying2 k2
    obtain ⟨z4, e4, u4, w4⟩ := DataW.trod_int Tryd.underlying3 k4
    obtain ⟨rfl⟩ := List.cons.inj e0
    obtain ⟨rfl⟩ := List.cons.inj e1
    obtain ⟨rfl⟩ := List.cons.inj e2
    obtain ⟨rfl⟩ := List.cons.inj e4
    have hfine : Fine z0 s1.data.toList z2 := by
      refine ⟨?_, ?_, ?_⟩
      · rw [Array.length_toList]
        exact w1
      · have := bounds_i64 w0
        omega
      · have := bounds_i64 w2
        omega
    have hbs : bs s1.data.toList = s1 := by cases s1; rfl
    have hbulk : s1.data.toList.length + Rows.uptoBulk y3.1 ≤ Rows.uptoBulk x.1 := by
      rw [hxx]
      simp only [List.map_cons, List.map_nil, Rows.uptoBulk, Rows.uptoBulkAll, u1]
      omega
    rcases DataW.trod_slice Tryd.underlying22 k3 with ⟨e3, u3⟩ | ⟨a, len, cap, elems, rest, m, rfl, e3, u3, hb, hl, hm, hel, hat, -, -⟩
    · obtain ⟨rfl⟩ := List.cons.inj e3
      refine ⟨.mk z0 s1.data.toList z2 z4 [], .slice none 0 0, by simp [hbs], ?_, by rw [strs_eq]; show s1.data.toList.length + strsL [] ≤ _; rw [strsL_nil]; omega⟩
      exact at_lit (.mk z0 s1.data.toList z2 z4 []) _ (row_none _ _) hfine
    · obtain ⟨rfl⟩ := List.cons.inj e3
      rw [cells24] at hat
      have hparts : ∀ i (hi : i < len), ∃ cs, Holds W cs (Rows.uptoBulk (elems[i]'(by omega)).1) ∧ ∀ j, j < 5 → W.cell? (a.add (i * 5 + j)) = cs[j]? := by
        intro i hi
        have h1 := hat i hi
        have hsome : elems[i]? = some (elems[i]'(by omega)) := List.getElem?_eq_getElem (by omega)
        rw [hsome] at h1
        cases hc : W.cells? 0 (a.add (i * 5)) 5 with
        | none => rw [hc] at h1; cases h1
        | some cs' =>
          rw [hc] at h1
          obtain ⟨-, hcl, hcat⟩ := World.cells?_some hc
          refine ⟨cs', ih m (by omega) cs' _ h1, fun j hj => ?_⟩
          rw [← Go.Deep.add_add]
          exact hcat j hj
      have hspot : 0 < len → a.spot = none := by
        intro h0
        obtain ⟨cs, ⟨t, v, rfl, -⟩, hc⟩ := hparts 0 h0
        have := World.cell?_spot (hc 0 (by decide))
        simpa [Addr.add] using this
      obtain ⟨ga, oa, sa⟩ := a
      by_cases h0 : 0 < len
      · obtain rfl : sa = none := hspot h0
        have hparts2 : ∀ (i : Nat) (d : DataW H), (elems.map (·.1))[i]? = some d → ∃ cs, Holds W cs (Rows.uptoBulk d) ∧ ∀ j, j < 5 → W.cell? ⟨ga, oa + i * 5 + j, none⟩ = cs[j]? := by
          intro i d hd
          obtain ⟨hi, ei⟩ := List.getElem?_eq_some_iff.1 hd
          rw [List.getElem_map] at ei
          rw [List.length_map] at hi
          obtain ⟨cs, h1, h2⟩ := hparts i (by omega)
          rw [ei] at h1
          refine ⟨cs, h1, fun j hj => ?_⟩
          have := h2 j hj
          rw [show oa + i * 5 + j = oa + (i * 5 + j) by omega, ← add_none]
          exact this
        obtain ⟨l, hll, hal, hls⟩ := row_of W ga (elems.map (·.1)) oa hparts2
        rw [List.length_map, hel] at hll
        have hgl : ga < W.heap.size := by
          obtain ⟨cs, ⟨t, v, rfl, -⟩, hc⟩ := hparts2 0 ((elems[0]'(by omega)).1) (by rw [List.getElem?_map, List.getElem?_eq_getElem (by omega)]; rfl)
          have h9 := hc 0 (by decide)
          rcases Nat.lt_or_ge ga W.heap.size with h | h
          · exact h
          · have : W.heap[ga]? = none := Array.getElem?_eq_none h
            simp [World.cell?, this] at h9
        subst hll
        refine ⟨.mk z0 s1.data.toList z2 z4 l, .slice (some ⟨ga, oa, none⟩) l.length cap, by simp [hbs], ?_, by rw [strs_eq]; show s1.data.toList.length + strsL l ≤ _; rw [u3] at hbulk; simp only [Rows.uptoBulk] at hbulk; omega⟩
        exact at_lit (.mk z0 s1.data.toList z2 z4 l) _ ⟨_, cap, rfl, ⟨hl, hm⟩, fun _ => ⟨ga, oa, rfl, hgl, hal⟩⟩ hfine
      · obtain rfl : len = 0 := by omega
        refine ⟨.mk z0 s1.data.toList z2 z4 [], .slice (some ⟨ga, oa, sa⟩) 0 cap, by simp [hbs], ?_, by rw [strs_eq]; show s1.data.toList.length + strsL [] ≤ _; rw [strsL_nil]; omega⟩
        exact at_lit (.mk z0 s1.data.toList z2 z4 []) _ ⟨_, cap, rfl, ⟨hl, hm⟩, fun h => absurd h (by simp)⟩ hfine

/-- A tree that comes in, by value. -/
theorem open_node {r : Reach} {b0 : Nat} {v : Value} {d : DataW H} {p : List MemPlace} (hv : Value.okWide Tryd.prog W r b0 24 v) (h : DataW.Trod enc Tryd.prog W 0 (fun _ => true) true 24 v d p) :
    ∃ t : Tr, At W W.heap.size t v ∧ t.strs ≤ Rows.uptoBulk d := by
  obtain ⟨cs, rfl, -⟩ := okWide_struct Tryd.underlying24 hv
  obtain ⟨fuel, hf⟩ := h
  obtain ⟨t, u, e, hAt, hst⟩ := holds_of fuel _ _ hf
  refine ⟨t, ?_, hst⟩
  have : cs = #[.int .i64 t.op, .string (bs t.s), .int .i64 t.n, u, .int .i64 t.line] := by
    apply Array.toList_inj.1
    exact e
  rw [this]
  exact hAt
theorem node_lt {v : Value} {d : DataW H} {p : List MemPlace} (h : DataW.Trod enc Tryd.prog W 0 (fun _ => true) true 24 v d p) : ∀ x ∈ p, x.block < W.heap.size := by
  obtain ⟨m, hm⟩ := h
  exact DataW.trod_lt m _ _ _ hm
end Go.Proofs.YtiejpenffpjmeaaDoor
