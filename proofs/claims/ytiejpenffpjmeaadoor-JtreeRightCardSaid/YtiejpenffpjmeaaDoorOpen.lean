/- A tree that comes in. -/
import Derived.Test.YtiejpenffpjmeaaDoorBase
import Derived.Test.YtiejpenffpjmeaaDoorBound
import Derived.Deep.Slices
import Derived.Deep.Fields
import Derived.Lib.SmallJoins
import Derived.Carry
namespace Go.Proofs.YtiejpenffpjmeaaDoor
open Go.Joins Go.ChangeShapes Go.WideShapes Go.RowKit Go.Deep

theorem laidOut : laidOutB Tryd.prog = true := by kernel_rfl
theorem cells24 : Tryd.prog.cellsOf 24 = 5 := by kernel_rfl
theorem cells3 : Tryd.prog.cellsOf 3 = 1 := by kernel_rfl
theorem cells2 : Tryd.prog.cellsOf 2 = 1 := by kernel_rfl
theorem cells9 : Tryd.prog.cellsOf 9 = 1 := by kernel_rfl
theorem cells22 : Tryd.prog.cellsOf 22 = 1 := by kernel_rfl

theorem add_none (g o k : Nat) : (⟨g, o, none⟩ : Addr).add k = ⟨g, o + k, none⟩ := by
  cases k with
  | zero => rfl
  | succ k => simp [Addr.add]
/-- What five cells hold: a tree, its texts of so many bytes at the most. -/
def Holds (W : World) (cs : List Value) (B : Nat) : Prop := ∃ (t : Tr) (v : Value), cs = [.int .i64 t.op, .string (bs t.s), .int .i64 t.n, v, .int .i64 t.line] ∧ At W W.heap.size t (nodeV t v) ∧ t.strs ≤ B

theorem row_of {H : Type} (W : World) (g : Nat) : ∀ (ds : List (DataW H)) (off : Nat), (∀ (i : Nat) (d : DataW H), ds[i]? = some d → ∃ cs, Holds W cs (Rows.uptoBulk d) ∧ ∀ j, j < 5 → W.cell? ⟨g, off + i * 5 + j, none⟩ = cs[j]?) → ∃ l : List Tr, l.length = ds.length ∧ AtL W W.heap.size g off l ∧ strsL l ≤ Rows.uptoBulkAll ds
  | [], off, _ => ⟨[], rfl, AtL_nil _ _ _ _, by rw [strsL_nil]; exact Nat.zero_le _⟩
  | d :: ds, off, h => by
    obtain ⟨l, hl, ha, hs⟩ := row_of W g ds (off + 5) fun i d' hd => by
      obtain ⟨cs, h1, h2⟩ := h (i + 1) d' (by simpa using hd)
      exact ⟨cs, h1, fun j hj => by have := h2 j hj; rw [show off + (i + 1) * 5 + j = off + 5 + i * 5 + j by omega] at this; exact this⟩
    obtain ⟨cs, ⟨t, v, rfl, hat, hst⟩, h2⟩ := h 0 d rfl
    refine ⟨t :: l, by rw [List.length_cons, List.length_cons, hl], ?_, by rw [strsL_cons]; simp only [Rows.uptoBulkAll]; omega⟩
    rw [AtL_cons]
    simp only [Nat.zero_mul, Nat.add_zero] at h2
    exact ⟨⟨v, hat, h2 0 (by decide), h2 1 (by decide), h2 2 (by decide), h2 3 (by decide), h2 4 (by decide)⟩, ha⟩

variable {H : Type} {enc : TypeId × Value → H} {W : World}
theorem holds_of : ∀ (fuel : Nat) (cs : List Value) (x : DataW H × List MemPlace), DataW.trod enc Tryd.prog W 0 (fun _ => true) true fuel 24 cs = some x → Holds W cs (Rows.uptoBulk x.1) := by
  intro fuel
  induction fuel using Nat.strongRecOn with
  | ind fuel ih =>
    intro cs x h
    obtain ⟨xs, n, rfl, hxx, hlen, hxl, hf⟩ := DataW.trod_struct Tryd.underlying24 h
    rw [cells24] at hlen
    match cs, hlen with
    | [c0, c1, c2, c3, c4], _ =>
    match xs, hxl with
    | [y0, y1, y2, y3, y4], _ =>
    have k0 : DataW.trod enc Tryd.prog W 0 (fun _ => true) true n 3 [c0] = some y0 := by
      have := hf 0 _ rfl
      change DataW.trod enc Tryd.prog W 0 (fun _ => true) true n 3 (List.take (Tryd.prog.cellsOf 3) (List.drop 0 [c0, c1, c2, c3, c4])) = [y0, y1, y2, y3, y4][0]? at this
      rw [cells3] at this
      exact this
    have k1 : DataW.trod enc Tryd.prog W 0 (fun _ => true) true n 9 [c1] = some y1 := by
      have := hf 1 _ rfl
      change DataW.trod enc Tryd.prog W 0 (fun _ => true) true n 9 (List.take (Tryd.prog.cellsOf 9) (List.drop 1 [c0, c1, c2, c3, c4])) = [y0, y1, y2, y3, y4][1]? at this
      rw [cells9] at this
      exact this
    have k2 : DataW.trod enc Tryd.prog W 0 (fun _ => true) true n 2 [c2] = some y2 := by
      have := hf 2 _ rfl
      change DataW.trod enc Tryd.prog W 0 (fun _ => true) true n 2 (List.take (Tryd.prog.cellsOf 2) (List.drop 2 [c0, c1, c2, c3, c4])) = [y0, y1, y2, y3, y4][2]? at this
      rw [cells2] at this
      exact this
    have k3 : DataW.trod enc Tryd.prog W 0 (fun _ => true) true n 22 [c3] = some y3 := by
      have := hf 3 _ rfl
      change DataW.trod enc Tryd.prog W 0 (fun _ => true) true n 22 (List.take (Tryd.prog.cellsOf 22) (List.drop 3 [c0, c1, c2, c3, c4])) = [y0, y1, y2, y3, y4][3]? at this
      rw [cells22] at this
      exact this
    have k4 : DataW.trod enc Tryd.prog W 0 (fun _ => true) true n 3 [c4] = some y4 := by
      have := hf 4 _ rfl
      change DataW.trod enc Tryd.prog W 0 (fun _ => true) true n 3 (List.take (Tryd.prog.cellsOf 3) (List.drop 4 [c0, c1, c2, c3, c4])) = [y0, y1, y2, y3, y4][4]? at this
      rw [cells3] at this
      exact this
    obtain ⟨z0, e0, u0, w0⟩ := DataW.trod_int Tryd.underlying3 k0
    obtain ⟨s1, e1, u1, w1⟩ := DataW.trod_string Tryd.underlying9 k1
    obtain ⟨z2, e2, u2, w2⟩ := DataW.trod_int Tryd.underlying2 k2
    obtain ⟨z4, e4, u4, w4⟩ := DataW.trod_int Tryd.underlying3 k4
    obtain ⟨rfl⟩ := List.cons.inj e0
    obtain ⟨rfl⟩ := List.cons.inj e1
    obtain ⟨rfl⟩ := List.cons.inj e2
    obtain ⟨rfl⟩ := List.cons.inj e4
    have hfine : Fine z0 s1.data.toList z2 := by
      refine ⟨?_, ?_, ?_⟩
      · rw [Array.length_toList]
        exact w1
      · have := bounds_i64 w0
        omega
      · have := bounds_i64 w2
        omega
    have hbs : bs s1.data.toList = s1 := by cases s1; rfl
    have hbulk : s1.data.toList.length + Rows.uptoBulk y3.1 ≤ Rows.uptoBulk x.1 := by
      rw [hxx]
      simp only [List.map_cons, List.map_nil, Rows.uptoBulk, Rows.uptoBulkAll, u1]
      omega
    rcases DataW.trod_slice Tryd.underlying22 k3 with ⟨e3, u3⟩ | ⟨a, len, cap, elems, rest, m, rfl, e3, u3, hb, hl, hm, hel, hat, -, -⟩
    · obtain ⟨rfl⟩ := List.cons.inj e3
      refine ⟨.mk z0 s1.data.toList z2 z4 [], .slice none 0 0, by simp [hbs], ?_, by rw [strs_eq]; show s1.data.toList.length + strsL [] ≤ _; rw [strsL_nil]; omega⟩
      exact at_lit (.mk z0 s1.data.toList z2 z4 []) _ (row_none _ _) hfine
    · obtain ⟨rfl⟩ := List.cons.inj e3
      rw [cells24] at hat
      have hparts : ∀ i (hi : i < len), ∃ cs, Holds W cs (Rows.uptoBulk (elems[i]'(by omega)).1) ∧ ∀ j, j < 5 → W.cell? (a.add (i * 5 + j)) = cs[j]? := by
        intro i hi
        have h1 := hat i hi
        have hsome : elems[i]? = some (elems[i]'(by omega)) := List.getElem?_eq_getElem (by omega)
        rw [hsome] at h1
        cases hc : W.cells? 0 (a.add (i * 5)) 5 with
        | none => rw [hc] at h1; cases h1
        | some cs' =>
          rw [hc] at h1
          obtain ⟨-, hcl, hcat⟩ := World.cells?_some hc
          refine ⟨cs', ih m (by omega) cs' _ h1, fun j hj => ?_⟩
          rw [← Go.Deep.add_add]
          exact hcat j hj
      have hspot : 0 < len → a.spot = none := by
        intro h0
        obtain ⟨cs, ⟨t, v, rfl, -⟩, hc⟩ := hparts 0 h0
        have := World.cell?_spot (hc 0 (by decide))
        simpa [Addr.add] using this
      obtain ⟨ga, oa, sa⟩ := a
      by_cases h0 : 0 < len
      · obtain rfl : sa = none := hspot h0
        have hparts2 : ∀ (i : Nat) (d : DataW H), (elems.map (·.1))[i]? = some d → ∃ cs, Holds W cs (Rows.uptoBulk d) ∧ ∀ j, j < 5 → W.cell? ⟨ga, oa + i * 5 + j, none⟩ = cs[j]? := by
          intro i d hd
          obtain ⟨hi, ei⟩ := List.getElem?_eq_some_iff.1 hd
          rw [List.getElem_map] at ei
          rw [List.length_map] at hi
          obtain ⟨cs, h1, h2⟩ := hparts i (by omega)
          rw [ei] at h1
          refine ⟨cs, h1, fun j hj => ?_⟩
          have := h2 j hj
          rw [show oa + i * 5 + j = oa + (i * 5 + j) by omega, ← add_none]
          exact this
        obtain ⟨l, hll, hal, hls⟩ := row_of W ga (elems.map (·.1)) oa hparts2
        rw [List.length_map, hel] at hll
        have hgl : ga < W.heap.size := by
          obtain ⟨cs, ⟨t, v, rfl, -⟩, hc⟩ := hparts2 0 ((elems[0]'(by omega)).1) (by rw [List.getElem?_map, List.getElem?_eq_getElem (by omega)]; rfl)
          have h9 := hc 0 (by decide)
          rcases Nat.lt_or_ge ga W.heap.size with h | h
          · exact h
          · have : W.heap[ga]? = none := Array.getElem?_eq_none h
            simp [World.cell?, this] at h9
        subst hll
        refine ⟨.mk z0 s1.data.toList z2 z4 l, .slice (some ⟨ga, oa, none⟩) l.length cap, by simp [hbs], ?_, by rw [strs_eq]; show s1.data.toList.length + strsL l ≤ _; rw [u3] at hbulk; simp only [Rows.uptoBulk] at hbulk; omega⟩
        exact at_lit (.mk z0 s1.data.toList z2 z4 l) _ ⟨_, cap, rfl, ⟨hl, hm⟩, fun _ => ⟨ga, oa, rfl, hgl, hal⟩⟩ hfine
      · obtain rfl : len = 0 := by omega
        refine ⟨.mk z0 s1.data.toList z2 z4 [], .slice (some ⟨ga, oa, sa⟩) 0 cap, by simp [hbs], ?_, by rw [strs_eq]; show s1.data.toList.length + strsL [] ≤ _; rw [strsL_nil]; omega⟩
        exact at_lit (.mk z0 s1.data.toList z2 z4 []) _ ⟨_, cap, rfl, ⟨hl, hm⟩, fun h => absurd h (by simp)⟩ hfine

/-- A tree that comes in, by value. -/
theorem open_node {r : Reach} {b0 : Nat} {v : Value} {d : DataW H} {p : List MemPlace} (hv : Value.okWide Tryd.prog W r b0 24 v) (h : DataW.Trod enc Tryd.prog W 0 (fun _ => true) true 24 v d p) :
    ∃ t : Tr, At W W.heap.size t v ∧ t.strs ≤ Rows.uptoBulk d := by
  obtain ⟨cs, rfl, -⟩ := okWide_struct Tryd.underlying24 hv
  obtain ⟨fuel, hf⟩ := h
  obtain ⟨t, u, e, hAt, hst⟩ := holds_of fuel _ _ hf
  refine ⟨t, ?_, hst⟩
  have : cs = #[.int .i64 t.op, .string (bs t.s), .int .i64 t.n, u, .int .i64 t.line] := by
    apply Array.toList_inj.1
    exact e
  rw [this]
  exact hAt
theorem node_lt {v : Value} {d : DataW H} {p : List MemPlace} (h : DataW.Trod enc Tryd.prog W 0 (fun _ => true) true 24 v d p) : ∀ x ∈ p, x.block < W.heap.size := by
  obtain ⟨m, hm⟩ := h
  exact DataW.trod_lt m _ _ _ hm
end Go.Proofs.YtiejpenffpjmeaaDoor
