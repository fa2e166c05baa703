/- A code that comes in. -/
import Derived.Test.YtconnhphkbgbkaaGreatDoorCdRows
import Derived.Deep.Slices
import Derived.Deep.Fields
import Derived.Lib.SmallJoins
import Derived.Carry
namespace Go.Proofs.YtconnhphkbgbkaaGreatDoor
open Go.Joins Go.ChangeShapes Go.WideShapes Go.RowKit Go.Deep

theorem cells2 : Tryz.prog.cellsOf 2 = 1 := by kernel_rfl
theorem cells3 : Tryz.prog.cellsOf 3 = 1 := by kernel_rfl
theorem cells9 : Tryz.prog.cellsOf 9 = 1 := by kernel_rfl
theorem cellsL : Tryz.prog.cellsOf 29 = 1 := by kernel_rfl
theorem cellsI : Tryz.prog.cellsOf 33 = 8 := by kernel_rfl
theorem cellsIs : Tryz.prog.cellsOf 34 = 1 := by kernel_rfl
theorem cellsP : Tryz.prog.cellsOf 36 = 2 := by kernel_rfl
theorem add_none (g o k : Nat) : (⟨g, o, none⟩ : Addr).add k = ⟨g, o + k, none⟩ := by
  cases k with
  | zero => rfl
  | succ k => simp [Addr.add]
variable {H : Type} {enc : TypeId × Value → H} {W : World}
abbrev Tr9 (enc : TypeId × Value → H) (W : World) (fuel : Nat) (T : TypeId) (cs : List Value) (x : DataW H × List MemPlace) : Prop := DataW.trod enc Tryz.prog W 0 (fun _ => true) true fuel T cs = some x
theorem sl_of {α : Type} (k : Nat) (hk : 0 < k) (P : World → List Value → α → Prop) (T et : TypeId) (hu : Tryz.prog.underlying T = some (.slice et)) (hc : Tryz.prog.cellsOf et = k) (hP : ∀ fuel cs x, cs.length = k → Tr9 enc W fuel et cs x → ∃ y, P W cs y)
    (fuel : Nat) (c : Value) (x : DataW H × List MemPlace) (h : Tr9 enc W fuel T [c] x) : ∃ l : List α, SlAt k P W c l := by
  rcases DataW.trod_slice hu h with ⟨e3, u3⟩ | ⟨a, len, cap, elems, rest, m, rfl, e3, u3, hb, hl, hm, hel, hat, -, -⟩
  · obtain ⟨rfl⟩ := List.cons.inj e3
    exact ⟨[], SlAt.nil _ _ _⟩
  · obtain ⟨rfl⟩ := List.cons.inj e3
    rw [hc] at hat
    have hparts : ∀ i, i < len → ∃ y cs, P W cs y ∧ ∀ j, j < k → W.cell? (a.add (i * k + j)) = cs[j]? := by
      intro i hi
      have h1 := hat i hi
      have hsome : elems[i]? = some (elems[i]'(by omega)) := List.getElem?_eq_getElem (by omega)
      rw [hsome] at h1
      cases hcs : W.cells? 0 (a.add (i * k)) k with
      | none => rw [hcs] at h1; cases h1
      | some cs' =>
        rw [hcs] at h1
        obtain ⟨-, hcl, hcat⟩ := World.cells?_some hcs
        obtain ⟨y, hy⟩ := hP m cs' _ hcl h1
        refine ⟨y, cs', hy, fun j hj => ?_⟩
        rw [← Go.Deep.add_add]
        exact hcat j hj
    by_cases h0 : 0 < len
    · obtain ⟨ga, oa, sa⟩ := a
      obtain rfl : sa = none := by
        obtain ⟨y, cs, -, hcell⟩ := hparts 0 h0
        have h1 := hat 0 h0
        cases hcs : W.cells? 0 ((⟨ga, oa, sa⟩ : Addr).add (0 * k)) k with
        | none =>
          rw [hcs] at h1
          rw [List.getElem?_eq_getElem (by omega)] at h1
          cases h1
        | some cs' =>
          obtain ⟨-, hcl, hcat⟩ := World.cells?_some hcs
          have h2 := hcat 0 hk
          rw [List.getElem?_eq_getElem (by omega)] at h2
          have := World.cell?_spot h2
          simpa [Addr.add] using this
      have : Inhabited α := ⟨(hparts 0 h0).choose⟩
      obtain ⟨Y, hY⟩ := choose_lt (α := α) (p := fun i y => ∃ cs, P W cs y ∧ ∀ j, j < k → W.cell? ((⟨ga, oa, none⟩ : Addr).add (i * k + j)) = cs[j]?) hparts
      refine ⟨(List.range len).map Y, _, cap, by simp, ⟨by simpa using hl, hm⟩, fun _ => ⟨ga, oa, rfl, ?_, fun i y hy => ?_⟩⟩
      · obtain ⟨cs, -, hcell⟩ := hY 0 h0
        have h1 := hat 0 h0
        cases hcs : W.cells? 0 ((⟨ga, oa, none⟩ : Addr).add (0 * k)) k with
        | none =>
          rw [hcs] at h1
          rw [List.getElem?_eq_getElem (by omega)] at h1
          cases h1
        | some cs' =>
          obtain ⟨-, hcl, hcat⟩ := World.cells?_some hcs
          have h2 := hcat 0 hk
          rw [List.getElem?_eq_getElem (by omega)] at h2
          have := World.block_lt_of_cell? _ _ h2
          simpa [add_none] using this
      · rw [List.getElem?_map] at hy
        obtain ⟨q, hq, rfl⟩ := Option.map_eq_some_iff.1 hy
        obtain ⟨hq1, hq2⟩ := List.getElem?_eq_some_iff.1 hq
        simp at hq1 hq2
        subst hq2
        obtain ⟨cs, h1, h2⟩ := hY i hq1
        refine ⟨cs, h1, fun j hj => ?_⟩
        have := h2 j hj
        rw [add_none] at this
        rw [Nat.add_assoc]
        exact this
    · obtain rfl : len = 0 := by omega
      exact ⟨[], a, cap, rfl, ⟨Nat.zero_le _, hm⟩, fun h => absurd h (by simp)⟩
theorem i64_of {z : Int} (h : (Lit.int .i64 z).wf = true) : I64 z := by
  have := bounds_i64 h
  unfold I64
  omega
theorem int_of (fuel : Nat) (cs : List Value) (x : DataW H × List MemPlace) (_hl : cs.length = 1) (h : Tr9 enc W fuel 3 cs x) : ∃ y, IntP W cs y := by
  obtain ⟨z, e, -, wz⟩ := DataW.trod_int Tryz.underlying3 h
  exact ⟨z, e, i64_of wz⟩
set_option maxRecDepth 100000 in
theorem ints_of (fuel : Nat) (c : Value) (x : DataW H × List MemPlace) (h : Tr9 enc W fuel 29 [c] x) : ∃ l, Ints9 W c l :=
  sl_of 1 (by decide) IntP 29 3 Tryz.underlying29 cells3 int_of fuel c x h
set_option maxRecDepth 100000 in
theorem ins_of (fuel : Nat) (cs : List Value) (x : DataW H × List MemPlace) (hl : cs.length = 8) (h : Tr9 enc W fuel 33 cs x) : ∃ y, InsP W cs y := by
  obtain ⟨xs, n, rfl, -, hlen, hxl, hf⟩ := DataW.trod_struct Tryz.underlying33 h
  match cs, hl with
  | [c0, c1, c2, c3, c4, c5, c6, c7], _ =>
  match xs, hxl with
  | [y0, y1, y2, y3, y4, y5, y6, y7], _ =>
  have k0 : Tr9 enc W n 3 [c0] y0 := by
    have := hf 0 _ rfl
    change DataW.trod enc Tryz.prog W 0 (fun _ => true) true n 3 (List.take (Tryz.prog.cellsOf 3) (List.drop 0 [c0, c1, c2, c3, c4, c5, c6, c7])) = [y0, y1, y2, y3, y4, y5, y6, y7][0]? at this
    rw [cells3] at this
    exact this
  have k1 : Tr9 enc W n 3 [c1] y1 := by
    have := hf 1 _ rfl
    change DataW.trod enc Tryz.prog W 0 (fun _ => true) true n 3 (List.take (Tryz.prog.cellsOf 3) (List.drop 1 [c0, c1, c2, c3, c4, c5, c6, c7])) = [y0, y1, y2, y3, y4, y5, y6, y7][1]? at this
    rw [cells3] at this
    exact this
  have k2 : Tr9 enc W n 3 [c2] y2 := by
    have := hf 2 _ rfl
    change DataW.trod enc Tryz.prog W 0 (fun _ => true) true n 3 (List.take (Tryz.prog.cellsOf 3) (List.drop 2 [c0, c1, c2, c3, c4, c5, c6, c7])) = [y0, y1, y2, y3, y4, y5, y6, y7][2]? at this
    rw [cells3] at this
    exact this
  have k3 : Tr9 enc W n 3 [c3] y3 := by
    have := hf 3 _ rfl
    change DataW.trod enc Tryz.prog W 0 (fun _ => true) true n 3 (List.take (Tryz.prog.cellsOf 3) (List.drop 3 [c0, c1, c2, c3, c4, c5, c6, c7])) = [y0, y1, y2, y3, y4, y5, y6, y7][3]? at this
    rw [cells3] at this
    exact this
  have k4 : Tr9 enc W n 3 [c4] y4 := by
    have := hf 4 _ rfl
    change DataW.trod enc Tryz.prog W 0 (fun _ => true) true n 3 (List.take (Tryz.prog.cellsOf 3) (List.drop 4 [c0, c1, c2, c3, c4, c5, c6, c7])) = [y0, y1, y2, y3, y4, y5, y6, y7][4]? at this
    rw [cells3] at this
    exact this
  have k5 : Tr9 enc W n 9 [c5] y5 := by
    have := hf 5 _ rfl
    change DataW.trod enc Tryz.prog W 0 (fun _ => true) true n 9 (List.take (Tryz.prog.cellsOf 9) (List.drop 5 [c0, c1, c2, c3, c4, c5, c6, c7])) = [y0, y1, y2, y3, y4, y5, y6, y7][5]? at this
    rw [cells9] at this
    exact this
  have k6 : Tr9 enc W n 2 [c6] y6 := by
    have := hf 6 _ rfl
    change DataW.trod enc Tryz.prog W 0 (fun _ => true) true n 2 (List.take (Tryz.prog.cellsOf 2) (List.drop 6 [c0, c1, c2, c3, c4, c5, c6, c7])) = [y0, y1, y2, y3, y4, y5, y6, y7][6]? at this
    rw [cells2] at this
    exact this
  have k7 : Tr9 enc W n 29 [c7] y7 := by
    have := hf 7 _ rfl
    change DataW.trod enc Tryz.prog W 0 (fun _ => true) true n 29 (List.take (Tryz.prog.cellsOf 29) (List.drop 7 [c0, c1, c2, c3, c4, c5, c6, c7])) = [y0, y1, y2, y3, y4, y5, y6, y7][7]? at this
    rw [cellsL] at this
    exact this
  obtain ⟨z0, e0, -, w0⟩ := DataW.trod_int Tryz.underlying3 k0
  obtain ⟨z1, e1, -, w1⟩ := DataW.trod_int Tryz.underlying3 k1
  obtain ⟨z2, e2, -, w2⟩ := DataW.trod_int Tryz.underlying3 k2
  obtain ⟨z3, e3, -, w3⟩ := DataW.trod_int Tryz.underlying3 k3
  obtain ⟨z4, e4, -, w4⟩ := DataW.trod_int Tryz.underlying3 k4
  obtain ⟨s5, e5, -, w5⟩ := DataW.trod_string Tryz.underlying9 k5
  obtain ⟨z6, e6, -, w6⟩ := DataW.trod_int Tryz.underlying2 k6
  obtain ⟨l7, h7⟩ := ints_of n c7 y7 k7
  obtain ⟨rfl⟩ := List.cons.inj e0
  obtain ⟨rfl⟩ := List.cons.inj e1
  obtain ⟨rfl⟩ := List.cons.inj e2
  obtain ⟨rfl⟩ := List.cons.inj e3
  obtain ⟨rfl⟩ := List.cons.inj e4
  obtain ⟨rfl⟩ := List.cons.inj e5
  obtain ⟨rfl⟩ := List.cons.inj e6
  exact ⟨⟨z0, z1, z2, z3, z4, s5, z6, l7⟩, c7, rfl, h7, ⟨i64_of w0, i64_of w1, i64_of w2, i64_of w3, i64_of w4, i64_of w6⟩, w5⟩
set_option maxRecDepth 100000 in
theorem proc_of (fuel : Nat) (cs : List Value) (x : DataW H × List MemPlace) (hl : cs.length = 2) (h : Tr9 enc W fuel 36 cs x) : ∃ y, ProcP W cs y := by
  obtain ⟨xs, n, rfl, -, hlen, hxl, hf⟩ := DataW.trod_struct Tryz.underlying36 h
  match cs, hl with
  | [c0, c1], _ =>
  match xs, hxl with
  | [y0, y1], _ =>
  have k0 : Tr9 enc W n 3 [c0] y0 := by
    have := hf 0 _ rfl
    change DataW.trod enc Tryz.prog W 0 (fun _ => true) true n 3 (List.take (Tryz.prog.cellsOf 3) (List.drop 0 [c0, c1])) = [y0, y1][0]? at this
    rw [cells3] at this
    exact this
  have k1 : Tr9 enc W n 34 [c1] y1 := by
    have := hf 1 _ rfl
    change DataW.trod enc Tryz.prog W 0 (fun _ => true) true n 34 (List.take (Tryz.prog.cellsOf 34) (List.drop 1 [c0, c1])) = [y0, y1][1]? at this
    rw [cellsIs] at this
    exact this
  obtain ⟨z0, e0, -, w0⟩ := DataW.trod_int Tryz.underlying3 k0
  obtain ⟨l1, h1⟩ := sl_of 8 (by decide) InsP 34 33 Tryz.underlying34 cellsI ins_of n c1 y1 k1
  obtain ⟨rfl⟩ := List.cons.inj e0
  exact ⟨⟨z0, l1⟩, c1, rfl, h1, i64_of w0⟩
set_option maxRecDepth 100000 in
theorem open_code {v : Value} {d : DataW H} {p : List MemPlace} {r : Reach} {b0 : Nat} (hv : Value.okWide Tryz.prog W r b0 22 v) (h : DataW.Trod enc Tryz.prog W 0 (fun _ => true) true 22 v d p) : ∃ l, CodeAt W v l := by
  obtain ⟨A, len, cap, rfl⟩ := okWide_slice Tryz.underlying22 hv
  obtain ⟨fuel, hf⟩ := h
  exact sl_of 2 (by decide) ProcP 22 36 Tryz.underlying22 cellsP proc_of fuel _ _ hf
theorem code_lt {v : Value} {d : DataW H} {p : List MemPlace} (h : DataW.Trod enc Tryz.prog W 0 (fun _ => true) true 22 v d p) : ∀ x ∈ p, x.block < W.heap.size := by
  obtain ⟨m, hm⟩ := h
  exact DataW.trod_lt m _ _ _ hm
end Go.Proofs.YtconnhphkbgbkaaGreatDoor
