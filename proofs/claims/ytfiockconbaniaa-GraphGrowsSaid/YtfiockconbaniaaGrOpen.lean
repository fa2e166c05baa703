/- Edges and facts that come in. -/
import Derived.Test.YtfiockconbaniaaGrRows
import Derived.Test.YtfiockconbaniaaRows
import Derived.WalkKit
import Derived.ProofKit
import Derived.OpenShut
import Derived.ShutString
import Derived.ChangeOld
import Derived.Below
import Derived.Deep.Slices
import Derived.Deep.Fields
import Derived.Lib.SmallJoins
import Derived.Carry
namespace Go.Proofs.Ytfiockconbaniaa
set_option linter.unusedSimpArgs false
set_option linter.unusedVariables false
open Go.Joins Go.ChangeShapes Go.WideShapes Go.RowKit Go.Deep
open Go.ChangeMaps (shut_string)

theorem cells3 : Try.prog.cellsOf 3 = 1 := by kernel_rfl
theorem cells9 : Try.prog.cellsOf 9 = 1 := by kernel_rfl
theorem cellsE : Try.prog.cellsOf 44 = 3 := by kernel_rfl
theorem cellsF : Try.prog.cellsOf 49 = 4 := by kernel_rfl
theorem add_none (g o k : Nat) : (⟨g, o, none⟩ : Addr).add k = ⟨g, o + k, none⟩ := by
  cases k with
  | zero => rfl
  | succ k => simp [Addr.add]
variable {H : Type} {enc : TypeId × Value → H} {W : World}
abbrev Tr9 (enc : TypeId × Value → H) (W : World) (fuel : Nat) (T : TypeId) (cs : List Value) (x : DataW H × List MemPlace) : Prop := DataW.trod enc Try.prog W 0 (fun _ => true) true fuel T cs = some x
theorem sl_of {α : Type} (k : Nat) (hk : 0 < k) (P : World → List Value → α → Prop) (T et : TypeId) (hu : Try.prog.underlying T = some (.slice et)) (hc : Try.prog.cellsOf et = k) (hP : ∀ fuel cs x, cs.length = k → Tr9 enc W fuel et cs x → ∃ y, P W cs y)
    (fuel : Nat) (c : Value) (x : DataW H × List MemPlace) (h : Tr9 enc W fuel T [c] x) : ∃ l : List α, SlAt k P W c l := by
  rcases DataW.trod_slice hu h with ⟨e3, u3⟩ | ⟨a, len, cap, elems, rest, m, rfl, e3, u3, hb, hl, hm, hel, hat, -, -⟩
  · obtain ⟨rfl⟩ := List.cons.inj e3
    exact ⟨[], SlAt.nil _ _ _⟩
  · obtain ⟨rfl⟩ := List.cons.inj e3
    rw [hc] at hat
    have hparts : ∀ i, i < len → ∃ y cs, P W cs y ∧ ∀ j, j < k → W.cell? (a.add (i * k + j)) = cs[j]? := by
      intro i hi
      have h1 := hat i hi
      have hsome : elems[i]? = some (elems[i]'(by omega)) := List.getElem?_eq_getElem (by omega)
      rw [hsome] at h1
      cases hcs : W.cells? 0 (a.add (i * k)) k with
      | none => rw [hcs] at h1; cases h1
      | some cs' =>
        rw [hcs] at h1
        obtain ⟨-, hcl, hcat⟩ := World.cells?_some hcs
        obtain ⟨y, hy⟩ := hP m cs' _ hcl h1
        refine ⟨y, cs', hy, fun j hj => ?_⟩
        rw [← Go.Deep.add_add]
        exact hcat j hj
    by_cases h0 : 0 < len
    · obtain ⟨ga, oa, sa⟩ := a
      obtain rfl : sa = none := by
        obtain ⟨y, cs, -, hcell⟩ := hparts 0 h0
        have h1 := hat 0 h0
        cases hcs : W.cells? 0 ((⟨ga, oa, sa⟩ : Addr).add (0 * k)) k with
        | none =>
          rw [hcs] at h1
          rw [List.getElem?_eq_getElem (by omega)] at h1
          cases h1
        | some cs' =>
          obtain ⟨-, hcl, hcat⟩ := World.cells?_some hcs
          have h2 := hcat 0 hk
          rw [List.getElem?_eq_getElem (by omega)] at h2
          have := World.cell?_spot h2
          simpa [Addr.add] using this
      have : Inhabited α := ⟨(hparts 0 h0).choose⟩
      obtain ⟨Y, hY⟩ := choose_lt (α := α) (p := fun i y => ∃ cs, P W cs y ∧ ∀ j, j < k → W.cell? ((⟨ga, oa, none⟩ : Addr).add (i * k + j)) = cs[j]?) hparts
      refine ⟨(List.range len).map Y, _, cap, by simp, ⟨by simpa using hl, hm⟩, fun _ => ⟨ga, oa, rfl, ?_, fun i y hy => ?_⟩⟩
      · obtain ⟨cs, -, hcell⟩ := hY 0 h0
        have h1 := hat 0 h0
        cases hcs : W.cells? 0 ((⟨ga, oa, none⟩ : Addr).add (0 * k)) k with
        | none =>
          rw [hcs] at h1
          rw [List.getElem?_eq_getElem (by omega)] at h1
          cases h1
        | some cs' =>
          obtain ⟨-, hcl, hcat⟩ := World.cells?_some hcs
          have h2 := hcat 0 hk
          rw [List.getElem?_eq_getElem (by omega)] at h2
          have := World.block_lt_of_cell? _ _ h2
          simpa [add_none] using this
      · rw [List.getElem?_map] at hy
        obtain ⟨q, hq, rfl⟩ := Option.map_eq_some_iff.1 hy
        obtain ⟨hq1, hq2⟩ := List.getElem?_eq_some_iff.1 hq
        simp at hq1 hq2
        subst hq2
        obtain ⟨cs, h1, h2⟩ := hY i hq1
        refine ⟨cs, h1, fun j hj => ?_⟩
        have := h2 j hj
        rw [add_none] at this
        rw [Nat.add_assoc]
        exact this
    · obtain rfl : len = 0 := by omega
      exact ⟨[], a, cap, rfl, ⟨Nat.zero_le _, hm⟩, fun h => absurd h (by simp)⟩
theorem i64_of {z : Int} (h : (Lit.int .i64 z).wf = true) : I64 z := by
  have := bounds_i64 h
  unfold I64
  omega
theorem int_of (fuel : Nat) (cs : List Value) (x : DataW H × List MemPlace) (_hl : cs.length = 1) (h : Tr9 enc W fuel 3 cs x) : ∃ y, IntP W cs y := by
  obtain ⟨z, e, -, wz⟩ := DataW.trod_int Try.underlying3 h
  exact ⟨z, e, i64_of wz⟩
set_option maxRecDepth 100000 in
theorem ed_of (fuel : Nat) (cs : List Value) (x : DataW H × List MemPlace) (hl : cs.length = 3) (h : Tr9 enc W fuel 44 cs x) : ∃ y, EdP W cs y := by
  obtain ⟨xs, n, rfl, -, hlen, hxl, hf⟩ := DataW.trod_struct Try.underlying44 h
  match cs, hl with
  | [c0, c1, c2], _ =>
  match xs, hxl with
  | [y0, y1, y2], _ =>
  have k0 : Tr9 enc W n 3 [c0] y0 := by
    have := hf 0 _ rfl
    change DataW.trod enc Try.prog W 0 (fun _ => true) true n 3 (List.take (Try.prog.cellsOf 3) (List.drop 0 [c0, c1, c2])) = [y0, y1, y2][0]? at this
    rw [cells3] at this
    exact this
  have k1 : Tr9 enc W n 3 [c1] y1 := by
    have := hf 1 _ rfl
    change DataW.trod enc Try.prog W 0 (fun _ => true) true n 3 (List.take (Try.prog.cellsOf 3) (List.drop 1 [c0, c1, c2])) = [y0, y1, y2][1]? at this
    rw [cells3] at this
    exact this
  have k2 : Tr9 enc W n 3 [c2] y2 := by
    have := hf 2 _ rfl
    change DataW.trod enc Try.prog W 0 (fun _ => true) true n 3 (List.take (Try.prog.cellsOf 3) (List.drop 2 [c0, c1, c2])) = [y0, y1, y2][2]? at this
    rw [cells3] at this
    exact this
  obtain ⟨z0, e0, -, w0⟩ := DataW.trod_int Try.underlying3 k0
  obtain ⟨z1, e1, -, w1⟩ := DataW.trod_int Try.underlying3 k1
  obtain ⟨z2, e2, -, w2⟩ := DataW.trod_int Try.underlying3 k2
  obtain ⟨rfl⟩ := List.cons.inj e0
  obtain ⟨rfl⟩ := List.cons.inj e1
  obtain ⟨rfl⟩ := List.cons.inj e2
  exact ⟨⟨z0, z1, z2⟩, rfl, i64_of w0, i64_of w1, i64_of w2⟩
set_option maxRecDepth 100000 in
theorem ft_of (fuel : Nat) (cs : List Value) (x : DataW H × List MemPlace) (hl : cs.length = 4) (h : Tr9 enc W fuel 49 cs x) : ∃ y, FtP W cs y := by
  obtain ⟨xs, n, rfl, -, hlen, hxl, hf⟩ := DataW.trod_struct Try.underlying49 h
  match cs, hl with
  | [c0, c1, c2, c3], _ =>
  match xs, hxl with
  | [y0, y1, y2, y3], _ =>
  have k0 : Tr9 enc W n 3 [c0] y0 := by
    have := hf 0 _ rfl
    change DataW.trod enc Try.prog W 0 (fun _ => true) true n 3 (List.take (Try.prog.cellsOf 3) (List.drop 0 [c0, c1, c2, c3])) = [y0, y1, y2, y3][0]? at this
    rw [cells3] at this
    exact this
  have k1 : Tr9 enc W n 3 [c1] y1 := by
    have := hf 1 _ rfl
    change DataW.trod enc Try.prog W 0 (fun _ => true) true n 3 (List.take (Try.prog.cellsOf 3) (List.drop 1 [c0, c1, c2, c3])) = [y0, y1, y2, y3][1]? at this
    rw [cells3] at this
    exact this
  have k2 : Tr9 enc W n 9 [c2] y2 := by
    have := hf 2 _ rfl
    change DataW.trod enc Try.prog W 0 (fun _ => true) true n 9 (List.take (Try.prog.cellsOf 9) (List.drop 2 [c0, c1, c2, c3])) = [y0, y1, y2, y3][2]? at this
    rw [cells9] at this
    exact this
  have k3 : Tr9 enc W n 3 [c3] y3 := by
    have := hf 3 _ rfl
    change DataW.trod enc Try.prog W 0 (fun _ => true) true n 3 (List.take (Try.prog.cellsOf 3) (List.drop 3 [c0, c1, c2, c3])) = [y0, y1, y2, y3][3]? at this
    rw [cells3] at this
    exact this
  obtain ⟨z0, e0, -, w0⟩ := DataW.trod_int Try.underlying3 k0
  obtain ⟨z1, e1, -, w1⟩ := DataW.trod_int Try.underlying3 k1
  obtain ⟨z2, e2, -, w2⟩ := DataW.trod_string Try.underlying9 k2
  obtain ⟨z3, e3, -, w3⟩ := DataW.trod_int Try.underlying3 k3
  obtain ⟨rfl⟩ := List.cons.inj e0
  obtain ⟨rfl⟩ := List.cons.inj e1
  obtain ⟨rfl⟩ := List.cons.inj e2
  obtain ⟨rfl⟩ := List.cons.inj e3
  exact ⟨⟨z0, z1, z2, z3⟩, rfl, i64_of w0, i64_of w1, w2, i64_of w3⟩
set_option maxRecDepth 100000 in
theorem open_edges {v : Value} {d : DataW H} {p : List MemPlace} {r : Reach} {b0 : Nat} (hv : Value.okWide Try.prog W r b0 30 v) (h : DataW.Trod enc Try.prog W 0 (fun _ => true) true 30 v d p) : ∃ l, Edges9 W v l := by
  obtain ⟨A, len, cap, rfl⟩ := okWide_slice Try.underlying30 hv
  obtain ⟨fuel, hf⟩ := h
  exact sl_of 3 (by decide) EdP 30 44 Try.underlying30 cellsE ed_of fuel _ _ hf
set_option maxRecDepth 100000 in
theorem open_facts {v : Value} {d : DataW H} {p : List MemPlace} {r : Reach} {b0 : Nat} (hv : Value.okWide Try.prog W r b0 26 v) (h : DataW.Trod enc Try.prog W 0 (fun _ => true) true 26 v d p) : ∃ l, Facts9 W v l := by
  obtain ⟨A, len, cap, rfl⟩ := okWide_slice Try.underlying26 hv
  obtain ⟨fuel, hf⟩ := h
  exact sl_of 4 (by decide) FtP 26 49 Try.underlying26 cellsF ft_of fuel _ _ hf
theorem rows_lt {T : TypeId} {v : Value} {d : DataW H} {p : List MemPlace} (h : DataW.Trod enc Try.prog W 0 (fun _ => true) true T v d p) : ∀ x ∈ p, x.block < W.heap.size := by
  obtain ⟨m, hm⟩ := h
  exact DataW.trod_lt m _ _ _ hm
set_option maxRecDepth 100000 in
/-- An edge by value. -/
theorem open_edge {r : Reach} {b0 : Nat} {v : Value} {d : DataW H} {ps : List MemPlace} (hval : Value.okWide Try.prog W r b0 44 v) (h : DataW.Trod enc Try.prog W 0 (fun _ => true) true 44 v d ps) :
    ∃ (a b c : Int), v = .agg #[.int .i64 a, .int .i64 b, .int .i64 c] ∧ d = .agg [.lit (.int .i64 a), .lit (.int .i64 b), .lit (.int .i64 c)] ∧ ps = [] ∧ (Lit.int .i64 a).wf = true ∧ (Lit.int .i64 b).wf = true ∧ (Lit.int .i64 c).wf = true := by
  obtain ⟨c0, c1, c2, y0, y1, y2, m, rfl, rfl, rfl, h0, h1, h2⟩ := open_agg3 Try.underlying44 (by kernel_rfl) cellsE hval h
  obtain ⟨k, e0, rfl, wk⟩ := DataW.trod_int Try.underlying3 h0
  obtain ⟨n, e1, rfl, wn⟩ := DataW.trod_int Try.underlying3 h1
  obtain ⟨s, e2, rfl, ws⟩ := DataW.trod_int Try.underlying3 h2
  simp at e0 e1 e2
  subst e0 e1 e2
  exact ⟨k, n, s, rfl, rfl, rfl, wk, wn, ws⟩
set_option maxRecDepth 100000 in
theorem shut_edge {base : Nat} {sp : Nat → Bool} {held : Bool} {a b c : Int} (wa : (Lit.int .i64 a).wf = true) (wb : (Lit.int .i64 b).wf = true) (wc : (Lit.int .i64 c).wf = true) :
    DataW.Trod enc Try.prog W base sp held 44 (.agg #[.int .i64 a, .int .i64 b, .int .i64 c]) (.agg [.lit (.int .i64 a), .lit (.int .i64 b), .lit (.int .i64 c)]) [] :=
  shut_agg3 (y0 := (.lit (.int .i64 a), [])) (y1 := (.lit (.int .i64 b), [])) (y2 := (.lit (.int .i64 c), [])) Try.underlying44 (by kernel_rfl) cellsE (shut_int Try.underlying3 wa) (shut_int Try.underlying3 wb) (shut_int Try.underlying3 wc)
theorem ownK : ownKnob Try.prog.godebug = none := by kernel_rfl
set_option maxRecDepth 100000 in
theorem laidOut : laidOutB Try.prog = true := by kernel_rfl
end Go.Proofs.Ytfiockconbaniaa
