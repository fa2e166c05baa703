/- Acts, and keys, that come in. -/
import Derived.Test.YtpbbinppikaamaaBase
import Derived.Deep.Strs
import Derived.Deep.Slices
namespace Go.Proofs.Ytpbbinppikaamaa
open Go.Joins Go.ChangeShapes Go.WideShapes Go.RowKit Go.Deep

/-- An act. -/
structure Ac where
  d : Int
  p : Int
  m : Int
  r : Int
  c : Int
  f : Int
  key : ByteArray
  v : V
def Ac.cells (x : Ac) : List Value := [.int .i64 x.d, .int .i64 x.p, .int .i64 x.m, .int .i64 x.r, .int .i64 x.c, .int .i64 x.f, .string x.key, .int .i64 x.v.k, .int .i64 x.v.n, .string x.v.s]
instance : Inhabited Ac := ⟨⟨0, 0, 0, 0, 0, 0, ⟨#[]⟩, ⟨0, 0, ⟨#[]⟩⟩⟩⟩
/-- Acts in a slice. -/
def ActsAt (W : World) (A : Option Addr) (len cap : Nat) (l : List Ac) : Prop :=
  l.length = len ∧ len ≤ cap ∧ cap ≤ maxLen ∧ (0 < len → ∃ g off, A = some ⟨g, off, none⟩ ∧ g < W.heap.size ∧ ∀ (i : Nat) (x : Ac), l[i]? = some x → ∀ j, j < 10 → W.cell? ⟨g, off + i * 10 + j, none⟩ = x.cells[j]?) ∧ ∀ x ∈ l, x.key.size ≤ maxLen ∧ I64 x.d
/-- Keys in a slice. -/
def KeysAt (W : World) (A : Option Addr) (len cap : Nat) (l : List ByteArray) : Prop :=
  l.length = len ∧ len ≤ cap ∧ cap ≤ maxLen ∧ (0 < len → ∃ g off, A = some ⟨g, off, none⟩ ∧ g < W.heap.size ∧ ∀ (i : Nat) (x : ByteArray), l[i]? = some x → W.cell? ⟨g, off + i, none⟩ = some (.string x)) ∧ ∀ x ∈ l, x.size ≤ maxLen
theorem cells34 : Try.prog.cellsOf 34 = 10 := by kernel_rfl
theorem cells30 : Try.prog.cellsOf 30 = 4 := by kernel_rfl
theorem cells3 : Try.prog.cellsOf 3 = 1 := by kernel_rfl
theorem cells2 : Try.prog.cellsOf 2 = 1 := by kernel_rfl
theorem cells9 : Try.prog.cellsOf 9 = 1 := by kernel_rfl
theorem addr_add (g o k : Nat) : (⟨g, o, none⟩ : Addr).add k = ⟨g, o + k, none⟩ := by
  cases k with
  | zero => rfl
  | succ k => simp [Addr.add]

variable {H : Type} {enc : TypeId × Value → H} {W : World}
theorem obj_of (n : Nat) (c0 c1 c2 c3 : Value) (x : DataW H × List MemPlace) (h : DataW.trod enc Try.prog W 0 (fun _ => true) true n 30 [c0, c1, c2, c3] = some x) : ∃ a b c d : Int, c0 = .int .i64 a ∧ c1 = .int .i64 b ∧ c2 = .int .i64 c ∧ c3 = .int .i64 d := by
  obtain ⟨xs, n, rfl, -, hlen, hxl, hf⟩ := DataW.trod_struct Try.underlying30 h
  match xs, hxl with
  | [y0, y1, y2, y3], _ =>
  have k0 : DataW.trod enc Try.prog W 0 (fun _ => true) true n 3 [c0] = some y0 := by
    have := hf 0 _ rfl
    change DataW.trod enc Try.prog W 0 (fun _ => true) true n 3 (List.take (Try.prog.cellsOf 3) (List.drop 0 [c0, c1, c2, c3])) = [y0, y1, y2, y3][0]? at this
    rw [cells3] at this
    exact this
  have k1 : DataW.trod enc Try.prog W 0 (fun _ => true) true n 3 [c1] = some y1 := by
    have := hf 1 _ rfl
    change DataW.trod enc Try.prog W 0 (fun _ => true) true n 3 (List.take (Try.prog.cellsOf 3) (List.drop 1 [c0, c1, c2, c3])) = [y0, y1, y2, y3][1]? at this
    rw [cells3] at this
    exact this
  have k2 : DataW.trod enc Try.prog W 0 (fun _ => true) true n 3 [c2] = some y2 := by
    have := hf 2 _ rfl
    change DataW.trod enc Try.prog W 0 (fun _ => true) true n 3 (List.take (Try.prog.cellsOf 3) (List.drop 2 [c0, c1, c2, c3])) = [y0, y1, y2, y3][2]? at this
    rw [cells3] at this
    exact this
  have k3 : DataW.trod enc Try.prog W 0 (fun _ => true) true n 3 [c3] = some y3 := by
    have := hf 3 _ rfl
    change DataW.trod enc Try.prog W 0 (fun _ => true) true n 3 (List.take (Try.prog.cellsOf 3) (List.drop 3 [c0, c1, c2, c3])) = [y0, y1, y2, y3][3]? at this
    rw [cells3] at this
    exact this
  obtain ⟨z0, e0, -, -⟩ := DataW.trod_int Try.underlying3 k0
  obtain ⟨z1, e1, -, -⟩ := DataW.trod_int Try.underlying3 k1
  obtain ⟨z2, e2, -, -⟩ := DataW.trod_int Try.underlying3 k2
  obtain ⟨z3, e3, -, -⟩ := DataW.trod_int Try.underlying3 k3
  exact ⟨z0, z1, z2, z3, by simpa using e0, by simpa using e1, by simpa using e2, by simpa using e3⟩
theorem val_of (n : Nat) (c0 c1 c2 : Value) (x : DataW H × List MemPlace) (h : DataW.trod enc Try.prog W 0 (fun _ => true) true n 32 [c0, c1, c2] = some x) : ∃ v : V, c0 = .int .i64 v.k ∧ c1 = .int .i64 v.n ∧ c2 = .string v.s := by
  obtain ⟨xs, n, rfl, -, hlen, hxl, hf⟩ := DataW.trod_struct Try.underlying32 h
  match xs, hxl with
  | [y0, y1, y2], _ =>
  have k0 : DataW.trod enc Try.prog W 0 (fun _ => true) true n 3 [c0] = some y0 := by
    have := hf 0 _ rfl
    change DataW.trod enc Try.prog W 0 (fun _ => true) true n 3 (List.take (Try.prog.cellsOf 3) (List.drop 0 [c0, c1, c2])) = [y0, y1, y2][0]? at this
    rw [cells3] at this
    exact this
  have k1 : DataW.trod enc Try.prog W 0 (fun _ => true) true n 2 [c1] = some y1 := by
    have := hf 1 _ rfl
    change DataW.trod enc Try.prog W 0 (fun _ => true) true n 2 (List.take (Try.prog.cellsOf 2) (List.drop 1 [c0, c1, c2])) = [y0, y1, y2][1]? at this
    rw [cells2] at this
    exact this
  have k2 : DataW.trod enc Try.prog W 0 (fun _ => true) true n 9 [c2] = some y2 := by
    have := hf 2 _ rfl
    change DataW.trod enc Try.prog W 0 (fun _ => true) true n 9 (List.take (Try.prog.cellsOf 9) (List.drop 2 [c0, c1, c2])) = [y0, y1, y2][2]? at this
    rw [cells9] at this
    exact this
  obtain ⟨z0, e0, -, -⟩ := DataW.trod_int Try.underlying3 k0
  obtain ⟨z1, e1, -, -⟩ := DataW.trod_int Try.underlying2 k1
  obtain ⟨s, e2, -, -⟩ := DataW.trod_string Try.underlying9 k2
  exact ⟨⟨z0, z1, s⟩, by simpa using e0, by simpa using e1, by simpa using e2⟩
theorem act_of (n : Nat) (cs : List Value) (x : DataW H × List MemPlace) (h : DataW.trod enc Try.prog W 0 (fun _ => true) true n 34 cs = some x) : ∃ a : Ac, cs = a.cells ∧ a.key.size ≤ maxLen ∧ I64 a.d := by
  obtain ⟨xs, n, rfl, -, hlen, hxl, hf⟩ := DataW.trod_struct Try.underlying34 h
  rw [cells34] at hlen
  match cs, hlen with
  | [c0, c1, c2, c3, c4, c5, c6, c7, c8, c9], _ =>
  match xs, hxl with
  | [y0, y1, y2, y3, y4], _ =>
  have k0 : DataW.trod enc Try.prog W 0 (fun _ => true) true n 3 [c0] = some y0 := by
    have := hf 0 _ rfl
    change DataW.trod enc Try.prog W 0 (fun _ => true) true n 3 (List.take (Try.prog.cellsOf 3) (List.drop 0 [c0, c1, c2, c3, c4, c5, c6, c7, c8, c9])) = [y0, y1, y2, y3, y4][0]? at this
    rw [cells3] at this
    exact this
  have k1 : DataW.trod enc Try.prog W 0 (fun _ => true) true n 3 [c1] = some y1 := by
    have := hf 1 _ rfl
    change DataW.trod enc Try.prog W 0 (fun _ => true) true n 3 (List.take (Try.prog.cellsOf 3) (List.drop 1 [c0, c1, c2, c3, c4, c5, c6, c7, c8, c9])) = [y0, y1, y2, y3, y4][1]? at this
    rw [cells3] at this
    exact this
  have k2 : DataW.trod enc Try.prog W 0 (fun _ => true) true n 30 [c2, c3, c4, c5] = some y2 := by
    have := hf 2 _ rfl
    change DataW.trod enc Try.prog W 0 (fun _ => true) true n 30 (List.take (Try.prog.cellsOf 30) (List.drop 2 [c0, c1, c2, c3, c4, c5, c6, c7, c8, c9])) = [y0, y1, y2, y3, y4][2]? at this
    rw [cells30] at this
    exact this
  have k3 : DataW.trod enc Try.prog W 0 (fun _ => true) true n 9 [c6] = some y3 := by
    have := hf 3 _ rfl
    change DataW.trod enc Try.prog W 0 (fun _ => true) true n 9 (List.take (Try.prog.cellsOf 9) (List.drop 6 [c0, c1, c2, c3, c4, c5, c6, c7, c8, c9])) = [y0, y1, y2, y3, y4][3]? at this
    rw [cells9] at this
    exact this
  have k4 : DataW.trod enc Try.prog W 0 (fun _ => true) true n 32 [c7, c8, c9] = some y4 := by
    have := hf 4 _ rfl
    change DataW.trod enc Try.prog W 0 (fun _ => true) true n 32 (List.take (Try.prog.cellsOf 32) (List.drop 7 [c0, c1, c2, c3, c4, c5, c6, c7, c8, c9])) = [y0, y1, y2, y3, y4][4]? at this
    rw [cells32] at this
    exact this
  obtain ⟨z0, e0, -, wz⟩ := DataW.trod_int Try.underlying3 k0
  obtain ⟨z1, e1, -, -⟩ := DataW.trod_int Try.underlying3 k1
  obtain ⟨m, r, c, f, e2, e3, e4, e5⟩ := obj_of n c2 c3 c4 c5 y2 k2
  obtain ⟨s, e6, -, ws⟩ := DataW.trod_string Try.underlying9 k3
  obtain ⟨v, e7, e8, e9⟩ := val_of n c7 c8 c9 y4 k4
  have e0' : c0 = .int .i64 z0 := by simpa using e0
  have e1' : c1 = .int .i64 z1 := by simpa using e1
  have e6' : c6 = .string s := by simpa using e6
  exact ⟨⟨z0, z1, m, r, c, f, s, v⟩, by rw [e0', e1', e2, e3, e4, e5, e6', e7, e8, e9]; rfl, ws, i64_of wz⟩

theorem open_acts {r : Reach} {b0 : Nat} {v : Value} {d : DataW H} {p : List MemPlace} (hv : Value.okWide Try.prog W r b0 22 v) (h : DataW.Trod enc Try.prog W 0 (fun _ => true) true 22 v d p) :
    ∃ A len cap l, v = .slice A len cap ∧ ActsAt W A len cap l := by
  obtain ⟨A, len, cap, rfl⟩ := okWide_slice Try.underlying22 hv
  refine ⟨A, len, cap, ?_⟩
  obtain ⟨fuel, hf⟩ := h
  rcases open_slice Try.underlying22 hf with ⟨hcs, _⟩ | ⟨a, len', cap', m, n, D, Pl, hcs, -, hl, hm, hmm, -, hx⟩
  · simp [Value.cells] at hcs
    obtain ⟨rfl, rfl, rfl⟩ := hcs
    exact ⟨[], rfl, rfl, Nat.le_refl _, by unfold maxLen; omega, fun h => absurd h (by omega), by simp⟩
  · simp [Value.cells] at hcs
    obtain ⟨rfl, rfl, rfl⟩ := hcs
    simp only [if_true] at hmm
    rw [cells34] at hx
    have key : ∀ i, i < len → ∃ x : Ac, x.key.size ≤ maxLen ∧ I64 x.d ∧ ∀ j, j < 10 → W.cell? (a.add (i * 10 + j)) = x.cells[j]? := fun i hi => by
      obtain ⟨cs, h1, h2⟩ := hx i (by omega)
      obtain ⟨x, rfl, h3, h4⟩ := act_of n cs _ h2
      obtain ⟨-, -, hcat⟩ := World.cells?_some h1
      exact ⟨x, h3, h4, fun j hj => by rw [← Go.Deep.add_add]; exact hcat j hj⟩
    obtain ⟨X, hX⟩ := choose_lt (α := Ac) (p := fun i x => x.key.size ≤ maxLen ∧ I64 x.d ∧ ∀ j, j < 10 → W.cell? (a.add (i * 10 + j)) = x.cells[j]?) key
    refine ⟨(List.range len).map X, rfl, by simp, hl, hm, fun h0 => ?_, fun x hx => ?_⟩
    · obtain ⟨ga, oa, sa⟩ := a
      obtain rfl : sa = none := by
        have := World.cell?_spot ((hX 0 h0).2.2 0 (by decide))
        simpa [Addr.add] using this
      have hg := World.block_lt_of_cell? _ _ ((hX 0 h0).2.2 0 (by decide))
      refine ⟨ga, oa, rfl, by simpa [addr_add] using hg, fun i x hi j hj => ?_⟩
      rw [List.getElem?_map] at hi
      obtain ⟨k, hk, rfl⟩ := Option.map_eq_some_iff.1 hi
      obtain ⟨hk1, hk2⟩ := List.getElem?_eq_some_iff.1 hk
      simp at hk1 hk2
      subst hk2
      have := (hX i hk1).2.2 j hj
      rw [addr_add] at this
      rw [Nat.add_assoc]
      exact this
    · obtain ⟨k, hk, rfl⟩ := List.mem_map.1 hx
      have := hX k (List.mem_range.1 hk)
      exact ⟨this.1, this.2.1⟩
theorem open_keys {r : Reach} {b0 : Nat} {v : Value} {d : DataW H} {p : List MemPlace} (hv : Value.okWide Try.prog W r b0 43 v) (h : DataW.Trod enc Try.prog W 0 (fun _ => true) true 43 v d p) :
    ∃ A len cap l, v = .slice A len cap ∧ KeysAt W A len cap l := by
  obtain ⟨A, len, cap, rfl⟩ := okWide_slice Try.underlying43 hv
  refine ⟨A, len, cap, ?_⟩
  obtain ⟨fuel, hf⟩ := h
  rcases open_strs Try.underlying43 Try.underlying9 cells9 hf with ⟨hcs, _⟩ | ⟨a, len', cap', m, X, hcs, -, hl, hm, hmm, -, hx⟩
  · simp [Value.cells] at hcs
    obtain ⟨rfl, rfl, rfl⟩ := hcs
    exact ⟨[], rfl, rfl, Nat.le_refl _, by unfold maxLen; omega, fun h => absurd h (by omega), by simp⟩
  · simp [Value.cells] at hcs
    obtain ⟨rfl, rfl, rfl⟩ := hcs
    simp only [if_true] at hmm
    refine ⟨(List.range len).map X, rfl, by simp, hl, hm, fun h0 => ?_, fun x hxm => ?_⟩
    · obtain ⟨ga, oa, sa⟩ := a
      obtain rfl : sa = none := by
        have := World.cell?_spot (hx 0 (by omega)).1
        simpa [Addr.add] using this
      have hg := World.block_lt_of_cell? _ _ (hx 0 (by omega)).1
      refine ⟨ga, oa, rfl, by simpa [addr_add] using hg, fun i x hi => ?_⟩
      rw [List.getElem?_map] at hi
      obtain ⟨k, hk, rfl⟩ := Option.map_eq_some_iff.1 hi
      obtain ⟨hk1, hk2⟩ := List.getElem?_eq_some_iff.1 hk
      simp at hk1 hk2
      subst hk2
      have := (hx i (by omega)).1
      rwa [addr_add] at this
    · obtain ⟨k, hk, rfl⟩ := List.mem_map.1 hxm
      exact (hx k (by have := List.mem_range.1 hk; omega)).2
end Go.Proofs.Ytpbbinppikaamaa
