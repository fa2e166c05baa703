/- Instructions and codes as they lie in memory. -/
import Derived.Test.YtconnhphkbgbkaaGreatDoorProg
import Derived.Test.YtconnhphkbgbkaaGreatDoorCdModel
import Derived.Maps.OwnIn
namespace Go.Proofs.YtconnhphkbgbkaaGreatDoor
open Go.RowKit Go.Proofs

/-- The slice value holds these, each in k cells that P tells of. -/
def SlAt {α : Type} (k : Nat) (P : World → List Value → α → Prop) (W : World) (v : Value) (l : List α) : Prop :=
  ∃ A cap, v = .slice A l.length cap ∧ (l.length ≤ cap ∧ cap ≤ maxLen) ∧
    (0 < l.length → ∃ g off, A = some ⟨g, off, none⟩ ∧ g < W.heap.size ∧ ∀ (i : Nat) (x : α), l[i]? = some x → ∃ cs, P W cs x ∧ ∀ j, j < k → W.cell? ⟨g, off + i * k + j, none⟩ = cs[j]?)
def Keeps {α : Type} (P : World → List Value → α → Prop) : Prop := ∀ W W' cs x, P W cs x → Below W.heap.size W W' → P W' cs x
theorem SlAt.below {α : Type} {k : Nat} {P : World → List Value → α → Prop} (hP : Keeps P) {W W' : World} {v : Value} {l : List α} (h : SlAt k P W v l) (hb : Below W.heap.size W W') : SlAt k P W' v l := by
  obtain ⟨A, cap, rfl, h1, h2⟩ := h
  refine ⟨A, cap, rfl, h1, fun h0 => ?_⟩
  obtain ⟨g, off, rfl, hg, hc⟩ := h2 h0
  refine ⟨g, off, rfl, Nat.lt_of_lt_of_le hg hb.size, fun i x hx => ?_⟩
  obtain ⟨cs, h3, h4⟩ := hc i x hx
  exact ⟨cs, hP _ _ _ _ h3 hb, fun j hj => (hb.cell (p := ⟨g, off + i * k + j, none⟩) hg).trans (h4 j hj)⟩
theorem Keeps.sl {α : Type} {k : Nat} {P : World → List Value → α → Prop} (hP : Keeps P) {W W' : World} {v : Value} {l : List α} (h : SlAt k P W v l) (hb : Below W.heap.size W W') : SlAt k P W' v l := h.below hP hb
theorem SlAt.nil {α : Type} (k : Nat) (P : World → List Value → α → Prop) (W : World) : SlAt k P W (.slice none 0 0) [] :=
  ⟨none, 0, rfl, ⟨Nat.le_refl _, by unfold maxLen; omega⟩, fun h => absurd h (by simp)⟩
/-- The one at a place. -/
theorem SlAt.get {α : Type} {k : Nat} {P : World → List Value → α → Prop} {W : World} {A : Option Addr} {n cap : Nat} {l : List α} (h : SlAt k P W (.slice A n cap) l) :
    n = l.length ∧ n ≤ cap ∧ cap ≤ maxLen ∧ ∀ i, i < n → ∃ g off x cs, A = some ⟨g, off, none⟩ ∧ g < W.heap.size ∧ l[i]? = some x ∧ P W cs x ∧ ∀ j, j < k → W.cell? ⟨g, off + i * k + j, none⟩ = cs[j]? := by
  obtain ⟨A', cap', e, ⟨h1, h2⟩, h3⟩ := h
  injection e with e1 e2 e3
  subst e1 e2 e3
  refine ⟨rfl, h1, h2, fun i hi => ?_⟩
  obtain ⟨g, off, rfl, hg, hc⟩ := h3 (by omega)
  obtain ⟨cs, h4, h5⟩ := hc i _ (List.getElem?_eq_getElem hi)
  exact ⟨g, off, _, cs, rfl, hg, List.getElem?_eq_getElem hi, h4, h5⟩
theorem SlAt.form {α : Type} {k : Nat} {P : World → List Value → α → Prop} {W : World} {v : Value} {l : List α} (h : SlAt k P W v l) : ∃ A cap, v = .slice A l.length cap := by
  obtain ⟨A, cap, rfl, _⟩ := h
  exact ⟨A, cap, rfl⟩

def IntP (_ : World) (cs : List Value) (n : Int) : Prop := cs = [.int .i64 n] ∧ I64 n
theorem IntP.keeps : Keeps IntP := fun _ _ _ _ h _ => h
def Ints9 (W : World) (v : Value) (l : List Int) : Prop := SlAt 1 IntP W v l
def Ins.Fine (x : Ins) : Prop := (I64 x.op ∧ I64 x.d ∧ I64 x.a ∧ I64 x.b ∧ I64 x.c ∧ I64 x.n) ∧ x.s.size ≤ maxLen
def insV (x : Ins) (v : Value) : List Value := [.int .i64 x.op, .int .i64 x.d, .int .i64 x.a, .int .i64 x.b, .int .i64 x.c, .string x.s, .int .i64 x.n, v]
def InsP (W : World) (cs : List Value) (x : Ins) : Prop := ∃ v, cs = insV x v ∧ Ints9 W v x.l ∧ x.Fine
theorem InsP.keeps : Keeps InsP := fun _ _ _ _ h hb => by
  obtain ⟨v, h1, h2, h3⟩ := h
  exact ⟨v, h1, h2.below IntP.keeps hb, h3⟩
def procV (p : Proc) (v : Value) : List Value := [.int .i64 p.regs, v]
def ProcP (W : World) (cs : List Value) (p : Proc) : Prop := ∃ v, cs = procV p v ∧ SlAt 8 InsP W v p.ins ∧ I64 p.regs
theorem ProcP.keeps : Keeps ProcP := fun _ _ _ _ h hb => by
  obtain ⟨v, h1, h2, h3⟩ := h
  exact ⟨v, h1, h2.below InsP.keeps hb, h3⟩
/-- The slice value holds these procs. -/
def CodeAt (W : World) (v : Value) (l : List Proc) : Prop := SlAt 2 ProcP W v l
theorem CodeAt.below {W W' : World} {v : Value} {l : List Proc} (h : CodeAt W v l) (hb : Below W.heap.size W W') : CodeAt W' v l := SlAt.below ProcP.keeps h hb
/-- An instruction, a proc, by value. -/
def InsAt (W : World) (v : Value) (x : Ins) : Prop := ∃ u, v = .agg (insV x u).toArray ∧ Ints9 W u x.l ∧ x.Fine
def ProcAt (W : World) (v : Value) (p : Proc) : Prop := ∃ u, v = .agg (procV p u).toArray ∧ SlAt 8 InsP W u p.ins ∧ I64 p.regs
theorem InsAt.below {W W' : World} {v : Value} {x : Ins} (h : InsAt W v x) (hb : Below W.heap.size W W') : InsAt W' v x := by
  obtain ⟨u, h1, h2, h3⟩ := h
  exact ⟨u, h1, h2.below IntP.keeps hb, h3⟩
theorem ProcAt.below {W W' : World} {v : Value} {p : Proc} (h : ProcAt W v p) (hb : Below W.heap.size W W') : ProcAt W' v p := by
  obtain ⟨u, h1, h2, h3⟩ := h
  exact ⟨u, h1, h2.below InsP.keeps hb, h3⟩
/-- The proc at a place, by its cells. -/
theorem CodeAt.get {W : World} {A : Option Addr} {n cap : Nat} {l : List Proc} (h : CodeAt W (.slice A n cap) l) (i : Nat) (hi : i < n) :
    ∃ g off p A' cap', A = some ⟨g, off, none⟩ ∧ g < W.heap.size ∧ l[i]? = some p ∧ SlAt 8 InsP W (.slice A' p.ins.length cap') p.ins ∧ I64 p.regs ∧ W.cell? ⟨g, off + i * 2, none⟩ = some (.int .i64 p.regs) ∧ W.cell? ⟨g, off + i * 2 + 1, none⟩ = some (.slice A' p.ins.length cap') := by
  obtain ⟨-, -, -, hget⟩ := SlAt.get h
  obtain ⟨g, off, p, cs, rfl, hg, hp, ⟨v, rfl, h1, h2⟩, hc⟩ := hget i hi
  obtain ⟨A', cap', rfl⟩ := h1.form
  exact ⟨g, off, p, A', cap', rfl, hg, hp, h1, h2, hc 0 (by decide), hc 1 (by decide)⟩
/-- The instruction at a place, by its cells. -/
theorem ins_get {W : World} {A : Option Addr} {n cap : Nat} {l : List Ins} (h : SlAt 8 InsP W (.slice A n cap) l) (i : Nat) (hi : i < n) :
    ∃ g off x A' cap', A = some ⟨g, off, none⟩ ∧ g < W.heap.size ∧ l[i]? = some x ∧ Ints9 W (.slice A' x.l.length cap') x.l ∧ x.Fine ∧ W.cell? ⟨g, off + i * 8, none⟩ = some (.int .i64 x.op) ∧ W.cell? ⟨g, off + i * 8 + 1, none⟩ = some (.int .i64 x.d) ∧ W.cell? ⟨g, off + i * 8 + 2, none⟩ = some (.int .i64 x.a) ∧
      W.cell? ⟨g, off + i * 8 + 3, none⟩ = some (.int .i64 x.b) ∧ W.cell? ⟨g, off + i * 8 + 4, none⟩ = some (.int .i64 x.c) ∧ W.cell? ⟨g, off + i * 8 + 5, none⟩ = some (.string x.s) ∧ W.cell? ⟨g, off + i * 8 + 6, none⟩ = some (.int .i64 x.n) ∧ W.cell? ⟨g, off + i * 8 + 7, none⟩ = some (.slice A' x.l.length cap') := by
  obtain ⟨-, -, -, hget⟩ := SlAt.get h
  obtain ⟨g, off, p, cs, rfl, hg, hp, ⟨v, rfl, h1, h2⟩, hc⟩ := hget i hi
  obtain ⟨A', cap', rfl⟩ := SlAt.form h1
  exact ⟨g, off, p, A', cap', rfl, hg, hp, h1, h2, hc 0 (by decide), hc 1 (by decide), hc 2 (by decide), hc 3 (by decide), hc 4 (by decide), hc 5 (by decide), hc 6 (by decide), hc 7 (by decide)⟩
/-- The number at a place, by its cell. -/
theorem int_get {W : World} {A : Option Addr} {n cap : Nat} {l : List Int} (h : Ints9 W (.slice A n cap) l) (i : Nat) (hi : i < n) :
    ∃ g off x, A = some ⟨g, off, none⟩ ∧ g < W.heap.size ∧ l[i]? = some x ∧ I64 x ∧ W.cell? ⟨g, off + i, none⟩ = some (.int .i64 x) := by
  obtain ⟨-, -, -, hget⟩ := SlAt.get h
  obtain ⟨g, off, p, cs, rfl, hg, hp, ⟨rfl, h2⟩, hc⟩ := hget i hi
  have := hc 0 (by decide)
  exact ⟨g, off, p, rfl, hg, hp, h2, by simpa using this⟩
end Go.Proofs.YtconnhphkbgbkaaGreatDoor
