/- Rows whose elements are k cells that P tells of; rows of one's own; what is appended to them. -/
import Derived.Test.YtfiockconbaniaaProg
import Derived.Test.YtfiockconbaniaaMem
import Derived.Test.YtfiockconbaniaaGrEdges
import Derived.Maps.OwnIn
import Derived.Maps.AppendAt
import Derived.Laws.OwnMore
import Derived.OwnWalk
namespace Go.Proofs.Ytfiockconbaniaa
open Go.RowKit Go.Proofs

def I64 (n : Int) : Prop := -9223372036854775808 ≤ n ∧ n ≤ 9223372036854775807
/-- The slice value holds these, each in k cells that P tells of. -/
def SlAt {α : Type} (k : Nat) (P : World → List Value → α → Prop) (W : World) (v : Value) (l : List α) : Prop :=
  ∃ A cap, v = .slice A l.length cap ∧ (l.length ≤ cap ∧ cap ≤ maxLen) ∧
    (0 < l.length → ∃ g off, A = some ⟨g, off, none⟩ ∧ g < W.heap.size ∧ ∀ (i : Nat) (x : α), l[i]? = some x → ∃ cs, P W cs x ∧ ∀ j, j < k → W.cell? ⟨g, off + i * k + j, none⟩ = cs[j]?)
def Keeps {α : Type} (P : World → List Value → α → Prop) : Prop := ∀ W W' cs x, P W cs x → Below W.heap.size W W' → P W' cs x
theorem SlAt.below {α : Type} {k : Nat} {P : World → List Value → α → Prop} (hP : Keeps P) {W W' : World} {v : Value} {l : List α} (h : SlAt k P W v l) (hb : Below W.heap.size W W') : SlAt k P W' v l := by
  obtain ⟨A, cap, rfl, h1, h2⟩ := h
  refine ⟨A, cap, rfl, h1, fun h0 => ?_⟩
  obtain ⟨g, off, rfl, hg, hc⟩ := h2 h0
  refine ⟨g, off, rfl, Nat.lt_of_lt_of_le hg hb.size, fun i x hx => ?_⟩
  obtain ⟨cs, h3, h4⟩ := hc i x hx
  exact ⟨cs, hP _ _ _ _ h3 hb, fun j hj => (hb.cell (p := ⟨g, off + i * k + j, none⟩) hg).trans (h4 j hj)⟩
theorem Keeps.sl {α : Type} {k : Nat} {P : World → List Value → α → Prop} (hP : Keeps P) {W W' : World} {v : Value} {l : List α} (h : SlAt k P W v l) (hb : Below W.heap.size W W') : SlAt k P W' v l := h.below hP hb
theorem SlAt.nil {α : Type} (k : Nat) (P : World → List Value → α → Prop) (W : World) : SlAt k P W (.slice none 0 0) [] :=
  ⟨none, 0, rfl, ⟨Nat.le_refl _, by unfold maxLen; omega⟩, fun h => absurd h (by simp)⟩
/-- The one at a place. -/
theorem SlAt.get {α : Type} {k : Nat} {P : World → List Value → α → Prop} {W : World} {A : Option Addr} {n cap : Nat} {l : List α} (h : SlAt k P W (.slice A n cap) l) :
    n = l.length ∧ n ≤ cap ∧ cap ≤ maxLen ∧ ∀ i, i < n → ∃ g off x cs, A = some ⟨g, off, none⟩ ∧ g < W.heap.size ∧ l[i]? = some x ∧ P W cs x ∧ ∀ j, j < k → W.cell? ⟨g, off + i * k + j, none⟩ = cs[j]? := by
  obtain ⟨A', cap', e, ⟨h1, h2⟩, h3⟩ := h
  injection e with e1 e2 e3
  subst e1 e2 e3
  refine ⟨rfl, h1, h2, fun i hi => ?_⟩
  obtain ⟨g, off, rfl, hg, hc⟩ := h3 (by omega)
  obtain ⟨cs, h4, h5⟩ := hc i _ (List.getElem?_eq_getElem hi)
  exact ⟨g, off, _, cs, rfl, hg, List.getElem?_eq_getElem hi, h4, h5⟩
theorem SlAt.form {α : Type} {k : Nat} {P : World → List Value → α → Prop} {W : World} {v : Value} {l : List α} (h : SlAt k P W v l) : ∃ A cap, v = .slice A l.length cap := by
  obtain ⟨A, cap, rfl, _⟩ := h
  exact ⟨A, cap, rfl⟩
def IntP (_ : World) (cs : List Value) (n : Int) : Prop := cs = [.int .i64 n] ∧ I64 n
theorem IntP.keeps : Keeps IntP := fun _ _ _ _ h _ => h
def Ints9 (W : World) (v : Value) (l : List Int) : Prop := SlAt 1 IntP W v l
/-- The number at a place, by its cell. -/
theorem int_get {W : World} {A : Option Addr} {n cap : Nat} {l : List Int} (h : Ints9 W (.slice A n cap) l) (i : Nat) (hi : i < n) :
    ∃ g off x, A = some ⟨g, off, none⟩ ∧ g < W.heap.size ∧ l[i]? = some x ∧ I64 x ∧ W.cell? ⟨g, off + i, none⟩ = some (.int .i64 x) := by
  obtain ⟨-, -, -, hget⟩ := SlAt.get h
  obtain ⟨g, off, p, cs, rfl, hg, hp, ⟨rfl, h2⟩, hc⟩ := hget i hi
  have := hc 0 (by decide)
  exact ⟨g, off, p, rfl, hg, hp, h2, by simpa using this⟩
theorem ownsRow_below9 {W W' : World} {base e size n : Nat} {v : Value} {xs : List Value} (h : W.ownsRow base e size v n xs) (hb : Below W.heap.size W W') : W'.ownsRow base e size v n xs := by
  refine ⟨h.1, ?_⟩
  rcases h.2 with h | ⟨g, cap, cur, rfl, h1, h2, h3⟩
  · exact .inl h
  · exact .inr ⟨g, cap, cur, rfl, h1, (hb.block g (Array.getElem?_eq_some_iff.1 h2).1).trans h2, h3⟩
theorem own_row_ge9 {W : World} {B e size n : Nat} {v : Value} {xs : List Value} (h : W.ownsRow B e size v n xs) : ∀ r, v.ownBlock = some r → B ≤ r := fun r hr => by
  rcases h.2 with ⟨rfl, _⟩ | ⟨g, cap, cur, rfl, h1, _⟩
  · simp [Value.ownBlock] at hr
  · simp [Value.ownBlock] at hr
    omega
/-- P's cells are k. -/
def Cells {α : Type} (k : Nat) (P : World → List Value → α → Prop) : Prop := ∀ w cs x, P w cs x → cs.length = k ∧ ∀ u ∈ cs, u.oneCell' = true
theorem IntP.cells : Cells 1 IntP := fun _ _ _ h => by
  obtain ⟨rfl, -⟩ := h
  exact ⟨rfl, fun u hu => by simp at hu; subst hu; rfl⟩
abbrev flat9 {α : Type} (L : List (List Value × α)) : List Value := L.flatMap (·.1)
theorem flat9_cons {α : Type} (a : List Value × α) (r : List (List Value × α)) : flat9 (a :: r) = a.1 ++ flat9 r := rfl
theorem flat9_len {α : Type} {k : Nat} : ∀ (L : List (List Value × α)), (∀ q ∈ L, q.1.length = k) → (flat9 L).length = L.length * k
  | [], _ => by simp
  | a :: r, h => by
    rw [flat9_cons, List.length_append, flat9_len r fun q hq => h q (by simp [hq]), h a (by simp), List.length_cons, Nat.add_mul]
    omega
theorem flat9_get {α : Type} {k : Nat} : ∀ (L : List (List Value × α)) (i j : Nat), (∀ q ∈ L, q.1.length = k) → j < k → (flat9 L)[i * k + j]? = (L[i]?).bind fun q => q.1[j]?
  | [], i, j, _, _ => by simp
  | a :: r, 0, j, h, hj => by
    rw [flat9_cons, List.getElem?_append_left (by rw [h a (by simp)]; omega)]
    simp
  | a :: r, i + 1, j, h, hj => by
    have ha := h a (by simp)
    rw [flat9_cons, List.getElem?_append_right (by rw [ha, Nat.add_mul]; omega), ha, show (i + 1) * k + j - k = i * k + j by rw [Nat.add_mul]; omega, flat9_get r i j (fun q hq => h q (by simp [hq])) hj]
    simp
theorem add_none9 (g o k : Nat) : (⟨g, o, none⟩ : Addr).add k = ⟨g, o + k, none⟩ := by
  cases k with
  | zero => rfl
  | succ k => simp [Addr.add]
/-- What is appended: at w its cells lie, of which P tells at w0. -/
def Src9 {α : Type} (P : World → List Value → α → Prop) (w0 w : World) (src : Value) (l : List α) : Prop :=
  ∃ L : List (List Value × α), L.map (·.2) = l ∧ (∀ q ∈ L, P w0 q.1 q.2) ∧ ((∃ c, src = .slice none 0 c ∧ l = []) ∨ ∃ a c, src = .slice (some a) l.length c ∧ ∀ j u, (flat9 L)[j]? = some u → w.cell? (a.add j) = some u)
theorem SlAt.src {α : Type} {k : Nat} (hk : 0 < k) {P : World → List Value → α → Prop} (hP : Cells k P) {w0 w : World} {v : Value} {l : List α} (h : SlAt k P w0 v l) (hb : Below w0.heap.size w0 w) : Src9 P w0 w v l := by
  obtain ⟨A, cap, rfl, -, h2⟩ := h
  by_cases h0 : 0 < l.length
  · obtain ⟨g, off, rfl, hg, hc⟩ := h2 h0
    have key : ∀ i, ∃ cs : List Value, ∀ x, l[i]? = some x → P w0 cs x ∧ ∀ j, j < k → w0.cell? ⟨g, off + i * k + j, none⟩ = cs[j]? := fun i => by
      cases hx : l[i]? with
      | none => exact ⟨[], fun x h => by cases h⟩
      | some x =>
        obtain ⟨cs, h3, h4⟩ := hc i x hx
        exact ⟨cs, fun y hy => by cases hy; exact ⟨h3, h4⟩⟩
    obtain ⟨f, hf⟩ := Classical.axiomOfChoice key
    have hget : ∀ i, (l.zipIdx.map fun q => (f q.2, q.1))[i]? = (l[i]?).map fun x => (f i, x) := fun i => by
      rw [List.getElem?_map, List.getElem?_zipIdx]
      cases l[i]? <;> simp
    have hall : ∀ q ∈ l.zipIdx.map (fun q => (f q.2, q.1)), P w0 q.1 q.2 := fun q hq => by
      obtain ⟨i, hi⟩ := List.mem_iff_getElem?.1 hq
      rw [hget] at hi
      cases hx : l[i]? with
      | none => rw [hx] at hi; cases hi
      | some x =>
        rw [hx] at hi
        cases hi
        exact (hf i x hx).1
    refine ⟨l.zipIdx.map fun q => (f q.2, q.1), ?_, hall, .inr ⟨_, cap, rfl, fun j u hj => ?_⟩⟩
    · apply List.ext_getElem?
      intro i
      rw [List.getElem?_map, hget]
      cases l[i]? <;> rfl
    · rw [show j = j / k * k + j % k by rw [Nat.mul_comm, Nat.div_add_mod], flat9_get _ _ _ (fun q hq => (hP _ _ _ (hall q hq)).1) (Nat.mod_lt _ hk), hget] at hj
      cases hx : l[j / k]? with
      | none => rw [hx] at hj; cases hj
      | some x =>
        rw [hx] at hj
        have h5 := (hf _ x hx).2 (j % k) (Nat.mod_lt _ hk)
        have h6 : (f (j / k))[j % k]? = some u := hj
        rw [h6, Nat.add_assoc, show j / k * k + j % k = j by rw [Nat.mul_comm, Nat.div_add_mod]] at h5
        rw [add_none9]
        exact (hb.cell (p := ⟨g, off + j, none⟩) hg).trans h5
  · obtain rfl : l = [] := List.eq_nil_of_length_eq_zero (by omega)
    refine ⟨[], rfl, fun q hq => (by cases hq), ?_⟩
    cases A with
    | none => exact .inl ⟨cap, rfl, rfl⟩
    | some a => exact .inr ⟨a, cap, rfl, fun j u hj => by simp at hj⟩
/-- A row of one's own. -/
def OwnR {α : Type} (k : Nat) (T : TypeId) (P : World → List Value → α → Prop) (w0 w : World) (B : Nat) (v : Value) (l : List α) : Prop :=
  ∃ L : List (List Value × α), L.map (·.2) = l ∧ (∀ q ∈ L, P w0 q.1 q.2) ∧ w.ownsRow B T k v l.length (flat9 L)
theorem OwnR.form {α : Type} {k : Nat} {T : TypeId} {P : World → List Value → α → Prop} {w0 w : World} {B : Nat} {v : Value} {l : List α} (h : OwnR k T P w0 w B v l) : ∃ A c, v = .slice A l.length c ∧ l.length ≤ c ∧ c ≤ maxLen := by
  obtain ⟨L, -, -, h⟩ := h
  rcases h.2 with ⟨rfl, h0⟩ | ⟨g, cap, cur, rfl, h1, h2, h3, h4, h5⟩
  · exact ⟨none, 0, by rw [h0], by omega, by unfold maxLen; omega⟩
  · exact ⟨_, cap, rfl, h3, h4⟩
theorem OwnR.at_ {α : Type} {k : Nat} {T : TypeId} {P : World → List Value → α → Prop} (hP : Cells k P) (hK : Keeps P) {w0 w : World} {B : Nat} {v : Value} {l : List α} (h : OwnR k T P w0 w B v l) (hb : Below w0.heap.size w0 w) : SlAt k P w v l := by
  obtain ⟨L, rfl, hL, ho⟩ := h
  rcases ho.2 with ⟨rfl, h0⟩ | ⟨g, cap, cur, rfl, h1, h2, h3, h4, h5⟩
  · rw [List.eq_nil_of_length_eq_zero h0]
    exact SlAt.nil _ _ _
  · refine ⟨_, cap, rfl, ⟨h3, h4⟩, fun _ => ⟨g, 0, rfl, heap_lt h2, fun i x hx => ?_⟩⟩
    rw [List.getElem?_map] at hx
    cases hq : L[i]? with
    | none => rw [hq] at hx; cases hx
    | some q =>
      rw [hq] at hx
      cases hx
      have hm : q ∈ L := List.mem_of_getElem? hq
      refine ⟨q.1, hK _ _ _ _ (hL q hm) hb, fun j hj => ?_⟩
      have hlt : i < L.length := (List.getElem?_eq_some_iff.1 hq).1
      have hl2 := flat9_len L fun q hq => (hP _ _ _ (hL q hq)).1
      have hle : i * k + j < (flat9 L).length := by
        rw [hl2]
        have : (i + 1) * k ≤ L.length * k := Nat.mul_le_mul_right k hlt
        rw [Nat.add_mul] at this
        omega
      have := World.ownsRow.cellAt (cap := cap) (g := g) ⟨ho.1, .inr ⟨g, cap, cur, rfl, h1, h2, h3, h4, h5⟩⟩ (i * k + j) (by have := ho.1; omega)
      rw [Nat.zero_add, this, flat9_get L i j (fun q hq => (hP _ _ _ (hL q hq)).1) hj, hq]
      rfl
theorem OwnR.below {α : Type} {k : Nat} {T : TypeId} {P : World → List Value → α → Prop} {w0 w w' : World} {B : Nat} {v : Value} {l : List α} (h : OwnR k T P w0 w B v l) (hb : Below w.heap.size w w') : OwnR k T P w0 w' B v l := by
  obtain ⟨L, h1, h2, h3⟩ := h
  exact ⟨L, h1, h2, ownsRow_below9 h3 hb⟩
theorem OwnR.nil {α : Type} (k : Nat) (T : TypeId) (P : World → List Value → α → Prop) (w0 w : World) (B : Nat) : OwnR k T P w0 w B (.slice none 0 0) [] := ⟨[], rfl, fun q h => (by cases h), by simp, .inl ⟨rfl, rfl⟩⟩
theorem OwnR.lit {α : Type} {k : Nat} {T : TypeId} {P : World → List Value → α → Prop} (hP : Cells k P) {w0 : World} (w : World) (cs : List Value) (x : α) (h : P w0 cs x) : OwnR k T P w0 (w.alloc (.cells cs.toArray T)) w.heap.size (.slice (some ⟨w.heap.size, 0, none⟩) 1 1) [x] := by
  refine ⟨[(cs, x)], rfl, fun q hq => by simp at hq; subst hq; exact h, ?_⟩
  have := World.ownsRow_lit (base := w.heap.size) (e := T) (size := k) w cs.toArray 1 (Nat.le_refl _) (by unfold maxLen; omega) (by simp; exact (hP _ _ _ h).1)
  simpa using this
theorem OwnR.src {α : Type} {k : Nat} {T : TypeId} {P : World → List Value → α → Prop} {w0 w : World} {B : Nat} {v : Value} {l : List α} (h : OwnR k T P w0 w B v l) : Src9 P w0 w v l := by
  obtain ⟨L, rfl, hL, ho⟩ := h
  refine ⟨L, rfl, hL, ?_⟩
  rcases ho.2 with ⟨rfl, h0⟩ | ⟨g, cap, cur, rfl, h1, h2, h3, h4, h5⟩
  · exact .inl ⟨0, rfl, by simpa using h0⟩
  · refine .inr ⟨_, cap, rfl, fun j u hj => ?_⟩
    have hlt : j < (flat9 L).length := (List.getElem?_eq_some_iff.1 hj).1
    have := World.ownsRow.cellAt (cap := cap) (g := g) ⟨ho.1, .inr ⟨g, cap, cur, rfl, h1, h2, h3, h4, h5⟩⟩ j (by have := ho.1; omega)
    rw [add_none9, Nat.zero_add, this]
    exact hj
theorem run_append_none {P : Program} {w : World} (base : Nat) (t ty e : TypeId) (i : TypeInfo) (size c : Nat) (ht : P.underlying t = some (.slice e)) (hi : P.info? e = some i)
    (v : Value) (n : Nat) (xs : List Value) (hown : w.ownsRow base e size v n xs) : (Builtin.append_ #[t, t] ty #[v, .slice none 0 c]).run P w = .ok v w := by
  rcases hown.2 with ⟨rfl, rfl⟩ | ⟨g, cap, cur, rfl, _, _, hnc, _⟩
  · simp [Builtin.append_, run_underlying ht, sizeOf, typeInfo, hi, Builtin.lenOf, Builtin.firstCells]
  · simp [Builtin.append_, run_underlying ht, sizeOf, typeInfo, hi, Builtin.lenOf, Builtin.firstCells, hnc, storeCells]
/-- What is behind an append. -/
structure App9 {α : Type} (k : Nat) (T : TypeId) (P : World → List Value → α → Prop) (w0 w : World) (B : Nat) (v : Value) (l : List α) (v' : Value) (w' : World) : Prop where
  own : OwnR k T P w0 w' B v' l
  below : Below B w w'
  form : ∃ A c, v' = .slice A l.length c ∧ l.length ≤ c ∧ c ≤ maxLen
  grown : w.grownBy w' v.ownBlock
  lies : v'.ownBlock = v.ownBlock ∨ v'.ownBlock = some w.heap.size
theorem app9 {α : Type} {p : Program} {k : Nat} {T t : TypeId} {P : World → List Value → α → Prop} (hP : Cells k P) (hk : 0 < k) {z : Value} {bytes : Nat} (ht : p.underlying t = some (.slice T)) (hi : (p.info? T).map (fun i => (i.zero, i.size, i.bytes)) = some (some z, k, bytes)) (hz : z.cells.size = k) (hby : bytes ≤ 200)
    {w0 w : World} {B : Nat} {v src : Value} {l m : List α} (ho : OwnR k T P w0 w B v l) (hs : Src9 P w0 w src m) (hB : B ≤ w.heap.size) (hl : l.length + m.length ≤ 1000000) :
    ∃ v' w', (Builtin.append_ #[t, t] t #[v, src]).run p w = .ok v' w' ∧ App9 k T P w0 w B v (l ++ m) v' w' := by
  obtain ⟨i0, h0, h2, h3, h4⟩ := info_parts hi
  obtain ⟨L, rfl, hL, hrow⟩ := ho
  obtain ⟨M, rfl, hM, hsrc⟩ := hs
  have fin : ∀ v' w', (OwnR k T P w0 w' B v' (L.map (·.2) ++ M.map (·.2))) → Below B w w' → w.grownBy w' v.ownBlock → (v'.ownBlock = v.ownBlock ∨ v'.ownBlock = some w.heap.size) → App9 k T P w0 w B v (L.map (·.2) ++ M.map (·.2)) v' w' := fun v' w' h1 h2 h3 h4 => ⟨h1, h2, h1.form, h3, h4⟩
  rcases hsrc with ⟨c, rfl, hm⟩ | ⟨a, c, rfl, hc⟩
  · refine ⟨v, w, run_append_none B t t T i0 k c ht h0 v _ _ hrow, fin _ _ ?_ (Below.refl _ _) (World.grownBy.refl _ _) (.inl rfl)⟩
    rw [hm, List.append_nil]
    exact ⟨L, rfl, hL, hrow⟩
  · rw [List.length_map, List.length_map] at hl
    rw [List.length_map] at hrow ⊢
    obtain ⟨v', w', r1, r2, r3, -, r5⟩ := run_append_own_at (P := p) w B t t T i0 z k bytes ht h0 h2 h3 h4 hz hk v L.length (flat9 L) hrow a M.length c (flat9 M) (flat9_len M fun q hq => (hP _ _ _ (hM q hq)).1) hc (fun u hu => by
      obtain ⟨q, hq, hu⟩ := List.mem_flatMap.1 hu
      exact (hP _ _ _ (hM q hq)).2 u hu) (by unfold maxLen; omega) (by
      have : (L.length + M.length) * bytes ≤ 1000000 * 200 := Nat.mul_le_mul hl hby
      omega) hB
    refine ⟨v', w', r1, fin _ _ ⟨L ++ M, by simp, fun q hq => ?_, ?_⟩ ((Below.refl B w).grown r3 hB (own_row_ge9 hrow)) r3 r5⟩
    · rcases List.mem_append.1 hq with h | h
      · exact hL q h
      · exact hM q h
    · rw [List.length_append, List.length_map, List.length_map]
      simpa using r2
/-- An empty row that is made. -/
theorem OwnR.made {α : Type} {k : Nat} {T : TypeId} {P : World → List Value → α → Prop} {w0 : World} (w : World) (cap : Nat) (cs : Array Value) (hc : cap ≤ maxLen) (hs : cs.size = cap * k) : OwnR k T P w0 (w.alloc (.cells cs T)) w.heap.size (.slice (some ⟨w.heap.size, 0, none⟩) 0 cap) ([] : List α) :=
  ⟨[], rfl, fun q h => (by cases h), by simp, .inr ⟨w.heap.size, cap, cs, rfl, Nat.le_refl _, heap_alloc_new w _, Nat.zero_le _, hc, hs, by simp⟩⟩
theorem OwnR.of_room {α : Type} {k : Nat} {T : TypeId} {P : World → List Value → α → Prop} {w0 w : World} {B m cap : Nat} {cs : Array Value} (hB : B ≤ m) (hm : w.heap[m]? = some (.cells cs T (0, 0))) (hc : cap ≤ maxLen) (hs : cs.size = cap * k) : OwnR k T P w0 w B (.slice (some ⟨m, 0, none⟩) 0 cap) ([] : List α) :=
  ⟨[], rfl, fun q h => (by cases h), by simp, .inr ⟨m, cap, cs, rfl, hB, hm, Nat.zero_le _, hc, hs, by simp⟩⟩
theorem Src9.blk {α : Type} {P : World → List Value → α → Prop} {w0 w : World} {z : Nat} {T : TypeId} {cs : List Value} {x : α} (h : P w0 cs x) (hz : w.heap[z]? = some (.cells cs.toArray T (0, 0))) : Src9 P w0 w (.slice (some ⟨z, 0, none⟩) 1 1) [x] := by
  refine ⟨[(cs, x)], rfl, fun q hq => by simp at hq; subst hq; exact h, .inr ⟨_, 1, rfl, fun j u hj => ?_⟩⟩
  have e : flat9 [(cs, x)] = cs := by simp
  rw [e] at hj
  rw [add_none9, Nat.zero_add, cell_of_row _ _ _ _ _ _ hz]
  simpa using hj
theorem SlAt.tail {α : Type} {k : Nat} {P : World → List Value → α → Prop} {w : World} {g off n ca : Nat} {x : α} {r : List α} (h : SlAt k P w (.slice (some ⟨g, off, none⟩) n ca) (x :: r)) : SlAt k P w (.slice (some ⟨g, off + k, none⟩) r.length (ca - 1)) r := by
  obtain ⟨A, cap, e, ⟨h1, h2⟩, h3⟩ := h
  injection e with e1 e2 e3
  subst e1 e3
  obtain ⟨g', off', e, hg, hc⟩ := h3 (by simp)
  injection e with e
  injection e with e4 e5
  subst e4 e5
  simp only [List.length_cons] at h1
  refine ⟨_, _, rfl, ⟨by omega, by omega⟩, fun _ => ⟨g, off + k, rfl, hg, fun i y hy => ?_⟩⟩
  obtain ⟨cs, h5, h6⟩ := hc (i + 1) y (by simpa using hy)
  refine ⟨cs, h5, fun j hj => ?_⟩
  rw [← h6 j hj, show off + k + i * k + j = off + (i + 1) * k + j by rw [Nat.add_mul]; omega]
/-- An edge, a fact as cells. -/
def EdP (_ : World) (cs : List Value) (e : Ed) : Prop := cs = [.int .i64 e.fr, .int .i64 e.mark, .int .i64 e.to] ∧ (I64 e.fr ∧ I64 e.mark ∧ I64 e.to)
theorem EdP.keeps : Keeps EdP := fun _ _ _ _ h _ => h
theorem EdP.cells : Cells 3 EdP := fun _ _ _ h => by
  obtain ⟨rfl, -⟩ := h
  refine ⟨rfl, fun u hu => ?_⟩
  simp only [List.mem_cons, List.not_mem_nil, or_false] at hu
  rcases hu with rfl | rfl | rfl <;> rfl
structure Ft where
  kind : Int
  a : Int
  s : ByteArray
  b : Int
def FtP (_ : World) (cs : List Value) (f : Ft) : Prop := cs = [.int .i64 f.kind, .int .i64 f.a, .string f.s, .int .i64 f.b] ∧ (I64 f.kind ∧ I64 f.a ∧ f.s.size ≤ maxLen ∧ I64 f.b)
theorem FtP.keeps : Keeps FtP := fun _ _ _ _ h _ => h
abbrev Edges9 (W : World) (v : Value) (l : List Ed) : Prop := SlAt 3 EdP W v l
abbrev Facts9 (W : World) (v : Value) (l : List Ft) : Prop := SlAt 4 FtP W v l
/-- The edge at a place, by its cells. -/
theorem ed_get {W : World} {A : Option Addr} {n cap : Nat} {l : List Ed} (h : Edges9 W (.slice A n cap) l) (i : Nat) (hi : i < n) :
    ∃ g off x, A = some ⟨g, off, none⟩ ∧ g < W.heap.size ∧ l[i]? = some x ∧ (I64 x.fr ∧ I64 x.mark ∧ I64 x.to) ∧ W.cell? ⟨g, off + i * 3, none⟩ = some (.int .i64 x.fr) ∧ W.cell? ⟨g, off + i * 3 + 1, none⟩ = some (.int .i64 x.mark) ∧ W.cell? ⟨g, off + i * 3 + 2, none⟩ = some (.int .i64 x.to) := by
  obtain ⟨-, -, -, hget⟩ := SlAt.get h
  obtain ⟨g, off, p, cs, rfl, hg, hp, ⟨rfl, h2⟩, hc⟩ := hget i hi
  exact ⟨g, off, p, rfl, hg, hp, h2, by simpa using hc 0 (by decide), by simpa using hc 1 (by decide), by simpa using hc 2 (by decide)⟩
theorem ft_get {W : World} {A : Option Addr} {n cap : Nat} {l : List Ft} (h : Facts9 W (.slice A n cap) l) (i : Nat) (hi : i < n) :
    ∃ g off x, A = some ⟨g, off, none⟩ ∧ g < W.heap.size ∧ l[i]? = some x ∧ (I64 x.kind ∧ I64 x.a ∧ x.s.size ≤ maxLen ∧ I64 x.b) ∧ W.cell? ⟨g, off + i * 4, none⟩ = some (.int .i64 x.kind) ∧ W.cell? ⟨g, off + i * 4 + 1, none⟩ = some (.int .i64 x.a) ∧ W.cell? ⟨g, off + i * 4 + 2, none⟩ = some (.string x.s) ∧ W.cell? ⟨g, off + i * 4 + 3, none⟩ = some (.int .i64 x.b) := by
  obtain ⟨-, -, -, hget⟩ := SlAt.get h
  obtain ⟨g, off, p, cs, rfl, hg, hp, ⟨rfl, h2⟩, hc⟩ := hget i hi
  exact ⟨g, off, p, rfl, hg, hp, h2, by simpa using hc 0 (by decide), by simpa using hc 1 (by decide), by simpa using hc 2 (by decide), by simpa using hc 3 (by decide)⟩
theorem drop_at {α : Type} {l : List α} {k : Nat} {x : α} (h : l[k]? = some x) : l.drop k = x :: l.drop (k + 1) := by
  obtain ⟨hl, rfl⟩ := List.getElem?_eq_some_iff.1 h
  exact List.drop_eq_getElem_cons hl
theorem take_at {α : Type} {l : List α} {k : Nat} {x : α} (h : l[k]? = some x) : l.take (k + 1) = l.take k ++ [x] := by
  rw [List.take_add_one, h]
  rfl
end Go.Proofs.Ytfiockconbaniaa
