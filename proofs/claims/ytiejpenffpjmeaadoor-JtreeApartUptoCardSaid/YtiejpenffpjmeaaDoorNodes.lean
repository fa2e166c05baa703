/- Trees as they lie in memory. -/
import Derived.Test.YtiejpenffpjmeaaDoorTree
import Derived.Test.YtiejpenffpjmeaaDoorRun
import Derived.StillTailTactics
namespace Go.Proofs.YtiejpenffpjmeaaDoor
open Go.RowKit Go.Proofs

/-- An operation, a text, a number that there are. -/
def Fine (o : Int) (s : Bs) (n : Int) : Prop := s.length ≤ maxLen ∧ (-9223372036854775808 ≤ o ∧ o ≤ 9223372036854775807) ∧ (-9223372036854775808 ≤ n ∧ n ≤ 9223372036854775807)
/-- A tree as a value, its parts in the slice v. -/
def nodeV (t : Tr) (v : Value) : Value := .agg #[.int .i64 t.op, .string (bs t.s), .int .i64 t.n, v, .int .i64 t.line]
mutual
/-- The slice value holds these trees, below block n. -/
def At (W : World) (n : Nat) : Tr → Value → Prop
  | .mk o s k i l, v => ∃ A cap, v = nodeV (.mk o s k i l) (.slice A l.length cap) ∧ (l.length ≤ cap ∧ cap ≤ maxLen ∧ Fine o s k) ∧ (0 < l.length → ∃ g off, A = some ⟨g, off, none⟩ ∧ g < n ∧ AtL W n g off l)
def AtL (W : World) (n g : Nat) : Nat → List Tr → Prop
  | _, [] => True
  | off, t :: r => (∃ v, At W n t (nodeV t v) ∧ W.cell? ⟨g, off, none⟩ = some (.int .i64 t.op) ∧ W.cell? ⟨g, off + 1, none⟩ = some (.string (bs t.s)) ∧ W.cell? ⟨g, off + 2, none⟩ = some (.int .i64 t.n) ∧ W.cell? ⟨g, off + 3, none⟩ = some v ∧ W.cell? ⟨g, off + 4, none⟩ = some (.int .i64 t.line)) ∧ AtL W n g (off + 5) r
end
/-- The slice value holds these trees, below block n. -/
def Row (W : World) (n : Nat) (l : List Tr) (v : Value) : Prop :=
  ∃ A cap, v = .slice A l.length cap ∧ (l.length ≤ cap ∧ cap ≤ maxLen) ∧ (0 < l.length → ∃ g off, A = some ⟨g, off, none⟩ ∧ g < n ∧ AtL W n g off l)
theorem At_iff (W : World) (n : Nat) (t : Tr) (v : Value) : At W n t v ↔ ∃ u, v = nodeV t u ∧ Row W n t.l u ∧ Fine t.op t.s t.n := by
  cases t with | mk o s k i l =>
  rw [At]
  unfold Row
  constructor
  · rintro ⟨A, cap, rfl, ⟨h1, h2, h3⟩, h4⟩
    exact ⟨_, rfl, ⟨A, cap, rfl, ⟨h1, h2⟩, h4⟩, h3⟩
  · rintro ⟨u, rfl, ⟨A, cap, rfl, ⟨h1, h2⟩, h4⟩, h3⟩
    exact ⟨A, cap, rfl, ⟨h1, h2, h3⟩, h4⟩
theorem AtL_nil (W : World) (n g off : Nat) : AtL W n g off [] := by rw [AtL]; trivial
theorem AtL_cons (W : World) (n g off : Nat) (t : Tr) (r : List Tr) : AtL W n g off (t :: r) ↔ (∃ v, At W n t (nodeV t v) ∧ W.cell? ⟨g, off, none⟩ = some (.int .i64 t.op) ∧ W.cell? ⟨g, off + 1, none⟩ = some (.string (bs t.s)) ∧ W.cell? ⟨g, off + 2, none⟩ = some (.int .i64 t.n) ∧ W.cell? ⟨g, off + 3, none⟩ = some v ∧ W.cell? ⟨g, off + 4, none⟩ = some (.int .i64 t.line)) ∧ AtL W n g (off + 5) r := by
  rw [AtL]

mutual
theorem At.keep : ∀ {W W' : World} {n n' : Nat} (t : Tr) {v : Value}, At W n t v → n ≤ n' → (∀ p : Addr, p.block < n → W'.cell? p = W.cell? p) → At W' n' t v
  | W, W', n, n', .mk o s k i l, v, h, hn, hk => by
    rw [At] at h ⊢
    obtain ⟨A, cap, rfl, h1, h2⟩ := h
    refine ⟨A, cap, rfl, h1, fun hl => ?_⟩
    obtain ⟨g, off, rfl, hg, ha⟩ := h2 hl
    exact ⟨g, off, rfl, by omega, AtL.keep l ha hg hn hk⟩
theorem AtL.keep : ∀ {W W' : World} {n n' g off : Nat} (l : List Tr), AtL W n g off l → g < n → n ≤ n' → (∀ p : Addr, p.block < n → W'.cell? p = W.cell? p) → AtL W' n' g off l
  | W, W', n, n', g, off, [], _, _, _, _ => AtL_nil _ _ _ _
  | W, W', n, n', g, off, t :: r, h, hg, hn, hk => by
    rw [AtL_cons] at h ⊢
    obtain ⟨⟨v, h0, h1, h2, h3, h4, h5⟩, h6⟩ := h
    exact ⟨⟨v, At.keep t h0 hn hk, (hk _ hg).trans h1, (hk _ hg).trans h2, (hk _ hg).trans h3, (hk _ hg).trans h4, (hk _ hg).trans h5⟩, AtL.keep r h6 hg hn hk⟩
end
theorem Row.keep {W W' : World} {n n' : Nat} {l : List Tr} {v : Value} (h : Row W n l v) (hn : n ≤ n') (hk : ∀ p : Addr, p.block < n → W'.cell? p = W.cell? p) : Row W' n' l v := by
  obtain ⟨A, cap, rfl, h1, h2⟩ := h
  refine ⟨A, cap, rfl, h1, fun hl => ?_⟩
  obtain ⟨g, off, rfl, hg, ha⟩ := h2 hl
  exact ⟨g, off, rfl, by omega, AtL.keep l ha hg hn hk⟩
theorem Row.below {W W' : World} {n : Nat} {l : List Tr} {v : Value} (h : Row W n l v) (hb : Below n W W') : Row W' n l v := h.keep (Nat.le_refl _) fun _ hp => hb.cell hp
theorem At.below {W W' : World} {n : Nat} {t : Tr} {v : Value} (h : At W n t v) (hb : Below n W W') : At W' n t v := At.keep t h (Nat.le_refl _) fun _ hp => hb.cell hp
/-- The part at a place. -/
theorem AtL.get : ∀ {W : World} {n g off : Nat} (l : List Tr) (k : Nat) (t : Tr), AtL W n g off l → l[k]? = some t →
    ∃ v, At W n t (nodeV t v) ∧ W.cell? ⟨g, off + k * 5, none⟩ = some (.int .i64 t.op) ∧ W.cell? ⟨g, off + k * 5 + 1, none⟩ = some (.string (bs t.s)) ∧ W.cell? ⟨g, off + k * 5 + 2, none⟩ = some (.int .i64 t.n) ∧ W.cell? ⟨g, off + k * 5 + 3, none⟩ = some v ∧ W.cell? ⟨g, off + k * 5 + 4, none⟩ = some (.int .i64 t.line)
  | W, n, g, off, [], k, t, h, hk => by simp at hk
  | W, n, g, off, a :: r, 0, t, h, hk => by
    obtain rfl : a = t := by simpa using hk
    rw [AtL_cons] at h
    simpa using h.1
  | W, n, g, off, a :: r, k + 1, t, h, hk => by
    rw [AtL_cons] at h
    have := AtL.get r k t h.2 (by simpa using hk)
    have e : off + 5 + k * 5 = off + (k + 1) * 5 := by omega
    rwa [e] at this
end Go.Proofs.YtiejpenffpjmeaaDoor
