/- listed.add. -/
import Derived.Test.YtpbbinppikaamaaOwn
namespace Go.Proofs.Ytpbbinppikaamaa
open Go.RowKit Go.Proofs Go.Maps

theorem zero82 (w : World) : (zeroValue 82).run Try.prog w = .ok (.agg #[]) w := by kernel_rfl
/-- Keys, each once, in memory. -/
structure LAt (W : World) (G m : Nat) (v : Value) (acc : List ByteArray) (T : Nat) : Prop where
  head : W.heap[G]? = some (.cells #[v, .map (some m)] 73 (0, 0))
  row : W.ownsRow 0 9 1 v acc.length (strsOf acc)
  map : ∃ D : DataW Unit, W.ownsMap Try.prog 9 unitElem m T D ∧ ∀ s : ByteArray, Maps.has D (kl s) = acc.any (fun x => decide (x = s))
  small : acc.length ≤ T
/-- What turned, and where the list lies now. -/
def Fr (G m : Nat) (v0 : Value) (W : World) (v : Value) (W' : World) : Prop :=
  Only (fun k => k = G ∨ k = m ∨ v0.ownBlock = some k) W W' ∧ (v.ownBlock = v0.ownBlock ∨ ∃ k, v.ownBlock = some k ∧ W.heap.size ≤ k)
theorem Fr.refl (G m : Nat) (v : Value) (W : World) : Fr G m v W v W := ⟨Only.refl _ _, .inl rfl⟩
theorem Fr.trans {G m : Nat} {v0 v1 v2 : Value} {W0 W1 W2 : World} (h : Fr G m v0 W0 v1 W1) (g : Fr G m v1 W1 v2 W2) : Fr G m v0 W0 v2 W2 := by
  have hs := h.1.size
  refine ⟨⟨g.1.os.trans h.1.os, g.1.tape.trans h.1.tape, g.1.output.trans h.1.output, Nat.le_trans h.1.size g.1.size, fun k hk hn => ?_⟩, ?_⟩
  · refine (g.1.block k (by omega) (fun e => ?_)).trans (h.1.block k hk hn)
    rcases e with e | e | e
    · exact hn (.inl e)
    · exact hn (.inr (.inl e))
    · rcases h.2 with h2 | ⟨j, h2, h3⟩
      · exact hn (.inr (.inr (h2 ▸ e)))
      · rw [e] at h2
        cases h2
        omega
  · rcases g.2 with g2 | ⟨j, g2, g3⟩
    · rw [g2]
      exact h.2
    · exact .inr ⟨j, g2, by omega⟩
section
variable {W W' : World} {G m T : Nat} {v : Value} {acc : List ByteArray}
theorem LAt.gm (h : LAt W G m v acc T) {b : Nat} {cs : Array Value} {t : TypeId} {f : Nat × Nat} (hb : W.heap[b]? = some (.cells cs t f)) : b ≠ m := by
  obtain ⟨D, hm, _⟩ := h.map
  rintro rfl
  obtain ⟨es, clock, h', _⟩ := hm
  rw [hb] at h'
  cases h'
theorem LAt.keep (h : LAt W G m v acc T) (hk : ∀ k, k = G ∨ k = m ∨ v.ownBlock = some k → W'.heap[k]? = W.heap[k]?) : LAt W' G m v acc T :=
  ⟨(hk _ (.inl rfl)).trans h.head, row_keep h.row (fun j hj => hk j (.inr (.inr hj))), by
    obtain ⟨D, ⟨es, clock, h1, h2⟩, hA⟩ := h.map
    exact ⟨D, ⟨es, clock, (hk _ (.inr (.inl rfl))).trans h1, h2⟩, hA⟩, h.small⟩
theorem LAt.lt (h : LAt W G m v acc T) : ∀ k, k = G ∨ k = m ∨ v.ownBlock = some k → k < W.heap.size := by
  rintro k (rfl | rfl | hk)
  · exact heap_lt h.head
  · obtain ⟨D, hm, _⟩ := h.map
    exact hm.lt
  · exact row_lt h.row hk
theorem LAt.below (h : LAt W G m v acc T) (hb : Below W.heap.size W W') : LAt W' G m v acc T := h.keep (fun k hk => hb.block k (h.lt k hk))
theorem LAt.mono (h : LAt W G m v acc T) {T' : Nat} (hT : T ≤ T') : LAt W G m v acc T' := ⟨h.head, h.row, by obtain ⟨D, hm, hA⟩ := h.map; exact ⟨D, hm.mono hT, hA⟩, Nat.le_trans h.small hT⟩
theorem LAt.look (h : LAt W G m v acc T) (s : ByteArray) (hs : s.size ≤ maxLen) :
    (Instr.lookup 71 (.map (some m)) (.string s) true).run Try.prog W = .ok (.tuple #[.agg #[], .bool (acc.any (fun x => decide (x = s)))]) W := by
  obtain ⟨D, hm, hA⟩ := h.map
  obtain ⟨v, ps, hrun, hv⟩ := World.ownsMap.look_ok hm strKey Try.underlying71 (zero82 W) (zd := .agg []) (zp := []) unitElem_mk (WideMaps.keyOf_string_mk Try.underlying9 hs)
  rw [show (Lit.string s.data.toList) = kl s from rfl, hA s] at hrun
  rw [(unitElem_inv hv).1] at hrun
  exact hrun
/-- One key more: the map. -/
theorem LAt.upd (h : LAt W G m v acc T) (hT : T ≤ 1000000) (s : ByteArray) (hs : s.size ≤ maxLen) : ∃ W', (Instr.mapUpdate 71 (.map (some m)) (.string s) (.agg #[])).run Try.prog W = .ok () W' ∧
    (W'.heap[G]? = some (.cells #[v, .map (some m)] 73 (0, 0)) ∧ W'.ownsRow 0 9 1 v acc.length (strsOf acc) ∧ (∃ D : DataW Unit, W'.ownsMap Try.prog 9 unitElem m (T + 1) D ∧ ∀ t : ByteArray, Maps.has D (kl t) = (acc ++ [s]).any (fun x => decide (x = t))) ∧ Only (fun k => k = m) W W') := by
  obtain ⟨D, hm, hA⟩ := h.map
  obtain ⟨W', hrun, h1, h2⟩ := World.ownsMap.update hm strKey Try.underlying71 (by unfold maxLen; omega) (WideMaps.keyOf_string_mk Try.underlying9 hs) (unitElem_mk (H := Unit))
  have keep : ∀ i, i < W.heap.size → i ≠ m → W'.heap[i]? = W.heap[i]? := fun i hi hn => h2.block i hi (fun e => hn (by simpa using e))
  refine ⟨W', hrun, (keep _ (heap_lt h.head) (h.gm h.head)).trans h.head, row_keep h.row (fun j hj => ?_), ⟨_, h1, fun t => ?_⟩, Only.grown h2 (fun r e => by cases e; rfl)⟩
  · obtain ⟨cs, hb⟩ := row_blk h.row hj
    exact keep j (heap_lt hb) (h.gm hb)
  · by_cases e : t = s
    · subst e
      rw [show (Lit.string t.data.toList) = kl t from rfl, Maps.has_put_same hm.isMap (show WideAt.IsKeyLit (kl t) from trivial)]
      simp
    · rw [show (Lit.string s.data.toList) = kl s from rfl, Maps.has_put_other (kl_ne e), hA t]
      simp [Ne.symm e]
end
theorem addL_app (acc a : List ByteArray) (s : ByteArray) : addL acc (a ++ [s]) = (if (addL acc a).any (fun x => decide (x = s)) = true then addL acc a else addL acc a ++ [s]) := by
  induction a generalizing acc with
  | nil =>
    simp only [List.nil_append, addL]
    rfl
  | cons k r ih =>
    simp only [List.cons_append, addL]
    split
    · exact ih acc
    · exact ih _
end Go.Proofs.Ytpbbinppikaamaa
