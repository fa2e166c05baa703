/- An object in memory; object.get. -/
import Derived.Test.YtpbbinppikaamaaProg
import Derived.Test.YtpbbinppikaamaaModel
import Derived.Maps.Own
import Derived.Maps.OwnSet
import Derived.Maps.OwnIn
namespace Go.Proofs.Ytpbbinppikaamaa
open Go.RowKit Go.Proofs Go.Maps

theorem strKey : Keyed Try.prog 9 := string_keyed Try.underlying9
def vdat (x : V) : DataW Unit := .agg [.lit (.int .i64 x.k), .lit (.int .i64 x.n), .lit (.string x.s.data.toList)]
/-- How a value reads, for this proof. -/
def valElem : Value → Option (DataW Unit × List MemPlace)
  | .agg ⟨[.int .i64 k, .int .i64 n, .string s]⟩ => some (vdat ⟨k, n, s⟩, [])
  | _ => none
theorem valElem_mk (x : V) : valElem x.v = some (vdat x, []) := rfl
theorem vdat_inj {x y : V} (h : vdat x = vdat y) : x = y := by
  obtain ⟨k, n, s⟩ := x
  obtain ⟨k', n', s'⟩ := y
  simp only [vdat, DataW.agg.injEq, List.cons.injEq, DataW.lit.injEq, Lit.int.injEq, Lit.string.injEq, true_and, and_true] at h
  obtain ⟨rfl, rfl, h⟩ := h
  have : s = s' := by
    cases s with
    | mk d =>
      cases s' with
      | mk d' =>
        have : d = d' := Array.toList_inj.1 h
        rw [this]
  rw [this]
theorem valElem_inv {v : Value} {x : V} {ps : List MemPlace} (h : valElem v = some (vdat x, ps)) : v = x.v := by
  unfold valElem at h
  split at h
  · rename_i k n s
    simp only [Option.some.injEq, Prod.mk.injEq] at h
    have := vdat_inj h.1
    subst this
    rfl
  · cases h
theorem zero32 (w : World) : (zeroValue 32).run Try.prog w = .ok V.zero.v w := by kernel_rfl
/-- What a key reads as. -/
def kl (s : ByteArray) : Lit := .string s.data.toList
theorem kl_ne {s t : ByteArray} (h : s ≠ t) : kl s ≠ kl t := fun e => h (by
  cases s with
  | mk d =>
    cases t with
    | mk d' =>
      have : d.toList = d'.toList := by simpa [kl] using e
      rw [Array.toList_inj.1 this])
/-- A map and a list of keys with their values. -/
def Agree (D : DataW Unit) (kv : List (ByteArray × V)) : Prop :=
  ∀ s : ByteArray, Maps.has D (kl s) = (lk kv s).isSome ∧ D.atKey (kl s) (vdat V.zero) = vdat ((lk kv s).getD V.zero)
theorem Agree.nil : Agree (.map []) [] := fun _ => ⟨rfl, rfl⟩
theorem Agree.put {D : DataW Unit} {kv : List (ByteArray × V)} (h : Agree D kv) (hD : IsMap D) (s : ByteArray) (v : V) : Agree (D.put (kl s) (vdat v)) (pt kv s v) := fun t => by
  have hk : WideAt.IsKeyLit (kl s) := trivial
  by_cases e : t = s
  · subst e
    rw [Maps.has_put_same hD hk, Maps.atKey_put_same hD hk, lk_pt_same]
    exact ⟨rfl, rfl⟩
  · rw [Maps.has_put_other (kl_ne e), Maps.atKey_put_other (kl_ne e), lk_pt_other _ _ _ _ e]
    exact h t

/-- Where an object lies. -/
structure Spot where
  b : Nat
  m : Nat
  ks : Value
def Spot.blk (p : Spot) (i : Nat) : Prop := i = p.b ∨ i = p.m ∨ p.ks.ownBlock = some i
def strsOf (l : List ByteArray) : List Value := l.map Value.string
def Ob.cells (o : Ob) (p : Spot) : Array Value := #[.int .i64 o.mark, .int .i64 o.proto, .int .i64 o.code, .int .i64 o.frame, p.ks, .map (some p.m)]
/-- The object o lies at p. -/
structure ObAt (w : World) (T : Nat) (p : Spot) (o : Ob) : Prop where
  head : w.heap[p.b]? = some (.cells (o.cells p) 70 (0, 0))
  row : w.ownsRow 0 9 1 p.ks o.kv.length (strsOf (keysOf o.kv))
  map : ∃ D, w.ownsMap Try.prog 9 valElem p.m T D ∧ Agree D o.kv
  small : o.kv.length ≤ T
  keyb : ∀ s ∈ keysOf o.kv, s.size ≤ maxLen
section
variable {w w' : World} {T : Nat} {p : Spot} {o : Ob}
theorem ObAt.mb (h : ObAt w T p o) {b : Nat} {cs : Array Value} {t : TypeId} {f : Nat × Nat} (hb : w.heap[b]? = some (.cells cs t f)) : b ≠ p.m := by
  obtain ⟨D, hm, _⟩ := h.map
  rintro rfl
  obtain ⟨es, clock, h', _⟩ := hm
  rw [hb] at h'
  cases h'
theorem ObAt.keep (h : ObAt w T p o) (hk : ∀ i, p.blk i → w'.heap[i]? = w.heap[i]?) : ObAt w' T p o :=
  ⟨(hk _ (.inl rfl)).trans h.head, row_keep h.row (fun j hj => hk j (.inr (.inr hj))), by
    obtain ⟨D, ⟨es, clock, h1, h2⟩, hA⟩ := h.map
    exact ⟨D, ⟨es, clock, (hk _ (.inr (.inl rfl))).trans h1, h2⟩, hA⟩, h.small, h.keyb⟩
theorem ObAt.more (h : ObAt w T p o) {T' : Nat} (hT : T ≤ T') : ObAt w T' p o :=
  ⟨h.head, h.row, by obtain ⟨D, hm, hA⟩ := h.map; exact ⟨D, hm.mono hT, hA⟩, Nat.le_trans h.small hT, h.keyb⟩
theorem ObAt.lt (h : ObAt w T p o) {i : Nat} (hi : p.blk i) : i < w.heap.size := by
  rcases hi with rfl | rfl | hi
  · exact heap_lt h.head
  · obtain ⟨D, hm, _⟩ := h.map
    exact hm.lt
  · exact row_lt h.row hi
theorem ObAt.below (h : ObAt w T p o) (hb : Below w.heap.size w w') : ObAt w' T p o := h.keep (fun i hi => hb.block i (h.lt hi))
theorem ObAt.b_lt (h : ObAt w T p o) : p.b < w.heap.size := h.lt (.inl rfl)
theorem ObAt.cell (h : ObAt w T p o) (j : Nat) (u : Value) (hu : (o.cells p)[j]? = some u) : w.cell? ⟨p.b, j, none⟩ = some u := by
  rw [cell_of_row _ _ _ _ _ _ h.head]
  exact hu
theorem ObAt.frozen (h : ObAt w T p o) (j : Nat) : w.frozen? ⟨p.b, j, none⟩ = false := by simp [World.frozen?, h.head]
theorem ObAt.look (h : ObAt w T p o) (s : ByteArray) (hs : s.size ≤ maxLen) :
    (Instr.lookup 68 (.map (some p.m)) (.string s) true).run Try.prog w = .ok (.tuple #[((lk o.kv s).getD V.zero).v, .bool (lk o.kv s).isSome]) w := by
  obtain ⟨D, hm, hA⟩ := h.map
  obtain ⟨v, ps, hrun, hv⟩ := World.ownsMap.look_ok hm strKey Try.underlying68 (zero32 w) (zd := vdat V.zero) (zp := []) (valElem_mk _) (WideMaps.keyOf_string_mk Try.underlying9 hs)
  rw [show (Lit.string s.data.toList) = kl s from rfl] at hrun hv
  rw [(hA s).1] at hrun
  rw [(hA s).2] at hv
  rw [valElem_inv hv] at hrun
  exact hrun
end

set_option maxHeartbeats 1000000 in
theorem get_any (p : Spot) (o : Ob) (T : Nat) (s : ByteArray) (w : World) (h : ObAt w T p o) (hs : s.size ≤ maxLen) :
    Calls Try.prog 37 #[.pointer (some ⟨p.b, 0, none⟩), .string s] w fun e w' => e = .returned (.tuple #[((lk o.kv s).getD V.zero).v, .bool (lk o.kv s).isSome]) ∧ Below w.heap.size w w' := by
  have h' := h.below ((Below.refl _ w).alloc (Nat.le_refl _) (.cells #[.int .i64 0, .int .i64 0, .string ⟨#[]⟩] 32))
  have c5 := h'.cell 5 (.map (some p.m)) rfl
  have hl := h'.look s hs
  have hb := h.b_lt
  generalize (lk o.kv s).getD V.zero = x at hl ⊢
  generalize (lk o.kv s).isSome = y at hl ⊢
  obtain ⟨k, n, t⟩ := x
  simp only [V.v] at hl ⊢
  clear h h'
  go_enter Try.func37, Try.ntmps37
  go_wp2

  refine bodyPost_ret (v := .tuple #[.agg #[.int .i64 k, .int .i64 n, .string t], .bool y]) (by simp [results, Try.results37, go_sem]) rfl ⟨rfl, ?_⟩
  repeat (first | exact Below.refl _ _ | refine Below.setCell ?_ (by simp) _ | refine Below.alloc ?_ (by simp) _ | refine Below.drew ?_)
end Go.Proofs.Ytpbbinppikaamaa
