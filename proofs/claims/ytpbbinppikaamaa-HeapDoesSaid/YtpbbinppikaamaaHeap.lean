/- A heap in memory; heap.Len, at, takes, Put, Own, Obj. -/
import Derived.Test.YtpbbinppikaamaaPutO
namespace Go.Proofs.Ytpbbinppikaamaa
open Go.RowKit Go.Proofs Go.Maps

def ptr (p : Spot) : Value := .pointer (some ⟨p.b, 0, none⟩)
/-- Two objects have no block in common. -/
def Apart (p q : Spot) : Prop := p.b ≠ q.b ∧ p.m ≠ q.m ∧ ∀ k, p.ks.ownBlock = some k → q.ks.ownBlock ≠ some k
/-- Block b is a heap that holds L; all of it lies in F. T: no object has more keys than that. -/
structure HeapAt (w : World) (F : Nat → Prop) (b T : Nat) (L : Hp) (v : Value) (sp : List Spot) : Prop where
  head : w.heap[b]? = some (.cells #[v] 60 (0, 0))
  mine : F b
  row : w.ownsRow 0 66 1 v L.length (sp.map ptr)
  rowF : ∀ k, v.ownBlock = some k → F k
  len : sp.length = L.length
  obj : ∀ (i : Nat) (p : Spot) (o : Ob), sp[i]? = some p → L[i]? = some o → ObAt w T p o
  objF : ∀ p ∈ sp, ∀ i, p.blk i → F i
  apart : sp.Pairwise Apart
  lt : ∀ i, F i → i < w.heap.size
def IsH (w : World) (F : Nat → Prop) (b T : Nat) (L : Hp) : Prop := (∃ v sp, HeapAt w F b T L v sp) ∧ Wf L ∧ L.length ≤ 5000
section
variable {w w' : World} {F G : Nat → Prop} {b T : Nat} {L : Hp} {v : Value} {sp : List Spot}
theorem HeapAt.keep (h : HeapAt w F b T L v sp) (hk : ∀ i, F i → w'.heap[i]? = w.heap[i]?) (hs : w.heap.size ≤ w'.heap.size) : HeapAt w' F b T L v sp :=
  ⟨(hk b h.mine).trans h.head, h.mine, row_keep h.row (fun j hj => hk j (h.rowF j hj)), h.rowF, h.len,
    fun i p o hp ho => (h.obj i p o hp ho).keep (fun j hj => hk j (h.objF p (List.mem_of_getElem? hp) j hj)), h.objF, h.apart, fun i hi => by have := h.lt i hi; omega⟩
theorem HeapAt.mono (h : HeapAt w F b T L v sp) (hF : ∀ i, F i → G i) (hl : ∀ i, G i → i < w.heap.size) : HeapAt w G b T L v sp :=
  ⟨h.head, hF _ h.mine, h.row, fun k hk => hF k (h.rowF k hk), h.len, h.obj, fun p hp i hi => hF i (h.objF p hp i hi), h.apart, hl⟩
theorem IsH.lt (h : IsH w F b T L) : ∀ i, F i → i < w.heap.size := by obtain ⟨⟨v, sp, h⟩, -⟩ := h; exact h.lt
theorem IsH.keep (h : IsH w F b T L) (hk : ∀ i, F i → w'.heap[i]? = w.heap[i]?) (hs : w.heap.size ≤ w'.heap.size) : IsH w' F b T L := by
  obtain ⟨⟨v, sp, h⟩, h2⟩ := h
  exact ⟨⟨v, sp, h.keep hk hs⟩, h2⟩
theorem IsH.below (h : IsH w F b T L) (hb : Below w.heap.size w w') : IsH w' F b T L := h.keep (fun i hi => hb.block i (h.lt i hi)) hb.size
theorem IsH.only (h : IsH w F b T L) (hb : Only G w w') (hd : ∀ i, F i → ¬ G i) : IsH w' F b T L := h.keep (fun i hi => hb.block i (h.lt i hi) (hd i hi)) hb.size
theorem IsH.mono (h : IsH w F b T L) (hF : ∀ i, F i → G i) (hl : ∀ i, G i → i < w.heap.size) : IsH w G b T L := by
  obtain ⟨⟨v, sp, h⟩, h2⟩ := h
  exact ⟨⟨v, sp, h.mono hF hl⟩, h2⟩
theorem HeapAt.has (h : HeapAt w F b T L v sp) {i : Nat} {o : Ob} (ho : L[i]? = some o) : ∃ p, sp[i]? = some p ∧ ObAt w T p o := by
  have hl := (List.getElem?_eq_some_iff.1 ho).1
  have : i < sp.length := by have := h.len; omega
  exact ⟨sp[i], List.getElem?_eq_getElem this, h.obj i _ o (List.getElem?_eq_getElem this) ho⟩
end

set_option maxHeartbeats 400000 in
theorem len_nil (w : World) : Calls Try.prog 15 #[.pointer none] w fun e w' => e = .returned (.int .i64 0) ∧ w = w' := by
  go_enter Try.func15, Try.ntmps15
  go_wp2
  go_ret
  exact ⟨rfl, rfl⟩
set_option maxHeartbeats 400000 in
theorem len_any {F : Nat → Prop} {b T : Nat} {L : Hp} (w : World) (h : IsH w F b T L) :
    Calls Try.prog 15 #[.pointer (some ⟨b, 0, none⟩)] w fun e w' => e = .returned (.int .i64 L.length) ∧ w = w' := by
  obtain ⟨⟨v, sp, h⟩, -⟩ := h
  obtain ⟨A, c, rfl, -, -⟩ := row_slice h.row
  have c0 : w.cell? ⟨b, 0, none⟩ = some (.slice A L.length c) := cell_of_row w b 0 _ _ _ h.head
  clear h
  go_enter Try.func15, Try.ntmps15
  go_wp2
  go_ret
  exact ⟨rfl, rfl⟩
set_option maxHeartbeats 400000 in
theorem at_nil (i : Int) (w : World) : Calls Try.prog 33 #[.pointer none, .int .i64 i] w fun e w' => e = .returned (.pointer none) ∧ w = w' := by
  by_cases hi : i < 0
  · go_enter Try.func33, Try.ntmps33
    go_wp2
    go_ret
    exact ⟨rfl, rfl⟩
  · have hi' : (0 : Int) ≤ i := by omega
    go_enter Try.func33, Try.ntmps33
    go_wp2_with (go_at_call 15; (with_reducible refine (len_nil _).mono ?_); rintro e w' ⟨rfl, rfl⟩)
    go_ret
    exact ⟨rfl, rfl⟩
set_option maxHeartbeats 400000 in
theorem at_out {F : Nat → Prop} {b T : Nat} {L : Hp} (i : Int) (w : World) (h : IsH w F b T L) (ho : at? L i = none) :
    Calls Try.prog 33 #[.pointer (some ⟨b, 0, none⟩), .int .i64 i] w fun e w' => e = .returned (.pointer none) ∧ w = w' := by
  have hc := at?_none ho
  have HL := Lib.hid (len_any w h)
  clear h ho
  by_cases hi : i < 0
  · go_enter Try.func33, Try.ntmps33
    go_wp2
    go_ret
    exact ⟨rfl, rfl⟩
  · have hi' : (L.length : Int) ≤ i := by omega
    go_enter Try.func33, Try.ntmps33
    go_wp2_with (go_at_call 15; (with_reducible refine (HL.out).mono ?_); rintro e w' ⟨rfl, rfl⟩)
    go_ret
    exact ⟨rfl, rfl⟩
theorem HeapAt.at_ptr {w : World} {F : Nat → Prop} {b T : Nat} {L : Hp} {v : Value} {sp : List Spot} (h : HeapAt w F b T L v sp) {i : Nat} {p : Spot} (hp : sp[i]? = some p) :
    ∃ g c, v = .slice (some ⟨g, 0, none⟩) L.length c ∧ w.cell? ⟨g, i, none⟩ = some (.pointer (some ⟨p.b, 0, none⟩)) := by
  have hl := (List.getElem?_eq_some_iff.1 hp).1
  have := h.len
  rcases row_form h.row with ⟨-, h0⟩ | ⟨g, c, rfl, -, -, -⟩
  · omega
  · exact ⟨g, c, rfl, row_cell h.row i _ (by rw [List.getElem?_map, hp]; rfl)⟩
set_option maxHeartbeats 400000 in
theorem at_in {F : Nat → Prop} {b T : Nat} {L : Hp} {v : Value} {sp : List Spot} (i : Nat) (p : Spot) (w : World) (h : HeapAt w F b T L v sp) (h2 : Wf L) (h3 : L.length ≤ 5000) (hp : sp[i]? = some p) :
    Calls Try.prog 33 #[.pointer (some ⟨b, 0, none⟩), .int .i64 i] w fun e w' => e = .returned (.pointer (some ⟨p.b, 0, none⟩)) ∧ w = w' := by
  have HL := Lib.hid (len_any w ⟨⟨v, sp, h⟩, h2, h3⟩)
  obtain ⟨g, c, rfl, hg⟩ := h.at_ptr hp
  have hlt : i < L.length := by have := (List.getElem?_eq_some_iff.1 hp).1; have := h.len; omega
  have hlt' : (i : Int) < (L.length : Int) := by omega
  have c0 : w.cell? ⟨b, 0, none⟩ = some (.slice (some ⟨g, 0, none⟩) L.length c) := cell_of_row w b 0 _ _ _ h.head
  clear h h2 hp
  go_enter Try.func33, Try.ntmps33
  go_wp2_with (go_at_call 15; (with_reducible refine (HL.out).mono ?_); rintro e w' ⟨rfl, rfl⟩)
  go_ret
  exact ⟨rfl, rfl⟩
end Go.Proofs.Ytpbbinppikaamaa
