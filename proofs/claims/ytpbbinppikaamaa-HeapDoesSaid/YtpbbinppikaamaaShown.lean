/- What all laws ask first: a key is got from behind. -/
import Derived.Test.YtpbbinppikaamaaNew
namespace Go.Proofs.Ytpbbinppikaamaa
open Go.RowKit Go.Proofs Go.Maps

/-- Where a law's walk stands: a heap of its own, and boxes beside it. -/
structure St (w W : World) (F : Nat → Prop) (b T : Nat) (L : Hp) (bx : List (Nat × V)) : Prop where
  below : Below w.heap.size w W
  heap : IsH W F b T L
  low : ∀ i, F i → w.heap.size ≤ i
  boxes : ∀ p ∈ bx, VBox W p.1 p.2 ∧ ¬ F p.1
section
variable {w W W' : World} {F : Nat → Prop} {b T T' : Nat} {L L' : Hp} {bx : List (Nat × V)}
theorem St.move (h : St w W F b T L bx) (hb : Below W.heap.size W W') : St w W' F b T L bx :=
  ⟨h.below.trans (hb.mono h.below.size), h.heap.below hb, h.low, fun p hp => ⟨(hb.block _ (heap_lt (h.boxes p hp).1)).trans (h.boxes p hp).1, (h.boxes p hp).2⟩⟩
theorem St.turn (h : St w W F b T L bx) (h' : IsH W' (ext F W W') b T' L') (ho : Only F W W') : St w W' (ext F W W') b T' L' bx :=
  ⟨h.below.trans (ho.below h.below.size h.low), h', fun i hi => by
    rcases hi with hi | hi
    · exact h.low i hi
    · have := h.below.size
      omega, fun p hp => by
    have hl := heap_lt (h.boxes p hp).1
    refine ⟨(ho.block _ hl (h.boxes p hp).2).trans (h.boxes p hp).1, ?_⟩
    rintro (hi | hi)
    · exact (h.boxes p hp).2 hi
    · omega⟩
theorem St.box (h : St w W F b T L bx) (x : V) : St w (W.alloc (.cells #[.int .i64 x.k, .int .i64 x.n, .string x.s] 32)) F b T L ((W.heap.size, x) :: bx) := by
  have h' := h.move (below_box W (.cells #[.int .i64 x.k, .int .i64 x.n, .string x.s] 32))
  refine ⟨h'.below, h'.heap, h'.low, fun p hp => ?_⟩
  rcases List.mem_cons.1 hp with rfl | hp
  · exact ⟨heap_alloc_new _ _, fun hf => by have := h.heap.lt _ hf; simp at this⟩
  · exact h'.boxes p hp
theorem St.cells (h : St w W F b T L bx) {B : Nat} {x : V} (hp : (B, x) ∈ bx) : W.cell? ⟨B, 0, none⟩ = some (.int .i64 x.k) ∧ W.cell? ⟨B, 1, none⟩ = some (.int .i64 x.n) ∧ W.cell? ⟨B, 2, none⟩ = some (.string x.s) :=
  (vbox_cells (h.boxes _ hp).1).1
theorem St.start {w1 : World} (h : IsH w1 (From w.heap.size w1) b T L) (hb : Below w.heap.size w w1) : St w w1 (From w.heap.size w1) b T L [] := ⟨hb, h, fun _ hi => hi.1, fun p hp => by simp at hp⟩
end
def V.ref (n : Int) : V := ⟨5, n, ⟨#[]⟩⟩
theorem get_shown : get new0 2 callB = some (V.ref 2) := by decide +kernel
theorem own_shown : own new0 2 callB = none := by decide +kernel
theorem allocE_shown : allocE new0 1 = 0 := by decide +kernel

set_option maxRecDepth 100000 in
set_option maxHeartbeats 4000000 in
theorem shown_any (w : World) : Calls Try.prog 11 #[] w fun e w' => e = .returned (.bool true) ∧ Below w.heap.size w w' := by
  have HN := Lib.hid (New_any w)
  have hcb : callB.size ≤ maxLen := by unfold maxLen; decide
  go_enter Try.func11, Try.ntmps11
  go_wp2_with fail
  go_at_call 12
  refine (HN.out).mono ?_
  rintro e w1 ⟨b, rfl, hI, hB⟩
  have S := Lib.hid (St.start hI hB)
  have HG := Lib.hid (Get_any 2 callB w1 hI hcb)
  rw [get_shown] at HG
  simp only [ans, V.v, V.ref, callB, Option.getD_some, Option.isSome_some] at HG
  clear hI hB HN
  go_wp2_with fail
  go_at_call 25
  refine (HG.out).mono ?_
  rintro e w2 ⟨rfl, hb⟩
  replace S := Lib.hid ((S.out.move hb).box (V.ref 2))
  have HO := Lib.hid (Own_any 2 callB _ S.out.heap hcb)
  rw [own_shown] at HO
  simp only [ans, V.v, V.ref, V.zero, callB, Option.getD_none, Option.isSome_none] at HO S
  clear hb HG
  go_wp2_with fail
  go_at_call 24
  refine (HO.out).mono ?_
  rintro e w3 ⟨rfl, hb⟩
  replace S := Lib.hid ((S.out.move hb).box V.zero)
  have HA := Lib.hid (Alloc_any 9 1 0 0 _ S.out.heap)
  rw [show allocV new0 1 = 4 from rfl, allocE_shown] at HA
  simp only [V.zero] at HA S
  clear hb HO
  go_wp2_with fail
  go_at_call 23
  refine (HA.out).mono ?_
  rintro e w4 ⟨rfl, hI, ho⟩
  replace S := Lib.hid (S.out.turn hI ho)
  have HL := Lib.hid (len_any _ S.out.heap)
  obtain ⟨c0, c1, c2⟩ := S.out.cells (List.mem_cons_of_mem _ (List.mem_cons_self))
  rw [show (allocL new0 9 1 0 0).length = 5 from rfl] at HL
  clear hI ho HA
  go_wp2_with (go_at_call 15; (with_reducible refine (HL.out).mono ?_); rintro e w' ⟨rfl, rfl⟩)
  go_ret
  exact ⟨rfl, S.out.below⟩
end Go.Proofs.Ytpbbinppikaamaa
