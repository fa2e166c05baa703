/- The law HeapNone's walk. -/
import Derived.Test.YtpbbinppikaamaaSame
namespace Go.Proofs.Ytpbbinppikaamaa
open Go.RowKit Go.Proofs Go.Maps

/-- Where a walk stands: boxes that are there. -/
structure Nt (w W : World) (bx : List (Nat × V)) : Prop where
  below : Below w.heap.size w W
  boxes : ∀ p ∈ bx, VBox W p.1 p.2
section
variable {w W W' : World} {bx : List (Nat × V)}
theorem Nt.start (w : World) : Nt w w [] := ⟨Below.refl _ _, fun p hp => by simp at hp⟩
theorem Nt.move (h : Nt w W bx) (hb : Below W.heap.size W W') : Nt w W' bx := ⟨h.below.trans (hb.mono h.below.size), fun p hp => (hb.block _ (heap_lt (h.boxes p hp))).trans (h.boxes p hp)⟩
theorem Nt.box (h : Nt w W bx) (x : V) : Nt w (W.alloc (.cells #[.int .i64 x.k, .int .i64 x.n, .string x.s] 32)) ((W.heap.size, x) :: bx) := by
  have h' := h.move (below_box W (.cells #[.int .i64 x.k, .int .i64 x.n, .string x.s] 32))
  refine ⟨h'.below, fun p hp => ?_⟩
  rcases List.mem_cons.1 hp with rfl | hp
  · exact heap_alloc_new _ _
  · exact h'.boxes p hp
theorem Nt.cells (h : Nt w W bx) {B : Nat} {x : V} (hp : (B, x) ∈ bx) : W.cell? ⟨B, 0, none⟩ = some (.int .i64 x.k) ∧ W.cell? ⟨B, 1, none⟩ = some (.int .i64 x.n) ∧ W.cell? ⟨B, 2, none⟩ = some (.string x.s) :=
  (vbox_cells (h.boxes _ hp)).1
end
theorem strs_len0 {W : World} {base : Nat} {v : Value} (h : Strs W base v []) : ∃ A c, v = .slice A 0 c := by
  obtain ⟨A, c, e, -⟩ := (SRead.strs h).form
  exact ⟨A, c, e⟩

set_option maxRecDepth 100000 in
set_option maxHeartbeats 4000000 in
theorem none_walk (p : Int) (key : ByteArray) (v : V) (w : World) (hk : key.size ≤ maxLen) : Calls Try.prog 4 #[.int .i64 p, .string key, v.v] w fun e w' => e = .returned (.bool true) ∧ Below w.heap.size w w' := by
  obtain ⟨vk, vn, vs⟩ := v
  have S := Lib.hid ((Nt.start w).box ⟨vk, vn, vs⟩)
  have HS := Lib.hid (fun w => shown_any w)
  have H1 := Lib.hid (fun w => Alloc_nil 0 (-1) 0 0 w)
  have H2 := Lib.hid (fun w => Obj_nil p w)
  have H3 := Lib.hid (fun w => Own_nil p key w)
  have H4 := Lib.hid (fun w => Get_nil p key w hk)
  have H5 := Lib.hid (fun w => Put_nil p key ⟨vk, vn, vs⟩ w)
  have H6 := Lib.hid (fun w => Keys_nil p w)
  have H7 := Lib.hid (fun w => All_nil p w)
  have H8 := Lib.hid (fun w => len_nil w)
  simp only [ans, V.v, V.zero, Option.getD_none, Option.isSome_none, zobj] at H2 H3 H4 H5 S ⊢
  go_enter Try.func4, Try.ntmps4
  go_wp2_with fail
  go_at_call 11
  refine (HS.out _).mono ?_
  rintro e w1 ⟨rfl, hb⟩
  replace S := Lib.hid (S.out.move hb)
  clear hb
  go_wp2_with fail
  go_at_call 23
  refine (H1.out _).mono ?_
  rintro e w2 ⟨rfl, hb⟩
  replace S := Lib.hid (S.out.move hb)
  clear hb
  go_wp2_with fail
  go_at_call 16
  refine (H2.out _).mono ?_
  rintro e w3 ⟨rfl, hb⟩
  replace S := Lib.hid ((S.out.move hb).move (below_box w3 (.cells #[.int .i64 0, .int .i64 0, .int .i64 0, .int .i64 0] 30)))
  clear hb
  go_wp2_with fail
  go_at_call 24
  refine (H3.out _).mono ?_
  rintro e w4 ⟨rfl, hb⟩
  replace S := Lib.hid ((S.out.move hb).box V.zero)
  clear hb
  go_wp2_with fail
  go_at_call 25
  refine (H4.out _).mono ?_
  rintro e w5 ⟨rfl, hb⟩
  replace S := Lib.hid ((S.out.move hb).box V.zero)
  clear hb
  simp only [V.zero] at S
  obtain ⟨c0, c1, c2⟩ := S.out.cells (List.mem_cons_of_mem _ (List.mem_cons_of_mem _ List.mem_cons_self))
  go_wp2_with fail
  go_at_call 26
  refine (H5.out _).mono ?_
  rintro e w6 ⟨rfl, hb⟩
  replace S := Lib.hid (S.out.move hb)
  clear hb c0 c1 c2
  obtain ⟨c0, c1, c2⟩ := S.out.cells List.mem_cons_self
  obtain ⟨d0, d1, d2⟩ := S.out.cells (List.mem_cons_of_mem _ List.mem_cons_self)
  go_wp2_with fail
  go_at_call 19
  refine (H6.out _).mono ?_
  rintro e w7 ⟨rfl, hb⟩
  replace S := Lib.hid (S.out.move hb)
  clear hb
  go_wp2_with fail
  go_at_call 21
  refine (H7.out _).mono ?_
  rintro e w8 ⟨v7, rfl, hv, hb⟩
  obtain ⟨A7, C7, rfl⟩ := strs_len0 hv
  replace S := Lib.hid (S.out.move hb)
  clear hb
  go_wp2_with (go_at_call 15; (with_reducible refine (H8.out _).mono ?_); rintro e w' ⟨rfl, rfl⟩)
  go_ret
  exact ⟨rfl, S.out.below⟩

end Go.Proofs.Ytpbbinppikaamaa
