/- JtreeSames. -/
import Derived.Test.YtiejpenffpjmeaaDoorHead
import Derived.Test.YtiejpenffpjmeaaDoorSame
import Derived.Test.YtiejpenffpjmeaaDoorRSame
import Derived.Test.YtiejpenffpjmeaaDoorSize
import Derived.Deep.RegionHeld3
namespace Go.Proofs.YtiejpenffpjmeaaDoor
set_option linter.unusedSimpArgs false
set_option linter.unusedVariables false
open Go.RowKit Go.Proofs

/-- A node's five cells in a block. -/
def BoxAt (w : World) (B : Nat) (t : Tr) (u : Value) : Prop :=
  w.cell? ⟨B, 0, none⟩ = some (.int .i64 t.op) ∧ w.cell? ⟨B, 1, none⟩ = some (.string (bs t.s)) ∧ w.cell? ⟨B, 2, none⟩ = some (.int .i64 t.n) ∧ w.cell? ⟨B, 3, none⟩ = some u ∧ w.cell? ⟨B, 4, none⟩ = some (.int .i64 t.line)
theorem box_in {W0 w' : World} {B : Nat} {t : Tr} {u : Value} (hb : Below W0.heap.size W0 w') (h : W0.heap[B]? = some (.cells #[.int .i64 t.op, .string (bs t.s), .int .i64 t.n, u, .int .i64 t.line] 24 (0, 0))) : BoxAt w' B t u := by
  have hx : w'.heap[B]? = some (.cells #[.int .i64 t.op, .string (bs t.s), .int .i64 t.n, u, .int .i64 t.line] 24 (0, 0)) := (hb.block B (Array.getElem?_eq_some_iff.1 h).1).trans h
  exact ⟨cell_of_row _ _ 0 _ _ _ hx, cell_of_row _ _ 1 _ _ _ hx, cell_of_row _ _ 2 _ _ _ hx, cell_of_row _ _ 3 _ _ _ hx, cell_of_row _ _ 4 _ _ _ hx⟩

set_option maxRecDepth 100000 in
set_option maxHeartbeats 4000000 in
theorem sames_any (a b : Tr) (va vb : Value) (w : World) (hA : At w w.heap.size a va) (hB : At w w.heap.size b vb) (he : Env w) (h1 : 1 ≤ w.heap.size) :
    Calls Tryd.prog 5 #[va, vb] w fun e w' => e = .returned (.bool true) ∧ Below w.heap.size w w' := by
  obtain ⟨ua, rfl, -, -⟩ := (At_iff _ _ _ _).1 hA
  obtain ⟨ub, rfl, -, -⟩ := (At_iff _ _ _ _).1 hB
  obtain ⟨W0, eW⟩ : ∃ W, (w.alloc (.cells #[.int .i64 a.op, .string (bs a.s), .int .i64 a.n, ua, .int .i64 a.line] 24)).alloc (.cells #[.int .i64 b.op, .string (bs b.s), .int .i64 b.n, ub, .int .i64 b.line] 24) = W := ⟨_, rfl⟩
  have hb0 : Below w.heap.size w W0 := by rw [← eW]; exact ((Below.refl _ w).alloc (Nat.le_refl _) _).alloc (by simp) _
  have hz0 : W0.heap.size = w.heap.size + 2 := by rw [← eW]; simp
  have hx : W0.heap[w.heap.size]? = some (.cells #[.int .i64 a.op, .string (bs a.s), .int .i64 a.n, ua, .int .i64 a.line] 24 (0, 0)) := by
    rw [← eW]
    exact (((Below.refl _ _).alloc (Nat.le_refl _) _).block _ (by rw [World.size_alloc]; omega)).trans (heap_alloc_new w _)
  have hy : W0.heap[w.heap.size + 1]? = some (.cells #[.int .i64 b.op, .string (bs b.s), .int .i64 b.n, ub, .int .i64 b.line] 24 (0, 0)) := by
    rw [← eW]
    have := heap_alloc_new (w.alloc (.cells #[.int .i64 a.op, .string (bs a.s), .int .i64 a.n, ua, .int .i64 a.line] 24)) (.cells #[.int .i64 b.op, .string (bs b.s), .int .i64 b.n, ub, .int .i64 b.line] 24)
    rw [World.size_alloc] at this
    exact this
  have hAt : ∀ w', Below W0.heap.size W0 w' → At w' w'.heap.size a (nodeV a ua) ∧ At w' w'.heap.size b (nodeV b ub) := fun w' hb =>
    have hb' := hb0.trans (hb.mono (by omega))
    ⟨At.keep a hA hb'.size fun p hp => hb'.cell hp, At.keep b hB hb'.size fun p hp => hb'.cell hp⟩
  have hs := shown_any W0 (he.below hb0) (by omega)
  have h11 := fun (w' : World) (hb : Below W0.heap.size W0 w') => And.intro (small_any a _ w' (hAt w' hb).1) (small_any b _ w' (hAt w' hb).2)
  have h20 := fun (w' : World) (hb : Below W0.heap.size W0 w') => same_any a b _ _ w' (hAt w' hb).1 (hAt w' hb).2
  have h21 := fun (w' : World) (hb : Below W0.heap.size W0 w') => rsame_any a b _ _ w' (hAt w' hb).1 (hAt w' hb).2
  have hss := fun (w' : World) (hb : Below W0.heap.size W0 w') => same_any a a _ _ w' (hAt w' hb).1 (hAt w' hb).1
  have hbx := fun (w' : World) (hb : Below W0.heap.size W0 w') => And.intro (box_in hb hx) (box_in hb hy)
  unfold nodeV at h11 h20 h21 hss ⊢
  unfold BoxAt at hbx
  rw [show (sameT a a) = true from same_self a] at hss
  obtain ⟨r, er⟩ : ∃ r, sameT a b = r := ⟨_, rfl⟩
  rw [er] at h20 h21
  have HS := Lib.hid hs
  have HW := Lib.hid (And.intro eW (And.intro hb0 hz0))
  have H11 := Lib.hid h11
  have H20 := Lib.hid h20
  have H21 := Lib.hid h21
  have HSS := Lib.hid hss
  have HBx := Lib.hid hbx
  clear hA hB he h1 hb0 hz0 hx hy hAt hs h11 h20 h21 hss hbx er
  by_cases hsa : a.size ≤ 1500
  · rw [if_pos hsa] at H11
    by_cases hsb : b.size ≤ 1500
    · rw [if_pos hsb] at H11
      clear hsa hsb
      cases r with
      | true =>
        go_enter Tryd.func5, Tryd.ntmps5
        go_wp2_with fail
        go_at_call 10
        refine HS.out.mono ?_
        rintro e w1 ⟨rfl, hb1⟩
        have HB1 := Lib.hid hb1
        obtain ⟨⟨f0, f1, f2, f3, f4⟩, ⟨g0, g1, g2, g3, g4⟩⟩ := HBx.out w1 hb1
        have HC1 := Lib.hid (H11.out w1 hb1).1
        clear hb1 eW
        go_wp2_with fail
        go_at_call 11
        refine HC1.out.mono ?_
        rintro e w2 ⟨rfl, hb2⟩
        have HB2 := Lib.hid (HB1.out.trans (hb2.mono HB1.out.size))
        clear hb2 f0 f1 f2 f3 f4 g0 g1 g2 g3 g4
        obtain ⟨⟨f0, f1, f2, f3, f4⟩, ⟨g0, g1, g2, g3, g4⟩⟩ := HBx.out w2 HB2.out
        have HC2 := Lib.hid (H11.out w2 HB2.out).2
        go_wp2_with fail
        go_at_call 11
        refine HC2.out.mono ?_
        rintro e w3 ⟨rfl, hb3⟩
        have HB3 := Lib.hid (HB2.out.trans (hb3.mono HB2.out.size))
        clear hb3 f0 f1 f2 f3 f4 g0 g1 g2 g3 g4
        obtain ⟨⟨f0, f1, f2, f3, f4⟩, ⟨g0, g1, g2, g3, g4⟩⟩ := HBx.out w3 HB3.out
        go_wp2
        have hdr : Below W0.heap.size W0 w3.drew := HB3.out.drew
        have HD1 := Lib.hid (H20.out _ hdr)
        have HDr := Lib.hid hdr
        clear hdr
        go_region_held3 (fun w' => (w'.cell? ⟨w.heap.size, 0, none⟩ = some (.int .i64 a.op) ∧ w'.cell? ⟨w.heap.size, 1, none⟩ = some (.string (bs a.s)) ∧ w'.cell? ⟨w.heap.size, 2, none⟩ = some (.int .i64 a.n) ∧ w'.cell? ⟨w.heap.size, 3, none⟩ = some ua ∧ w'.cell? ⟨w.heap.size, 4, none⟩ = some (.int .i64 a.line)) ∧ (w'.cell? ⟨w.heap.size + 1, 0, none⟩ = some (.int .i64 b.op) ∧ w'.cell? ⟨w.heap.size + 1, 1, none⟩ = some (.string (bs b.s)) ∧ w'.cell? ⟨w.heap.size + 1, 2, none⟩ = some (.int .i64 b.n) ∧ w'.cell? ⟨w.heap.size + 1, 3, none⟩ = some ub ∧ w'.cell? ⟨w.heap.size + 1, 4, none⟩ = some (.int .i64 b.line)))
          (first | go_keep | (exact HBx.out _ HB6.out) | (exact HBx.out _ HB5.out) | (exact HBx.out _ HB4.out) | (exact HBx.out _ HB3.out))
          (first
            | (go_at_call 20; refine HD1.out.mono ?_; rintro e w4 ⟨rfl, hb4⟩; have HB4 := Lib.hid (HDr.out.trans (hb4.mono HDr.out.size)); have HD2 := Lib.hid (H21.out w4 HB4.out); clear hb4 HD1)
            | (go_at_call 21; refine HD2.out.mono ?_; rintro e w5 ⟨rfl, hb5⟩; have HB5 := Lib.hid (HB4.out.trans (hb5.mono HB4.out.size)); have HD3 := Lib.hid (HSS.out w5 HB5.out); clear hb5 HD2)
            | (go_at_call 20; refine HD3.out.mono ?_; rintro e w6 ⟨rfl, hb6⟩; have HB6 := Lib.hid (HB5.out.trans (hb6.mono HB5.out.size)); clear hb6 HD3))
        go_wp2
        go_ret
        exact ⟨rfl, HW.out.2.1.trans (HB6.out.mono (by have := HW.out.2.2; omega))⟩
      | false =>
        go_enter Tryd.func5, Tryd.ntmps5
        go_wp2_with fail
        go_at_call 10
        refine HS.out.mono ?_
        rintro e w1 ⟨rfl, hb1⟩
        have HB1 := Lib.hid hb1
        obtain ⟨⟨f0, f1, f2, f3, f4⟩, ⟨g0, g1, g2, g3, g4⟩⟩ := HBx.out w1 hb1
        have HC1 := Lib.hid (H11.out w1 hb1).1
        clear hb1 eW
        go_wp2_with fail
        go_at_call 11
        refine HC1.out.mono ?_
        rintro e w2 ⟨rfl, hb2⟩
        have HB2 := Lib.hid (HB1.out.trans (hb2.mono HB1.out.size))
        clear hb2 f0 f1 f2 f3 f4 g0 g1 g2 g3 g4
        obtain ⟨⟨f0, f1, f2, f3, f4⟩, ⟨g0, g1, g2, g3, g4⟩⟩ := HBx.out w2 HB2.out
        have HC2 := Lib.hid (H11.out w2 HB2.out).2
        go_wp2_with fail
        go_at_call 11
        refine HC2.out.mono ?_
        rintro e w3 ⟨rfl, hb3⟩
        have HB3 := Lib.hid (HB2.out.trans (hb3.mono HB2.out.size))
        clear hb3 f0 f1 f2 f3 f4 g0 g1 g2 g3 g4
        obtain ⟨⟨f0, f1, f2, f3, f4⟩, ⟨g0, g1, g2, g3, g4⟩⟩ := HBx.out w3 HB3.out
        go_wp2
        have hdr : Below W0.heap.size W0 w3.drew := HB3.out.drew
        have HD1 := Lib.hid (H20.out _ hdr)
        have HDr := Lib.hid hdr
        clear hdr
        go_region_held3 (fun w' => (w'.cell? ⟨w.heap.size, 0, none⟩ = some (.int .i64 a.op) ∧ w'.cell? ⟨w.heap.size, 1, none⟩ = some (.string (bs a.s)) ∧ w'.cell? ⟨w.heap.size, 2, none⟩ = some (.int .i64 a.n) ∧ w'.cell? ⟨w.heap.size, 3, none⟩ = some ua ∧ w'.cell? ⟨w.heap.size, 4, none⟩ = some (.int .i64 a.line)) ∧ (w'.cell? ⟨w.heap.size + 1, 0, none⟩ = some (.int .i64 b.op) ∧ w'.cell? ⟨w.heap.size + 1, 1, none⟩ = some (.string (bs b.s)) ∧ w'.cell? ⟨w.heap.size + 1, 2, none⟩ = some (.int .i64 b.n) ∧ w'.cell? ⟨w.heap.size + 1, 3, none⟩ = some ub ∧ w'.cell? ⟨w.heap.size + 1, 4, none⟩ = some (.int .i64 b.line)))
          (first | go_keep | (exact HBx.out _ HB6.out) | (exact HBx.out _ HB5.out) | (exact HBx.out _ HB4.out) | (exact HBx.out _ HB3.out))
          (first
            | (go_at_call 20; refine HD1.out.mono ?_; rintro e w4 ⟨rfl, hb4⟩; have HB4 := Lib.hid (HDr.out.trans (hb4.mono HDr.out.size)); have HD2 := Lib.hid (H21.out w4 HB4.out); clear hb4 HD1)
            | (go_at_call 21; refine HD2.out.mono ?_; rintro e w5 ⟨rfl, hb5⟩; have HB5 := Lib.hid (HB4.out.trans (hb5.mono HB4.out.size)); have HD3 := Lib.hid (HSS.out w5 HB5.out); clear hb5 HD2)
            | (go_at_call 20; refine HD3.out.mono ?_; rintro e w6 ⟨rfl, hb6⟩; have HB6 := Lib.hid (HB5.out.trans (hb6.mono HB5.out.size)); clear hb6 HD3))
        go_wp2
        go_ret
        exact ⟨rfl, HW.out.2.1.trans (HB6.out.mono (by have := HW.out.2.2; omega))⟩
    · rw [if_neg hsb] at H11
      clear hsa hsb
      go_enter Tryd.func5, Tryd.ntmps5
      go_wp2_with fail
      go_at_call 10
      refine HS.out.mono ?_
      rintro e w1 ⟨rfl, hb1⟩
      have HB1 := Lib.hid hb1
      obtain ⟨⟨f0, f1, f2, f3, f4⟩, ⟨g0, g1, g2, g3, g4⟩⟩ := HBx.out w1 hb1
      have HC1 := Lib.hid (H11.out w1 hb1).1
      clear hb1 eW
      go_wp2_with fail
      go_at_call 11
      refine HC1.out.mono ?_
      rintro e w2 ⟨rfl, hb2⟩
      have HB2 := Lib.hid (HB1.out.trans (hb2.mono HB1.out.size))
      clear hb2 f0 f1 f2 f3 f4 g0 g1 g2 g3 g4
      obtain ⟨⟨f0, f1, f2, f3, f4⟩, ⟨g0, g1, g2, g3, g4⟩⟩ := HBx.out w2 HB2.out
      have HC2 := Lib.hid (H11.out w2 HB2.out).2
      go_wp2_with fail
      go_at_call 11
      refine HC2.out.mono ?_
      rintro e w3 ⟨rfl, hb3⟩
      have HB3 := Lib.hid (HB2.out.trans (hb3.mono HB2.out.size))
      clear hb3 f0 f1 f2 f3 f4 g0 g1 g2 g3 g4
      go_wp2
      go_ret
      exact ⟨rfl, HW.out.2.1.trans (HB3.out.mono (by have := HW.out.2.2; omega))⟩
  · rw [if_neg hsa] at H11
    clear hsa
    go_enter Tryd.func5, Tryd.ntmps5
    go_wp2_with fail
    go_at_call 10
    refine HS.out.mono ?_
    rintro e w1 ⟨rfl, hb1⟩
    have HB1 := Lib.hid hb1
    obtain ⟨⟨f0, f1, f2, f3, f4⟩, ⟨g0, g1, g2, g3, g4⟩⟩ := HBx.out w1 hb1
    have HC1 := Lib.hid (H11.out w1 hb1).1
    clear hb1 eW
    go_wp2_with fail
    go_at_call 11
    refine HC1.out.mono ?_
    rintro e w2 ⟨rfl, hb2⟩
    have HB2 := Lib.hid (HB1.out.trans (hb2.mono HB1.out.size))
    clear hb2 f0 f1 f2 f3 f4 g0 g1 g2 g3 g4
    obtain ⟨⟨f0, f1, f2, f3, f4⟩, ⟨g0, g1, g2, g3, g4⟩⟩ := HBx.out w2 HB2.out
    go_wp2
    go_ret
    exact ⟨rfl, HW.out.2.1.trans (HB2.out.mono (by have := HW.out.2.2; omega))⟩
end Go.Proofs.YtiejpenffpjmeaaDoor
