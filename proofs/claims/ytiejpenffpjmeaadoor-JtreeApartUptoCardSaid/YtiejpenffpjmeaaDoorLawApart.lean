/- JtreeApart. -/
import Derived.Test.YtiejpenffpjmeaaDoorBox
import Derived.Test.YtiejpenffpjmeaaDoorSame
import Derived.Test.YtiejpenffpjmeaaDoorFit
import Derived.Test.YtiejpenffpjmeaaDoorSize
import Derived.Test.YtiejpenffpjmeaaDoorOpen
import Derived.Test.YtiejpenffpjmeaaDoorRead5
import Derived.Deep.RegionHeld3
namespace Go.Proofs.YtiejpenffpjmeaaDoor
set_option linter.unusedSimpArgs false
set_option linter.unusedVariables false
open Go.RowKit Go.Proofs

theorem right_no {t : Tr} (h : rightE t = true) : rightP t = false := by
  unfold rightE at h
  unfold rightP
  rw [Bool.and_eq_true] at h
  have h1 := (isE_iff t).1 h.1
  rw [Bool.and_eq_false_iff]
  left
  unfold hasB
  simp
  omega

set_option maxRecDepth 100000 in
set_option maxHeartbeats 16000000 in
theorem apart_law (a b : Tr) (va vb : Value) (w : World) (hA : At w w.heap.size a va) (hB : At w w.heap.size b vb) (hst : a.strs ≤ 10000000) (hsu : b.strs ≤ 10000000) (he : Env w) (h1 : 1 ≤ w.heap.size) :
    Calls Tryd.prog 7 #[va, vb] w fun e w' => e = .returned (.bool true) ∧ Below w.heap.size w w' := by
  have hfa := at_fine _ _ _ _ hA
  have hfb := at_fine _ _ _ _ hB
  obtain ⟨ua, rfl, -, -⟩ := (At_iff _ _ _ _).1 hA
  obtain ⟨ub, rfl, -, -⟩ := (At_iff _ _ _ _).1 hB
  obtain ⟨W0, eW⟩ : ∃ W, (w.alloc (.cells #[.int .i64 a.op, .string (bs a.s), .int .i64 a.n, ua, .int .i64 a.line] 24)).alloc (.cells #[.int .i64 b.op, .string (bs b.s), .int .i64 b.n, ub, .int .i64 b.line] 24) = W := ⟨_, rfl⟩
  have hb0 : Below w.heap.size w W0 := by rw [← eW]; exact ((Below.refl _ w).alloc (Nat.le_refl _) _).alloc (by simp) _
  have hz0 : W0.heap.size = w.heap.size + 2 := by rw [← eW]; simp
  have hx : W0.heap[w.heap.size]? = some (.cells #[.int .i64 a.op, .string (bs a.s), .int .i64 a.n, ua, .int .i64 a.line] 24 (0, 0)) := by
    rw [← eW]
    exact (((Below.refl _ _).alloc (Nat.le_refl _) _).block _ (by rw [World.size_alloc]; omega)).trans (heap_alloc_new w _)
  have hy : W0.heap[w.heap.size + 1]? = some (.cells #[.int .i64 b.op, .string (bs b.s), .int .i64 b.n, ub, .int .i64 b.line] 24 (0, 0)) := by
    rw [← eW]
    have := heap_alloc_new (w.alloc (.cells #[.int .i64 a.op, .string (bs a.s), .int .i64 a.n, ua, .int .i64 a.line] 24)) (.cells #[.int .i64 b.op, .string (bs b.s), .int .i64 b.n, ub, .int .i64 b.line] 24)
    rw [World.size_alloc] at this
    exact this
  have hAt : ∀ w', Below W0.heap.size W0 w' → At w' w'.heap.size a (nodeV a ua) ∧ At w' w'.heap.size b (nodeV b ub) := fun w' hb =>
    have hb' := hb0.trans (hb.mono (by omega))
    ⟨At.keep a hA hb'.size fun p hp => hb'.cell hp, At.keep b hB hb'.size fun p hp => hb'.cell hp⟩
  have hs := shown_any W0 (he.below hb0) (by omega)
  have h11 := fun (w' : World) (hb : Below W0.heap.size W0 w') => And.intro (small_any a _ w' (hAt w' hb).1) (small_any b _ w' (hAt w' hb).2)
  have h20 := fun (w' : World) (hb : Below W0.heap.size W0 w') => same_any a b _ _ w' (hAt w' hb).1 (hAt w' hb).2
  have hbx := fun (w' : World) (hb : Below W0.heap.size W0 w') => And.intro (box_in hb hx) (box_in hb hy)
  unfold BoxAt at hbx
  have HW := Lib.hid (And.intro eW (And.intro hb0 hz0))
  by_cases hsa : a.size ≤ 1500
  · by_cases hsb : b.size ≤ 1500
    · have h16 := fun (w' : World) (hb : Below W0.heap.size W0 w') => And.intro (show_any a _ w' (hAt w' hb).1 (by omega) (fun _ => showP_len a hfa hsa hst) ((he.below hb0).below hb)) (show_any b _ w' (hAt w' hb).2 (by omega) (fun _ => showP_len b hfb hsb hsu) ((he.below hb0).below hb))
      have h18 := fun (w' : World) (hb : Below W0.heap.size W0 w') => And.intro (showE_any a _ w' (hAt w' hb).1 (by omega) (fun _ => showE_len a hfa hsa hst) ((he.below hb0).below hb)) (showE_any b _ w' (hAt w' hb).2 (by omega) (fun _ => showE_len b hfb hsb hsu) ((he.below hb0).below hb))
      unfold Tells at h16 h18
      unfold nodeV at h11 h16 h18 h20 ⊢
      rw [if_pos hsa, if_pos hsb] at h11
      have hEE : rightE a = true → rightE b = true → ((bs (showE a)).toList == (bs (showE b)).toList) = sameT a b := fun ha hb => by rw [bs_eq_iff]; exact showE_apart ha hb
      have hPP : rightP a = true → rightP b = true → ((bs (showP a)).toList == (bs (showP b)).toList) = sameT a b := fun ha hb => by rw [bs_eq_iff]; exact showP_apart ha hb
      have hno := @right_no a
      have HS := Lib.hid hs
      have HBx := Lib.hid hbx
      clear hs hbx hA hB he h1 hb0 hz0 hx hy hAt hst hsu hfa hfb hsa hsb
      obtain ⟨z, ez⟩ : ∃ z, sameT a b = z := ⟨_, rfl⟩
      rw [ez] at h20 hEE hPP
      clear ez
      obtain ⟨X, eX⟩ : ∃ X, bs (showE a) = X := ⟨_, rfl⟩
      obtain ⟨Y, eY⟩ : ∃ Y, bs (showE b) = Y := ⟨_, rfl⟩
      obtain ⟨S, eS⟩ : ∃ S, bs (showP a) = S := ⟨_, rfl⟩
      obtain ⟨T, eT⟩ : ∃ T, bs (showP b) = T := ⟨_, rfl⟩
      rw [eX, eY] at h18 hEE
      rw [eS, eT] at h16 hPP
      clear eX eY eS eT
      obtain ⟨A, eA⟩ : ∃ A, rightE a = A := ⟨_, rfl⟩
      obtain ⟨B, eB⟩ : ∃ B, rightE b = B := ⟨_, rfl⟩
      obtain ⟨P, eP⟩ : ∃ P, rightP a = P := ⟨_, rfl⟩
      obtain ⟨Q, eQ⟩ : ∃ Q, rightP b = Q := ⟨_, rfl⟩
      rw [eA, eB] at h18 hEE
      rw [eP, eQ] at h16 hPP
      rw [eA, eP] at hno
      clear eA eB eP eQ
      have H11 := Lib.hid h11
      have H20 := Lib.hid h20
      clear h11 h20
      cases A with
      | true =>
        obtain rfl : P = false := hno rfl
        simp only [if_true, Bool.false_eq_true, if_false] at h16 h18
        cases B with
        | true =>
          simp only [if_true, Bool.false_eq_true, if_false] at h16 h18
          cases z with
          | true =>
            have ht := hEE rfl rfl
            clear hEE hPP hno
            obtain ⟨T1, eT1⟩ : ∃ x, (if Q = true then T else ⟨#[]⟩) = x := ⟨_, rfl⟩
            obtain ⟨t1, et1⟩ : ∃ x : Int, (if Q = true then 0 else 30) = x := ⟨_, rfl⟩
            simp only [eT1, et1] at h16
            clear eT1 et1
            have H16 := Lib.hid h16
            have H18 := Lib.hid h18
            clear h16 h18
            go_enter Tryd.func7, Tryd.ntmps7
            go_wp2_with fail
            go_at_call 10
            refine HS.out.mono ?_
            rintro e w1 ⟨rfl, hb⟩
            have HB1 := Lib.hid hb
            clear hb eW
            obtain ⟨⟨f0, f1, f2, f3, f4⟩, ⟨g0, g1, g2, g3, g4⟩⟩ := HBx.out w1 HB1.out
            have HC := Lib.hid (H11.out w1 HB1.out).1
            go_wp2_with fail
            go_at_call 11
            refine HC.out.mono ?_
            rintro e w2 ⟨rfl, hb⟩
            have HB2 := Lib.hid (HB1.out.trans (hb.mono HB1.out.size))
            clear hb HC
            clear f0 f1 f2 f3 f4 g0 g1 g2 g3 g4
            obtain ⟨⟨f0, f1, f2, f3, f4⟩, ⟨g0, g1, g2, g3, g4⟩⟩ := HBx.out w2 HB2.out
            have HC := Lib.hid (H11.out w2 HB2.out).2
            go_wp2_with fail
            go_at_call 11
            refine HC.out.mono ?_
            rintro e w3 ⟨rfl, hb⟩
            have HB3 := Lib.hid (HB2.out.trans (hb.mono HB2.out.size))
            clear hb HC
            clear f0 f1 f2 f3 f4 g0 g1 g2 g3 g4
            obtain ⟨⟨f0, f1, f2, f3, f4⟩, ⟨g0, g1, g2, g3, g4⟩⟩ := HBx.out w3 HB3.out
            have HC := Lib.hid (H16.out w3 HB3.out).1
            go_wp2_with fail
            go_at_call 16
            refine HC.out.mono ?_
            rintro e w4 ⟨rfl, hb⟩
            have HB4 := Lib.hid (HB3.out.trans (hb.mono HB3.out.size))
            clear hb HC
            clear f0 f1 f2 f3 f4 g0 g1 g2 g3 g4
            obtain ⟨⟨f0, f1, f2, f3, f4⟩, ⟨g0, g1, g2, g3, g4⟩⟩ := HBx.out w4 HB4.out
            have HC := Lib.hid (H16.out w4 HB4.out).2
            go_wp2_with fail
            go_at_call 16
            refine HC.out.mono ?_
            rintro e w5 ⟨rfl, hb⟩
            have HB5 := Lib.hid (HB4.out.trans (hb.mono HB4.out.size))
            clear hb HC
            clear f0 f1 f2 f3 f4 g0 g1 g2 g3 g4
            obtain ⟨⟨f0, f1, f2, f3, f4⟩, ⟨g0, g1, g2, g3, g4⟩⟩ := HBx.out w5 HB5.out
            have HC := Lib.hid (H18.out w5 HB5.out).1
            go_wp2_with fail
            go_at_call 18
            refine HC.out.mono ?_
            rintro e w6 ⟨rfl, hb⟩
            have HB6 := Lib.hid (HB5.out.trans (hb.mono HB5.out.size))
            clear hb HC
            clear f0 f1 f2 f3 f4 g0 g1 g2 g3 g4
            obtain ⟨⟨f0, f1, f2, f3, f4⟩, ⟨g0, g1, g2, g3, g4⟩⟩ := HBx.out w6 HB6.out
            have HC := Lib.hid (H18.out w6 HB6.out).2
            go_wp2_with fail
            go_at_call 18
            refine HC.out.mono ?_
            rintro e w7 ⟨rfl, hb⟩
            have HB7 := Lib.hid (HB6.out.trans (hb.mono HB6.out.size))
            clear hb HC
            clear f0 f1 f2 f3 f4 g0 g1 g2 g3 g4
            obtain ⟨⟨f0, f1, f2, f3, f4⟩, ⟨g0, g1, g2, g3, g4⟩⟩ := HBx.out w7 HB7.out
            have HC := Lib.hid (H20.out w7 HB7.out)
            go_wp2_with fail
            go_at_call 20
            refine HC.out.mono ?_
            rintro e w8 ⟨rfl, hb⟩
            have HB8 := Lib.hid (HB7.out.trans (hb.mono HB7.out.size))
            clear hb HC
            go_wp2
            go_ret
            exact ⟨by simp, HW.out.2.1.trans (HB8.out.mono (by have := HW.out.2.2; omega))⟩
          | false =>
            have ht := hEE rfl rfl
            clear hEE hPP hno
            obtain ⟨T1, eT1⟩ : ∃ x, (if Q = true then T else ⟨#[]⟩) = x := ⟨_, rfl⟩
            obtain ⟨t1, et1⟩ : ∃ x : Int, (if Q = true then 0 else 30) = x := ⟨_, rfl⟩
            simp only [eT1, et1] at h16
            clear eT1 et1
            have H16 := Lib.hid h16
            have H18 := Lib.hid h18
            clear h16 h18
            go_enter Tryd.func7, Tryd.ntmps7
            go_wp2_with fail
            go_at_call 10
            refine HS.out.mono ?_
            rintro e w1 ⟨rfl, hb⟩
            have HB1 := Lib.hid hb
            clear hb eW
            obtain ⟨⟨f0, f1, f2, f3, f4⟩, ⟨g0, g1, g2, g3, g4⟩⟩ := HBx.out w1 HB1.out
            have HC := Lib.hid (H11.out w1 HB1.out).1
            go_wp2_with fail
            go_at_call 11
            refine HC.out.mono ?_
            rintro e w2 ⟨rfl, hb⟩
            have HB2 := Lib.hid (HB1.out.trans (hb.mono HB1.out.size))
            clear hb HC
            clear f0 f1 f2 f3 f4 g0 g1 g2 g3 g4
            obtain ⟨⟨f0, f1, f2, f3, f4⟩, ⟨g0, g1, g2, g3, g4⟩⟩ := HBx.out w2 HB2.out
            have HC := Lib.hid (H11.out w2 HB2.out).2
            go_wp2_with fail
            go_at_call 11
            refine HC.out.mono ?_
            rintro e w3 ⟨rfl, hb⟩
            have HB3 := Lib.hid (HB2.out.trans (hb.mono HB2.out.size))
            clear hb HC
            clear f0 f1 f2 f3 f4 g0 g1 g2 g3 g4
            obtain ⟨⟨f0, f1, f2, f3, f4⟩, ⟨g0, g1, g2, g3, g4⟩⟩ := HBx.out w3 HB3.out
            have HC := Lib.hid (H16.out w3 HB3.out).1
            go_wp2_with fail
            go_at_call 16
            refine HC.out.mono ?_
            rintro e w4 ⟨rfl, hb⟩
            have HB4 := Lib.hid (HB3.out.trans (hb.mono HB3.out.size))
            clear hb HC
            clear f0 f1 f2 f3 f4 g0 g1 g2 g3 g4
            obtain ⟨⟨f0, f1, f2, f3, f4⟩, ⟨g0, g1, g2, g3, g4⟩⟩ := HBx.out w4 HB4.out
            have HC := Lib.hid (H16.out w4 HB4.out).2
            go_wp2_with fail
            go_at_call 16
            refine HC.out.mono ?_
            rintro e w5 ⟨rfl, hb⟩
            have HB5 := Lib.hid (HB4.out.trans (hb.mono HB4.out.size))
            clear hb HC
            clear f0 f1 f2 f3 f4 g0 g1 g2 g3 g4
            obtain ⟨⟨f0, f1, f2, f3, f4⟩, ⟨g0, g1, g2, g3, g4⟩⟩ := HBx.out w5 HB5.out
            have HC := Lib.hid (H18.out w5 HB5.out).1
            go_wp2_with fail
            go_at_call 18
            refine HC.out.mono ?_
            rintro e w6 ⟨rfl, hb⟩
            have HB6 := Lib.hid (HB5.out.trans (hb.mono HB5.out.size))
            clear hb HC
            clear f0 f1 f2 f3 f4 g0 g1 g2 g3 g4
            obtain ⟨⟨f0, f1, f2, f3, f4⟩, ⟨g0, g1, g2, g3, g4⟩⟩ := HBx.out w6 HB6.out
            have HC := Lib.hid (H18.out w6 HB6.out).2
            go_wp2_with fail
            go_at_call 18
            refine HC.out.mono ?_
            rintro e w7 ⟨rfl, hb⟩
            have HB7 := Lib.hid (HB6.out.trans (hb.mono HB6.out.size))
            clear hb HC
            clear f0 f1 f2 f3 f4 g0 g1 g2 g3 g4
            obtain ⟨⟨f0, f1, f2, f3, f4⟩, ⟨g0, g1, g2, g3, g4⟩⟩ := HBx.out w7 HB7.out
            have HC := Lib.hid (H20.out w7 HB7.out)
            go_wp2_with fail
            go_at_call 20
            refine HC.out.mono ?_
            rintro e w8 ⟨rfl, hb⟩
            have HB8 := Lib.hid (HB7.out.trans (hb.mono HB7.out.size))
            clear hb HC
            go_wp2
            go_ret
            exact ⟨by simp, HW.out.2.1.trans (HB8.out.mono (by have := HW.out.2.2; omega))⟩
        | false =>
          simp only [if_true, Bool.false_eq_true, if_false] at h16 h18
          clear hEE hPP hno
          obtain ⟨T1, eT1⟩ : ∃ x, (if Q = true then T else ⟨#[]⟩) = x := ⟨_, rfl⟩
          obtain ⟨t1, et1⟩ : ∃ x : Int, (if Q = true then 0 else 30) = x := ⟨_, rfl⟩
          simp only [eT1, et1] at h16
          clear eT1 et1
          have H16 := Lib.hid h16
          have H18 := Lib.hid h18
          clear h16 h18
          go_enter Tryd.func7, Tryd.ntmps7
          go_wp2_with fail
          go_at_call 10
          refine HS.out.mono ?_
          rintro e w1 ⟨rfl, hb⟩
          have HB1 := Lib.hid hb
          clear hb eW
          obtain ⟨⟨f0, f1, f2, f3, f4⟩, ⟨g0, g1, g2, g3, g4⟩⟩ := HBx.out w1 HB1.out
          have HC := Lib.hid (H11.out w1 HB1.out).1
          go_wp2_with fail
          go_at_call 11
          refine HC.out.mono ?_
          rintro e w2 ⟨rfl, hb⟩
          have HB2 := Lib.hid (HB1.out.trans (hb.mono HB1.out.size))
          clear hb HC
          clear f0 f1 f2 f3 f4 g0 g1 g2 g3 g4
          obtain ⟨⟨f0, f1, f2, f3, f4⟩, ⟨g0, g1, g2, g3, g4⟩⟩ := HBx.out w2 HB2.out
          have HC := Lib.hid (H11.out w2 HB2.out).2
          go_wp2_with fail
          go_at_call 11
          refine HC.out.mono ?_
          rintro e w3 ⟨rfl, hb⟩
          have HB3 := Lib.hid (HB2.out.trans (hb.mono HB2.out.size))
          clear hb HC
          clear f0 f1 f2 f3 f4 g0 g1 g2 g3 g4
          obtain ⟨⟨f0, f1, f2, f3, f4⟩, ⟨g0, g1, g2, g3, g4⟩⟩ := HBx.out w3 HB3.out
          have HC := Lib.hid (H16.out w3 HB3.out).1
          go_wp2_with fail
          go_at_call 16
          refine HC.out.mono ?_
          rintro e w4 ⟨rfl, hb⟩
          have HB4 := Lib.hid (HB3.out.trans (hb.mono HB3.out.size))
          clear hb HC
          clear f0 f1 f2 f3 f4 g0 g1 g2 g3 g4
          obtain ⟨⟨f0, f1, f2, f3, f4⟩, ⟨g0, g1, g2, g3, g4⟩⟩ := HBx.out w4 HB4.out
          have HC := Lib.hid (H16.out w4 HB4.out).2
          go_wp2_with fail
          go_at_call 16
          refine HC.out.mono ?_
          rintro e w5 ⟨rfl, hb⟩
          have HB5 := Lib.hid (HB4.out.trans (hb.mono HB4.out.size))
          clear hb HC
          clear f0 f1 f2 f3 f4 g0 g1 g2 g3 g4
          obtain ⟨⟨f0, f1, f2, f3, f4⟩, ⟨g0, g1, g2, g3, g4⟩⟩ := HBx.out w5 HB5.out
          have HC := Lib.hid (H18.out w5 HB5.out).1
          go_wp2_with fail
          go_at_call 18
          refine HC.out.mono ?_
          rintro e w6 ⟨rfl, hb⟩
          have HB6 := Lib.hid (HB5.out.trans (hb.mono HB5.out.size))
          clear hb HC
          clear f0 f1 f2 f3 f4 g0 g1 g2 g3 g4
          obtain ⟨⟨f0, f1, f2, f3, f4⟩, ⟨g0, g1, g2, g3, g4⟩⟩ := HBx.out w6 HB6.out
          have HC := Lib.hid (H18.out w6 HB6.out).2
          go_wp2_with fail
          go_at_call 18
          refine HC.out.mono ?_
          rintro e w7 ⟨rfl, hb⟩
          have HB7 := Lib.hid (HB6.out.trans (hb.mono HB6.out.size))
          clear hb HC
          clear f0 f1 f2 f3 f4 g0 g1 g2 g3 g4
          obtain ⟨⟨f0, f1, f2, f3, f4⟩, ⟨g0, g1, g2, g3, g4⟩⟩ := HBx.out w7 HB7.out
          go_wp2
          go_ret
          exact ⟨by simp, HW.out.2.1.trans (HB7.out.mono (by have := HW.out.2.2; omega))⟩
      | false =>
        simp only [if_true, Bool.false_eq_true, if_false] at h16 h18
        cases P with
        | true =>
          simp only [if_true, Bool.false_eq_true, if_false] at h16 h18
          cases Q with
          | true =>
            simp only [if_true, Bool.false_eq_true, if_false] at h16 h18
            cases z with
            | true =>
              have ht := hPP rfl rfl
              clear hEE hPP hno
              obtain ⟨Y1, eY1⟩ : ∃ x, (if B = true then Y else ⟨#[]⟩) = x := ⟨_, rfl⟩
              obtain ⟨y1, ey1⟩ : ∃ x : Int, (if B = true then 0 else 30) = x := ⟨_, rfl⟩
              simp only [eY1, ey1] at h18
              clear eY1 ey1
              have H16 := Lib.hid h16
              have H18 := Lib.hid h18
              clear h16 h18
              go_enter Tryd.func7, Tryd.ntmps7
              go_wp2_with fail
              go_at_call 10
              refine HS.out.mono ?_
              rintro e w1 ⟨rfl, hb⟩
              have HB1 := Lib.hid hb
              clear hb eW
              obtain ⟨⟨f0, f1, f2, f3, f4⟩, ⟨g0, g1, g2, g3, g4⟩⟩ := HBx.out w1 HB1.out
              have HC := Lib.hid (H11.out w1 HB1.out).1
              go_wp2_with fail
              go_at_call 11
              refine HC.out.mono ?_
              rintro e w2 ⟨rfl, hb⟩
              have HB2 := Lib.hid (HB1.out.trans (hb.mono HB1.out.size))
              clear hb HC
              clear f0 f1 f2 f3 f4 g0 g1 g2 g3 g4
              obtain ⟨⟨f0, f1, f2, f3, f4⟩, ⟨g0, g1, g2, g3, g4⟩⟩ := HBx.out w2 HB2.out
              have HC := Lib.hid (H11.out w2 HB2.out).2
              go_wp2_with fail
              go_at_call 11
              refine HC.out.mono ?_
              rintro e w3 ⟨rfl, hb⟩
              have HB3 := Lib.hid (HB2.out.trans (hb.mono HB2.out.size))
              clear hb HC
              clear f0 f1 f2 f3 f4 g0 g1 g2 g3 g4
              obtain ⟨⟨f0, f1, f2, f3, f4⟩, ⟨g0, g1, g2, g3, g4⟩⟩ := HBx.out w3 HB3.out
              have HC := Lib.hid (H16.out w3 HB3.out).1
              go_wp2_with fail
              go_at_call 16
              refine HC.out.mono ?_
              rintro e w4 ⟨rfl, hb⟩
              have HB4 := Lib.hid (HB3.out.trans (hb.mono HB3.out.size))
              clear hb HC
              clear f0 f1 f2 f3 f4 g0 g1 g2 g3 g4
              obtain ⟨⟨f0, f1, f2, f3, f4⟩, ⟨g0, g1, g2, g3, g4⟩⟩ := HBx.out w4 HB4.out
              have HC := Lib.hid (H16.out w4 HB4.out).2
              go_wp2_with fail
              go_at_call 16
              refine HC.out.mono ?_
              rintro e w5 ⟨rfl, hb⟩
              have HB5 := Lib.hid (HB4.out.trans (hb.mono HB4.out.size))
              clear hb HC
              clear f0 f1 f2 f3 f4 g0 g1 g2 g3 g4
              obtain ⟨⟨f0, f1, f2, f3, f4⟩, ⟨g0, g1, g2, g3, g4⟩⟩ := HBx.out w5 HB5.out
              have HC := Lib.hid (H18.out w5 HB5.out).1
              go_wp2_with fail
              go_at_call 18
              refine HC.out.mono ?_
              rintro e w6 ⟨rfl, hb⟩
              have HB6 := Lib.hid (HB5.out.trans (hb.mono HB5.out.size))
              clear hb HC
              clear f0 f1 f2 f3 f4 g0 g1 g2 g3 g4
              obtain ⟨⟨f0, f1, f2, f3, f4⟩, ⟨g0, g1, g2, g3, g4⟩⟩ := HBx.out w6 HB6.out
              have HC := Lib.hid (H18.out w6 HB6.out).2
              go_wp2_with fail
              go_at_call 18
              refine HC.out.mono ?_
              rintro e w7 ⟨rfl, hb⟩
              have HB7 := Lib.hid (HB6.out.trans (hb.mono HB6.out.size))
              clear hb HC
              clear f0 f1 f2 f3 f4 g0 g1 g2 g3 g4
              obtain ⟨⟨f0, f1, f2, f3, f4⟩, ⟨g0, g1, g2, g3, g4⟩⟩ := HBx.out w7 HB7.out
              have HC := Lib.hid (H20.out w7 HB7.out)
              go_wp2_with fail
              go_at_call 20
              refine HC.out.mono ?_
              rintro e w8 ⟨rfl, hb⟩
              have HB8 := Lib.hid (HB7.out.trans (hb.mono HB7.out.size))
              clear hb HC
              go_wp2
              go_ret
              exact ⟨by simp, HW.out.2.1.trans (HB8.out.mono (by have := HW.out.2.2; omega))⟩
            | false =>
              have ht := hPP rfl rfl
              clear hEE hPP hno
              obtain ⟨Y1, eY1⟩ : ∃ x, (if B = true then Y else ⟨#[]⟩) = x := ⟨_, rfl⟩
              obtain ⟨y1, ey1⟩ : ∃ x : Int, (if B = true then 0 else 30) = x := ⟨_, rfl⟩
              simp only [eY1, ey1] at h18
              clear eY1 ey1
              have H16 := Lib.hid h16
              have H18 := Lib.hid h18
              clear h16 h18
              go_enter Tryd.func7, Tryd.ntmps7
              go_wp2_with fail
              go_at_call 10
              refine HS.out.mono ?_
              rintro e w1 ⟨rfl, hb⟩
              have HB1 := Lib.hid hb
              clear hb eW
              obtain ⟨⟨f0, f1, f2, f3, f4⟩, ⟨g0, g1, g2, g3, g4⟩⟩ := HBx.out w1 HB1.out
              have HC := Lib.hid (H11.out w1 HB1.out).1
              go_wp2_with fail
              go_at_call 11
              refine HC.out.mono ?_
              rintro e w2 ⟨rfl, hb⟩
              have HB2 := Lib.hid (HB1.out.trans (hb.mono HB1.out.size))
              clear hb HC
              clear f0 f1 f2 f3 f4 g0 g1 g2 g3 g4
              obtain ⟨⟨f0, f1, f2, f3, f4⟩, ⟨g0, g1, g2, g3, g4⟩⟩ := HBx.out w2 HB2.out
              have HC := Lib.hid (H11.out w2 HB2.out).2
              go_wp2_with fail
              go_at_call 11
              refine HC.out.mono ?_
              rintro e w3 ⟨rfl, hb⟩
              have HB3 := Lib.hid (HB2.out.trans (hb.mono HB2.out.size))
              clear hb HC
              clear f0 f1 f2 f3 f4 g0 g1 g2 g3 g4
              obtain ⟨⟨f0, f1, f2, f3, f4⟩, ⟨g0, g1, g2, g3, g4⟩⟩ := HBx.out w3 HB3.out
              have HC := Lib.hid (H16.out w3 HB3.out).1
              go_wp2_with fail
              go_at_call 16
              refine HC.out.mono ?_
              rintro e w4 ⟨rfl, hb⟩
              have HB4 := Lib.hid (HB3.out.trans (hb.mono HB3.out.size))
              clear hb HC
              clear f0 f1 f2 f3 f4 g0 g1 g2 g3 g4
              obtain ⟨⟨f0, f1, f2, f3, f4⟩, ⟨g0, g1, g2, g3, g4⟩⟩ := HBx.out w4 HB4.out
              have HC := Lib.hid (H16.out w4 HB4.out).2
              go_wp2_with fail
              go_at_call 16
              refine HC.out.mono ?_
              rintro e w5 ⟨rfl, hb⟩
              have HB5 := Lib.hid (HB4.out.trans (hb.mono HB4.out.size))
              clear hb HC
              clear f0 f1 f2 f3 f4 g0 g1 g2 g3 g4
              obtain ⟨⟨f0, f1, f2, f3, f4⟩, ⟨g0, g1, g2, g3, g4⟩⟩ := HBx.out w5 HB5.out
              have HC := Lib.hid (H18.out w5 HB5.out).1
              go_wp2_with fail
              go_at_call 18
              refine HC.out.mono ?_
              rintro e w6 ⟨rfl, hb⟩
              have HB6 := Lib.hid (HB5.out.trans (hb.mono HB5.out.size))
              clear hb HC
              clear f0 f1 f2 f3 f4 g0 g1 g2 g3 g4
              obtain ⟨⟨f0, f1, f2, f3, f4⟩, ⟨g0, g1, g2, g3, g4⟩⟩ := HBx.out w6 HB6.out
              have HC := Lib.hid (H18.out w6 HB6.out).2
              go_wp2_with fail
              go_at_call 18
              refine HC.out.mono ?_
              rintro e w7 ⟨rfl, hb⟩
              have HB7 := Lib.hid (HB6.out.trans (hb.mono HB6.out.size))
              clear hb HC
              clear f0 f1 f2 f3 f4 g0 g1 g2 g3 g4
              obtain ⟨⟨f0, f1, f2, f3, f4⟩, ⟨g0, g1, g2, g3, g4⟩⟩ := HBx.out w7 HB7.out
              have HC := Lib.hid (H20.out w7 HB7.out)
              go_wp2_with fail
              go_at_call 20
              refine HC.out.mono ?_
              rintro e w8 ⟨rfl, hb⟩
              have HB8 := Lib.hid (HB7.out.trans (hb.mono HB7.out.size))
              clear hb HC
              go_wp2
              go_ret
              exact ⟨by simp, HW.out.2.1.trans (HB8.out.mono (by have := HW.out.2.2; omega))⟩
          | false =>
            simp only [if_true, Bool.false_eq_true, if_false] at h16 h18
            clear hEE hPP hno
            obtain ⟨Y1, eY1⟩ : ∃ x, (if B = true then Y else ⟨#[]⟩) = x := ⟨_, rfl⟩
            obtain ⟨y1, ey1⟩ : ∃ x : Int, (if B = true then 0 else 30) = x := ⟨_, rfl⟩
            simp only [eY1, ey1] at h18
            clear eY1 ey1
            have H16 := Lib.hid h16
            have H18 := Lib.hid h18
            clear h16 h18
            go_enter Tryd.func7, Tryd.ntmps7
            go_wp2_with fail
            go_at_call 10
            refine HS.out.mono ?_
            rintro e w1 ⟨rfl, hb⟩
            have HB1 := Lib.hid hb
            clear hb eW
            obtain ⟨⟨f0, f1, f2, f3, f4⟩, ⟨g0, g1, g2, g3, g4⟩⟩ := HBx.out w1 HB1.out
            have HC := Lib.hid (H11.out w1 HB1.out).1
            go_wp2_with fail
            go_at_call 11
            refine HC.out.mono ?_
            rintro e w2 ⟨rfl, hb⟩
            have HB2 := Lib.hid (HB1.out.trans (hb.mono HB1.out.size))
            clear hb HC
            clear f0 f1 f2 f3 f4 g0 g1 g2 g3 g4
            obtain ⟨⟨f0, f1, f2, f3, f4⟩, ⟨g0, g1, g2, g3, g4⟩⟩ := HBx.out w2 HB2.out
            have HC := Lib.hid (H11.out w2 HB2.out).2
            go_wp2_with fail
            go_at_call 11
            refine HC.out.mono ?_
            rintro e w3 ⟨rfl, hb⟩
            have HB3 := Lib.hid (HB2.out.trans (hb.mono HB2.out.size))
            clear hb HC
            clear f0 f1 f2 f3 f4 g0 g1 g2 g3 g4
            obtain ⟨⟨f0, f1, f2, f3, f4⟩, ⟨g0, g1, g2, g3, g4⟩⟩ := HBx.out w3 HB3.out
            have HC := Lib.hid (H16.out w3 HB3.out).1
            go_wp2_with fail
            go_at_call 16
            refine HC.out.mono ?_
            rintro e w4 ⟨rfl, hb⟩
            have HB4 := Lib.hid (HB3.out.trans (hb.mono HB3.out.size))
            clear hb HC
            clear f0 f1 f2 f3 f4 g0 g1 g2 g3 g4
            obtain ⟨⟨f0, f1, f2, f3, f4⟩, ⟨g0, g1, g2, g3, g4⟩⟩ := HBx.out w4 HB4.out
            have HC := Lib.hid (H16.out w4 HB4.out).2
            go_wp2_with fail
            go_at_call 16
            refine HC.out.mono ?_
            rintro e w5 ⟨rfl, hb⟩
            have HB5 := Lib.hid (HB4.out.trans (hb.mono HB4.out.size))
            clear hb HC
            clear f0 f1 f2 f3 f4 g0 g1 g2 g3 g4
            obtain ⟨⟨f0, f1, f2, f3, f4⟩, ⟨g0, g1, g2, g3, g4⟩⟩ := HBx.out w5 HB5.out
            have HC := Lib.hid (H18.out w5 HB5.out).1
            go_wp2_with fail
            go_at_call 18
            refine HC.out.mono ?_
            rintro e w6 ⟨rfl, hb⟩
            have HB6 := Lib.hid (HB5.out.trans (hb.mono HB5.out.size))
            clear hb HC
            clear f0 f1 f2 f3 f4 g0 g1 g2 g3 g4
            obtain ⟨⟨f0, f1, f2, f3, f4⟩, ⟨g0, g1, g2, g3, g4⟩⟩ := HBx.out w6 HB6.out
            have HC := Lib.hid (H18.out w6 HB6.out).2
            go_wp2_with fail
            go_at_call 18
            refine HC.out.mono ?_
            rintro e w7 ⟨rfl, hb⟩
            have HB7 := Lib.hid (HB6.out.trans (hb.mono HB6.out.size))
            clear hb HC
            clear f0 f1 f2 f3 f4 g0 g1 g2 g3 g4
            obtain ⟨⟨f0, f1, f2, f3, f4⟩, ⟨g0, g1, g2, g3, g4⟩⟩ := HBx.out w7 HB7.out
            go_wp2
            go_ret
            exact ⟨by simp, HW.out.2.1.trans (HB7.out.mono (by have := HW.out.2.2; omega))⟩
        | false =>
          simp only [if_true, Bool.false_eq_true, if_false] at h16 h18
          clear hEE hPP hno
          obtain ⟨Y1, eY1⟩ : ∃ x, (if B = true then Y else ⟨#[]⟩) = x := ⟨_, rfl⟩
          obtain ⟨y1, ey1⟩ : ∃ x : Int, (if B = true then 0 else 30) = x := ⟨_, rfl⟩
          simp only [eY1, ey1] at h18
          clear eY1 ey1
          obtain ⟨T1, eT1⟩ : ∃ x, (if Q = true then T else ⟨#[]⟩) = x := ⟨_, rfl⟩
          obtain ⟨t1, et1⟩ : ∃ x : Int, (if Q = true then 0 else 30) = x := ⟨_, rfl⟩
          simp only [eT1, et1] at h16
          clear eT1 et1
          have H16 := Lib.hid h16
          have H18 := Lib.hid h18
          clear h16 h18
          go_enter Tryd.func7, Tryd.ntmps7
          go_wp2_with fail
          go_at_call 10
          refine HS.out.mono ?_
          rintro e w1 ⟨rfl, hb⟩
          have HB1 := Lib.hid hb
          clear hb eW
          obtain ⟨⟨f0, f1, f2, f3, f4⟩, ⟨g0, g1, g2, g3, g4⟩⟩ := HBx.out w1 HB1.out
          have HC := Lib.hid (H11.out w1 HB1.out).1
          go_wp2_with fail
          go_at_call 11
          refine HC.out.mono ?_
          rintro e w2 ⟨rfl, hb⟩
          have HB2 := Lib.hid (HB1.out.trans (hb.mono HB1.out.size))
          clear hb HC
          clear f0 f1 f2 f3 f4 g0 g1 g2 g3 g4
          obtain ⟨⟨f0, f1, f2, f3, f4⟩, ⟨g0, g1, g2, g3, g4⟩⟩ := HBx.out w2 HB2.out
          have HC := Lib.hid (H11.out w2 HB2.out).2
          go_wp2_with fail
          go_at_call 11
          refine HC.out.mono ?_
          rintro e w3 ⟨rfl, hb⟩
          have HB3 := Lib.hid (HB2.out.trans (hb.mono HB2.out.size))
          clear hb HC
          clear f0 f1 f2 f3 f4 g0 g1 g2 g3 g4
          obtain ⟨⟨f0, f1, f2, f3, f4⟩, ⟨g0, g1, g2, g3, g4⟩⟩ := HBx.out w3 HB3.out
          have HC := Lib.hid (H16.out w3 HB3.out).1
          go_wp2_with fail
          go_at_call 16
          refine HC.out.mono ?_
          rintro e w4 ⟨rfl, hb⟩
          have HB4 := Lib.hid (HB3.out.trans (hb.mono HB3.out.size))
          clear hb HC
          clear f0 f1 f2 f3 f4 g0 g1 g2 g3 g4
          obtain ⟨⟨f0, f1, f2, f3, f4⟩, ⟨g0, g1, g2, g3, g4⟩⟩ := HBx.out w4 HB4.out
          have HC := Lib.hid (H16.out w4 HB4.out).2
          go_wp2_with fail
          go_at_call 16
          refine HC.out.mono ?_
          rintro e w5 ⟨rfl, hb⟩
          have HB5 := Lib.hid (HB4.out.trans (hb.mono HB4.out.size))
          clear hb HC
          clear f0 f1 f2 f3 f4 g0 g1 g2 g3 g4
          obtain ⟨⟨f0, f1, f2, f3, f4⟩, ⟨g0, g1, g2, g3, g4⟩⟩ := HBx.out w5 HB5.out
          have HC := Lib.hid (H18.out w5 HB5.out).1
          go_wp2_with fail
          go_at_call 18
          refine HC.out.mono ?_
          rintro e w6 ⟨rfl, hb⟩
          have HB6 := Lib.hid (HB5.out.trans (hb.mono HB5.out.size))
          clear hb HC
          clear f0 f1 f2 f3 f4 g0 g1 g2 g3 g4
          obtain ⟨⟨f0, f1, f2, f3, f4⟩, ⟨g0, g1, g2, g3, g4⟩⟩ := HBx.out w6 HB6.out
          have HC := Lib.hid (H18.out w6 HB6.out).2
          go_wp2_with fail
          go_at_call 18
          refine HC.out.mono ?_
          rintro e w7 ⟨rfl, hb⟩
          have HB7 := Lib.hid (HB6.out.trans (hb.mono HB6.out.size))
          clear hb HC
          clear f0 f1 f2 f3 f4 g0 g1 g2 g3 g4
          obtain ⟨⟨f0, f1, f2, f3, f4⟩, ⟨g0, g1, g2, g3, g4⟩⟩ := HBx.out w7 HB7.out
          go_wp2
          go_ret
          exact ⟨by simp, HW.out.2.1.trans (HB7.out.mono (by have := HW.out.2.2; omega))⟩
    · unfold nodeV at h11 ⊢
      rw [if_pos hsa, if_neg hsb] at h11
      have HS := Lib.hid hs
      have HBx := Lib.hid hbx
      have H11 := Lib.hid h11
      clear hs hbx h11 h20 hA hB he h1 hb0 hz0 hx hy hAt hst hsu hfa hfb hsa hsb
      go_enter Tryd.func7, Tryd.ntmps7
      go_wp2_with fail
      go_at_call 10
      refine HS.out.mono ?_
      rintro e w1 ⟨rfl, hb⟩
      have HB1 := Lib.hid hb
      clear hb eW
      obtain ⟨⟨f0, f1, f2, f3, f4⟩, ⟨g0, g1, g2, g3, g4⟩⟩ := HBx.out w1 HB1.out
      have HC := Lib.hid (H11.out w1 HB1.out).1
      go_wp2_with fail
      go_at_call 11
      refine HC.out.mono ?_
      rintro e w2 ⟨rfl, hb⟩
      have HB2 := Lib.hid (HB1.out.trans (hb.mono HB1.out.size))
      clear hb HC
      clear f0 f1 f2 f3 f4 g0 g1 g2 g3 g4
      obtain ⟨⟨f0, f1, f2, f3, f4⟩, ⟨g0, g1, g2, g3, g4⟩⟩ := HBx.out w2 HB2.out
      have HC := Lib.hid (H11.out w2 HB2.out).2
      go_wp2_with fail
      go_at_call 11
      refine HC.out.mono ?_
      rintro e w3 ⟨rfl, hb⟩
      have HB3 := Lib.hid (HB2.out.trans (hb.mono HB2.out.size))
      clear hb HC
      clear f0 f1 f2 f3 f4 g0 g1 g2 g3 g4
      go_wp2
      go_ret
      exact ⟨rfl, HW.out.2.1.trans (HB3.out.mono (by have := HW.out.2.2; omega))⟩
  · unfold nodeV at h11 ⊢
    rw [if_neg hsa] at h11
    have HS := Lib.hid hs
    have HBx := Lib.hid hbx
    have H11 := Lib.hid h11
    clear hs hbx h11 h20 hA hB he h1 hb0 hz0 hx hy hAt hst hsu hfa hfb hsa
    go_enter Tryd.func7, Tryd.ntmps7
    go_wp2_with fail
    go_at_call 10
    refine HS.out.mono ?_
    rintro e w1 ⟨rfl, hb⟩
    have HB1 := Lib.hid hb
    clear hb eW
    obtain ⟨⟨f0, f1, f2, f3, f4⟩, ⟨g0, g1, g2, g3, g4⟩⟩ := HBx.out w1 HB1.out
    have HC := Lib.hid (H11.out w1 HB1.out).1
    go_wp2_with fail
    go_at_call 11
    refine HC.out.mono ?_
    rintro e w2 ⟨rfl, hb⟩
    have HB2 := Lib.hid (HB1.out.trans (hb.mono HB1.out.size))
    clear hb HC
    clear f0 f1 f2 f3 f4 g0 g1 g2 g3 g4
    go_wp2
    go_ret
    exact ⟨rfl, HW.out.2.1.trans (HB2.out.mono (by have := HW.out.2.2; omega))⟩
end Go.Proofs.YtiejpenffpjmeaaDoor
