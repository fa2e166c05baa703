/- gumshoeref03.expr, stmt, Right, RightExpr; JtreeRight. -/
import Derived.Test.YtiejpenffpjmeaaDoorRefNone
import Derived.Test.YtiejpenffpjmeaaDoorRefLeaf
import Derived.Test.YtiejpenffpjmeaaDoorSize
import Derived.Test.YtiejpenffpjmeaaDoorRefRest3
import Derived.Test.YtiejpenffpjmeaaDoorRefObj
import Derived.Deep.RegionHeld3
namespace Go.Proofs.YtiejpenffpjmeaaDoor
set_option linter.unusedSimpArgs false
set_option linter.unusedVariables false
open Go.RowKit Go.Proofs

theorem isE_cases {t : Tr} (h : isE t) : t.op = 1 ∨ t.op = 2 ∨ t.op = 3 ∨ t.op = 4 ∨ t.op = 5 ∨ t.op = 6 ∨ t.op = 7 ∨ t.op = 8 ∨ t.op = 9 ∨ t.op = 10 ∨ t.op = 11 ∨ t.op = 13 ∨ t.op = 14 ∨ t.op = 15 ∨ t.op = 16 ∨ t.op = 17 ∨ t.op = 18 ∨ t.op = 19 ∨ t.op = 20 ∨ t.op = 21 ∨ t.op = 22 ∨ t.op = 23 := by
  unfold isE hasB at h
  simp at h
  omega
theorem isS_cases {t : Tr} (h : isS t) : t.op = 30 ∨ t.op = 31 ∨ t.op = 32 ∨ t.op = 33 ∨ t.op = 34 ∨ t.op = 35 ∨ t.op = 36 ∨ t.op = 37 ∨ t.op = 38 ∨ t.op = 39 ∨ t.op = 40 ∨ t.op = 41 := by
  unfold isS hasB at h
  simp at h
  omega
theorem ref_any (t : Tr) : t.size ≤ 1000000 → ∀ h : Int, h ≤ 1000 → RefE h t ∧ RefS h t := by
  induction t using tree_ind with
  | h t ih =>
  intro hsz h hh
  have hlen : t.l.length ≤ 1000000 := by
    have := length_le_sizes t.l
    have := size_eq t
    omega
  have hE : ∀ y ∈ t.l, RefE (h - 1) y := fun y hy => (ih y (size_part hy) (by have := size_part hy; omega) (h - 1) (by omega)).1
  have hS : ∀ y ∈ t.l, RefS (h - 1) y := fun y hy => (ih y (size_part hy) (by have := size_part hy; omega) (h - 1) (by omega)).2
  have hEE : ∀ y ∈ t.l, ∀ z ∈ y.l, RefE (h - 2) z := fun y hy z hz => (ih z (by have := size_part hy; have := size_part hz; omega) (by have := size_part hy; have := size_part hz; omega) (h - 2) (by omega)).1
  constructor
  · intro v w hA
    by_cases h1 : 1 ≤ h
    · obtain ⟨u, rfl, hrow, -⟩ := (At_iff _ _ _ _).1 hA
      obtain ⟨A, c, rfl, -, -⟩ := row_at hrow
      by_cases hi : isE t
      · rcases isE_cases hi with e | e | e | e | e | e | e | e | e | e | e | e | e | e | e | e | e | e | e | e | e | e
        · exact rex_1 h t A c w e h1 hh hA hE hlen
        · exact rex_2 h t A c w e h1 hh hA hE hlen
        · exact rex_3 h t A c w e h1 hh hA hE hlen
        · exact rex_4 h t A c w e h1 hh hA hE hlen
        · exact rex_5 h t A c w e h1 hh hA hE hlen
        · exact rex_6 h t A c w e h1 hh hA hE hlen
        · exact rex_7 h t A c w e h1 hh hA hE hlen
        · exact rex_8 h t A c w e h1 hh hA hE hlen
        · exact rex_9 h t A c w e h1 hh hA hE hlen
        · exact rex_10 h t A c w e h1 hh hA hE hlen hS
        · exact rex_11 h t A c w e h1 hh hA hEE hlen
        · exact rex_13 h t A c w e h1 hh hA hE hlen
        · exact rex_14 h t A c w e h1 hh hA hE hlen
        · exact rex_15 h t A c w e h1 hh hA hE hlen
        · exact rex_16 h t A c w e h1 hh hA hE hlen
        · exact rex_17 h t A c w e h1 hh hA hE hlen
        · exact rex_18 h t A c w e h1 hh hA hE hlen
        · exact rex_19 h t A c w e h1 hh hA hE hlen
        · exact rex_20 h t A c w e h1 hh hA hE hlen
        · exact rex_21 h t A c w e h1 hh hA hE hlen
        · exact rex_22 h t A c w e h1 hh hA hE hlen
        · exact rex_23 h t A c w e h1 hh hA hE hlen
      · exact rex_none h t A c w h1 hh hA hi
    · exact rex_low h t v w hA (by omega)
  · intro v w hA
    by_cases h1 : 1 ≤ h
    · obtain ⟨u, rfl, hrow, -⟩ := (At_iff _ _ _ _).1 hA
      obtain ⟨A, c, rfl, -, -⟩ := row_at hrow
      by_cases hi : isS t
      · rcases isS_cases hi with e | e | e | e | e | e | e | e | e | e | e | e
        · exact rst_30 h t A c w e h1 hh hA hE hS hlen
        · exact rst_31 h t A c w e h1 hh hA hE hS hlen
        · exact rst_32 h t A c w e h1 hh hA hE hS hlen
        · exact rst_33 h t A c w e h1 hh hA hE hS hlen
        · exact rst_34 h t A c w e h1 hh hA hE hS hlen
        · exact rst_35 h t A c w e h1 hh hA hE hS hlen
        · exact rst_36 h t A c w e h1 hh hA hE hS hlen
        · exact rst_37 h t A c w e h1 hh hA hE hS hlen
        · exact rst_38 h t A c w e h1 hh hA hE hS hlen
        · exact rst_39 h t A c w e h1 hh hA hE hS hlen
        · exact rst_40 h t A c w e h1 hh hA hE hS hlen
        · exact rst_41 h t A c w e h1 hh hA hE hS hlen
      · exact rst_none h t A c w h1 hh hA hi
    · exact rst_low h t v w hA (by omega)

set_option maxRecDepth 100000 in
theorem rright_any (t : Tr) (v : Value) (w : World) (ht : At w w.heap.size t v) (hsz : t.size ≤ 1000000) :
    Calls Tryd.prog 13 #[v] w fun e w' => e = .returned (.bool (rightP t)) ∧ Below w.heap.size w w' := by
  obtain ⟨u, rfl, -, -⟩ := (At_iff _ _ _ _).1 ht
  have hW : Below w.heap.size w (w.alloc (.cells #[.int .i64 t.op, .string (bs t.s), .int .i64 t.n, u, .int .i64 t.line] 24)) := (Below.refl _ w).alloc (Nat.le_refl _) _
  have h1 := block_any 100 t (ref_any t hsz 100 (by decide)).2 _ (w.alloc (.cells #[.int .i64 t.op, .string (bs t.s), .int .i64 t.n, u, .int .i64 t.line] 24)) (At.keep t ht hW.size fun p hp => hW.cell hp)
  unfold nodeV at h1 ⊢
  have HB := Lib.hid h1
  have HW := Lib.hid hW
  have HO := Lib.hid (right_ok t)
  clear ht hW h1
  go_enter Tryd.func13, Tryd.ntmps13
  go_wp2_with fail
  go_at_call 29
  first
  | (refine HB.out.mono ?_
     rintro e w5 ⟨b, rfl, hb, hb5⟩
     have HC := Lib.hid (And.intro hb (HW.out.trans (hb5.mono HW.out.size)))
     clear hb hb5
     go_wp2
     go_ret
     have h9 := Bool.eq_iff_iff.2 (HC.out.1.trans HO.out.symm)
     subst h9
     exact ⟨by simp, HC.out.2⟩)
set_option maxRecDepth 100000 in
theorem rrightE_any (t : Tr) (v : Value) (w : World) (ht : At w w.heap.size t v) (hsz : t.size ≤ 1000000) :
    Calls Tryd.prog 15 #[v] w fun e w' => e = .returned (.bool (rightE t)) ∧ Below w.heap.size w w' := by
  obtain ⟨u, rfl, -, -⟩ := (At_iff _ _ _ _).1 ht
  have hW : Below w.heap.size w (w.alloc (.cells #[.int .i64 t.op, .string (bs t.s), .int .i64 t.n, u, .int .i64 t.line] 24)) := (Below.refl _ w).alloc (Nat.le_refl _) _
  have h1 := (ref_any t hsz 100 (by decide)).1 _ (w.alloc (.cells #[.int .i64 t.op, .string (bs t.s), .int .i64 t.n, u, .int .i64 t.line] 24)) (At.keep t ht hW.size fun p hp => hW.cell hp)
  unfold nodeV at h1 ⊢
  have HB := Lib.hid h1
  have HW := Lib.hid hW
  have HO := Lib.hid (rightE_ok t)
  clear ht hW h1
  go_enter Tryd.func15, Tryd.ntmps15
  go_wp2_with fail
  go_at_call 30
  refine HB.out.mono ?_
  rintro e w5 ⟨b, rfl, hb, hb5⟩
  have HC := Lib.hid (And.intro hb (HW.out.trans (hb5.mono HW.out.size)))
  clear hb hb5
  go_wp2
  go_ret
  have h9 := Bool.eq_iff_iff.2 (HC.out.1.trans HO.out.symm)
  subst h9
  exact ⟨by simp, HC.out.2⟩

set_option maxRecDepth 100000 in
set_option maxHeartbeats 4000000 in
theorem rights_any (a : Tr) (va : Value) (w : World) (hA : At w w.heap.size a va) (he : Env w) (h1 : 1 ≤ w.heap.size) :
    Calls Tryd.prog 3 #[va] w fun e w' => e = .returned (.bool true) ∧ Below w.heap.size w w' := by
  obtain ⟨ua, rfl, -, -⟩ := (At_iff _ _ _ _).1 hA
  obtain ⟨W0, eW⟩ : ∃ W, w.alloc (.cells #[.int .i64 a.op, .string (bs a.s), .int .i64 a.n, ua, .int .i64 a.line] 24) = W := ⟨_, rfl⟩
  have hb0 : Below w.heap.size w W0 := by rw [← eW]; exact (Below.refl _ w).alloc (Nat.le_refl _) _
  have hz0 : W0.heap.size = w.heap.size + 1 := by rw [← eW]; simp
  have hx : W0.heap[w.heap.size]? = some (.cells #[.int .i64 a.op, .string (bs a.s), .int .i64 a.n, ua, .int .i64 a.line] 24 (0, 0)) := by rw [← eW]; exact heap_alloc_new w _
  have hAt : ∀ w', Below W0.heap.size W0 w' → At w' w'.heap.size a (nodeV a ua) := fun w' hb =>
    have hb' := hb0.trans (hb.mono (by omega))
    At.keep a hA hb'.size fun p hp => hb'.cell hp
  have hs := shown_any W0 (he.below hb0) (by omega)
  have h11 := fun (w' : World) (hb : Below W0.heap.size W0 w') => small_any a _ w' (hAt w' hb)
  have hbx := fun (w' : World) (hb : Below W0.heap.size W0 w') => box_in hb hx
  by_cases hsa : a.size ≤ 1500
  · have hsz : a.size ≤ 1000000 := by omega
    have h12 := fun (w' : World) (hb : Below W0.heap.size W0 w') => right_any a _ w' (hAt w' hb) hsz
    have h13 := fun (w' : World) (hb : Below W0.heap.size W0 w') => rright_any a _ w' (hAt w' hb) hsz
    have h14 := fun (w' : World) (hb : Below W0.heap.size W0 w') => rightE_any a _ w' (hAt w' hb) hsz
    have h15 := fun (w' : World) (hb : Below W0.heap.size W0 w') => rrightE_any a _ w' (hAt w' hb) hsz
    unfold nodeV at h11 h12 h13 h14 h15 ⊢
    unfold BoxAt at hbx
    obtain ⟨r, er⟩ : ∃ r, rightP a = r := ⟨_, rfl⟩
    obtain ⟨q, eq⟩ : ∃ q, rightE a = q := ⟨_, rfl⟩
    rw [er] at h12 h13
    rw [eq] at h14 h15
    rw [if_pos hsa] at h11
    have HS := Lib.hid hs
    have HW := Lib.hid (And.intro eW (And.intro hb0 hz0))
    have H11 := Lib.hid h11
    have H12 := Lib.hid h12
    have H13 := Lib.hid h13
    have H14 := Lib.hid h14
    have H15 := Lib.hid h15
    have HBx := Lib.hid hbx
    clear hA he h1 hb0 hz0 hx hAt hs h11 h12 h13 h14 h15 hbx er eq hsa hsz
    cases r with
    | true =>
      cases q with
      | true =>
        go_enter Tryd.func3, Tryd.ntmps3
        go_wp2_with fail
        go_at_call 10
        refine HS.out.mono ?_
        rintro e w1 ⟨rfl, hb1⟩
        have HB1 := Lib.hid hb1
        obtain ⟨f0, f1, f2, f3, f4⟩ := HBx.out w1 hb1
        have HC1 := Lib.hid (H11.out w1 hb1)
        clear hb1 eW
        go_wp2_with fail
        go_at_call 11
        refine HC1.out.mono ?_
        rintro e w2 ⟨rfl, hb2⟩
        have HB2 := Lib.hid (HB1.out.trans (hb2.mono HB1.out.size))
        clear hb2 f0 f1 f2 f3 f4
        obtain ⟨f0, f1, f2, f3, f4⟩ := HBx.out w2 HB2.out
        go_wp2
        have hdr : Below W0.heap.size W0 w2.drew := HB2.out.drew
        have HD1 := Lib.hid (H12.out _ hdr)
        have HDr := Lib.hid hdr
        clear hdr
        go_region_held3 (fun w' => w'.cell? ⟨w.heap.size, 0, none⟩ = some (.int .i64 a.op) ∧ w'.cell? ⟨w.heap.size, 1, none⟩ = some (.string (bs a.s)) ∧ w'.cell? ⟨w.heap.size, 2, none⟩ = some (.int .i64 a.n) ∧ w'.cell? ⟨w.heap.size, 3, none⟩ = some ua ∧ w'.cell? ⟨w.heap.size, 4, none⟩ = some (.int .i64 a.line))
          (first | go_keep | (exact HBx.out _ HB6.out) | (exact HBx.out _ HB5.out) | (exact HBx.out _ HB4.out) | (exact HBx.out _ HB3.out))
          (first
            | (go_at_call 12; refine HD1.out.mono ?_; rintro e w3 ⟨rfl, hb3⟩; have HB3 := Lib.hid (HDr.out.trans (hb3.mono HDr.out.size)); have HD2 := Lib.hid (H13.out w3 HB3.out); clear hb3 HD1)
            | (go_at_call 13; refine HD2.out.mono ?_; rintro e w4 ⟨rfl, hb4⟩; have HB4 := Lib.hid (HB3.out.trans (hb4.mono HB3.out.size)); have HD3 := Lib.hid (H14.out w4 HB4.out); clear hb4 HD2)
            | (go_at_call 14; refine HD3.out.mono ?_; rintro e w5 ⟨rfl, hb5⟩; have HB5 := Lib.hid (HB4.out.trans (hb5.mono HB4.out.size)); have HD4 := Lib.hid (H15.out w5 HB5.out); clear hb5 HD3)
            | (go_at_call 15; refine HD4.out.mono ?_; rintro e w6 ⟨rfl, hb6⟩; have HB6 := Lib.hid (HB5.out.trans (hb6.mono HB5.out.size)); clear hb6 HD4))
        go_wp2
        go_ret
        exact ⟨rfl, HW.out.2.1.trans (HB6.out.mono (by have := HW.out.2.2; omega))⟩
      | false =>
        go_enter Tryd.func3, Tryd.ntmps3
        go_wp2_with fail
        go_at_call 10
        refine HS.out.mono ?_
        rintro e w1 ⟨rfl, hb1⟩
        have HB1 := Lib.hid hb1
        obtain ⟨f0, f1, f2, f3, f4⟩ := HBx.out w1 hb1
        have HC1 := Lib.hid (H11.out w1 hb1)
        clear hb1 eW
        go_wp2_with fail
        go_at_call 11
        refine HC1.out.mono ?_
        rintro e w2 ⟨rfl, hb2⟩
        have HB2 := Lib.hid (HB1.out.trans (hb2.mono HB1.out.size))
        clear hb2 f0 f1 f2 f3 f4
        obtain ⟨f0, f1, f2, f3, f4⟩ := HBx.out w2 HB2.out
        go_wp2
        have hdr : Below W0.heap.size W0 w2.drew := HB2.out.drew
        have HD1 := Lib.hid (H12.out _ hdr)
        have HDr := Lib.hid hdr
        clear hdr
        go_region_held3 (fun w' => w'.cell? ⟨w.heap.size, 0, none⟩ = some (.int .i64 a.op) ∧ w'.cell? ⟨w.heap.size, 1, none⟩ = some (.string (bs a.s)) ∧ w'.cell? ⟨w.heap.size, 2, none⟩ = some (.int .i64 a.n) ∧ w'.cell? ⟨w.heap.size, 3, none⟩ = some ua ∧ w'.cell? ⟨w.heap.size, 4, none⟩ = some (.int .i64 a.line))
          (first | go_keep | (exact HBx.out _ HB6.out) | (exact HBx.out _ HB5.out) | (exact HBx.out _ HB4.out) | (exact HBx.out _ HB3.out))
          (first
            | (go_at_call 12; refine HD1.out.mono ?_; rintro e w3 ⟨rfl, hb3⟩; have HB3 := Lib.hid (HDr.out.trans (hb3.mono HDr.out.size)); have HD2 := Lib.hid (H13.out w3 HB3.out); clear hb3 HD1)
            | (go_at_call 13; refine HD2.out.mono ?_; rintro e w4 ⟨rfl, hb4⟩; have HB4 := Lib.hid (HB3.out.trans (hb4.mono HB3.out.size)); have HD3 := Lib.hid (H14.out w4 HB4.out); clear hb4 HD2)
            | (go_at_call 14; refine HD3.out.mono ?_; rintro e w5 ⟨rfl, hb5⟩; have HB5 := Lib.hid (HB4.out.trans (hb5.mono HB4.out.size)); have HD4 := Lib.hid (H15.out w5 HB5.out); clear hb5 HD3)
            | (go_at_call 15; refine HD4.out.mono ?_; rintro e w6 ⟨rfl, hb6⟩; have HB6 := Lib.hid (HB5.out.trans (hb6.mono HB5.out.size)); clear hb6 HD4))
        go_wp2
        go_ret
        exact ⟨rfl, HW.out.2.1.trans (HB6.out.mono (by have := HW.out.2.2; omega))⟩
    | false =>
      cases q with
      | true =>
        go_enter Tryd.func3, Tryd.ntmps3
        go_wp2_with fail
        go_at_call 10
        refine HS.out.mono ?_
        rintro e w1 ⟨rfl, hb1⟩
        have HB1 := Lib.hid hb1
        obtain ⟨f0, f1, f2, f3, f4⟩ := HBx.out w1 hb1
        have HC1 := Lib.hid (H11.out w1 hb1)
        clear hb1 eW
        go_wp2_with fail
        go_at_call 11
        refine HC1.out.mono ?_
        rintro e w2 ⟨rfl, hb2⟩
        have HB2 := Lib.hid (HB1.out.trans (hb2.mono HB1.out.size))
        clear hb2 f0 f1 f2 f3 f4
        obtain ⟨f0, f1, f2, f3, f4⟩ := HBx.out w2 HB2.out
        go_wp2
        have hdr : Below W0.heap.size W0 w2.drew := HB2.out.drew
        have HD1 := Lib.hid (H12.out _ hdr)
        have HDr := Lib.hid hdr
        clear hdr
        go_region_held3 (fun w' => w'.cell? ⟨w.heap.size, 0, none⟩ = some (.int .i64 a.op) ∧ w'.cell? ⟨w.heap.size, 1, none⟩ = some (.string (bs a.s)) ∧ w'.cell? ⟨w.heap.size, 2, none⟩ = some (.int .i64 a.n) ∧ w'.cell? ⟨w.heap.size, 3, none⟩ = some ua ∧ w'.cell? ⟨w.heap.size, 4, none⟩ = some (.int .i64 a.line))
          (first | go_keep | (exact HBx.out _ HB6.out) | (exact HBx.out _ HB5.out) | (exact HBx.out _ HB4.out) | (exact HBx.out _ HB3.out))
          (first
            | (go_at_call 12; refine HD1.out.mono ?_; rintro e w3 ⟨rfl, hb3⟩; have HB3 := Lib.hid (HDr.out.trans (hb3.mono HDr.out.size)); have HD2 := Lib.hid (H13.out w3 HB3.out); clear hb3 HD1)
            | (go_at_call 13; refine HD2.out.mono ?_; rintro e w4 ⟨rfl, hb4⟩; have HB4 := Lib.hid (HB3.out.trans (hb4.mono HB3.out.size)); have HD3 := Lib.hid (H14.out w4 HB4.out); clear hb4 HD2)
            | (go_at_call 14; refine HD3.out.mono ?_; rintro e w5 ⟨rfl, hb5⟩; have HB5 := Lib.hid (HB4.out.trans (hb5.mono HB4.out.size)); have HD4 := Lib.hid (H15.out w5 HB5.out); clear hb5 HD3)
            | (go_at_call 15; refine HD4.out.mono ?_; rintro e w6 ⟨rfl, hb6⟩; have HB6 := Lib.hid (HB5.out.trans (hb6.mono HB5.out.size)); clear hb6 HD4))
        go_wp2
        go_ret
        exact ⟨rfl, HW.out.2.1.trans (HB6.out.mono (by have := HW.out.2.2; omega))⟩
      | false =>
        go_enter Tryd.func3, Tryd.ntmps3
        go_wp2_with fail
        go_at_call 10
        refine HS.out.mono ?_
        rintro e w1 ⟨rfl, hb1⟩
        have HB1 := Lib.hid hb1
        obtain ⟨f0, f1, f2, f3, f4⟩ := HBx.out w1 hb1
        have HC1 := Lib.hid (H11.out w1 hb1)
        clear hb1 eW
        go_wp2_with fail
        go_at_call 11
        refine HC1.out.mono ?_
        rintro e w2 ⟨rfl, hb2⟩
        have HB2 := Lib.hid (HB1.out.trans (hb2.mono HB1.out.size))
        clear hb2 f0 f1 f2 f3 f4
        obtain ⟨f0, f1, f2, f3, f4⟩ := HBx.out w2 HB2.out
        go_wp2
        have hdr : Below W0.heap.size W0 w2.drew := HB2.out.drew
        have HD1 := Lib.hid (H12.out _ hdr)
        have HDr := Lib.hid hdr
        clear hdr
        go_region_held3 (fun w' => w'.cell? ⟨w.heap.size, 0, none⟩ = some (.int .i64 a.op) ∧ w'.cell? ⟨w.heap.size, 1, none⟩ = some (.string (bs a.s)) ∧ w'.cell? ⟨w.heap.size, 2, none⟩ = some (.int .i64 a.n) ∧ w'.cell? ⟨w.heap.size, 3, none⟩ = some ua ∧ w'.cell? ⟨w.heap.size, 4, none⟩ = some (.int .i64 a.line))
          (first | go_keep | (exact HBx.out _ HB6.out) | (exact HBx.out _ HB5.out) | (exact HBx.out _ HB4.out) | (exact HBx.out _ HB3.out))
          (first
            | (go_at_call 12; refine HD1.out.mono ?_; rintro e w3 ⟨rfl, hb3⟩; have HB3 := Lib.hid (HDr.out.trans (hb3.mono HDr.out.size)); have HD2 := Lib.hid (H13.out w3 HB3.out); clear hb3 HD1)
            | (go_at_call 13; refine HD2.out.mono ?_; rintro e w4 ⟨rfl, hb4⟩; have HB4 := Lib.hid (HB3.out.trans (hb4.mono HB3.out.size)); have HD3 := Lib.hid (H14.out w4 HB4.out); clear hb4 HD2)
            | (go_at_call 14; refine HD3.out.mono ?_; rintro e w5 ⟨rfl, hb5⟩; have HB5 := Lib.hid (HB4.out.trans (hb5.mono HB4.out.size)); have HD4 := Lib.hid (H15.out w5 HB5.out); clear hb5 HD3)
            | (go_at_call 15; refine HD4.out.mono ?_; rintro e w6 ⟨rfl, hb6⟩; have HB6 := Lib.hid (HB5.out.trans (hb6.mono HB5.out.size)); clear hb6 HD4))
        go_wp2
        go_ret
        exact ⟨rfl, HW.out.2.1.trans (HB6.out.mono (by have := HW.out.2.2; omega))⟩
  · unfold nodeV at h11 ⊢
    unfold BoxAt at hbx
    rw [if_neg hsa] at h11
    have HS := Lib.hid hs
    have HW := Lib.hid (And.intro eW (And.intro hb0 hz0))
    have H11 := Lib.hid h11
    have HBx := Lib.hid hbx
    clear hA he h1 hb0 hz0 hx hAt hs h11 hbx hsa
    go_enter Tryd.func3, Tryd.ntmps3
    go_wp2_with fail
    go_at_call 10
    refine HS.out.mono ?_
    rintro e w1 ⟨rfl, hb1⟩
    have HB1 := Lib.hid hb1
    obtain ⟨f0, f1, f2, f3, f4⟩ := HBx.out w1 hb1
    have HC1 := Lib.hid (H11.out w1 hb1)
    clear hb1 eW
    go_wp2_with fail
    go_at_call 11
    refine HC1.out.mono ?_
    rintro e w2 ⟨rfl, hb2⟩
    have HB2 := Lib.hid (HB1.out.trans (hb2.mono HB1.out.size))
    clear hb2 f0 f1 f2 f3 f4
    go_wp2
    go_ret
    exact ⟨rfl, HW.out.2.1.trans (HB2.out.mono (by have := HW.out.2.2; omega))⟩
end Go.Proofs.YtiejpenffpjmeaaDoor
