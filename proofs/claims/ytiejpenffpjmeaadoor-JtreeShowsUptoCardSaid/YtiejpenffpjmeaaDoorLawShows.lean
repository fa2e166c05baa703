/- gumshoeref03.text, line, all of them; Show, ShowExpr. gumshoeref03.Show, ShowExpr; JtreeShows. -/
import Derived.Test.YtiejpenffpjmeaaDoorTextLine2
import Derived.Test.YtiejpenffpjmeaaDoorLawRight
namespace Go.Proofs.YtiejpenffpjmeaaDoor
set_option linter.unusedSimpArgs false
set_option linter.unusedVariables false
open Go.RowKit Go.Proofs

set_option maxRecDepth 100000 in
set_option maxHeartbeats 4000000 in
theorem tln_32 (k : Nat) (t : Tr) (A : Option Addr) (c : Nat) (w : World) (e : t.op = 32) (hB : Bnd k t) (hA : At w w.heap.size t (nodeV t (.slice A t.l.length c))) (hWi : WithinOK k t) :
    Calls Tryd.prog 47 #[nodeV t (.slice A t.l.length c), .string (bs (indentB k))] w (Gives (t.txt k) w) := by
  obtain ⟨W1, hr⟩ : ∃ W, TIn k t A c w W := ⟨_, t_in k t A c w hA⟩
  have hbx := box_in (Below.refl _ _) hr.box
  have HR := Lib.hid hr
  have hW := hr.world
  have hc := hWi _ W1 (At.keep t hA hr.low.size fun p hp => hr.low.cell hp)
  unfold Gives nodeV at hc
  rw [e] at hc
  obtain ⟨T, hT⟩ : ∃ T, bs (t.txt k) = T := ⟨_, rfl⟩
  unfold Gives
  rw [hT] at hc ⊢
  have HC := Lib.hid hc
  unfold BoxAt at hbx
  rw [e] at hbx
  rw [e] at hW
  obtain ⟨f0, f1, f2, f3, f4⟩ := hbx
  unfold nodeV
  rw [e]
  clear hA hr hB e hc hT hWi
  by_cases h0 : t.l.length = 0
  · rw [h0] at HC f3 hW ⊢
    clear h0
    go_enter Tryd.func47, Tryd.ntmps47
    go_wp2_with (go_at_call 69; refine HC.out.mono ?_; rintro e w1 ⟨rfl, hb⟩; have HB1 := Lib.hid hb; clear hb)
    go_ret
    exact ⟨rfl, HR.out.low.trans (HB1.out.mono HR.out.low.size)⟩
  · have d2 : 0 < t.l.length := by omega
    go_enter Tryd.func47, Tryd.ntmps47
    go_wp2_with (go_at_call 69; refine HC.out.mono ?_; rintro e w1 ⟨rfl, hb⟩; have HB1 := Lib.hid hb; clear hb)
    go_ret
    exact ⟨rfl, HR.out.low.trans (HB1.out.mono HR.out.low.size)⟩

set_option maxRecDepth 100000 in
set_option maxHeartbeats 4000000 in
theorem tln_41 (k : Nat) (t : Tr) (A : Option Addr) (c : Nat) (w : World) (e : t.op = 41) (hB : Bnd k t) (hg : soundOne t = true) (hA : At w w.heap.size t (nodeV t (.slice A t.l.length c))) (hE : ∀ y ∈ t.l, isE y → TxtE k y) (hS : ∀ y ∈ t.l, y.op = 32 → ∀ z ∈ y.l, TxtS (k + 1) z) :
    Calls Tryd.prog 47 #[nodeV t (.slice A t.l.length c), .string (bs (indentB k))] w (Gives (t.txt k) w) := by
  obtain ⟨-, -, hle, xs, b, hl0, hx, hb1⟩ := (inv_41 e).1 hg
  obtain ⟨W1, hr⟩ : ∃ W, TIn k t A c w W := ⟨_, t_in k t A c w hA⟩
  have hbx := box_in (Below.refl _ _) hr.box
  have HX := Lib.hid (fun w' (hb : Below W1.heap.size W1 w') => box_in hb hr.box)
  have HR := Lib.hid hr
  have hW := hr.world
  have hsz := hB.str
  have HOp := Lib.hid e
  have mb : b ∈ t.l := by rw [hl0]; simp
  have mx : ∀ y ∈ xs, y ∈ t.l := fun y hy => by rw [hl0]; simp [hy]
  have hss : sizes xs ≤ t.size ∧ strsL xs ≤ t.strs := by
    have h1 := size_eq t
    have h2 := strs_eq t
    rw [hl0, sizes_app] at h1
    rw [hl0, strsL_app] at h2
    omega
  have hlx : t.l.length = xs.length + 1 := by rw [hl0]; simp
  have hc := fun w' (hb : Below W1.heap.size W1 w') => tbody_any k t.l xs b _ w' hl0 (hr.row.keep hb.size fun p hp => hb.cell hp) hb1 (hB.part mb) (fun y hy => hE y (mx y hy) (by unfold isE; rw [hx y hy]; rfl)) (hS b mb hb1) (by omega) (hB.lens xs mx hss.1 hss.2)
  obtain ⟨F, hF, hFz⟩ : ∃ F, bs (funcB (t.l.map (Tr.txt k))) = F ∧ F.size ≤ 200000000 := ⟨_, rfl, by
    rw [bs_size]
    have h1 := func_len (t.l.map (Tr.txt k))
    have h2 := hB.lens t.l (fun y hy => hy) (by have := size_eq t; omega) (by have := strs_eq t; omega)
    rw [List.length_map] at h1
    omega⟩
  unfold Gives at hc
  simp only [hF] at hc
  have HC := Lib.hid hc
  have HT := Lib.hid (show bs (t.txt k) = bs [102, 117, 110, 99, 116, 105, 111, 110, 32] ++ bs t.s ++ F by
    rw [txt_form k t (by rw [e]; decide), e, ← hF]
    show bs ([102, 117, 110, 99, 116, 105, 111, 110, 32] ++ (t.s ++ funcB (t.l.map (Tr.txt k)))) = _
    simp only [bs_two, ByteArray.append_assoc])
  unfold BoxAt at hbx
  rw [e] at hbx
  rw [e] at hW
  obtain ⟨f0, f1, f2, f3, f4⟩ := hbx
  unfold nodeV
  rw [e]
  have d2 : 0 < t.l.length := by omega
  clear hA hE hS hg hr hB e hc hF hl0 hx hb1 mb mx hss hle hlx
  have q4 : ¬ (9223372036854775807 < 9 + (bs t.s).size) := by omega
  have q5 : ¬ (9223372036854775807 < 9 + (bs t.s).size + F.size) := by omega
  go_enter Tryd.func47, Tryd.ntmps47
  go_wp2_with fail
  have hdr : Below W1.heap.size W1 W1.drew := (Below.refl _ _).drew
  have HD1 := Lib.hid (HC.out _ hdr)
  have HDr := Lib.hid hdr
  clear hdr
  go_region_held3 (fun w' => w'.cell? ⟨w.heap.size, 1, none⟩ = some (.string (bs t.s)) ∧ w'.cell? ⟨w.heap.size, 3, none⟩ = some (.slice A t.l.length c))
    (first | go_keep | (exact And.intro (HX.out _ HB1.out).2.1 (HX.out _ HB1.out).2.2.2.1))
    (first | (go_at_call 58; refine HD1.out.mono ?_; rintro e w1 ⟨rfl, hb⟩; have HB1 := Lib.hid (HDr.out.trans (hb.mono HDr.out.size)); clear hb HD1))
  go_wp2
  go_ret
  exact ⟨by rw [HT.out]; rfl, HR.out.low.trans (HB1.out.mono HR.out.low.size)⟩

theorem isE_all {t : Tr} (h : isE t) : t.op = 1 ∨ t.op = 2 ∨ t.op = 3 ∨ t.op = 4 ∨ t.op = 5 ∨ t.op = 6 ∨ t.op = 7 ∨ t.op = 8 ∨ t.op = 9 ∨ t.op = 10 ∨ t.op = 11 ∨ t.op = 13 ∨ t.op = 14 ∨ t.op = 15 ∨ t.op = 16 ∨ t.op = 17 ∨ t.op = 18 ∨ t.op = 19 ∨ t.op = 20 ∨ t.op = 21 ∨ t.op = 22 ∨ t.op = 23 := by
  unfold isE hasB at h
  simp at h
  omega
theorem isS_all {t : Tr} (h : isS t) : t.op = 30 ∨ t.op = 31 ∨ t.op = 32 ∨ t.op = 33 ∨ t.op = 34 ∨ t.op = 35 ∨ t.op = 36 ∨ t.op = 37 ∨ t.op = 38 ∨ t.op = 39 ∨ t.op = 40 ∨ t.op = 41 := by
  unfold isS hasB at h
  simp at h
  omega
theorem quote_ne (s : Bs) : quoteL s ≠ [] := by intro h; have := congrArg List.length h; unfold quoteL at this; simp at this
theorem digits_ne (n : Nat) : Lib.decDigits n ≠ [] := by
  rw [Lib.decDigits]
  by_cases h : n < 10
  · rw [dif_pos h]; simp
  · rw [dif_neg h]; simp
theorem name_ne {s : Bs} (h : isNameL s = true) : s ≠ [] := by
  rintro rfl
  exact absurd h (by decide)
theorem txt_ne {k : Nat} {t : Tr} (hg : soundOne t = true) (h : isE t) : t.txt k ≠ [] := by
  rcases isE_all h with e | e | e | e | e | e | e | e | e | e | e | e | e | e | e | e | e | e | e | e | e | e
  · rw [txt_form k t (by rw [e]; decide), e]
    exact name_ne ((inv_1 e).1 hg).1
  · rw [txt_form k t (by rw [e]; decide), e]
    exact digits_ne _
  · rw [txt_form k t (by rw [e]; decide), e]
    exact quote_ne _
  · rw [txt_form k t (by rw [e]; decide), e]
    simp [form]
  · rw [txt_form k t (by rw [e]; decide), e]
    simp [form]
  · rw [txt_form k t (by rw [e]; decide), e]
    simp [form]
  · rw [txt_form k t (by rw [e]; decide), e]
    simp [form]
  · rw [txt_form k t (by rw [e]; decide), e]
    simp [form]
  · rw [txt_form k t (by rw [e]; decide), e]
    simp [form]
  · rw [txt_form k t (by rw [e]; decide), e]
    simp [form]
  · rw [txt_form k t (by rw [e]; decide), e]
    simp [form]
  · rw [txt_form k t (by rw [e]; decide), e]
    show (if op0 t.l = 2 then [40] ++ (at_ (t.l.map (Tr.txt k)) 0 ++ ([41, 46] ++ t.s)) else at_ (t.l.map (Tr.txt k)) 0 ++ ([46] ++ t.s)) ≠ []
    split <;> simp
  · rw [txt_form k t (by rw [e]; decide), e]
    simp [form]
  · rw [txt_form k t (by rw [e]; decide), e]
    simp [form]
  · rw [txt_form k t (by rw [e]; decide), e]
    show ((if op0 t.l = 1 then [40, 110, 101, 119, 32] ++ at_ (t.l.map (Tr.txt k)) 0 else [40, 110, 101, 119, 32, 40] ++ (at_ (t.l.map (Tr.txt k)) 0 ++ [41])) ++ ([40] ++ (commas ((t.l.map (Tr.txt k)).drop 1) ++ [41, 41]))) ≠ []
    simp
  · rw [txt_form k t (by rw [e]; decide), e]
    simp [form]
  · rw [txt_form k t (by rw [e]; decide), e]
    simp [form]
  · rw [txt_form k t (by rw [e]; decide), e]
    simp [form]
  · rw [txt_form k t (by rw [e]; decide), e]
    simp [form]
  · rw [txt_form k t (by rw [e]; decide), e]
    simp [form]
  · rw [txt_form k t (by rw [e]; decide), e]
    simp [form]
  · rw [txt_form k t (by rw [e]; decide), e]
    simp [form]

theorem texts_any (t : Tr) : good t → ∀ k, Bnd k t → (isE t → TxtE k t) ∧ (isS t → TxtS k t) ∧ (t.op = 32 → WithinOK k t) := by
  induction t using tree_ind with
  | h t ih =>
  intro hg k hB
  have hgp : ∀ y ∈ t.l, good y := fun y hy => hg.part hy
  have hE : ∀ y ∈ t.l, isE y → TxtE k y := fun y hy hi => (ih y (size_part hy) (hgp y hy) k (hB.part hy)).1 hi
  have hEn : ∀ y ∈ t.l, isE y → TxtE k y ∧ y.txt k ≠ [] := fun y hy hi => ⟨hE y hy hi, txt_ne (hgp y hy).self hi⟩
  have hWi : ∀ y ∈ t.l, y.op = 32 → WithinOK k y := fun y hy hi => (ih y (size_part hy) (hgp y hy) k (hB.part hy)).2.2 hi
  have hEE : ∀ y ∈ t.l, ∀ z ∈ y.l, isE z → TxtE k z := fun y hy z hz hi => (ih z (Nat.lt_trans (size_part hz) (size_part hy)) ((hgp y hy).part hz) k ((hB.part hy).part hz)).1 hi
  have hS : ∀ y ∈ t.l, y.op = 32 → ∀ z ∈ y.l, TxtS (k + 1) z := fun y hy ho z hz => (ih z (Nat.lt_trans (size_part hz) (size_part hy)) ((hgp y hy).part hz) (k + 1) ((hB.part hy).next hz)).2.1 (((inv_32 ho).1 (hgp y hy).self).2.2.2 z hz)
  have hW : t.op = 32 → WithinOK k t := fun e v w hA => by
    obtain ⟨u, rfl, hrow, -⟩ := (At_iff _ _ _ _).1 hA
    obtain ⟨A, c, rfl, -, -⟩ := row_at hrow
    exact twithin_any k t A c w e hB hA fun y hy => (ih y (size_part hy) (hgp y hy) (k + 1) (hB.next hy)).2.1 (((inv_32 e).1 hg.self).2.2.2 y hy)
  refine ⟨fun hi v w hA => ?_, fun hi v w hA => ?_, hW⟩
  · obtain ⟨u, rfl, hrow, -⟩ := (At_iff _ _ _ _).1 hA
    obtain ⟨A, c, rfl, -, -⟩ := row_at hrow
    rcases isE_all hi with e | e | e | e | e | e | e | e | e | e | e | e | e | e | e | e | e | e | e | e | e | e
    · exact ttx_1 k t A c w e hB hg.self hA hE hS
    · exact ttx_2 k t A c w e hB hg.self hA hE hS
    · exact ttx_3 k t A c w e hB hg.self hA hE hS
    · exact ttx_4 k t A c w e hB hg.self hA hE hS
    · exact ttx_5 k t A c w e hB hg.self hA hE hS
    · exact ttx_6 k t A c w e hB hg.self hA hE hS
    · exact ttx_7 k t A c w e hB hg.self hA hE hS
    · exact ttx_8 k t A c w e hB hg.self hA hE hS
    · exact ttx_9 k t A c w e hB hg.self hA hE hS
    · exact ttx_10 k t A c w e hB hg.self hA hE hS
    · exact ttx_11 k t A c w e hB hg hA hEE
    · exact ttx_13 k t A c w e hB hg.self hA hE hS
    · exact ttx_14 k t A c w e hB hg.self hA hE hS
    · exact ttx_15 k t A c w e hB hg.self hA hE hS
    · exact ttx_16 k t A c w e hB hg.self hA hE hS
    · exact ttx_17 k t A c w e hB hg.self hA hE hS
    · exact ttx_18 k t A c w e hB hg.self hA hE hS
    · exact ttx_19 k t A c w e hB hg.self hA hE hS
    · exact ttx_20 k t A c w e hB hg.self hA hE hS
    · exact ttx_21 k t A c w e hB hg.self hA hE hS
    · exact ttx_22 k t A c w e hB hg.self hA hE hS
    · exact ttx_23 k t A c w e hB hg.self hA hE hS
  · obtain ⟨u, rfl, hrow, -⟩ := (At_iff _ _ _ _).1 hA
    obtain ⟨A, c, rfl, -, -⟩ := row_at hrow
    rcases isS_all hi with e | e | e | e | e | e | e | e | e | e | e | e
    · exact tln_30 k t A c w e hB hg.self hA hEn hWi
    · exact tln_31 k t A c w e hB hg.self hA hEn hWi
    · exact tln_32 k t A c w e hB hA (hW e)
    · exact tln_33 k t A c w e hB hg.self hA hEn hWi
    · exact tln_34 k t A c w e hB hg.self hA hEn hWi
    · exact tln_35 k t A c w e hB hg.self hA hEn hWi
    · exact tln_36 k t A c w e hB hg.self hA hEn hWi
    · exact tln_37 k t A c w e hB hg.self hA hEn hWi
    · exact tln_38 k t A c w e hB hg.self hA hEn hWi
    · exact tln_39 k t A c w e hB hg.self hA hEn hWi
    · exact tln_40 k t A c w e hB hg.self hA hEn hWi
    · exact tln_41 k t A c w e hB hg.self hA hE hS
end Go.Proofs.YtiejpenffpjmeaaDoor

namespace Go.Proofs.YtiejpenffpjmeaaDoor
set_option linter.unusedSimpArgs false
set_option linter.unusedVariables false
open Go.RowKit Go.Proofs

set_option maxRecDepth 100000 in
set_option maxHeartbeats 4000000 in
theorem rshow_any (t : Tr) (v : Value) (w : World) (hA : At w w.heap.size t v) (hB : Bnd 0 t) :
    Calls Tryd.prog 17 #[v] w (Tells w (rightP t) (showP t)) := by
  obtain ⟨u, rfl, hrow, -⟩ := (At_iff _ _ _ _).1 hA
  obtain ⟨A, c, rfl, -, -⟩ := row_at hrow
  obtain ⟨W1, hr⟩ : ∃ W, TIn 0 t A c w W := ⟨_, t_in 0 t A c w hA⟩
  have hbx := box_in (Below.refl _ _) hr.box
  have HX := Lib.hid (fun w' (hb : Below W1.heap.size W1 w') => box_in hb hr.box)
  have HR := Lib.hid hr
  have hW := hr.world
  have hc := rright_any t _ W1 (At.keep t hA hr.low.size fun p hp => hr.low.cell hp) (by have := hB.2.1; omega)
  have hl : rightP t = true → ∀ w', Below W1.heap.size W1 w' → Calls Tryd.prog 32 #[.slice A t.l.length c, .string ⟨#[]⟩] w' fun e w'' => e = .returned (.string (bs (showP t))) ∧ Below w'.heap.size w' w'' := fun hrt w' hb => by
    obtain ⟨h32, hok, -⟩ := (right_ok t).1 hrt
    have h1 := size_eq t
    have h2 := strs_eq t
    have h3 := length_le_sizes t.l
    have h4 := hB.2
    have := tlines_any 0 t.l _ w' (hr.row.keep hb.size fun p hp => hb.cell hp) (fun y hy => (texts_any y (hok.part hy) 0 (hB.part hy)).2.1 (((inv_32 h32).1 hok.self).2.2.2 y hy)) (by omega) (by have := hB.lens t.l (fun y hy => hy) (by omega) (by omega); omega) (by omega)
    exact this
  unfold nodeV at hc ⊢
  unfold BoxAt at hbx
  obtain ⟨f0, f1, f2, f3, f4⟩ := hbx
  obtain ⟨r, er⟩ : ∃ r, rightP t = r := ⟨_, rfl⟩
  rw [er] at hc hl ⊢
  have HC := Lib.hid hc
  have HL := Lib.hid hl
  clear hA hrow hB hr hc hl er
  cases r with
  | false =>
    go_enter Tryd.func17, Tryd.ntmps17
    go_wp2_with (go_at_call 13; refine HC.out.mono ?_; rintro e w1 ⟨rfl, hb⟩; have HB1 := Lib.hid hb; clear hb)
    go_ret2
    exact ⟨by simp, HR.out.low.trans (HB1.out.mono HR.out.low.size)⟩
  | true =>
    have HL2 := Lib.hid (HL.out rfl)
    clear HL
    go_enter Tryd.func17, Tryd.ntmps17
    go_wp2_with fail
    go_at_call 13
    refine HC.out.mono ?_
    rintro e w1 ⟨rfl, hb⟩
    have HB1 := Lib.hid hb
    have HL1 := Lib.hid (HL2.out w1 hb)
    clear f0 f1 f2 f3 f4
    have hbx := HX.out w1 hb
    unfold BoxAt at hbx
    obtain ⟨f0, f1, f2, f3, f4⟩ := hbx
    clear hb
    go_wp2_with (go_at_call 32; refine HL1.out.mono ?_; rintro e w2 ⟨rfl, hb⟩; have HB2 := Lib.hid (HB1.out.trans (hb.mono HB1.out.size)); clear hb)
    go_ret2
    exact ⟨by simp, HR.out.low.trans (HB2.out.mono HR.out.low.size)⟩

set_option maxRecDepth 100000 in
set_option maxHeartbeats 4000000 in
theorem rshowE_any (t : Tr) (v : Value) (w : World) (hA : At w w.heap.size t v) (hB : Bnd 0 t) :
    Calls Tryd.prog 19 #[v] w (Tells w (rightE t) (showE t)) := by
  obtain ⟨u, rfl, hrow, -⟩ := (At_iff _ _ _ _).1 hA
  obtain ⟨A, c, rfl, -, -⟩ := row_at hrow
  obtain ⟨W1, hr⟩ : ∃ W, TIn 0 t A c w W := ⟨_, t_in 0 t A c w hA⟩
  have hbx := box_in (Below.refl _ _) hr.box
  have HX := Lib.hid (fun w' (hb : Below W1.heap.size W1 w') => box_in hb hr.box)
  have HR := Lib.hid hr
  have hW := hr.world
  have hc := rrightE_any t _ W1 (At.keep t hA hr.low.size fun p hp => hr.low.cell hp) (by have := hB.2.1; omega)
  have hl : rightE t = true → ∀ w', Below W1.heap.size W1 w' → Calls Tryd.prog 34 #[nodeV t (.slice A t.l.length c), .string ⟨#[]⟩] w' fun e w'' => e = .returned (.string (bs (showE t))) ∧ Below w'.heap.size w' w'' := fun hrt w' hb => by
    obtain ⟨hi, hok, -⟩ := (rightE_ok t).1 hrt
    have hb' := hr.low.trans (hb.mono hr.low.size)
    exact (texts_any t hok 0 hB).1 hi _ w' (At.keep t hA hb'.size fun p hp => hb'.cell hp)
  unfold nodeV at hc hl ⊢
  unfold BoxAt at hbx
  obtain ⟨f0, f1, f2, f3, f4⟩ := hbx
  obtain ⟨r, er⟩ : ∃ r, rightE t = r := ⟨_, rfl⟩
  rw [er] at hc hl ⊢
  have HC := Lib.hid hc
  have HL := Lib.hid hl
  clear hA hrow hB hr hc hl er
  cases r with
  | false =>
    go_enter Tryd.func19, Tryd.ntmps19
    go_wp2_with (go_at_call 15; refine HC.out.mono ?_; rintro e w1 ⟨rfl, hb⟩; have HB1 := Lib.hid hb; clear hb)
    go_ret2
    exact ⟨by simp, HR.out.low.trans (HB1.out.mono HR.out.low.size)⟩
  | true =>
    have HL2 := Lib.hid (HL.out rfl)
    clear HL
    go_enter Tryd.func19, Tryd.ntmps19
    go_wp2_with fail
    go_at_call 15
    refine HC.out.mono ?_
    rintro e w1 ⟨rfl, hb⟩
    have HB1 := Lib.hid hb
    have HL1 := Lib.hid (HL2.out w1 hb)
    clear f0 f1 f2 f3 f4
    have hbx := HX.out w1 hb
    unfold BoxAt at hbx
    obtain ⟨f0, f1, f2, f3, f4⟩ := hbx
    clear hb
    go_wp2_with (go_at_call 34; refine HL1.out.mono ?_; rintro e w2 ⟨rfl, hb⟩; have HB2 := Lib.hid (HB1.out.trans (hb.mono HB1.out.size)); clear hb)
    go_ret2
    exact ⟨by simp, HR.out.low.trans (HB2.out.mono HR.out.low.size)⟩

set_option maxRecDepth 100000 in
set_option maxHeartbeats 8000000 in
theorem shows_law (a : Tr) (va : Value) (w : World) (hA : At w w.heap.size a va) (hst : a.strs ≤ 10000000) (he : Env w) (h1 : 1 ≤ w.heap.size) :
    Calls Tryd.prog 4 #[va] w fun e w' => e = .returned (.bool true) ∧ Below w.heap.size w w' := by
  have hfine := at_fine _ _ _ _ hA
  obtain ⟨ua, rfl, -, -⟩ := (At_iff _ _ _ _).1 hA
  obtain ⟨W0, eW⟩ : ∃ W, w.alloc (.cells #[.int .i64 a.op, .string (bs a.s), .int .i64 a.n, ua, .int .i64 a.line] 24) = W := ⟨_, rfl⟩
  have hb0 : Below w.heap.size w W0 := by rw [← eW]; exact (Below.refl _ w).alloc (Nat.le_refl _) _
  have hz0 : W0.heap.size = w.heap.size + 1 := by rw [← eW]; simp
  have hx : W0.heap[w.heap.size]? = some (.cells #[.int .i64 a.op, .string (bs a.s), .int .i64 a.n, ua, .int .i64 a.line] 24 (0, 0)) := by rw [← eW]; exact heap_alloc_new w _
  have hAt : ∀ w', Below W0.heap.size W0 w' → At w' w'.heap.size a (nodeV a ua) := fun w' hb =>
    have hb' := hb0.trans (hb.mono (by omega))
    At.keep a hA hb'.size fun p hp => hb'.cell hp
  have hs := shown_any W0 (he.below hb0) (by omega)
  have h11 := fun (w' : World) (hb : Below W0.heap.size W0 w') => small_any a _ w' (hAt w' hb)
  have hbx := fun (w' : World) (hb : Below W0.heap.size W0 w') => box_in hb hx
  by_cases hsa : a.size ≤ 1500
  · have hB : Bnd 0 a := ⟨hfine, by omega, hst⟩
    have h16 := fun (w' : World) (hb : Below W0.heap.size W0 w') => show_any a _ w' (hAt w' hb) (by omega) (fun _ => showP_len a hfine hsa hst) ((he.below hb0).below hb)
    have h17 := fun (w' : World) (hb : Below W0.heap.size W0 w') => rshow_any a _ w' (hAt w' hb) hB
    have h18 := fun (w' : World) (hb : Below W0.heap.size W0 w') => showE_any a _ w' (hAt w' hb) (by omega) (fun _ => showE_len a hfine hsa hst) ((he.below hb0).below hb)
    have h19 := fun (w' : World) (hb : Below W0.heap.size W0 w') => rshowE_any a _ w' (hAt w' hb) hB
    unfold nodeV at h11 h16 h17 h18 h19 ⊢
    unfold BoxAt at hbx
    unfold Tells at h16 h17 h18 h19
    obtain ⟨S, eS⟩ : ∃ S, (if rightP a = true then bs (showP a) else ⟨#[]⟩) = S := ⟨_, rfl⟩
    obtain ⟨X, eX⟩ : ∃ X, (if rightE a = true then bs (showE a) else ⟨#[]⟩) = X := ⟨_, rfl⟩
    obtain ⟨r, er⟩ : ∃ r : Int, (if rightP a = true then 0 else 30) = r := ⟨_, rfl⟩
    obtain ⟨q, eq⟩ : ∃ q : Int, (if rightE a = true then 0 else 30) = q := ⟨_, rfl⟩
    simp only [eS, er] at h16 h17
    simp only [eX, eq] at h18 h19
    rw [if_pos hsa] at h11
    have HS := Lib.hid hs
    have HW := Lib.hid (And.intro eW (And.intro hb0 hz0))
    have H11 := Lib.hid h11
    have H16 := Lib.hid h16
    have H17 := Lib.hid h17
    have H18 := Lib.hid h18
    have H19 := Lib.hid h19
    have HBx := Lib.hid hbx
    clear hA he h1 hb0 hz0 hx hAt hs h11 h16 h17 h18 h19 hbx er eq hsa eS eX hB hst hfine
    go_enter Tryd.func4, Tryd.ntmps4
    go_wp2_with fail
    go_at_call 10
    refine HS.out.mono ?_
    rintro e w1 ⟨rfl, hb⟩
    have HB1 := Lib.hid hb
    clear hb eW
    obtain ⟨f0, f1, f2, f3, f4⟩ := HBx.out w1 HB1.out
    have HC1 := Lib.hid (H11.out w1 HB1.out)
    go_wp2_with fail
    go_at_call 11
    refine HC1.out.mono ?_
    rintro e w2 ⟨rfl, hb⟩
    have HB2 := Lib.hid (HB1.out.trans (hb.mono HB1.out.size))
    clear hb f0 f1 f2 f3 f4
    obtain ⟨f0, f1, f2, f3, f4⟩ := HBx.out w2 HB2.out
    have HC2 := Lib.hid (H16.out w2 HB2.out)
    go_wp2_with fail
    go_at_call 16
    refine HC2.out.mono ?_
    rintro e w3 ⟨rfl, hb⟩
    have HB3 := Lib.hid (HB2.out.trans (hb.mono HB2.out.size))
    clear hb f0 f1 f2 f3 f4
    obtain ⟨f0, f1, f2, f3, f4⟩ := HBx.out w3 HB3.out
    have HC3 := Lib.hid (H17.out w3 HB3.out)
    go_wp2_with fail
    go_at_call 17
    refine HC3.out.mono ?_
    rintro e w4 ⟨rfl, hb⟩
    have HB4 := Lib.hid (HB3.out.trans (hb.mono HB3.out.size))
    clear hb f0 f1 f2 f3 f4
    obtain ⟨f0, f1, f2, f3, f4⟩ := HBx.out w4 HB4.out
    have HC4 := Lib.hid (H18.out w4 HB4.out)
    go_wp2_with fail
    go_at_call 18
    refine HC4.out.mono ?_
    rintro e w5 ⟨rfl, hb⟩
    have HB5 := Lib.hid (HB4.out.trans (hb.mono HB4.out.size))
    clear hb f0 f1 f2 f3 f4
    obtain ⟨f0, f1, f2, f3, f4⟩ := HBx.out w5 HB5.out
    have HC5 := Lib.hid (H19.out w5 HB5.out)
    go_wp2_with fail
    go_at_call 19
    refine HC5.out.mono ?_
    rintro e w6 ⟨rfl, hb⟩
    have HB6 := Lib.hid (HB5.out.trans (hb.mono HB5.out.size))
    clear hb f0 f1 f2 f3 f4
    go_wp2
    go_ret
    exact ⟨by simp, HW.out.2.1.trans (HB6.out.mono (by have := HW.out.2.2; omega))⟩
  · unfold nodeV at h11 ⊢
    unfold BoxAt at hbx
    rw [if_neg hsa] at h11
    have HS := Lib.hid hs
    have HW := Lib.hid (And.intro eW (And.intro hb0 hz0))
    have H11 := Lib.hid h11
    have HBx := Lib.hid hbx
    clear hA he h1 hb0 hz0 hx hAt hs h11 hbx hsa hst hfine
    go_enter Tryd.func4, Tryd.ntmps4
    go_wp2_with fail
    go_at_call 10
    refine HS.out.mono ?_
    rintro e w1 ⟨rfl, hb1⟩
    have HB1 := Lib.hid hb1
    obtain ⟨f0, f1, f2, f3, f4⟩ := HBx.out w1 hb1
    have HC1 := Lib.hid (H11.out w1 hb1)
    clear hb1 eW
    go_wp2_with fail
    go_at_call 11
    refine HC1.out.mono ?_
    rintro e w2 ⟨rfl, hb2⟩
    have HB2 := Lib.hid (HB1.out.trans (hb2.mono HB1.out.size))
    clear hb2 f0 f1 f2 f3 f4
    go_wp2
    go_ret
    exact ⟨rfl, HW.out.2.1.trans (HB2.out.mono (by have := HW.out.2.2; omega))⟩
end Go.Proofs.YtiejpenffpjmeaaDoor
