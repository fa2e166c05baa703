/- gumshoeref03.more. gumshoeref03.more: calls, constructions. -/
import Derived.Test.YtiejpenffpjmeaaDoorTextFun
import Derived.Test.YtiejpenffpjmeaaDoorRefObj
import Derived.Test.YtiejpenffpjmeaaDoorParts
namespace Go.Proofs.YtiejpenffpjmeaaDoor
set_option linter.unusedSimpArgs false
set_option linter.unusedVariables false
open Go.RowKit Go.Proofs

set_option maxRecDepth 100000 in
set_option maxHeartbeats 4000000 in
theorem tmo_13 : MoreOK 13 := by
  intro k t A c w e hB hg hA hE
  obtain ⟨-, -, a, hl0, ea⟩ := (inv_13 e).1 hg
  obtain ⟨W1, hr⟩ : ∃ W, TIn k t A c w W := ⟨_, t_in k t A c w hA⟩
  have hk : t.l.length = 1 := by rw [hl0]; rfl
  have hbx := box_in (Below.refl _ _) hr.box
  have HX := Lib.hid (fun w' (hb : Below W1.heap.size W1 w') => box_in hb hr.box)
  have HR := Lib.hid hr
  have hW := hr.world
  obtain ⟨A0, off, rfl, hlc, hEl⟩ := row_elem hr.row (by omega)
  have m0 : a ∈ t.l := by rw [hl0]; simp
  obtain ⟨Y0, hY0, hYz0⟩ := txt_part (hB.part m0)
  have hc0 := fun w' (hb : Below W1.heap.size W1 w') => hEl w' hb 0 a (by rw [hl0]; rfl)
  have hT0 := hE a m0 ea
  have HC0 := Lib.hid (fun w' v (hA : At w' w'.heap.size a v) => (by have := hT0 v w' hA; unfold Gives at this; rw [hY0] at this; exact this : Calls Tryd.prog 34 #[v, .string (bs (indentB k))] w' fun e w'' => e = .returned (.string Y0) ∧ Below w'.heap.size w' w''))
  have hsz := hB.str
  have HLs := Lib.hid (And.intro hc0 trivial)
  have HOp := Lib.hid (And.intro e hk)
  unfold BoxAt at hbx
  rw [e, hk] at hbx
  rw [e, hk] at hW
  rw [hk] at hlc
  obtain ⟨f0, f1, f2, f3, f4⟩ := hbx
  by_cases ho : a.op = 2
  · have d : (a.op == 2) = true := by rw [ho]; rfl
    have HT := Lib.hid (show bs (t.txt k) = bs [40] ++ Y0 ++ bs [41, 46] ++ bs t.s by
      rw [txt_form k t (by rw [e]; decide), e, hl0, ← hY0]
      show bs (if a.op = 2 then [40] ++ (a.txt k ++ ([41, 46] ++ t.s)) else a.txt k ++ ([46] ++ t.s)) = _
      rw [if_pos ho]
      simp only [bs_two, ByteArray.append_assoc])
    obtain ⟨Av0, cv0, hAt, x0, x1, x2, x3, x4⟩ := HLs.out.1 W1 (Below.refl _ _)
    have z0 : W1.cell? ⟨A0, off, none⟩ = some (.int .i64 a.op) := x0
    have z1 : W1.cell? ⟨A0, off + 1, none⟩ = some (.string (bs a.s)) := x1
    have z2 : W1.cell? ⟨A0, off + 2, none⟩ = some (.int .i64 a.n) := x2
    have z3 : W1.cell? ⟨A0, off + 3, none⟩ = some (.slice Av0 a.l.length cv0) := x3
    have z4 : W1.cell? ⟨A0, off + 4, none⟩ = some (.int .i64 a.line) := x4
    have y1 := x1
    have y2 := x2
    have y3 := x3
    have y4 := x4
    clear x0 x1 x2 x3 x4
    have hq := HC0.out W1 _ hAt
    unfold nodeV at hq
    have HQ0 := Lib.hid hq
    clear hq hAt
    unfold nodeV
    rw [e, hk]
    clear hA hE hg hr hB hk hl0 hEl e hT0 hY0 hc0 ea m0 ho
    go_enter Tryd.func59, Tryd.ntmps59
    go_wp2_with fail
    go_at_call 34
    refine HQ0.out.mono ?_
    rintro e w1 ⟨rfl, hb⟩
    have HB1 := Lib.hid hb
    clear hb f0 f1 f2 f3 f4 z0 z1 z2 z3 z4 y1 y2 y3 y4
    have hbx := HX.out w1 HB1.out
    unfold BoxAt at hbx
    rw [HOp.out.1, HOp.out.2] at hbx
    obtain ⟨f0, f1, f2, f3, f4⟩ := hbx
    obtain ⟨Av0, cv0, hAt, x0, x1, x2, x3, x4⟩ := HLs.out.1 w1 HB1.out
    have z0 : w1.cell? ⟨A0, off, none⟩ = some (.int .i64 a.op) := x0
    have z1 : w1.cell? ⟨A0, off + 1, none⟩ = some (.string (bs a.s)) := x1
    have z2 : w1.cell? ⟨A0, off + 2, none⟩ = some (.int .i64 a.n) := x2
    have z3 : w1.cell? ⟨A0, off + 3, none⟩ = some (.slice Av0 a.l.length cv0) := x3
    have z4 : w1.cell? ⟨A0, off + 4, none⟩ = some (.int .i64 a.line) := x4
    have y1 := x1
    have y2 := x2
    have y3 := x3
    have y4 := x4
    clear x0 x1 x2 x3 x4
    clear hAt
    go_wp2
    go_ret
    exact ⟨by rw [HT.out]; rfl, HR.out.low.trans (HB1.out.mono HR.out.low.size)⟩
  · have d : (a.op == 2) = false := by simpa using ho
    have HT := Lib.hid (show bs (t.txt k) = Y0 ++ bs [46] ++ bs t.s by
      rw [txt_form k t (by rw [e]; decide), e, hl0, ← hY0]
      show bs (if a.op = 2 then [40] ++ (a.txt k ++ ([41, 46] ++ t.s)) else a.txt k ++ ([46] ++ t.s)) = _
      rw [if_neg ho]
      simp only [bs_two, ByteArray.append_assoc])
    obtain ⟨Av0, cv0, hAt, x0, x1, x2, x3, x4⟩ := HLs.out.1 W1 (Below.refl _ _)
    have z0 : W1.cell? ⟨A0, off, none⟩ = some (.int .i64 a.op) := x0
    have z1 : W1.cell? ⟨A0, off + 1, none⟩ = some (.string (bs a.s)) := x1
    have z2 : W1.cell? ⟨A0, off + 2, none⟩ = some (.int .i64 a.n) := x2
    have z3 : W1.cell? ⟨A0, off + 3, none⟩ = some (.slice Av0 a.l.length cv0) := x3
    have z4 : W1.cell? ⟨A0, off + 4, none⟩ = some (.int .i64 a.line) := x4
    have y1 := x1
    have y2 := x2
    have y3 := x3
    have y4 := x4
    clear x0 x1 x2 x3 x4
    have hq := HC0.out W1 _ hAt
    unfold nodeV at hq
    have HQ0 := Lib.hid hq
    clear hq hAt
    unfold nodeV
    rw [e, hk]
    clear hA hE hg hr hB hk hl0 hEl e hT0 hY0 hc0 ea m0 ho
    go_enter Tryd.func59, Tryd.ntmps59
    go_wp2_with fail
    go_at_call 34
    refine HQ0.out.mono ?_
    rintro e w1 ⟨rfl, hb⟩
    have HB1 := Lib.hid hb
    clear hb f0 f1 f2 f3 f4 z0 z1 z2 z3 z4 y1 y2 y3 y4
    have hbx := HX.out w1 HB1.out
    unfold BoxAt at hbx
    rw [HOp.out.1, HOp.out.2] at hbx
    obtain ⟨f0, f1, f2, f3, f4⟩ := hbx
    obtain ⟨Av0, cv0, hAt, x0, x1, x2, x3, x4⟩ := HLs.out.1 w1 HB1.out
    have z0 : w1.cell? ⟨A0, off, none⟩ = some (.int .i64 a.op) := x0
    have z1 : w1.cell? ⟨A0, off + 1, none⟩ = some (.string (bs a.s)) := x1
    have z2 : w1.cell? ⟨A0, off + 2, none⟩ = some (.int .i64 a.n) := x2
    have z3 : w1.cell? ⟨A0, off + 3, none⟩ = some (.slice Av0 a.l.length cv0) := x3
    have z4 : w1.cell? ⟨A0, off + 4, none⟩ = some (.int .i64 a.line) := x4
    have y1 := x1
    have y2 := x2
    have y3 := x3
    have y4 := x4
    clear x0 x1 x2 x3 x4
    clear hAt
    go_wp2
    go_ret
    exact ⟨by rw [HT.out]; rfl, HR.out.low.trans (HB1.out.mono HR.out.low.size)⟩

set_option maxRecDepth 100000 in
set_option maxHeartbeats 4000000 in
theorem tmo_14 : MoreOK 14 := by
  intro k t A c w e hB hg hA hE
  obtain ⟨-, -, a, b, hl0, ea, eb⟩ := (inv_14 e).1 hg
  obtain ⟨W1, hr⟩ : ∃ W, TIn k t A c w W := ⟨_, t_in k t A c w hA⟩
  have hk : t.l.length = 2 := by rw [hl0]; rfl
  have hbx := box_in (Below.refl _ _) hr.box
  have HX := Lib.hid (fun w' (hb : Below W1.heap.size W1 w') => box_in hb hr.box)
  have HR := Lib.hid hr
  have hW := hr.world
  obtain ⟨A0, off, rfl, hlc, hEl⟩ := row_elem hr.row (by omega)
  have m0 : a ∈ t.l := by rw [hl0]; simp
  obtain ⟨Y0, hY0, hYz0⟩ := txt_part (hB.part m0)
  have hc0 := fun w' (hb : Below W1.heap.size W1 w') => hEl w' hb 0 a (by rw [hl0]; rfl)
  have hT0 := hE a m0 ea
  have HC0 := Lib.hid (fun w' v (hA : At w' w'.heap.size a v) => (by have := hT0 v w' hA; unfold Gives at this; rw [hY0] at this; exact this : Calls Tryd.prog 34 #[v, .string (bs (indentB k))] w' fun e w'' => e = .returned (.string Y0) ∧ Below w'.heap.size w' w''))
  have m1 : b ∈ t.l := by rw [hl0]; simp
  obtain ⟨Y1, hY1, hYz1⟩ := txt_part (hB.part m1)
  have hc1 := fun w' (hb : Below W1.heap.size W1 w') => hEl w' hb 1 b (by rw [hl0]; rfl)
  have hT1 := hE b m1 eb
  have HC1 := Lib.hid (fun w' v (hA : At w' w'.heap.size b v) => (by have := hT1 v w' hA; unfold Gives at this; rw [hY1] at this; exact this : Calls Tryd.prog 34 #[v, .string (bs (indentB k))] w' fun e w'' => e = .returned (.string Y1) ∧ Below w'.heap.size w' w''))
  have hsz := hB.str
  have HLs := Lib.hid (And.intro hc0 hc1)
  have HOp := Lib.hid (And.intro e hk)
  unfold BoxAt at hbx
  rw [e, hk] at hbx
  rw [e, hk] at hW
  rw [hk] at hlc
  obtain ⟨f0, f1, f2, f3, f4⟩ := hbx
  have HT := Lib.hid (show bs (t.txt k) = Y0 ++ bs [91] ++ Y1 ++ bs [93] by
    rw [txt_form k t (by rw [e]; decide), e, hl0, ← hY0, ← hY1]
    show bs (a.txt k ++ ([91] ++ (b.txt k ++ ([93])))) = _
    simp only [bs_two, ByteArray.append_assoc])
  obtain ⟨Av0, cv0, hAt, x0, x1, x2, x3, x4⟩ := HLs.out.1 W1 (Below.refl _ _)
  have z0 : W1.cell? ⟨A0, off, none⟩ = some (.int .i64 a.op) := x0
  have z1 : W1.cell? ⟨A0, off + 1, none⟩ = some (.string (bs a.s)) := x1
  have z2 : W1.cell? ⟨A0, off + 2, none⟩ = some (.int .i64 a.n) := x2
  have z3 : W1.cell? ⟨A0, off + 3, none⟩ = some (.slice Av0 a.l.length cv0) := x3
  have z4 : W1.cell? ⟨A0, off + 4, none⟩ = some (.int .i64 a.line) := x4
  have y1 := x1
  have y2 := x2
  have y3 := x3
  have y4 := x4
  clear x0 x1 x2 x3 x4
  have hq := HC0.out W1 _ hAt
  unfold nodeV at hq
  have HQ0 := Lib.hid hq
  clear hq hAt
  unfold nodeV
  rw [e, hk]
  clear hA hE hg hr hB hk hl0 hEl e hT0 hY0 hc0 ea m0 hT1 hY1 hc1 eb m1
  go_enter Tryd.func59, Tryd.ntmps59
  go_wp2_with fail
  go_at_call 34
  refine HQ0.out.mono ?_
  rintro e w1 ⟨rfl, hb⟩
  have HB1 := Lib.hid hb
  clear hb f0 f1 f2 f3 f4 z0 z1 z2 z3 z4 y1 y2 y3 y4
  have hbx := HX.out w1 HB1.out
  unfold BoxAt at hbx
  rw [HOp.out.1, HOp.out.2] at hbx
  obtain ⟨f0, f1, f2, f3, f4⟩ := hbx
  obtain ⟨Av1, cv1, hAt, x0, x1, x2, x3, x4⟩ := HLs.out.2 w1 HB1.out
  have z0 : w1.cell? ⟨A0, off + 5, none⟩ = some (.int .i64 b.op) := x0
  have z1 : w1.cell? ⟨A0, off + 6, none⟩ = some (.string (bs b.s)) := x1
  have z2 : w1.cell? ⟨A0, off + 7, none⟩ = some (.int .i64 b.n) := x2
  have z3 : w1.cell? ⟨A0, off + 8, none⟩ = some (.slice Av1 b.l.length cv1) := x3
  have z4 : w1.cell? ⟨A0, off + 9, none⟩ = some (.int .i64 b.line) := x4
  have y1 : w1.cell? ⟨A0, off + 5 + 1, none⟩ = some (.string (bs b.s)) := x1
  have y2 : w1.cell? ⟨A0, off + 5 + 2, none⟩ = some (.int .i64 b.n) := x2
  have y3 : w1.cell? ⟨A0, off + 5 + 3, none⟩ = some (.slice Av1 b.l.length cv1) := x3
  have y4 : w1.cell? ⟨A0, off + 5 + 4, none⟩ = some (.int .i64 b.line) := x4
  clear x0 x1 x2 x3 x4
  have hq := HC1.out w1 _ hAt
  unfold nodeV at hq
  have HQ1 := Lib.hid hq
  clear hq hAt
  go_wp2_with fail
  go_at_call 34
  refine HQ1.out.mono ?_
  rintro e w2 ⟨rfl, hb⟩
  have HB2 := Lib.hid (HB1.out.trans (hb.mono HB1.out.size))
  clear hb f0 f1 f2 f3 f4 z0 z1 z2 z3 z4 y1 y2 y3 y4
  have hbx := HX.out w2 HB2.out
  unfold BoxAt at hbx
  rw [HOp.out.1, HOp.out.2] at hbx
  obtain ⟨f0, f1, f2, f3, f4⟩ := hbx
  go_wp2
  go_ret
  exact ⟨by rw [HT.out]; rfl, HR.out.low.trans (HB2.out.mono HR.out.low.size)⟩

set_option maxRecDepth 100000 in
set_option maxHeartbeats 4000000 in
theorem tmo_17 : MoreOK 17 := by
  intro k t A c w e hB hg hA hE
  obtain ⟨-, -, a, b, hl0, ea, eb⟩ := (inv_17 e).1 hg
  have ea := isE_target ea
  obtain ⟨W1, hr⟩ : ∃ W, TIn k t A c w W := ⟨_, t_in k t A c w hA⟩
  have hk : t.l.length = 2 := by rw [hl0]; rfl
  have hbx := box_in (Below.refl _ _) hr.box
  have HX := Lib.hid (fun w' (hb : Below W1.heap.size W1 w') => box_in hb hr.box)
  have HR := Lib.hid hr
  have hW := hr.world
  obtain ⟨A0, off, rfl, hlc, hEl⟩ := row_elem hr.row (by omega)
  have m0 : a ∈ t.l := by rw [hl0]; simp
  obtain ⟨Y0, hY0, hYz0⟩ := txt_part (hB.part m0)
  have hc0 := fun w' (hb : Below W1.heap.size W1 w') => hEl w' hb 0 a (by rw [hl0]; rfl)
  have hT0 := hE a m0 ea
  have HC0 := Lib.hid (fun w' v (hA : At w' w'.heap.size a v) => (by have := hT0 v w' hA; unfold Gives at this; rw [hY0] at this; exact this : Calls Tryd.prog 34 #[v, .string (bs (indentB k))] w' fun e w'' => e = .returned (.string Y0) ∧ Below w'.heap.size w' w''))
  have m1 : b ∈ t.l := by rw [hl0]; simp
  obtain ⟨Y1, hY1, hYz1⟩ := txt_part (hB.part m1)
  have hc1 := fun w' (hb : Below W1.heap.size W1 w') => hEl w' hb 1 b (by rw [hl0]; rfl)
  have hT1 := hE b m1 eb
  have HC1 := Lib.hid (fun w' v (hA : At w' w'.heap.size b v) => (by have := hT1 v w' hA; unfold Gives at this; rw [hY1] at this; exact this : Calls Tryd.prog 34 #[v, .string (bs (indentB k))] w' fun e w'' => e = .returned (.string Y1) ∧ Below w'.heap.size w' w''))
  have hsz := hB.str
  have HLs := Lib.hid (And.intro hc0 hc1)
  have HOp := Lib.hid (And.intro e hk)
  unfold BoxAt at hbx
  rw [e, hk] at hbx
  rw [e, hk] at hW
  rw [hk] at hlc
  obtain ⟨f0, f1, f2, f3, f4⟩ := hbx
  have HT := Lib.hid (show bs (t.txt k) = bs [40] ++ Y0 ++ bs [32, 61, 32] ++ Y1 ++ bs [41] by
    rw [txt_form k t (by rw [e]; decide), e, hl0, ← hY0, ← hY1]
    show bs ([40] ++ (a.txt k ++ ([32, 61, 32] ++ (b.txt k ++ ([41]))))) = _
    simp only [bs_two, ByteArray.append_assoc])
  obtain ⟨Av0, cv0, hAt, x0, x1, x2, x3, x4⟩ := HLs.out.1 W1 (Below.refl _ _)
  have z0 : W1.cell? ⟨A0, off, none⟩ = some (.int .i64 a.op) := x0
  have z1 : W1.cell? ⟨A0, off + 1, none⟩ = some (.string (bs a.s)) := x1
  have z2 : W1.cell? ⟨A0, off + 2, none⟩ = some (.int .i64 a.n) := x2
  have z3 : W1.cell? ⟨A0, off + 3, none⟩ = some (.slice Av0 a.l.length cv0) := x3
  have z4 : W1.cell? ⟨A0, off + 4, none⟩ = some (.int .i64 a.line) := x4
  have y1 := x1
  have y2 := x2
  have y3 := x3
  have y4 := x4
  clear x0 x1 x2 x3 x4
  have hq := HC0.out W1 _ hAt
  unfold nodeV at hq
  have HQ0 := Lib.hid hq
  clear hq hAt
  unfold nodeV
  rw [e, hk]
  clear hA hE hg hr hB hk hl0 hEl e hT0 hY0 hc0 ea m0 hT1 hY1 hc1 eb m1
  go_enter Tryd.func59, Tryd.ntmps59
  go_wp2_with fail
  go_at_call 34
  refine HQ0.out.mono ?_
  rintro e w1 ⟨rfl, hb⟩
  have HB1 := Lib.hid hb
  clear hb f0 f1 f2 f3 f4 z0 z1 z2 z3 z4 y1 y2 y3 y4
  have hbx := HX.out w1 HB1.out
  unfold BoxAt at hbx
  rw [HOp.out.1, HOp.out.2] at hbx
  obtain ⟨f0, f1, f2, f3, f4⟩ := hbx
  obtain ⟨Av1, cv1, hAt, x0, x1, x2, x3, x4⟩ := HLs.out.2 w1 HB1.out
  have z0 : w1.cell? ⟨A0, off + 5, none⟩ = some (.int .i64 b.op) := x0
  have z1 : w1.cell? ⟨A0, off + 6, none⟩ = some (.string (bs b.s)) := x1
  have z2 : w1.cell? ⟨A0, off + 7, none⟩ = some (.int .i64 b.n) := x2
  have z3 : w1.cell? ⟨A0, off + 8, none⟩ = some (.slice Av1 b.l.length cv1) := x3
  have z4 : w1.cell? ⟨A0, off + 9, none⟩ = some (.int .i64 b.line) := x4
  have y1 : w1.cell? ⟨A0, off + 5 + 1, none⟩ = some (.string (bs b.s)) := x1
  have y2 : w1.cell? ⟨A0, off + 5 + 2, none⟩ = some (.int .i64 b.n) := x2
  have y3 : w1.cell? ⟨A0, off + 5 + 3, none⟩ = some (.slice Av1 b.l.length cv1) := x3
  have y4 : w1.cell? ⟨A0, off + 5 + 4, none⟩ = some (.int .i64 b.line) := x4
  clear x0 x1 x2 x3 x4
  have hq := HC1.out w1 _ hAt
  unfold nodeV at hq
  have HQ1 := Lib.hid hq
  clear hq hAt
  go_wp2_with fail
  go_at_call 34
  refine HQ1.out.mono ?_
  rintro e w2 ⟨rfl, hb⟩
  have HB2 := Lib.hid (HB1.out.trans (hb.mono HB1.out.size))
  clear hb f0 f1 f2 f3 f4 z0 z1 z2 z3 z4 y1 y2 y3 y4
  have hbx := HX.out w2 HB2.out
  unfold BoxAt at hbx
  rw [HOp.out.1, HOp.out.2] at hbx
  obtain ⟨f0, f1, f2, f3, f4⟩ := hbx
  go_wp2
  go_ret
  exact ⟨by rw [HT.out]; rfl, HR.out.low.trans (HB2.out.mono HR.out.low.size)⟩

set_option maxRecDepth 100000 in
set_option maxHeartbeats 4000000 in
theorem tmo_18 : MoreOK 18 := by
  intro k t A c w e hB hg hA hE
  obtain ⟨-, -, a, b, hl0, ea, eb⟩ := (inv_18 e).1 hg
  obtain ⟨W1, hr⟩ : ∃ W, TIn k t A c w W := ⟨_, t_in k t A c w hA⟩
  have hk : t.l.length = 2 := by rw [hl0]; rfl
  have hbx := box_in (Below.refl _ _) hr.box
  have HX := Lib.hid (fun w' (hb : Below W1.heap.size W1 w') => box_in hb hr.box)
  have HR := Lib.hid hr
  have hW := hr.world
  obtain ⟨A0, off, rfl, hlc, hEl⟩ := row_elem hr.row (by omega)
  have m0 : a ∈ t.l := by rw [hl0]; simp
  obtain ⟨Y0, hY0, hYz0⟩ := txt_part (hB.part m0)
  have hc0 := fun w' (hb : Below W1.heap.size W1 w') => hEl w' hb 0 a (by rw [hl0]; rfl)
  have hT0 := hE a m0 ea
  have HC0 := Lib.hid (fun w' v (hA : At w' w'.heap.size a v) => (by have := hT0 v w' hA; unfold Gives at this; rw [hY0] at this; exact this : Calls Tryd.prog 34 #[v, .string (bs (indentB k))] w' fun e w'' => e = .returned (.string Y0) ∧ Below w'.heap.size w' w''))
  have m1 : b ∈ t.l := by rw [hl0]; simp
  obtain ⟨Y1, hY1, hYz1⟩ := txt_part (hB.part m1)
  have hc1 := fun w' (hb : Below W1.heap.size W1 w') => hEl w' hb 1 b (by rw [hl0]; rfl)
  have hT1 := hE b m1 eb
  have HC1 := Lib.hid (fun w' v (hA : At w' w'.heap.size b v) => (by have := hT1 v w' hA; unfold Gives at this; rw [hY1] at this; exact this : Calls Tryd.prog 34 #[v, .string (bs (indentB k))] w' fun e w'' => e = .returned (.string Y1) ∧ Below w'.heap.size w' w''))
  have hsz := hB.str
  have HLs := Lib.hid (And.intro hc0 hc1)
  have HOp := Lib.hid (And.intro e hk)
  unfold BoxAt at hbx
  rw [e, hk] at hbx
  rw [e, hk] at hW
  rw [hk] at hlc
  obtain ⟨f0, f1, f2, f3, f4⟩ := hbx
  have HT := Lib.hid (show bs (t.txt k) = bs [40] ++ Y0 ++ bs [32] ++ bs t.s ++ bs [32] ++ Y1 ++ bs [41] by
    rw [txt_form k t (by rw [e]; decide), e, hl0, ← hY0, ← hY1]
    show bs ([40] ++ (a.txt k ++ (([32] ++ (t.s ++ [32])) ++ (b.txt k ++ [41])))) = _
    simp only [bs_two, ByteArray.append_assoc])
  obtain ⟨Av0, cv0, hAt, x0, x1, x2, x3, x4⟩ := HLs.out.1 W1 (Below.refl _ _)
  have z0 : W1.cell? ⟨A0, off, none⟩ = some (.int .i64 a.op) := x0
  have z1 : W1.cell? ⟨A0, off + 1, none⟩ = some (.string (bs a.s)) := x1
  have z2 : W1.cell? ⟨A0, off + 2, none⟩ = some (.int .i64 a.n) := x2
  have z3 : W1.cell? ⟨A0, off + 3, none⟩ = some (.slice Av0 a.l.length cv0) := x3
  have z4 : W1.cell? ⟨A0, off + 4, none⟩ = some (.int .i64 a.line) := x4
  have y1 := x1
  have y2 := x2
  have y3 := x3
  have y4 := x4
  clear x0 x1 x2 x3 x4
  have hq := HC0.out W1 _ hAt
  unfold nodeV at hq
  have HQ0 := Lib.hid hq
  clear hq hAt
  unfold nodeV
  rw [e, hk]
  clear hA hE hg hr hB hk hl0 hEl e hT0 hY0 hc0 ea m0 hT1 hY1 hc1 eb m1
  go_enter Tryd.func59, Tryd.ntmps59
  go_wp2_with fail
  go_at_call 34
  refine HQ0.out.mono ?_
  rintro e w1 ⟨rfl, hb⟩
  have HB1 := Lib.hid hb
  clear hb f0 f1 f2 f3 f4 z0 z1 z2 z3 z4 y1 y2 y3 y4
  have hbx := HX.out w1 HB1.out
  unfold BoxAt at hbx
  rw [HOp.out.1, HOp.out.2] at hbx
  obtain ⟨f0, f1, f2, f3, f4⟩ := hbx
  obtain ⟨Av1, cv1, hAt, x0, x1, x2, x3, x4⟩ := HLs.out.2 w1 HB1.out
  have z0 : w1.cell? ⟨A0, off + 5, none⟩ = some (.int .i64 b.op) := x0
  have z1 : w1.cell? ⟨A0, off + 6, none⟩ = some (.string (bs b.s)) := x1
  have z2 : w1.cell? ⟨A0, off + 7, none⟩ = some (.int .i64 b.n) := x2
  have z3 : w1.cell? ⟨A0, off + 8, none⟩ = some (.slice Av1 b.l.length cv1) := x3
  have z4 : w1.cell? ⟨A0, off + 9, none⟩ = some (.int .i64 b.line) := x4
  have y1 : w1.cell? ⟨A0, off + 5 + 1, none⟩ = some (.string (bs b.s)) := x1
  have y2 : w1.cell? ⟨A0, off + 5 + 2, none⟩ = some (.int .i64 b.n) := x2
  have y3 : w1.cell? ⟨A0, off + 5 + 3, none⟩ = some (.slice Av1 b.l.length cv1) := x3
  have y4 : w1.cell? ⟨A0, off + 5 + 4, none⟩ = some (.int .i64 b.line) := x4
  clear x0 x1 x2 x3 x4
  have hq := HC1.out w1 _ hAt
  unfold nodeV at hq
  have HQ1 := Lib.hid hq
  clear hq hAt
  go_wp2_with fail
  go_at_call 34
  refine HQ1.out.mono ?_
  rintro e w2 ⟨rfl, hb⟩
  have HB2 := Lib.hid (HB1.out.trans (hb.mono HB1.out.size))
  clear hb f0 f1 f2 f3 f4 z0 z1 z2 z3 z4 y1 y2 y3 y4
  have hbx := HX.out w2 HB2.out
  unfold BoxAt at hbx
  rw [HOp.out.1, HOp.out.2] at hbx
  obtain ⟨f0, f1, f2, f3, f4⟩ := hbx
  go_wp2
  go_ret
  exact ⟨by rw [HT.out]; rfl, HR.out.low.trans (HB2.out.mono HR.out.low.size)⟩

set_option maxRecDepth 100000 in
set_option maxHeartbeats 4000000 in
theorem tmo_19 : MoreOK 19 := by
  intro k t A c w e hB hg hA hE
  obtain ⟨-, -, a, hl0, ea⟩ := (inv_19 e).1 hg
  obtain ⟨W1, hr⟩ : ∃ W, TIn k t A c w W := ⟨_, t_in k t A c w hA⟩
  have hk : t.l.length = 1 := by rw [hl0]; rfl
  have hbx := box_in (Below.refl _ _) hr.box
  have HX := Lib.hid (fun w' (hb : Below W1.heap.size W1 w') => box_in hb hr.box)
  have HR := Lib.hid hr
  have hW := hr.world
  obtain ⟨A0, off, rfl, hlc, hEl⟩ := row_elem hr.row (by omega)
  have m0 : a ∈ t.l := by rw [hl0]; simp
  obtain ⟨Y0, hY0, hYz0⟩ := txt_part (hB.part m0)
  have hc0 := fun w' (hb : Below W1.heap.size W1 w') => hEl w' hb 0 a (by rw [hl0]; rfl)
  have hT0 := hE a m0 ea
  have HC0 := Lib.hid (fun w' v (hA : At w' w'.heap.size a v) => (by have := hT0 v w' hA; unfold Gives at this; rw [hY0] at this; exact this : Calls Tryd.prog 34 #[v, .string (bs (indentB k))] w' fun e w'' => e = .returned (.string Y0) ∧ Below w'.heap.size w' w''))
  have hsz := hB.str
  have HLs := Lib.hid (And.intro hc0 trivial)
  have HOp := Lib.hid (And.intro e hk)
  unfold BoxAt at hbx
  rw [e, hk] at hbx
  rw [e, hk] at hW
  rw [hk] at hlc
  obtain ⟨f0, f1, f2, f3, f4⟩ := hbx
  have HT := Lib.hid (show bs (t.txt k) = bs [40, 33] ++ Y0 ++ bs [41] by
    rw [txt_form k t (by rw [e]; decide), e, hl0, ← hY0]
    show bs ([40, 33] ++ (a.txt k ++ ([41]))) = _
    simp only [bs_two, ByteArray.append_assoc])
  obtain ⟨Av0, cv0, hAt, x0, x1, x2, x3, x4⟩ := HLs.out.1 W1 (Below.refl _ _)
  have z0 : W1.cell? ⟨A0, off, none⟩ = some (.int .i64 a.op) := x0
  have z1 : W1.cell? ⟨A0, off + 1, none⟩ = some (.string (bs a.s)) := x1
  have z2 : W1.cell? ⟨A0, off + 2, none⟩ = some (.int .i64 a.n) := x2
  have z3 : W1.cell? ⟨A0, off + 3, none⟩ = some (.slice Av0 a.l.length cv0) := x3
  have z4 : W1.cell? ⟨A0, off + 4, none⟩ = some (.int .i64 a.line) := x4
  have y1 := x1
  have y2 := x2
  have y3 := x3
  have y4 := x4
  clear x0 x1 x2 x3 x4
  have hq := HC0.out W1 _ hAt
  unfold nodeV at hq
  have HQ0 := Lib.hid hq
  clear hq hAt
  unfold nodeV
  rw [e, hk]
  clear hA hE hg hr hB hk hl0 hEl e hT0 hY0 hc0 ea m0
  go_enter Tryd.func59, Tryd.ntmps59
  go_wp2_with fail
  go_at_call 34
  refine HQ0.out.mono ?_
  rintro e w1 ⟨rfl, hb⟩
  have HB1 := Lib.hid hb
  clear hb f0 f1 f2 f3 f4 z0 z1 z2 z3 z4 y1 y2 y3 y4
  have hbx := HX.out w1 HB1.out
  unfold BoxAt at hbx
  rw [HOp.out.1, HOp.out.2] at hbx
  obtain ⟨f0, f1, f2, f3, f4⟩ := hbx
  go_wp2
  go_ret
  exact ⟨by rw [HT.out]; rfl, HR.out.low.trans (HB1.out.mono HR.out.low.size)⟩

set_option maxRecDepth 100000 in
set_option maxHeartbeats 4000000 in
theorem tmo_20 : MoreOK 20 := by
  intro k t A c w e hB hg hA hE
  obtain ⟨-, -, a, hl0, ea⟩ := (inv_20 e).1 hg
  obtain ⟨W1, hr⟩ : ∃ W, TIn k t A c w W := ⟨_, t_in k t A c w hA⟩
  have hk : t.l.length = 1 := by rw [hl0]; rfl
  have hbx := box_in (Below.refl _ _) hr.box
  have HX := Lib.hid (fun w' (hb : Below W1.heap.size W1 w') => box_in hb hr.box)
  have HR := Lib.hid hr
  have hW := hr.world
  obtain ⟨A0, off, rfl, hlc, hEl⟩ := row_elem hr.row (by omega)
  have m0 : a ∈ t.l := by rw [hl0]; simp
  obtain ⟨Y0, hY0, hYz0⟩ := txt_part (hB.part m0)
  have hc0 := fun w' (hb : Below W1.heap.size W1 w') => hEl w' hb 0 a (by rw [hl0]; rfl)
  have hT0 := hE a m0 ea
  have HC0 := Lib.hid (fun w' v (hA : At w' w'.heap.size a v) => (by have := hT0 v w' hA; unfold Gives at this; rw [hY0] at this; exact this : Calls Tryd.prog 34 #[v, .string (bs (indentB k))] w' fun e w'' => e = .returned (.string Y0) ∧ Below w'.heap.size w' w''))
  have hsz := hB.str
  have HLs := Lib.hid (And.intro hc0 trivial)
  have HOp := Lib.hid (And.intro e hk)
  unfold BoxAt at hbx
  rw [e, hk] at hbx
  rw [e, hk] at hW
  rw [hk] at hlc
  obtain ⟨f0, f1, f2, f3, f4⟩ := hbx
  have HT := Lib.hid (show bs (t.txt k) = bs [40, 45] ++ Y0 ++ bs [41] by
    rw [txt_form k t (by rw [e]; decide), e, hl0, ← hY0]
    show bs ([40, 45] ++ (a.txt k ++ ([41]))) = _
    simp only [bs_two, ByteArray.append_assoc])
  obtain ⟨Av0, cv0, hAt, x0, x1, x2, x3, x4⟩ := HLs.out.1 W1 (Below.refl _ _)
  have z0 : W1.cell? ⟨A0, off, none⟩ = some (.int .i64 a.op) := x0
  have z1 : W1.cell? ⟨A0, off + 1, none⟩ = some (.string (bs a.s)) := x1
  have z2 : W1.cell? ⟨A0, off + 2, none⟩ = some (.int .i64 a.n) := x2
  have z3 : W1.cell? ⟨A0, off + 3, none⟩ = some (.slice Av0 a.l.length cv0) := x3
  have z4 : W1.cell? ⟨A0, off + 4, none⟩ = some (.int .i64 a.line) := x4
  have y1 := x1
  have y2 := x2
  have y3 := x3
  have y4 := x4
  clear x0 x1 x2 x3 x4
  have hq := HC0.out W1 _ hAt
  unfold nodeV at hq
  have HQ0 := Lib.hid hq
  clear hq hAt
  unfold nodeV
  rw [e, hk]
  clear hA hE hg hr hB hk hl0 hEl e hT0 hY0 hc0 ea m0
  go_enter Tryd.func59, Tryd.ntmps59
  go_wp2_with fail
  go_at_call 34
  refine HQ0.out.mono ?_
  rintro e w1 ⟨rfl, hb⟩
  have HB1 := Lib.hid hb
  clear hb f0 f1 f2 f3 f4 z0 z1 z2 z3 z4 y1 y2 y3 y4
  have hbx := HX.out w1 HB1.out
  unfold BoxAt at hbx
  rw [HOp.out.1, HOp.out.2] at hbx
  obtain ⟨f0, f1, f2, f3, f4⟩ := hbx
  go_wp2
  go_ret
  exact ⟨by rw [HT.out]; rfl, HR.out.low.trans (HB1.out.mono HR.out.low.size)⟩

set_option maxRecDepth 100000 in
set_option maxHeartbeats 4000000 in
theorem tmo_21 : MoreOK 21 := by
  intro k t A c w e hB hg hA hE
  obtain ⟨-, -, a, b, hl0, ea, eb⟩ := (inv_21 e).1 hg
  obtain ⟨W1, hr⟩ : ∃ W, TIn k t A c w W := ⟨_, t_in k t A c w hA⟩
  have hk : t.l.length = 2 := by rw [hl0]; rfl
  have hbx := box_in (Below.refl _ _) hr.box
  have HX := Lib.hid (fun w' (hb : Below W1.heap.size W1 w') => box_in hb hr.box)
  have HR := Lib.hid hr
  have hW := hr.world
  obtain ⟨A0, off, rfl, hlc, hEl⟩ := row_elem hr.row (by omega)
  have m0 : a ∈ t.l := by rw [hl0]; simp
  obtain ⟨Y0, hY0, hYz0⟩ := txt_part (hB.part m0)
  have hc0 := fun w' (hb : Below W1.heap.size W1 w') => hEl w' hb 0 a (by rw [hl0]; rfl)
  have hT0 := hE a m0 ea
  have HC0 := Lib.hid (fun w' v (hA : At w' w'.heap.size a v) => (by have := hT0 v w' hA; unfold Gives at this; rw [hY0] at this; exact this : Calls Tryd.prog 34 #[v, .string (bs (indentB k))] w' fun e w'' => e = .returned (.string Y0) ∧ Below w'.heap.size w' w''))
  have m1 : b ∈ t.l := by rw [hl0]; simp
  obtain ⟨Y1, hY1, hYz1⟩ := txt_part (hB.part m1)
  have hc1 := fun w' (hb : Below W1.heap.size W1 w') => hEl w' hb 1 b (by rw [hl0]; rfl)
  have hT1 := hE b m1 eb
  have HC1 := Lib.hid (fun w' v (hA : At w' w'.heap.size b v) => (by have := hT1 v w' hA; unfold Gives at this; rw [hY1] at this; exact this : Calls Tryd.prog 34 #[v, .string (bs (indentB k))] w' fun e w'' => e = .returned (.string Y1) ∧ Below w'.heap.size w' w''))
  have hsz := hB.str
  have HLs := Lib.hid (And.intro hc0 hc1)
  have HOp := Lib.hid (And.intro e hk)
  unfold BoxAt at hbx
  rw [e, hk] at hbx
  rw [e, hk] at hW
  rw [hk] at hlc
  obtain ⟨f0, f1, f2, f3, f4⟩ := hbx
  have HT := Lib.hid (show bs (t.txt k) = bs [40] ++ Y0 ++ bs [32, 38, 38, 32] ++ Y1 ++ bs [41] by
    rw [txt_form k t (by rw [e]; decide), e, hl0, ← hY0, ← hY1]
    show bs ([40] ++ (a.txt k ++ ([32, 38, 38, 32] ++ (b.txt k ++ ([41]))))) = _
    simp only [bs_two, ByteArray.append_assoc])
  obtain ⟨Av0, cv0, hAt, x0, x1, x2, x3, x4⟩ := HLs.out.1 W1 (Below.refl _ _)
  have z0 : W1.cell? ⟨A0, off, none⟩ = some (.int .i64 a.op) := x0
  have z1 : W1.cell? ⟨A0, off + 1, none⟩ = some (.string (bs a.s)) := x1
  have z2 : W1.cell? ⟨A0, off + 2, none⟩ = some (.int .i64 a.n) := x2
  have z3 : W1.cell? ⟨A0, off + 3, none⟩ = some (.slice Av0 a.l.length cv0) := x3
  have z4 : W1.cell? ⟨A0, off + 4, none⟩ = some (.int .i64 a.line) := x4
  have y1 := x1
  have y2 := x2
  have y3 := x3
  have y4 := x4
  clear x0 x1 x2 x3 x4
  have hq := HC0.out W1 _ hAt
  unfold nodeV at hq
  have HQ0 := Lib.hid hq
  clear hq hAt
  unfold nodeV
  rw [e, hk]
  clear hA hE hg hr hB hk hl0 hEl e hT0 hY0 hc0 ea m0 hT1 hY1 hc1 eb m1
  go_enter Tryd.func59, Tryd.ntmps59
  go_wp2_with fail
  go_at_call 34
  refine HQ0.out.mono ?_
  rintro e w1 ⟨rfl, hb⟩
  have HB1 := Lib.hid hb
  clear hb f0 f1 f2 f3 f4 z0 z1 z2 z3 z4 y1 y2 y3 y4
  have hbx := HX.out w1 HB1.out
  unfold BoxAt at hbx
  rw [HOp.out.1, HOp.out.2] at hbx
  obtain ⟨f0, f1, f2, f3, f4⟩ := hbx
  obtain ⟨Av1, cv1, hAt, x0, x1, x2, x3, x4⟩ := HLs.out.2 w1 HB1.out
  have z0 : w1.cell? ⟨A0, off + 5, none⟩ = some (.int .i64 b.op) := x0
  have z1 : w1.cell? ⟨A0, off + 6, none⟩ = some (.string (bs b.s)) := x1
  have z2 : w1.cell? ⟨A0, off + 7, none⟩ = some (.int .i64 b.n) := x2
  have z3 : w1.cell? ⟨A0, off + 8, none⟩ = some (.slice Av1 b.l.length cv1) := x3
  have z4 : w1.cell? ⟨A0, off + 9, none⟩ = some (.int .i64 b.line) := x4
  have y1 : w1.cell? ⟨A0, off + 5 + 1, none⟩ = some (.string (bs b.s)) := x1
  have y2 : w1.cell? ⟨A0, off + 5 + 2, none⟩ = some (.int .i64 b.n) := x2
  have y3 : w1.cell? ⟨A0, off + 5 + 3, none⟩ = some (.slice Av1 b.l.length cv1) := x3
  have y4 : w1.cell? ⟨A0, off + 5 + 4, none⟩ = some (.int .i64 b.line) := x4
  clear x0 x1 x2 x3 x4
  have hq := HC1.out w1 _ hAt
  unfold nodeV at hq
  have HQ1 := Lib.hid hq
  clear hq hAt
  go_wp2_with fail
  go_at_call 34
  refine HQ1.out.mono ?_
  rintro e w2 ⟨rfl, hb⟩
  have HB2 := Lib.hid (HB1.out.trans (hb.mono HB1.out.size))
  clear hb f0 f1 f2 f3 f4 z0 z1 z2 z3 z4 y1 y2 y3 y4
  have hbx := HX.out w2 HB2.out
  unfold BoxAt at hbx
  rw [HOp.out.1, HOp.out.2] at hbx
  obtain ⟨f0, f1, f2, f3, f4⟩ := hbx
  go_wp2
  go_ret
  exact ⟨by rw [HT.out]; rfl, HR.out.low.trans (HB2.out.mono HR.out.low.size)⟩

set_option maxRecDepth 100000 in
set_option maxHeartbeats 4000000 in
theorem tmo_22 : MoreOK 22 := by
  intro k t A c w e hB hg hA hE
  obtain ⟨-, -, a, b, hl0, ea, eb⟩ := (inv_22 e).1 hg
  obtain ⟨W1, hr⟩ : ∃ W, TIn k t A c w W := ⟨_, t_in k t A c w hA⟩
  have hk : t.l.length = 2 := by rw [hl0]; rfl
  have hbx := box_in (Below.refl _ _) hr.box
  have HX := Lib.hid (fun w' (hb : Below W1.heap.size W1 w') => box_in hb hr.box)
  have HR := Lib.hid hr
  have hW := hr.world
  obtain ⟨A0, off, rfl, hlc, hEl⟩ := row_elem hr.row (by omega)
  have m0 : a ∈ t.l := by rw [hl0]; simp
  obtain ⟨Y0, hY0, hYz0⟩ := txt_part (hB.part m0)
  have hc0 := fun w' (hb : Below W1.heap.size W1 w') => hEl w' hb 0 a (by rw [hl0]; rfl)
  have hT0 := hE a m0 ea
  have HC0 := Lib.hid (fun w' v (hA : At w' w'.heap.size a v) => (by have := hT0 v w' hA; unfold Gives at this; rw [hY0] at this; exact this : Calls Tryd.prog 34 #[v, .string (bs (indentB k))] w' fun e w'' => e = .returned (.string Y0) ∧ Below w'.heap.size w' w''))
  have m1 : b ∈ t.l := by rw [hl0]; simp
  obtain ⟨Y1, hY1, hYz1⟩ := txt_part (hB.part m1)
  have hc1 := fun w' (hb : Below W1.heap.size W1 w') => hEl w' hb 1 b (by rw [hl0]; rfl)
  have hT1 := hE b m1 eb
  have HC1 := Lib.hid (fun w' v (hA : At w' w'.heap.size b v) => (by have := hT1 v w' hA; unfold Gives at this; rw [hY1] at this; exact this : Calls Tryd.prog 34 #[v, .string (bs (indentB k))] w' fun e w'' => e = .returned (.string Y1) ∧ Below w'.heap.size w' w''))
  have hsz := hB.str
  have HLs := Lib.hid (And.intro hc0 hc1)
  have HOp := Lib.hid (And.intro e hk)
  unfold BoxAt at hbx
  rw [e, hk] at hbx
  rw [e, hk] at hW
  rw [hk] at hlc
  obtain ⟨f0, f1, f2, f3, f4⟩ := hbx
  have HT := Lib.hid (show bs (t.txt k) = bs [40] ++ Y0 ++ bs [32, 124, 124, 32] ++ Y1 ++ bs [41] by
    rw [txt_form k t (by rw [e]; decide), e, hl0, ← hY0, ← hY1]
    show bs ([40] ++ (a.txt k ++ ([32, 124, 124, 32] ++ (b.txt k ++ ([41]))))) = _
    simp only [bs_two, ByteArray.append_assoc])
  obtain ⟨Av0, cv0, hAt, x0, x1, x2, x3, x4⟩ := HLs.out.1 W1 (Below.refl _ _)
  have z0 : W1.cell? ⟨A0, off, none⟩ = some (.int .i64 a.op) := x0
  have z1 : W1.cell? ⟨A0, off + 1, none⟩ = some (.string (bs a.s)) := x1
  have z2 : W1.cell? ⟨A0, off + 2, none⟩ = some (.int .i64 a.n) := x2
  have z3 : W1.cell? ⟨A0, off + 3, none⟩ = some (.slice Av0 a.l.length cv0) := x3
  have z4 : W1.cell? ⟨A0, off + 4, none⟩ = some (.int .i64 a.line) := x4
  have y1 := x1
  have y2 := x2
  have y3 := x3
  have y4 := x4
  clear x0 x1 x2 x3 x4
  have hq := HC0.out W1 _ hAt
  unfold nodeV at hq
  have HQ0 := Lib.hid hq
  clear hq hAt
  unfold nodeV
  rw [e, hk]
  clear hA hE hg hr hB hk hl0 hEl e hT0 hY0 hc0 ea m0 hT1 hY1 hc1 eb m1
  go_enter Tryd.func59, Tryd.ntmps59
  go_wp2_with fail
  go_at_call 34
  refine HQ0.out.mono ?_
  rintro e w1 ⟨rfl, hb⟩
  have HB1 := Lib.hid hb
  clear hb f0 f1 f2 f3 f4 z0 z1 z2 z3 z4 y1 y2 y3 y4
  have hbx := HX.out w1 HB1.out
  unfold BoxAt at hbx
  rw [HOp.out.1, HOp.out.2] at hbx
  obtain ⟨f0, f1, f2, f3, f4⟩ := hbx
  obtain ⟨Av1, cv1, hAt, x0, x1, x2, x3, x4⟩ := HLs.out.2 w1 HB1.out
  have z0 : w1.cell? ⟨A0, off + 5, none⟩ = some (.int .i64 b.op) := x0
  have z1 : w1.cell? ⟨A0, off + 6, none⟩ = some (.string (bs b.s)) := x1
  have z2 : w1.cell? ⟨A0, off + 7, none⟩ = some (.int .i64 b.n) := x2
  have z3 : w1.cell? ⟨A0, off + 8, none⟩ = some (.slice Av1 b.l.length cv1) := x3
  have z4 : w1.cell? ⟨A0, off + 9, none⟩ = some (.int .i64 b.line) := x4
  have y1 : w1.cell? ⟨A0, off + 5 + 1, none⟩ = some (.string (bs b.s)) := x1
  have y2 : w1.cell? ⟨A0, off + 5 + 2, none⟩ = some (.int .i64 b.n) := x2
  have y3 : w1.cell? ⟨A0, off + 5 + 3, none⟩ = some (.slice Av1 b.l.length cv1) := x3
  have y4 : w1.cell? ⟨A0, off + 5 + 4, none⟩ = some (.int .i64 b.line) := x4
  clear x0 x1 x2 x3 x4
  have hq := HC1.out w1 _ hAt
  unfold nodeV at hq
  have HQ1 := Lib.hid hq
  clear hq hAt
  go_wp2_with fail
  go_at_call 34
  refine HQ1.out.mono ?_
  rintro e w2 ⟨rfl, hb⟩
  have HB2 := Lib.hid (HB1.out.trans (hb.mono HB1.out.size))
  clear hb f0 f1 f2 f3 f4 z0 z1 z2 z3 z4 y1 y2 y3 y4
  have hbx := HX.out w2 HB2.out
  unfold BoxAt at hbx
  rw [HOp.out.1, HOp.out.2] at hbx
  obtain ⟨f0, f1, f2, f3, f4⟩ := hbx
  go_wp2
  go_ret
  exact ⟨by rw [HT.out]; rfl, HR.out.low.trans (HB2.out.mono HR.out.low.size)⟩

set_option maxRecDepth 100000 in
set_option maxHeartbeats 4000000 in
theorem tmo_23 : MoreOK 23 := by
  intro k t A c w e hB hg hA hE
  obtain ⟨-, -, a, b, d, hl0, ea, eb, ed⟩ := (inv_23 e).1 hg
  obtain ⟨W1, hr⟩ : ∃ W, TIn k t A c w W := ⟨_, t_in k t A c w hA⟩
  have hk : t.l.length = 3 := by rw [hl0]; rfl
  have hbx := box_in (Below.refl _ _) hr.box
  have HX := Lib.hid (fun w' (hb : Below W1.heap.size W1 w') => box_in hb hr.box)
  have HR := Lib.hid hr
  have hW := hr.world
  obtain ⟨A0, off, rfl, hlc, hEl⟩ := row_elem hr.row (by omega)
  have m0 : a ∈ t.l := by rw [hl0]; simp
  obtain ⟨Y0, hY0, hYz0⟩ := txt_part (hB.part m0)
  have hc0 := fun w' (hb : Below W1.heap.size W1 w') => hEl w' hb 0 a (by rw [hl0]; rfl)
  have hT0 := hE a m0 ea
  have HC0 := Lib.hid (fun w' v (hA : At w' w'.heap.size a v) => (by have := hT0 v w' hA; unfold Gives at this; rw [hY0] at this; exact this : Calls Tryd.prog 34 #[v, .string (bs (indentB k))] w' fun e w'' => e = .returned (.string Y0) ∧ Below w'.heap.size w' w''))
  have m1 : b ∈ t.l := by rw [hl0]; simp
  obtain ⟨Y1, hY1, hYz1⟩ := txt_part (hB.part m1)
  have hc1 := fun w' (hb : Below W1.heap.size W1 w') => hEl w' hb 1 b (by rw [hl0]; rfl)
  have hT1 := hE b m1 eb
  have HC1 := Lib.hid (fun w' v (hA : At w' w'.heap.size b v) => (by have := hT1 v w' hA; unfold Gives at this; rw [hY1] at this; exact this : Calls Tryd.prog 34 #[v, .string (bs (indentB k))] w' fun e w'' => e = .returned (.string Y1) ∧ Below w'.heap.size w' w''))
  have m2 : d ∈ t.l := by rw [hl0]; simp
  obtain ⟨Y2, hY2, hYz2⟩ := txt_part (hB.part m2)
  have hc2 := fun w' (hb : Below W1.heap.size W1 w') => hEl w' hb 2 d (by rw [hl0]; rfl)
  have hT2 := hE d m2 ed
  have HC2 := Lib.hid (fun w' v (hA : At w' w'.heap.size d v) => (by have := hT2 v w' hA; unfold Gives at this; rw [hY2] at this; exact this : Calls Tryd.prog 34 #[v, .string (bs (indentB k))] w' fun e w'' => e = .returned (.string Y2) ∧ Below w'.heap.size w' w''))
  have hsz := hB.str
  have HLs := Lib.hid (And.intro hc0 (And.intro hc1 hc2))
  have HOp := Lib.hid (And.intro e hk)
  unfold BoxAt at hbx
  rw [e, hk] at hbx
  rw [e, hk] at hW
  rw [hk] at hlc
  obtain ⟨f0, f1, f2, f3, f4⟩ := hbx
  have HT := Lib.hid (show bs (t.txt k) = bs [40] ++ Y0 ++ bs [32, 63, 32] ++ Y1 ++ bs [32, 58, 32] ++ Y2 ++ bs [41] by
    rw [txt_form k t (by rw [e]; decide), e, hl0, ← hY0, ← hY1, ← hY2]
    show bs ([40] ++ (a.txt k ++ ([32, 63, 32] ++ (b.txt k ++ ([32, 58, 32] ++ (d.txt k ++ ([41]))))))) = _
    simp only [bs_two, ByteArray.append_assoc])
  obtain ⟨Av0, cv0, hAt, x0, x1, x2, x3, x4⟩ := HLs.out.1 W1 (Below.refl _ _)
  have z0 : W1.cell? ⟨A0, off, none⟩ = some (.int .i64 a.op) := x0
  have z1 : W1.cell? ⟨A0, off + 1, none⟩ = some (.string (bs a.s)) := x1
  have z2 : W1.cell? ⟨A0, off + 2, none⟩ = some (.int .i64 a.n) := x2
  have z3 : W1.cell? ⟨A0, off + 3, none⟩ = some (.slice Av0 a.l.length cv0) := x3
  have z4 : W1.cell? ⟨A0, off + 4, none⟩ = some (.int .i64 a.line) := x4
  have y1 := x1
  have y2 := x2
  have y3 := x3
  have y4 := x4
  clear x0 x1 x2 x3 x4
  have hq := HC0.out W1 _ hAt
  unfold nodeV at hq
  have HQ0 := Lib.hid hq
  clear hq hAt
  unfold nodeV
  rw [e, hk]
  clear hA hE hg hr hB hk hl0 hEl e hT0 hY0 hc0 ea m0 hT1 hY1 hc1 eb m1 hT2 hY2 hc2 ed m2
  go_enter Tryd.func59, Tryd.ntmps59
  go_wp2_with fail
  go_at_call 34
  refine HQ0.out.mono ?_
  rintro e w1 ⟨rfl, hb⟩
  have HB1 := Lib.hid hb
  clear hb f0 f1 f2 f3 f4 z0 z1 z2 z3 z4 y1 y2 y3 y4
  have hbx := HX.out w1 HB1.out
  unfold BoxAt at hbx
  rw [HOp.out.1, HOp.out.2] at hbx
  obtain ⟨f0, f1, f2, f3, f4⟩ := hbx
  obtain ⟨Av1, cv1, hAt, x0, x1, x2, x3, x4⟩ := HLs.out.2.1 w1 HB1.out
  have z0 : w1.cell? ⟨A0, off + 5, none⟩ = some (.int .i64 b.op) := x0
  have z1 : w1.cell? ⟨A0, off + 6, none⟩ = some (.string (bs b.s)) := x1
  have z2 : w1.cell? ⟨A0, off + 7, none⟩ = some (.int .i64 b.n) := x2
  have z3 : w1.cell? ⟨A0, off + 8, none⟩ = some (.slice Av1 b.l.length cv1) := x3
  have z4 : w1.cell? ⟨A0, off + 9, none⟩ = some (.int .i64 b.line) := x4
  have y1 : w1.cell? ⟨A0, off + 5 + 1, none⟩ = some (.string (bs b.s)) := x1
  have y2 : w1.cell? ⟨A0, off + 5 + 2, none⟩ = some (.int .i64 b.n) := x2
  have y3 : w1.cell? ⟨A0, off + 5 + 3, none⟩ = some (.slice Av1 b.l.length cv1) := x3
  have y4 : w1.cell? ⟨A0, off + 5 + 4, none⟩ = some (.int .i64 b.line) := x4
  clear x0 x1 x2 x3 x4
  have hq := HC1.out w1 _ hAt
  unfold nodeV at hq
  have HQ1 := Lib.hid hq
  clear hq hAt
  go_wp2_with fail
  go_at_call 34
  refine HQ1.out.mono ?_
  rintro e w2 ⟨rfl, hb⟩
  have HB2 := Lib.hid (HB1.out.trans (hb.mono HB1.out.size))
  clear hb f0 f1 f2 f3 f4 z0 z1 z2 z3 z4 y1 y2 y3 y4
  have hbx := HX.out w2 HB2.out
  unfold BoxAt at hbx
  rw [HOp.out.1, HOp.out.2] at hbx
  obtain ⟨f0, f1, f2, f3, f4⟩ := hbx
  obtain ⟨Av2, cv2, hAt, x0, x1, x2, x3, x4⟩ := HLs.out.2.2 w2 HB2.out
  have z0 : w2.cell? ⟨A0, off + 10, none⟩ = some (.int .i64 d.op) := x0
  have z1 : w2.cell? ⟨A0, off + 11, none⟩ = some (.string (bs d.s)) := x1
  have z2 : w2.cell? ⟨A0, off + 12, none⟩ = some (.int .i64 d.n) := x2
  have z3 : w2.cell? ⟨A0, off + 13, none⟩ = some (.slice Av2 d.l.length cv2) := x3
  have z4 : w2.cell? ⟨A0, off + 14, none⟩ = some (.int .i64 d.line) := x4
  have y1 : w2.cell? ⟨A0, off + 10 + 1, none⟩ = some (.string (bs d.s)) := x1
  have y2 : w2.cell? ⟨A0, off + 10 + 2, none⟩ = some (.int .i64 d.n) := x2
  have y3 : w2.cell? ⟨A0, off + 10 + 3, none⟩ = some (.slice Av2 d.l.length cv2) := x3
  have y4 : w2.cell? ⟨A0, off + 10 + 4, none⟩ = some (.int .i64 d.line) := x4
  clear x0 x1 x2 x3 x4
  have hq := HC2.out w2 _ hAt
  unfold nodeV at hq
  have HQ2 := Lib.hid hq
  clear hq hAt
  go_wp2_with fail
  go_at_call 34
  refine HQ2.out.mono ?_
  rintro e w3 ⟨rfl, hb⟩
  have HB3 := Lib.hid (HB2.out.trans (hb.mono HB2.out.size))
  clear hb f0 f1 f2 f3 f4 z0 z1 z2 z3 z4 y1 y2 y3 y4
  have hbx := HX.out w3 HB3.out
  unfold BoxAt at hbx
  rw [HOp.out.1, HOp.out.2] at hbx
  obtain ⟨f0, f1, f2, f3, f4⟩ := hbx
  go_wp2
  go_ret
  exact ⟨by rw [HT.out]; rfl, HR.out.low.trans (HB3.out.mono HR.out.low.size)⟩
end Go.Proofs.YtiejpenffpjmeaaDoor

namespace Go.Proofs.YtiejpenffpjmeaaDoor
set_option linter.unusedSimpArgs false
set_option linter.unusedVariables false
open Go.RowKit Go.Proofs

set_option maxRecDepth 100000 in
set_option maxHeartbeats 4000000 in
theorem tmo_15 : MoreOK 15 := by
  intro k t A c w e hB hg hA hE
  obtain ⟨-, -, hle, a, r, hl0, hall⟩ := (inv_15 e).1 hg
  obtain ⟨W1, hr⟩ : ∃ W, TIn k t A c w W := ⟨_, t_in k t A c w hA⟩
  have hk : t.l.length = r.length + 1 := by rw [hl0]; rfl
  have HX := Lib.hid (fun w' (hb : Below W1.heap.size W1 w') => box_in hb hr.box)
  have hbx := box_in (Below.refl _ _) hr.box
  have HR := Lib.hid hr
  have hW := hr.world
  have hrow0 := hr.row
  rw [hl0] at hrow0
  obtain ⟨g, off, cap, hv, hgl, hc1, hc2, hat, A2, c2, hAc, hrow⟩ := Row.cons_ hrow0
  cases hv
  have ma : a ∈ t.l := by rw [hl0]; simp
  have mr : ∀ y ∈ r, y ∈ t.l := fun y hy => by rw [hl0]; simp [hy]
  have hss : sizes r ≤ t.size ∧ strsL r ≤ t.strs := by
    have h1 := size_eq t
    have h2 := strs_eq t
    rw [hl0, sizes_cons] at h1
    rw [hl0, strsL_cons] at h2
    omega
  obtain ⟨Y0, hY0, hYz0⟩ := txt_part (hB.part ma)
  have hlb := hB.lens r mr hss.1 hss.2
  obtain ⟨Z, hZ, hZz⟩ : ∃ Z, bs (commas (r.map (Tr.txt k))) = Z ∧ Z.size ≤ 70000000 := ⟨_, rfl, by rw [bs_size]; have h1 := commas_len (r.map (Tr.txt k)); rw [List.length_map] at h1; omega⟩
  have hLc : ∀ w', Below W1.heap.size W1 w' → Calls Tryd.prog 73 #[.slice A2 r.length c2, .string (bs (indentB k))] w' fun e w'' => e = .returned (.string Z) ∧ Below w'.heap.size w' w'' := fun w' hb => by
    have h1 := tlist_any k r _ w' (hrow.keep hb.size fun p hp => hb.cell hp) (fun y hy => hE y (mr y hy) (hall y (by simp [hy]))) (by omega) (by omega) hB.high
    unfold Gives at h1
    rw [hZ] at h1
    exact h1
  have hEl : ∀ w', Below W1.heap.size W1 w' → ∃ Av cv, At w' w'.heap.size a (nodeV a (.slice Av a.l.length cv)) ∧ w'.cell? ⟨g, off, none⟩ = some (.int .i64 a.op) ∧ w'.cell? ⟨g, off + 1, none⟩ = some (.string (bs a.s)) ∧ w'.cell? ⟨g, off + 2, none⟩ = some (.int .i64 a.n) ∧ w'.cell? ⟨g, off + 3, none⟩ = some (.slice Av a.l.length cv) ∧ w'.cell? ⟨g, off + 4, none⟩ = some (.int .i64 a.line) := fun w' hb => by
    obtain ⟨Av, cv, hAt, x⟩ := elem_at (i := 0) hat hgl hb rfl
    simp only [Nat.zero_mul, Nat.add_zero] at x
    exact ⟨Av, cv, At.keep a hAt hb.size fun _ _ => rfl, x⟩
  obtain ⟨Av, cv, hAt, z0, z1, z2, z3, z4⟩ := hEl W1 (Below.refl _ _)
  have hq := hE a ma (hall a (by simp)) _ W1 hAt
  unfold Gives nodeV at hq
  rw [hY0] at hq
  have HQ := Lib.hid hq
  have HL := Lib.hid hLc
  have HEl := Lib.hid hEl
  have hsz := hB.str
  have HT := Lib.hid (show bs (t.txt k) = Y0 ++ bs [40] ++ Z ++ bs [41] by
    rw [txt_form k t (by rw [e]; decide), e, hl0, ← hY0, ← hZ]
    show bs (a.txt k ++ ([40] ++ (commas (r.map (Tr.txt k)) ++ [41]))) = _
    simp only [bs_two, ByteArray.append_assoc])
  have HOp := Lib.hid (And.intro e hk)
  unfold BoxAt at hbx
  rw [e, hk] at hbx
  rw [e, hk] at hW
  obtain ⟨f0, f1, f2, f3, f4⟩ := hbx
  unfold maxLen at hc2
  unfold nodeV
  rw [e, hk]
  clear hA hE hg hr hB hk hl0 hEl hLc hq hAt hrow hrow0 hall ma mr hss hlb hY0 hZ e hat hle
  rcases hAc with ⟨rfl, rfl, rfl, h0⟩ | ⟨rfl, rfl, hcap⟩
  · have HOp2 := HOp.out.2
    rw [h0] at HL HOp2 hc1 hW f3 ⊢
    have HOp3 := Lib.hid HOp2
    clear h0 HOp2
    go_enter Tryd.func59, Tryd.ntmps59
    go_wp2_with fail
    go_at_call 34
    refine HQ.out.mono ?_
    rintro e w1 ⟨rfl, hb⟩
    have HB1 := Lib.hid hb
    clear hb f0 f1 f2 f3 f4 z0 z1 z2 z3 z4
    have hbx := HX.out w1 HB1.out
    unfold BoxAt at hbx
    rw [HOp.out.1, HOp3.out] at hbx
    obtain ⟨f0, f1, f2, f3, f4⟩ := hbx
    obtain ⟨Av1, cv1, -, z0, z1, z2, z3, z4⟩ := HEl.out w1 HB1.out
    have HL1 := Lib.hid (HL.out w1 HB1.out)
    go_wp2_with fail
    go_at_call 73
    refine HL1.out.mono ?_
    rintro e w2 ⟨rfl, hb⟩
    have HB2 := Lib.hid (HB1.out.trans (hb.mono HB1.out.size))
    clear hb
    go_wp2
    go_ret
    exact ⟨by rw [HT.out]; rfl, HR.out.low.trans (HB2.out.mono HR.out.low.size)⟩
  · have HOp3 := Lib.hid HOp.out.2
    go_enter Tryd.func59, Tryd.ntmps59
    go_wp2_with fail
    go_at_call 34
    refine HQ.out.mono ?_
    rintro e w1 ⟨rfl, hb⟩
    have HB1 := Lib.hid hb
    clear hb f0 f1 f2 f3 f4 z0 z1 z2 z3 z4
    have hbx := HX.out w1 HB1.out
    unfold BoxAt at hbx
    rw [HOp.out.1, HOp3.out] at hbx
    obtain ⟨f0, f1, f2, f3, f4⟩ := hbx
    obtain ⟨Av1, cv1, -, z0, z1, z2, z3, z4⟩ := HEl.out w1 HB1.out
    have HL1 := Lib.hid (HL.out w1 HB1.out)
    go_wp2_with fail
    go_at_call 73
    refine HL1.out.mono ?_
    rintro e w2 ⟨rfl, hb⟩
    have HB2 := Lib.hid (HB1.out.trans (hb.mono HB1.out.size))
    clear hb
    go_wp2
    go_ret
    exact ⟨by rw [HT.out]; rfl, HR.out.low.trans (HB2.out.mono HR.out.low.size)⟩

set_option maxRecDepth 100000 in
set_option maxHeartbeats 4000000 in
theorem tmo_16 : MoreOK 16 := by
  intro k t A c w e hB hg hA hE
  obtain ⟨-, -, hle, a, r, hl0, hall⟩ := (inv_16 e).1 hg
  obtain ⟨W1, hr⟩ : ∃ W, TIn k t A c w W := ⟨_, t_in k t A c w hA⟩
  have hk : t.l.length = r.length + 1 := by rw [hl0]; rfl
  have HX := Lib.hid (fun w' (hb : Below W1.heap.size W1 w') => box_in hb hr.box)
  have hbx := box_in (Below.refl _ _) hr.box
  have HR := Lib.hid hr
  have hW := hr.world
  have hrow0 := hr.row
  rw [hl0] at hrow0
  obtain ⟨g, off, cap, hv, hgl, hc1, hc2, hat, A2, c2, hAc, hrow⟩ := Row.cons_ hrow0
  cases hv
  have ma : a ∈ t.l := by rw [hl0]; simp
  have mr : ∀ y ∈ r, y ∈ t.l := fun y hy => by rw [hl0]; simp [hy]
  have hss : sizes r ≤ t.size ∧ strsL r ≤ t.strs := by
    have h1 := size_eq t
    have h2 := strs_eq t
    rw [hl0, sizes_cons] at h1
    rw [hl0, strsL_cons] at h2
    omega
  obtain ⟨Y0, hY0, hYz0⟩ := txt_part (hB.part ma)
  have hlb := hB.lens r mr hss.1 hss.2
  obtain ⟨Z, hZ, hZz⟩ : ∃ Z, bs (commas (r.map (Tr.txt k))) = Z ∧ Z.size ≤ 70000000 := ⟨_, rfl, by rw [bs_size]; have h1 := commas_len (r.map (Tr.txt k)); rw [List.length_map] at h1; omega⟩
  have hLc : ∀ w', Below W1.heap.size W1 w' → Calls Tryd.prog 73 #[.slice A2 r.length c2, .string (bs (indentB k))] w' fun e w'' => e = .returned (.string Z) ∧ Below w'.heap.size w' w'' := fun w' hb => by
    have h1 := tlist_any k r _ w' (hrow.keep hb.size fun p hp => hb.cell hp) (fun y hy => hE y (mr y hy) (hall y (by simp [hy]))) (by omega) (by omega) hB.high
    unfold Gives at h1
    rw [hZ] at h1
    exact h1
  have hEl : ∀ w', Below W1.heap.size W1 w' → ∃ Av cv, At w' w'.heap.size a (nodeV a (.slice Av a.l.length cv)) ∧ w'.cell? ⟨g, off, none⟩ = some (.int .i64 a.op) ∧ w'.cell? ⟨g, off + 1, none⟩ = some (.string (bs a.s)) ∧ w'.cell? ⟨g, off + 2, none⟩ = some (.int .i64 a.n) ∧ w'.cell? ⟨g, off + 3, none⟩ = some (.slice Av a.l.length cv) ∧ w'.cell? ⟨g, off + 4, none⟩ = some (.int .i64 a.line) := fun w' hb => by
    obtain ⟨Av, cv, hAt, x⟩ := elem_at (i := 0) hat hgl hb rfl
    simp only [Nat.zero_mul, Nat.add_zero] at x
    exact ⟨Av, cv, At.keep a hAt hb.size fun _ _ => rfl, x⟩
  obtain ⟨Av, cv, hAt, z0, z1, z2, z3, z4⟩ := hEl W1 (Below.refl _ _)
  have hq := hE a ma (hall a (by simp)) _ W1 hAt
  unfold Gives nodeV at hq
  rw [hY0] at hq
  have HQ := Lib.hid hq
  have HL := Lib.hid hLc
  have HEl := Lib.hid hEl
  have hsz := hB.str
  by_cases ho : a.op = 1
  · have d : (a.op != 1) = false := by rw [ho]; rfl
    have HT := Lib.hid (show bs (t.txt k) = bs [40, 110, 101, 119, 32] ++ Y0 ++ bs [40] ++ Z ++ bs [41, 41] by
      rw [txt_form k t (by rw [e]; decide), e, hl0, ← hY0, ← hZ]
      show bs ((if a.op = 1 then [40, 110, 101, 119, 32] ++ a.txt k else [40, 110, 101, 119, 32, 40] ++ (a.txt k ++ [41])) ++ ([40] ++ (commas (r.map (Tr.txt k)) ++ [41, 41]))) = _
      rw [if_pos ho]
      simp only [bs_two, ByteArray.append_assoc])
    have HOp := Lib.hid (And.intro e hk)
    unfold BoxAt at hbx
    rw [e, hk] at hbx
    rw [e, hk] at hW
    obtain ⟨f0, f1, f2, f3, f4⟩ := hbx
    unfold maxLen at hc2
    unfold nodeV
    rw [e, hk]
    clear hA hE hg hr hB hk hl0 hEl hLc hq hAt hrow hrow0 hall ma mr hss hlb hY0 hZ e hat hle ho
    rcases hAc with ⟨rfl, rfl, rfl, h0⟩ | ⟨rfl, rfl, hcap⟩
    · have HOp2 := HOp.out.2
      rw [h0] at HL HOp2 hc1 hW f3 ⊢
      have HOp3 := Lib.hid HOp2
      clear h0 HOp2
      go_enter Tryd.func59, Tryd.ntmps59
      go_wp2_with fail
      go_at_call 34
      refine HQ.out.mono ?_
      rintro e w1 ⟨rfl, hb⟩
      have HB1 := Lib.hid hb
      clear hb f0 f1 f2 f3 f4 z0 z1 z2 z3 z4
      have hbx := HX.out w1 HB1.out
      unfold BoxAt at hbx
      rw [HOp.out.1, HOp3.out] at hbx
      obtain ⟨f0, f1, f2, f3, f4⟩ := hbx
      obtain ⟨Av1, cv1, -, z0, z1, z2, z3, z4⟩ := HEl.out w1 HB1.out
      have HL1 := Lib.hid (HL.out w1 HB1.out)
      go_wp2_with fail
      go_at_call 73
      refine HL1.out.mono ?_
      rintro e w2 ⟨rfl, hb⟩
      have HB2 := Lib.hid (HB1.out.trans (hb.mono HB1.out.size))
      clear hb
      go_wp2
      go_ret
      exact ⟨by rw [HT.out]; rfl, HR.out.low.trans (HB2.out.mono HR.out.low.size)⟩
    · have HOp3 := Lib.hid HOp.out.2
      go_enter Tryd.func59, Tryd.ntmps59
      go_wp2_with fail
      go_at_call 34
      refine HQ.out.mono ?_
      rintro e w1 ⟨rfl, hb⟩
      have HB1 := Lib.hid hb
      clear hb f0 f1 f2 f3 f4 z0 z1 z2 z3 z4
      have hbx := HX.out w1 HB1.out
      unfold BoxAt at hbx
      rw [HOp.out.1, HOp3.out] at hbx
      obtain ⟨f0, f1, f2, f3, f4⟩ := hbx
      obtain ⟨Av1, cv1, -, z0, z1, z2, z3, z4⟩ := HEl.out w1 HB1.out
      have HL1 := Lib.hid (HL.out w1 HB1.out)
      go_wp2_with fail
      go_at_call 73
      refine HL1.out.mono ?_
      rintro e w2 ⟨rfl, hb⟩
      have HB2 := Lib.hid (HB1.out.trans (hb.mono HB1.out.size))
      clear hb
      go_wp2
      go_ret
      exact ⟨by rw [HT.out]; rfl, HR.out.low.trans (HB2.out.mono HR.out.low.size)⟩
  · have d : (a.op != 1) = true := by simpa using ho
    have HT := Lib.hid (show bs (t.txt k) = bs [40, 110, 101, 119, 32] ++ (bs [40] ++ Y0 ++ bs [41]) ++ bs [40] ++ Z ++ bs [41, 41] by
      rw [txt_form k t (by rw [e]; decide), e, hl0, ← hY0, ← hZ]
      show bs ((if a.op = 1 then [40, 110, 101, 119, 32] ++ a.txt k else [40, 110, 101, 119, 32, 40] ++ (a.txt k ++ [41])) ++ ([40] ++ (commas (r.map (Tr.txt k)) ++ [41, 41]))) = _
      rw [if_neg ho]
      rw [show ([40, 110, 101, 119, 32, 40] : Bs) = [40, 110, 101, 119, 32] ++ [40] from rfl]
      simp only [bs_two, ByteArray.append_assoc])
    have HOp := Lib.hid (And.intro e hk)
    unfold BoxAt at hbx
    rw [e, hk] at hbx
    rw [e, hk] at hW
    obtain ⟨f0, f1, f2, f3, f4⟩ := hbx
    unfold maxLen at hc2
    unfold nodeV
    rw [e, hk]
    clear hA hE hg hr hB hk hl0 hEl hLc hq hAt hrow hrow0 hall ma mr hss hlb hY0 hZ e hat hle ho
    rcases hAc with ⟨rfl, rfl, rfl, h0⟩ | ⟨rfl, rfl, hcap⟩
    · have HOp2 := HOp.out.2
      rw [h0] at HL HOp2 hc1 hW f3 ⊢
      have HOp3 := Lib.hid HOp2
      clear h0 HOp2
      go_enter Tryd.func59, Tryd.ntmps59
      go_wp2_with fail
      go_at_call 34
      refine HQ.out.mono ?_
      rintro e w1 ⟨rfl, hb⟩
      have HB1 := Lib.hid hb
      clear hb f0 f1 f2 f3 f4 z0 z1 z2 z3 z4
      have hbx := HX.out w1 HB1.out
      unfold BoxAt at hbx
      rw [HOp.out.1, HOp3.out] at hbx
      obtain ⟨f0, f1, f2, f3, f4⟩ := hbx
      obtain ⟨Av1, cv1, -, z0, z1, z2, z3, z4⟩ := HEl.out w1 HB1.out
      have HL1 := Lib.hid (HL.out w1 HB1.out)
      go_wp2_with fail
      go_at_call 73
      refine HL1.out.mono ?_
      rintro e w2 ⟨rfl, hb⟩
      have HB2 := Lib.hid (HB1.out.trans (hb.mono HB1.out.size))
      clear hb
      go_wp2
      go_ret
      exact ⟨by rw [HT.out]; rfl, HR.out.low.trans (HB2.out.mono HR.out.low.size)⟩
    · have HOp3 := Lib.hid HOp.out.2
      go_enter Tryd.func59, Tryd.ntmps59
      go_wp2_with fail
      go_at_call 34
      refine HQ.out.mono ?_
      rintro e w1 ⟨rfl, hb⟩
      have HB1 := Lib.hid hb
      clear hb f0 f1 f2 f3 f4 z0 z1 z2 z3 z4
      have hbx := HX.out w1 HB1.out
      unfold BoxAt at hbx
      rw [HOp.out.1, HOp3.out] at hbx
      obtain ⟨f0, f1, f2, f3, f4⟩ := hbx
      obtain ⟨Av1, cv1, -, z0, z1, z2, z3, z4⟩ := HEl.out w1 HB1.out
      have HL1 := Lib.hid (HL.out w1 HB1.out)
      go_wp2_with fail
      go_at_call 73
      refine HL1.out.mono ?_
      rintro e w2 ⟨rfl, hb⟩
      have HB2 := Lib.hid (HB1.out.trans (hb.mono HB1.out.size))
      clear hb
      go_wp2
      go_ret
      exact ⟨by rw [HT.out]; rfl, HR.out.low.trans (HB2.out.mono HR.out.low.size)⟩
end Go.Proofs.YtiejpenffpjmeaaDoor
