/- What all laws ask first: is a sum with a text a text. -/
import Derived.Test.YtpgclgfaiklpoaaDoorTwoAny
namespace Go.Proofs.YtpgclgfaiklpoaaDoor
open Go.RowKit Go.Proofs

def BoxIs (W : World) (B : Nat) (k n : Int) (s : ByteArray) : Prop :=
  W.cell? ⟨B, 0, none⟩ = some (.int .i64 k) ∧ W.cell? ⟨B, 1, none⟩ = some (.int .i64 n) ∧ W.cell? ⟨B, 2, none⟩ = some (.string s)
theorem BoxIs.lt {W : World} {B : Nat} {k n : Int} {s : ByteArray} (h : BoxIs W B k n s) : B < W.heap.size := World.block_lt_of_cell? _ _ h.1
theorem BoxIs.below {W W' : World} {B : Nat} {k n : Int} {s : ByteArray} (h : BoxIs W B k n s) (hb : Below W.heap.size W W') : BoxIs W' B k n s :=
  ⟨(hb.cell (p := ⟨B, 0, none⟩) h.lt).trans h.1, (hb.cell (p := ⟨B, 1, none⟩) h.lt).trans h.2.1, (hb.cell (p := ⟨B, 2, none⟩) h.lt).trans h.2.2⟩
theorem BoxIs.drew {W : World} {B : Nat} {k n : Int} {s : ByteArray} (h : BoxIs W B k n s) : BoxIs W.drew B k n s := h
theorem boxIs_new (W : World) (k n : Int) (s : ByteArray) : BoxIs (W.alloc (boxO k n s)) W.heap.size k n s :=
  ⟨World.cell?_alloc_new W _ _ 0, World.cell?_alloc_new W _ _ 1, World.cell?_alloc_new W _ _ 2⟩
/-- Behind a call and a box. -/
theorem stepE {w W w1 : World} (hB : Below w.heap.size w W) (hb : Below W.heap.size W w1) : Hid (Below w.heap.size w w1) := Lib.hid (hB.trans (hb.mono hB.size))
theorem stepF {w W : World} (hB : Below w.heap.size w W) (o : Obj) : Hid (Below w.heap.size w (W.alloc o)) := Lib.hid (hB.alloc hB.size o)

theorem itoa_one : Lib.itoa 1 = [49] := by
  unfold Lib.itoa
  rw [if_neg (by omega), Lib.decDigits, dif_pos (by decide)]
  rfl
theorem two_a : twoV [43] (.num 1) (.text ⟨#[97]⟩) = .tuple #[.agg #[.int .i64 4, .int .i64 0, .string ⟨#[49, 97]⟩], .int .i64 0] := by
  have e : (J.num 1).key ++ (J.text ⟨#[97]⟩).key = ⟨#[49, 97]⟩ := by
    simp only [J.key, itoa_one]
    rfl
  have e2 : twoV [43] (.num 1) (.text ⟨#[97]⟩) = okV (.text ((J.num 1).key ++ (J.text ⟨#[97]⟩).key)) := rfl
  rw [e2, e]
  exact if_neg (by decide)
theorem two_b : twoV [61, 61, 61] (.num 1) (.text ⟨#[49]⟩) = .tuple #[.agg #[.int .i64 2, .int .i64 0, .string ⟨#[]⟩], .int .i64 0] := rfl
theorem two_c : twoV [60] (.text ⟨#[49, 48]⟩) (.text ⟨#[57]⟩) = .tuple #[.agg #[.int .i64 2, .int .i64 1, .string ⟨#[]⟩], .int .i64 0] := by
  have e : ordJ (.text ⟨#[49, 48]⟩) (.text ⟨#[57]⟩) = -1 := by
    show ordS _ _ = -1
    unfold ordS
    rw [ByteArray.toList_eq, ByteArray.toList_eq]
    rfl
  have e2 : twoV [60] (.text ⟨#[49, 48]⟩) (.text ⟨#[57]⟩) = okV (.bool (decide (ordJ (.text ⟨#[49, 48]⟩) (.text ⟨#[57]⟩) < 0))) := rfl
  rw [e2, e]
  rfl

set_option maxRecDepth 100000 in
set_option maxHeartbeats 4000000 in
theorem shown_any (w : World) (hE : Env w) : Calls Tryd.prog 11 #[] w fun e w' => e = .returned (.bool true) ∧ Below w.heap.size w w' := by
  have HE := Lib.hid (fun (w' : World) (hb : Below w.heap.size w w') => hE.kept hb)
  have HR := Lib.hid (Below.refl w.heap.size w)
  have HN := Lib.hid (fun w => num_mk 1 w)
  have HX := Lib.hid (fun s w => text_mk s w)
  have HA := Lib.hid (fun w hE => two_any ⟨#[43]⟩ (.num 1) (.text ⟨#[97]⟩) ⟨by decide, by decide⟩ (show _ ≤ 281474976710656 by decide) w hE (by decide))
  have HB := Lib.hid (fun w hE => two_any ⟨#[61, 61, 61]⟩ (.num 1) (.text ⟨#[49]⟩) ⟨by decide, by decide⟩ (show _ ≤ 281474976710656 by decide) w hE (by decide))
  have HC := Lib.hid (fun w hE => two_any ⟨#[60]⟩ (.text ⟨#[49, 48]⟩) (.text ⟨#[57]⟩) (show _ ≤ 281474976710656 by decide) (show _ ≤ 281474976710656 by decide) w hE (by decide))
  rw [two_a] at HA
  rw [two_b] at HB
  rw [two_c] at HC
  simp only [J.v] at HN HX HA HB HC
  clear hE
  have BC := HR
  clear HR
  go_enter Tryd.func11, Tryd.ntmps11
  go_wp2_with fail
  go_at_call 26
  refine (HN.out _).mono ?_
  rintro e w1 ⟨rfl, hb⟩
  replace BC := stepE BC.out hb
  clear hb
  go_wp2_with fail
  go_at_call 27
  refine (HX.out _ _).mono ?_
  rintro e w2 ⟨rfl, hb⟩
  replace BC := stepE BC.out hb
  clear hb
  go_wp2_with fail
  go_at_call 24
  refine (HA.out _ (HE.out _ BC.out)).mono ?_
  rintro e w3 ⟨rfl, hb⟩
  replace BC := stepE BC.out hb
  clear hb
  have hb := below_box w3 (boxO 4 0 ⟨#[49, 97]⟩)
  have I1 := Lib.hid (boxIs_new w3 4 0 ⟨#[49, 97]⟩)
  replace BC := stepE BC.out hb
  clear hb
  go_wp2_with fail
  go_at_call 26
  refine (HN.out _).mono ?_
  rintro e w4 ⟨rfl, hb⟩
  replace BC := stepE BC.out hb
  replace I1 := Lib.hid (I1.out.below hb)
  clear hb
  go_wp2_with fail
  go_at_call 27
  refine (HX.out _ _).mono ?_
  rintro e w5 ⟨rfl, hb⟩
  replace BC := stepE BC.out hb
  replace I1 := Lib.hid (I1.out.below hb)
  clear hb
  go_wp2_with fail
  go_at_call 24
  refine (HB.out _ (HE.out _ BC.out)).mono ?_
  rintro e w6 ⟨rfl, hb⟩
  replace BC := stepE BC.out hb
  replace I1 := Lib.hid (I1.out.below hb)
  clear hb
  have hb := below_box w6 (boxO 2 0 ⟨#[]⟩)
  replace I1 := Lib.hid (I1.out.below hb)
  have I2 := Lib.hid (boxIs_new w6 2 0 ⟨#[]⟩)
  replace BC := stepE BC.out hb
  clear hb
  go_wp2_with fail
  go_at_call 27
  refine (HX.out _ _).mono ?_
  rintro e w7 ⟨rfl, hb⟩
  replace BC := stepE BC.out hb
  replace I1 := Lib.hid (I1.out.below hb)
  replace I2 := Lib.hid (I2.out.below hb)
  clear hb
  go_wp2_with fail
  go_at_call 27
  refine (HX.out _ _).mono ?_
  rintro e w8 ⟨rfl, hb⟩
  replace BC := stepE BC.out hb
  replace I1 := Lib.hid (I1.out.below hb)
  replace I2 := Lib.hid (I2.out.below hb)
  clear hb
  go_wp2_with fail
  go_at_call 24
  refine (HC.out _ (HE.out _ BC.out)).mono ?_
  rintro e w9 ⟨rfl, hb⟩
  replace BC := stepE BC.out hb
  replace I1 := Lib.hid (I1.out.below hb)
  replace I2 := Lib.hid (I2.out.below hb)
  clear hb
  have hb := below_box w9 (boxO 2 1 ⟨#[]⟩)
  replace I1 := Lib.hid (I1.out.below hb)
  replace I2 := Lib.hid (I2.out.below hb)
  have I3 := Lib.hid (boxIs_new w9 2 1 ⟨#[]⟩)
  replace BC := stepE BC.out hb
  clear hb
  replace BC := Lib.hid BC.out.drew
  obtain ⟨p0, p1, p2⟩ := I1.out
  obtain ⟨q0, q1, q2⟩ := I2.out
  obtain ⟨r0, r1, r2⟩ := I3.out
  replace I1 := Lib.hid I1.out.drew
  replace I2 := Lib.hid I2.out.drew
  replace I3 := Lib.hid I3.out.drew
  go_wp2_with fail
  go_region_held3 (fun w' => (w'.cell? ⟨w3.heap.size, 0, none⟩ = some (.int .i64 4) ∧ w'.cell? ⟨w3.heap.size, 1, none⟩ = some (.int .i64 0) ∧ w'.cell? ⟨w3.heap.size, 2, none⟩ = some (.string ⟨#[49, 97]⟩)) ∧ (w'.cell? ⟨w6.heap.size, 0, none⟩ = some (.int .i64 2) ∧ w'.cell? ⟨w6.heap.size, 1, none⟩ = some (.int .i64 0) ∧ w'.cell? ⟨w6.heap.size, 2, none⟩ = some (.string ⟨#[]⟩)) ∧ (w'.cell? ⟨w9.heap.size, 0, none⟩ = some (.int .i64 2) ∧ w'.cell? ⟨w9.heap.size, 1, none⟩ = some (.int .i64 1) ∧ w'.cell? ⟨w9.heap.size, 2, none⟩ = some (.string ⟨#[]⟩)))
    (first | go_keep | exact ⟨I1.out, I2.out, I3.out⟩)
    ((go_at_call 27; refine (HX.out _ _).mono ?_; rintro e wa ⟨rfl, hb⟩; replace BC := stepE BC.out hb; replace I1 := Lib.hid (I1.out.below hb); replace I2 := Lib.hid (I2.out.below hb); replace I3 := Lib.hid (I3.out.below hb); clear hb))
  go_wp2
  go_ret
  exact ⟨rfl, BC.out⟩
end Go.Proofs.YtpgclgfaiklpoaaDoor
