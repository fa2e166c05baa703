/- The law ValueTurns' walk, of what counts as true. -/
import Derived.Test.YtpgclgfaiklpoaaDoorTurnsA
import Derived.Deep.DeepCutAuto
namespace Go.Proofs.YtpgclgfaiklpoaaDoor
open Go.RowKit Go.Proofs

set_option maxRecDepth 100000 in
set_option maxHeartbeats 4000000 in
theorem turns_yesT (k n : Int) (s : ByteArray) (w : World) (hE : Env w) (a : J) (ha : a.ok) (va : .agg #[.int .i64 k, .int .i64 n, .string s] = a.v) (hr : rightB k n s = true) (ht : a.truthy = true) : Calls Tryd.prog 10 #[.agg #[.int .i64 k, .int .i64 n, .string s]] w fun e w' => e = .returned (.bool true) ∧ Below w.heap.size w w' := by
  have HE := Lib.hid (fun (w' : World) (hb : Below w.heap.size w w') => hE.kept hb)
  have BC := Lib.hid (below_box w (boxO k n s))
  have I1 := Lib.hid (box_is w k n s)
  have HH := Lib.hid (fun w hE => shown_any w hE)
  have mi := a.nr_i64 ha
  have R1 := Lib.hid (fun w => right_any k n s w)
  have G1 := Lib.hid (fun w hE => neg_any a ha w hE)
  have G2 := Lib.hid (fun w hE => neg_any (.num (wrap64 (-a.nr))) (wrap_i64 _) w hE)
  have O1 := Lib.hid (fun w => not_any a w)
  have O2 := Lib.hid (fun w => not_any (.bool (!a.truthy)) w)
  have N1 := Lib.hid (fun w hE => num_any a ha w hE)
  have M1 := Lib.hid (fun w => num_mk a.nr w)
  have M0 := Lib.hid (fun w => num_mk 0 w)
  have T1 := Lib.hid (fun w hE => two_any ⟨#[43]⟩ (.num (wrap64 (-a.nr))) (.num a.nr) (wrap_i64 _) mi w hE (by decide))
  have C1 := Lib.hid (fun w => truthy_any (J.bool a.truthy) w)
  have C2 := Lib.hid (fun w => truthy_any a w)
  have v1 : twoV [43] (.num (wrap64 (-a.nr))) (.num a.nr) = okV (.num 0) := by
    show okV (.num (wrap64 (wrap64 (-a.nr) + a.nr))) = _
    congr 2
    unfold wrap64
    omega
  have v2 : (J.num (wrap64 (-a.nr))).nr = wrap64 (-a.nr) := rfl
  have v3 : wrap64 (-wrap64 (-a.nr)) = a.nr := by
    obtain ⟨m1, m2⟩ := mi
    unfold wrap64
    omega
  have v4 : (J.bool (!a.truthy)).truthy = !a.truthy := rfl
  have v5 : (J.bool a.truthy).truthy = a.truthy := rfl
  rw [hr] at R1
  rw [v2, v3] at G2
  rw [v4, Bool.not_not] at O2
  rw [v5] at C1
  rw [v1, show okV (.num 0) = .tuple #[.agg #[.int .i64 3, .int .i64 0, .string ⟨#[]⟩], .int .i64 0] from rfl] at T1
  rw [← va] at G1 O1 N1 C2
  generalize wrap64 (-a.nr) = p at G1 G2 T1
  generalize a.nr = m at G2 N1 M1 T1
  rw [ht] at O1 O2 C1 C2
  clear hE hr va ha v1 v2 v3 v4 v5 mi ht
  simp only [J.v, Bool.not_true] at G1 G2 O1 O2 M1 M0 T1 C1
  go_enter Tryd.func10, Tryd.ntmps10
  obtain ⟨c00, c01, c02⟩ := I1.out
  go_wp2_with fail
  go_at_call 11
  refine (HH.out _ (HE.out _ BC.out)).mono ?_
  rintro e w1 ⟨rfl, hb⟩
  replace BC := stepE BC.out hb
  replace I1 := Lib.hid (I1.out.below hb)
  clear hb
  clear c00 c01 c02
  obtain ⟨c00, c01, c02⟩ := I1.out
  go_wp2_with fail
  go_at_call 13
  refine (R1.out _).mono ?_
  rintro e w2 ⟨rfl, hb⟩
  replace BC := stepE BC.out hb
  replace I1 := Lib.hid (I1.out.below hb)
  clear hb
  clear c00 c01 c02
  obtain ⟨c00, c01, c02⟩ := I1.out
  go_wp2_with fail
  go_at_call 20
  refine (G1.out _ (HE.out _ BC.out)).mono ?_
  rintro e w3 ⟨rfl, hb⟩
  replace BC := stepE BC.out hb
  replace I1 := Lib.hid (I1.out.below hb)
  clear hb
  clear c00 c01 c02
  obtain ⟨c00, c01, c02⟩ := I1.out
  go_wp2_with fail
  go_at_call 20
  refine (G2.out _ (HE.out _ BC.out)).mono ?_
  rintro e w4 ⟨rfl, hb⟩
  replace BC := stepE BC.out hb
  replace I1 := Lib.hid (I1.out.below hb)
  clear hb
  have hb := below_box w4 (boxO 3 m ⟨#[]⟩)
  replace I1 := Lib.hid (I1.out.below hb)
  have I2 := Lib.hid (boxIs_new w4 3 m ⟨#[]⟩)
  replace BC := stepE BC.out hb
  clear hb
  clear c00 c01 c02
  obtain ⟨c00, c01, c02⟩ := I1.out
  obtain ⟨c10, c11, c12⟩ := I2.out
  go_wp2_with fail
  go_at_call 22
  refine (O1.out _).mono ?_
  rintro e w5 ⟨rfl, hb⟩
  replace BC := stepE BC.out hb
  replace I1 := Lib.hid (I1.out.below hb)
  replace I2 := Lib.hid (I2.out.below hb)
  clear hb
  clear c00 c01 c02 c10 c11 c12
  obtain ⟨c00, c01, c02⟩ := I1.out
  obtain ⟨c10, c11, c12⟩ := I2.out
  go_wp2_with fail
  go_at_call 22
  refine (O2.out _).mono ?_
  rintro e w6 ⟨rfl, hb⟩
  replace BC := stepE BC.out hb
  replace I1 := Lib.hid (I1.out.below hb)
  replace I2 := Lib.hid (I2.out.below hb)
  clear hb
  obtain ⟨y10, y11, y12⟩ := I1.out
  have l0 := I1.out.lt
  have l4 := I2.out.lt
  have hb := below_box w6 (boxO 2 1 ⟨#[]⟩)
  replace I1 := Lib.hid (I1.out.below hb)
  replace I2 := Lib.hid (I2.out.below hb)
  have I3 := Lib.hid (boxIs_new w6 2 1 ⟨#[]⟩)
  replace BC := stepE BC.out hb
  clear hb
  clear c00 c01 c02 c10 c11 c12
  obtain ⟨c00, c01, c02⟩ := I1.out
  obtain ⟨c10, c11, c12⟩ := I2.out
  obtain ⟨c20, c21, c22⟩ := I3.out
  go_wp2_with fail
  go_cut [6, 7] (fun p q wx => ∃ B : Nat, p = .pointer (some ⟨B, 0, none⟩) ∧ q = .int .i64 0 ∧ BoxIs wx B 3 0 ⟨#[]⟩ ∧ BoxIs wx w.heap.size k n s ∧ BoxIs wx w4.heap.size 3 m ⟨#[]⟩ ∧ BoxIs wx w6.heap.size 2 1 ⟨#[]⟩ ∧ Below w.heap.size w wx)
  case first =>
    have BC0 := BC
    have I10 := I1
    have I20 := I2
    have I30 := I3
    replace BC := Lib.hid BC.out.drew
    replace I1 := Lib.hid I1.out.drew
    replace I2 := Lib.hid I2.out.drew
    replace I3 := Lib.hid I3.out.drew
    obtain ⟨x10, x11, x12⟩ := I1.out
    have l1 := I1.out.lt
    go_region_held3 (fun w' => (w'.cell? ⟨w.heap.size, 0, none⟩ = some (.int .i64 k) ∧ w'.cell? ⟨w.heap.size, 1, none⟩ = some (.int .i64 n) ∧ w'.cell? ⟨w.heap.size, 2, none⟩ = some (.string s)))
      (first | exact I1.out | exact I1.out.below (below_box _ _) | exact I1.out.set3 (Nat.ne_of_lt q1) _ _ _ | go_keep)
      (first
        | (go_at_call 20; first | ((with_reducible refine (G1.out _ (HE.out _ BC.out)).mono ?_); rintro e wa ⟨rfl, hb⟩; replace BC := stepE BC.out hb; replace I1 := Lib.hid (I1.out.below hb); replace I2 := Lib.hid (I2.out.below hb); replace I3 := Lib.hid (I3.out.below hb); (try replace IZ := Lib.hid (IZ.out.below hb)); clear hb; obtain ⟨x10, x11, x12⟩ := I1.out; have l1 := I1.out.lt; (try (obtain ⟨⟨z0, z1, z2⟩, ⟨f0, f1, f2⟩⟩ := IZ.out))) | ((with_reducible refine (G1.out _ (HE.out _ (BC.out.alloc BC.out.size _))).mono ?_); rintro e wa ⟨rfl, hb⟩; have q1 := I1.out.lt; have q2 := I2.out.lt; have q3 := I3.out.lt; replace BC := stepE (BC.out.alloc BC.out.size _) hb; replace I1 := Lib.hid ((I1.out.below (below_box _ zeroO)).below hb); replace I2 := Lib.hid ((I2.out.below (below_box _ zeroO)).below hb); replace I3 := Lib.hid ((I3.out.below (below_box _ zeroO)).below hb); have IZ := Lib.hid ((res_new _).below hb); clear hb; obtain ⟨x10, x11, x12⟩ := I1.out; have l1 := I1.out.lt; (try (obtain ⟨⟨z0, z1, z2⟩, ⟨f0, f1, f2⟩⟩ := IZ.out))) | ((with_reducible refine (G1.out _ (HE.out _ (BC0.out.alloc BC0.out.size _).drew)).mono ?_); rintro e wa ⟨rfl, hb⟩; have q1 := Nat.lt_succ_of_lt l0; have q2 := Nat.lt_succ_of_lt l4; have q3 := Nat.lt_succ_self w6.heap.size; replace BC := stepE (BC0.out.alloc BC0.out.size _).drew hb; replace I1 := Lib.hid ((I10.out.below (below_box _ zeroO)).drew.below hb); replace I2 := Lib.hid ((I20.out.below (below_box _ zeroO)).drew.below hb); replace I3 := Lib.hid ((I30.out.below (below_box _ zeroO)).drew.below hb); have IZ := Lib.hid ((res_new2 _ _).drew.below hb); clear hb; obtain ⟨x10, x11, x12⟩ := I1.out; have l1 := I1.out.lt; (try (obtain ⟨⟨z0, z1, z2⟩, ⟨f0, f1, f2⟩⟩ := IZ.out))))
        | (go_at_call 16; first | ((with_reducible refine (N1.out _ (HE.out _ BC.out)).mono ?_); rintro e wb ⟨rfl, hb⟩; replace BC := stepE BC.out hb; replace I1 := Lib.hid (I1.out.below hb); replace I2 := Lib.hid (I2.out.below hb); replace I3 := Lib.hid (I3.out.below hb); (try replace IZ := Lib.hid (IZ.out.below hb)); clear hb; obtain ⟨x10, x11, x12⟩ := I1.out; have l1 := I1.out.lt; (try (obtain ⟨⟨z0, z1, z2⟩, ⟨f0, f1, f2⟩⟩ := IZ.out))) | ((with_reducible refine (N1.out _ (HE.out _ (BC.out.alloc BC.out.size _))).mono ?_); rintro e wb ⟨rfl, hb⟩; have q1 := I1.out.lt; have q2 := I2.out.lt; have q3 := I3.out.lt; replace BC := stepE (BC.out.alloc BC.out.size _) hb; replace I1 := Lib.hid ((I1.out.below (below_box _ zeroO)).below hb); replace I2 := Lib.hid ((I2.out.below (below_box _ zeroO)).below hb); replace I3 := Lib.hid ((I3.out.below (below_box _ zeroO)).below hb); have IZ := Lib.hid ((res_new _).below hb); clear hb; obtain ⟨x10, x11, x12⟩ := I1.out; have l1 := I1.out.lt; (try (obtain ⟨⟨z0, z1, z2⟩, ⟨f0, f1, f2⟩⟩ := IZ.out))))
        | (go_at_call 26; first | ((with_reducible refine (M1.out _).mono ?_); rintro e wc ⟨rfl, hb⟩; replace BC := stepE BC.out hb; replace I1 := Lib.hid (I1.out.below hb); replace I2 := Lib.hid (I2.out.below hb); replace I3 := Lib.hid (I3.out.below hb); (try replace IZ := Lib.hid (IZ.out.below hb)); clear hb; obtain ⟨x10, x11, x12⟩ := I1.out; have l1 := I1.out.lt; (try (obtain ⟨⟨z0, z1, z2⟩, ⟨f0, f1, f2⟩⟩ := IZ.out))) | ((with_reducible refine (M1.out _).mono ?_); rintro e wc ⟨rfl, hb⟩; have q1 := I1.out.lt; have q2 := I2.out.lt; have q3 := I3.out.lt; replace BC := stepE (BC.out.alloc BC.out.size _) hb; replace I1 := Lib.hid ((I1.out.below (below_box _ zeroO)).below hb); replace I2 := Lib.hid ((I2.out.below (below_box _ zeroO)).below hb); replace I3 := Lib.hid ((I3.out.below (below_box _ zeroO)).below hb); have IZ := Lib.hid ((res_new _).below hb); clear hb; obtain ⟨x10, x11, x12⟩ := I1.out; have l1 := I1.out.lt; (try (obtain ⟨⟨z0, z1, z2⟩, ⟨f0, f1, f2⟩⟩ := IZ.out))))
        | (go_at_call 24; first | ((with_reducible refine (T1.out _ (HE.out _ BC.out)).mono ?_); rintro e wd ⟨rfl, hb⟩; replace BC := stepE BC.out hb; replace I1 := Lib.hid (I1.out.below hb); replace I2 := Lib.hid (I2.out.below hb); replace I3 := Lib.hid (I3.out.below hb); (try replace IZ := Lib.hid (IZ.out.below hb)); clear hb; obtain ⟨x10, x11, x12⟩ := I1.out; have l1 := I1.out.lt; (try (obtain ⟨⟨z0, z1, z2⟩, ⟨f0, f1, f2⟩⟩ := IZ.out))) | ((with_reducible refine (T1.out _ (HE.out _ (BC.out.alloc BC.out.size _))).mono ?_); rintro e wd ⟨rfl, hb⟩; have q1 := I1.out.lt; have q2 := I2.out.lt; have q3 := I3.out.lt; replace BC := stepE (BC.out.alloc BC.out.size _) hb; replace I1 := Lib.hid ((I1.out.below (below_box _ zeroO)).below hb); replace I2 := Lib.hid ((I2.out.below (below_box _ zeroO)).below hb); replace I3 := Lib.hid ((I3.out.below (below_box _ zeroO)).below hb); have IZ := Lib.hid ((res_new _).below hb); clear hb; obtain ⟨x10, x11, x12⟩ := I1.out; have l1 := I1.out.lt; (try (obtain ⟨⟨z0, z1, z2⟩, ⟨f0, f1, f2⟩⟩ := IZ.out)))))
    all_goals
      go_wp2_with fail
      go_meet
      first
        | exact ⟨_, rfl, rfl, boxIs_new _ _ _ _, I1.out.below (below_box _ _), I2.out.below (below_box _ _), I3.out.below (below_box _ _), BC.out.alloc BC.out.size _⟩
        | exact ⟨_, rfl, rfl, IZ.out.set _ _ _, I1.out.set3 (Nat.ne_of_lt q1) _ _ _, I2.out.set3 (Nat.ne_of_lt q2) _ _ _, I3.out.set3 (Nat.ne_of_lt q3) _ _ _, set3 BC.out _ (Nat.le_of_lt q1) _ _ _⟩
  case rest =>
    obtain ⟨B, rfl, rfl, J4, J1, J2, J3, JB⟩ := hcut
    replace BC := Lib.hid JB
    replace I1 := Lib.hid J1
    replace I2 := Lib.hid J2
    replace I3 := Lib.hid J3
    have I4 := Lib.hid J4
    clear J1 J2 J3 J4 JB
    obtain ⟨a00, a01, a02⟩ := I1.out
    obtain ⟨a10, a11, a12⟩ := I2.out
    obtain ⟨a20, a21, a22⟩ := I3.out
    obtain ⟨a30, a31, a32⟩ := I4.out
    go_wp2_with fail
    replace BC := Lib.hid BC.out.drew
    replace I1 := Lib.hid I1.out.drew
    replace I2 := Lib.hid I2.out.drew
    replace I3 := Lib.hid I3.out.drew
    replace I4 := Lib.hid I4.out.drew
    go_region_held3 (fun w' => (w'.cell? ⟨w.heap.size, 0, none⟩ = some (.int .i64 k) ∧ w'.cell? ⟨w.heap.size, 1, none⟩ = some (.int .i64 n) ∧ w'.cell? ⟨w.heap.size, 2, none⟩ = some (.string s)) ∧ (w'.cell? ⟨w4.heap.size, 0, none⟩ = some (.int .i64 3) ∧ w'.cell? ⟨w4.heap.size, 1, none⟩ = some (.int .i64 m) ∧ w'.cell? ⟨w4.heap.size, 2, none⟩ = some (.string ⟨#[]⟩)) ∧ (w'.cell? ⟨w6.heap.size, 0, none⟩ = some (.int .i64 2) ∧ w'.cell? ⟨w6.heap.size, 1, none⟩ = some (.int .i64 1) ∧ w'.cell? ⟨w6.heap.size, 2, none⟩ = some (.string ⟨#[]⟩)) ∧ (w'.cell? ⟨B, 0, none⟩ = some (.int .i64 3) ∧ w'.cell? ⟨B, 1, none⟩ = some (.int .i64 0) ∧ w'.cell? ⟨B, 2, none⟩ = some (.string ⟨#[]⟩)))
      (first | go_keep | exact ⟨I1.out, I2.out, I3.out, I4.out⟩)
      (first
        | (go_at_call 16; (with_reducible refine (N1.out _ (HE.out _ BC.out)).mono ?_); rintro e wx ⟨rfl, hb⟩; replace BC := stepE BC.out hb; replace I1 := Lib.hid (I1.out.below hb); replace I2 := Lib.hid (I2.out.below hb); replace I3 := Lib.hid (I3.out.below hb); replace I4 := Lib.hid (I4.out.below hb); clear hb)
        | (go_at_call 26; (with_reducible refine (M1.out _).mono ?_); rintro e wx ⟨rfl, hb⟩; replace BC := stepE BC.out hb; replace I1 := Lib.hid (I1.out.below hb); replace I2 := Lib.hid (I2.out.below hb); replace I3 := Lib.hid (I3.out.below hb); replace I4 := Lib.hid (I4.out.below hb); clear hb)
        | (go_at_call 26; (with_reducible refine (M0.out _).mono ?_); rintro e wx ⟨rfl, hb⟩; replace BC := stepE BC.out hb; replace I1 := Lib.hid (I1.out.below hb); replace I2 := Lib.hid (I2.out.below hb); replace I3 := Lib.hid (I3.out.below hb); replace I4 := Lib.hid (I4.out.below hb); clear hb)
        | (go_at_call 18; (with_reducible refine (C1.out _).mono ?_); rintro e wx ⟨rfl, hb⟩; replace BC := stepE BC.out hb; replace I1 := Lib.hid (I1.out.below hb); replace I2 := Lib.hid (I2.out.below hb); replace I3 := Lib.hid (I3.out.below hb); replace I4 := Lib.hid (I4.out.below hb); clear hb)
        | (go_at_call 18; (with_reducible refine (C2.out _).mono ?_); rintro e wx ⟨rfl, hb⟩; replace BC := stepE BC.out hb; replace I1 := Lib.hid (I1.out.below hb); replace I2 := Lib.hid (I2.out.below hb); replace I3 := Lib.hid (I3.out.below hb); replace I4 := Lib.hid (I4.out.below hb); clear hb))
    go_wp2
    go_ret
    exact ⟨rfl, BC.out⟩
end Go.Proofs.YtpgclgfaiklpoaaDoor
