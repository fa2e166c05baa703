/- gumshoelaw07's did. -/
import Derived.Test.YtpbbinppikaamaaPair
import Derived.Deep.RegionHeldLaw
namespace Go.Proofs.Ytpbbinppikaamaa
open Go.RowKit Go.Proofs Go.Maps
theorem ans_form (o : Option V) : ∃ (a n : Int) (t : ByteArray) (z : Bool), ans o = .tuple #[.agg #[.int .i64 a, .int .i64 n, .string t], .bool z] := by
  cases o with
  | none => exact ⟨_, _, _, _, rfl⟩
  | some v => obtain ⟨a, n, t⟩ := v; exact ⟨_, _, _, _, rfl⟩
theorem allocL_len (L : Hp) (m p c f : Int) : (allocL L m p c f).length ≤ L.length + 1 := by
  unfold allocL
  split <;> simp
structure B3 (W : World) (n : Nat) (a m : Int) (t : ByteArray) : Prop where
  c0 : W.cell? ⟨n, 0, none⟩ = some (.int .i64 a)
  c1 : W.cell? ⟨n, 1, none⟩ = some (.int .i64 m)
  c2 : W.cell? ⟨n, 2, none⟩ = some (.string t)
  lt : n < W.heap.size
theorem B3.on {W W' : World} {n : Nat} {a m : Int} {t : ByteArray} (h : B3 W n a m t) (hb : Below W.heap.size W W') : B3 W' n a m t :=
  ⟨(hb.cell (p := ⟨n, 0, none⟩) h.lt).trans h.c0, (hb.cell (p := ⟨n, 1, none⟩) h.lt).trans h.c1, (hb.cell (p := ⟨n, 2, none⟩) h.lt).trans h.c2, Nat.lt_of_lt_of_le h.lt hb.size⟩
theorem box3 (w : World) (a m : Int) (t : ByteArray) : ∃ W, w.alloc (.cells #[.int .i64 a, .int .i64 m, .string t] 32) = W ∧ Below w.heap.size w W ∧ B3 W w.heap.size a m t :=
  ⟨_, rfl, (Below.refl _ w).alloc (Nat.le_refl _) _, World.cell?_alloc_new w _ _ 0, World.cell?_alloc_new w _ _ 1, World.cell?_alloc_new w _ _ 2, by simp⟩
set_option maxHeartbeats 2000000 in
theorem did_any {w1 : World} {F1 F2 : Nat → Prop} {B1 B2 T : Nat} {L : Hp} (xd xp xm xr xc xf : Int) (xkey : ByteArray) (vk vn : Int) (vs : ByteArray) (w : World) (h : Pr w1 w F1 F2 B1 B2 T T L L) (hT : T ≤ 1000) (hkey : xkey.size ≤ maxLen) :
    Calls Try.prog 14 #[.pointer (some ⟨B1, 0, none⟩), .pointer (some ⟨B2, 0, none⟩), .agg #[.int .i64 xd, .int .i64 xp, .int .i64 xm, .int .i64 xr, .int .i64 xc, .int .i64 xf, .string xkey, .int .i64 vk, .int .i64 vn, .string vs]] w fun e w' => e = .returned (.bool true) ∧ ∃ F1' F2' L', Pr w1 w' F1' F2' B1 B2 (T + 1) (T + 1) L' L' ∧ L'.length ≤ L.length + 1 := by
  obtain ⟨W, hW⟩ : ∃ W, w.alloc (.cells #[.int .i64 xd, .int .i64 xp, .int .i64 xm, .int .i64 xr, .int .i64 xc, .int .i64 xf, .string xkey, .int .i64 vk, .int .i64 vn, .string vs] 34) = W := ⟨_, rfl⟩
  have hb : Below w.heap.size w W := by rw [← hW]; exact (Below.refl _ w).alloc (Nat.le_refl _) _
  have HP := Lib.hid (h.move hb)
  have hn : w.heap.size < W.heap.size := by rw [← hW]; simp
  have n1 : ¬ F1 w.heap.size := fun e => Nat.lt_irrefl _ (h.heap.lt _ e)
  have n2 : ¬ F2 w.heap.size := fun e => Nat.lt_irrefl _ (h.ref.lt _ e)
  have key : ∀ i : Nat, W.cell? ⟨w.heap.size, i, none⟩ = #[.int .i64 xd, .int .i64 xp, .int .i64 xm, .int .i64 xr, .int .i64 xc, .int .i64 xf, .string xkey, .int .i64 vk, .int .i64 vn, .string vs][i]? := fun i => by
    rw [← hW]
    exact World.cell?_alloc_new w _ _ i
  have a0 : W.cell? ⟨w.heap.size, 0, none⟩ = some (.int .i64 xd) := key 0
  have a1 : W.cell? ⟨w.heap.size, 1, none⟩ = some (.int .i64 xp) := key 1
  have a2 : W.cell? ⟨w.heap.size, 2, none⟩ = some (.int .i64 xm) := key 2
  have a3 : W.cell? ⟨w.heap.size, 3, none⟩ = some (.int .i64 xr) := key 3
  have a4 : W.cell? ⟨w.heap.size, 4, none⟩ = some (.int .i64 xc) := key 4
  have a5 : W.cell? ⟨w.heap.size, 5, none⟩ = some (.int .i64 xf) := key 5
  have a6 : W.cell? ⟨w.heap.size, 6, none⟩ = some (.string xkey) := key 6
  have a7 : W.cell? ⟨w.heap.size, 7, none⟩ = some (.int .i64 vk) := key 7
  have a8 : W.cell? ⟨w.heap.size, 8, none⟩ = some (.int .i64 vn) := key 8
  have a9 : W.cell? ⟨w.heap.size, 9, none⟩ = some (.string vs) := key 9
  clear h key
  cases hkd : ((IntKind.u64.wrap xd).tmod 3 == 0) with
  | true =>
    have HC := Lib.hid (HP.out.alloc1 xm xr xc xf)
    have HD := Lib.hid (fun (w4 : World) (F : Nat → Prop) (hp : Pr w1 w4 F F2 B1 B2 T T (allocL L xm xr xc xf) L) => hp.alloc2 xm xr xc xf)
    go_enter Try.func14, Try.ntmps14
    go_wp2_with fail
    go_at_call 23
    refine (HC.out).mono ?_
    rintro e w4 ⟨rfl, ⟨F, hp⟩, ho⟩
    have bx := box_only ho hn n1
    have c2 := (bx 2).trans a2
    have c3 := (bx 3).trans a3
    have c4 := (bx 4).trans a4
    have c5 := (bx 5).trans a5
    have HD2 := Lib.hid (HD.out w4 F hp)
    clear a0 a1 a2 a3 a4 a5 a6 a7 a8 a9 hp ho bx
    go_wp2_with fail
    go_at_call 29
    refine (HD2.out).mono ?_
    rintro e w5 ⟨rfl, ⟨F', hp⟩, ho⟩
    have HZ := Lib.hid hp
    clear hp ho
    go_wp2
    go_ret
    exact ⟨rfl, _, _, _, HZ.out.more, allocL_len L xm xr xc xf⟩
  | false =>
    cases hk1 : ((IntKind.u64.wrap xd).tmod 3 == 1) with
    | true =>
      have HC := Lib.hid (HP.out.drew.put1 xp xkey vk vn vs hkey (by omega))
      have HD := Lib.hid (fun (w4 : World) (F : Nat → Prop) (hp : Pr w1 w4 F F2 B1 B2 (T + 1) T (putL L xp xkey ⟨vk, vn, vs⟩) L) => hp.put2 xp xkey vk vn vs (by omega))
      go_enter Try.func14, Try.ntmps14
      go_wp2_with fail
      go_region_held_law (fun w' => w'.cell? ⟨w.heap.size, 1, none⟩ = some (.int .i64 xp) ∧ w'.cell? ⟨w.heap.size, 6, none⟩ = some (.string xkey) ∧ w'.cell? ⟨w.heap.size, 7, none⟩ = some (.int .i64 vk) ∧ w'.cell? ⟨w.heap.size, 8, none⟩ = some (.int .i64 vn) ∧ w'.cell? ⟨w.heap.size, 9, none⟩ = some (.string vs))
        (first | exact ⟨a1, a6, a7, a8, a9⟩ | assumption)
        (first
          | (go_at_call 26; refine (HC.out).mono ?_; rintro e w4 ⟨rfl, ⟨F, hp⟩, ho⟩; have bx := box_only (n := w.heap.size) ho hn n1; have hs4 := And.intro ((bx 1).trans a1) (And.intro ((bx 6).trans a6) (And.intro ((bx 7).trans a7) (And.intro ((bx 8).trans a8) ((bx 9).trans a9)))); have hl4 := Nat.lt_of_lt_of_le hn ho.size; have HD2 := Lib.hid (HD.out w4 F hp); clear bx hp ho)
          | (go_at_call 30; refine (HD2.out).mono ?_; rintro e w5 ⟨rfl, ⟨F', hp⟩, ho⟩; have bx := box_only (n := w.heap.size) ho hl4 n2; have hs5 := And.intro ((bx 1).trans hs4.1) (And.intro ((bx 6).trans hs4.2.1) (And.intro ((bx 7).trans hs4.2.2.1) (And.intro ((bx 8).trans hs4.2.2.2.1) ((bx 9).trans hs4.2.2.2.2)))); have HZ := Lib.hid hp; clear bx hp ho hs4))
      all_goals
        go_wp2
        go_ret
        exact ⟨rfl, _, _, _, HZ.out, by rw [putL_len]; exact Nat.le_succ _⟩
    | false =>
      obtain ⟨ga, gn, gt, gz, hg⟩ := ans_form (get L xp xkey)
      obtain ⟨oa, on, ot, oz, ho⟩ := ans_form (own L xp xkey)
      have H1 := Lib.hid (fun (W' : World) (hp : Pr w1 W' F1 F2 B1 B2 T T L L) => Get_any xp xkey W' hp.heap hkey)
      have H2 := Lib.hid (fun (W' : World) (hp : Pr w1 W' F1 F2 B1 B2 T T L L) => RGet_any xp xkey W' hp.ref)
      have H3 := Lib.hid (fun (W' : World) (hp : Pr w1 W' F1 F2 B1 B2 T T L L) => Own_any xp xkey W' hp.heap hkey)
      have H4 := Lib.hid (fun (W' : World) (hp : Pr w1 W' F1 F2 B1 B2 T T L L) => ROwn_any xp xkey W' hp.ref)
      rw [hg] at H1 H2
      rw [ho] at H3 H4
      clear hg ho
      go_enter Try.func14, Try.ntmps14
      go_wp2_with fail
      go_at_call 25
      refine (H1.out _ HP.out).mono ?_
      rintro e w4 ⟨rfl, hb4⟩
      obtain ⟨W4, hW4, hB4, b4⟩ := box3 w4 ga gn gt
      have hq4 := hb4.trans (hB4.mono hb4.size)
      have c1 := (hq4.cell (p := ⟨w.heap.size, 1, none⟩) hn).trans a1
      have c6 := (hq4.cell (p := ⟨w.heap.size, 6, none⟩) hn).trans a6
      have hn4 := Nat.lt_of_lt_of_le hn hq4.size
      have HP4 := Lib.hid (And.intro (HP.out.move hq4) b4)
      clear a0 a1 a2 a3 a4 a5 a6 a7 a8 a9 hb4 hB4 hq4 b4
      go_wp2_with fail
      go_at_call 31
      refine (H2.out _ HP4.out.1).mono ?_
      rintro e w5 ⟨rfl, hb5⟩
      obtain ⟨W5, hW5, hB5, b5⟩ := box3 w5 ga gn gt
      have hq5 := hb5.trans (hB5.mono hb5.size)
      have d1 := (hq5.cell (p := ⟨w.heap.size, 1, none⟩) hn4).trans c1
      have d6 := (hq5.cell (p := ⟨w.heap.size, 6, none⟩) hn4).trans c6
      have hn5 := Nat.lt_of_lt_of_le hn4 hq5.size
      have HP5 := Lib.hid (And.intro (HP4.out.1.move hq5) (And.intro (HP4.out.2.on hq5) b5))
      clear c1 c6 hb5 hB5 hq5 b5
      go_wp2_with fail
      go_at_call 24
      refine (H3.out _ HP5.out.1).mono ?_
      rintro e w6 ⟨rfl, hb6⟩
      obtain ⟨W6, hW6, hB6, b6⟩ := box3 w6 oa on ot
      have hq6 := hb6.trans (hB6.mono hb6.size)
      have e1 := (hq6.cell (p := ⟨w.heap.size, 1, none⟩) hn5).trans d1
      have e6 := (hq6.cell (p := ⟨w.heap.size, 6, none⟩) hn5).trans d6
      have HP6 := Lib.hid (And.intro (HP5.out.1.move hq6) (And.intro (HP5.out.2.1.on hq6) (And.intro (HP5.out.2.2.on hq6) b6)))
      clear d1 d6 hb6 hB6 hq6 b6
      go_wp2_with fail
      go_at_call 32
      refine (H4.out _ HP6.out.1).mono ?_
      rintro e w7 ⟨rfl, hb7⟩
      obtain ⟨W7, hW7, hB7, b7⟩ := box3 w7 oa on ot
      have hq7 := hb7.trans (hB7.mono hb7.size)
      have HP7 := Lib.hid (HP6.out.1.move hq7)
      obtain ⟨u0, u1, u2, -⟩ := HP6.out.2.1.on hq7
      obtain ⟨v0, v1, v2, -⟩ := HP6.out.2.2.1.on hq7
      obtain ⟨y0, y1, y2, -⟩ := HP6.out.2.2.2.on hq7
      obtain ⟨z0, z1, z2, -⟩ := b7
      clear e1 e6 hb7 hB7 hq7
      go_wp2
      go_ret
      exact ⟨rfl, _, _, _, HP7.out.more, Nat.le_succ _⟩
end Go.Proofs.Ytpbbinppikaamaa
