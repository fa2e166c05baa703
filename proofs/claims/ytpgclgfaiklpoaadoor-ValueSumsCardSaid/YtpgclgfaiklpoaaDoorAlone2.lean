/- What is made of a value alone, second part. -/
import Derived.Test.YtpgclgfaiklpoaaDoorAlone
namespace Go.Proofs.YtpgclgfaiklpoaaDoor
open Go.RowKit Go.Proofs

theorem stepB {w W w1 : World} (hB : Below w.heap.size w W) (hz : w.heap.size < W.heap.size) (hb : Below W.heap.size W w1) :
    (∀ b o, b < W.heap.size → w1.cell? ⟨b, o, none⟩ = W.cell? ⟨b, o, none⟩) ∧ (∀ b o, b < W.heap.size → w1.frozen? ⟨b, o, none⟩ = W.frozen? ⟨b, o, none⟩) ∧ Hid (Below w.heap.size w w1) ∧ w.heap.size < w1.heap.size :=
  ⟨(bcell hb).1, (bcell hb).2, Lib.hid (hB.trans (hb.mono hB.size)), by have := hb.size; omega⟩
theorem box_lt (w : World) (o : Obj) : w.heap.size < (w.alloc o).heap.size := by simp

set_option maxRecDepth 100000 in
set_option maxHeartbeats 2000000 in
theorem rnum_any (j : J) (hj : j.ok) (w : World) : Calls Tryd.prog 17 #[j.v] w fun e w' => e = .returned (.int .i64 j.nr) ∧ Below w.heap.size w w' := by
  have HB := Lib.hid (fun (o : Obj) => below_box w o)
  rcases j with _ | _ | (_ | _) | n | s | n
  case text =>
    simp only [J.v, J.nr]
    by_cases h : ∃ n, I64 n ∧ Lib.itoa n = s.data.toList
    · obtain ⟨n, hn, hi⟩ := h
      have e := numL_itoa n hn
      rw [hi] at e
      rw [e]
      rcases itoa_parts n hn with ⟨h1, h2, h3⟩ | ⟨h1, h2, h3⟩
      · obtain ⟨u, rfl⟩ : ∃ u : Nat, n = (u : Int) := ⟨n.toNat, by omega⟩
        simp only [Int.toNat_natCast] at h2 h3
        exact rnum_pos u s w h3 (by rw [← hi, h2]) h2
      · obtain ⟨u, rfl⟩ : ∃ u : Nat, n = -(u : Int) := ⟨n.natAbs, by omega⟩
        simp only [Int.natAbs_neg, Int.natAbs_natCast] at h2 h3
        exact rnum_neg u s w (by omega) h3 (by rw [← hi, h2]) h2
    · rw [numL_none _ (fun n hn hi => h ⟨n, hn, hi⟩)]
      by_cases h1 : 1 ≤ s.size
      · by_cases h2 : s.size ≤ 20
        · exact rnum_not s w h1 h2 (fun n hn hi => h ⟨n, hn, hi⟩)
        · have e0 : ((s.size : Int) == 0) = false := by rw [beq_eq_false_iff_ne]; omega
          have e1 : decide (20 < s.size) = true := by simpa using h2
          have e2 : (20 : Int) < s.size := by omega
          clear h hj h1 h2
          go_enter Tryd.func17, Tryd.ntmps17
          go_wp2
          go_ret
          exact ⟨rfl, HB.out _⟩
      · have e0 : ((s.size : Int) == 0) = true := by rw [beq_iff_eq]; omega
        clear h hj h1
        go_enter Tryd.func17, Tryd.ntmps17
        go_wp2
        go_ret
        exact ⟨rfl, HB.out _⟩
  all_goals
    clear hj
    simp only [J.v, J.nr, bn]
    go_enter Tryd.func17, Tryd.ntmps17
    go_wp2
    go_ret
    exact ⟨rfl, HB.out _⟩

set_option maxRecDepth 100000 in
set_option maxHeartbeats 2000000 in
theorem key_any (j : J) (hj : j.ok) (w : World) (hE : Env w) : Calls Tryd.prog 14 #[j.v] w fun e w' => e = .returned (.string j.key) ∧ Below w.heap.size w w' := by
  have HR := Lib.hid (fun w => right_j j w)
  have HB := Lib.hid (fun (o : Obj) => below_box w o)
  have HT := Lib.hid (fun w => truth_any true w)
  have HD := Lib.hid (fun (n : Int) (hn : I64 n) (w' : World) (hb : Below w.heap.size w w') => digits_any n hn w' (hE.kept hb))
  clear hE
  rcases j with _ | _ | (_ | _) | n | s | n
  case bool.false =>
    clear hj
    simp only [J.v, J.key] at HR HT ⊢
    go_enter Tryd.func14, Tryd.ntmps14
    go_wp2_with fail
    go_at_call 13
    refine (HR.out _).mono ?_
    rintro e w1 ⟨rfl, hb⟩
    obtain ⟨hc, hf⟩ := bcell hb
    have hB1 := Lib.hid ((HB.out _).trans (hb.mono (HB.out _).size))
    have z1 : w.heap.size < w1.heap.size := by have := hb.size; simp at this; omega
    clear hb
    go_wp2_with fail
    have hcc : w1.cell? ⟨w.heap.size, 0, none⟩ = some (.int .i64 2) ∧ w1.cell? ⟨w.heap.size, 1, none⟩ = some (.int .i64 0) ∧ w1.cell? ⟨w.heap.size, 2, none⟩ = some (.string ⟨#[]⟩) := ⟨by rw [hc _ _ (by simp)]; exact World.cell?_alloc_new w _ _ 0, by rw [hc _ _ (by simp)]; exact World.cell?_alloc_new w _ _ 1, by rw [hc _ _ (by simp)]; exact World.cell?_alloc_new w _ _ 2⟩
    obtain ⟨c0, c1, c2⟩ := hcc
    clear hc hf
    go_region_held3 (fun w' => w'.cell? ⟨w.heap.size, 0, none⟩ = some (.int .i64 2) ∧ w'.cell? ⟨w.heap.size, 1, none⟩ = some (.int .i64 0) ∧ w'.cell? ⟨w.heap.size, 2, none⟩ = some (.string ⟨#[]⟩)) (first | go_keep | exact S1)
      ((go_at_call 28; refine (HT.out _).mono ?_; rintro e w2 ⟨rfl, hb2⟩; have S1 := And.intro ((hb2.cell (p := ⟨w.heap.size, 0, none⟩) z1).trans c0) (And.intro ((hb2.cell (p := ⟨w.heap.size, 1, none⟩) z1).trans c1) ((hb2.cell (p := ⟨w.heap.size, 2, none⟩) z1).trans c2))))
    go_wp2
    go_ret
    exact ⟨rfl, hB1.out.drew.trans (hb2.mono hB1.out.drew.size)⟩
  case bool.true =>
    clear hj
    simp only [J.v, J.key] at HR HT ⊢
    go_enter Tryd.func14, Tryd.ntmps14
    go_wp2_with fail
    go_at_call 13
    refine (HR.out _).mono ?_
    rintro e w1 ⟨rfl, hb⟩
    obtain ⟨hc, hf⟩ := bcell hb
    have hB1 := Lib.hid ((HB.out _).trans (hb.mono (HB.out _).size))
    have z1 : w.heap.size < w1.heap.size := by have := hb.size; simp at this; omega
    clear hb
    go_wp2_with fail
    have hcc : w1.cell? ⟨w.heap.size, 0, none⟩ = some (.int .i64 2) ∧ w1.cell? ⟨w.heap.size, 1, none⟩ = some (.int .i64 1) ∧ w1.cell? ⟨w.heap.size, 2, none⟩ = some (.string ⟨#[]⟩) := ⟨by rw [hc _ _ (by simp)]; exact World.cell?_alloc_new w _ _ 0, by rw [hc _ _ (by simp)]; exact World.cell?_alloc_new w _ _ 1, by rw [hc _ _ (by simp)]; exact World.cell?_alloc_new w _ _ 2⟩
    obtain ⟨c0, c1, c2⟩ := hcc
    clear hc hf
    go_region_held3 (fun w' => w'.cell? ⟨w.heap.size, 0, none⟩ = some (.int .i64 2) ∧ w'.cell? ⟨w.heap.size, 1, none⟩ = some (.int .i64 1) ∧ w'.cell? ⟨w.heap.size, 2, none⟩ = some (.string ⟨#[]⟩)) (first | go_keep | exact S1)
      ((go_at_call 28; refine (HT.out _).mono ?_; rintro e w2 ⟨rfl, hb2⟩; have S1 := And.intro ((hb2.cell (p := ⟨w.heap.size, 0, none⟩) z1).trans c0) (And.intro ((hb2.cell (p := ⟨w.heap.size, 1, none⟩) z1).trans c1) ((hb2.cell (p := ⟨w.heap.size, 2, none⟩) z1).trans c2))))
    go_wp2
    go_ret
    exact ⟨rfl, hB1.out.drew.trans (hb2.mono hB1.out.drew.size)⟩
  all_goals
    simp only [J.v, J.key] at HR ⊢
    go_enter Tryd.func14, Tryd.ntmps14
    go_wp2_with fail
    go_at_call 13
    refine (HR.out _).mono ?_
    rintro e w1 ⟨rfl, hb⟩
    obtain ⟨hc, hf⟩ := bcell hb
    have hB1 := Lib.hid ((HB.out _).trans (hb.mono (HB.out _).size))
    clear hb
    go_wp2_with (go_at_call 29; refine (HD.out _ hj _ hB1.out).mono ?_; rintro e w2 ⟨rfl, hb2⟩)
    go_ret
    first | exact ⟨rfl, hB1.out⟩ | exact ⟨rfl, hB1.out.trans (hb2.mono hB1.out.size)⟩

set_option maxRecDepth 100000 in
set_option maxHeartbeats 2000000 in
theorem truthy_any (j : J) (w : World) : Calls Tryd.prog 18 #[j.v] w fun e w' => e = .returned (.bool j.truthy) ∧ Below w.heap.size w w' := by
  have HR := Lib.hid (fun w => right_j j w)
  have HB := Lib.hid (fun (o : Obj) => below_box w o)
  have HT := Lib.hid (fun w => truth_any false w)
  have HN := Lib.hid (fun w => number_any 0 w)
  have HX := Lib.hid (fun w => text_any ⟨#[]⟩ w)
  have HZ := Lib.hid (fun (o : Obj) => box_lt w o)
  rcases j with _ | _ | (_ | _) | n | s | n
  case num =>
    simp only [J.v, J.truthy] at HR HT HN HX ⊢
    cases e0 : (n == 0)
    all_goals
      go_enter Tryd.func18, Tryd.ntmps18
      go_wp2_with (first
        | (go_at_call 28; go_loud (refine (HT.out _).mono ?_); rintro e wt ⟨rfl, hbt⟩; obtain ⟨hct, hft, hBt, zt⟩ := stepB (HB.out _) (HZ.out _) hbt; clear hbt)
        | (go_at_call 32; refine (HN.out _).mono ?_; rintro e wn ⟨rfl, hbn⟩; obtain ⟨hcn, hfn, hBn, zn⟩ := stepB hBt.out zt hbn; clear hbn)
        | (go_at_call 33; refine (HX.out _).mono ?_; rintro e wx ⟨rfl, hbx⟩; obtain ⟨hcx, hfx, hBx, zx⟩ := stepB hBn.out zn hbx; clear hbx)
        | (go_at_call 13; refine (HR.out _).mono ?_; rintro e wr ⟨rfl, hbr⟩))
      go_ret
      first | exact ⟨rfl, hBn.out⟩ | exact ⟨rfl, hBx.out.trans (hbr.mono hBx.out.size)⟩
  case text =>
    simp only [J.v, J.truthy] at HR HT HN HX ⊢
    by_cases e0 : s.toList = []
    · go_enter Tryd.func18, Tryd.ntmps18
      go_wp2_with (first
        | (go_at_call 28; go_loud (refine (HT.out _).mono ?_); rintro e wt ⟨rfl, hbt⟩; obtain ⟨hct, hft, hBt, zt⟩ := stepB (HB.out _) (HZ.out _) hbt; clear hbt)
        | (go_at_call 32; refine (HN.out _).mono ?_; rintro e wn ⟨rfl, hbn⟩; obtain ⟨hcn, hfn, hBn, zn⟩ := stepB hBt.out zt hbn; clear hbn)
        | (go_at_call 33; refine (HX.out _).mono ?_; rintro e wx ⟨rfl, hbx⟩; obtain ⟨hcx, hfx, hBx, zx⟩ := stepB hBn.out zn hbx; clear hbx)
        | (go_at_call 13; refine (HR.out _).mono ?_; rintro e wr ⟨rfl, hbr⟩))
      go_ret
      exact ⟨ret_b (by simp [e0]), hBx.out⟩
    · go_enter Tryd.func18, Tryd.ntmps18
      go_wp2_with (first
        | (go_at_call 28; go_loud (refine (HT.out _).mono ?_); rintro e wt ⟨rfl, hbt⟩; obtain ⟨hct, hft, hBt, zt⟩ := stepB (HB.out _) (HZ.out _) hbt; clear hbt)
        | (go_at_call 32; refine (HN.out _).mono ?_; rintro e wn ⟨rfl, hbn⟩; obtain ⟨hcn, hfn, hBn, zn⟩ := stepB hBt.out zt hbn; clear hbn)
        | (go_at_call 33; refine (HX.out _).mono ?_; rintro e wx ⟨rfl, hbx⟩; obtain ⟨hcx, hfx, hBx, zx⟩ := stepB hBn.out zn hbx; clear hbx)
        | (go_at_call 13; refine (HR.out _).mono ?_; rintro e wr ⟨rfl, hbr⟩))
      go_ret
      exact ⟨ret_b (by simp [e0]), hBx.out.trans (hbr.mono hBx.out.size)⟩
  all_goals
    simp only [J.v, J.truthy] at HR HT HN HX ⊢
    go_enter Tryd.func18, Tryd.ntmps18
    go_wp2_with (first
      | (go_at_call 28; go_loud (refine (HT.out _).mono ?_); rintro e wt ⟨rfl, hbt⟩; obtain ⟨hct, hft, hBt, zt⟩ := stepB (HB.out _) (HZ.out _) hbt; clear hbt)
      | (go_at_call 32; refine (HN.out _).mono ?_; rintro e wn ⟨rfl, hbn⟩; obtain ⟨hcn, hfn, hBn, zn⟩ := stepB hBt.out zt hbn; clear hbn)
      | (go_at_call 33; refine (HX.out _).mono ?_; rintro e wx ⟨rfl, hbx⟩; obtain ⟨hcx, hfx, hBx, zx⟩ := stepB hBn.out zn hbx; clear hbx)
      | (go_at_call 13; refine (HR.out _).mono ?_; rintro e wr ⟨rfl, hbr⟩))
    go_ret
    first | exact ⟨rfl, HB.out _⟩ | exact ⟨rfl, hBt.out⟩ | exact ⟨rfl, hBx.out.trans (hbr.mono hBx.out.size)⟩
end Go.Proofs.YtpgclgfaiklpoaaDoor
