/- gumshoeref07's Alloc. -/
import Derived.Test.YtpbbinppikaamaaRefMem
import Derived.Test.YtpbbinppikaamaaAlloc2
namespace Go.Proofs.Ytpbbinppikaamaa
open Go.RowKit Go.Proofs Go.Maps

def thO (a b c d : Int) : Obj := .cells #[.int .i64 a, .int .i64 b, .int .i64 c, .int .i64 d, .slice none 0 0, .slice none 0 0] 65
theorem ralloc_run {w : World} {F : Nat → Prop} {b T : Nat} {ths : List TH} {v : Value} (h : RefAt w F b T ths v) (h3 : ths.length ≤ 5000) (a1 a2 a3 a4 : Int) :
    ∃ u w3, (Builtin.append_ #[36, 36] 36 #[v, .slice (some ⟨w.heap.size, 0, none⟩) 1 1]).run Try.prog (w.alloc (thO a1 a2 a3 a4)).drew = .ok u w3 ∧ App (w.alloc (thO a1 a2 a3 a4)) 65 6 (ths.length + 1) v (ths.flatMap TH.cells ++ [.int .i64 a1, .int .i64 a2, .int .i64 a3, .int .i64 a4, .slice none 0 0, .slice none 0 0]) u w3 := by
  obtain ⟨u, w3, h1, h2⟩ := app_one (P := Try.prog) (w := (w.alloc (thO a1 a2 a3 a4)).drew) (t := 36) (ty := 36) Try.underlying36 info65 rfl (by decide) (by decide) (row_keep (w' := (w.alloc (thO a1 a2 a3 a4)).drew) h.row (fun j hj => Below.heap_alloc w _ j (row_lt h.row hj))) w.heap.size [.int .i64 a1, .int .i64 a2, .int .i64 a3, .int .i64 a4, .slice none 0 0, .slice none 0 0] 65 (heap_alloc_new w _) rfl (by simp [Value.oneCell']) (by omega)
  exact ⟨u, w3, h1, h2.own, ⟨h2.grown.os, h2.grown.tape, h2.grown.output, h2.grown.size, h2.grown.block⟩, h2.lies⟩
theorem isB_ne {L : Hp} {p : Int} (h : isB L p = false) : at? L p = none := by
  unfold isB at h
  cases e : at? L p with
  | none => rfl
  | some o => rw [e] at h; cases h

set_option maxHeartbeats 2000000 in
theorem ralloc_in {F : Nat → Prop} {b T : Nat} {L : Hp} (a1 a2 a3 a4 : Int) (w : World) (h : IsR w F b T L) (h0 : allocE L a2 = 0) :
    Calls Try.prog 29 #[.pointer (some ⟨b, 0, none⟩), .agg #[.int .i64 a1, .int .i64 a2, .int .i64 a3, .int .i64 a4]] w fun e w' => e = .returned (.tuple #[.int .i64 L.length, .int .i64 0]) ∧ IsR w' (ext F w w') b T (L ++ [⟨a1, a2, a3, a4, []⟩]) ∧ Only F w w' := by
  have hb := (Below.refl w.heap.size w).alloc (Nat.le_refl _) (objO a1 a2 a3 a4)
  have h' := h.below hb
  have HI := Lib.hid (Is_any a2 _ h')
  obtain ⟨hp1, hp2, hl⟩ := allocE_zero h0
  have hwf := h
  have hlt := h.lt
  obtain ⟨⟨v, ths, hh, eL⟩, h2, h3⟩ := h'
  obtain ⟨A, c, rfl, c0, -⟩ := hh.form
  have hlen : ths.length = L.length := by rw [eL]; simp
  have hbl : b < w.heap.size := hlt b hh.mine
  have c1 : (w.alloc (objO a1 a2 a3 a4)).cell? ⟨w.heap.size, 1, none⟩ = some (.int .i64 a2) := World.cell?_alloc_new w _ _ 1
  have HR := Lib.hid (ralloc_run hh (by omega) a1 a2 a3 a4)
  have HF := Lib.hid (fun (u : Value) (w3 : World) (happ : App ((w.alloc (objO a1 a2 a3 a4)).alloc (thO a1 a2 a3 a4)) 65 6 (ths.length + 1) (.slice A ths.length c) (ths.flatMap TH.cells ++ [.int .i64 a1, .int .i64 a2, .int .i64 a3, .int .i64 a4, .slice none 0 0, .slice none 0 0]) u w3) => hh.alloc happ)
  rw [hlen] at HR HF c0
  have hl' : decide ((5000 : Int) ≤ (L.length : Int)) = false := decide_eq_false (by omega)
  have hl2 : (L.length : Int) < 5000 := by omega
  have hbl1 : b < w.heap.size + 1 := by omega
  have hbl2 : b < w.heap.size + 1 + 1 := by omega
  have HG := Lib.hid (fun (W : World) (u : Value) (hA : RefAt W (ext F (w.alloc (objO a1 a2 a3 a4)) W) b T (ths ++ [⟨⟨a1, a2, a3, a4, []⟩, .slice none 0 0, .slice none 0 0⟩]) u) (ho : Only F (w.alloc (objO a1 a2 a3 a4)) W) =>
    (⟨⟨⟨u, _, hA.mono (G := ext F w W) (fun i hi => hi.imp id (fun hi => ⟨by have := hb.size; omega, hi.2⟩)) (ext_lt hwf.lt (Nat.le_trans hb.size ho.size)), by rw [List.map_append, eL]; rfl⟩, by
      have := hwf.2.1.allocL a1 a2 a3 a4
      unfold allocL at this
      rwa [if_pos h0] at this, by simp; omega⟩, (Only.of_below hb).trans' ho⟩ : IsR W (ext F w W) b T (L ++ [⟨a1, a2, a3, a4, []⟩]) ∧ Only F w W))
  have hcase : a2 = -1 ∨ ((a2 != -1) = true ∧ isB L a2 = true) := by
    by_cases e : a2 = -1
    · exact .inl e
    · refine .inr ⟨by simpa using e, ?_⟩
      cases eb : isB L a2 with
      | true => rfl
      | false => exact absurd h0 (by unfold allocE; rw [if_pos ⟨e, isB_ne eb⟩]; decide)
  simp only [objO, thO, World.size_alloc] at c0 c1 HI HR HF HG
  clear hh h2 h0 hb hwf eL
  rcases hcase with rfl | ⟨dne, hib⟩
  · go_enter Try.func29, Try.ntmps29
    go_wp2_with (go_at_call 34; (with_reducible refine (HI.out).mono ?_); rintro e w' ⟨rfl, rfl⟩)
    go_region_law (refine step_app rfl (.tmp 28) (.tmp 31) 36 rfl _ _ rfl rfl _ (HR.out) ?_; intro u w3 happ; obtain ⟨A', c', rfl, -, -⟩ := row_slice happ.own; obtain ⟨hA4, ho4, hb4⟩ := HF.out _ _ happ; have e0 := cell_of_row w3 b 0 _ _ _ hb4; have f0 : w3.frozen? ⟨b, 0, none⟩ = false := by simp [World.frozen?, hb4])
    all_goals
      have HZ := Lib.hid (HG.out _ _ hA4 ho4)
      clear hA4 ho4
      go_wp2
      go_ret2
      exact ⟨by simp, HZ.out⟩
  · rw [hib] at HI
    go_enter Try.func29, Try.ntmps29
    go_wp2_with (go_at_call 34; (with_reducible refine (HI.out).mono ?_); rintro e w' ⟨rfl, rfl⟩)
    go_region_law (refine step_app rfl (.tmp 28) (.tmp 31) 36 rfl _ _ rfl rfl _ (HR.out) ?_; intro u w3 happ; obtain ⟨A', c', rfl, -, -⟩ := row_slice happ.own; obtain ⟨hA4, ho4, hb4⟩ := HF.out _ _ happ; have e0 := cell_of_row w3 b 0 _ _ _ hb4; have f0 : w3.frozen? ⟨b, 0, none⟩ = false := by simp [World.frozen?, hb4])
    all_goals
      have HZ := Lib.hid (HG.out _ _ hA4 ho4)
      clear hA4 ho4
      go_wp2
      go_ret2
      exact ⟨by simp, HZ.out⟩
set_option maxHeartbeats 1000000 in
theorem RAlloc_any {F : Nat → Prop} {b T : Nat} {L : Hp} (a1 a2 a3 a4 : Int) (w : World) (h : IsR w F b T L) :
    Calls Try.prog 29 #[.pointer (some ⟨b, 0, none⟩), .agg #[.int .i64 a1, .int .i64 a2, .int .i64 a3, .int .i64 a4]] w fun e w' => e = .returned (.tuple #[.int .i64 (allocV L a2), .int .i64 (allocE L a2)]) ∧ IsR w' (ext F w w') b T (allocL L a1 a2 a3 a4) ∧ Only F w w' := by
  by_cases h0 : allocE L a2 = 0
  · unfold allocV allocL
    rw [if_pos h0, if_pos h0, h0]
    exact ralloc_in a1 a2 a3 a4 w h h0
  · have hb := (Below.refl w.heap.size w).alloc (Nat.le_refl _) (objO a1 a2 a3 a4)
    have h' := h.below hb
    have HM := Lib.hid (⟨h'.mono (G := ext F w (w.alloc (objO a1 a2 a3 a4))) (fun _ h => .inl h) (ext_lt h.lt hb.size), Only.of_below hb⟩ : IsR (w.alloc (objO a1 a2 a3 a4)) (ext F w (w.alloc (objO a1 a2 a3 a4))) b T L ∧ Only F w (w.alloc (objO a1 a2 a3 a4)))
    have c1 : (w.alloc (objO a1 a2 a3 a4)).cell? ⟨w.heap.size, 1, none⟩ = some (.int .i64 a2) := World.cell?_alloc_new w _ _ 1
    have ev : allocV L a2 = 0 := by unfold allocV; rw [if_neg h0]
    have el : allocL L a1 a2 a3 a4 = L := by unfold allocL; rw [if_neg h0]
    rw [ev, el]
    have HI := Lib.hid (Is_any a2 _ h')
    have hlt := h.lt
    by_cases h1 : a2 ≠ -1 ∧ at? L a2 = none
    · have e2 : allocE L a2 = 2 := by unfold allocE; rw [if_pos h1]
      rw [e2]
      have dne : (a2 != -1) = true := by simpa using h1.1
      have eb : isB L a2 = false := by simp [isB, h1.2]
      rw [eb] at HI
      simp only [objO] at c1 HI HM ⊢
      clear h h' hb h0 ev el e2 h1
      go_enter Try.func29, Try.ntmps29
      go_wp2_with (go_at_call 34; (with_reducible refine (HI.out).mono ?_); rintro e w' ⟨rfl, rfl⟩)
      go_ret2
      exact ⟨rfl, HM.out⟩
    · have e2 : allocE L a2 = 71 := by
        unfold allocE at h0 ⊢
        rw [if_neg h1] at h0 ⊢
        split
        · rfl
        · rename_i h2
          rw [if_neg h2] at h0
          exact absurd rfl h0
      have hl : 5000 ≤ L.length := by
        unfold allocE at e2
        rw [if_neg h1] at e2
        split at e2
        · assumption
        · cases e2
      have hl' : decide ((5000 : Int) ≤ (L.length : Int)) = true := decide_eq_true (by omega)
      have hl2 : (5000 : Int) ≤ (L.length : Int) := by omega
      rw [e2]
      obtain ⟨⟨v, ths, hh, eL⟩, h2, h3⟩ := h'
      obtain ⟨A, c, rfl, c0, -⟩ := hh.form
      rw [show ths.length = L.length by rw [eL]; simp] at c0
      have hbl : b < w.heap.size := hlt b hh.mine
      have hcase : a2 = -1 ∨ ((a2 != -1) = true ∧ isB L a2 = true) := by
        by_cases e : a2 = -1
        · exact .inl e
        · refine .inr ⟨by simpa using e, ?_⟩
          cases eb : isB L a2 with
          | true => rfl
          | false => exact absurd ⟨e, isB_ne eb⟩ h1
      simp only [objO] at c0 c1 HI HM ⊢
      clear hb h0 ev el e2 h1 h hh eL
      rcases hcase with rfl | ⟨dne, hib⟩
      · go_enter Try.func29, Try.ntmps29
        go_wp2_with (go_at_call 34; (with_reducible refine (HI.out).mono ?_); rintro e w' ⟨rfl, rfl⟩)
        go_ret2
        exact ⟨rfl, HM.out⟩
      · rw [hib] at HI
        go_enter Try.func29, Try.ntmps29
        go_wp2_with (go_at_call 34; (with_reducible refine (HI.out).mono ?_); rintro e w' ⟨rfl, rfl⟩)
        go_ret2
        exact ⟨rfl, HM.out⟩
end Go.Proofs.Ytpbbinppikaamaa
