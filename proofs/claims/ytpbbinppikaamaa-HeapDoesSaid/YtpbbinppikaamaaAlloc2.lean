/- heap.Alloc. -/
import Derived.Test.YtpbbinppikaamaaAlloc
namespace Go.Proofs.Ytpbbinppikaamaa
open Go.RowKit Go.Proofs Go.Maps

/-- The run of the append of a new object. -/
theorem alloc_run {w : World} {F : Nat → Prop} {b T : Nat} {L : Hp} {v : Value} {sp : List Spot} (h : HeapAt w F b T L v sp) (h3 : L.length ≤ 5000) (a1 a2 a3 a4 : Int) :
    ∃ u w3, (Builtin.append_ #[58, 58] 58 #[v, .slice (some ⟨w.heap.size + 1 + 1, 0, none⟩) 1 1]).run Try.prog (laid w a1 a2 a3 a4).drew = .ok u w3 ∧ App (laid w a1 a2 a3 a4) 66 1 (L.length + 1) v (sp.map ptr ++ [ptr (spot w)]) u w3 := by
  obtain ⟨u, w3, h1, h2⟩ := app_one (P := Try.prog) (w := (laid w a1 a2 a3 a4).drew) (t := 58) (ty := 58) Try.underlying58 info66 rfl (by decide) (by decide) (row_keep (w' := (laid w a1 a2 a3 a4).drew) h.row (fun j hj => (laid_below w a1 a2 a3 a4).block j (row_lt h.row hj))) (w.heap.size + 2) [ptr (spot w)] 66 (laid_slice w a1 a2 a3 a4) rfl (by simp [ptr, Value.oneCell']) (by omega)
  exact ⟨u, w3, h1, h2.own, ⟨h2.grown.os, h2.grown.tape, h2.grown.output, h2.grown.size, h2.grown.block⟩, h2.lies⟩
def objO (a b c d : Int) : Obj := .cells #[.int .i64 a, .int .i64 b, .int .i64 c, .int .i64 d] 30

set_option maxHeartbeats 2000000 in
theorem alloc_in {F : Nat → Prop} {b T : Nat} {L : Hp} (a1 a2 a3 a4 : Int) (w : World) (h : IsH w F b T L) (h0 : allocE L a2 = 0) :
    Calls Try.prog 23 #[.pointer (some ⟨b, 0, none⟩), .agg #[.int .i64 a1, .int .i64 a2, .int .i64 a3, .int .i64 a4]] w fun e w' => e = .returned (.tuple #[.int .i64 L.length, .int .i64 0]) ∧ IsH w' (ext F w w') b T (L ++ [⟨a1, a2, a3, a4, []⟩]) ∧ Only F w w' := by
  have hb := (Below.refl w.heap.size w).alloc (Nat.le_refl _) (objO a1 a2 a3 a4)
  have h' := h.below hb
  obtain ⟨hp1, hp2, hl⟩ := allocE_zero h0
  have hwf := h
  obtain ⟨⟨v, sp, hh⟩, h2, h3⟩ := h'
  obtain ⟨A, c, rfl, -, -⟩ := row_slice hh.row
  have hbl : b < w.heap.size := h.lt _ (hh.mine)
  have c0 : (w.alloc (objO a1 a2 a3 a4)).cell? ⟨b, 0, none⟩ = some (.slice A L.length c) := cell_of_row _ b 0 _ _ _ hh.head
  have c1 : (w.alloc (objO a1 a2 a3 a4)).cell? ⟨w.heap.size, 1, none⟩ = some (.int .i64 a2) := World.cell?_alloc_new w _ _ 1
  have hmm := @run_makeMap Try.prog
  have HL := Lib.hid (len_any _ ⟨⟨_, sp, hh⟩, h2, h3⟩)
  have HA := Lib.hid (fun (hne : a2 ≠ -1) => (by
    cases ho : at? L a2 with
    | none => exact absurd h0 (by unfold allocE; rw [if_pos ⟨hne, ho⟩]; decide)
    | some o =>
      obtain ⟨n, e, hn, hL⟩ := at?_some ho
      obtain ⟨p, hp, hob⟩ := hh.has hL
      have := at_in n p _ hh h2 h3 hp
      rw [← e] at this
      exact ⟨p, this⟩ : ∃ p : Spot, Calls Try.prog 33 #[.pointer (some ⟨b, 0, none⟩), .int .i64 a2] (w.alloc (objO a1 a2 a3 a4)) fun e w' => e = .returned (.pointer (some ⟨p.b, 0, none⟩)) ∧ w.alloc (objO a1 a2 a3 a4) = w'))
  have HR := Lib.hid (alloc_run hh h3 a1 a2 a3 a4)
  have HF := Lib.hid (fun (u : Value) (w3 : World) (happ : App (laid (w.alloc (objO a1 a2 a3 a4)) a1 a2 a3 a4) 66 1 (L.length + 1) (.slice A L.length c) (sp.map ptr ++ [ptr (spot (w.alloc (objO a1 a2 a3 a4)))]) u w3) => hh.alloc happ)
  have hl' : decide ((5000 : Int) ≤ (L.length : Int)) = false := decide_eq_false (by omega)
  have hbl1 : b < w.heap.size + 1 := by omega
  have hbl2 : b < w.heap.size + 1 + 1 := by omega
  have hbl3 : b < w.heap.size + 1 + 1 + 1 := by omega
  have hl2 : (L.length : Int) < 5000 := by omega
  have HG := Lib.hid (fun (W : World) (u : Value) (sq : List Spot) (hA : HeapAt W (ext F (w.alloc (objO a1 a2 a3 a4)) W) b T (L ++ [⟨a1, a2, a3, a4, []⟩]) u sq) (ho : Only F (w.alloc (objO a1 a2 a3 a4)) W) =>
    (⟨⟨⟨u, sq, hA.mono (G := ext F w W) (fun i hi => hi.imp id (fun hi => ⟨by have := hb.size; omega, hi.2⟩)) (ext_lt h.lt (Nat.le_trans hb.size ho.size))⟩, by
      have := hwf.2.1.allocL a1 a2 a3 a4
      unfold allocL at this
      rwa [if_pos h0] at this, by simp; omega⟩, (Only.of_below hb).trans' ho⟩ : IsH W (ext F w W) b T (L ++ [⟨a1, a2, a3, a4, []⟩]) ∧ Only F w W))
  by_cases hne : a2 = -1
  · subst hne
    simp only [objO, laid, obO, World.size_alloc] at c0 c1 HL HR HF
    clear h hh h2 HA h0 hb hwf
    go_enter Try.func23, Try.ntmps23
    go_wp2_with (go_at_call 15; (with_reducible refine (HL.out).mono ?_); rintro e w' ⟨rfl, rfl⟩)
    go_region_law (refine step_app rfl (.tmp 28) (.tmp 33) 58 rfl _ _ rfl rfl _ (HR.out) ?_; intro u w3 happ; obtain ⟨A', c', rfl, -, -⟩ := row_slice happ.own; obtain ⟨hA4, ho4, hb4⟩ := HF.out _ _ happ; have e0 := cell_of_row w3 b 0 _ _ _ hb4; have f0 : w3.frozen? ⟨b, 0, none⟩ = false := by simp [World.frozen?, hb4])
    all_goals
      have HZ := Lib.hid (HG.out _ _ _ hA4 ho4)
      have HQ := Lib.hid (len_any _ HZ.out.1)
      clear hA4 ho4
      go_wp2_with (go_at_call 15; (with_reducible refine (HQ.out).mono ?_); rintro e w' ⟨rfl, rfl⟩)
      go_ret2
      exact ⟨by simp, HZ.out⟩
  · simp only [objO, laid, obO, World.size_alloc] at c0 c1 HL HR HF HA
    obtain ⟨q, HA⟩ := HA.out hne
    replace HA := Lib.hid HA
    have dne : (a2 != -1) = true := by simpa using hne
    clear h hh h2 h0 hb hwf
    go_enter Try.func23, Try.ntmps23
    go_wp2_with (first
      | (go_at_call 33; (with_reducible refine (HA.out).mono ?_); rintro e w' ⟨rfl, rfl⟩)
      | (go_at_call 15; (with_reducible refine (HL.out).mono ?_); rintro e w' ⟨rfl, rfl⟩))
    go_region_law (refine step_app rfl (.tmp 28) (.tmp 33) 58 rfl _ _ rfl rfl _ (HR.out) ?_; intro u w3 happ; obtain ⟨A', c', rfl, -, -⟩ := row_slice happ.own; obtain ⟨hA4, ho4, hb4⟩ := HF.out _ _ happ; have e0 := cell_of_row w3 b 0 _ _ _ hb4; have f0 : w3.frozen? ⟨b, 0, none⟩ = false := by simp [World.frozen?, hb4])
    all_goals
      have HZ := Lib.hid (HG.out _ _ _ hA4 ho4)
      have HQ := Lib.hid (len_any _ HZ.out.1)
      clear hA4 ho4
      go_wp2_with (go_at_call 15; (with_reducible refine (HQ.out).mono ?_); rintro e w' ⟨rfl, rfl⟩)
      go_ret2
      exact ⟨by simp, HZ.out⟩
set_option maxHeartbeats 1000000 in
theorem Alloc_any {F : Nat → Prop} {b T : Nat} {L : Hp} (a1 a2 a3 a4 : Int) (w : World) (h : IsH w F b T L) :
    Calls Try.prog 23 #[.pointer (some ⟨b, 0, none⟩), .agg #[.int .i64 a1, .int .i64 a2, .int .i64 a3, .int .i64 a4]] w fun e w' => e = .returned (.tuple #[.int .i64 (allocV L a2), .int .i64 (allocE L a2)]) ∧ IsH w' (ext F w w') b T (allocL L a1 a2 a3 a4) ∧ Only F w w' := by
  by_cases h0 : allocE L a2 = 0
  · unfold allocV allocL
    rw [if_pos h0, if_pos h0, h0]
    exact alloc_in a1 a2 a3 a4 w h h0
  · have hb := (Below.refl w.heap.size w).alloc (Nat.le_refl _) (objO a1 a2 a3 a4)
    have h' := h.below hb
    have HM := Lib.hid (⟨h'.mono (G := ext F w (w.alloc (objO a1 a2 a3 a4))) (fun _ h => .inl h) (ext_lt h.lt hb.size), Only.of_below hb⟩ : IsH (w.alloc (objO a1 a2 a3 a4)) (ext F w (w.alloc (objO a1 a2 a3 a4))) b T L ∧ Only F w (w.alloc (objO a1 a2 a3 a4)))
    have c1 : (w.alloc (objO a1 a2 a3 a4)).cell? ⟨w.heap.size, 1, none⟩ = some (.int .i64 a2) := World.cell?_alloc_new w _ _ 1
    have ev : allocV L a2 = 0 := by unfold allocV; rw [if_neg h0]
    have el : allocL L a1 a2 a3 a4 = L := by unfold allocL; rw [if_neg h0]
    rw [ev, el]
    have HL := Lib.hid (len_any _ h')
    by_cases h1 : a2 ≠ -1 ∧ at? L a2 = none
    · have HA := Lib.hid (at_out a2 _ h' h1.2)
      have e2 : allocE L a2 = 2 := by unfold allocE; rw [if_pos h1]
      rw [e2]
      have dne : (a2 != -1) = true := by simpa using h1.1
      simp only [objO] at c1 HA HM ⊢
      clear h h' hb h0 ev el e2 h1 HL
      go_enter Try.func23, Try.ntmps23
      go_wp2_with (go_at_call 33; (with_reducible refine (HA.out).mono ?_); rintro e w' ⟨rfl, rfl⟩)
      go_ret2
      exact ⟨rfl, HM.out⟩
    · have e2 : allocE L a2 = 71 := by
        unfold allocE at h0 ⊢
        rw [if_neg h1] at h0 ⊢
        split
        · rfl
        · rename_i h2
          rw [if_neg h2] at h0
          exact absurd rfl h0
      have hl : 5000 ≤ L.length := by
        unfold allocE at e2
        rw [if_neg h1] at e2
        split at e2
        · assumption
        · cases e2
      have hl' : decide ((5000 : Int) ≤ (L.length : Int)) = true := decide_eq_true (by omega)
      have hl2 : (5000 : Int) ≤ (L.length : Int) := by omega
      rw [e2]
      by_cases hne : a2 = -1
      · subst hne
        simp only [objO] at c1 HL HM ⊢
        clear h h' hb h0 ev el e2 h1
        go_enter Try.func23, Try.ntmps23
        go_wp2_with (go_at_call 15; (with_reducible refine (HL.out).mono ?_); rintro e w' ⟨rfl, rfl⟩)
        go_ret2
        exact ⟨rfl, HM.out⟩
      · obtain ⟨o, ho⟩ : ∃ o, at? L a2 = some o := by
          cases e : at? L a2 with
          | none => exact absurd ⟨hne, e⟩ h1
          | some o => exact ⟨o, rfl⟩
        obtain ⟨n, en, hn, hL⟩ := at?_some ho
        obtain ⟨⟨v, sp, hh⟩, h2, h3⟩ := h'
        obtain ⟨p, hp, hob⟩ := hh.has hL
        have HA := Lib.hid (at_in n p _ hh h2 h3 hp)
        rw [← en] at HA
        have dne : (a2 != -1) = true := by simpa using hne
        simp only [objO] at c1 HL HM HA ⊢
        clear h hh hb h0 ev el e2 h1 ho hL hob hp en
        go_enter Try.func23, Try.ntmps23
        go_wp2_with (first
          | (go_at_call 33; (with_reducible refine (HA.out).mono ?_); rintro e w' ⟨rfl, rfl⟩)
          | (go_at_call 15; (with_reducible refine (HL.out).mono ?_); rintro e w' ⟨rfl, rfl⟩))
        go_ret2
        exact ⟨rfl, HM.out⟩
end Go.Proofs.Ytpbbinppikaamaa
