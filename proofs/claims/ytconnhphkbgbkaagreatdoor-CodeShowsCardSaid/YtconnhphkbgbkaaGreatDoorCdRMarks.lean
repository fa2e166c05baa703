/- gumshoeref09.Marks: the document's own answer. -/
import Derived.Test.YtconnhphkbgbkaaGreatDoorCdMarks
import Derived.Test.YtconnhphkbgbkaaGreatDoorCdRSame
import Derived.Test.YtconnhphkbgbkaaGreatDoorCdShow
namespace Go.Proofs.YtconnhphkbgbkaaGreatDoor
set_option linter.unusedSimpArgs false
set_option linter.unusedVariables false
open Go.RowKit Go.Proofs

theorem pairs_len (l : List Proc) (k : Nat) (h : ∀ p ∈ l, p.ins.length ≤ k) : (pairsL l).length ≤ l.length * k := by
  induction l with
  | nil => simp [pairsL]
  | cons a r ih =>
    have h1 := ih fun p hp => h p (by simp [hp])
    have h2 := h a (by simp)
    unfold pairsL at h1 ⊢
    rw [List.flatMap_cons, List.length_append, List.length_map, List.length_cons, Nat.add_mul]
    omega
theorem marks_small {l : List Proc} (h : smallC l = true) : (marksC l).length ≤ 900 := by
  rw [smallC_iff] at h
  have h1 := pairs_len l 60 fun p hp => (smallP_iff.1 (h.2 p hp)).1
  have h2 : l.length * 60 ≤ 15 * 60 := Nat.mul_le_mul_right _ h.1
  have h3 := List.length_filter_le (fun q : Proc × Ins => marked q.2) (pairsL l)
  unfold marksC
  rw [List.length_map]
  omega
def marksI (l : List Ins) : List Int := (l.filter marked).map (·.n)
theorem marksC_one (p : Proc) : marksC [p] = marksI p.ins := by
  simp [marksC, pairsL, marksI, List.filter_map, Function.comp_def]
theorem marksC_take {l : List Proc} {k : Nat} {p : Proc} (h : l[k]? = some p) : marksC (l.take (k + 1)) = marksC (l.take k) ++ marksI p.ins := by
  rw [List.take_add_one, h, marksC_append]
  congr 1
  exact marksC_one p
theorem marksI_take {l : List Ins} {j : Nat} {x : Ins} (h : l[j]? = some x) : marksI (l.take (j + 1)) = marksI (l.take j) ++ if marked x then [x.n] else [] := by
  rw [List.take_add_one, h]
  unfold marksI
  rw [List.filter_append, List.map_append]
  congr 1
  cases hm : marked x <;> simp [hm]
theorem marksC_le (l : List Proc) (k : Nat) : (marksC (l.take k)).length ≤ (marksC l).length := by
  conv => rhs; rw [← List.take_append_drop k l, marksC_append, List.length_append]
  omega
theorem marksI_le (l : List Ins) (k : Nat) : (marksI (l.take k)).length ≤ (marksI l).length := by
  unfold marksI
  rw [List.length_map, List.length_map]
  exact ((List.take_sublist k l).filter _).length_le
set_option maxRecDepth 100000 in
set_option maxHeartbeats 4000000 in
theorem rmarks_any (v : Value) (l : List Proc) (w : World) (hl : CodeAt w v l) (hsm : (marksC l).length ≤ 900000) :
    Calls Tryz.prog 10 #[v] w fun e W' => (∃ v', e = .returned v' ∧ OwnI W' w.heap.size v' (marksC l)) ∧ Below w.heap.size w W' := by
  obtain ⟨A, cap, rfl⟩ := SlAt.form hl
  obtain ⟨-, hca, hcm, -⟩ := SlAt.get hl
  have hm1 : cap ≤ 9223372036854775807 := hcm
  have HL := Lib.hid hl
  have HSm := Lib.hid hsm
  clear hl hcm hsm
  go_enter Tryz.func10, Tryz.ntmps10
  go_wp2
  go_loopw [3, 4] (fun v i wr => ∃ k : Nat, k ≤ l.length ∧ i = .int .i64 k ∧ OwnR 1 3 IntP w wr w.heap.size v (marksC (l.take k)) ∧ Below w.heap.size w wr) (fun _ i _ => l.length - (intOf i).toNat)
  case atStart => exact ⟨0, Nat.zero_le _, rfl, OwnR.nil _ _ _ _ _ _, Below.refl _ _⟩
  case round =>
    obtain ⟨k, hk, rfl, hown, hB⟩ := hrel
    have HO := Lib.hid (And.intro hown hB)
    clear hown hB
    by_cases hlt : k < l.length
    · obtain ⟨g, off, p, A', cx, rfl, hg, hp, hsl, hr, c0, c1⟩ := CodeAt.get HL.out k hlt
      have HC1 := Lib.hid c1
      rw [← HO.out.2.cell (p := ⟨g, off + k * 2 + 1, none⟩) hg] at c1
      obtain ⟨-, hpa, hpm, -⟩ := SlAt.get hsl
      have hpm1 : cx ≤ 9223372036854775807 := hpm
      have g1 : (k : Int) < l.length := by omega
      have HP := Lib.hid (And.intro hp hsl)
      have HLe := Lib.hid (show (marksC (l.take k)).length + (marksI p.ins).length ≤ 900000 by
        have h1 := marksC_le l (k + 1)
        rw [marksC_take hp, List.length_append] at h1
        have := HSm.out
        omega)
      clear hp hsl hr c0 hpm
      go_wp2
      go_loopw [3, 5] (fun v i wr => ∃ j : Nat, j ≤ p.ins.length ∧ i = .int .i64 j ∧ OwnR 1 3 IntP w wr w.heap.size v (marksC (l.take k) ++ marksI (p.ins.take j)) ∧ Below w.heap.size w wr) (fun _ i _ => p.ins.length - (intOf i).toNat)
      case atStart => exact ⟨0, Nat.zero_le _, rfl, by have := HO.out.1; simpa [marksI] using this, HO.out.2⟩
      case round =>
        obtain ⟨j, hj, rfl, hown, hB⟩ := hrel
        clear c1
        have c1 := (hB.cell (p := ⟨g, off + k * 2 + 1, none⟩) hg).trans HC1.out
        by_cases hlj : j < p.ins.length
        · obtain ⟨gi, oi, x, A2, c2, rfl, hgi, hx, hints, hfine, f0, f1, f2, f3, f4, f5, f6, f7⟩ := ins_get HP.out.2 j hlj
          rw [← hB.cell (p := ⟨gi, oi + j * 8, none⟩) hgi] at f0
          rw [← hB.cell (p := ⟨gi, oi + j * 8 + 1, none⟩) hgi] at f1
          rw [← hB.cell (p := ⟨gi, oi + j * 8 + 2, none⟩) hgi] at f2
          rw [← hB.cell (p := ⟨gi, oi + j * 8 + 3, none⟩) hgi] at f3
          rw [← hB.cell (p := ⟨gi, oi + j * 8 + 4, none⟩) hgi] at f4
          rw [← hB.cell (p := ⟨gi, oi + j * 8 + 5, none⟩) hgi] at f5
          rw [← hB.cell (p := ⟨gi, oi + j * 8 + 6, none⟩) hgi] at f6
          rw [← hB.cell (p := ⟨gi, oi + j * 8 + 7, none⟩) hgi] at f7
          have g2 : (j : Int) < p.ins.length := by omega
          have hal := below_box wr (.cells #[.int .i64 x.op, .int .i64 x.d, .int .i64 x.a, .int .i64 x.b, .int .i64 x.c, .string x.s, .int .i64 x.n, .slice A2 x.l.length c2] 33)
          have hal2 := two_box wr (.cells #[.int .i64 x.op, .int .i64 x.d, .int .i64 x.a, .int .i64 x.b, .int .i64 x.c, .string x.s, .int .i64 x.n, .slice A2 x.l.length c2] 33) (.cells #[.int .i64 x.n] 3)
          have hsrc : Src9 IntP w ((wr.alloc (.cells #[.int .i64 x.op, .int .i64 x.d, .int .i64 x.a, .int .i64 x.b, .int .i64 x.c, .string x.s, .int .i64 x.n, .slice A2 x.l.length c2] 33)).alloc (.cells #[.int .i64 x.n] 3)) (.slice (some ⟨(wr.alloc (.cells #[.int .i64 x.op, .int .i64 x.d, .int .i64 x.a, .int .i64 x.b, .int .i64 x.c, .string x.s, .int .i64 x.n, .slice A2 x.l.length c2] 33)).heap.size, 0, none⟩) 1 1) [x.n] :=
            OwnR.src (OwnR.lit IntP.cells _ [.int .i64 x.n] x.n ⟨rfl, hfine.1.2.2.2.2.2⟩)
          have hrun := app9 (p := Tryz.prog) (t := 29) IntP.cells (by decide) Tryz.underlying29 info3 rfl (by decide) (hown.below hal2) hsrc (by have := hB.size; simp; omega) (by
            rw [List.length_append]
            have := marksI_le p.ins j
            have := HLe.out
            simp
            omega)
          rw [World.size_alloc] at hrun
          have HRun := Lib.hid hrun
          have HO2 := Lib.hid (And.intro (hown.below hal) (And.intro (hB.trans (hal.mono hB.size)) (hB.trans (hal2.mono hB.size))))
          have HSt := Lib.hid (marksI_take hx)
          have HX := Lib.hid hx
          have hx9 : (x.op = 6 ∨ x.op = 12 ∨ x.op = 13) ∨ (x.op ≠ 6 ∧ x.op ≠ 12 ∧ x.op ≠ 13) := by omega
          clear hal hal2 hsrc hrun hown hB hx hints hfine
          rcases hx9 with hx9 | ⟨h6, h12, h13⟩
          · have HM := Lib.hid (show marked x = true from decide_eq_true hx9)
            have hcase : ((x.op == 6) = true) ∨ ((x.op == 6) = false ∧ (x.op == 12) = true) ∨ ((x.op == 6) = false ∧ (x.op == 12) = false ∧ (x.op == 13) = true) := by
              simp only [beq_iff_eq, beq_eq_false_iff_ne]
              omega
            clear hx9
            rcases hcase with e6 | ⟨e6, e12⟩ | ⟨e6, e12, e13⟩
            all_goals
              go_wp2_with (at_builtin; refine wl_app rfl _ _ 29 rfl _ _ rfl rfl _ HRun.out ?_; rintro v5 w5 h5; have HE := Lib.hid (And.intro h5.own h5.below); clear h5)
              go_roundw
              case rel =>
                refine ⟨j + 1, by omega, by go_num, ?_, HO2.out.2.2.trans HE.out.2⟩
                rw [HSt.out, if_pos HM.out, ← List.append_assoc]
                exact HE.out.1
              case measure => simp [intOf]; omega
          · have HM := Lib.hid (show ¬ marked x = true from by unfold marked; rw [decide_eq_true_iff]; omega)
            have e6 : (x.op == 6) = false := by simp [h6]
            have e12 : (x.op == 12) = false := by simp [h12]
            have e13 : (x.op == 13) = false := by simp [h13]
            clear h6 h12 h13
            go_wp2
            go_roundw
            case rel =>
              refine ⟨j + 1, by omega, by go_num, ?_, HO2.out.2.1⟩
              rw [HSt.out, if_neg HM.out, List.append_nil]
              exact HO2.out.1
            case measure => simp [intOf]; omega
        · have g2 : ¬ (j : Int) < p.ins.length := by omega
          have HR := Lib.hid (show OwnR 1 3 IntP w wr w.heap.size _ (marksC (l.take (k + 1))) by
            rw [marksC_take HP.out.1]
            rw [List.take_of_length_le (l := p.ins) (i := j) (by omega)] at hown
            exact hown)
          have HB := Lib.hid hB
          clear hown hB
          go_wp2
          go_roundw
          case rel => exact ⟨k + 1, by omega, by go_num, HR.out, HB.out⟩
          case measure => simp [intOf]; omega
    · have g1 : ¬ (k : Int) < l.length := by omega
      have HR := Lib.hid (show OwnR 1 3 IntP w wr w.heap.size _ (marksC l) by
        have := HO.out.1
        rw [List.take_of_length_le (by omega)] at this
        exact this)
      go_wp2
      go_ret
      exact ⟨⟨_, rfl, OwnI.of HR.out⟩, HO.out.2⟩
end Go.Proofs.YtconnhphkbgbkaaGreatDoor
