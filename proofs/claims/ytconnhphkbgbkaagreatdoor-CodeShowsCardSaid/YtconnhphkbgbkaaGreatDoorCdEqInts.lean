/- slices.Equal of numbers. -/
import Derived.Test.YtconnhphkbgbkaaGreatDoorCdRows
import Derived.Deep.DeepMust
namespace Go.Proofs.YtconnhphkbgbkaaGreatDoor
open Go.RowKit Go.Proofs

theorem list_next {α : Type} {a b : List α} (hl : a.length = b.length) {k : Nat} (h : ∀ i, i < k → a[i]? = b[i]?) (hk : a.length ≤ k) : a = b := by
  apply List.ext_getElem? 
  intro i
  by_cases hi : i < k
  · exact h i hi
  · rw [List.getElem?_eq_none (by omega), List.getElem?_eq_none (by omega)]
theorem next_all {α : Type} {a b : List α} {k : Nat} (h : ∀ i, i < k → a[i]? = b[i]?) (h2 : a[k]? = b[k]?) : ∀ i, i < k + 1 → a[i]? = b[i]? := fun i hi => by
  rcases Nat.lt_or_ge i k with h3 | h3
  · exact h i h3
  · obtain rfl : i = k := by omega
    exact h2
theorem below_drewN9 (w : World) (n : Nat) : Below w.heap.size w (w.drewN n) := ⟨rfl, rfl, rfl, Nat.le_refl _, fun _ _ => rfl⟩

set_option maxRecDepth 100000 in
set_option maxHeartbeats 4000000 in
theorem eqInts_any (va vb : Value) (a b : List Int) (w : World) (ha : Ints9 w va a) (hb : Ints9 w vb b) :
    Calls Tryz.prog 67 #[va, vb] w fun e w' => e = .returned (.bool (decide (a = b))) ∧ Below w.heap.size w w' := by
  obtain ⟨A, cap, rfl⟩ := SlAt.form ha
  obtain ⟨B, cap', rfl⟩ := SlAt.form hb
  obtain ⟨-, hca, hcm, -⟩ := SlAt.get ha
  obtain ⟨-, hcb, hcm', -⟩ := SlAt.get hb
  have hm1 : cap ≤ 9223372036854775807 := hcm
  have hm2 : cap' ≤ 9223372036854775807 := hcm'
  have HA := Lib.hid ha
  have HB := Lib.hid hb
  clear ha hb hcm hcm'
  by_cases hl : a.length = b.length
  · have hq : ((a.length : Int) != b.length) = false := by simp [hl]
    have HL := Lib.hid hl
    clear hl
    go_enter Tryz.func67, Tryz.ntmps67
    go_wp2
    go_loopw [13] (fun i wr => ∃ k : Nat, k ≤ a.length ∧ i = .int .i64 k ∧ (∀ j, j < k → a[j]? = b[j]?) ∧ Below w.heap.size w wr) (fun i _ => a.length - (intOf i).toNat)
    case atStart => exact ⟨0, Nat.zero_le _, rfl, fun j hj => absurd hj (by omega), Below.refl _ _⟩
    case round =>
      obtain ⟨k, hk, rfl, hall, hB⟩ := hrel
      have HAll := Lib.hid hall
      clear hall
      by_cases hlt : k < a.length
      · obtain ⟨g, off, x, rfl, hg, hx, hxi, hc⟩ := int_get HA.out k hlt
        obtain ⟨g', off', y, rfl, hg', hy, hyi, hc'⟩ := int_get HB.out k (by rw [← HL.out]; exact hlt)
        rw [← hB.cell (p := ⟨g, off + k, none⟩) hg] at hc
        rw [← hB.cell (p := ⟨g', off' + k, none⟩) hg'] at hc'
        have g1 : (k : Int) < a.length := by omega
        have g2 : (k : Int) < b.length := by have := HL.out; omega
        have HX := Lib.hid (And.intro hx hy)
        clear hx hy hxi hyi
        by_cases hxy : x = y
        · subst hxy
          have hne : (x != x) = false := by simp
          go_wp2_with fail
          go_quiet (fail)
          go_wp2
          go_roundw
          case rel => exact ⟨k + 1, by omega, by go_num, next_all HAll.out (HX.out.1.trans HX.out.2.symm), hB.trans ((below_drewN9 wr _).mono hB.size)⟩
          case measure => simp [intOf]; omega
        · have hne : (x != y) = true := by simpa using hxy
          have HF := Lib.hid (show decide (a = b) = false by
            rw [decide_eq_false_iff_not]
            rintro rfl
            exact hxy (Option.some.inj (HX.out.1.symm.trans HX.out.2)))
          clear hxy
          go_wp2_with fail
          go_quiet (fail)
          go_wp2
          go_ret
          exact ⟨by rw [HF.out]; rfl, hB.trans ((below_drewN9 wr _).mono hB.size)⟩
      · have g1 : ¬ (k : Int) < a.length := by omega
        have HF := Lib.hid (show decide (a = b) = true by
          rw [decide_eq_true_iff]
          exact list_next HL.out HAll.out (by omega))
        go_wp2
        go_ret
        exact ⟨by rw [HF.out]; rfl, hB⟩
  · have hq : ((a.length : Int) != b.length) = true := by simp; omega
    have HF := Lib.hid (show decide (a = b) = false by
      rw [decide_eq_false_iff_not]
      rintro rfl
      exact hl rfl)
    clear hl
    go_enter Tryz.func67, Tryz.ntmps67
    go_wp2
    go_ret
    exact ⟨by rw [HF.out]; rfl, Below.refl _ _⟩
end Go.Proofs.YtconnhphkbgbkaaGreatDoor
