/- jtree.wording.allows. -/
import Derived.Test.YtiejpenffpjmeaaDoorFits
namespace Go.Proofs.YtiejpenffpjmeaaDoor
open Go.RowKit Go.Proofs

theorem sign_row (w : World) : StrRow (w.alloc (.cells #[.string ⟨#[43]⟩, .string ⟨#[45]⟩, .string ⟨#[42]⟩, .string ⟨#[60]⟩, .string ⟨#[60, 61]⟩, .string ⟨#[61, 61, 61]⟩, .string ⟨#[33, 61, 61]⟩] 9)) (.slice (some ⟨w.heap.size, 0, none⟩) 7 7) signsB := by
  refine ⟨some ⟨w.heap.size, 0, none⟩, 7, rfl, ⟨Nat.le_refl _, by unfold maxLen; decide⟩, fun _ => ⟨w.heap.size, rfl, by simp, fun j t hj => ?_⟩⟩
  rw [cell_of_row _ _ j _ 9 _ (heap_alloc_new w _)]
  match j, hj with
  | 0, hj => simp [signsB] at hj; subst hj; rfl
  | 1, hj => simp [signsB] at hj; subst hj; rfl
  | 2, hj => simp [signsB] at hj; subst hj; rfl
  | 3, hj => simp [signsB] at hj; subst hj; rfl
  | 4, hj => simp [signsB] at hj; subst hj; rfl
  | 5, hj => simp [signsB] at hj; subst hj; rfl
  | 6, hj => simp [signsB] at hj; subst hj; rfl
  | j + 7, hj => simp [signsB] at hj

set_option maxHeartbeats 4000000 in
theorem allows_any (k : Int) (s : Bs) (w : World) (hs : s.length ≤ maxLen) : Calls Tryd.prog 61 #[.int .i64 k, .string (bs s)] w fun e w' => e = .returned (.bool (allowsB k s)) ∧ Below w.heap.size w w' := by
  have HN := fun w => isName_any (bs s) w (by rw [bs_size]; exact hs)
  have HW := fun w => isWord_any (bs s) w (by rw [bs_size]; exact hs)
  have HO := fun v w (h : StrRow w v signsB) => oneOf_any s v signsB w h
  have hem : ((bs s).toList == []) = s.isEmpty := by
    rw [Lib.toList_data, bs_list, Bool.eq_iff_iff]
    simp
  rw [bs_list] at HN HW
  have HA : allowsB k s = if k = 1 then true else if k = 2 then signsB.contains s else if k = 4 then (s.isEmpty || isNameL s) else if k = 5 then (isWordL s || isNameL s) else if k = 3 then isNameL s else s.isEmpty := rfl
  obtain ⟨a, ea⟩ : ∃ a, isNameL s = a := ⟨_, rfl⟩
  obtain ⟨b, eb⟩ : ∃ a, isWordL s = a := ⟨_, rfl⟩
  obtain ⟨c, ec⟩ : ∃ a, signsB.contains s = a := ⟨_, rfl⟩
  obtain ⟨d, ed⟩ : ∃ a, s.isEmpty = a := ⟨_, rfl⟩
  obtain ⟨r, er⟩ : ∃ a, allowsB k s = a := ⟨_, rfl⟩
  rw [er, ea, eb, ec, ed] at HA
  rw [ea] at HN
  rw [eb] at HW
  rw [ed] at hem
  simp only [ec] at HO
  rw [er]
  have HN := Lib.hid HN
  have HW := Lib.hid HW
  have HO := Lib.hid HO
  have HR := Lib.hid (sign_row w)
  clear er ea eb ec ed hs
  by_cases k1 : k = 1
  · subst k1
    have hr : r = true := by rw [HA]; simp
    clear HA
    subst hr
    go_enter Tryd.func61, Tryd.ntmps61
    go_wp2
    go_ret
    exact ⟨rfl, Below.refl _ _⟩
  by_cases k2 : k = 2
  · subst k2
    have hr : r = c := by rw [HA]; simp
    clear HA
    subst hr
    go_enter Tryd.func61, Tryd.ntmps61
    go_wp2_with (first | (go_at_call 74; refine (HO.out _ _ HR.out).mono ?_; rintro e w1 ⟨rfl, rfl⟩))
    go_ret
    exact ⟨rfl, (Below.refl _ w).alloc (Nat.le_refl _) _⟩
  by_cases k4 : k = 4
  · subst k4
    cases d with
    | true =>
      have hr : r = true := by rw [HA]; simp
      clear HA
      subst hr
      go_enter Tryd.func61, Tryd.ntmps61
      go_wp2
      go_ret
      exact ⟨rfl, Below.refl _ _⟩
    | false =>
      have hr : r = a := by rw [HA]; simp
      clear HA
      subst hr
      go_enter Tryd.func61, Tryd.ntmps61
      go_wp2_with (first | (go_at_call 75; refine (HN.out _).mono ?_; rintro e w1 ⟨rfl, hB1⟩))
      go_ret
      exact ⟨rfl, hB1⟩
  by_cases k5 : k = 5
  · subst k5
    cases b with
    | true =>
      have hr : r = true := by rw [HA]; simp
      clear HA
      subst hr
      go_enter Tryd.func61, Tryd.ntmps61
      go_wp2_with (first | (go_at_call 76; refine (HW.out _).mono ?_; rintro e w2 ⟨rfl, hB2⟩))
      go_ret
      exact ⟨rfl, hB2⟩
    | false =>
      have hr : r = a := by rw [HA]; simp
      clear HA
      subst hr
      go_enter Tryd.func61, Tryd.ntmps61
      go_wp2_with (first | (go_at_call 76; refine (HW.out _).mono ?_; rintro e w2 ⟨rfl, hB2⟩) | (go_at_call 75; refine (HN.out _).mono ?_; rintro e w1 ⟨rfl, hB1⟩))
      go_ret
      exact ⟨rfl, hB2.trans (hB1.mono hB2.size)⟩
  by_cases k3 : k = 3
  · subst k3
    have hr : r = a := by rw [HA]; simp
    clear HA
    subst hr
    go_enter Tryd.func61, Tryd.ntmps61
    go_wp2_with (first | (go_at_call 75; refine (HN.out _).mono ?_; rintro e w1 ⟨rfl, hB1⟩))
    go_ret
    exact ⟨rfl, hB1⟩
  have e1 : (k == 1) = false := by simpa using k1
  have e2 : (k == 2) = false := by simpa using k2
  have e3 : (k == 3) = false := by simpa using k3
  have e4 : (k == 4) = false := by simpa using k4
  have e5 : (k == 5) = false := by simpa using k5
  rw [if_neg k1, if_neg k2, if_neg k4, if_neg k5, if_neg k3] at HA
  have HA := Lib.hid HA
  clear k1 k2 k3 k4 k5
  go_enter Tryd.func61, Tryd.ntmps61
  go_wp2
  go_ret
  exact ⟨ret_b HA.out.symm, Below.refl _ _⟩
end Go.Proofs.YtiejpenffpjmeaaDoor
