/- jlex.IsName. -/
import Derived.Test.YtiejpenffpjmeaaDoorSet
namespace Go.Proofs.YtiejpenffpjmeaaDoor
open Go.RowKit Go.Proofs

theorem nameB_letter {c : UInt8} (h : letterB c = true) : nameB c = true := by unfold nameB; rw [h]; rfl
theorem run_all {p : UInt8 → Bool} : ∀ {l : Bs}, runL p l = l.length → l.all p = true
  | [], _ => rfl
  | c :: r, h => by
    unfold runL at h
    rw [List.takeWhile_cons] at h
    cases hc : p c with
    | false => rw [hc] at h; simp at h
    | true =>
      rw [hc] at h
      simp at h
      have := run_all (p := p) (l := r) h
      rw [List.all_cons, hc, this]
      rfl

set_option maxHeartbeats 1000000 in
theorem isName_any (s : ByteArray) (w : World) (hs : s.size ≤ maxLen) :
    Calls Tryd.prog 75 #[.string s] w fun e w' => e = .returned (.bool (isNameL s.data.toList)) ∧ Below w.heap.size w w' := by
  have HR := Lib.hid (fun w => run24_any s w hs)
  have HW := Lib.hid (fun w => isWord_any s w hs)
  unfold maxLen at hs
  by_cases h0 : s.size = 0
  · have hl : s.data.toList = [] := List.eq_nil_of_length_eq_zero (by rw [len_toList]; exact h0)
    have hN := Lib.hid (show isNameL s.data.toList = false by rw [hl]; rfl)
    have he : (s.toList == []) = true := by rw [Lib.toList_data, hl]; rfl
    clear hl
    go_enter Tryd.func75, Tryd.ntmps75
    go_wp2
    go_ret
    exact ⟨ret_b hN.out.symm, Below.refl _ _⟩
  · have h1 : 0 < s.size := by omega
    have g1 : (0 : Int) < s.size := by omega
    have hl : s.data.toList = s[0] :: s.data.toList.drop 1 := by
      have := drop_toList s 0 h1
      simpa using this
    have he : (s.toList == []) = false := by rw [Lib.toList_data, hl]; rfl
    have hN : isNameL s.data.toList = (letterB s[0] && (decide (runL nameB s.data.toList = s.data.toList.length) && !isWordL s.data.toList)) := by
      have key : ∀ c r, isNameL (c :: r) = (letterB c && (decide (runL nameB (c :: r) = (c :: r).length) && !isWordL (c :: r))) := by
        intro c r
        show (letterB c && (r.all nameB && !isWordL (c :: r))) = _
        cases hc : letterB c with
        | false => rfl
        | true =>
          by_cases ha : r.all nameB = true
          · rw [ha, decide_eq_true (runL_all_such _ _ (fun x hx => by
              rcases List.mem_cons.1 hx with rfl | hx
              · exact nameB_letter hc
              · exact List.all_eq_true.1 ha x hx))]
          · rw [decide_eq_false (fun e => ha (by
              have := run_all e
              rw [List.all_cons] at this
              exact (Bool.and_eq_true _ _ ▸ this).2))]
            simp only [Bool.not_eq_true] at ha
            rw [ha]
      rw [hl]
      exact key _ _
    rw [len_toList] at hN
    obtain ⟨n, hn⟩ : ∃ n, runL nameB s.data.toList = n := ⟨_, rfl⟩
    obtain ⟨b, hb⟩ : ∃ b, isWordL s.data.toList = b := ⟨_, rfl⟩
    have HR := fun w => HR.out w
    have HW := fun w => HW.out w
    rw [hn] at hN HR
    rw [hb] at hN HW
    have HR := Lib.hid HR
    have HW := Lib.hid HW
    have HL := Lib.hid (letter_any s[0])
    cases hc : letterB s[0] with
    | false =>
      rw [hc] at hN HL
      have hN := Lib.hid hN
      clear hl hn hb hc
      go_enter Tryd.func75, Tryd.ntmps75
      go_wp2_with (go_at_call 79; refine (HL.out _).mono ?_; rintro e w' ⟨rfl, rfl⟩)
      go_ret
      exact ⟨ret_b (by rw [hN.out]; rfl), Below.refl _ _⟩
    | true =>
      rw [hc] at hN HL
      by_cases hz : n = s.size
      · have hN2 : isNameL s.data.toList = !b := by rw [hN, decide_eq_true hz]; simp
        clear hl hn hb hc hN
        have hM := Lib.hid hN2
        clear hN2
        subst hz
        go_enter Tryd.func75, Tryd.ntmps75
        go_wp2_with (first | (go_at_call 79; refine (HL.out _).mono ?_; rintro e w' ⟨rfl, rfl⟩) | (go_at_call 80; refine (HR.out _).mono ?_; rintro e w' ⟨rfl, rfl⟩) | (go_at_call 76; refine (HW.out _).mono ?_; rintro e w1 ⟨rfl, hB1⟩))
        go_ret
        exact ⟨ret_b (by rw [hM.out]), hB1⟩
      · have hN : isNameL s.data.toList = false := by rw [hN, decide_eq_false hz]; simp
        have hN := Lib.hid hN
        have d : ((n : Int) == s.size) = false := by
          rw [beq_eq_false_iff_ne]
          omega
        have d2 : (n == s.size) = false := by simpa using hz
        clear hl hn hb hc
        go_enter Tryd.func75, Tryd.ntmps75
        go_wp2_with (first | (go_at_call 79; refine (HL.out _).mono ?_; rintro e w' ⟨rfl, rfl⟩) | (go_at_call 80; refine (HR.out _).mono ?_; rintro e w' ⟨rfl, rfl⟩))
        go_ret
        exact ⟨ret_b hN.out.symm, Below.refl _ _⟩
end Go.Proofs.YtiejpenffpjmeaaDoor
