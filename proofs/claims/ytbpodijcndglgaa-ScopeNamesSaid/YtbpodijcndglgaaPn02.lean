/- What each operation asks for, one by one. No program. -/
import Derived.Test.YtbpodijcndglgaaPn01
set_option linter.unusedSimpArgs false
set_option linter.unusedVariables false
set_option maxRecDepth 100000
set_option maxHeartbeats 40000000
namespace Go.Proofs.Ytbpodijcndglgaa
theorem sound_at {t : Tr} {c : Int} {s : Int × Int × Int × Int} (e : t.op = c) (hs : shapeOf c = some s) : soundOne t = true ↔ fitsB s t = true := by
 unfold soundOne
 rw [e, hs]
theorem fits_iff (k num lo hi : Int) (t : Tr) : fitsB (k, num, lo, hi) t = true ↔ allowsB k t.s = true ∧ 0 ≤ t.n ∧ t.n ≤ num ∧ lo ≤ t.l.length ∧ (t.l.length : Int) ≤ hi ∧ partsB t.op t.l.length 0 t.l = true := by
 unfold fitsB
 simp [Bool.and_eq_true]
theorem len0 {l : List Tr} : l.length = 0 ↔ l = [] := List.length_eq_zero_iff
theorem len1 {l : List Tr} (h : l.length = 1) : ∃ a, l = [a] := List.length_eq_one_iff.1 h
theorem len2 {l : List Tr} (h : l.length = 2) : ∃ a b, l = [a, b] := by
 match l, h with
 | [a, b], _ => exact ⟨a, b, rfl⟩
theorem len3 {l : List Tr} (h : l.length = 3) : ∃ a b c, l = [a, b, c] := by
 match l, h with
 | [a, b, c], _ => exact ⟨a, b, c, rfl⟩
def isE (t : Tr) : Prop := hasB 0 t.op = true
def isS (t : Tr) : Prop := hasB 1 t.op = true
theorem empty_iff (s : Bs) : s.isEmpty = true ↔ s = [] := by cases s <;> simp
theorem inv_1 {t : Tr} (e : t.op = 1) : soundOne t = true ↔ isNameL t.s = true ∧ t.n = 0 ∧ t.l = [] := by
 rw [sound_at e (s := (3, 0, 0, 0)) (by rfl), fits_iff, e]
 constructor
 ·rintro ⟨h1, h2, h3, h4, h5, h6⟩
  have hl : t.l = [] := len0.1 (by omega)
  rw [hl] at h6 ⊢
  exact ⟨by first | exact h1 | (simp [allowsB, empty_iff] at h1; simp_all), by omega, rfl⟩
 ·rintro ⟨g1, g2, hl⟩
  rw [hl]
  refine ⟨by first | (simp [allowsB, empty_iff, *]; done) | (simp [allowsB]; simpa using g1), by omega, by omega, by simp, by simp, by simp [partsB, wantedB, *] <;> (try simp_all [isE, isS, hasB])⟩
theorem inv_2 {t : Tr} (e : t.op = 2) : soundOne t = true ↔ t.s = [] ∧ 0 ≤ t.n ∧ t.n ≤ 999999999999999 ∧ t.l = [] := by
 rw [sound_at e (s := (0, 999999999999999, 0, 0)) (by rfl), fits_iff, e]
 constructor
 ·rintro ⟨h1, h2, h3, h4, h5, h6⟩
  have hl : t.l = [] := len0.1 (by omega)
  rw [hl] at h6 ⊢
  exact ⟨by first | exact h1 | (simp [allowsB, empty_iff] at h1; simp_all), by omega, by omega, rfl⟩
 ·rintro ⟨g1, g2, g3, hl⟩
  rw [hl]
  refine ⟨by first | (simp [allowsB, empty_iff, *]; done) | (simp [allowsB]; simpa using g1), by omega, by omega, by simp, by simp, by simp [partsB, wantedB, *] <;> (try simp_all [isE, isS, hasB])⟩
theorem inv_3 {t : Tr} (e : t.op = 3) : soundOne t = true ↔ t.n = 0 ∧ t.l = [] := by
 rw [sound_at e (s := (1, 0, 0, 0)) (by rfl), fits_iff, e]
 constructor
 ·rintro ⟨h1, h2, h3, h4, h5, h6⟩
  have hl : t.l = [] := len0.1 (by omega)
  rw [hl] at h6 ⊢
  exact ⟨by omega, rfl⟩
 ·rintro ⟨g2, hl⟩
  rw [hl]
  refine ⟨by first | (simp [allowsB, empty_iff, *]; done) | (simp [allowsB]; simpa using g1), by omega, by omega, by simp, by simp, by simp [partsB, wantedB, *] <;> (try simp_all [isE, isS, hasB])⟩
theorem inv_4 {t : Tr} (e : t.op = 4) : soundOne t = true ↔ t.s = [] ∧ t.n = 0 ∧ t.l = [] := by
 rw [sound_at e (s := (0, 0, 0, 0)) (by rfl), fits_iff, e]
 constructor
 ·rintro ⟨h1, h2, h3, h4, h5, h6⟩
  have hl : t.l = [] := len0.1 (by omega)
  rw [hl] at h6 ⊢
  exact ⟨by first | exact h1 | (simp [allowsB, empty_iff] at h1; simp_all), by omega, rfl⟩
 ·rintro ⟨g1, g2, hl⟩
  rw [hl]
  refine ⟨by first | (simp [allowsB, empty_iff, *]; done) | (simp [allowsB]; simpa using g1), by omega, by omega, by simp, by simp, by simp [partsB, wantedB, *] <;> (try simp_all [isE, isS, hasB])⟩
theorem inv_5 {t : Tr} (e : t.op = 5) : soundOne t = true ↔ t.s = [] ∧ t.n = 0 ∧ t.l = [] := by
 rw [sound_at e (s := (0, 0, 0, 0)) (by rfl), fits_iff, e]
 constructor
 ·rintro ⟨h1, h2, h3, h4, h5, h6⟩
  have hl : t.l = [] := len0.1 (by omega)
  rw [hl] at h6 ⊢
  exact ⟨by first | exact h1 | (simp [allowsB, empty_iff] at h1; simp_all), by omega, rfl⟩
 ·rintro ⟨g1, g2, hl⟩
  rw [hl]
  refine ⟨by first | (simp [allowsB, empty_iff, *]; done) | (simp [allowsB]; simpa using g1), by omega, by omega, by simp, by simp, by simp [partsB, wantedB, *] <;> (try simp_all [isE, isS, hasB])⟩
theorem inv_6 {t : Tr} (e : t.op = 6) : soundOne t = true ↔ t.s = [] ∧ t.n = 0 ∧ t.l = [] := by
 rw [sound_at e (s := (0, 0, 0, 0)) (by rfl), fits_iff, e]
 constructor
 ·rintro ⟨h1, h2, h3, h4, h5, h6⟩
  have hl : t.l = [] := len0.1 (by omega)
  rw [hl] at h6 ⊢
  exact ⟨by first | exact h1 | (simp [allowsB, empty_iff] at h1; simp_all), by omega, rfl⟩
 ·rintro ⟨g1, g2, hl⟩
  rw [hl]
  refine ⟨by first | (simp [allowsB, empty_iff, *]; done) | (simp [allowsB]; simpa using g1), by omega, by omega, by simp, by simp, by simp [partsB, wantedB, *] <;> (try simp_all [isE, isS, hasB])⟩
theorem inv_7 {t : Tr} (e : t.op = 7) : soundOne t = true ↔ t.s = [] ∧ t.n = 0 ∧ t.l = [] := by
 rw [sound_at e (s := (0, 0, 0, 0)) (by rfl), fits_iff, e]
 constructor
 ·rintro ⟨h1, h2, h3, h4, h5, h6⟩
  have hl : t.l = [] := len0.1 (by omega)
  rw [hl] at h6 ⊢
  exact ⟨by first | exact h1 | (simp [allowsB, empty_iff] at h1; simp_all), by omega, rfl⟩
 ·rintro ⟨g1, g2, hl⟩
  rw [hl]
  refine ⟨by first | (simp [allowsB, empty_iff, *]; done) | (simp [allowsB]; simpa using g1), by omega, by omega, by simp, by simp, by simp [partsB, wantedB, *] <;> (try simp_all [isE, isS, hasB])⟩
theorem inv_8 {t : Tr} (e : t.op = 8) : soundOne t = true ↔ t.s = [] ∧ t.n = 0 ∧ t.l = [] := by
 rw [sound_at e (s := (0, 0, 0, 0)) (by rfl), fits_iff, e]
 constructor
 ·rintro ⟨h1, h2, h3, h4, h5, h6⟩
  have hl : t.l = [] := len0.1 (by omega)
  rw [hl] at h6 ⊢
  exact ⟨by first | exact h1 | (simp [allowsB, empty_iff] at h1; simp_all), by omega, rfl⟩
 ·rintro ⟨g1, g2, hl⟩
  rw [hl]
  refine ⟨by first | (simp [allowsB, empty_iff, *]; done) | (simp [allowsB]; simpa using g1), by omega, by omega, by simp, by simp, by simp [partsB, wantedB, *] <;> (try simp_all [isE, isS, hasB])⟩
theorem inv_9 {t : Tr} (e : t.op = 9) : soundOne t = true ↔ t.s = [] ∧ t.n = 0 ∧ t.l = [] := by
 rw [sound_at e (s := (0, 0, 0, 0)) (by rfl), fits_iff, e]
 constructor
 ·rintro ⟨h1, h2, h3, h4, h5, h6⟩
  have hl : t.l = [] := len0.1 (by omega)
  rw [hl] at h6 ⊢
  exact ⟨by first | exact h1 | (simp [allowsB, empty_iff] at h1; simp_all), by omega, rfl⟩
 ·rintro ⟨g1, g2, hl⟩
  rw [hl]
  refine ⟨by first | (simp [allowsB, empty_iff, *]; done) | (simp [allowsB]; simpa using g1), by omega, by omega, by simp, by simp, by simp [partsB, wantedB, *] <;> (try simp_all [isE, isS, hasB])⟩
theorem inv_10 {t : Tr} (e : t.op = 10) : soundOne t = true ↔ (t.s = [] ∨ isNameL t.s = true) ∧ t.n = 0 ∧ t.l.length ≤ 201 ∧ ∃ xs b, t.l = xs ++ [b] ∧ (∀ x ∈ xs, x.op = 1) ∧ b.op = 32 := by
 rw [sound_at e (s := (4, 0, 1, 201)) (by rfl), fits_iff, e]
 constructor
 ·rintro ⟨h1, h2, h3, h4, h5, h6⟩
  rw [partsB_get] at h6
  obtain ⟨xs, b, hl⟩ : ∃ xs b, t.l = xs ++ [b] := by
   cases hr : t.l.reverse with
   | nil => rw [List.reverse_eq_nil_iff] at hr; rw [hr] at h4; simp at h4
   | cons b r => exact ⟨r.reverse, b, by rw [← List.reverse_reverse t.l, hr, List.reverse_cons]⟩
  rw [hl] at h6 ⊢
  have hlen : (xs ++ [b]).length = xs.length + 1 := by simp
  rw [hl] at h5
  refine ⟨by simpa [allowsB, empty_iff] using h1, by omega, by omega, xs, b, rfl, fun x hx => ?_, ?_⟩
  ·obtain ⟨i, hi⟩ := List.mem_iff_getElem?.1 hx
   have hil := (List.getElem?_eq_some_iff.1 hi).1
   have := h6 i x (by rw [List.getElem?_append_left hil]; exact hi)
   rw [hlen] at this
   unfold wantedB at this
   simp only [Int.zero_add] at this
   rw [if_neg (by decide), if_neg (by decide), if_neg (by decide), if_neg (by decide), if_pos (by decide), if_pos (by omega)] at this
   simpa [hasB] using this
  ·have := h6 xs.length b (by simp)
   rw [hlen] at this
   unfold wantedB at this
   simp only [Int.zero_add] at this
   rw [if_neg (by decide), if_neg (by decide), if_neg (by decide), if_neg (by decide), if_pos (by decide), if_neg (by omega)] at this
   simpa [hasB] using this
 ·rintro ⟨h1, h2, h5, xs, b, hl, h6, h7⟩
  have hlen : (xs ++ [b]).length = xs.length + 1 := by simp
  rw [hl] at h5 ⊢
  refine ⟨by simpa [allowsB, empty_iff] using h1, by omega, by omega, by omega, by omega, ?_⟩
  rw [partsB_get]
  intro i x hx
  have hil := (List.getElem?_eq_some_iff.1 hx).1
  rw [hlen] at hil ⊢
  unfold wantedB
  simp only [Int.zero_add]
  rw [if_neg (by decide), if_neg (by decide), if_neg (by decide), if_neg (by decide), if_pos (by decide)]
  by_cases hi : i < xs.length
  ·rw [List.getElem?_append_left hi] at hx
   have := h6 x (List.mem_of_getElem? hx)
   rw [if_pos (by omega)]
   simp [hasB, this]
  ·obtain rfl : i = xs.length := by omega
   simp at hx
   subst hx
   rw [if_neg (by omega)]
   simp [hasB, h7]
theorem inv_11 {t : Tr} (e : t.op = 11) : soundOne t = true ↔ t.s = [] ∧ t.n = 0 ∧ t.l.length ≤ 200 ∧ ∀ x ∈ t.l, x.op = 12 := by
 rw [sound_at e (s := (0, 0, 0, 200)) (by rfl), fits_iff, e]
 constructor
 ·rintro ⟨h1, h2, h3, h4, h5, h6⟩
  rw [partsB_get] at h6
  refine ⟨by simpa [allowsB, empty_iff] using h1, by omega, by omega, fun x hx => ?_⟩
  obtain ⟨i, hi⟩ := List.mem_iff_getElem?.1 hx
  have := h6 i x hi
  simpa [wantedB, hasB, isS] using this
 ·rintro ⟨h1, h2, h5, h6⟩
  refine ⟨by simpa [allowsB, empty_iff] using h1, by omega, by omega, by omega, by omega, ?_⟩
  rw [partsB_get]
  intro i x hx
  have := h6 x (List.mem_of_getElem? hx)
  simpa [wantedB, hasB, isS] using this
theorem inv_12 {t : Tr} (e : t.op = 12) : soundOne t = true ↔ t.n = 0 ∧ ∃ a, t.l = [a] ∧ isE a := by
 rw [sound_at e (s := (1, 0, 1, 1)) (by rfl), fits_iff, e]
 constructor
 ·rintro ⟨h1, h2, h3, h4, h5, h6⟩
  obtain ⟨a, hl⟩ := len1 (l := t.l) (by omega)
  rw [hl] at h6 ⊢
  simp [partsB, wantedB, hasB] at h6
  exact ⟨by omega, a, rfl, by simp_all [isE, isS, hasB]⟩
 ·rintro ⟨g2, a, hl, g4⟩
  rw [hl]
  refine ⟨by first | (simp [allowsB, empty_iff, *]; done) | (simp [allowsB]; simpa using g1), by omega, by omega, by simp, by simp, by simp [partsB, wantedB, *] <;> (try simp_all [isE, isS, hasB])⟩
theorem inv_13 {t : Tr} (e : t.op = 13) : soundOne t = true ↔ (isWordL t.s = true ∨ isNameL t.s = true) ∧ t.n = 0 ∧ ∃ a, t.l = [a] ∧ isE a := by
 rw [sound_at e (s := (5, 0, 1, 1)) (by rfl), fits_iff, e]
 constructor
 ·rintro ⟨h1, h2, h3, h4, h5, h6⟩
  obtain ⟨a, hl⟩ := len1 (l := t.l) (by omega)
  rw [hl] at h6 ⊢
  simp [partsB, wantedB, hasB] at h6
  exact ⟨by first | exact h1 | (simp [allowsB, empty_iff] at h1; simp_all), by omega, a, rfl, by simp_all [isE, isS, hasB]⟩
 ·rintro ⟨g1, g2, a, hl, g4⟩
  rw [hl]
  refine ⟨by first | (simp [allowsB, empty_iff, *]; done) | (simp [allowsB]; simpa using g1), by omega, by omega, by simp, by simp, by simp [partsB, wantedB, *] <;> (try simp_all [isE, isS, hasB])⟩
theorem inv_14 {t : Tr} (e : t.op = 14) : soundOne t = true ↔ t.s = [] ∧ t.n = 0 ∧ ∃ a b, t.l = [a, b] ∧ isE a ∧ isE b := by
 rw [sound_at e (s := (0, 0, 2, 2)) (by rfl), fits_iff, e]
 constructor
 ·rintro ⟨h1, h2, h3, h4, h5, h6⟩
  obtain ⟨a, b, hl⟩ := len2 (l := t.l) (by omega)
  rw [hl] at h6 ⊢
  simp [partsB, wantedB, hasB] at h6
  exact ⟨by first | exact h1 | (simp [allowsB, empty_iff] at h1; simp_all), by omega, a, b, rfl, by simp_all [isE, isS, hasB], by simp_all [isE, isS, hasB]⟩
 ·rintro ⟨g1, g2, a, b, hl, g4, g5⟩
  rw [hl]
  refine ⟨by first | (simp [allowsB, empty_iff, *]; done) | (simp [allowsB]; simpa using g1), by omega, by omega, by simp, by simp, by simp [partsB, wantedB, *] <;> (try simp_all [isE, isS, hasB])⟩
theorem inv_15 {t : Tr} (e : t.op = 15) : soundOne t = true ↔ t.s = [] ∧ t.n = 0 ∧ t.l.length ≤ 200 ∧ ∃ a r, t.l = a :: r ∧ ∀ x ∈ a :: r, isE x := by
 rw [sound_at e (s := (0, 0, 1, 200)) (by rfl), fits_iff, e]
 constructor
 ·rintro ⟨h1, h2, h3, h4, h5, h6⟩
  rw [partsB_get] at h6
  obtain ⟨a, r, hl⟩ : ∃ a r, t.l = a :: r := by
   cases hh : t.l with
   | nil => rw [hh] at h4; simp at h4
   | cons a r => exact ⟨a, r, rfl⟩
  refine ⟨by simpa [allowsB, empty_iff] using h1, by omega, by omega, a, r, hl, fun x hx => ?_⟩
  rw [← hl] at hx
  obtain ⟨i, hi⟩ := List.mem_iff_getElem?.1 hx
  have := h6 i x hi
  simpa [wantedB, hasB, isE] using this
 ·rintro ⟨h1, h2, h5, a, r, hl, h6⟩
  refine ⟨by simpa [allowsB, empty_iff] using h1, by omega, by omega, by rw [hl]; simp; omega, by omega, ?_⟩
  rw [partsB_get]
  intro i x hx
  have := h6 x (by rw [← hl]; exact List.mem_of_getElem? hx)
  simpa [wantedB, hasB, isE] using this
theorem inv_16 {t : Tr} (e : t.op = 16) : soundOne t = true ↔ t.s = [] ∧ t.n = 0 ∧ t.l.length ≤ 200 ∧ ∃ a r, t.l = a :: r ∧ ∀ x ∈ a :: r, isE x := by
 rw [sound_at e (s := (0, 0, 1, 200)) (by rfl), fits_iff, e]
 constructor
 ·rintro ⟨h1, h2, h3, h4, h5, h6⟩
  rw [partsB_get] at h6
  obtain ⟨a, r, hl⟩ : ∃ a r, t.l = a :: r := by
   cases hh : t.l with
   | nil => rw [hh] at h4; simp at h4
   | cons a r => exact ⟨a, r, rfl⟩
  refine ⟨by simpa [allowsB, empty_iff] using h1, by omega, by omega, a, r, hl, fun x hx => ?_⟩
  rw [← hl] at hx
  obtain ⟨i, hi⟩ := List.mem_iff_getElem?.1 hx
  have := h6 i x hi
  simpa [wantedB, hasB, isE] using this
 ·rintro ⟨h1, h2, h5, a, r, hl, h6⟩
  refine ⟨by simpa [allowsB, empty_iff] using h1, by omega, by omega, by rw [hl]; simp; omega, by omega, ?_⟩
  rw [partsB_get]
  intro i x hx
  have := h6 x (by rw [← hl]; exact List.mem_of_getElem? hx)
  simpa [wantedB, hasB, isE] using this
theorem inv_17 {t : Tr} (e : t.op = 17) : soundOne t = true ↔ t.s = [] ∧ t.n = 0 ∧ ∃ a b, t.l = [a, b] ∧ hasB 5 a.op = true ∧ isE b := by
 rw [sound_at e (s := (0, 0, 2, 2)) (by rfl), fits_iff, e]
 constructor
 ·rintro ⟨h1, h2, h3, h4, h5, h6⟩
  obtain ⟨a, b, hl⟩ := len2 (l := t.l) (by omega)
  rw [hl] at h6 ⊢
  simp [partsB, wantedB, hasB] at h6
  exact ⟨by first | exact h1 | (simp [allowsB, empty_iff] at h1; simp_all), by omega, a, b, rfl, by simp_all [isE, isS, hasB], by simp_all [isE, isS, hasB]⟩
 ·rintro ⟨g1, g2, a, b, hl, g4, g5⟩
  rw [hl]
  refine ⟨by first | (simp [allowsB, empty_iff, *]; done) | (simp [allowsB]; simpa using g1), by omega, by omega, by simp, by simp, by simp [partsB, wantedB, *] <;> (try simp_all [isE, isS, hasB])⟩
theorem inv_18 {t : Tr} (e : t.op = 18) : soundOne t = true ↔ signsB.contains t.s = true ∧ t.n = 0 ∧ ∃ a b, t.l = [a, b] ∧ isE a ∧ isE b := by
 rw [sound_at e (s := (2, 0, 2, 2)) (by rfl), fits_iff, e]
 constructor
 ·rintro ⟨h1, h2, h3, h4, h5, h6⟩
  obtain ⟨a, b, hl⟩ := len2 (l := t.l) (by omega)
  rw [hl] at h6 ⊢
  simp [partsB, wantedB, hasB] at h6
  exact ⟨by first | exact h1 | (simp [allowsB, empty_iff] at h1; simp_all), by omega, a, b, rfl, by simp_all [isE, isS, hasB], by simp_all [isE, isS, hasB]⟩
 ·rintro ⟨g1, g2, a, b, hl, g4, g5⟩
  rw [hl]
  refine ⟨by first | (simp [allowsB, empty_iff, *]; done) | (simp [allowsB]; simpa using g1), by omega, by omega, by simp, by simp, by simp [partsB, wantedB, *] <;> (try simp_all [isE, isS, hasB])⟩
theorem inv_19 {t : Tr} (e : t.op = 19) : soundOne t = true ↔ t.s = [] ∧ t.n = 0 ∧ ∃ a, t.l = [a] ∧ isE a := by
 rw [sound_at e (s := (0, 0, 1, 1)) (by rfl), fits_iff, e]
 constructor
 ·rintro ⟨h1, h2, h3, h4, h5, h6⟩
  obtain ⟨a, hl⟩ := len1 (l := t.l) (by omega)
  rw [hl] at h6 ⊢
  simp [partsB, wantedB, hasB] at h6
  exact ⟨by first | exact h1 | (simp [allowsB, empty_iff] at h1; simp_all), by omega, a, rfl, by simp_all [isE, isS, hasB]⟩
 ·rintro ⟨g1, g2, a, hl, g4⟩
  rw [hl]
  refine ⟨by first | (simp [allowsB, empty_iff, *]; done) | (simp [allowsB]; simpa using g1), by omega, by omega, by simp, by simp, by simp [partsB, wantedB, *] <;> (try simp_all [isE, isS, hasB])⟩
theorem inv_20 {t : Tr} (e : t.op = 20) : soundOne t = true ↔ t.s = [] ∧ t.n = 0 ∧ ∃ a, t.l = [a] ∧ isE a := by
 rw [sound_at e (s := (0, 0, 1, 1)) (by rfl), fits_iff, e]
 constructor
 ·rintro ⟨h1, h2, h3, h4, h5, h6⟩
  obtain ⟨a, hl⟩ := len1 (l := t.l) (by omega)
  rw [hl] at h6 ⊢
  simp [partsB, wantedB, hasB] at h6
  exact ⟨by first | exact h1 | (simp [allowsB, empty_iff] at h1; simp_all), by omega, a, rfl, by simp_all [isE, isS, hasB]⟩
 ·rintro ⟨g1, g2, a, hl, g4⟩
  rw [hl]
  refine ⟨by first | (simp [allowsB, empty_iff, *]; done) | (simp [allowsB]; simpa using g1), by omega, by omega, by simp, by simp, by simp [partsB, wantedB, *] <;> (try simp_all [isE, isS, hasB])⟩
theorem inv_21 {t : Tr} (e : t.op = 21) : soundOne t = true ↔ t.s = [] ∧ t.n = 0 ∧ ∃ a b, t.l = [a, b] ∧ isE a ∧ isE b := by
 rw [sound_at e (s := (0, 0, 2, 2)) (by rfl), fits_iff, e]
 constructor
 ·rintro ⟨h1, h2, h3, h4, h5, h6⟩
  obtain ⟨a, b, hl⟩ := len2 (l := t.l) (by omega)
  rw [hl] at h6 ⊢
  simp [partsB, wantedB, hasB] at h6
  exact ⟨by first | exact h1 | (simp [allowsB, empty_iff] at h1; simp_all), by omega, a, b, rfl, by simp_all [isE, isS, hasB], by simp_all [isE, isS, hasB]⟩
 ·rintro ⟨g1, g2, a, b, hl, g4, g5⟩
  rw [hl]
  refine ⟨by first | (simp [allowsB, empty_iff, *]; done) | (simp [allowsB]; simpa using g1), by omega, by omega, by simp, by simp, by simp [partsB, wantedB, *] <;> (try simp_all [isE, isS, hasB])⟩
theorem inv_22 {t : Tr} (e : t.op = 22) : soundOne t = true ↔ t.s = [] ∧ t.n = 0 ∧ ∃ a b, t.l = [a, b] ∧ isE a ∧ isE b := by
 rw [sound_at e (s := (0, 0, 2, 2)) (by rfl), fits_iff, e]
 constructor
 ·rintro ⟨h1, h2, h3, h4, h5, h6⟩
  obtain ⟨a, b, hl⟩ := len2 (l := t.l) (by omega)
  rw [hl] at h6 ⊢
  simp [partsB, wantedB, hasB] at h6
  exact ⟨by first | exact h1 | (simp [allowsB, empty_iff] at h1; simp_all), by omega, a, b, rfl, by simp_all [isE, isS, hasB], by simp_all [isE, isS, hasB]⟩
 ·rintro ⟨g1, g2, a, b, hl, g4, g5⟩
  rw [hl]
  refine ⟨by first | (simp [allowsB, empty_iff, *]; done) | (simp [allowsB]; simpa using g1), by omega, by omega, by simp, by simp, by simp [partsB, wantedB, *] <;> (try simp_all [isE, isS, hasB])⟩
theorem inv_23 {t : Tr} (e : t.op = 23) : soundOne t = true ↔ t.s = [] ∧ t.n = 0 ∧ ∃ a b c, t.l = [a, b, c] ∧ isE a ∧ isE b ∧ isE c := by
 rw [sound_at e (s := (0, 0, 3, 3)) (by rfl), fits_iff, e]
 constructor
 ·rintro ⟨h1, h2, h3, h4, h5, h6⟩
  obtain ⟨a, b, c, hl⟩ := len3 (l := t.l) (by omega)
  rw [hl] at h6 ⊢
  simp [partsB, wantedB, hasB] at h6
  exact ⟨by first | exact h1 | (simp [allowsB, empty_iff] at h1; simp_all), by omega, a, b, c, rfl, by simp_all [isE, isS, hasB], by simp_all [isE, isS, hasB], by simp_all [isE, isS, hasB]⟩
 ·rintro ⟨g1, g2, a, b, c, hl, g4, g5, g6⟩
  rw [hl]
  refine ⟨by first | (simp [allowsB, empty_iff, *]; done) | (simp [allowsB]; simpa using g1), by omega, by omega, by simp, by simp, by simp [partsB, wantedB, *] <;> (try simp_all [isE, isS, hasB])⟩
theorem inv_30 {t : Tr} (e : t.op = 30) : soundOne t = true ↔ isNameL t.s = true ∧ t.n = 0 ∧ (t.l = [] ∨ ∃ a, t.l = [a] ∧ isE a) := by
 rw [sound_at e (s := (3, 0, 0, 1)) (by rfl), fits_iff, e]
 constructor
 ·rintro ⟨h1, h2, h3, h4, h5, h6⟩
  have hc : t.l.length = 0 ∨ t.l.length = 1 := by omega
  rcases hc with hc | hc
  ·have hl : t.l = [] := len0.1 hc
   rw [hl] at h6 ⊢
   exact ⟨by first | exact h1 | (simp [allowsB, empty_iff] at h1; simp_all), by omega, .inl rfl⟩
  ·obtain ⟨a, hl⟩ := len1 hc
   rw [hl] at h6 ⊢
   simp [partsB, wantedB, hasB] at h6
   exact ⟨by first | exact h1 | (simp [allowsB, empty_iff] at h1; simp_all), by omega, .inr ⟨a, rfl, by simp_all [isE, isS, hasB]⟩⟩
 ·rintro ⟨g1, g2, hl | ⟨a, hl, g4⟩⟩
  all_goals
   rw [hl]
   refine ⟨by first | (simp [allowsB, empty_iff, *]; done) | (simp [allowsB]; simpa using g1), by omega, by omega, by simp, by simp, by simp [partsB, wantedB, *] <;> (try simp_all [isE, isS, hasB])⟩
theorem inv_31 {t : Tr} (e : t.op = 31) : soundOne t = true ↔ t.s = [] ∧ t.n = 0 ∧ ∃ a, t.l = [a] ∧ isE a := by
 rw [sound_at e (s := (0, 0, 1, 1)) (by rfl), fits_iff, e]
 constructor
 ·rintro ⟨h1, h2, h3, h4, h5, h6⟩
  obtain ⟨a, hl⟩ := len1 (l := t.l) (by omega)
  rw [hl] at h6 ⊢
  simp [partsB, wantedB, hasB] at h6
  exact ⟨by first | exact h1 | (simp [allowsB, empty_iff] at h1; simp_all), by omega, a, rfl, by simp_all [isE, isS, hasB]⟩
 ·rintro ⟨g1, g2, a, hl, g4⟩
  rw [hl]
  refine ⟨by first | (simp [allowsB, empty_iff, *]; done) | (simp [allowsB]; simpa using g1), by omega, by omega, by simp, by simp, by simp [partsB, wantedB, *] <;> (try simp_all [isE, isS, hasB])⟩
theorem inv_32 {t : Tr} (e : t.op = 32) : soundOne t = true ↔ t.s = [] ∧ t.n = 0 ∧ t.l.length ≤ 9223372036854775807 ∧ ∀ x ∈ t.l, isS x := by
 rw [sound_at e (s := (0, 0, 0, 9223372036854775807)) (by rfl), fits_iff, e]
 constructor
 ·rintro ⟨h1, h2, h3, h4, h5, h6⟩
  rw [partsB_get] at h6
  refine ⟨by simpa [allowsB, empty_iff] using h1, by omega, by omega, fun x hx => ?_⟩
  obtain ⟨i, hi⟩ := List.mem_iff_getElem?.1 hx
  have := h6 i x hi
  simpa [wantedB, hasB, isS] using this
 ·rintro ⟨h1, h2, h5, h6⟩
  refine ⟨by simpa [allowsB, empty_iff] using h1, by omega, by omega, by omega, by omega, ?_⟩
  rw [partsB_get]
  intro i x hx
  have := h6 x (List.mem_of_getElem? hx)
  simpa [wantedB, hasB, isS] using this
theorem inv_33 {t : Tr} (e : t.op = 33) : soundOne t = true ↔ t.s = [] ∧ t.n = 0 ∧ ((∃ a b, t.l = [a, b] ∧ isE a ∧ b.op = 32) ∨ ∃ a b c, t.l = [a, b, c] ∧ isE a ∧ b.op = 32 ∧ c.op = 32) := by
 rw [sound_at e (s := (0, 0, 2, 3)) (by rfl), fits_iff, e]
 constructor
 ·rintro ⟨h1, h2, h3, h4, h5, h6⟩
  have hc : t.l.length = 2 ∨ t.l.length = 3 := by omega
  rcases hc with hc | hc
  ·obtain ⟨a, b, hl⟩ := len2 hc
   rw [hl] at h6 ⊢
   simp [partsB, wantedB, hasB] at h6
   exact ⟨by first | exact h1 | (simp [allowsB, empty_iff] at h1; simp_all), by omega, .inl ⟨a, b, rfl, by simp_all [isE, isS, hasB], by simp_all [isE, isS, hasB]⟩⟩
  ·obtain ⟨a, b, c, hl⟩ := len3 hc
   rw [hl] at h6 ⊢
   simp [partsB, wantedB, hasB] at h6
   exact ⟨by first | exact h1 | (simp [allowsB, empty_iff] at h1; simp_all), by omega, .inr ⟨a, b, c, rfl, by simp_all [isE, isS, hasB], by simp_all [isE, isS, hasB], by simp_all [isE, isS, hasB]⟩⟩
 ·rintro ⟨g1, g2, ⟨a, b, hl, g4, g5⟩ | ⟨a, b, c, hl, g4, g5, g6⟩⟩
  all_goals
   rw [hl]
   refine ⟨by first | (simp [allowsB, empty_iff, *]; done) | (simp [allowsB]; simpa using g1), by omega, by omega, by simp, by simp, by simp [partsB, wantedB, *] <;> (try simp_all [isE, isS, hasB])⟩
theorem inv_34 {t : Tr} (e : t.op = 34) : soundOne t = true ↔ t.s = [] ∧ t.n = 0 ∧ ∃ a b, t.l = [a, b] ∧ isE a ∧ b.op = 32 := by
 rw [sound_at e (s := (0, 0, 2, 2)) (by rfl), fits_iff, e]
 constructor
 ·rintro ⟨h1, h2, h3, h4, h5, h6⟩
  obtain ⟨a, b, hl⟩ := len2 (l := t.l) (by omega)
  rw [hl] at h6 ⊢
  simp [partsB, wantedB, hasB] at h6
  exact ⟨by first | exact h1 | (simp [allowsB, empty_iff] at h1; simp_all), by omega, a, b, rfl, by simp_all [isE, isS, hasB], by simp_all [isE, isS, hasB]⟩
 ·rintro ⟨g1, g2, a, b, hl, g4, g5⟩
  rw [hl]
  refine ⟨by first | (simp [allowsB, empty_iff, *]; done) | (simp [allowsB]; simpa using g1), by omega, by omega, by simp, by simp, by simp [partsB, wantedB, *] <;> (try simp_all [isE, isS, hasB])⟩
theorem inv_35 {t : Tr} (e : t.op = 35) : soundOne t = true ↔ isNameL t.s = true ∧ t.n = 0 ∧ ∃ a b, t.l = [a, b] ∧ isE a ∧ b.op = 32 := by
 rw [sound_at e (s := (3, 0, 2, 2)) (by rfl), fits_iff, e]
 constructor
 ·rintro ⟨h1, h2, h3, h4, h5, h6⟩
  obtain ⟨a, b, hl⟩ := len2 (l := t.l) (by omega)
  rw [hl] at h6 ⊢
  simp [partsB, wantedB, hasB] at h6
  exact ⟨by first | exact h1 | (simp [allowsB, empty_iff] at h1; simp_all), by omega, a, b, rfl, by simp_all [isE, isS, hasB], by simp_all [isE, isS, hasB]⟩
 ·rintro ⟨g1, g2, a, b, hl, g4, g5⟩
  rw [hl]
  refine ⟨by first | (simp [allowsB, empty_iff, *]; done) | (simp [allowsB]; simpa using g1), by omega, by omega, by simp, by simp, by simp [partsB, wantedB, *] <;> (try simp_all [isE, isS, hasB])⟩
theorem inv_36 {t : Tr} (e : t.op = 36) : soundOne t = true ↔ t.s = [] ∧ t.n = 0 ∧ (t.l = [] ∨ ∃ a, t.l = [a] ∧ isE a) := by
 rw [sound_at e (s := (0, 0, 0, 1)) (by rfl), fits_iff, e]
 constructor
 ·rintro ⟨h1, h2, h3, h4, h5, h6⟩
  have hc : t.l.length = 0 ∨ t.l.length = 1 := by omega
  rcases hc with hc | hc
  ·have hl : t.l = [] := len0.1 hc
   rw [hl] at h6 ⊢
   exact ⟨by first | exact h1 | (simp [allowsB, empty_iff] at h1; simp_all), by omega, .inl rfl⟩
  ·obtain ⟨a, hl⟩ := len1 hc
   rw [hl] at h6 ⊢
   simp [partsB, wantedB, hasB] at h6
   exact ⟨by first | exact h1 | (simp [allowsB, empty_iff] at h1; simp_all), by omega, .inr ⟨a, rfl, by simp_all [isE, isS, hasB]⟩⟩
 ·rintro ⟨g1, g2, hl | ⟨a, hl, g4⟩⟩
  all_goals
   rw [hl]
   refine ⟨by first | (simp [allowsB, empty_iff, *]; done) | (simp [allowsB]; simpa using g1), by omega, by omega, by simp, by simp, by simp [partsB, wantedB, *] <;> (try simp_all [isE, isS, hasB])⟩
theorem inv_37 {t : Tr} (e : t.op = 37) : soundOne t = true ↔ t.s = [] ∧ t.n = 0 ∧ ∃ a, t.l = [a] ∧ isE a := by
 rw [sound_at e (s := (0, 0, 1, 1)) (by rfl), fits_iff, e]
 constructor
 ·rintro ⟨h1, h2, h3, h4, h5, h6⟩
  obtain ⟨a, hl⟩ := len1 (l := t.l) (by omega)
  rw [hl] at h6 ⊢
  simp [partsB, wantedB, hasB] at h6
  exact ⟨by first | exact h1 | (simp [allowsB, empty_iff] at h1; simp_all), by omega, a, rfl, by simp_all [isE, isS, hasB]⟩
 ·rintro ⟨g1, g2, a, hl, g4⟩
  rw [hl]
  refine ⟨by first | (simp [allowsB, empty_iff, *]; done) | (simp [allowsB]; simpa using g1), by omega, by omega, by simp, by simp, by simp [partsB, wantedB, *] <;> (try simp_all [isE, isS, hasB])⟩
theorem inv_38 {t : Tr} (e : t.op = 38) : soundOne t = true ↔ isNameL t.s = true ∧ t.n = 0 ∧ ∃ a b, t.l = [a, b] ∧ a.op = 32 ∧ b.op = 32 := by
 rw [sound_at e (s := (3, 0, 2, 2)) (by rfl), fits_iff, e]
 constructor
 ·rintro ⟨h1, h2, h3, h4, h5, h6⟩
  obtain ⟨a, b, hl⟩ := len2 (l := t.l) (by omega)
  rw [hl] at h6 ⊢
  simp [partsB, wantedB, hasB] at h6
  exact ⟨by first | exact h1 | (simp [allowsB, empty_iff] at h1; simp_all), by omega, a, b, rfl, by simp_all [isE, isS, hasB], by simp_all [isE, isS, hasB]⟩
 ·rintro ⟨g1, g2, a, b, hl, g4, g5⟩
  rw [hl]
  refine ⟨by first | (simp [allowsB, empty_iff, *]; done) | (simp [allowsB]; simpa using g1), by omega, by omega, by simp, by simp, by simp [partsB, wantedB, *] <;> (try simp_all [isE, isS, hasB])⟩
theorem inv_39 {t : Tr} (e : t.op = 39) : soundOne t = true ↔ t.s = [] ∧ t.n = 0 ∧ t.l = [] := by
 rw [sound_at e (s := (0, 0, 0, 0)) (by rfl), fits_iff, e]
 constructor
 ·rintro ⟨h1, h2, h3, h4, h5, h6⟩
  have hl : t.l = [] := len0.1 (by omega)
  rw [hl] at h6 ⊢
  exact ⟨by first | exact h1 | (simp [allowsB, empty_iff] at h1; simp_all), by omega, rfl⟩
 ·rintro ⟨g1, g2, hl⟩
  rw [hl]
  refine ⟨by first | (simp [allowsB, empty_iff, *]; done) | (simp [allowsB]; simpa using g1), by omega, by omega, by simp, by simp, by simp [partsB, wantedB, *] <;> (try simp_all [isE, isS, hasB])⟩
theorem inv_40 {t : Tr} (e : t.op = 40) : soundOne t = true ↔ t.s = [] ∧ t.n = 0 ∧ t.l = [] := by
 rw [sound_at e (s := (0, 0, 0, 0)) (by rfl), fits_iff, e]
 constructor
 ·rintro ⟨h1, h2, h3, h4, h5, h6⟩
  have hl : t.l = [] := len0.1 (by omega)
  rw [hl] at h6 ⊢
  exact ⟨by first | exact h1 | (simp [allowsB, empty_iff] at h1; simp_all), by omega, rfl⟩
 ·rintro ⟨g1, g2, hl⟩
  rw [hl]
  refine ⟨by first | (simp [allowsB, empty_iff, *]; done) | (simp [allowsB]; simpa using g1), by omega, by omega, by simp, by simp, by simp [partsB, wantedB, *] <;> (try simp_all [isE, isS, hasB])⟩
theorem inv_41 {t : Tr} (e : t.op = 41) : soundOne t = true ↔ isNameL t.s = true ∧ t.n = 0 ∧ t.l.length ≤ 201 ∧ ∃ xs b, t.l = xs ++ [b] ∧ (∀ x ∈ xs, x.op = 1) ∧ b.op = 32 := by
 rw [sound_at e (s := (3, 0, 1, 201)) (by rfl), fits_iff, e]
 constructor
 ·rintro ⟨h1, h2, h3, h4, h5, h6⟩
  rw [partsB_get] at h6
  obtain ⟨xs, b, hl⟩ : ∃ xs b, t.l = xs ++ [b] := by
   cases hr : t.l.reverse with
   | nil => rw [List.reverse_eq_nil_iff] at hr; rw [hr] at h4; simp at h4
   | cons b r => exact ⟨r.reverse, b, by rw [← List.reverse_reverse t.l, hr, List.reverse_cons]⟩
  rw [hl] at h6 ⊢
  have hlen : (xs ++ [b]).length = xs.length + 1 := by simp
  rw [hl] at h5
  refine ⟨by simpa [allowsB, empty_iff] using h1, by omega, by omega, xs, b, rfl, fun x hx => ?_, ?_⟩
  ·obtain ⟨i, hi⟩ := List.mem_iff_getElem?.1 hx
   have hil := (List.getElem?_eq_some_iff.1 hi).1
   have := h6 i x (by rw [List.getElem?_append_left hil]; exact hi)
   rw [hlen] at this
   unfold wantedB at this
   simp only [Int.zero_add] at this
   rw [if_neg (by decide), if_neg (by decide), if_neg (by decide), if_neg (by decide), if_pos (by decide), if_pos (by omega)] at this
   simpa [hasB] using this
  ·have := h6 xs.length b (by simp)
   rw [hlen] at this
   unfold wantedB at this
   simp only [Int.zero_add] at this
   rw [if_neg (by decide), if_neg (by decide), if_neg (by decide), if_neg (by decide), if_pos (by decide), if_neg (by omega)] at this
   simpa [hasB] using this
 ·rintro ⟨h1, h2, h5, xs, b, hl, h6, h7⟩
  have hlen : (xs ++ [b]).length = xs.length + 1 := by simp
  rw [hl] at h5 ⊢
  refine ⟨by simpa [allowsB, empty_iff] using h1, by omega, by omega, by omega, by omega, ?_⟩
  rw [partsB_get]
  intro i x hx
  have hil := (List.getElem?_eq_some_iff.1 hx).1
  rw [hlen] at hil ⊢
  unfold wantedB
  simp only [Int.zero_add]
  rw [if_neg (by decide), if_neg (by decide), if_neg (by decide), if_neg (by decide), if_pos (by decide)]
  by_cases hi : i < xs.length
  ·rw [List.getElem?_append_left hi] at hx
   have := h6 x (List.mem_of_getElem? hx)
   rw [if_pos (by omega)]
   simp [hasB, this]
  ·obtain rfl : i = xs.length := by omega
   simp at hx
   subst hx
   rw [if_neg (by omega)]
   simp [hasB, h7]
end Go.Proofs.Ytbpodijcndglgaa
