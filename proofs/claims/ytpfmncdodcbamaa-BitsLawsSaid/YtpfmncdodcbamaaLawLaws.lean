/- The law BitsLaws: its walk. -/
import Derived.Test.YtpfmncdodcbamaaParts
namespace Go.Proofs.Ytpfmncdodcbamaa
open Go.RowKit Go.Proofs Go.Shelf

theorem sel_count : ∀ l : List Fnd, (∀ f ∈ l, f.2.1 = true ∨ f.2.2 = true) → (sel pAll l).length = (sel (fun _ y => y) l).length + (sel pMinus l).length
  | [], _ => rfl
  | f :: l, h => by
    have ih := sel_count l (fun g hg => h g (List.mem_cons_of_mem _ hg))
    have hf := h f List.mem_cons_self
    obtain ⟨z, x, y⟩ := f
    simp only [sel, List.length_map, List.filter_cons, pAll, pMinus] at ih hf ⊢
    cases x <;> cases y <;> simp at hf ih ⊢ <;> omega
theorem laws_len {a b x : List Int} (ha : isSet a = true) (hb : isSet b = true) (hx : UniOf x [a, b, a]) : x.length = b.length + (sel pMinus (mrg a b)).length := by
  have hspec := mrg_spec a b ((isSet_iff a).1 ha).1 ((isSet_iff b).1 hb).1
  obtain ⟨h1, h2⟩ := sel_set ha hb pAll
  obtain ⟨k1, k2⟩ := sel_set ha hb (fun _ y => y)
  have e1 : x = sel pAll (mrg a b) := set_ext hx.1 h1 (fun y => by
    rw [hx.2 y, h2 y]
    simp [pAll]
    constructor
    · rintro (h | h | h)
      · exact .inl h
      · exact .inr h
      · exact .inl h
    · rintro (h | h)
      · exact .inl h
      · exact .inr (.inl h))
  have e2 : sel (fun _ y => y) (mrg a b) = b := set_ext k1 hb (fun y => by
    rw [k2 y]; simp; intro h; exact .inr h)
  have := sel_count (mrg a b) (fun f hf => by
    obtain ⟨g1, g2, g3⟩ := hspec.2.1 f hf
    rw [g2, g3]
    simpa using g1)
  rw [e1, this, e2]
theorem laws_all {a b r : List Int} (ha : isSet a = true) (hb : isSet b = true) (hr : UniOf r [sel pMeet (mrg a b), sel pMinus (mrg a b)]) : r = a := by
  obtain ⟨h1, h2⟩ := sel_set ha hb pMeet
  obtain ⟨k1, k2⟩ := sel_set ha hb pMinus
  refine set_ext hr.1 ha (fun y => ?_)
  rw [hr.2 y]
  simp only [List.mem_cons, List.not_mem_nil, or_false, exists_eq_or_imp, exists_eq_left]
  rw [h2 y, k2 y]
  simp only [pMeet, pMinus]
  by_cases hya : y ∈ a <;> by_cases hyb : y ∈ b <;> simp [hya, hyb]
theorem laws_sub {a b x : List Int} (hx : UniOf x [a, b, a]) : subB a x = true := by
  unfold subB
  rw [List.all_eq_true]
  intro y hy
  exact (hasB_iff x y).2 ((hx.2 y).2 ⟨a, by simp, hy⟩)
theorem laws_two {a b x y : List Int} (hx : UniOf x [a, b, a]) (hy : UniOf y [b, a]) : x = y := by
  refine set_ext hx.1 hy.1 (fun z => ?_)
  rw [hx.2 z, hy.2 z]
  simp
  intro h
  exact .inr h

set_option maxHeartbeats 4000000 in
theorem laws_walk (A A' : Option Addr) (n c n' c' : Nat) (a b : List Int) (w : World) (hn : n ≤ c) (hc : c ≤ 9223372036854775807) (hr : Ints w w.heap.size A (min n 200) c a) (hn' : n' ≤ c') (hc' : c' ≤ 9223372036854775807) (hr' : Ints w w.heap.size A' (min n' 200) c' b) :
    Calls Try.prog 7 #[.slice A n c, .slice A' n' c'] w fun e w' => e = .returned (.bool true) ∧ Below w.heap.size w w' := by
  have HS := Lib.hid (shown_any w)
  have HR := Lib.hid (And.intro hr hr')
  generalize hm : min n 200 = m at hr HR
  generalize hm' : min n' 200 = m' at hr' HR
  have HCut := Lib.hid (fun (W : World) => by simpa [hm] using cut_any A n c W hn hc)
  have HCut' := Lib.hid (fun (W : World) => by simpa [hm'] using cut_any A' n' c' W hn' hc')
  clear hm hm' hr hr'
  go_enter Try.func7, Try.ntmps7
  go_wp2_with fail
  go_at_call 10
  refine (HS.out).mono ?_
  rintro e w1 ⟨rfl, hb1⟩
  have HI1 := Lib.hid (And.intro ((HR.out.1.below hb1).more hb1.size) ((HR.out.2.below hb1).more hb1.size))
  have HB1 := Lib.hid hb1
  clear hb1
  go_wp2_with fail
  go_at_call 11
  refine (HCut.out w1).mono ?_
  rintro e w1' ⟨rfl, rfl⟩
  go_wp2_with fail
  go_at_call 11
  refine (HCut'.out w1).mono ?_
  rintro e w1' ⟨rfl, rfl⟩
  have HU1 := Lib.hid (union_any _ 3 3 [a, b, a] (w1.alloc (.cells #[.slice A m c, .slice A' m' c', .slice A m c] 22)) ((mat3 (t := 22) HI1.out.1 HI1.out.2 HI1.out.1).more (by simp)))
  go_wp2_with fail
  go_at_call 19
  refine (HU1.out).mono ?_
  rintro e w2 ⟨hs2, hb2⟩
  have hb2' := below2 (below1 w1 (.cells #[.slice A m c, .slice A' m' c', .slice A m c] 22)) hb2 (by simp)
  have HI2 := Lib.hid (And.intro ((HI1.out.1.below hb2').more hb2'.size) ((HI1.out.2.below hb2').more hb2'.size))
  have HB2 := Lib.hid (below2 HB1.out hb2' HB1.out.size)
  have HU2 := Lib.hid (union_any _ 2 2 [b, a] (w2.alloc (.cells #[.slice A' m' c', .slice A m c] 22)) ((mat2 (t := 22) HI2.out.2 HI2.out.1).more (by simp)))
  have hall3 : [a, b, a].all isSet = (isSet a && isSet b) := by simp; cases isSet a <;> cases isSet b <;> rfl
  have hall2 : [b, a].all isSet = (isSet a && isSet b) := by simp; cases isSet a <;> cases isSet b <;> rfl
  clear hb2 hb2'
  cases hs : isSet a && isSet b with
  | false =>
    obtain rfl := hs2.no (by rw [hall3, hs])
    have HN := Lib.hid (And.intro hs (hall2.trans hs))
    clear hs hs2 hall3 hall2
    go_wp2_with fail
    go_at_call 19
    refine (HU2.out).mono ?_
    rintro e w3 ⟨hs3, hb3⟩
    have hb3' := below2 (below1 w2 (.cells #[.slice A' m' c', .slice A m c] 22)) hb3 (by simp)
    obtain rfl := hs3.no HN.out.2
    have HI3 := Lib.hid (And.intro ((HI2.out.1.below hb3').more hb3'.size) ((HI2.out.2.below hb3').more hb3'.size))
    have HB3 := Lib.hid (below2 HB2.out hb3' HB2.out.size)
    have HMe := Lib.hid (meet_any A A' m c m' c' a b w3 HI3.out.1 HI3.out.2)
    clear hs3 hb3 hb3'
    go_wp2_with fail
    go_at_call 22
    refine (HMe.out).mono ?_
    rintro e w4 ⟨hs4, hb4⟩
    obtain rfl := hs4.no HN.out.1
    have HI4 := Lib.hid (And.intro ((HI3.out.1.below hb4).more hb4.size) ((HI3.out.2.below hb4).more hb4.size))
    have HB4 := Lib.hid (below2 HB3.out hb4 HB3.out.size)
    have HMi := Lib.hid (minus_any A A' m c m' c' a b w4 HI4.out.1 HI4.out.2)
    clear hs4 hb4
    go_wp2_with fail
    go_at_call 21
    refine (HMi.out).mono ?_
    rintro e w5 ⟨hs5, hb5⟩
    obtain rfl := hs5.no HN.out.1
    have HB5 := Lib.hid (below2 HB4.out hb5 HB4.out.size)
    have HU5 := Lib.hid (union_any _ 2 2 [[], []] (w5.alloc (.cells #[.slice none 0 0, .slice none 0 0] 22)) ((mat2 (A := none) (A' := none) (n := 0) (c := 0) (n' := 0) (c' := 0) (a := []) (b := []) (t := 22) Ints.nil_ Ints.nil_).more (by simp)))
    clear hs5 hb5
    go_wp2_with fail
    go_at_call 19
    refine (HU5.out).mono ?_
    rintro e w6 ⟨hs6, hb6⟩
    obtain ⟨A6, n6, c6, r6, rfl, _, _⟩ := hs6.yes rfl
    have HB6 := Lib.hid (below2 HB5.out (below2 (below1 w5 _) hb6 (by simp)) HB5.out.size)
    clear hs6 hb6
    go_wp2
    go_ret
    exact ⟨rfl, HB6.out⟩
  | true =>
    have hab : isSet a = true ∧ isSet b = true := by simpa using hs
    obtain ⟨A2, n2, c2, x, rfl, hi2, hu2⟩ := hs2.yes (by rw [hall3, hs])
    have HN := Lib.hid (And.intro hs (And.intro hab (hall2.trans hs)))
    have HX := Lib.hid (And.intro hi2 hu2)
    clear hs hs2 hall3 hall2 hab hi2 hu2
    go_wp2_with fail
    go_at_call 19
    refine (HU2.out).mono ?_
    rintro e w3 ⟨hs3, hb3⟩
    have hb3' := below2 (below1 w2 (.cells #[.slice A' m' c', .slice A m c] 22)) hb3 (by simp)
    obtain ⟨A3, n3, c3, y, rfl, hi3, hu3⟩ := hs3.yes HN.out.2.2
    obtain rfl := laws_two HX.out.2 hu3
    have HI3 := Lib.hid (And.intro ((HI2.out.1.below hb3').more hb3'.size) ((HI2.out.2.below hb3').more hb3'.size))
    have HXY := Lib.hid (And.intro ((HX.out.1.below hb3').more hb3'.size) hi3)
    have HB3 := Lib.hid (below2 HB2.out hb3' HB2.out.size)
    have HMe := Lib.hid (meet_any A A' m c m' c' a b w3 HI3.out.1 HI3.out.2)
    clear hs3 hb3 hb3' hi3 hu3
    go_wp2_with fail
    go_at_call 22
    refine (HMe.out).mono ?_
    rintro e w4 ⟨hs4, hb4⟩
    obtain ⟨A4, n4, c4, rfl, hi4⟩ := hs4.yes HN.out.1
    have HM4 := Lib.hid hi4
    have HI4 := Lib.hid (And.intro ((HI3.out.1.below hb4).more hb4.size) ((HI3.out.2.below hb4).more hb4.size))
    have HXY4 := Lib.hid (And.intro ((HXY.out.1.below hb4).more hb4.size) ((HXY.out.2.below hb4).more hb4.size))
    have HB4 := Lib.hid (below2 HB3.out hb4 HB3.out.size)
    have HMi := Lib.hid (minus_any A A' m c m' c' a b w4 HI4.out.1 HI4.out.2)
    clear hs4 hb4 hi4
    go_wp2_with fail
    go_at_call 21
    refine (HMi.out).mono ?_
    rintro e w5 ⟨hs5, hb5⟩
    obtain ⟨A5, n5, c5, rfl, hi5⟩ := hs5.yes HN.out.1
    have HM5 := Lib.hid (And.intro ((HM4.out.below hb5).more hb5.size) hi5)
    have HI5 := Lib.hid (And.intro ((HI4.out.1.below hb5).more hb5.size) ((HI4.out.2.below hb5).more hb5.size))
    have HXY5 := Lib.hid (And.intro ((HXY4.out.1.below hb5).more hb5.size) ((HXY4.out.2.below hb5).more hb5.size))
    have HB5 := Lib.hid (below2 HB4.out hb5 HB4.out.size)
    have HU5 := Lib.hid (union_any _ 2 2 [sel pMeet (mrg a b), sel pMinus (mrg a b)] (w5.alloc (.cells #[.slice A4 n4 c4, .slice A5 n5 c5] 22)) ((mat2 (t := 22) HM5.out.1 HM5.out.2).more (by simp)))
    clear hs5 hb5 hi5
    go_wp2_with fail
    go_at_call 19
    refine (HU5.out).mono ?_
    rintro e w6 ⟨hs6, hb6⟩
    have hb6' := below2 (below1 w5 (.cells #[.slice A4 n4 c4, .slice A5 n5 c5] 22)) hb6 (by simp)
    obtain ⟨A6, n6, c6, r6, rfl, hi6, hu6⟩ := hs6.yes (by simp [(sel_set HN.out.2.1.1 HN.out.2.1.2 pMeet).1, (sel_set HN.out.2.1.1 HN.out.2.1.2 pMinus).1])
    obtain rfl := laws_all HN.out.2.1.1 HN.out.2.1.2 hu6
    have HA6 := Lib.hid hi6
    have HI6 := Lib.hid (And.intro ((HI5.out.1.below hb6').more hb6'.size) ((HI5.out.2.below hb6').more hb6'.size))
    have HXY6 := Lib.hid (And.intro ((HXY5.out.1.below hb6').more hb6'.size) ((HXY5.out.2.below hb6').more hb6'.size))
    have HB6 := Lib.hid (below2 HB5.out hb6' HB5.out.size)
    have HWi := Lib.hid (within_any A A2 m c n2 c2 r6 x w6 HI6.out.1 HXY6.out.1)
    have HLen := Lib.hid (And.intro (laws_len HN.out.2.1.1 HN.out.2.1.2 HX.out.2) HM5.out.2.1)
    clear hs6 hb6 hb6' hi6 hu6
    go_wp2_with fail
    go_at_call 23
    refine (HWi.out).mono ?_
    rintro e w7 ⟨hs7, hb7⟩
    obtain rfl := hs7.yes (by rw [HN.out.2.1.1, HX.out.2.1]; rfl)
    rw [laws_sub HX.out.2]
    have HA7 := Lib.hid ((HA6.out.below hb7).more hb7.size)
    have HI7 := Lib.hid (And.intro ((HI6.out.1.below hb7).more hb7.size) ((HI6.out.2.below hb7).more hb7.size))
    have HXY7 := Lib.hid (And.intro ((HXY6.out.1.below hb7).more hb7.size) ((HXY6.out.2.below hb7).more hb7.size))
    have HB7 := Lib.hid (below2 HB6.out hb7 HB6.out.size)
    have HSm := Lib.hid (same_any A2 A3 n2 c2 n3 c3 _ _ x x w7 HXY7.out.1 HXY7.out.2)
    clear hs7 hb7
    go_wp2_with fail
    go_at_call 18
    refine (HSm.out).mono ?_
    rintro e w8 ⟨rfl, hd8⟩
    have hb8 := below_drewn hd8
    have HB8 := Lib.hid (below2 HB7.out hb8 HB7.out.size)
    have HSm8 := Lib.hid (same_any A6 A n6 c6 m c _ _ r6 r6 w8 (HA7.out.below hb8) (HI7.out.1.below hb8))
    have HX8 := Lib.hid ((HXY7.out.1.below hb8).more hb8.size)
    clear hd8 hb8
    simp only [decide_true]
    go_wp2_with fail
    go_at_call 18
    refine (HSm8.out).mono ?_
    rintro e w9 ⟨rfl, hd9⟩
    have hb9 := below_drewn hd9
    have HB9 := Lib.hid (below2 HB8.out hb9 HB8.out.size)
    have hRt := right_any A2 n2 c2 _ x w9 (HX8.out.below hb9)
    rw [HX.out.2.1] at hRt
    have HRt := Lib.hid hRt
    clear hd9 hb9 hRt
    simp only [decide_true]
    have hl1 : n2 = m' + n5 := by
      have h1 := HLen.out.1
      have h2 := HLen.out.2
      have h3 := HX.out.1.1
      have h4 := HI7.out.2.1
      omega
    subst hl1
    have hb1 : n5 ≤ 281474976710656 := HM5.out.2.2.2.1.1
    have hb2 : m' ≤ 281474976710656 := HI7.out.2.2.2.1.1
    go_wp2_with (go_at_call 14; refine (HRt.out).mono ?_; rintro e w10 ⟨rfl, rfl⟩)
    go_ret
    exact ⟨rfl, HB9.out⟩
end Go.Proofs.Ytpfmncdodcbamaa
