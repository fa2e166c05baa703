/- The law BitsParts: its walk. -/
import Derived.Test.YtpfmncdodcbamaaParts
namespace Go.Proofs.Ytpfmncdodcbamaa
open Go.RowKit Go.Proofs Go.Shelf

set_option maxHeartbeats 4000000 in
theorem parts_walk (A A' : Option Addr) (n c n' c' : Nat) (a b : List Int) (w : World) (hn : n ≤ c) (hc : c ≤ 9223372036854775807) (hr : Ints w w.heap.size A (min n 200) c a) (hn' : n' ≤ c') (hc' : c' ≤ 9223372036854775807) (hr' : Ints w w.heap.size A' (min n' 200) c' b) :
    Calls Try.prog 5 #[.slice A n c, .slice A' n' c'] w fun e w' => e = .returned (.bool true) ∧ Below w.heap.size w w' := by
  have HS := Lib.hid (shown_any w)
  have HR := Lib.hid (And.intro hr hr')
  generalize hm : min n 200 = m at hr HR
  generalize hm' : min n' 200 = m' at hr' HR
  have HCut := Lib.hid (fun (W : World) => by simpa [hm] using cut_any A n c W hn hc)
  have HCut' := Lib.hid (fun (W : World) => by simpa [hm'] using cut_any A' n' c' W hn' hc')
  clear hm hm' hr hr'
  go_enter Try.func5, Try.ntmps5
  go_wp2_with fail
  go_at_call 10
  refine (HS.out).mono ?_
  rintro e w1 ⟨rfl, hb1⟩
  have HI1 := Lib.hid (And.intro ((HR.out.1.below hb1).more hb1.size) ((HR.out.2.below hb1).more hb1.size))
  have HB1 := Lib.hid hb1
  clear hb1
  go_wp2_with fail
  go_at_call 11
  refine (HCut.out w1).mono ?_
  rintro e w1' ⟨rfl, rfl⟩
  go_wp2_with fail
  go_at_call 11
  refine (HCut'.out w1).mono ?_
  rintro e w1' ⟨rfl, rfl⟩
  have HMi := Lib.hid (minus_any A A' m c m' c' a b w1 HI1.out.1 HI1.out.2)
  go_wp2_with fail
  go_at_call 21
  refine (HMi.out).mono ?_
  rintro e w2 ⟨hs2, hb2⟩
  have HI2 := Lib.hid (And.intro ((HI1.out.1.below hb2).more hb2.size) ((HI1.out.2.below hb2).more hb2.size))
  have HB2 := Lib.hid (below2 HB1.out hb2 HB1.out.size)
  have HMe := Lib.hid (meet_any A A' m c m' c' a b w2 HI2.out.1 HI2.out.2)
  cases hs : isSet a && isSet b with
  | false =>
    obtain rfl := hs2.no hs
    have HN := Lib.hid hs
    clear hs hb2 hs2
    go_wp2_with fail
    go_at_call 22
    refine (HMe.out).mono ?_
    rintro e w3 ⟨hs3, hb3⟩
    obtain rfl := hs3.no HN.out
    have HI3 := Lib.hid (And.intro ((HI2.out.1.below hb3).more hb3.size) ((HI2.out.2.below hb3).more hb3.size))
    have HB3 := Lib.hid (below2 HB2.out hb3 HB2.out.size)
    have HWi := Lib.hid (within_any A A' m c m' c' a b w3 HI3.out.1 HI3.out.2)
    clear hs3 hb3
    go_wp2_with fail
    go_at_call 23
    refine (HWi.out).mono ?_
    rintro e w4 ⟨hs4, hb4⟩
    obtain rfl := hs4.no HN.out
    have HI4 := Lib.hid (And.intro ((HI3.out.1.below hb4).more hb4.size) ((HI3.out.2.below hb4).more hb4.size))
    have HB4 := Lib.hid (below2 HB3.out hb4 HB3.out.size)
    clear hs4 hb4
    go_wp2_with fail
    go_at_call 15
    refine (refRight_any A m c _ a w4 HI4.out.1).mono ?_
    rintro e w5 ⟨rfl, hd5⟩
    have hb5 := below_drewn hd5
    have HI5 := Lib.hid ((HI4.out.2.below hb5).more hb5.size)
    have HB5 := Lib.hid (below2 HB4.out hb5 HB4.out.size)
    clear hd5 hb5
    go_wp2_with fail
    go_at_call 15
    refine (refRight_any A' m' c' _ b w5 HI5.out).mono ?_
    rintro e w6 ⟨rfl, hd6⟩
    have HB6 := Lib.hid (below2 HB5.out (below_drewn hd6) HB5.out.size)
    clear hd6
    have hN := HN.out
    generalize isSet a = o at hN ⊢
    generalize isSet b = t at hN ⊢
    cases o <;> cases t
    all_goals first
      | (exfalso; revert hN; decide)
      | (clear hN
         go_wp2
         go_ret
         exact ⟨rfl, HB6.out⟩)
  | true =>
    have hab : isSet a = true ∧ isSet b = true := by simpa using hs
    obtain ⟨A2, n2, c2, rfl, hi2⟩ := hs2.yes hs
    rw [part_minus hab.1 hab.2] at hi2
    have HN := Lib.hid (And.intro hs hab)
    have HU2 := Lib.hid hi2
    clear hs hb2 hs2 hab hi2
    go_wp2_with fail
    go_at_call 22
    refine (HMe.out).mono ?_
    rintro e w3 ⟨hs3, hb3⟩
    obtain ⟨A3, n3, c3, rfl, hi3⟩ := hs3.yes HN.out.1
    rw [part_meet HN.out.2.1 HN.out.2.2] at hi3
    have HU3 := Lib.hid (And.intro hi3 ((HU2.out.below hb3).more hb3.size))
    have HI3 := Lib.hid (And.intro ((HI2.out.1.below hb3).more hb3.size) ((HI2.out.2.below hb3).more hb3.size))
    have HB3 := Lib.hid (below2 HB2.out hb3 HB2.out.size)
    have HWi := Lib.hid (within_any A A' m c m' c' a b w3 HI3.out.1 HI3.out.2)
    clear hs3 hb3 hi3
    go_wp2_with fail
    go_at_call 23
    refine (HWi.out).mono ?_
    rintro e w4 ⟨hs4, hb4⟩
    obtain rfl := hs4.yes HN.out.1
    have HI4 := Lib.hid (And.intro ((HI3.out.1.below hb4).more hb4.size) ((HI3.out.2.below hb4).more hb4.size))
    have HU4 := Lib.hid (And.intro ((HU3.out.1.below hb4).more hb4.size) ((HU3.out.2.below hb4).more hb4.size))
    have HB4 := Lib.hid (below2 HB3.out hb4 HB3.out.size)
    clear hs4 hb4
    go_wp2_with fail
    go_at_call 15
    refine (refRight_any A m c _ a w4 HI4.out.1).mono ?_
    rintro e w5 ⟨rfl, hd5⟩
    rw [HN.out.2.1]
    have hb5 := below_drewn hd5
    have HI5 := Lib.hid (And.intro ((HI4.out.1.below hb5).more hb5.size) ((HI4.out.2.below hb5).more hb5.size))
    have HU5 := Lib.hid (And.intro ((HU4.out.1.below hb5).more hb5.size) ((HU4.out.2.below hb5).more hb5.size))
    have HB5 := Lib.hid (below2 HB4.out hb5 HB4.out.size)
    clear hd5 hb5
    go_wp2_with fail
    go_at_call 15
    refine (refRight_any A' m' c' _ b w5 HI5.out.2).mono ?_
    rintro e w6 ⟨rfl, hd6⟩
    rw [HN.out.2.2]
    have hb6 := below_drewn hd6
    have HI6 := Lib.hid (And.intro ((HI5.out.1.below hb6).more hb6.size) ((HI5.out.2.below hb6).more hb6.size))
    have HU6 := Lib.hid (And.intro ((HU5.out.1.below hb6).more hb6.size) ((HU5.out.2.below hb6).more hb6.size))
    have HB6 := Lib.hid (below2 HB5.out hb6 HB5.out.size)
    clear hd6 hb6
    have hm2 : m ≤ 4398046511104 := by have := isSet_len HN.out.2.1; have := HI6.out.1.1; omega
    have HP := Lib.hid (parts_any A A' m c m' c' a b false w6 HI6.out.1 HI6.out.2 hm2)
    have hsub := sub_part a b
    rw [HU2.out.1] at hsub
    have hsub2 : subB a b = ((n2 : Int) == 0) := by rw [hsub]; by_cases h : n2 = 0 <;> simp [h]
    generalize subB a b = sb at hsub2 ⊢
    have HSub := Lib.hid hsub2
    clear hsub hsub2
    go_wp2_with fail
    go_at_call 24
    refine (HP.out).mono ?_
    rintro e w7 ⟨v, rfl, hown, hb7⟩
    obtain ⟨A7, c7, rfl, hi7⟩ := ints_of_own hown (part_I64 HI6.out.1.2.2.2.1) (by have := HI6.out.1.1; have : (partL a b false).length ≤ a.length := List.length_filter_le _ _; omega)
    have HI7 := Lib.hid (And.intro ((HI6.out.1.below hb7).more hb7.size) ((HI6.out.2.below hb7).more hb7.size))
    have HU7 := Lib.hid (And.intro ((HU6.out.1.below hb7).more hb7.size) ((HU6.out.2.below hb7).more hb7.size))
    have HB7 := Lib.hid (below2 HB6.out hb7 HB6.out.size)
    have HSm := Lib.hid (same_any A2 A7 n2 c2 _ c7 _ _ _ _ w7 HU7.out.2 hi7)
    generalize (partL a b false).length = q at hown HSm ⊢
    clear hown hb7 hi7
    go_wp2_with fail
    go_at_call 18
    refine (HSm.out).mono ?_
    rintro e w8 ⟨rfl, hd8⟩
    have hb8 := below_drewn hd8
    have HI8 := Lib.hid (And.intro ((HI7.out.1.below hb8).more hb8.size) ((HI7.out.2.below hb8).more hb8.size))
    have HU8 := Lib.hid ((HU7.out.1.below hb8).more hb8.size)
    have HB8 := Lib.hid (below2 HB7.out hb8 HB7.out.size)
    have HP8 := Lib.hid (parts_any A A' m c m' c' a b true w8 HI8.out.1 HI8.out.2 hm2)
    clear hd8 hb8
    simp only [decide_true]
    go_wp2_with fail
    go_at_call 24
    refine (HP8.out).mono ?_
    rintro e w9 ⟨v, rfl, hown, hb9⟩
    obtain ⟨A9, c9, rfl, hi9⟩ := ints_of_own hown (part_I64 HI8.out.1.2.2.2.1) (by have := HI8.out.1.1; have : (partL a b true).length ≤ a.length := List.length_filter_le _ _; omega)
    have HB9 := Lib.hid (below2 HB8.out hb9 HB8.out.size)
    have HSm9 := Lib.hid (same_any A3 A9 n3 c3 _ c9 _ _ _ _ w9 (HU8.out.below hb9) hi9)
    generalize (partL a b true).length = q9 at hown HSm9 ⊢
    clear hown hb9 hi9
    go_wp2_with fail
    go_at_call 18
    refine (HSm9.out).mono ?_
    rintro e w10 ⟨rfl, hd10⟩
    have HB10 := Lib.hid (below2 HB9.out (below_drewn hd10) HB9.out.size)
    clear hd10
    simp only [decide_true]
    have hS := HSub.out
    subst hS
    by_cases hz : ((n2 : Int) == 0) = true
    · go_wp2
      go_ret
      exact ⟨rfl, HB10.out⟩
    · have hz' : ((n2 : Int) == 0) = false := by simpa using hz
      clear hz
      go_wp2
      go_ret
      exact ⟨rfl, HB10.out⟩
end Go.Proofs.Ytpfmncdodcbamaa
